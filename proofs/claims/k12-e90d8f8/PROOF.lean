import PyProof.Rows.All
import Wide.All
import OpenK.AllK
import Wide.FinOn
import Lean
import PyProof.EqAt
import PyProof.EqKinds
import PyProof.TupleCall
import KE.KSortTup
import PyProof.TupleKey
import PyProof.DictRoadsH
import KE.KLam
import KE.KNestM
import KE.KDflt
import KE.KMinKey
import PySem.Challenge.RW_figurebook_k12_whole_alike_by_steps
set_option Elab.async false
set_option compiler.extract_closed false
set_option bootstrap.genMatcherCode false
set_option linter.all false
set_option maxRecDepth 100000
namespace L2
open PySem PySem.Spec PyProof.Rows
noncomputable abbrev Key:=Sum Int Str
noncomputable def keyIs:Key->Value->Bool
  | .inl k,v=>Value.isInt k v
  | .inr x,v=>Value.isStrOf x v
noncomputable def keyH (w:World):Key->Int
  | .inl k=>hashInt k
  | .inr x=>hashStr w x
theorem keyIs_shape:∀ {k:Key} {v:Value},keyIs k v=true->(∃ i t,k=Sum.inl i/\v=Value.int i t)\/(∃ x t,k=Sum.inr x/\v=Value.str x t)
  | .inl i,v,h=>by
    obtain ⟨t,e⟩:=Value.isInt_shape (k:=i) (v:=v) h
    exact .inl ⟨i,t,rfl,e⟩
  | .inr x,v,h=>by
    obtain ⟨t,e⟩:=Value.isStrOf_shape (x:=x) (v:=v) h
    exact .inr ⟨x,t,rfl,e⟩
theorem key_ll (a b:Int):decide ((Sum.inl a:Key)=Sum.inl b)=(a == b):=by
  by_cases e:a=b
  . subst e;simp
  . have h:¬ (Sum.inl a:Key)=Sum.inl b:=fun q=>e (Sum.inl.inj q)
    rw [decide_eq_false h]
    exact (beq_eq_false_iff_ne.mpr e).symm
theorem key_rr (a b:Str):decide ((Sum.inr a:Key)=Sum.inr b)=decide (a=b):=by
  by_cases e:a=b
  . subst e;simp
  . have h:¬ (Sum.inr a:Key)=Sum.inr b:=fun q=>e (Sum.inr.inj q)
    rw [decide_eq_false h,decide_eq_false e]
theorem key_lr (a:Int) (b:Str):decide ((Sum.inl a:Key)=Sum.inr b)=false:=decide_eq_false (fun q=>nomatch q)
theorem key_rl (a:Str) (b:Int):decide ((Sum.inr a:Key)=Sum.inl b)=false:=decide_eq_false (fun q=>nomatch q)
noncomputable def mixKind (prog:Program) (w:World):PySem.KeyKind prog w Key where
  is:=keyIs
  hash:=keyH w
  inj := fun v a b ha hb=>by
    rcases keyIs_shape ha with ⟨i,t,rfl,rfl⟩ | ⟨x,t,rfl,rfl⟩
    . rcases keyIs_shape hb with ⟨j,u,rfl,e⟩ | ⟨y,u,rfl,e⟩
      . injection e with e1 _;rw [e1]
      . exact nomatch e
    . rcases keyIs_shape hb with ⟨j,u,rfl,e⟩ | ⟨y,u,rfl,e⟩
      . exact nomatch e
      . injection e with e1 _;rw [e1]
  byValue:=fun k v h=>by
    rcases keyIs_shape h with ⟨i,t,rfl,rfl⟩ | ⟨x,t,rfl,rfl⟩ <;> rfl
  pyHash:=fun hv h=>by
    rcases keyIs_shape hv with ⟨i,t,rfl,rfl⟩ | ⟨x,t,rfl,rfl⟩
    . exact wpAny_pyHash_int h
    . exact wpAny_pyHash_str h
  eqBool:=fun hu hv h=>by
    rcases keyIs_shape hu with ⟨i,t,rfl,rfl⟩ | ⟨x,t,rfl,rfl⟩
    . rcases keyIs_shape hv with ⟨j,u,rfl,rfl⟩ | ⟨y,u,rfl,rfl⟩
      . rw [key_ll] at h;exact wpAny_eqBool_int h
      . rw [key_lr] at h;exact SeqAt.EqAt.int_str i t y u _ _ _ _ h
    . rcases keyIs_shape hv with ⟨j,u,rfl,rfl⟩ | ⟨y,u,rfl,rfl⟩
      . rw [key_rl] at h;exact SeqAt.EqAt.str_int x t j u _ _ _ _ h
      . rw [key_rr] at h;exact wpAny_eqBool_str h
  «strs»:=fun k x t v h=>by
    rcases keyIs_shape h with ⟨i,u,rfl,e⟩ | ⟨y,u,rfl,e⟩
    . exact nomatch e
    . injection e with e1 _
      subst e1
      cases v <;> rfl
end L2
namespace L2
open PySem PySem.Spec PyProof.Rows
inductive V where
  | non | bl (b:Bool) | int (i:Int) | str (x:Str) | byt (b:Array UInt8) | flt (b:UInt64) | ref (a:Addr) | ty (n:String)
  deriving DecidableEq
noncomputable def RelV:V->Value->Prop
  | .non,u=>u=Value.none
  | .bl b,u=>u=Value.bool b
  | .int i,u=>∃ t,u=Value.int i t
  | .str x,u=>∃ t,u=Value.str x t
  | .byt b,u=>∃ t,u=Value.bytes b t
  | .flt b,u=>∃ t,u=Value.float b t
  | .ref a,u=>u=Value.ref a
  | .ty n,u=>u=Value.type n
noncomputable abbrev Vals:List V->List Value->Prop:=Paired RelV
theorem Vals.length {xs:List V} {us:List Value} (r:Vals xs us):xs.length=us.length:=Paired.length r
theorem Vals.get:∀ {xs:List V} {us:List Value} {i:Nat} {x:V},Vals xs us->xs[i]? = some x->∃ u,us[i]? = some u/\RelV x u
  | _,_,_,_,.nil,e=>by simp at e
  | _,_,0,_,.cons r _,e=>by simp at e;subst e;exact ⟨_,rfl,r⟩
  | _, _,i + 1,x,.cons _ t,e=>by
    obtain ⟨u,h1,h2⟩:=Vals.get (i:=i) (x:=x) t (by simpa using e)
    exact ⟨u,by simpa using h1,h2⟩
theorem Vals.append:∀ {xs ys:List V} {us ws:List Value},Vals xs us->Vals ys ws->Vals (xs++ys) (us++ws)
  | _,_,_,_,.nil,s=>s
  | _,_,_,_,.cons r t,s=>.cons r (Vals.append t s)
theorem Vals.take:∀ {xs:List V} {us:List Value} (n:Nat),Vals xs us->Vals (xs.take n) (us.take n)
  | _,_,0,_=>.nil
  | _,_,_ + 1,.nil=>.nil
  | _,_,n + 1,.cons r t=>.cons r (Vals.take n t)
theorem Vals.drop:∀ {xs:List V} {us:List Value} (n:Nat),Vals xs us->Vals (xs.drop n) (us.drop n)
  | _,_,0,r=>r
  | _,_,_ + 1,.nil=>.nil
  | _,_,n + 1,.cons _ t=>Vals.drop n t
theorem Vals.none_of:∀ {xs:List V} {us:List Value} {i:Nat},Vals xs us->xs[i]? = none->us[i]? = none:=fun {xs us i} r e=>by
  have h1:=r.length
  have h2:xs.length<=i:=List.getElem?_eq_none_iff.mp e
  exact List.getElem?_eq_none_iff.mpr (by lia)
noncomputable def RelO:Option V->Option Value->Prop
  | some v,some u=>RelV v u
  | none,none=>True
  | _,_=>False
noncomputable def KV {κ:Type}:List (κ × V)->List (κ × Value)->Prop:=Paired fun (p:κ × V) (q:κ × Value)=>p.1=q.1/\RelV p.2 q.2
noncomputable def kV:Key->V
  | .inl i=>.int i
  | .inr x=>.str x
inductive HO where
  /-- a list -/
  | lst (xs:List V)
  /-- a tuple (never changes) -/
  | tup (xs:List V)
  /-- a dict whose keys are ints and texts;one whose keys are tuples of ints and texts (the empty one is both) -/
  | dK (kvs:List (Key × V)) | dT (kvs:List (List Key × V))
  /-- a set of ints: its members,its size -/
  | set (S:Int->Bool) (n:Nat)
  /-- an instance of the class at C,its dict at dx,its attributes -/
  | ins (C dx:Addr) (fs:List (Str × V))
  /-- the dict of the instance at x -/
  | own (x:Addr)
  /-- the dict of an exception -/
  | xd (fs:List (Str × V))
  /-- a bound method,f of x -/
  | met (f x:Addr)
  /-- a range object lo,lo + 1,.. below hi -/
  | rng (lo hi:Int)
  /-- a thing that is known to the object (the script;a dict while a loop walks it): read,never written while it is so -/
  | frz (o:Obj) (u:HO)
  /-- a code object's table -/
  | tbl (ps:Array Value)
  /-- any other thing,by what is true of its one object (a def of one's own: SetO a S n:=HO.ext fun h=>..) -/
  | ext (φ:Heap->Prop)
noncomputable abbrev Hp:=Addr->Option HO
noncomputable def upd (H:Hp) (a:Addr) (o:HO):Hp:=fun b=>if b=a then some o else H b
theorem upd_same {H:Hp} {a:Addr} {o:HO}:upd H a o a=some o:=by unfold upd;rw [if_pos rfl]
theorem upd_ne {H:Hp} {a b:Addr} {o:HO} (h:b≠a):upd H a o b=H b:=by unfold upd;rw [if_neg h]
theorem ne_of {H:Hp} {a b:Addr} {o u:HO} (h:H a=some o) (h':H b=some u) (d:o≠u):a≠b:=by
  intro e;subst e;rw [h] at h';exact d (Option.some.inj h')
theorem ne_of_none {H:Hp} {a b:Addr} {o:HO} (h:H a=some o) (h':H b=none):a≠b:=by
  intro e;subst e;rw [h] at h';cases h'
section
variable (P:Program) (w:World)
noncomputable def ObjOk (H:Hp) (h:Heap) (a:Addr):HO->Prop
  | .lst xs=>xs.length<=sizeLine/\∃ (its:List Value) (n:Nat),Vals xs its/\h.get? a=some { cls:=.type "list",data:=.seq its.toArray n }
  | .tup xs=>xs.length<=sizeLine/\∃ its:List Value,Vals xs its/\IsTup h a its.toArray
  | .dK kvs=>kvs.length<=sizeLine/\(a == sysModules)=false/\∃ vs,KV kvs vs/\h.DictOf (mixKind P w) a vs
  | .dT kvs=>kvs.length<=sizeLine/\(a == sysModules)=false/\∃ xs:List (List Key × Addr × Value),
      Paired (fun (p:List Key × V) (q:List Key × Addr × Value)=>p.1=q.1/\H q.2.1=some (.tup (p.1.map kV))/\RelV p.2 q.2.2) kvs xs /\
      ∃ o es ep,h.get? a=some o/\o.ExactDict/\o.data=.dict es ep/\es.toList=xs.map (entryOfKey (tupleKind (mixKind P w)))/\(xs.map (·.1)).Nodup
  | .set S n=>h.SetOf (intKind P w) a S n
  | .ins C dx fs=>H dx=some (.own a)/\fs.length<=1000/\dx≠a/\h.get? a=some (PySem.W.instObj C dx) /\
      ∃ mA,h.Ns1 dx mA/\(∀ f,RelO (fs.lookup f) (mA f))/\PySem.Within mA (fs.map (·.1))
  | .own _=>∃ o,h.get? a=some o
  | .xd fs=>∃ mA,h.Ns1 a mA/\∀ f,RelO (fs.lookup f) (mA f)
  | .rng lo hi=>∃ t u v,h.get? a=some { cls:=.type "range",data:=.fields #[.int lo t,.int hi u,.int 1 v] }
  | .frz o u=>h.get? a=some o/\ObjOk H h a u
  | .tbl ps=>h.get? a=some { cls:=.none,data:=.fields ps }
  | .met f x=>h.get? a=some (PySem.W.methodObj (.ref f) (.ref x))
  | .ext φ=>φ h/\(∃ o,h.get? a=some o)/\∀ h1 h2:Heap,φ h1->(∀ o,h1.get? a=some o->h2.get? a=some o)->φ h2
noncomputable def HOk (H:Hp) (h:Heap):Prop:=∀ a o,H a=some o->ObjOk P w H h a o
end
section
variable {P:Program} {w:World} {H H':Hp} {h h':Heap} {a:Addr} {o:HO}
theorem ObjOk.lt (x:ObjOk P w H h a o):a < h.objs.size:=by
  cases o with
  | lst xs=>obtain ⟨_,_,_,_,e⟩:=x;exact Heap.lt_size e
  | tup xs=>obtain ⟨_,_,_,p⟩:=x;exact p.lt
  | dK kvs=>obtain ⟨_,_,_,_,o,_,_,e,_⟩:=x;exact Heap.lt_size e
  | dT kvs=>obtain ⟨_,_,_,_,o,_,_,e,_⟩:=x;exact Heap.lt_size e
  | set S n=>obtain ⟨o,_,_,_,e,_⟩:=x;exact Heap.lt_size e
  | ins C dx fs=>obtain ⟨_,_,_,e,_⟩:=x;exact Heap.lt_size e
  | own y=>obtain ⟨_,e⟩:=x;exact Heap.lt_size e
  | xd fs=>obtain ⟨_,⟨_,_,_,e,_⟩,_⟩:=x;exact Heap.lt_size e
  | rng lo hi=>obtain ⟨_,_,_,e⟩:=x;exact Heap.lt_size e
  | frz ob u=>obtain ⟨e,_⟩:=x;exact Heap.lt_size e
  | tbl ps=>exact Heap.lt_size (show h.get? a=some _ from x)
  | met f y=>exact Heap.lt_size (show h.get? a=some _ from x)
  | ext φ=>obtain ⟨_,⟨_,e⟩,_⟩:=x;exact Heap.lt_size e
theorem Paired.mapP {α β:Type} {F G:α->β->Prop}:∀ {l₁:List α} {l₂:List β},Paired F l₁ l₂->(∀ a b,F a b->G a b)->Paired G l₁ l₂
  | _,_,.nil,_=>.nil
  | _,_,.cons r t,f=>.cons (f _ _ r) (Paired.mapP t f)
theorem ObjOk.stay (x:ObjOk P w H h a o) (k:∀ b u,(b=a\/H b=some (.own a))->h.get? b=some u->h'.get? b=some u)
    (ho:∀ b,H b=some (.own a)->H' b=some (.own a)) (ht:∀ b xs,H b=some (.tup xs)->H' b=some (.tup xs)):ObjOk P w H' h' a o:=by
  induction o with
  | lst xs=>obtain ⟨z,its,n,r,e⟩:=x;exact ⟨z,its,n,r,k _ _ (.inl rfl) e⟩
  | tup xs=>obtain ⟨z,its,r,ob,e,c⟩:=x;exact ⟨z,its,r,ob,k _ _ (.inl rfl) e,c⟩
  | dK kvs=>obtain ⟨z,y,vs,r,ob,es,ep,e,c⟩:=x;exact ⟨z,y,vs,r,ob,es,ep,k _ _ (.inl rfl) e,c⟩
  | dT kvs =>
    obtain ⟨z,y,xs,r,ob,es,ep,e,c⟩:=x
    exact ⟨z,y,xs,Paired.mapP r fun p q z=>⟨z.1,ht _ _ z.2.1,z.2.2⟩,ob,es,ep,k _ _ (.inl rfl) e,c⟩
  | set S n=>obtain ⟨ob,es,ep,t,e,c⟩:=x;exact ⟨ob,es,ep,t,k _ _ (.inl rfl) e,c⟩
  | ins C dx fs =>
    obtain ⟨d,z,ne,e,mA,⟨od,es,ep,e2,c⟩,r⟩:=x
    exact ⟨ho _ d,z,ne,k _ _ (.inl rfl) e,mA,⟨od,es,ep,k _ _ (.inr d) e2,c⟩,r⟩
  | own y=>obtain ⟨ob,e⟩:=x;exact ⟨ob,k _ _ (.inl rfl) e⟩
  | xd fs=>obtain ⟨mA,⟨od,es,ep,e,c⟩,r⟩:=x;exact ⟨mA,⟨od,es,ep,k _ _ (.inl rfl) e,c⟩,r⟩
  | rng lo hi=>obtain ⟨t,u,v,e⟩:=x;exact ⟨t,u,v,k _ _ (.inl rfl) e⟩
  | frz ob u ih=>obtain ⟨e,q⟩:=x;exact ⟨k _ _ (.inl rfl) e,ih q⟩
  | tbl ps =>
    have e:h.get? a=some { cls:=.none,data:=.fields ps }:=x
    show h'.get? a=some { cls:=.none,data:=.fields ps }
    exact k a _ (.inl rfl) e
  | met f y =>
    have e:h.get? a=some (PySem.W.methodObj (.ref f) (.ref y)):=x
    show h'.get? a=some (PySem.W.methodObj (.ref f) (.ref y))
    exact k a _ (.inl rfl) e
  | ext φ=>obtain ⟨p,⟨o,e⟩,st⟩:=x;exact ⟨st _ _ p fun o q=>k _ _ (.inl rfl) q,⟨o,k _ _ (.inl rfl) e⟩,st⟩
theorem HOk.lt (x:HOk P w H h) (e:H a=some o):a < h.objs.size:=(x a o e).lt
theorem HOk.fresh (x:HOk P w H h) (e:h.objs.size<=a):H a=none:=by
  cases q:H a with
  | none=>rfl
  | some u=>exact absurd (Nat.lt_of_lt_of_le (x.lt q) e) (Nat.lt_irrefl _)
theorem HOk.kept (x:HOk P w H h) (k:∀ b u,h.get? b=some u->h'.get? b=some u):HOk P w H h':=fun a o e =>
  (x a o e).stay (fun b u _ q=>k b u q) (fun _ q=>q) fun _ _ q=>q
theorem HOk.laid (x:HOk P w H h) (k:∀ b u,h.get? b=some u->h'.get? b=some u) (hp:h.objs.size<=a) (new:ObjOk P w (upd H a o) h' a o):HOk P w (upd H a o) h':=fun b u e=>by
  have hn:=x.fresh hp
  by_cases hb:b=a
  . subst hb;rw [upd_same] at e;cases e;exact new
  . rw [upd_ne hb] at e
    exact (x b u e).stay (fun c v _ q=>k c v q) (fun c q=>by rw [upd_ne (ne_of_none q hn)];exact q) fun c xs q=>by rw [upd_ne (ne_of_none q hn)];exact q
end
noncomputable def Rd (H:Hp) (a:Addr) (u:HO):Prop:=H a=some u\/∃ o,H a=some (.frz o u)
theorem Rd.ok {P:Program} {w:World} {H:Hp} {h:Heap} {a:Addr} {u:HO} (r:Rd H a u) (x:HOk P w H h):ObjOk P w H h a u:=by
  rcases r with r | ⟨o,r⟩
  . exact x a u r
  . obtain ⟨_,q⟩:=x a _ r
    exact q
noncomputable def Mut:Option HO->Prop
  | some (.lst _)=>True
  | some (.dK _)=>True
  | some (.dT _)=>True
  | some (.set _ _)=>True
  | some (.ins _ _ _)=>True
  | some (.ext _)=>True
  | _=>False
section
variable {P:Program} {w:World} {H:Hp} {h h':Heap} {x e:Addr} {o':HO}
theorem HOk.write (ok:HOk P w H h) (mu:Mut (H x)) (he:e=x\/H e=some (.own x)) (k:∀ b u,b≠e->h.get? b=some u->h'.get? b=some u) (heo:∃ u,h'.get? e=some u)
    (new:ObjOk P w (upd H x o') h' x o'):HOk P w (upd H x o') h':=fun b u q=>by
  have nown:∀ c y,H c=some (.own y)->c≠x:=fun c y r z=>by subst z;rw [r] at mu;exact mu
  have ntup:∀ c xs,H c=some (.tup xs)->c≠x:=fun c xs r z=>by subst z;rw [r] at mu;exact mu
  by_cases hb:b=x
  . subst hb;rw [upd_same] at q;cases q;exact new
  . rw [upd_ne hb] at q
    by_cases hbe:b=e
    . have q':H b=some (.own x):=by
        rcases he with z | z
        . exact absurd (hbe.trans z) hb
        . rw [hbe];exact z
      rw [q] at q';cases q'
      obtain ⟨v,hv⟩:=heo
      exact ⟨v,by rw [hbe];exact hv⟩
    . refine (ok b u q).stay (fun c v hc r=>k c v ?_ r) (fun c r=>by rw [upd_ne (nown c b r)];exact r) fun c xs r=>by rw [upd_ne (ntup c xs r)];exact r
      rcases hc with rfl | hc
      . exact hbe
      . rintro rfl
        rcases he with z | z
        . exact nown c b hc z
        . rw [hc] at z;cases z;exact hb rfl
end
structure Un (fs ex:List Addr) (H H':Hp) (h h':Heap):Prop where
  keep:∀ b o,h.get? b=some o->H b=none->b ∉ fs->b ∉ ex->h'.get? b=some o
  slot:∀ b o,h.get? b=some o->H b=none->b∈fs->b ∉ ex->∃ sl,h'.get? b=some { o with slots:=sl }
  free:∀ b o,h.get? b=some o->H b=none->b ∉ ex->H' b=none
  there:∀ b o,h.get? b=some o->b ∉ ex->∃ o',h'.get? b=some o'
  tups:∀ b xs,H b=some (.tup xs)->H' b=some (.tup xs)
  frzs:∀ b o u,H b=some (.frz o u)->H' b=some (.frz o u)
  tbls:∀ b ps,H b=some (.tbl ps)->∃ more,H' b=some (.tbl (ps++more))
section
variable {fs fs' ex ex':List Addr} {H H1 H2:Hp} {h h1 h2 h':Heap} {a x e:Addr} {o:HO}
theorem Un.any (u:Un fs ex H H1 h h1) {b:Addr} {ob:Obj} (q:h.get? b=some ob) (n:H b=none) (hx:b ∉ ex):∃ sl,h1.get? b=some { ob with slots:=sl }:=by
  by_cases hb:b∈fs
  . exact u.slot b ob q n hb hx
  . exact ⟨ob.slots,u.keep b ob q n hb hx⟩
theorem Un.kept (k:∀ b u,h.get? b=some u->h'.get? b=some u):Un fs ex H H h h' :=
  ⟨fun b ob q _ _ _=>k b ob q,fun b ob q _ _ _=>⟨ob.slots,k b ob q⟩,fun _ _ _ n _=>n,fun b ob q _=>⟨ob,k b ob q⟩,fun _ _ q=>q,fun _ _ _ q=>q,fun _ ps q=>⟨#[],by rw [q];simp⟩⟩
theorem Un.refl:Un fs ex H H h h:=Un.kept fun _ _ q=>q
theorem Un.laid (k:∀ b u,h.get? b=some u->h'.get? b=some u) (hp:h.objs.size<=a) (hn:H a=none):Un fs ex H (upd H a o) h h' where
  keep:=fun b u q _ _ _=>k b u q
  slot:=fun b u q _ _ _=>⟨u.slots,k b u q⟩
  free:=fun b u q n _=>by rw [upd_ne (Nat.ne_of_lt (Nat.lt_of_lt_of_le (Heap.lt_size q) hp))];exact n
  there:=fun b u q _=>⟨u,k b u q⟩
  tups:=fun b xs q=>by rw [upd_ne (ne_of_none q hn)];exact q
  frzs:=fun b u xs q=>by rw [upd_ne (ne_of_none q hn)];exact q
  tbls:=fun b ps q=>⟨#[],by rw [upd_ne (ne_of_none q hn),q];simp⟩
theorem Un.write (mu:Mut (H x)) (he:e=x\/H e=some (.own x)) (k:∀ b u,b≠e->h.get? b=some u->h'.get? b=some u) (heo:∃ u,h'.get? e=some u):Un fs ex H (upd H x o) h h':=by
  have hx:∀ b,H b=none->b≠x:=fun b n z=>by subst z;rw [n] at mu;exact mu
  have hb:∀ b,H b=none->b≠e:=fun b n z=>by
    subst z
    rcases he with r | r
    . exact hx b n r
    . rw [n] at r;cases r
  have hm:∀ b u,H b=some u->¬ Mut (some u)->b≠x:=fun b u q nm z=>by subst z;rw [q] at mu;exact nm mu
  refine ⟨fun b u q n _ _=>k b u (hb b n) q,fun b u q n _ _=>⟨u.slots,k b u (hb b n) q⟩,fun b u q n _=>by rw [upd_ne (hx b n)];exact n,fun b u q _=>?_,
    fun b xs q=>by rw [upd_ne (hm b _ q fun z=>z)];exact q,fun b u xs q=>by rw [upd_ne (hm b _ q fun z=>z)];exact q,fun b ps q=>⟨#[],by rw [upd_ne (hm b _ q fun z=>z),q];simp⟩⟩
  by_cases hbe:b=e
  . subst hbe;exact heo
  . exact ⟨u,k b u hbe q⟩
end
noncomputable def trk (h:Heap) (H:Hp):List Addr:=(List.range h.objs.size).filter fun a=>(H a).isSome
noncomputable def hidT (h:Heap) (H:Hp):Heap:=PySem.W.hideAll h (trk h H)
theorem hidT_size (h:Heap) (H:Hp):(hidT h H).objs.size=h.objs.size:=PySem.W.hideAll_size _ _
theorem hidT_get {h:Heap} {H:Hp} {b:Addr} {o:Obj} (e:h.get? b=some o) (n:H b=none):(hidT h H).get? b=some o :=
  PySem.W.hideAll_get _ e fun hm=>by
    have q:(H b).isSome=true:=(List.mem_filter.mp hm).2
    rw [n] at q;simp at q
theorem of_hidT {h:Heap} {H:Hp} {b:Addr} {o:Obj} (e:(hidT h H).get? b=some o):h.get? b=some o/\H b=none:=by
  have e':h.get? b=some o:=PySem.W.of_hideAll (trk h H) e
  refine ⟨e',?_⟩
  cases q:H b with
  | none=>rfl
  | some x =>
    have hm:b∈trk h H:=List.mem_filter.mpr ⟨List.mem_range.mpr (Heap.lt_size e'),by simp [q]⟩
    have z:(hidT h H).get? b=none:=PySem.W.hideAll_none (trk h H) hm
    rw [z] at e;cases e
noncomputable def allNews (g h:Heap) (L:Addr):List (Addr × Obj):=(List.range h.objs.size).filterMap fun a=>if a=L\/(g.get? a).isSome=true then none else (h.get? a).map fun o=>(a,o)
noncomputable def rest (g h:Heap) (L d:Addr):List (Addr × Obj):=(allNews g h L).filter fun p=>decide (p.1≠d)
end L2
namespace L2
open PySem PySem.Spec PyProof.Rows
structure Mod (K:PySem.W.Frag) (mg:Str->Option Value) (base:Heap):Prop where
  kin:K.In base
  glob:base.Ns mainGlobals mg
  blt:∃ mb,base.Ns builtinsNs mb/\∀ x:Str,x≠"__name__"->mb x=bootBuiltins x
  nolimit:base.NoLimit
structure Cx where
  prog:Program
  w : World
  K : PySem.W.Frag
  mg:Str->Option Value
  base:Heap
  A : Around
  N : List Str
  s₀:Shared
  H₀:Hp
  env:Env
  outer:List Env
  stack:List Env
  ex:List Addr
  fn:Str->Bool
  calm:Bool
  pn:List (Addr × Obj)
  xe:Value->Shared->Prop
noncomputable def frs (l:List Env):List Addr:=l.filterMap (·.frame)
noncomputable abbrev Cx.fs (X:Cx):List Addr:=frs X.outer
noncomputable def Vis (sc:Scope) (x:Str):Prop:=sc.names.lookup x=some .local\/sc.names.lookup x=some .cell\/sc.names.lookup x=some .free
noncomputable def Loc (sc:Scope) (x:Str):Prop:=sc.names.lookup x=some .local\/sc.names.lookup x=some .cell
noncomputable def Look (env:Env) (h:Heap) (m:Str->Option Value) (x:Str) (u:Value):Prop :=
  (env.kindOf x=some .local/\m x=some u)\/((env.kindOf x=some .cell\/env.kindOf x=some .free)/\∃ c,env.cells.lookup x=some c/\h.IsCell c (some u))
structure Cx.Ok (X:Cx):Prop where
  mod:Mod X.K X.mg X.base
  kind:X.env.scope.kind=.function
  glob:X.env.globals=mainGlobals
  blt:X.env.builtins=builtinsNs
  above:X.s₀.heap.objs.size<=X.env.locals
  inj:∀ x y c,X.env.cells.lookup x=some c->X.env.cells.lookup y=some c->x=y
  has:∀ x,(X.env.kindOf x=some .cell\/X.env.kindOf x=some .free)->∃ c,X.env.cells.lookup x=some c
  cab:∀ x c,X.fn x=true->X.env.cells.lookup x=some c->X.s₀.heap.objs.size<=c
  hd:X.calm=true->X.A.handled=none
  frames:X.A.frames=some X.stack
  stk:X.stack=X.outer\/(X.stack=X.env::X.outer/\X.env.frame=some X.env.locals)
  exf:∀ b∈X.ex,b≠X.env.locals/\∀ x c,X.env.cells.lookup x=some c->c≠b
  bs:∀ b o,X.base.get? b=some o->X.s₀.heap.get? b=some o/\X.H₀ b=none
  bsz:X.base.objs.size<=X.s₀.heap.objs.size
  noex:∀ b o,X.base.get? b=some o->b ∉ X.ex
  exfs:∀ b∈X.ex,b ∉ X.fs
  funs:X.s₀.heap.FunFrames X.base X.outer
  frf:∀ b∈X.fs,X.H₀ b=none
structure Inv (X:Cx) (pins:List (Addr × Obj)) (σ:List (Option V)) (H:Hp) (s:Shared):Prop where
  ok:X.Ok
  os:s.os=X.s₀.os
  bare:AllBare s.gens
  base:Un X.fs X.ex X.H₀ H X.s₀.heap s.heap
  loc:∃ m,s.heap.Ns X.env.locals m/\∀ (i:Nat) (x:Str) (v:V),X.N[i]? = some x->σ[i]? = some (some v)->Vis X.env.scope x->∃ u,RelV v u/\Look X.env s.heap m x u
  cell:∀ x c,X.env.cells.lookup x=some c->∃ v,s.heap.IsCell c v
  free:H X.env.locals=none
  freeC:∀ x c,X.env.cells.lookup x=some c->H c=none
  pin:∀ p∈X.pn++pins,s.heap.get? p.1=some p.2/\H p.1=none/\p.1≠X.env.locals/\p.1 ∉ X.fs/\∀ v,p.2.data≠.cell v
  hok:HOk X.prog X.w H s.heap
  len:σ.length=X.N.length
section
variable {X:Cx} {pins:List (Addr × Obj)} {σ:List (Option V)} {H H':Hp} {s:Shared} {h':Heap}
theorem Cx.Ok.nofr (ok:X.Ok) {b:Addr} {o:Obj} (e:X.base.get? b=some o):b ∉ X.fs:=fun hb=>by
  have:=(ok.funs.mem hb).1
  rw [e] at this;cases this
theorem Inv.bs (I:Inv X pins σ H s):∀ b o,X.base.get? b=some o->s.heap.get? b=some o/\H b=none:=fun b o e =>
  ⟨I.base.keep b o (I.ok.bs b o e).1 (I.ok.bs b o e).2 (I.ok.nofr e) (I.ok.noex b o e),I.base.free b o (I.ok.bs b o e).1 (I.ok.bs b o e).2 (I.ok.noex b o e)⟩
theorem Inv.bk (I:Inv X pins σ H s):∀ b o,X.base.get? b=some o->s.heap.get? b=some o:=fun b o e=>(I.bs b o e).1
theorem Inv.mod (I:Inv X pins σ H s):Mod X.K X.mg X.base:=I.ok.mod
theorem Inv.kIn (I:Inv X pins σ H s):X.K.In s.heap:=I.ok.mod.kin.keeps I.bk
theorem Inv.lt (I:Inv X pins σ H s):X.env.locals < s.heap.objs.size:=let ⟨_,hn,_⟩:=I.loc;hn.lt
theorem Inv.sz (I:Inv X pins σ H s):X.s₀.heap.objs.size<=s.heap.objs.size:=Nat.le_trans I.ok.above (Nat.le_of_lt I.lt)
theorem Inv.nofs (I:Inv X pins σ H s) {a:Addr} (h:s.heap.objs.size<=a):a ∉ X.fs:=fun hb=>by
  obtain ⟨_,o,ho,_⟩:=I.ok.funs.mem hb
  exact absurd (Nat.lt_of_lt_of_le (Heap.lt_size ho) (Nat.le_trans I.sz h)) (Nat.lt_irrefl _)
theorem Inv.cne (I:Inv X pins σ H s):∀ x c,X.env.cells.lookup x=some c->c≠X.env.locals:=fun x c e z=>by
  obtain ⟨v,o,ho,hd⟩:=I.cell x c e
  obtain ⟨m,⟨o',es,ep,ho',hd',_⟩,_⟩:=I.loc
  rw [z,ho'] at ho;cases ho;rw [hd'] at hd;cases hd
theorem Inv.funs (I:Inv X pins σ H s):s.heap.FunFrames X.base X.outer:=by
  have all:∀ (l:List Env),(∀ b∈frs l,b∈X.fs)->X.s₀.heap.FunFrames X.base l->s.heap.FunFrames X.base l:=by
    intro l
    induction l with
    | nil=>intro _ _;trivial
    | cons env r ih =>
      intro hs hl
      obtain ⟨hk,⟨L,o,hf,hn,ho,hd⟩,hr⟩:=hl
      have hL:L∈X.fs:=hs L (by unfold frs;rw [List.filterMap_cons,hf];exact List.mem_cons_self)
      obtain ⟨sl,e⟩:=I.base.slot L o ho (I.ok.frf L hL) hL fun z=>I.ok.exfs L z hL
      exact ⟨hk,⟨L,_,hf,hn,e,hd⟩,ih (fun b hb=>hs b (by unfold frs;rw [List.filterMap_cons,hf];exact List.mem_cons_of_mem _ hb)) hr⟩
  exact all X.outer (fun _ hb=>hb) I.ok.funs
theorem Inv.stack (I:Inv X pins σ H s):s.heap.FunFrames X.base X.stack:=by
  rcases I.ok.stk with e | ⟨e,hf⟩
  . rw [e];exact I.funs
  . rw [e]
    obtain ⟨m,hn,_⟩:=I.loc
    refine .cons (by rw [I.ok.kind];decide) hf hn ?_ I.funs
    exact Heap.get?_none_of_le (Nat.le_trans I.ok.bsz I.ok.above)
theorem Inv.stkSub (I:Inv X pins σ H s):∀ b∈frs X.stack,b∈X.env.locals::X.fs:=fun b hb=>by
  rcases I.ok.stk with e | ⟨e,hf⟩
  . rw [e] at hb;exact List.mem_cons_of_mem _ hb
  . rw [e] at hb
    unfold frs at hb
    rw [List.filterMap_cons,hf] at hb
    exact hb
theorem Inv.stkFree (I:Inv X pins σ H s):∀ b∈frs X.stack,H b=none:=fun b hb=>by
  rcases List.mem_cons.mp (I.stkSub b hb) with e | hb
  . rw [e];exact I.free
  . obtain ⟨_,o,ho,_⟩:=I.ok.funs.mem hb
    exact I.base.free b o ho (I.ok.frf b hb) fun z=>I.ok.exfs b z hb
theorem Inv.step {g':Array GenState} {t':Nat} {d':Drawn} {ch:List Addr} (I:Inv X pins σ H s)
    (hch:∀ b∈ch,(b∈X.ex\/X.s₀.heap.objs.size<=b)/\b≠X.env.locals/\(∀ x c,X.env.cells.lookup x=some c->c≠b)/\∀ p∈X.pn++pins,p.1≠b)
    (keep:∀ b o,b≠X.env.locals->b ∉ X.fs->b ∉ ch->s.heap.get? b=some o->H b=none->h'.get? b=some o)
    (slot:∀ b o,b≠X.env.locals->b∈X.fs->b ∉ ch->s.heap.get? b=some o->H b=none->∃ sl,h'.get? b=some { o with slots:=sl }) (free:∀ b o,b ∉ ch->s.heap.get? b=some o->H b=none->H' b=none)
    (there:∀ b o,b ∉ ch->s.heap.get? b=some o->∃ o',h'.get? b=some o')
    (tups:∀ b xs,H b=some (.tup xs)->H' b=some (.tup xs)) (frzs:∀ b o u,H b=some (.frz o u)->H' b=some (.frz o u)) (tbls:∀ b ps,H b=some (.tbl ps)->∃ more,H' b=some (.tbl (ps++more)))
    (ns:∀ m,s.heap.Ns X.env.locals m->h'.Ns X.env.locals m) (hok:HOk X.prog X.w H' h') (hg:AllBare g') :
    Inv X pins σ H' { s with heap:=h',gens:=g',drawn:=d',toks:=t' }:=by
  have neL:∀ b o,X.s₀.heap.get? b=some o->b≠X.env.locals:=fun b o e=>Nat.ne_of_lt (Nat.lt_of_lt_of_le (Heap.lt_size e) I.ok.above)
  have neC:∀ b o,X.s₀.heap.get? b=some o->b ∉ X.ex->b ∉ ch:=fun b o e hx hb=>by
    rcases (hch b hb).1 with z | z
    . exact hx z
    . exact absurd (Nat.lt_of_lt_of_le (Heap.lt_size e) z) (Nat.lt_irrefl _)
  have cellK:∀ x c,X.env.cells.lookup x=some c->∀ v,s.heap.IsCell c v->h'.IsCell c v:=fun x c e v hq0=>by
    obtain ⟨o,ho,hd⟩:=hq0
    have nch:c ∉ ch:=fun z=>(hch c z).2.2.1 x c e rfl
    by_cases hc:c∈X.fs
    . obtain ⟨sl,q⟩:=slot c o (I.cne x c e) hc nch ho (I.freeC x c e)
      exact ⟨_,q,hd⟩
    . exact ⟨o,keep c o (I.cne x c e) hc nch ho (I.freeC x c e),hd⟩
  refine ⟨I.ok,I.os,hg,⟨fun b o e n hb hx=>?_,fun b o e n hb hx=>?_,fun b o e n hx=>?_,fun b o e hx=>?_,fun b xs e=>tups b xs (I.base.tups b xs e),fun b o xs e=>frzs b o xs (I.base.frzs b o xs e),fun b ps e=>?_⟩,?_,fun x c e=>?_,?_,fun x c e=>?_,fun p hp=>?_,hok,I.len⟩
  . exact keep b o (neL b o e) hb (neC b o e hx) (I.base.keep b o e n hb hx) (I.base.free b o e n hx)
  . obtain ⟨sl,e1⟩:=I.base.slot b o e n hb hx
    obtain ⟨sl',e2⟩:=slot b _ (neL b o e) hb (neC b o e hx) e1 (I.base.free b o e n hx)
    exact ⟨sl',e2⟩
  . obtain ⟨o',e1⟩:=I.base.there b o e hx
    exact free b o' (neC b o e hx) e1 (I.base.free b o e n hx)
  . obtain ⟨o',e1⟩:=I.base.there b o e hx
    exact there b o' (neC b o e hx) e1
  . obtain ⟨m1,e1⟩:=I.base.tbls b ps e
    obtain ⟨m2,e2⟩:=tbls b _ e1
    exact ⟨m1++m2,by rw [e2,Array.append_assoc]⟩
  . obtain ⟨m,hn,hl⟩:=I.loc
    refine ⟨m,ns m hn,fun i x v e1 e2 e3=>?_⟩
    obtain ⟨u,r,l⟩:=hl i x v e1 e2 e3
    refine ⟨u,r,?_⟩
    rcases l with l | ⟨k,c,e,z⟩
    . exact .inl l
    . exact .inr ⟨k,c,e,cellK x c e _ z⟩
  . obtain ⟨v,z⟩:=I.cell x c e
    exact ⟨v,cellK x c e v z⟩
  . obtain ⟨m,⟨o,_,_,ho,_⟩,_⟩:=I.loc
    exact free _ o (fun z=>(hch _ z).2.1 rfl) ho I.free
  . obtain ⟨v,o,ho,hd⟩:=I.cell x c e
    exact free c o (fun z=>(hch c z).2.2.1 x c e rfl) ho (I.freeC x c e)
  . obtain ⟨e,n,ne,nf,d⟩:=I.pin p hp
    have nch:p.1 ∉ ch:=fun z=>(hch p.1 z).2.2.2 p hp rfl
    exact ⟨keep p.1 p.2 ne nf nch e n,free p.1 p.2 nch e n,ne,nf,d⟩
theorem Inv.un {t':Nat} (I:Inv X pins σ H s) (u:Un X.fs [] H H' s.heap h') (hok:HOk X.prog X.w H' h'):Inv X pins σ H' { s with heap:=h',toks:=t' }:=by
  obtain ⟨m,⟨o,es,ep,ho,r⟩,_⟩:=id I.loc
  obtain ⟨sl,hL⟩:=u.any ho I.free (by simp)
  exact I.step (g':=s.gens) (d':=s.drawn) (ch:=[]) (fun _ z=>nomatch z) (fun b o _ hb _ e n=>u.keep b o e n hb (by simp)) (fun b o _ hb _ e n=>u.slot b o e n hb (by simp)) (fun b o _ e n=>u.free b o e n (by simp)) (fun b o _ e=>u.there b o e (by simp)) u.tups u.frzs u.tbls (fun m' hm=>by
    obtain ⟨o',es',ep',ho',r'⟩:=hm
    rw [ho] at ho';cases ho'
    exact ⟨_,es',ep',hL,r'⟩) hok I.bare
theorem Inv.call {g':Array GenState} {t':Nat} {d':Drawn} {ch:List Addr} (I:Inv X pins σ H s) (u:Un (frs X.stack) ch H H' s.heap h') (hok:HOk X.prog X.w H' h') (hg:AllBare g')
    (hch:∀ b∈ch,(b∈X.ex\/X.s₀.heap.objs.size<=b)/\b≠X.env.locals/\(∀ x c,X.env.cells.lookup x=some c->c≠b)/\∀ p∈X.pn++pins,p.1≠b) :
    Inv X pins σ H' { s with heap:=h',gens:=g',drawn:=d',toks:=t' }:=by
  obtain ⟨m,⟨o,es,ep,ho,r⟩,_⟩:=id I.loc
  obtain ⟨sl,hL⟩:=u.any ho I.free fun z=>(hch _ z).2.1 rfl
  exact I.step (ch:=ch) hch (fun b o hL hb hc e n=>u.keep b o e n (fun z=>(List.mem_cons.mp (I.stkSub b z)).elim hL hb) hc) (fun b o _ _ hc e n=>u.any e n hc) (fun b o hc e n=>u.free b o e n hc) (fun b o hc e=>u.there b o e hc) u.tups u.frzs u.tbls (fun m' hm=>by
    obtain ⟨o',es',ep',ho',r'⟩:=hm
    rw [ho] at ho';cases ho'
    exact ⟨_,es',ep',hL,r'⟩) hok hg
theorem Inv.turned {t':Nat} {it:Addr} (I:Inv X pins σ H s) (k:∀ b o,b≠it->s.heap.get? b=some o->h'.get? b=some o) (hn:H it=none) (hL:it≠X.env.locals)
    (h1:it∈X.ex\/X.s₀.heap.objs.size<=it) (h2:∀ x c,X.env.cells.lookup x=some c->c≠it) (h3:∀ p∈X.pn++pins,p.1≠it):Inv X pins σ H { s with heap:=h',toks:=t' }:=by
  have nit:∀ b u,H b=some u->b≠it:=fun b u e z=>by rw [z,hn] at e;cases e
  refine I.step (g':=s.gens) (d':=s.drawn) (ch:=[it]) (fun b hb=>?_) (fun b o _ _ hc e _=>k b o (fun z=>hc (by simp [z])) e) (fun b o _ _ hc e _=>⟨o.slots,k b o (fun z=>hc (by simp [z])) e⟩) (fun _ _ _ _ n=>n)
    (fun b o hc e=>⟨o,k b o (fun z=>hc (by simp [z])) e⟩) (fun _ _ e=>e) (fun _ _ _ e=>e) (fun b ps e=>⟨#[],by rw [e];simp⟩) (fun m hm=>?_) (fun b u e=>?_) I.bare
  . have e:b=it:=by simpa using hb
    subst e
    exact ⟨h1,hL,h2,h3⟩
  . obtain ⟨o,es,ep,ho,r⟩:=hm
    exact ⟨o,es,ep,k _ o (Ne.symm hL) ho,r⟩
  . refine (I.hok b u e).stay (fun c v hc q=>k c v ?_ q) (fun _ q=>q) fun _ _ q=>q
    rcases hc with z | z
    . rw [z];exact nit b u e
    . exact nit c _ z
theorem Inv.tok (I:Inv X pins σ H s) (t:Nat):Inv X pins σ H { s with toks:=t }:=I.un (h':=s.heap) (t':=t) Un.refl I.hok
theorem Inv.kept {t':Nat} (I:Inv X pins σ H s) (k:∀ b u,s.heap.get? b=some u->h'.get? b=some u):Inv X pins σ H { s with heap:=h',toks:=t' }:=I.un (Un.kept k) (I.hok.kept k)
theorem Inv.laid {a:Addr} {o:HO} {t':Nat} (I:Inv X pins σ H s) (k:∀ b u,s.heap.get? b=some u->h'.get? b=some u) (hp:s.heap.objs.size<=a) (new:ObjOk X.prog X.w (upd H a o) h' a o) :
    Inv X pins σ (upd H a o) { s with heap:=h',toks:=t' }:=I.un (Un.laid k hp (I.hok.fresh hp)) (I.hok.laid k hp new)
theorem Inv.write {x e:Addr} {o:HO} {t':Nat} (I:Inv X pins σ H s) (mu:Mut (H x)) (he:e=x\/H e=some (.own x)) (k:∀ b u,b≠e->s.heap.get? b=some u->h'.get? b=some u) (heo:∃ u,h'.get? e=some u)
    (new:ObjOk X.prog X.w (upd H x o) h' x o):Inv X pins σ (upd H x o) { s with heap:=h',toks:=t' }:=I.un (Un.write mu he k heo) (I.hok.write mu he k heo new)
theorem Inv.pins_of {pins':List (Addr × Obj)} (I:Inv X pins σ H s) (h:∀ p∈pins',s.heap.get? p.1=some p.2/\H p.1=none/\p.1≠X.env.locals/\p.1 ∉ X.fs/\∀ v,p.2.data≠.cell v):Inv X pins' σ H s :=
  ⟨I.ok,I.os,I.bare,I.base,I.loc,I.cell,I.free,I.freeC,fun p hp=>(List.mem_append.mp hp).elim (fun z=>I.pin p (List.mem_append_left _ z)) (h p),I.hok,I.len⟩
theorem nodup_ix {N:List Str} (hN:N.Nodup) {i j:Nat} {x:Str} (a:N[i]? = some x) (b:N[j]? = some x):i=j:=by
  obtain ⟨h1,e1⟩:=List.getElem?_eq_some_iff.mp a
  obtain ⟨h2,e2⟩:=List.getElem?_eq_some_iff.mp b
  exact (List.getElem_inj hN).mp (e1.trans e2.symm)
theorem store_ok2 {M:Model} {A:Around} {E:Value->Shared->Prop} {i:Nat} {x:Str} {v:V} {u:Value} {Q:Unit->Shared->Prop} (I:Inv X pins σ H s) (hN:X.N.Nodup) (hi:X.N[i]? = some x) (hx:Loc X.env.scope x) (r:RelV v u)
    (h:∀ s',Inv X pins (σ.set i (some v)) H s'->(∃ a,Heap.SameBut a s.heap s'.heap/\(a=X.env.locals\/X.env.cells.lookup x=some a))->Q () s') (hf:X.fn x=true\/X.env.scope.names.lookup x=some .local:=by first | exact .inl rfl | exact .inr rfl | assumption):wpAny M A (storeName X.env x u) Q E s:=by
  obtain ⟨m,hn,hl⟩:=id I.loc
  have hcls:(X.env.scope.kind == .class || (X.env.scope.kind == .module && X.env.locals != X.env.globals))=false:=by rw [I.ok.kind];rfl
  have hiσ:i < σ.length:=by rw [I.len];exact (List.getElem?_eq_some_iff.mp hi).1
  have cne:=I.cne
  have tracked:∀ {a:Addr} {h':Heap},(∃ o,s.heap.get? a=some o/\H a=none)->Heap.SameBut a s.heap h'->HOk X.prog X.w H h':=fun {a h'} ha hs b ob e=>by
    obtain ⟨_,_,hfree⟩:=ha
    refine (I.hok b ob e).stay (fun c w' hc q=>(hs.2 c ?_).trans q) (fun _ q=>q) fun _ _ q=>q
    rintro rfl
    rcases hc with rfl | hc
    . rw [hfree] at e;cases e
    . rw [hfree] at hc;cases hc
  rcases hx with hk | hk
  . refine wpAny_storeName_local hk hn (fun h' hn' hs=>?_) hcls
    obtain ⟨oL,_,_,hoL,_⟩:=id hn
    refine h _ ⟨I.ok,I.os,I.bare,⟨fun b o e n hb hx=>?_,fun b o e n hb hx=>?_,I.base.free,fun b o e hx=>?_,I.base.tups,I.base.frzs,I.base.tbls⟩,⟨_,hn',fun j y v' e1 e2 e3=>?_⟩,fun y c e=>?_,I.free,I.freeC,fun p hp=>?_,tracked ⟨oL,hoL,I.free⟩ hs,by simpa using I.len⟩ ⟨_,hs,.inl rfl⟩
    . exact (hs.2 b (Nat.ne_of_lt (Nat.lt_of_lt_of_le (Heap.lt_size e) I.ok.above))).trans (I.base.keep b o e n hb hx)
    . obtain ⟨sl,e1⟩:=I.base.slot b o e n hb hx
      exact ⟨sl,(hs.2 b (Nat.ne_of_lt (Nat.lt_of_lt_of_le (Heap.lt_size e) I.ok.above))).trans e1⟩
    . obtain ⟨o',e1⟩:=I.base.there b o e hx
      exact ⟨o',(hs.2 b (Nat.ne_of_lt (Nat.lt_of_lt_of_le (Heap.lt_size e) I.ok.above))).trans e1⟩
    . by_cases hj:j=i
      . subst hj
        rw [hi] at e1;cases e1
        rw [List.getElem?_set_self hiσ] at e2
        cases e2
        exact ⟨u,r,.inl ⟨hk,by simp⟩⟩
      . rw [List.getElem?_set_ne (Ne.symm hj)] at e2
        obtain ⟨u',r',q⟩:=hl j y v' e1 e2 e3
        refine ⟨u',r',?_⟩
        rcases q with ⟨k,e⟩ | ⟨k,c,e,z⟩
        . refine .inl ⟨k,?_⟩
          have:y≠x:=fun e=>hj (nodup_ix hN e1 (e ▸ hi))
          simp [this,e]
        . exact .inr ⟨k,c,e,z.sameBut hs (cne y c e)⟩
    . obtain ⟨w',z⟩:=I.cell y c e
      exact ⟨w',z.sameBut hs (cne y c e)⟩
    . obtain ⟨e,n,ne,nf,d⟩:=I.pin p hp
      exact ⟨(hs.2 p.1 ne).trans e,n,ne,nf,d⟩
  . have hfn:X.fn x=true:=by
      rcases hf with z | z
      . exact z
      . rw [z] at hk;cases hk
    obtain ⟨c,hc⟩:=I.ok.has x (.inl hk)
    obtain ⟨w',z⟩:=I.cell x c hc
    refine wpAny_storeName_cell I.ok.kind hk hc z (fun h' hc' hs=>?_)
    obtain ⟨oc,hoc,hocd⟩:=id z
    refine h { s with heap:=h' } ⟨I.ok,I.os,I.bare,⟨fun b o e n hb hx=>?_,fun b o e n hb hx=>?_,I.base.free,fun b o e hx=>?_,I.base.tups,I.base.frzs,I.base.tbls⟩,⟨m,hn.sameBut hs (Ne.symm (cne x c hc)),fun j y v' e1 e2 e3=>?_⟩,fun y c' e=>?_,I.free,I.freeC,fun p hp=>?_,tracked ⟨oc,hoc,I.freeC x c hc⟩ hs,by simpa using I.len⟩ ⟨c,hs,.inr hc⟩
    . exact (hs.2 b (Nat.ne_of_lt (Nat.lt_of_lt_of_le (Heap.lt_size e) (I.ok.cab x c hfn hc)))).trans (I.base.keep b o e n hb hx)
    . obtain ⟨sl,e1⟩:=I.base.slot b o e n hb hx
      exact ⟨sl,(hs.2 b (Nat.ne_of_lt (Nat.lt_of_lt_of_le (Heap.lt_size e) (I.ok.cab x c hfn hc)))).trans e1⟩
    . obtain ⟨o',e1⟩:=I.base.there b o e hx
      exact ⟨o',(hs.2 b (Nat.ne_of_lt (Nat.lt_of_lt_of_le (Heap.lt_size e) (I.ok.cab x c hfn hc)))).trans e1⟩
    . by_cases hj:j=i
      . subst hj
        rw [hi] at e1;cases e1
        rw [List.getElem?_set_self hiσ] at e2
        cases e2
        exact ⟨u,r,.inr ⟨.inl hk,c,hc,hc'⟩⟩
      . rw [List.getElem?_set_ne (Ne.symm hj)] at e2
        obtain ⟨u',r',q⟩:=hl j y v' e1 e2 e3
        refine ⟨u',r',?_⟩
        rcases q with q | ⟨k,c',e,z'⟩
        . exact .inl q
        . refine .inr ⟨k,c',e,z'.sameBut hs ?_⟩
          rintro rfl
          exact hj (nodup_ix hN e1 (I.ok.inj _ _ _ e hc ▸ hi))
    . by_cases hcc:c'=c
      . subst hcc;exact ⟨_,hc'⟩
      . obtain ⟨w2,z2⟩:=I.cell y c' e
        exact ⟨w2,z2.sameBut hs hcc⟩
    . obtain ⟨e,n,ne,nf,d⟩:=I.pin p hp
      refine ⟨(hs.2 p.1 ?_).trans e,n,ne,nf,d⟩
      intro q
      rw [q,hoc] at e
      have q':oc=p.2:=Option.some.inj e
      exact d w' (by rw [<- q'];exact hocd)
theorem store_ok {M:Model} {A:Around} {E:Value->Shared->Prop} {i:Nat} {x:Str} {v:V} {u:Value} {Q:Unit->Shared->Prop} (I:Inv X pins σ H s) (hN:X.N.Nodup) (hi:X.N[i]? = some x) (hx:Loc X.env.scope x) (r:RelV v u)
    (h:∀ s',Inv X pins (σ.set i (some v)) H s'->Q () s') (hf:X.fn x=true\/X.env.scope.names.lookup x=some .local:=by first | exact .inl rfl | exact .inr rfl | assumption):wpAny M A (storeName X.env x u) Q E s :=
  store_ok2 I hN hi hx r (fun s' I' _=>h s' I') hf
theorem Inv.call' {s':Shared} {ch:List Addr} (I:Inv X pins σ H s) (ho:s'.os=s.os) (u:Un (frs X.stack) ch H H' s.heap s'.heap) (hok:HOk X.prog X.w H' s'.heap) (hg:AllBare s'.gens)
    (hch:∀ b∈ch,(b∈X.ex\/X.s₀.heap.objs.size<=b)/\b≠X.env.locals/\(∀ x c,X.env.cells.lookup x=some c->c≠b)/\∀ p∈X.pn++pins,p.1≠b):Inv X pins σ H' s':=by
  obtain ⟨h',g',d',t',o'⟩:=s'
  have e:o'=s.os:=ho
  subst e
  exact I.call (g':=g') (t':=t') (d':=d') u hok hg hch
end
noncomputable abbrev XK:=Value->Option Addr->Hp->Prop
noncomputable abbrev St:=List (Option V)
noncomputable abbrev VK:=V->Hp->Prop
noncomputable abbrev TE:=St->Hp->VK->Prop
noncomputable abbrev TT:=St->Hp->(Bool->Hp->Prop)->Prop
noncomputable abbrev TA:=St->Hp->(List V->Hp->Prop)->Prop
structure Ends where
  nx:St->Hp->Prop
  rt:VK
  bk:St->Hp->Prop:=fun _ _=>False
  ct:St->Hp->Prop:=fun _ _=>False
noncomputable abbrev TS:=Ends->St->Hp->Prop
noncomputable def EP (X:Cx) (pins:List (Addr × Obj)) (σ:St) (Q:VK) (u:Value) (s':Shared):Prop:=∃ v H',Inv X pins σ H' s'/\RelV v u/\Q v H'
noncomputable def TP (X:Cx) (pins:List (Addr × Obj)) (σ:St) (Q:Bool->Hp->Prop) (b:Bool) (s':Shared):Prop:=∃ H',Inv X pins σ H' s'/\Q b H'
noncomputable def AP (X:Cx) (pins:List (Addr × Obj)) (σ:St) (Q:List V->Hp->Prop) (us:List Value) (s':Shared):Prop:=∃ vs H',Inv X pins σ H' s'/\Vals vs us/\Q vs H'
noncomputable def SP (X:Cx) (pins:List (Addr × Obj)) (D:Ends) (f:Flow) (s':Shared):Prop :=
  match f with
  | .next=>∃ σ' H',Inv X pins σ' H' s'/\D.nx σ' H'
  | .brk=>∃ σ' H',Inv X pins σ' H' s'/\D.bk σ' H'
  | .cont=>∃ σ' H',Inv X pins σ' H' s'/\D.ct σ' H'
  | .ret u=>∃ v σ' H',Inv X pins σ' H' s'/\RelV v u/\D.rt v H'
noncomputable def PE (X:Cx) (e:Expr) (t:TE):Prop :=
  ∀ (pins:List (Addr × Obj)) (s:Shared) (σ:St) (H:Hp) (Q:VK),Inv X pins σ H s->t σ H Q->wpAny (model X.prog X.w) X.A (eval e X.env) (EP X pins σ Q) X.xe s
noncomputable def PT (X:Cx) (e:Expr) (t:TT):Prop :=
  ∀ (pins:List (Addr × Obj)) (s:Shared) (σ:St) (H:Hp) (Q:Bool->Hp->Prop),Inv X pins σ H s->t σ H Q->wpAny (model X.prog X.w) X.A (isTrue e X.env (eval e X.env)) (TP X pins σ Q) X.xe s
noncomputable def PW (X:Cx) (e:Expr) (t:TT):Prop :=
  ∀ (whole:Sem Value) (pins:List (Addr × Obj)) (s:Shared) (σ:St) (H:Hp) (Q:Bool->Hp->Prop),Inv X pins σ H s->t σ H Q->wpAny (model X.prog X.w) X.A (isTrue e X.env whole) (TP X pins σ Q) X.xe s
theorem PW.pt {X:Cx} {e:Expr} {t:TT} (h:PW X e t):PT X e t:=h _
noncomputable def PA (X:Cx) (es:List Expr) (t:TA):Prop :=
  ∀ (pos:Pos) (pins:List (Addr × Obj)) (s:Shared) (σ:St) (H:Hp) (Q:List V->Hp->Prop),Inv X pins σ H s->t σ H Q->wpAny (model X.prog X.w) X.A (spliced (backTo pos (starEach es X.env))) (AP X pins σ Q) X.xe s
noncomputable def PS (X:Cx) (st:Stmt) (t:TS):Prop :=
  ∀ (pins:List (Addr × Obj)) (s:Shared) (σ:St) (H:Hp) (D:Ends),Inv X pins σ H s->t D σ H->wpAny (model X.prog X.w) X.A (exec st X.env) (SP X pins D) X.xe s
noncomputable def PSs (X:Cx) (st:List Stmt) (t:TS):Prop :=
  ∀ (pins:List (Addr × Obj)) (s:Shared) (σ:St) (H:Hp) (D:Ends),Inv X pins σ H s->t D σ H->wpAny (model X.prog X.w) X.A (execs st X.env) (SP X pins D) X.xe s
theorem thn {α:Type} {t:Sem α} {Q Q':α->Shared->Prop} {M:Model} {A:Around} {E:Value->Shared->Prop} {s:Shared} (h:wpAny M A t Q E s) (hQ:∀ a s,Q a s->Q' a s):wpAny M A t Q' E s:=wpAny_mono h hQ fun _ _ x=>x
end L2
namespace L2
open PySem PySem.Spec PyProof.Rows
section
variable {X:Cx}
theorem bin {a b:Expr} {ta tb:TE} (ha:PE X a ta) (hb:PE X b tb) {pins:List (Addr × Obj)} {s:Shared} {σ:St} {H:Hp} {R:V->V->Hp->Prop} (I:Inv X pins σ H s) (h:ta σ H fun x H1=>tb σ H1 fun y H2=>R x y H2)
    {α:Type} {Q:α->Shared->Prop} {f:Value->Value->Sem α}
    (hf:∀ v u s2 x y H2,Inv X pins σ H2 s2->RelV x v->RelV y u->R x y H2->wpAny (model X.prog X.w) X.A (f v u) Q X.xe s2) :
    wpAny (model X.prog X.w) X.A (eval a X.env) (fun v s₁=>wpAny (model X.prog X.w) X.A (eval b X.env) (fun u s₂=>wpAny (model X.prog X.w) X.A (f v u) Q X.xe s₂) X.xe s₁) X.xe s:=by
  refine thn (ha pins s σ H _ I h) fun v s1 h_q=>?_
  obtain ⟨x,H1,I1,r1,q1⟩:=h_q
  refine thn (hb pins s1 σ H1 _ I1 q1) fun u s2 h_q=>?_
  obtain ⟨y,H2,I2,r2,q2⟩:=h_q
  exact hf v u s2 x y H2 I2 r1 r2 q2
noncomputable def tVar (i:Nat):TE:=fun σ H Q=>∃ v,σ[i]? = some (some v)/\Q v H
noncomputable def tC (v:V):TE:=fun _ H Q=>Q v H
theorem pe_var {i:Nat} {x:Str} {pos:Pos} (hN:X.N[i]? = some x) (hv:Vis X.env.scope x) (hd:(x == ("__debug__":Str))=false:=by decide) (hcd:(x == ("__classdict__":Str))=false:=by decide):PE X (.Name x pos) (tVar i):=by
  intro pins s σ H Q I h
  obtain ⟨v,e,h⟩:=h
  obtain ⟨m,hn,hl⟩:=I.loc
  obtain ⟨u,r,l⟩:=hl i x v hN e hv
  have fin:EP X pins σ Q u s:=⟨v,H,I,r,h⟩
  rcases l with ⟨hk,hm⟩ | ⟨hk,c,hc,hcell⟩
  . exact wpAny_Name (wpAny_loadName_local I.ok.kind hk hn hm fin) hd
  . rcases hk with hk | hk
    . exact wpAny_Name (wpAny_loadName_cell I.ok.kind hk hc hcell fin) hd
    . exact wpAny_Name (wpAny_loadName_free I.ok.kind hk hc hcell fin hcd) hd
theorem pe_int {i j pos}:PE X (.Constant (.int i) j pos) (tC (.int i)):=fun _ _ _ H _ I h=>wpAny_Constant_int ⟨.int i,H,I.tok _,⟨_,rfl⟩,h⟩
theorem pe_bl {b j pos}:PE X (.Constant (.bool b) j pos) (tC (.bl b)):=fun _ _ _ H _ I h=>Constant_bool ⟨.bl b,H,I,rfl,h⟩
theorem pe_str {x j pos}:PE X (.Constant (.str x) j pos) (tC (.str x)):=fun _ _ _ H _ I h=>Calls.Constant_str ⟨.str x,H,I.tok _,⟨_,rfl⟩,h⟩
noncomputable def Gl (X:Cx) (x:Str):Prop:=X.env.kindOf x=some .globalImplicit
theorem ld_glob {E:Value->Shared->Prop} {pins:List (Addr × Obj)} {s:Shared} {σ:St} {H:Hp} {x:Str} {u:Value} {pos:Pos} {Q:Value->Shared->Prop} (I:Inv X pins σ H s) (hg:Gl X x) (hm:X.mg x=some u) (h:Q u s)
    (hd:(x == ("__debug__":Str))=false:=by decide):wpAny (model X.prog X.w) X.A (eval (.Name x pos) X.env) Q E s :=
  Calls.Name_function_global I.ok.kind hg (Calls.loadGlobal_global (by rw [I.ok.glob];exact I.mod.glob.keeps I.bk) hm h) hd
theorem ld_blt {E:Value->Shared->Prop} {pins:List (Addr × Obj)} {s:Shared} {σ:St} {H:Hp} {x:Str} {u:Value} {pos:Pos} {Q:Value->Shared->Prop} (I:Inv X pins σ H s) (hg:Gl X x) (hm:X.mg x=none) (hv:bootBuiltins x=some u) (h:Q u s)
    (hn:x≠"__name__":=by decide) (hd:(x == ("__debug__":Str))=false:=by decide):wpAny (model X.prog X.w) X.A (eval (.Name x pos) X.env) Q E s:=by
  obtain ⟨mb,h1,h2⟩:=I.mod.blt
  exact Calls.Name_function_global I.ok.kind hg (Calls.loadGlobal_builtin (by rw [I.ok.glob];exact I.mod.glob.keeps I.bk) hm (by rw [I.ok.blt];exact h1.keeps I.bk) ((h2 x hn).trans hv) h) hd
theorem pe_glob {x:Str} {v:V} {u:Value} {pos:Pos} (hg:Gl X x) (hm:X.mg x=some u) (r:RelV v u) (hd:(x == ("__debug__":Str))=false:=by decide):PE X (.Name x pos) (tC v) :=
  fun _ _ _ H _ I h=>ld_glob I hg hm ⟨v,H,I,r,h⟩ hd
variable {a b:Expr} {ta tb:TE} {pos:Pos}
noncomputable def tB (t:TE):TT:=fun σ H Q=>t σ H fun x H1=>∃ c,x=.bl c/\Q c H1
variable {tA tB':TT} {rest:List Expr}
noncomputable def tAnd (t u:TT):TT:=fun σ H Q=>t σ H fun c H1=>if c=true then u σ H1 Q else Q false H1
noncomputable def tOr (t u:TT):TT:=fun σ H Q=>t σ H fun c H1=>if c=true then Q true H1 else u σ H1 Q
theorem pw_and1 (ha:PT X a tA):PW X (.BoolOp .And [a] pos) tA:=by
  intro wh pins s σ H Q I h
  refine isTrue_and (thn (ha pins s σ H Q I h) fun c s1 e=>?_)
  cases c with
  | true=>exact isTrue_and_nil e
  | false=>exact e
theorem pw_or1 (ha:PT X a tA):PW X (.BoolOp .Or [a] pos) tA:=by
  intro wh pins s σ H Q I h
  refine isTrue_or (thn (ha pins s σ H Q I h) fun c s1 e=>?_)
  cases c with
  | false=>exact isTrue_or_nil e
  | true=>exact e
theorem pw_and (ha:PT X a tA) (hb:PW X (.BoolOp .And (b::rest) pos) tB'):PW X (.BoolOp .And (a::b::rest) pos) (tAnd tA tB'):=by
  intro wh pins s σ H Q I h
  refine isTrue_and (thn (ha pins s σ H _ I h) fun c s1 h_q=>?_)
  obtain ⟨H1,I1,q1⟩:=h_q
  cases c with
  | true=>exact hb wh pins s1 σ H1 Q I1 q1
  | false=>exact ⟨H1,I1,q1⟩
theorem pw_or (ha:PT X a tA) (hb:PW X (.BoolOp .Or (b::rest) pos) tB'):PW X (.BoolOp .Or (a::b::rest) pos) (tOr tA tB'):=by
  intro wh pins s σ H Q I h
  refine isTrue_or (thn (ha pins s σ H _ I h) fun c s1 h_q=>?_)
  obtain ⟨H1,I1,q1⟩:=h_q
  cases c with
  | true=>exact ⟨H1,I1,q1⟩
  | false=>exact hb wh pins s1 σ H1 Q I1 q1
end
end L2
namespace L2
open PySem PySem.Spec PyProof.Rows
noncomputable def SqL (K:PySem.W.Frag) (H:Hp) (a:Addr) (xs:List V):Prop :=
  Rd H a (.lst xs) \/
    ∃ (o:Obj) (its:Array Value) (n:Nat),K.lookup a=some o/\o.cls=.type "list"/\o.dict=none/\o.data=.seq its n/\its.size<=sizeLine/\Vals xs its.toList
noncomputable def SqT (K:PySem.W.Frag) (H:Hp) (a:Addr) (xs:List V):Prop :=
  Rd H a (.tup xs) \/
    ∃ (o:Obj) (its:Array Value) (n:Nat),K.lookup a=some o/\o.cls=.type "tuple"/\o.data=.seq its n/\its.size<=sizeLine/\Vals xs its.toList
noncomputable def absV:Value->Option V
  | .none=>some .non
  | .bool b=>some (.bl b)
  | .int i _=>some (.int i)
  | .str x _=>some (.str x)
  | .bytes b _=>some (.byt b)
  | .float b _=>some (.flt b)
  | .ref a=>some (.ref a)
  | .type n=>some (.ty n)
  | _=>none
theorem RelV.abs {x:V} {u:Value} (r:RelV x u):absV u=some x:=by
  cases x with
  | non=>cases r;rfl
  | bl _=>cases r;rfl
  | int _=>obtain ⟨t,rfl⟩:=r;rfl
  | str _=>obtain ⟨t,rfl⟩:=r;rfl
  | byt _=>obtain ⟨t,rfl⟩:=r;rfl
  | flt _=>obtain ⟨t,rfl⟩:=r;rfl
  | ref _=>cases r;rfl
  | ty _=>cases r;rfl
theorem RelV.inj {x y:V} {u:Value} (r:RelV x u) (q:RelV y u):x=y:=Option.some.inj (r.abs.symm.trans q.abs)
theorem Vals.inj:∀ {xs ys:List V} {us:List Value},Vals xs us->Vals ys us->xs=ys
  | _,_,_,.nil,.nil=>rfl
  | _,_,_,.cons r t,.cons r' t'=>by rw [r.inj r',Vals.inj t t']
section
variable {X:Cx} {pins:List (Addr × Obj)} {σ:St} {H:Hp} {s:Shared} {a:Addr} {xs ys:List V}
theorem SqL.of {K:PySem.W.Frag} (h:H a=some (.lst xs)):SqL K H a xs:=.inl (.inl h)
theorem SqT.of {K:PySem.W.Frag} (h:H a=some (.tup xs)):SqT K H a xs:=.inl (.inl h)
theorem Inv.list (I:Inv X pins σ H s) (h:SqL X.K H a xs):∃ its:List Value,Vals xs its/\PlainL s.heap a its.toArray/\xs.length<=sizeLine:=by
  rcases h with h | ⟨o,its,n,hk,hc,hd,hs,hz,r⟩
  . obtain ⟨z,its,n,r,e⟩:=h.ok I.hok
    exact ⟨its,r,⟨_,n,e,rfl,rfl,rfl⟩,z⟩
  . refine ⟨its.toList,r,⟨o,n,I.kIn a o hk,hc,hd,by simpa using hs⟩,?_⟩
    have e:=r.length
    simp only [Array.length_toList] at e
    lia
theorem Inv.tuple (I:Inv X pins σ H s) (h:SqT X.K H a xs):∃ its:List Value,Vals xs its/\IsTup s.heap a its.toArray/\xs.length<=sizeLine:=by
  rcases h with h | ⟨o,its,n,hk,hc,hs,hz,r⟩
  . obtain ⟨z,its,r,p⟩:=h.ok I.hok
    exact ⟨its,r,p,z⟩
  . refine ⟨its.toList,r,⟨o,I.kIn a o hk,hc,n,by simpa using hs⟩,?_⟩
    have e:=r.length
    simp only [Array.length_toList] at e
    lia
theorem Inv.list_inj (I:Inv X pins σ H s) (h:SqL X.K H a xs) (h':SqL X.K H a ys):xs=ys:=by
  obtain ⟨its,r,⟨o,n,e,_,_,d⟩,_⟩:=I.list h
  obtain ⟨its',r',⟨o',n',e',_,_,d'⟩,_⟩:=I.list h'
  rw [e] at e';cases e'
  rw [d] at d'
  injection d' with d1 _
  have:its=its':=by simpa using congrArg Array.toList d1
  subst this
  exact r.inj r'
theorem Inv.tuple_inj (I:Inv X pins σ H s) (h:SqT X.K H a xs) (h':SqT X.K H a ys):xs=ys:=by
  obtain ⟨its,r,⟨o,e,_,n,d⟩,_⟩:=I.tuple h
  obtain ⟨its',r',⟨o',e',_,n',d'⟩,_⟩:=I.tuple h'
  rw [e] at e';cases e'
  rw [d] at d'
  injection d' with d1 _
  have:its=its':=by simpa using congrArg Array.toList d1
  subst this
  exact r.inj r'
end
noncomputable abbrev Cx.wish (X:Cx) (E:Value->Shared->Prop):Cx:={ X with xe:=E }
noncomputable abbrev Cx.nox (X:Cx):Cx:=X.wish fun _ _=>False
theorem Cx.Ok.wish {X:Cx} (ok:X.Ok) (E:Value->Shared->Prop):(X.wish E).Ok :=
  ⟨ok.mod,ok.kind,ok.glob,ok.blt,ok.above,ok.inj,ok.has,ok.cab,ok.hd,ok.frames,ok.stk,ok.exf,ok.bs,ok.bsz,ok.noex,ok.exfs,ok.funs,ok.frf⟩
theorem Cx.Ok.unwish {X:Cx} {E:Value->Shared->Prop} (ok:(X.wish E).Ok):X.Ok :=
  ⟨ok.mod,ok.kind,ok.glob,ok.blt,ok.above,ok.inj,ok.has,ok.cab,ok.hd,ok.frames,ok.stk,ok.exf,ok.bs,ok.bsz,ok.noex,ok.exfs,ok.funs,ok.frf⟩
section
variable {X:Cx} {pins:List (Addr × Obj)} {σ:St} {H:Hp} {s:Shared} {E:Value->Shared->Prop}
theorem Inv.wish (I:Inv X pins σ H s) (E:Value->Shared->Prop):Inv (X.wish E) pins σ H s:=⟨I.ok.wish E,I.os,I.bare,I.base,I.loc,I.cell,I.free,I.freeC,I.pin,I.hok,I.len⟩
theorem Inv.unwish (I:Inv (X.wish E) pins σ H s):Inv X pins σ H s:=⟨I.ok.unwish,I.os,I.bare,I.base,I.loc,I.cell,I.free,I.freeC,I.pin,I.hok,I.len⟩
theorem SP.unwish {D:Ends} {f:Flow} {s':Shared} (h:SP (X.wish E) pins D f s'):SP X pins D f s':=by
  cases f with
  | next=>obtain ⟨σ',H',I,q⟩:=h;exact ⟨σ',H',I.unwish,q⟩
  | brk=>obtain ⟨σ',H',I,q⟩:=h;exact ⟨σ',H',I.unwish,q⟩
  | cont=>obtain ⟨σ',H',I,q⟩:=h;exact ⟨σ',H',I.unwish,q⟩
  | ret u=>obtain ⟨v,σ',H',I,r,q⟩:=h;exact ⟨v,σ',H',I.unwish,r,q⟩
theorem PE.nox {e:Expr} {t:TE} (h:PE X.nox e t):PE X e t:=fun pins s σ H Q I hw =>
  wpAny_mono (h pins s σ H Q (I.wish _) hw) (fun _ _ ⟨v,H',I',r,q⟩=>⟨v,H',I'.unwish,r,q⟩) fun _ _ z=>False.elim z
theorem PSs.nox {st:List Stmt} {t:TS} (h:PSs X.nox st t):PSs X st t:=fun pins s σ H D I hw =>
  wpAny_mono (h pins s σ H D (I.wish _) hw) (fun _ _ q=>q.unwish) fun _ _ z=>False.elim z
end
section
variable {X:Cx} {st:Stmt} {rest:List Stmt} {t u:TS} {e:Expr} {te:TE} {pos:Pos}
noncomputable def tNext:TS:=fun D σ H=>D.nx σ H
noncomputable def tSeq (t u:TS):TS:=fun D σ H=>t { D with nx:=u D } σ H
theorem pss_nil:PSs X [] tNext:=fun _ _ σ H _ I h=>wpAny_execs_nil ⟨σ,H,I,h⟩
theorem pss_cons (h1:PS X st t) (h2:PSs X rest u):PSs X (st::rest) (tSeq t u):=by
  intro pins s σ H D I h
  refine wpAny_execs_cons (thn (h1 pins s σ H { D with nx:=u D } I h) fun f s1 q=>?_)
  cases f with
  | next =>
    obtain ⟨σ',H',I',q⟩:=q
    exact h2 pins s1 σ' H' D I' q
  | ret v=>exact q
  | brk=>exact q
  | cont=>exact q
theorem pss_one (h1:PS X st t):PSs X [st] t:=by
  intro pins s σ H D I h
  refine wpAny_execs_cons (thn (h1 pins s σ H D I h) fun f s1 q=>?_)
  cases f with
  | next=>exact wpAny_execs_nil q
  | ret v=>exact q
  | brk=>exact q
  | cont=>exact q
theorem Inv.quiet {pins:List (Addr × Obj)} {σ:St} {H:Hp} {s:Shared} (I:Inv X pins σ H s):interactive X.env=false:=by simp [interactive,I.ok.kind]
noncomputable def tDrop (te:TE):TS:=fun D σ H=>te σ H fun _ H1=>D.nx σ H1
theorem ps_expr (he:PE X e te) (hs:swapsWith e none pos.line X.env=pure false:=by rfl):PS X (.Expr e pos) (tDrop te):=by
  intro pins s σ H D I h
  exact wpAny_Expr_any (thn (he pins s σ H _ I h) fun v s1 ⟨x,H1,I1,r1,q1⟩=>⟨σ,H1,I1,q1⟩) I.quiet hs
noncomputable def tRet (te:TE):TS:=fun D σ H=>te σ H D.rt
theorem ps_ret (he:PE X e te):PS X (.Return (some e) pos) (tRet te):=by
  intro pins s σ H D I h
  exact wpAny_Return_some (thn (he pins s σ H _ I h) fun v s1 ⟨x,H1,I1,r1,q1⟩=>⟨x,σ,H1,I1,r1,q1⟩)
noncomputable def tIfS (c:TT) (t u:TS):TS:=fun D σ H=>c σ H fun b H1=>if b=true then t D σ H1 else u D σ H1
theorem ps_if {c:Expr} {a b:List Stmt} {tc:TT} (hc:PT X c tc) (ha:PSs X a t) (hb:PSs X b u):PS X (.If c a b pos) (tIfS tc t u):=by
  intro pins s σ H D I h
  refine wpAny_If (thn (hc pins s σ H _ I h) fun d s1 h_q=>?_)
  obtain ⟨H1,I1,q1⟩:=h_q
  cases d with
  | true=>exact ha pins s1 σ H1 D I1 q1
  | false=>exact hb pins s1 σ H1 D I1 q1
end
noncomputable abbrev TG:=V->St->Hp->(St->Hp->Prop)->Prop
noncomputable abbrev TGs:=List V->St->Hp->(St->Hp->Prop)->Prop
noncomputable def PG (X:Cx) (target:Expr) (t:TG):Prop :=
  ∀ (pins:List (Addr × Obj)) (s:Shared) (σ:St) (H:Hp) (v:V) (u:Value) (Q:St->Hp->Prop),Inv X pins σ H s->RelV v u->t v σ H Q ->
    wpAny (model X.prog X.w) X.A (assign target X.env u) (fun _ s'=>∃ σ' H',Inv X pins σ' H' s'/\Q σ' H') X.xe s
noncomputable def PGs (X:Cx) (ts:List Expr) (t:TGs):Prop :=
  ∀ (pins:List (Addr × Obj)) (s:Shared) (σ:St) (H:Hp) (vs:List V) (us:List Value) (Q:St->Hp->Prop),Inv X pins σ H s->Vals vs us->t vs σ H Q ->
    wpAny (model X.prog X.w) X.A (assignInOrder ((assignEach ts X.env).map (·.2)) us) (fun _ s'=>∃ σ' H',Inv X pins σ' H' s'/\Q σ' H') X.xe s
section
variable {X:Cx} {pos:Pos}
noncomputable def gName (i:Nat):TG:=fun v σ H Q=>Q (σ.set i (some v)) H
theorem pg_name {i:Nat} {x:Str} (hN:X.N.Nodup) (hi:X.N[i]? = some x) (hx:Loc X.env.scope x) (hf:X.fn x=true\/X.env.scope.names.lookup x=some .local:=by first | exact .inl rfl | exact .inr rfl | assumption):PG X (.Name x pos) (gName i):=by
  intro pins s σ H v u Q I r h
  exact wpAny_assign_Name (store_ok I hN hi hx r (fun s' I'=>⟨_,H,I',h⟩) hf)
noncomputable def gNil:TGs:=fun vs σ H Q=>vs=[]/\Q σ H
noncomputable def gCons (t:TG) (u:TGs):TGs:=fun vs σ H Q=>∃ v r,vs=v::r/\t v σ H fun σ' H'=>u r σ' H' Q
theorem pgs_nil:PGs X [] gNil:=by
  intro pins s σ H vs us Q I r h
  obtain ⟨e,h⟩:=h
  subst e
  cases r
  exact assignInOrder_nil ⟨σ,H,I,h⟩
theorem pgs_cons {e:Expr} {es:List Expr} {t:TG} {u:TGs} (h1:PG X e t) (h2:PGs X es u)
    (hs:(assignEach (e::es) X.env).map (·.2)=assign e X.env::(assignEach es X.env).map (·.2):=by rfl):PGs X (e::es) (gCons t u):=by
  intro pins s σ H vs us Q I r h
  obtain ⟨v,vr,e1,h⟩:=h
  subst e1
  cases r with
  | cons r rr =>
    rw [hs]
    refine assignInOrder_cons (thn (h1 pins s σ H _ _ _ I r h) fun _ s1 h_q=>?_)
    obtain ⟨σ1,H1,I1,q1⟩:=h_q
    exact h2 pins s1 σ1 H1 _ _ Q I1 rr q1
noncomputable def gTup (K:PySem.W.Frag) (n:Nat) (t:TGs):TG:=fun v σ H Q=>∃ a xs,v=.ref a/\SqT K H a xs/\xs.length=n/\t xs σ H Q
theorem pg_tup {es:List Expr} {k:Nat} {t:TGs} {n:Nat} (hc:X.calm=true) (h:PGs X es t)
    (hn:(assignEach es X.env).length=n:=by rfl) (hst:(assignEach es X.env).findIdx? (·.1)=none:=by rfl):PG X (.Tuple es k pos) (gTup X.K n t):=by
  intro pins s σ H v u Q I r hw
  obtain ⟨a,xs,e1,hq,hl,hw⟩:=hw
  subst e1
  cases r
  obtain ⟨its,rv,ht,hz⟩:=I.tuple hq
  refine assign_Tuple_tuple (I.ok.hd hc) ht (by simp [hn,<- hl,rv.length]) hst fun h' hx=>?_
  have I1:Inv X pins σ H { s with heap:=h' }:=I.kept (t':=s.toks) fun b o e=>hx b o (Nat.ne_of_lt (Heap.lt_size e)) e
  exact h pins _ σ H xs _ Q I1 (by simpa using rv) hw
noncomputable def tAsg (te:TE) (g:TG):TS:=fun D σ H=>te σ H fun x H1=>g x σ H1 D.nx
theorem ps_asg {tg e:Expr} {te:TE} {g:TG} (he:PE X e te) (hg:PG X tg g) (hs:swapsWithSole [tg] e pos.line X.env=pure false:=by rfl) (hw:swappedStores [tg] e X.env=pure none:=by rfl)
    (h1:(assignEach [tg] X.env).map (·.2)=[assign tg X.env]:=by rfl):PS X (.Assign [tg] e pos) (tAsg te g):=by
  intro pins s σ H D I h
  refine wpAny_Assign_stores (thn (he pins s σ H _ I h) fun v s1 ⟨x,H1,I1,r1,q1⟩=>?_) hs hw
  rw [h1]
  exact thn (hg pins s1 σ H1 x v _ I1 r1 q1) fun _ s2 q=>q
theorem ps_set {i:Nat} {x:Str} {e:Expr} {te:TE} {pos':Pos} (hN:X.N.Nodup) (hi:X.N[i]? = some x) (hx:Loc X.env.scope x) (he:PE X e te) (hs:swapsWith e (some (.Name x pos')) pos.line X.env=pure false:=by rfl) (hf:X.fn x=true\/X.env.scope.names.lookup x=some .local:=by first | exact .inl rfl | exact .inr rfl | assumption) :
    PS X (.Assign [.Name x pos'] e pos) (tAsg te (gName i)):=by
  intro pins s σ H D I h
  refine wpAny_Assign_Name (thn (he pins s σ H _ I h) fun v s1 ⟨y,H1,I1,r1,q1⟩=>?_) hs
  exact store_ok I1 hN hi hx r1 (fun s2 I2=>⟨_,H1,I2,q1⟩) hf
end
section
variable {X:Cx} {pos:Pos}
noncomputable def tWhile (c:TT) (tb:TS):TS:=fun D σ H=>∃ W:Nat->St->Hp->Prop,(∃ m,W m σ H)/\∀ m σ H,W m σ H ->
  c σ H fun b H1=>if b=true then ∃ N:St->Hp->Prop,(∀ σ' H',N σ' H'->∃ m',m' < m/\W m' σ' H')/\tb { D with nx:=N,ct:=N,bk:=D.nx } σ H1 else D.nx σ H1
theorem ps_while {c:Expr} {body:List Stmt} {tc:TT} {tb:TS} (hp:PassesOwn (model X.prog X.w) X.A X.env X.xe) (hc:PT X c tc) (hb:PSs X body tb):PS X (.While c body [] pos) (tWhile tc tb):=by
  intro pins s σ H D I h
  obtain ⟨W,⟨m0,w0⟩,turn⟩:=h
  refine wpAny_While (codeAny_whileLoop (fun n s'=>∃ σ' H',Inv X pins σ' H' s'/\W n σ' H') ?_ m0 ⟨σ,H,I,w0⟩)
  rintro n s1 ⟨σ1,H1,I1,w1⟩
  refine wpAny_passesOwn hp (thn (hc pins s1 σ1 H1 _ I1 (turn n σ1 H1 w1)) fun b s2 h_q=>?_)
  obtain ⟨H2,I2,q2⟩:=h_q
  cases b with
  | true =>
    obtain ⟨N,hN,q2⟩:=q2
    rw [if_pos rfl]
    refine wpAny_passesOwn hp (thn (hb pins s2 σ1 H2 _ I2 q2) fun f s3 q3=>?_)
    cases f with
    | next =>
      obtain ⟨σ3,H3,I3,n3⟩:=q3
      obtain ⟨m',hm,w3⟩:=hN σ3 H3 n3
      exact ⟨m',hm,σ3,H3,I3,w3⟩
    | cont =>
      obtain ⟨σ3,H3,I3,n3⟩:=q3
      obtain ⟨m',hm,w3⟩:=hN σ3 H3 n3
      exact ⟨m',hm,σ3,H3,I3,w3⟩
    | brk=>exact q3
    | ret v=>exact q3
  | false =>
    rw [if_neg Bool.false_ne_true]
    exact wpAny_execs_nil ⟨σ1,H2,I2,q2⟩
end
structure It where
  go:Nat->Hp->Prop
  yld:Nat->Hp->V->Hp->Prop
  stop:Nat->Hp->Prop
noncomputable def FpOk (X:Cx) (pins:List (Addr × Obj)) (H:Hp) (b:Addr):Prop :=
  H b=none/\b≠X.env.locals/\b ∉ X.fs/\(b∈X.ex\/X.s₀.heap.objs.size<=b)/\(∀ x c,X.env.cells.lookup x=some c->c≠b)/\∀ p∈X.pn++pins,p.1≠b
theorem Inv.fpOk {X:Cx} {pins:List (Addr × Obj)} {σ:St} {H H':Hp} {s:Shared} {b:Addr} (I:Inv X pins σ H s) (hb:s.heap.objs.size<=b) (hn:H' b=none):FpOk X pins H' b:=by
  refine ⟨hn,Nat.ne_of_gt (Nat.lt_of_lt_of_le I.lt hb),I.nofs hb,.inr (Nat.le_trans I.sz hb),fun x c e z=>?_,fun p hp z=>?_⟩
  . obtain ⟨v,q⟩:=I.cell x c e
    exact absurd (Nat.lt_of_lt_of_le q.lt (by rw [z];exact hb)) (Nat.lt_irrefl _)
  . exact absurd (Nat.lt_of_lt_of_le (Heap.lt_size (I.pin p hp).1) (by rw [z];exact hb)) (Nat.lt_irrefl _)
structure Turn (P:Program) (w:World) (K:PySem.W.Frag) (tg:Expr) (J:It) (fp:List Addr) (it:Addr) (tn:Nat->Heap->Prop):Prop where
  mem:it∈fp
  obj:∀ i h,tn i h->∀ b∈fp,∃ o,h.get? b=some o/\∀ v,o.data≠.cell v
  keep:∀ i h h',tn i h->(∀ b∈fp,∀ o,h.get? b=some o->h'.get? b=some o)->tn i h'
  item : ∀ (X:Cx),X.prog=P->X.w=w->X.K=K->X.calm=true->∀ (i:Nat) (pins:List (Addr × Obj)) (s:Shared) (σ:St) (H:Hp) (E:Value->Shared->Prop),Inv X pins σ H s->(∀ b∈fp,FpOk X pins H b)->tn i s.heap->J.go i H ->
    wpAny (model P w) X.A (pyNext (.ref it)) (fun r s1=>∃ u,r=some u /\
      wpAny (model P w) X.A (letOwnedTupleGo tg (.ref it) u) (fun _ s2=>∃ x H',Inv X pins σ H' s2/\RelV x u/\J.yld i H x H'/\tn (i + 1) s2.heap/\∀ b∈fp,H' b=none) E s1) E s
  done:∀ (X:Cx),X.prog=P->X.w=w->X.K=K->X.calm=true->∀ (i:Nat) (pins:List (Addr × Obj)) (s:Shared) (σ:St) (H:Hp) (E:Value->Shared->Prop),Inv X pins σ H s->(∀ b∈fp,FpOk X pins H b)->tn i s.heap->J.stop i H ->
    wpAny (model P w) X.A (pyNext (.ref it)) (fun r s1=>r=none/\Inv X pins σ H s1) E s
  self:∀ (A:Around) (i:Nat) (s:Shared) (Q:Value->Shared->Prop) (E:Value->Shared->Prop),tn i s.heap->Q (.ref it) s->wpAny (model P w) A (pyIter (.ref it)) Q E s
noncomputable abbrev TI:=St->Hp->(It->Hp->Prop)->Prop
noncomputable def PIE (X:Cx) (pins:List (Addr × Obj)) (σ:St) (tg:Expr) (R:It->Hp->Prop) (itv:Value) (s2:Shared):Prop :=
  ∃ (it:Addr) (fp:List Addr) (tn:Nat->Heap->Prop) (J:It) (H':Hp),itv=.ref it/\Inv X pins σ H' s2/\Turn X.prog X.w X.K tg J fp it tn/\tn 0 s2.heap/\(∀ b∈fp,FpOk X pins H' b)/\R J H'
noncomputable def PI (X:Cx) (tg iter:Expr) (wi:TI):Prop :=
  ∀ (pins:List (Addr × Obj)) (s:Shared) (σ:St) (H:Hp) (R:It->Hp->Prop),Inv X pins σ H s->wi σ H R ->
    wpAny (model X.prog X.w) X.A (eval iter X.env) (fun v s1=>wpAny (model X.prog X.w) X.A (pyIter v) (PIE X pins σ tg R) X.xe s1) X.xe s
theorem go_of {M:Model} {A:Around} {E:Value->Shared->Prop} {s:Shared} {tg:Expr} {it:Addr} {u:Value} {o:Obj} {n:String} {vs:Array Value} {Q:Unit->Shared->Prop} (ho:s.heap.get? it=some o) (hc:o.cls=.type n) (hd:o.data=.fields vs)
    (hn:["enumerate","zip","dict_itemiterator","dict_reverseitemiterator","odict_iterator","itertools.zip_longest","itertools.pairwise"].contains n=false) (hQ:Q () s):wpAny M A (letOwnedTupleGo tg (.ref it) u) Q E s:=by
  unfold letOwnedTupleGo
  cases tg <;> first
    | exact wpAny_pure hQ
    | (cases u <;> first
        | exact wpAny_pure hQ
        | (refine wpAny_bind (wpAny_load ho ?_)
           rw [hc,hd]
           show wpAny M A (if (["enumerate","zip","dict_itemiterator","dict_reverseitemiterator","odict_iterator","itertools.zip_longest","itertools.pairwise"].contains n && vs[0]? == some (rawInt _))=true then _ else _) Q E s
           rw [if_neg (by intro h;rw [hn,Bool.false_and] at h;cases h)]
           exact wpAny_pure hQ))
noncomputable def Itl (K:PySem.W.Frag) (a:Addr):It :=
  ⟨fun i H=>∃ xs x,SqL K H a xs/\xs[i]? = some x,fun i H x H'=>H'=H/\∀ xs,SqL K H a xs->xs[i]? = some x,fun i H=>∃ xs,SqL K H a xs/\xs.length<=i⟩
noncomputable def Itt (K:PySem.W.Frag) (a:Addr):It :=
  ⟨fun i H=>∃ xs x,SqT K H a xs/\xs[i]? = some x,fun i H x H'=>H'=H/\∀ xs,SqT K H a xs->xs[i]? = some x,fun i H=>∃ xs,SqT K H a xs/\xs.length<=i⟩
noncomputable def Itr (lo:Int) (n:Nat):It:=⟨fun i _=>i < n,fun i H x H'=>H'=H/\x=.int (lo + i),fun i _=>n<=i⟩
theorem turn_list {P:Program} {w:World} {K:PySem.W.Frag} {tg:Expr} (a it:Addr):Turn P w K tg (Itl K a) [it] it (fun i h=>h.IsListIter it a i) where
  mem:=by simp
  obj := fun i h st b hb=>by
    have e:b=it:=by simpa using hb
    subst e
    obtain ⟨o,e,c,d⟩:=st
    exact ⟨o,e,fun v z=>by rw [d] at z;cases z⟩
  keep:=fun i h h' st k=>st.at fun o e=>k it (by simp) o e
  item:=by
    intro X hP hw hK hc i pins s σ H E I hf st hg
    subst hP hw hK
    obtain ⟨xs,x,hq,hx⟩:=hg
    obtain ⟨its,rv,p,hz⟩:=I.list hq
    obtain ⟨u,hu,ru⟩:=rv.get hx
    obtain ⟨f0,f1,f2,f3,f4,f5⟩:=hf it (by simp)
    refine wpAny_pyNext_list_item st p.isList (x:=u) (by simpa using hu) fun h' st' sb=>?_
    have I1:Inv X pins σ H { s with heap:=h' }:=I.turned (t':=s.toks) (fun b o hb e=>(sb.2 b hb).trans e) f0 f1 f3 f4 f5
    obtain ⟨o,e,c,d⟩:=id st'
    exact ⟨u,rfl,go_of (s:={ s with heap:=h' }) e c d (by decide) ⟨x,H,I1,ru,⟨rfl,fun ys hy=>by rw [I.list_inj hy hq];exact hx⟩,st',fun b hb=>(hf b hb).1⟩⟩
  done:=by
    intro X hP hw hK hc i pins s σ H E I hf st hg
    subst hP hw hK
    obtain ⟨xs,hq,hx⟩:=hg
    obtain ⟨its,rv,p,hz⟩:=I.list hq
    obtain ⟨f0,f1,f2,f3,f4,f5⟩:=hf it (by simp)
    have hl:=rv.length
    exact wpAny_pyNext_list_end (I.ok.hd hc) st p.isList (by simp;lia) fun h' eb=>⟨rfl,I.turned (t':=s.toks) (fun b o hb e=>eb b o hb e) f0 f1 f3 f4 f5⟩
  self:=fun _ _ _ _ _ st h=>wpAny_pyIter_listiter st h
theorem turn_tuple {P:Program} {w:World} {K:PySem.W.Frag} {tg:Expr} (a it:Addr):Turn P w K tg (Itt K a) [it] it (fun i h=>h.IsTupleIter it a i) where
  mem:=by simp
  obj := fun i h st b hb=>by
    have e:b=it:=by simpa using hb
    subst e
    obtain ⟨o,e,c,d⟩:=st
    exact ⟨o,e,fun v z=>by rw [d] at z;cases z⟩
  keep:=fun i h h' st k=>st.at fun o e=>k it (by simp) o e
  item:=by
    intro X hP hw hK hc i pins s σ H E I hf st hg
    subst hP hw hK
    obtain ⟨xs,x,hq,hx⟩:=hg
    obtain ⟨its,rv,p,hz⟩:=I.tuple hq
    obtain ⟨u,hu,ru⟩:=rv.get hx
    obtain ⟨f0,f1,f2,f3,f4,f5⟩:=hf it (by simp)
    refine wpAny_pyNext_tuple_item st (show s.heap.IsTuple a its.toArray from p) (x:=u) (by simpa using hu) fun h' st' sb=>?_
    have I1:Inv X pins σ H { s with heap:=h' }:=I.turned (t':=s.toks) (fun b o hb e=>(sb.2 b hb).trans e) f0 f1 f3 f4 f5
    obtain ⟨o,e,c,d⟩:=id st'
    exact ⟨u,rfl,go_of (s:={ s with heap:=h' }) e c d (by decide) ⟨x,H,I1,ru,⟨rfl,fun ys hy=>by rw [I.tuple_inj hy hq];exact hx⟩,st',fun b hb=>(hf b hb).1⟩⟩
  done:=by
    intro X hP hw hK hc i pins s σ H E I hf st hg
    subst hP hw hK
    obtain ⟨xs,hq,hx⟩:=hg
    obtain ⟨its,rv,p,hz⟩:=I.tuple hq
    obtain ⟨f0,f1,f2,f3,f4,f5⟩:=hf it (by simp)
    have hl:=rv.length
    exact wpAny_pyNext_tuple_end (I.ok.hd hc) st (show s.heap.IsTuple a its.toArray from p) (by simp;lia) fun h' eb=>⟨rfl,I.turned (t':=s.toks) (fun b o hb e=>eb b o hb e) f0 f1 f3 f4 f5⟩
  self:=fun _ _ _ _ _ st h=>wpAny_pyIter_tupleiter st h
theorem turn_range {P:Program} {w:World} {K:PySem.W.Frag} {tg:Expr} (it:Addr) (lo:Int) (n:Nat):Turn P w K tg (Itr lo n) [it] it (fun i h=>IsRangeIter h it (lo + (i:Nat) * 1) ((n:Int) - (i:Nat)) 1) where
  mem:=by simp
  obj := fun i h st b hb=>by
    have e:b=it:=by simpa using hb
    subst e
    exact ⟨_,st,fun v z=>by
      have z':Data.fields _=Data.cell v:=z
      cases z'⟩
  keep:=fun i h h' st k=>k it (by simp) _ st
  item:=by
    intro X hP hw hK hc i pins s σ H E I hf st hg
    subst hP hw hK
    obtain ⟨f0,f1,f2,f3,f4,f5⟩:=hf it (by simp)
    have W:=Walks.range (prog:=X.prog) (w:=X.w) (I.ok.hd hc) it lo 1 n
    refine W.item i s _ _ hg st fun v h' tk hv st' kk=>?_
    obtain ⟨t,rfl⟩:=hv
    have I1:Inv X pins σ H { s with heap:=h',toks:=tk }:=I.turned (fun b o hb e=>kk b o (by simpa using hb) e) f0 f1 f3 f4 f5
    refine ⟨_,rfl,go_of (s:={ s with heap:=h',toks:=tk }) (n:="range_iterator") st' rfl rfl (by decide) ⟨.int (lo + i),H,I1,⟨t,?_⟩,⟨rfl,rfl⟩,st',fun b hb=>(hf b hb).1⟩⟩
    rw [Int.mul_one]
  done:=by
    intro X hP hw hK hc i pins s σ H E I hf st hg
    subst hP hw hK
    obtain ⟨f0,f1,f2,f3,f4,f5⟩:=hf it (by simp)
    exact wpAny_pyNext_range_end (I.ok.hd hc) st (by have:n<=i:=hg;lia) fun h' eb=>⟨rfl,I.turned (t':=s.toks) (fun b o hb e=>eb b o hb e) f0 f1 f3 f4 f5⟩
  self:=fun _ _ _ _ _ st h=>wpAny_pyIter_rangeiter st h
end L2
namespace L2
open PySem PySem.Spec PyProof.Rows
section
variable {X:Cx} {tg:Expr}
theorem range_it {pins:List (Addr × Obj)} {σ:St} {H:Hp} {s:Shared} {R:It->Hp->Prop} {E:Value->Shared->Prop} {lo hi:Int} {t u v:Tok} {tk:Nat} (I:Inv X pins σ H s) (h1:-(2 ^ 62)<=lo) (h2:lo < 2 ^ 62) (h3:-(2 ^ 62)<=hi) (h4:hi < 2 ^ 62)
    (q:R (Itr lo (hi - lo).toNat) H):wpAny (model X.prog X.w) X.A (pyIter (.ref s.heap.objs.size)) (PIE X pins σ tg R) E { s with heap:=s.heap.push { cls:=.type "range",data:=.fields #[.int lo t,.int hi u,.int 1 v] },toks:=tk }:=by
  refine wpAny_pyIter_range (IsRange.new ..) (small_one h1 h2 h3 h4) ?_
  have I1:Inv X pins σ H { s with heap:=s.heap.push { cls:=.type "range",data:=.fields #[.int lo t,.int hi u,.int 1 v] },toks:=tk }:=I.kept fun b o e=>Heap.get?_push_of_some _ e
  refine ⟨(s.heap.push { cls:=.type "range",data:=.fields #[.int lo t,.int hi u,.int 1 v] }).objs.size,[(s.heap.push { cls:=.type "range",data:=.fields #[.int lo t,.int hi u,.int 1 v] }).objs.size],_,_,H,rfl,
    I1.kept (t':=tk) fun b o e=>Heap.get?_push_of_some _ e,turn_range _ lo (hi - lo).toNat,?_,fun b hb=>?_,q⟩
  . have e1:lo + ((0:Nat):Int) * 1=lo:=by simp
    have e2:(((hi - lo).toNat:Nat):Int) - ((0:Nat):Int)=Builtin.Range.rangeSize lo hi 1:=by rw [rangeSize_one];split <;> lia
    show IsRangeIter _ _ (lo + ((0:Nat):Int) * 1) ((((hi - lo).toNat:Nat):Int) - ((0:Nat):Int)) 1
    rw [e1,e2]
    exact Heap.get?_push_size _ rfl
  . have e:b=(s.heap.push { cls:=.type "range",data:=.fields #[.int lo t,.int hi u,.int 1 v] }).objs.size:=by simpa using hb
    subst e
    exact I1.fpOk (Nat.le_refl _) (I1.hok.fresh (Nat.le_refl _))
noncomputable def tFor (wi:TI) (g:TG) (tb:TS):TS:=fun D σ H=>wi σ H fun J H1=>∃ W:Nat->Nat->St->Hp->Prop,(∃ m,W 0 m σ H1)/\∀ i m σ H,W i m σ H ->
  (J.stop i H/\D.nx σ H)\/(J.go i H/\∃ N:St->Hp->Prop,(∀ σ' H',N σ' H'->∃ m',m' < m/\W (i + 1) m' σ' H')/\∀ x H',J.yld i H x H'->g x σ H' fun σ2 H2=>tb { D with nx:=N,ct:=N,bk:=D.nx } σ2 H2)
noncomputable def pinsAt (fp:List Addr) (h:Heap):List (Addr × Obj):=fp.filterMap fun b=>(h.get? b).map fun o=>(b,o)
theorem mem_pinsAt {fp:List Addr} {h:Heap} {b:Addr} {o:Obj} (hb:b∈fp) (e:h.get? b=some o):(b,o)∈pinsAt fp h:=List.mem_filterMap.mpr ⟨b,hb,by rw [e];rfl⟩
theorem of_pinsAt {fp:List Addr} {h:Heap} {p:Addr × Obj} (hp:p∈pinsAt fp h):p.1∈fp/\h.get? p.1=some p.2:=by
  obtain ⟨b,hb,e⟩:=List.mem_filterMap.mp hp
  cases q:h.get? b with
  | none=>rw [q] at e;cases e
  | some o =>
    rw [q] at e
    have e':(b,o)=p:=Option.some.inj e
    subst e'
    exact ⟨hb,q⟩
theorem Inv.pinned {pins:List (Addr × Obj)} {σ:St} {H:Hp} {s:Shared} {fp:List Addr} (I:Inv X pins σ H s) (hf:∀ b∈fp,FpOk X pins H b) (ho:∀ b∈fp,∃ o,s.heap.get? b=some o/\∀ v,o.data≠.cell v):Inv X (pins++pinsAt fp s.heap) σ H s :=
  I.pins_of fun p hp=>(List.mem_append.mp hp).elim (fun z=>I.pin p (List.mem_append_right _ z)) fun z=>by
    obtain ⟨hb,e⟩:=of_pinsAt z
    obtain ⟨f0,f1,f2,_⟩:=hf p.1 hb
    obtain ⟨o,e',d⟩:=ho p.1 hb
    rw [e] at e';cases e'
    exact ⟨e,f0,f1,f2,d⟩
theorem Inv.unpinned {pins pl:List (Addr × Obj)} {σ:St} {H:Hp} {s:Shared} (I:Inv X (pins++pl) σ H s):Inv X pins σ H s:=I.pins_of fun p hp=>I.pin p (List.mem_append_right _ (List.mem_append_left _ hp))
theorem ps_for {iter:Expr} {body:List Stmt} {wi:TI} {g:TG} {tb:TS} {pos:Pos} (hp:PassesOwn (model X.prog X.w) X.A X.env X.xe) (hc:X.calm=true) (hi:PI X tg iter wi) (hg:PG X tg g) (hb:PSs X body tb)
    (hs:∀ x,foldedSetIterable iter X.env x=pure x:=by intro _;rfl):PS X (.For tg iter body [] pos) (tFor wi g tb):=by
  intro pins s σ H D I h
  refine wpAny_For (thn (hi pins s σ H _ I h) fun v s1 h1=>thn h1 fun itv s2 h2=>?_) hs
  obtain ⟨it,fp,tn,J,H2,e,I2,T,st2,f2,W,⟨m0,w0⟩,turn⟩:=h2
  subst e
  have stat:∀ {H':Hp},(∀ b∈fp,H' b=none)->∀ b∈fp,FpOk X pins H' b:=fun hn b hb=>⟨hn b hb,(f2 b hb).2⟩
  refine codeAny_forLoop_any (fun n s'=>∃ i σ' H',Inv X pins σ' H' s'/\tn i s'.heap/\(∀ b∈fp,H' b=none)/\W i n σ' H') ?_ m0 ⟨0,σ,H2,I2,st2,fun b hb=>(f2 b hb).1,w0⟩
  rintro n s3 ⟨i,σ3,H3,I3,st3,fr3,w3⟩
  rcases turn i n σ3 H3 w3 with ⟨stop,qn⟩ | ⟨go,N,hN,step⟩
  . refine wpAny_passesOwn hp (thn (T.done X rfl rfl rfl hc i pins s3 σ3 H3 X.xe I3 (stat fr3) st3 stop) fun r s4 h_q=>?_)
    obtain ⟨hr,I4⟩:=h_q
    subst hr
    exact wpAny_execs_nil ⟨σ3,H3,I4,qn⟩
  . refine wpAny_passesOwn hp (thn (T.item X rfl rfl rfl hc i pins s3 σ3 H3 X.xe I3 (stat fr3) st3 go) fun r s4 h_q=>?_)
    obtain ⟨u,hr,h4⟩:=h_q
    subst hr
    refine wpAny_passesOwn hp (thn h4 fun _ s5 h_q=>?_)
    obtain ⟨x,H5,I5,r5,y5,st5,fr5⟩:=h_q
    have I5':=I5.pinned (stat fr5) (T.obj _ _ st5)
    refine wpAny_passesOwn hp (thn (hg _ s5 σ3 H5 x u _ I5' r5 (step x H5 y5)) fun _ s6 h_q=>?_)
    obtain ⟨σ6,H6,I6,q6⟩:=h_q
    refine wpAny_passesOwn hp (thn (hb _ s6 σ6 H6 _ I6 q6) fun f s7 q7=>?_)
    have again:∀ {σ7:St} {H7:Hp},Inv X (pins++pinsAt fp s5.heap) σ7 H7 s7->N σ7 H7->∃ m,m < n/\∃ i σ' H',Inv X pins σ' H' s7/\tn i s7.heap/\(∀ b∈fp,H' b=none)/\W i m σ' H':=fun {σ7 H7} I7 n7=>by
      obtain ⟨m',hm,w7⟩:=hN σ7 H7 n7
      refine ⟨m',hm,i + 1,σ7,H7,I7.unpinned,T.keep _ _ _ st5 fun b hb o e=>(I7.pin (b,o) (List.mem_append_right _ (List.mem_append_right _ (mem_pinsAt hb e)))).1,fun b hb=>?_,w7⟩
      obtain ⟨o,e,d⟩:=T.obj _ _ st5 b hb
      exact (I7.pin (b,o) (List.mem_append_right _ (List.mem_append_right _ (mem_pinsAt hb e)))).2.1
    cases f with
    | next=>obtain ⟨σ7,H7,I7,n7⟩:=q7;exact again I7 n7
    | cont=>obtain ⟨σ7,H7,I7,n7⟩:=q7;exact again I7 n7
    | brk=>obtain ⟨σ7,H7,I7,q7⟩:=q7;exact ⟨σ7,H7,I7.unpinned,q7⟩
    | ret v=>obtain ⟨x7,σ7,H7,I7,r7,q7⟩:=q7;exact ⟨x7,σ7,H7,I7.unpinned,r7,q7⟩
end
end L2
namespace L2
open PySem PySem.Spec PyProof.Rows
noncomputable abbrev R2:=V->V->Hp->VK->Prop
noncomputable def OpR (X:Cx) (f:Value->Value->Sem Value) (r:R2):Prop :=
  ∀ (pins:List (Addr × Obj)) (s:Shared) (σ:St) (H:Hp) (x y:V) (v u:Value) (Q:VK),Inv X pins σ H s->RelV x v->RelV y u->r x y H Q ->
    wpAny (model X.prog X.w) X.A (f v u) (EP X pins σ Q) X.xe s
noncomputable def CallR (X:Cx) (f:Value) (r:List V->Hp->VK->Prop):Prop :=
  ∀ (pins:List (Addr × Obj)) (s:Shared) (σ:St) (H:Hp) (xs:List V) (us:List Value) (Q:VK),Inv X pins σ H s->Vals xs us->r xs H Q ->
    wpAny (model X.prog X.w) X.A (call f us) (EP X pins σ Q) X.xe s
noncomputable def TruR (X:Cx) (r:V->Hp->(Bool->Hp->Prop)->Prop):Prop :=
  ∀ (pins:List (Addr × Obj)) (s:Shared) (σ:St) (H:Hp) (x:V) (v:Value) (Q:Bool->Hp->Prop),Inv X pins σ H s->RelV x v->r x H Q ->
    wpAny (model X.prog X.w) X.A (truthy v) (TP X pins σ Q) X.xe s
noncomputable def tOp (r:R2) (ta tb:TE):TE:=fun σ H Q=>ta σ H fun x H1=>tb σ H1 fun y H2=>r x y H2 Q
noncomputable def rI (C:Int->Int->Prop) (g:Int->Int->V):R2:=fun x y H Q=>∃ i j,x=.int i/\y=.int j/\C i j/\Q (g i j) H
noncomputable def rI0 (g:Int->Int->V):R2:=fun x y H Q=>∃ i j,x=.int i/\y=.int j/\Q (g i j) H
section
variable {X:Cx} {a b c:Expr} {ta tb tc:TE} {pos:Pos}
theorem binT (ha:PE X a ta) (hb:PE X b tb) {pins:List (Addr × Obj)} {s:Shared} {σ:St} {H:Hp} {R:V->V->Hp->Prop} (I:Inv X pins σ H s)
    (h:ta σ H fun x H1=>tb σ H1 fun y H2=>R x y H2) {Q:Value->Shared->Prop} {f:Value->Value->Sem Value}
    (hf:∀ v u s2 x y H2,Inv X pins σ H2 s2->RelV x v->RelV y u->R x y H2->wpAny (model X.prog X.w) X.A (f v u) Q X.xe s2) :
    wpAny (model X.prog X.w) X.A (eval a X.env) (fun v s₁=>wpAny (model X.prog X.w) X.A (eval b X.env) (fun u s₂=>wpAny (model X.prog X.w) X.A (f v u) Q X.xe s₂) X.xe s₁) X.xe s:=by
  refine thn (ha pins s σ H _ I h) fun v s1 h_q=>?_
  obtain ⟨x,H1,I1,r1,q1⟩:=h_q
  refine thn (hb pins s1 σ H1 _ I1 q1) fun u s2 h_q=>?_
  obtain ⟨y,H2,I2,r2,q2⟩:=h_q
  exact hf v u s2 x y H2 I2 r1 r2 q2
theorem pe_op {op:Operator} {r:R2} (ho:OpR X (binaryOp op) r) (ha:PE X a ta) (hb:PE X b tb):PE X (.BinOp a op b pos) (tOp r ta tb):=by
  intro pins s σ H Q I h
  exact wpAny_BinOp (binT ha hb I h fun v u s2 x y H2 I2 rx ry q=>ho pins s2 σ H2 x y v u Q I2 rx ry q)
theorem opI {f:Value->Value->Sem Value} {C:Int->Int->Prop} {g:Int->Int->Int}
    (rule:∀ (i j:Int) (t u:Tok) (s:Shared) (Q:Value->Shared->Prop) (E:Value->Shared->Prop),C i j->Q (.int (g i j) s.toks) { s with toks:=s.toks + 1 }->wpAny (model X.prog X.w) X.A (f (.int i t) (.int j u)) Q E s) :
    OpR X f (rI C fun i j=>.int (g i j)):=by
  intro pins s σ H x y v u Q I rx ry h
  obtain ⟨i,j,rfl,rfl,hc,q⟩:=h
  obtain ⟨t,rfl⟩:=rx
  obtain ⟨t',rfl⟩:=ry
  exact rule i j t t' s _ _ hc ⟨.int (g i j),H,I.tok _,⟨_,rfl⟩,q⟩
theorem opI0 {f:Value->Value->Sem Value} {g:Int->Int->Int}
    (rule:∀ (i j:Int) (t u:Tok) (s:Shared) (Q:Value->Shared->Prop) (E:Value->Shared->Prop),Q (.int (g i j) s.toks) { s with toks:=s.toks + 1 }->wpAny (model X.prog X.w) X.A (f (.int i t) (.int j u)) Q E s) :
    OpR X f (rI0 fun i j=>.int (g i j)):=by
  intro pins s σ H x y v u Q I rx ry h
  obtain ⟨i,j,rfl,rfl,q⟩:=h
  obtain ⟨t,rfl⟩:=rx
  obtain ⟨t',rfl⟩:=ry
  exact rule i j t t' s _ _ ⟨.int (g i j),H,I.tok _,⟨_,rfl⟩,q⟩
theorem opB0 {f:Value->Value->Sem Value} {g:Int->Int->Bool}
    (rule:∀ (i j:Int) (t u:Tok) (s:Shared) (Q:Value->Shared->Prop) (E:Value->Shared->Prop),Q (.bool (g i j)) s->wpAny (model X.prog X.w) X.A (f (.int i t) (.int j u)) Q E s) :
    OpR X f (rI0 fun i j=>.bl (g i j)):=by
  intro pins s σ H x y v u Q I rx ry h
  obtain ⟨i,j,rfl,rfl,q⟩:=h
  obtain ⟨t,rfl⟩:=rx
  obtain ⟨t',rfl⟩:=ry
  exact rule i j t t' s _ _ ⟨.bl (g i j),H,I,rfl,q⟩
noncomputable def CDiv (i j:Int):Prop:=0 < j/\j < 1073741824
noncomputable def CPow (i j:Int):Prop:=0<=j/\j<=1000000/\i.natAbs < 2 ^ 64
noncomputable def CMul (i j:Int):Prop:=(-(2 ^ 64) < i/\i < 2 ^ 64)\/(-(2 ^ 64) < j/\j < 2 ^ 64)
theorem CMul.ok {i j:Int} (h:CMul i j):IntMulOk i j:=by
  rcases h with ⟨h1,h2⟩ | ⟨h1,h2⟩
  . exact .of_left (intBits_le_64 h1 h2)
  . exact .of_right (intBits_le_64 h1 h2)
theorem op_add:OpR X (binaryOp .Add) (rI0 fun i j=>.int (i + j)):=opI0 fun _ _ _ _ _ _ _ q=>add_int q
theorem op_sub:OpR X (binaryOp .Sub) (rI0 fun i j=>.int (i - j)):=opI0 fun _ _ _ _ _ _ _ q=>sub_int q
theorem op_fdiv:OpR X (binaryOp .FloorDiv) (rI CDiv fun i j=>.int (i / j)):=opI fun i j _ _ _ _ _ hc q=>by
  have h1:(0:Int) < j:=hc.1
  have h2:j < 1073741824:=hc.2
  exact floordiv_int (by lia) (by rw [Int.fdiv_eq_ediv_of_nonneg i (by lia)];exact q) (.inl (PyProof.noPylong_small (by lia)))
theorem op_mod:OpR X (binaryOp .Mod) (rI (fun _ j=>0 < j) fun i j=>.int (i % j)):=opI fun i j _ _ _ _ _ hc q=>by
  have h1:(0:Int) < j:=hc
  exact mod_int' (by lia) (by rw [Int.fmod_eq_emod_of_nonneg i (by lia)];exact q)
theorem op_pow:OpR X (binaryOp .Pow) (rI CPow fun i j=>.int (i ^ j.toNat)):=opI fun _ _ _ _ _ _ _ hc q=>pow_int_small hc.1 hc.2.1 hc.2.2 q
end
noncomputable def scal:V->V->Bool
  | .non,.non=>true | .non,.int _=>true | .int _,.non=>true | .non,.bl _=>true | .bl _,.non=>true | .non,.str _=>true | .str _,.non=>true
  | .int _,.int _=>true | .bl _,.bl _=>true | .str _,.str _=>true | .byt _,.byt _=>true
  | .int _,.str _=>true | .str _,.int _=>true | .bl _,.str _=>true | .str _,.bl _=>true
  | _,_=>false
noncomputable def rEq:R2:=fun x y H Q=>scal x y=true/\Q (.bl (decide (x=y))) H
noncomputable def rNe:R2:=fun x y H Q=>scal x y=true/\Q (.bl (!decide (x=y))) H
theorem dec_int {i j:Int}:decide (V.int i=V.int j)=(i == j):=by
  rw [Bool.eq_iff_iff]
  simp
theorem dec_bl {i j:Bool}:decide (V.bl i=V.bl j)=(i == j):=by
  rw [Bool.eq_iff_iff]
  simp
theorem dec_str {i j:Str}:decide (V.str i=V.str j)=(i == j):=by
  rw [Bool.eq_iff_iff]
  simp
theorem dec_byt {i j:Array UInt8}:decide (V.byt i=V.byt j)=(i.toList == j.toList):=by
  rw [Bool.eq_iff_iff]
  cases i
  cases j
  simp
section
variable {X:Cx} {a b c:Expr} {ta tb tc:TE} {pos:Pos}
theorem fin_bl {pins:List (Addr × Obj)} {σ:St} {H:Hp} {s:Shared} {Q:VK} {k k':Bool} (I:Inv X pins σ H s) (q:Q (.bl k) H) (e:k=k'):EP X pins σ Q (.bool k') s:=by
  subst e
  exact ⟨.bl k,H,I,rfl,q⟩
theorem op_eq:OpR X (compareOp .Eq) rEq:=by
  intro pins s σ H x y v u Q I rx ry h
  obtain ⟨hs,q⟩:=h
  cases x with
  | non =>
    cases rx
    cases y with
    | non=>cases ry;exact PySem.EqNone.eq_none_none (fin_bl I q (by simp))
    | bl j=>cases ry;exact PySem.EqNone.eq_none_bool (fin_bl I q (by simp))
    | int j=>obtain ⟨t',rfl⟩:=ry;exact PySem.EqNone.eq_none_int (fin_bl I q (by simp))
    | str j=>obtain ⟨t',rfl⟩:=ry;exact PySem.EqNone.eq_none_str (fin_bl I q (by simp))
    | _=>exact absurd (show false=true from hs) Bool.false_ne_true
  | bl i =>
    cases rx
    cases y with
    | non=>cases ry;exact PySem.EqNone.eq_bool_none (fin_bl I q (by simp))
    | bl j=>cases ry;exact eq_bool (fin_bl I q dec_bl)
    | str j=>obtain ⟨t',rfl⟩:=ry;exact PySem.EqMixed.eq_bool_str (fin_bl I q (by simp))
    | _=>exact absurd (show false=true from hs) Bool.false_ne_true
  | int i =>
    obtain ⟨t,rfl⟩:=rx
    cases y with
    | non=>cases ry;exact PySem.EqNone.eq_int_none (fin_bl I q (by simp))
    | int j=>obtain ⟨t',rfl⟩:=ry;exact eq_int (fin_bl I q dec_int)
    | str j=>obtain ⟨t',rfl⟩:=ry;exact PySem.EqMixed.eq_int_str (fin_bl I q (by simp))
    | _=>exact absurd (show false=true from hs) Bool.false_ne_true
  | str i =>
    obtain ⟨t,rfl⟩:=rx
    cases y with
    | non=>cases ry;exact PySem.EqNone.eq_str_none (fin_bl I q (by simp))
    | bl j=>cases ry;exact PySem.EqMixed.eq_str_bool (fin_bl I q (by simp))
    | int j=>obtain ⟨t',rfl⟩:=ry;exact PySem.EqMixed.eq_str_int (fin_bl I q (by simp))
    | str j=>obtain ⟨t',rfl⟩:=ry;exact eq_str (fin_bl I q dec_str)
    | _=>exact absurd (show false=true from hs) Bool.false_ne_true
  | byt i =>
    obtain ⟨t,rfl⟩:=rx
    cases y with
    | byt j=>obtain ⟨t',rfl⟩:=ry;exact PySem.W.eq_bytes (fin_bl I q dec_byt)
    | _=>exact absurd (show false=true from hs) Bool.false_ne_true
  | _=>cases y <;> exact absurd (show false=true from hs) Bool.false_ne_true
theorem op_ne:OpR X (compareOp .NotEq) rNe:=by
  intro pins s σ H x y v u Q I rx ry h
  obtain ⟨hs,q⟩:=h
  cases x with
  | non =>
    cases rx
    cases y with
    | non=>cases ry;exact PySem.EqNone.ne_none_none (fin_bl I q (by simp))
    | bl j=>cases ry;exact PySem.EqNone.ne_none_bool (fin_bl I q (by simp))
    | int j=>obtain ⟨t',rfl⟩:=ry;exact PySem.EqNone.ne_none_int (fin_bl I q (by simp))
    | str j=>obtain ⟨t',rfl⟩:=ry;exact PySem.EqNone.ne_none_str (fin_bl I q (by simp))
    | _=>exact absurd (show false=true from hs) Bool.false_ne_true
  | bl i =>
    cases rx
    cases y with
    | non=>cases ry;exact PySem.EqNone.ne_bool_none (fin_bl I q (by simp))
    | bl j=>cases ry;exact ne_bool (fin_bl I q (congrArg not dec_bl))
    | str j=>obtain ⟨t',rfl⟩:=ry;exact PySem.EqMixed.ne_bool_str (fin_bl I q (by simp))
    | _=>exact absurd (show false=true from hs) Bool.false_ne_true
  | int i =>
    obtain ⟨t,rfl⟩:=rx
    cases y with
    | non=>cases ry;exact PySem.EqNone.ne_int_none (fin_bl I q (by simp))
    | int j=>obtain ⟨t',rfl⟩:=ry;exact ne_int (fin_bl I q (congrArg not dec_int))
    | str j=>obtain ⟨t',rfl⟩:=ry;exact PySem.EqMixed.ne_int_str (fin_bl I q (by simp))
    | _=>exact absurd (show false=true from hs) Bool.false_ne_true
  | str i =>
    obtain ⟨t,rfl⟩:=rx
    cases y with
    | non=>cases ry;exact PySem.EqNone.ne_str_none (fin_bl I q (by simp))
    | bl j=>cases ry;exact PySem.EqMixed.ne_str_bool (fin_bl I q (by simp))
    | int j=>obtain ⟨t',rfl⟩:=ry;exact PySem.EqMixed.ne_str_int (fin_bl I q (by simp))
    | str j=>obtain ⟨t',rfl⟩:=ry;exact ne_str (fin_bl I q (congrArg not dec_str))
    | _=>exact absurd (show false=true from hs) Bool.false_ne_true
  | byt i =>
    obtain ⟨t,rfl⟩:=rx
    cases y with
    | byt j=>obtain ⟨t',rfl⟩:=ry;exact PySem.W.ne_bytes (fin_bl I q (congrArg not dec_byt))
    | _=>exact absurd (show false=true from hs) Bool.false_ne_true
  | _=>cases y <;> exact absurd (show false=true from hs) Bool.false_ne_true
theorem op_lt:OpR X (compareOp .Lt) (rI0 fun i j=>.bl (decide (i < j))):=opB0 fun _ _ _ _ _ _ _ q=>lt_int q
theorem op_gt:OpR X (compareOp .Gt) (rI0 fun i j=>.bl (decide (j < i))):=opB0 fun _ _ _ _ _ _ _ q=>gt_int q
theorem op_lt_str:OpR X (compareOp .Lt) (fun x y H Q=>∃ i j,x=.str i/\y=.str j/\Q (.bl (decide (i.cps.toList < j.cps.toList))) H):=by
  intro pins s σ H x y v u Q I rx ry h
  obtain ⟨i,j,rfl,rfl,q⟩:=h
  obtain ⟨t,rfl⟩:=rx
  obtain ⟨t',rfl⟩:=ry
  exact lt_str (fin_bl I q rfl)
theorem op_in_str:OpR X (compareOp .In) (fun x y H Q=>∃ i j,x=.str i/\y=.str j/\Q (.bl (!(Builtin.Str.occurrences j i 0 j.length 1).isEmpty)) H):=by
  intro pins s σ H x y v u Q I rx ry h
  obtain ⟨i,j,rfl,rfl,q⟩:=h
  obtain ⟨t,rfl⟩:=rx
  obtain ⟨t',rfl⟩:=ry
  exact in_str (fin_bl I q rfl)
theorem OpR.or {f:Value->Value->Sem Value} {r r':R2} (h:OpR X f r) (h':OpR X f r'):OpR X f (fun x y H Q=>r x y H Q\/r' x y H Q):=by
  intro pins s σ H x y v u Q I rx ry q
  rcases q with q | q
  . exact h pins s σ H x y v u Q I rx ry q
  . exact h' pins s σ H x y v u Q I rx ry q
theorem nomark (b:Expr) {op:CmpOp} (h:op≠.In:=by decide) (h2:op≠.NotIn:=by decide):behindInMarks op b=false:=by
  have e1:(op == CmpOp.In)=false:=by cases op <;> first | rfl | exact absurd rfl h
  have e2:(op == CmpOp.NotIn)=false:=by cases op <;> first | rfl | exact absurd rfl h2
  cases b <;> simp [behindInMarks,e1,e2]
theorem pe_cmpR {op:CmpOp} {r:R2} (ho:OpR X (compareOp op) r) (ha:PE X a ta) (hb:PE X b tb) (hm:behindInMarks op b=false):PE X (.Compare a [op] [b] pos) (tOp r ta tb):=by
  intro pins s σ H Q I h
  exact wpAny_Compare1 (binT ha hb I h fun v u s2 x y H2 I2 rx ry q=>ho pins s2 σ H2 x y v u Q I2 rx ry q) hm
noncomputable def tTest (t:TE):TT:=fun σ H Q=>t σ H fun x H'=>∃ k,x=.bl k/\Q k H'
theorem pt_cmpR {op:CmpOp} {r:R2} (ho:OpR X (compareOp op) r) (ha:PE X a ta) (hb:PE X b tb) (hm:behindInMarks op b=false):PT X (.Compare a [op] [b] pos) (tTest (tOp r ta tb)):=by
  intro pins s σ H Q I h
  refine wpAny_isTrue_Compare1 (thn (ha pins s σ H _ I h) fun v s1 ⟨x,H1,I1,r1,q1⟩=>thn (hb pins s1 σ H1 _ I1 q1) fun u s2 ⟨y,H2,I2,r2,q2⟩ =>
    thn (ho pins s2 σ H2 x y v u _ I2 r1 r2 q2) fun c s3 ⟨z,H3,I3,r3,k,e,q3⟩=>?_) hm
  subst e
  cases r3
  exact wpAny_truthy_bool ⟨H3,I3,q3⟩
noncomputable def TruV (K:PySem.W.Frag) (x:V) (H:Hp) (k:Bool):Prop :=
  match x with
  | .non=>k=false
  | .bl b=>k=b
  | .int i=>k=(i != 0)
  | .str y=>y.length<=sizeLine/\k=((y.length:Int) != 0)
  | .byt y=>y.size<=sizeLine/\k=((y.size:Int) != 0)
  | .ref p=>(∃ xs,SqL K H p xs/\k=!xs.isEmpty)\/(∃ xs,SqT K H p xs/\k=!xs.isEmpty)\/∃ kvs,H p=some (.dK kvs)/\k=!kvs.isEmpty
  | _=>False
theorem isEmpty_kv {κ:Type} {kvs:List (κ × V)} {vs:List (κ × Value)} (r:KV kvs vs):(!vs.isEmpty)=!kvs.isEmpty:=by
  cases r <;> rfl
theorem isEmpty_of {xs:List V} {its:List Value} (r:Vals xs its):(!its.toArray.isEmpty)=!xs.isEmpty:=by
  cases r <;> simp
theorem line63:(sizeLine:Nat) < 2 ^ 63:=by rw [sizeLine_eq];decide
theorem tru_ok:TruR X (fun x H Q=>∃ k,TruV X.K x H k/\Q k H):=by
  intro pins s σ H x v Q I rx h
  obtain ⟨k,e,q⟩:=h
  have hl:=line63
  have hs:sizeLine=16777216:=sizeLine_eq
  cases x with
  | non =>
    cases rx
    have e':k=false:=e
    subst e'
    exact truthy_none ⟨H,I,q⟩
  | bl b =>
    cases rx
    have e':k=b:=e
    subst e'
    exact wpAny_truthy_bool ⟨H,I,q⟩
  | int i =>
    obtain ⟨t,rfl⟩:=rx
    have e':k=(i != 0):=e
    subst e'
    exact PySem.P.truthy_int ⟨H,I,q⟩
  | str y =>
    obtain ⟨t,rfl⟩:=rx
    obtain ⟨hy,e'⟩:y.length<=sizeLine/\k=((y.length:Int) != 0):=e
    subst e'
    exact PySem.P.truthy_str (by lia) ⟨H,I.tok _,q⟩
  | byt y =>
    obtain ⟨t,rfl⟩:=rx
    obtain ⟨hy,e'⟩:y.size<=sizeLine/\k=((y.size:Int) != 0):=e
    subst e'
    exact PySem.W.truthy_bytes (by lia) ⟨H,I.tok _,q⟩
  | ref p =>
    cases rx
    have e':(∃ xs,SqL X.K H p xs/\k=!xs.isEmpty)\/(∃ xs,SqT X.K H p xs/\k=!xs.isEmpty)\/∃ kvs,H p=some (.dK kvs)/\k=!kvs.isEmpty:=e
    rcases e' with ⟨xs,hx,e'⟩ | ⟨xs,hx,e'⟩ | ⟨kvs,hx,e'⟩
    . subst e'
      obtain ⟨its,r,pl,hz⟩:=I.list hx
      have hlen:=r.length
      exact wpAny_truthy_list pl.isList (by simp only [List.size_toArray];lia) ⟨H,I.tok _,by rw [isEmpty_of r];exact q⟩
    . subst e'
      obtain ⟨its,r,pl,hz⟩:=I.tuple hx
      have hlen:=r.length
      exact truthy_tuple pl (by simp only [List.size_toArray];lia) ⟨H,I.tok _,by rw [isEmpty_of r];exact q⟩
    . subst e'
      obtain ⟨hz,hS,vs,r,m⟩:kvs.length<=sizeLine/\(p == sysModules)=false/\∃ vs,KV kvs vs/\s.heap.DictOf (mixKind X.prog X.w) p vs:=I.hok p _ hx
      have hlen:kvs.length=vs.length:=Paired.length r
      exact wpAny_truthy_dict hS m (by lia) ⟨H,I.tok _,by rw [isEmpty_kv r];exact q⟩
  | _=>exact (show False from e).elim
theorem pt_truth (ha:PE X a ta) (he:∀ whole,isTrue a X.env whole=(do let v <- whole;standAt a.pos;holding [v] (truthy v))) :
    PT X a (fun σ H Q=>ta σ H fun x H'=>∃ k,TruV X.K x H' k/\Q k H'):=by
  intro pins s σ H Q I h
  exact isTrue_plain (thn (ha pins s σ H _ I h) fun v s1 ⟨x,H1,I1,r1,q1⟩=>tru_ok pins s1 σ H1 x v Q I1 r1 q1) (he _)
theorem op_add_str:OpR X (binaryOp .Add) (fun x y H Q=>∃ i j,x=.str i/\y=.str j/\i.length + j.length<=sizeLine/\Q (.str (i++j)) H):=by
  intro pins s σ H x y v u Q I rx ry h
  obtain ⟨i,j,rfl,rfl,hz,q⟩:=h
  obtain ⟨t,rfl⟩:=rx
  obtain ⟨t',rfl⟩:=ry
  exact add_str (fun t' tk=>⟨.str (i++j),H,I.tok _,⟨_,rfl⟩,q⟩) hz
theorem vals1 {x:V} {us:List Value} (r:Vals [x] us):∃ u,us=[u]/\RelV x u:=by
  cases r with
  | cons r1 r2=>cases r2;exact ⟨_,rfl,r1⟩
theorem vals2 {x y:V} {us:List Value} (r:Vals [x,y] us):∃ u w',us=[u,w']/\RelV x u/\RelV y w':=by
  cases r with
  | cons r1 r2 =>
    cases r2 with
    | cons r3 r4=>cases r4;exact ⟨_,_,rfl,r1,r3⟩
theorem call_min2 (hc:X.calm=true):CallR X (.builtin "min") (fun xs H Q=>∃ i j,xs=[.int i,.int j]/\Q (.int (if j < i then j else i)) H):=by
  intro pins s σ H xs us Q I r h
  obtain ⟨i,j,rfl,q⟩:=h
  obtain ⟨u,w',rfl,⟨t,rfl⟩,⟨t',rfl⟩⟩:=vals2 r
  refine min_two_ints (I.ok.hd hc) fun h' tk k=>⟨_,H,I.kept k,?_,q⟩
  by_cases hj:j < i
  . rw [if_pos hj,if_pos hj];exact ⟨_,rfl⟩
  . rw [if_neg hj,if_neg hj];exact ⟨_,rfl⟩
end
end L2
namespace L2
open PySem PySem.Spec PyProof.Rows
end L2
namespace L2
open PySem PySem.Spec PyProof.Rows
structure Room (k:Nat) (A:Around):Prop where
  hd:A.handled=none
  dp:A.depth + 3 * k + 5 < recursionLimit
  un:A.units + 16 * k + 200 < cLine
theorem Room.mono {j k:Nat} {A:Around} (r:Room k A) (h:j<=k):Room j A:=⟨r.hd,by have:=r.dp;lia,by have:=r.un;lia⟩
theorem Room.deeper {k:Nat} {A:Around} (r:Room (k + 1) A) (env:Env):Room k (A.deeper env) :=
  ⟨r.hd,by have:=r.dp;show A.depth + 1 + 3 * k + 5 < _;lia,by have:=r.un;show A.units + 3 + 16 * k + 200 < _;lia⟩
theorem Room.in1 {k:Nat} {A:Around} (r:Room (k + 1) A):Room k A.in1 :=
  ⟨r.hd,by have:=r.dp;show A.depth + 3 * k + 5 < _;lia,by have:=r.un;show A.units + 1 + 16 * k + 200 < _;lia⟩
theorem Room.depth {k:Nat} {A:Around} (r:Room k A):A.depth < recursionLimit:=by have:=r.dp;lia
noncomputable def tNil:TA:=fun _ H Q=>Q [] H
noncomputable def tCons (ta:TE) (tr:TA):TA:=fun σ H Q=>ta σ H fun x H1=>tr σ H1 fun xs H2=>Q (x::xs) H2
section
variable {X:Cx} {e:Expr} {es:List Expr} {te:TE} {t:TA} {pos:Pos}
theorem pa_nil:PA X [] tNil:=fun _ _ _ _ H Q I h=>Calls.spliced_nil ⟨[],H,I,.nil,h⟩
theorem pa_cons (ha:PE X e te) (hr:PA X es t) (hs:starEach (e::es) X.env=(false,eval e X.env)::starEach es X.env:=by rfl):PA X (e::es) (tCons te t):=by
  intro pos pins s σ H Q I h
  rw [hs]
  show wpAny _ _ (spliced ((false,eval e X.env)::backTo pos (starEach es X.env))) _ _ s
  refine Calls.spliced_cons (thn (ha pins s σ H _ I h) fun u s1 h_q=>?_)
  obtain ⟨x,H1,I1,r1,q1⟩:=h_q
  exact thn (hr pos pins s1 σ H1 _ I1 q1) fun us s2 ⟨xs,H2,I2,r2,q2⟩=>⟨x::xs,H2,I2,.cons r1 r2,q2⟩
noncomputable def tTup (t:TA):TE:=fun σ H Q=>t σ H fun xs H1=>xs.length<=sizeLine/\∀ p,H1 p=none->Q (.ref p) (upd H1 p (.tup xs))
noncomputable def tLst (t:TA):TE:=fun σ H Q=>t σ H fun xs H1=>xs.length<=sizeLine/\∀ p,H1 p=none->Q (.ref p) (upd H1 p (.lst xs))
theorem pe_tup {x1} (h:PA X es t):PE X (.Tuple es x1 pos) (tTup t):=by
  intro pins s σ H Q I hq
  refine wpAny_Tuple_spliced (thn (h pos pins s σ H _ I hq) fun us s1 ⟨xs,H1,I1,r,z,q⟩=>⟨by rw [<- r.length];exact z,?_⟩)
  have hf:H1 s1.heap.objs.size=none:=I1.hok.fresh (Nat.le_refl _)
  refine ⟨.ref s1.heap.objs.size,upd H1 s1.heap.objs.size (.tup xs),I1.laid (t':=s1.toks) (fun b u e=>Heap.get?_push_of_some _ e) (Nat.le_refl _) ?_,rfl,q _ hf⟩
  exact ⟨z,us,r,⟨_,Heap.get?_push_size _ rfl,rfl,_,rfl⟩⟩
theorem pe_lst (h:PA X es t):PE X (.List es pos) (tLst t):=by
  intro pins s σ H Q I hq
  refine wpAny_List_spliced (thn (h pos pins s σ H _ I hq) fun us s1 ⟨xs,H1,I1,r,z,q⟩=>⟨by rw [<- r.length];exact z,?_⟩)
  have hf:H1 s1.heap.objs.size=none:=I1.hok.fresh (Nat.le_refl _)
  refine ⟨.ref s1.heap.objs.size,upd H1 s1.heap.objs.size (.lst xs),I1.laid (t':=s1.toks) (fun b u e=>Heap.get?_push_of_some _ e) (Nat.le_refl _) ?_,rfl,q _ hf⟩
  exact ⟨z,us,0,r,Heap.get?_push_size _ rfl⟩
end
noncomputable abbrev Sp:=List V->Hp->VK->XK->Prop
noncomputable abbrev CXT:=List Env->Hp->Shared->XK->Value->Shared->Prop
structure Env0 (P:Program) (w:World) (K:PySem.W.Frag) (mg:Str->Option Value) (base:Heap) (A:Around) (outer:List Env) (s:Shared) (H:Hp):Prop where
  frames:A.frames=some outer
  mod:Mod K mg base
  bs:∀ b o,base.get? b=some o->s.heap.get? b=some o/\H b=none
  bsz:base.objs.size<=s.heap.objs.size
  funs:s.heap.FunFrames base outer
  frf:∀ b∈frs outer,H b=none
  hok:HOk P w H s.heap
  bare:AllBare s.gens
noncomputable def CE (outer:List Env) (P:Program) (w:World) (H:Hp) (s:Shared) (Q:VK) (u:Value) (s':Shared):Prop :=
  ∃ v H',s'.os=s.os/\AllBare s'.gens/\Un (frs outer) [] H H' s.heap s'.heap/\HOk P w H' s'.heap/\RelV v u/\Q v H'
noncomputable def CR (CX:CXT) (outer:List Env) (P:Program) (w:World) (H:Hp) (s:Shared) (Q:VK) (E:XK) (r:Result) (s':Shared):Prop :=
  match r with
  | .ok (.ret u)=>CE outer P w H s Q u s'
  | .ok _=>False
  | .error e=>CX outer H s E e s'
structure FnOk (P:Program) (w:World) (K:PySem.W.Frag) (mg:Str->Option Value) (base:Heap) (CX:CXT) (k:Nat) (f:Addr) (fd:FuncData) (ps:List Str) (sp:Sp):Prop where
  len:∀ vs H Q E,sp vs H Q E->vs.length=ps.length
  run : ∀ (A:Around) (outer:List Env) (s:Shared) (H:Hp) (args:Args) (us:List Value) (vs:List V) (Q:VK) (E:XK),Room k A->Env0 P w K mg base A outer s H->BindsTo s fd args (ps.zip us)->Vals vs us->sp vs H Q E ->
    codeAny (model P w) A (.call (.ref f) args) (CR CX outer P w H s Q E) s
theorem FnOk.mono {P:Program} {w:World} {K:PySem.W.Frag} {mg:Str->Option Value} {base:Heap} {CX:CXT} {j k:Nat} {f:Addr} {fd:FuncData} {ps:List Str} {sp:Sp} (F:FnOk P w K mg base CX j f fd ps sp) (h:j<=k) :
    FnOk P w K mg base CX k f fd ps sp:=⟨F.len,fun A outer s H args us vs Q E hr=>F.run A outer s H args us vs Q E (hr.mono h)⟩
theorem FnOk.imp {P:Program} {w:World} {K:PySem.W.Frag} {mg:Str->Option Value} {base:Heap} {CX:CXT} {k:Nat} {f:Addr} {fd:FuncData} {ps:List Str} {sp sp':Sp} (F:FnOk P w K mg base CX k f fd ps sp)
    (h:∀ vs H Q E,sp' vs H Q E->sp vs H Q E):FnOk P w K mg base CX k f fd ps sp' :=
  ⟨fun vs H Q E q=>F.len vs H Q E (h _ _ _ _ q),fun A outer s H args us vs Q E hr he hb hv hs=>F.run A outer s H args us vs Q E hr he hb hv (h _ _ _ _ hs)⟩
section
variable {X:Cx} {pins:List (Addr × Obj)} {σ:St} {H:Hp} {s s':Shared}
theorem Inv.env0 (I:Inv X pins σ H s):Env0 X.prog X.w X.K X.mg X.base X.A X.stack s H :=
  ⟨I.ok.frames,I.ok.mod,I.bs,Nat.le_trans I.ok.bsz I.sz,I.stack,I.stkFree,I.hok,I.bare⟩
theorem Inv.after {Q:VK} {u:Value} (I:Inv X pins σ H s) (h:CE X.stack X.prog X.w H s Q u s'):EP X pins σ Q u s':=by
  obtain ⟨v,H',os,bare,un,hok,r,q⟩:=h
  obtain ⟨hh,g,d,t,os'⟩:=s'
  obtain rfl:os'=s.os:=os
  exact ⟨v,H',I.call (h':=hh) (g':=g) (d':=d) (t':=t) (ch:=[]) un hok bare (fun b z=>absurd z (by simp)),r,q⟩
end
noncomputable def tCall (sp:Sp) (dvs:List V) (E:XK) (t:TA):TE:=fun σ H Q=>t σ H fun vs H1=>sp (vs++dvs) H1 Q E
noncomputable def Binds (K:PySem.W.Frag) (fd:FuncData) (ps:List Str) (ds:List Value):Prop :=
  ∀ (s:Shared) (us:List Value),K.In s.heap->(us++ds).length=ps.length->BindsTo s fd ⟨us,[]⟩ (ps.zip (us++ds))
theorem Binds.all {K:PySem.W.Frag} {fd:FuncData} {ps:List Str} (h:∀ us:List Value,us.length=ps.length->bindArgs fd ⟨us,[]⟩=pure (ps.zip us)):Binds K fd ps []:=fun s us _ hl=>by
  rw [List.append_nil] at hl ⊢
  exact .of_eq (h us hl)
noncomputable def Passes (CX:CXT) (X:Cx) (E:XK):Prop:=∀ (pins:List (Addr × Obj)) (σ:St) (H:Hp) (s:Shared) (e:Value) (s':Shared),Inv X pins σ H s->CX X.stack H s E e s'->X.xe e s'
section
variable {X:Cx} {CX:CXT} {k:Nat} {f C:Addr} {fd:FuncData} {ps:List Str} {sp:Sp} {dvs:List V} {ds:List Value} {E:XK} {x m:Str} {p pos apos:Pos} {e o:Expr} {es:List Expr} {ta:TE} {t:TA}
theorem run_fn {pins:List (Addr × Obj)} {σ:St} {H:Hp} {s:Shared} {Q:VK} {us:List Value} {vs:List V} (F:FnOk X.prog X.w X.K X.mg X.base CX k f fd ps sp) (hr:Room k X.A) (hb:Binds X.K fd ps ds) (hd:Vals dvs ds) (hx:Passes CX X E)
    (I:Inv X pins σ H s) (r:Vals vs us) (h:sp (vs++dvs) H Q E):wpAny (model X.prog X.w) X.A (call (.ref f) us) (EP X pins σ Q) X.xe s:=by
  have r2:Vals (vs++dvs) (us++ds):=r.append hd
  have hl:(us++ds).length=ps.length:=by rw [<- r2.length];exact F.len _ _ _ _ h
  refine wpAny_call (codeAny_mono (F.run X.A X.stack s H ⟨us,[]⟩ (us++ds) (vs++dvs) Q E hr I.env0 (hb s us I.kIn hl) r2 h) fun r s' hq=>?_)
  cases r with
  | error e=>exact hx pins σ H s e s' I hq
  | ok fl =>
    cases fl with
    | ret u=>exact I.after hq
    | next=>exact False.elim hq
    | brk=>exact False.elim hq
    | cont=>exact False.elim hq
theorem pe_call (F:FnOk X.prog X.w X.K X.mg X.base CX k f fd ps sp) (hr:Room k X.A) (hg:Gl X x) (hm:X.mg x=some (.ref f)) (hk:PySem.W.keepIn X.K (.ref f)=true) (hb:Binds X.K fd ps ds) (hd:Vals dvs ds) (hx:Passes CX X E)
    (ha:PA X (e::es) t) (hdb:(x == ("__debug__":Str))=false:=by decide) (he:starEach (e::es) X.env=(false,eval e X.env)::starEach es X.env:=by rfl) (hpl:(backTo pos (starEach es X.env)).any (·.1)=false:=by rfl) :
    PE X (.Call (.Name x p) (e::es) [] pos) (tCall sp dvs E t):=by
  intro pins s σ H Q I h
  refine wpAny_Call_Name_kw (ld_glob I hg hm ?_ hdb)
  refine PySem.W.callWith_K (h₀:=X.base) I.ok.mod.kin hk (thn (ha pos pins s σ H _ I h) fun us s1 ⟨vs,H1,I1,r,q⟩=>⟨I1.kIn,?_⟩) he hpl
  exact run_fn F hr hb hd hx I1 r q
end
structure FnScope (N P:List Str) (sc:Scope):Prop where
  kind:sc.kind=.function
  co:sc.isCoroutine=false
  gen:sc.isGenerator=false
  nd:N.Nodup
  pre:N.take P.length=P
  par:∀ x∈P,sc.names.lookup x=some .local\/sc.names.lookup x=some .cell
  nofree:∀ y∈sc.names,y.2≠.free
theorem bindL_out {kindOf:Str->Option NameKind} {x:Str}:∀ {binds:List (Str × Value)} {m:Str->Option Value},(∀ v,(x,v) ∉ binds)->bindL kindOf binds m x=m x
  | [],_,_=>rfl
  | (n, v)::r,m,h=>by
    unfold bindL
    rw [bindL_out fun w hw=>h w (List.mem_cons_of_mem _ hw)]
    split
    . have:x≠n:=by rintro rfl;exact h v List.mem_cons_self
      simp [this]
    . rfl
theorem bindC_out {kindOf:Str->Option NameKind} {x:Str}:∀ {binds:List (Str × Value)} {m:Str->Option Value},(∀ v,(x,v) ∉ binds)->bindC kindOf binds m x=m x
  | [],_,_=>rfl
  | (n, v)::r,m,h=>by
    unfold bindC
    rw [bindC_out fun w hw=>h w (List.mem_cons_of_mem _ hw)]
    split
    . rfl
    . have:x≠n:=by rintro rfl;exact h v List.mem_cons_self
      simp [this]
theorem bindL_get {kindOf:Str->Option NameKind} {x:Str} {v:Value}:∀ {P:List Str} {vs:List Value} {i:Nat} {m:Str->Option Value},P.Nodup->P[i]? = some x->vs[i]? = some v->kindOf x=some .local ->
    bindL kindOf (P.zip vs) m x=some v
  | [],_,_,_,_,h,_,_=>by simp at h
  | _::_,[],_,_,_,_,h,_=>by simp at h
  | p :: P,w::vs,0,m,nd,h1,h2,hk=>by
    simp at h1 h2;subst h1;subst h2
    show bindL kindOf ((p,w)::P.zip vs) m p=_
    unfold bindL
    rw [bindL_out fun v hv=>(List.nodup_cons.mp nd).1 (List.of_mem_zip hv).1,if_pos hk]
    simp
  | p :: P,w::vs,i + 1,m,nd,h1,h2,hk=>by
    show bindL kindOf ((p,w)::P.zip vs) m x=_
    unfold bindL
    exact bindL_get (i:=i) (List.nodup_cons.mp nd).2 (by simpa using h1) (by simpa using h2) hk
theorem bindC_get {kindOf:Str->Option NameKind} {x:Str} {v:Value}:∀ {P:List Str} {vs:List Value} {i:Nat} {m:Str->Option Value},P.Nodup->P[i]? = some x->vs[i]? = some v->kindOf x≠some .local ->
    bindC kindOf (P.zip vs) m x=some v
  | [],_,_,_,_,h,_,_=>by simp at h
  | _::_,[],_,_,_,_,h,_=>by simp at h
  | p :: P,w::vs,0,m,nd,h1,h2,hk=>by
    simp at h1 h2;subst h1;subst h2
    show bindC kindOf ((p,w)::P.zip vs) m p=_
    unfold bindC
    rw [bindC_out fun v hv=>(List.nodup_cons.mp nd).1 (List.of_mem_zip hv).1,if_neg hk]
    simp
  | p :: P,w::vs,i + 1,m,nd,h1,h2,hk=>by
    show bindC kindOf ((p,w)::P.zip vs) m x=_
    unfold bindC
    exact bindC_get (i:=i) (List.nodup_cons.mp nd).2 (by simpa using h1) (by simpa using h2) hk
noncomputable def start (N:List Str) (vs:List V):St:=vs.map some++List.replicate (N.length - vs.length) none
noncomputable def cxOf (CX:CXT) (P:Program) (w:World) (K:PySem.W.Frag) (mg:Str->Option Value) (base:Heap) (N:List Str) (qual:Str) (scope:Scope) (f:Addr) (cd:Value) (A:Around) (outer:List Env) (s:Shared) (H:Hp) (E:XK):Cx where
  prog:=P
  w := w
  K := K
  mg:=mg
  base:=base
  A := A.deeper (envOfC qual scope s.heap.objs.size f cd)
  N := N
  s₀:=s
  H₀:=H
  env:=envOfC qual scope s.heap.objs.size f cd
  outer:=outer
  stack:=envOfC qual scope s.heap.objs.size f cd::outer
  ex:=[]
  calm:=true
  fn:=fun _=>true
  pn:=[]
  xe:=fun e s'=>wpAny (model P w) (A.deeper (envOfC qual scope s.heap.objs.size f cd)) (leaving (envOfC qual scope s.heap.objs.size f cd) e) (fun _ s''=>CX outer H s E e s'') (fun e' s''=>CX outer H s E e' s'') s'
theorem cell_has {sc:Scope} {n:Nat} {x:Str} (h:sc.names.lookup x=some .cell):∃ c,(cellsFrom n sc.names []).lookup x=some c:=by
  have q:=PySem.W.cellsFrom_some sc.names n [] (.inl h)
  exact Option.isSome_iff_exists.mp q
theorem inv_start {CX:CXT} {P:Program} {w:World} {K:PySem.W.Frag} {mg:Str->Option Value} {base:Heap} {N ps:List Str} {qual:Str} {scope:Scope} {f:Addr} {cd:Value} {A:Around} {outer:List Env} {s s1:Shared} {H:Hp} {E:XK} {us:List Value} {vs:List V}
    (S:FnScope N ps scope) (hd:A.handled=none) (e0:Env0 P w K mg base A outer s H) (hl:vs.length=ps.length) (r:Vals vs us)
    (x:InCallC s s.heap.objs.size (bindL (envOfC qual scope s.heap.objs.size f cd).kindOf (ps.zip us) fun _=>none) (cellsFrom (s.heap.objs.size + 1) scope.names []) (bindC (envOfC qual scope s.heap.objs.size f cd).kindOf (ps.zip us) fun _=>none) s1) :
    Inv (cxOf CX P w K mg base N qual scope f cd A outer s H E) [] (start N vs) H s1:=by
  have hpl:ps.length<=N.length:=by have:=congrArg List.length S.pre;rw [List.length_take] at this;lia
  obtain ⟨h1,tk,rfl,hk⟩:=x.done
  have noA:∀ b:Addr,b ∉ (cxOf CX P w K mg base N qual scope f cd A outer s H E).ex:=fun b z=>absurd (show b∈([]:List Addr) from z) (by simp)
  refine ⟨⟨e0.mod,S.kind,rfl,rfl,Nat.le_refl _,fun y z c h1 h2=>?_,fun y hy=>?_,fun y c _ h=>?_,fun _=>hd,Around.frames_deeper e0.frames,.inr ⟨rfl,rfl⟩,fun b z=>absurd z (noA b),e0.bs,e0.bsz,fun b _ _=>noA b,fun b z=>absurd z (noA b),e0.funs,e0.frf⟩,
    rfl,e0.bare,Un.kept hk,⟨_,x.toInCall.ns,fun i y v h1 h2 h3=>?_⟩,fun y c h=>⟨_,x.cell y c h⟩,e0.hok.fresh (Nat.le_refl _),fun y c h=>?_,fun p hp=>absurd (show p∈([]:List (Addr × Obj)) from hp) (by simp),e0.hok.kept hk,?_⟩
  . exact name_of_addr x.apart (PySem.mem_of_lookup h1) (PySem.mem_of_lookup h2)
  . have hy:scope.names.lookup y=some .cell\/scope.names.lookup y=some .free:=hy
    rcases hy with hy | hy
    . exact cell_has hy
    . exact absurd rfl (S.nofree _ (PySem.mem_of_lookup hy))
  . exact Nat.le_of_lt (x.above y c (PySem.mem_of_lookup h))
  . have hi:i < vs.length:=by
      unfold start at h2
      by_cases hi:i < vs.length
      . exact hi
      . rw [List.getElem?_append_right (by simpa using hi)] at h2
        rw [List.getElem?_replicate] at h2
        split at h2 <;> cases h2
    have ha:vs[i]? = some v:=by
      unfold start at h2
      rw [List.getElem?_append_left (by simpa using hi),List.getElem?_map] at h2
      cases e:vs[i]? with
      | none=>rw [e] at h2;cases h2
      | some a=>rw [e] at h2;cases h2;rfl
    obtain ⟨u,hu,rv⟩:=r.get ha
    have hp:ps[i]? = some y:=by
      rw [<- S.pre,List.getElem?_take_of_lt (by lia)];exact h1
    have ndP:ps.Nodup:=by rw [<- S.pre];exact S.nd.sublist (List.take_sublist _ _)
    refine ⟨u,rv,?_⟩
    rcases S.par y (List.mem_of_getElem? hp) with k | k
    . exact .inl ⟨k,bindL_get ndP hp hu k⟩
    . obtain ⟨c,e⟩:=cell_has (n:=s.heap.objs.size + 1) k
      refine .inr ⟨.inl k,c,e,?_⟩
      have q:=x.cell y c e
      rw [bindC_get ndP hp hu (by show scope.names.lookup y≠_;rw [k];decide)] at q
      exact q
  . exact e0.hok.fresh (Nat.le_of_lt (x.above y c (PySem.mem_of_lookup h)))
  . unfold start
    show _=N.length
    rw [List.length_append,List.length_map,List.length_replicate]
    lia
theorem fn_of {CX:CXT} {P:Program} {w:World} {K:PySem.W.Frag} {mg:Str->Option Value} {base:Heap} {k:Nat} {f:Addr} {name qual:Str} {params:Arguments} {body:List Stmt} {scope:Scope} {dV kV doc pm cdv ct oc:Value} {an od:Option Addr}
    {osl:Array (Option Value)} {N ps:List Str} {sp:Sp} (lk:K.lookup f=some ⟨oc,od,.func (PySem.W.fnOf name qual params body scope dV kV doc pm an cdv ct),osl⟩) (hcd:PySem.W.codeIn K cdv qual=true) (S:FnScope N ps scope)
    (len:∀ vs H Q E,sp vs H Q E->vs.length=ps.length)
    (hbody:∀ (A:Around) (outer:List Env) (s:Shared) (H:Hp) (vs:List V) (Q:VK) (E:XK),Room k (A.deeper (envOfC qual scope s.heap.objs.size f cdv))->sp vs H Q E ->
      ∃ t,PSs (cxOf CX P w K mg base N qual scope f cdv A outer s H E) body t/\t { nx:=fun _ H'=>Q .non H',rt:=Q } (start N vs) H) :
    FnOk P w K mg base CX (k + 1) f (PySem.W.fnOf name qual params body scope dV kV doc pm an cdv ct) ps sp:=by
  refine ⟨len,fun A outer s H args us vs Q E hr e0 hb r hsp=>?_⟩
  have hl:=len _ _ _ _ hsp
  have KX:K.In s.heap:=e0.mod.kin.keeps fun b o e=>(e0.bs b o e).1
  have lim:s.heap.NoLimit:=e0.mod.nolimit.keeps fun b o e=>(e0.bs b o e).1
  have hkind:∀ y∈ps.zip us,scope.names.lookup y.1=some .local\/(scope.names.lookup y.1=some .cell/\((cellsFrom (s.heap.objs.size + 1) scope.names []).lookup y.1).isSome=true):=fun hq0 hy=>by
    obtain ⟨n,v⟩:=hq0
    rcases S.par n (List.of_mem_zip hy).1 with q | q
    . exact .inl q
    . exact .inr ⟨q,PySem.W.cellsFrom_some _ _ _ (.inl q)⟩
  refine codeAny_call_function hr.depth (KX _ _ lk) rfl S.co S.gen rfl (PySem.W.codeRec_of KX hcd) (hb _ _ _ _ ?_)
  refine wpAny_newFunctionEnv_cells S.kind hkind fun env he s1 x=>?_
  subst he
  refine ⟨lim.keeps x.toInCall.keep,codeAny_func ?_⟩
  obtain ⟨t,ht,hq⟩:=hbody A outer s H vs Q E (hr.deeper _) hsp
  have I:Inv (cxOf CX P w K mg base N qual scope f cdv A outer s H E) [] (start N vs) H s1:=inv_start S hr.hd e0 hl r x
  refine wpAny_mono (ht [] s1 (start N vs) H _ I hq) (fun fl s' hs=>?_) fun e s' hs=>hs
  have fin:∀ {σ':St} {H':Hp} {v:V} {u:Value},Inv (cxOf CX P w K mg base N qual scope f cdv A outer s H E) [] σ' H' s'->RelV v u->Q v H'->CE outer P w H s Q u s' :=
    fun {σ' H' v u} J rv q=>⟨v,H',J.os,J.bare,J.base,J.hok,rv,q⟩
  cases fl with
  | ret u =>
    obtain ⟨v,σ',H',J,rv,q⟩:=hs
    exact fin J rv q
  | next =>
    obtain ⟨σ',H',J,q⟩:=hs
    exact fin (v:=V.non) (u:=Value.none) J rfl q
  | brk =>
    obtain ⟨_,_,_,q⟩:=hs
    exact False.elim q
  | cont =>
    obtain ⟨_,_,_,q⟩:=hs
    exact False.elim q
end L2
namespace L2
open PySem PySem.Spec PyProof.Rows
section
variable {X:Cx} {x:Str} {p pos:Pos} {e:Expr} {es:List Expr} {t:TA} {id T:String} {r:List V->Hp->VK->Prop}
noncomputable def tCB (r:List V->Hp->VK->Prop) (t:TA):TE:=fun σ H Q=>t σ H fun vs H1=>r vs H1 Q
theorem pe_callB (hc:CallR X (.builtin id) r) (hg:Gl X x) (hm:X.mg x=none) (hv:bootBuiltins x=some (.builtin id)) (ha:PA X (e::es) t) (hn:x≠"__name__":=by decide) (hdb:(x == ("__debug__":Str))=false:=by decide)
    (he:starEach (e::es) X.env=(false,eval e X.env)::starEach es X.env:=by rfl) (hpl:(backTo pos (starEach es X.env)).any (·.1)=false:=by rfl):PE X (.Call (.Name x p) (e::es) [] pos) (tCB r t):=by
  intro pins s σ H Q I h
  refine wpAny_Call_Name_kw (ld_blt I hg hm hv ?_ hn hdb)
  exact PyProof.Rows.callWith_builtin1 (thn (ha pos pins s σ H _ I h) fun us s1 ⟨vs,H1,I1,r1,q1⟩=>hc pins s1 σ H1 vs us Q I1 r1 q1) he hpl
theorem pe_callTy (hc:CallR X (.type T) r) (hg:Gl X x) (hm:X.mg x=none) (hv:bootBuiltins x=some (.type T)) (ha:PA X (e::es) t) (hn:x≠"__name__":=by decide) (hdb:(x == ("__debug__":Str))=false:=by decide)
    (he:starEach (e::es) X.env=(false,eval e X.env)::starEach es X.env:=by rfl) (hpl:(backTo pos (starEach es X.env)).any (·.1)=false:=by rfl):PE X (.Call (.Name x p) (e::es) [] pos) (tCB r t):=by
  intro pins s σ H Q I h
  refine wpAny_Call_Name_kw (ld_blt I hg hm hv ?_ hn hdb)
  exact PyProof.Rows.callWith_type1 (thn (ha pos pins s σ H _ I h) fun us s1 ⟨vs,H1,I1,r1,q1⟩=>hc pins s1 σ H1 vs us Q I1 r1 q1) he hpl
end
end L2
namespace HT
open PySem PyProof.Rows
theorem rcLt_int (A:Around) (s:Shared) (a:Int) (t:Tok) (c:Int) (u:Tok) (prog:Program) (w:World) (E:Value->Shared->Prop) (Q:Value->Shared->Prop) (h:Q (.bool (decide (a < c))) s) :
    wpAny (model prog w) A (richCompare .Lt (.int a t) (.int c u)) Q E s :=
  (PyProof.Rows.lt_int h:wpAny (model prog w) A (compareOp .Lt (.int a t) (.int c u)) Q E s)
section
variable {prog:Program} {w:World} {A:Around} {E:Value->Shared->Prop} {s:Shared}
theorem cat_tup {t b:Addr} {vs ws:List Value} {Q:Value->Shared->Prop} (ht:IsTup s.heap t vs.toArray) (hb:IsTup s.heap b ws.toArray) (hv:vs≠[])
    (h1:ws=[]->Q (.ref t) s) (h2:ws≠[]->Q (.ref s.heap.objs.size) { s with heap:=s.heap.push { cls:=.type "tuple",data:=.seq (vs++ws).toArray } })
    (hsz:vs.length + ws.length<=sizeLine):wpAny (model prog w) A (binaryOp .Add (.ref t) (.ref b)) Q E s:=by
  obtain ⟨⟨cls,dd,data,sl⟩,ho,hc,n,hd⟩:=id ht
  obtain ⟨⟨cls2,dd2,data2,sl2⟩,ho2,hc2,n2,hd2⟩:=id hb
  simp only at hc hd hc2 hd2
  subst hc hd hc2 hd2
  have e:vs.toArray++ws.toArray=(vs++ws).toArray:=by simp
  by_cases hw:ws=[]
  . exact concat_meets ⟨_,ho,rfl⟩ ⟨_,ho2,rfl⟩ noFill_tuple_add seq_tuple_add PySem.F.slot_tuple_add PySem.F.entry_tuple_add (PySem.F.args_tuple_add_2 _ _)
      (tuple_addW1 t b vs.toArray ws.toArray n n2 dd dd2 sl sl2 (by simpa using hv) (by simp [hw])) ⟨ho,ho2,h1 hw⟩
  . refine concat_meets ⟨_,ho,rfl⟩ ⟨_,ho2,rfl⟩ noFill_tuple_add seq_tuple_add PySem.F.slot_tuple_add PySem.F.entry_tuple_add (PySem.F.args_tuple_add_2 _ _)
      (tuple_addW2 t b vs.toArray ws.toArray n n2 dd dd2 sl sl2 (by simpa using hv) (by simpa using hw) (by rw [List.size_toArray,List.size_toArray];exact hsz)) ⟨ho,ho2,?_⟩
    rw [e]
    exact h2 hw
noncomputable def sIx (n d:Nat):Option Int->Nat
  | none=>d
  | some v=>if v < 0 then (v + (n:Int)).toNat else min v.toNat n
theorem sIx_none (n d:Nat):sIx n d none=d:=rfl
theorem sIx_nat (n d k:Nat):sIx n d (some (k:Int))=min k n:=by
  show (if (k:Int) < 0 then ((k:Int) + (n:Int)).toNat else min (k:Int).toNat n)=min k n
  rw [if_neg (by lia),Int.toNat_natCast]
theorem sIx_le (n d:Nat) (hd:d<=n) (o:Option Int):sIx n d o<=n:=by
  cases o with
  | none=>exact hd
  | some v =>
    show (if v < 0 then (v + (n:Int)).toNat else min v.toNat n)<=n
    by_cases hv:v < 0
    . rw [if_pos hv];lia
    . rw [if_neg hv];exact Nat.min_le_right _ _
theorem clip_eq (v:Int) (n d:Nat):(if v < 0 then max (v + (n:Int)) 0 else min v (n:Int))=((sIx n d (some v):Nat):Int):=by
  show (if v < 0 then max (v + (n:Int)) 0 else min v (n:Int))=(((if v < 0 then (v + (n:Int)).toNat else min v.toNat n):Nat):Int)
  by_cases hv:v < 0
  . simp only [if_pos hv];lia
  . simp only [if_neg hv];lia
theorem adjust_gen (lo hi:Option Int) (n:Nat):Builtin.Slice.sliceAdjust lo hi 1 (n:Int)=(((sIx n 0 lo:Nat):Int),((sIx n n hi:Nat):Int)):=by
  have h1:¬ ((1:Int) < 0):=by lia
  unfold Builtin.Slice.sliceAdjust
  simp only [h1,if_false]
  refine Prod.ext ?_ ?_
  . cases lo with
    | none=>rfl
    | some v=>exact clip_eq v n 0
  . cases hi with
    | none=>rfl
    | some v=>exact clip_eq v n n
theorem places_gen (i j:Nat):Builtin.Slice.slicePlaces (i:Int) (j:Int) 1=j - i:=by
  unfold Builtin.Slice.slicePlaces
  have h1:(1:Int) > 0:=by lia
  simp only [h1,if_true,Int.ediv_one]
  split <;> lia
theorem slicePart_ {v:Value} {o:Option Int} {Q:Option Int->Shared->Prop} (p:IsPart v o) (h:Q o s):wpAny (model prog w) A (Builtin.Slice.slicePartIndex v) Q E s:=by
  cases p with
  | none=>exact slicePart_none h
  | int i t=>exact slicePart_int h
theorem sliceApplied_gen {sl:Addr} {vl vu:Value} {lo hi:Option Int} {n:Nat} {Q:Int × Int × Nat->Shared->Prop} (hs:s.heap.IsSliceOf sl vl vu .none) (pl:IsPart vl lo) (pu:IsPart vu hi)
    (h:Q (((sIx n 0 lo:Nat):Int),1,sIx n n hi - sIx n 0 lo) s):wpAny (model prog w) A (Builtin.Slice.sliceApplied (.ref sl) (pure (n:Int))) Q E s:=by
  obtain ⟨os,hos,hcs,hds⟩:=id hs
  unfold Builtin.Slice.sliceApplied Builtin.Slice.sliceFields
  refine wpAny_bind (wpAny_bind (wpAny_field hos hds (x:=vl) rfl (wpAny_bind (wpAny_field hos hds (x:=vu) rfl (wpAny_bind (wpAny_field hos hds (x:=.none) rfl (wpAny_pure ?_)))))))
  refine wpAny_bind (slicePart_none ?_)
  show wpAny _ _ (if ((1:Int) == 0)=true then _ else _) _ _ s
  rw [if_neg (by decide)]
  refine wpAny_bind (slicePart_ pl (wpAny_bind (slicePart_ pu (wpAny_bind (wpAny_pure ?_)))))
  show wpAny _ _ (match Builtin.Slice.sliceAdjust lo hi 1 (n:Int) with | (lo,hi)=>pure (lo,(1:Int),Builtin.Slice.slicePlaces lo hi 1)) _ _ s
  rw [adjust_gen lo hi n]
  show wpAny _ _ (pure (((sIx n 0 lo:Nat):Int),(1:Int),Builtin.Slice.slicePlaces ((sIx n 0 lo:Nat):Int) ((sIx n n hi:Nat):Int) 1)) _ _ s
  rw [places_gen]
  exact wpAny_pure h
theorem pick_gen (xs:Array Value) (i k:Nat):((List.range k).filterMap fun (m:Nat)=>xs[((i:Int) + (m:Int) * 1).toNat]?).toArray=((xs.toList.drop i).take k).toArray:=by
  have e:(fun (m:Nat)=>xs[((i:Int) + (m:Int) * 1).toNat]?)=fun m=>xs[i + m]?:=by
    funext m
    have:((i:Int) + (m:Int) * 1).toNat=i + m:=by lia
    rw [this]
  rw [e]
  have:=pick_run xs i k
  rw [List.filterMap_map] at this
  have e2:((fun x=>xs[x]?) ∘ fun x=>i + x)=fun m=>xs[i + m]?:=rfl
  rw [e2] at this
  rw [this]
theorem getItem_tuple_cut {t sl:Addr} {items:Array Value} {vl vu:Value} {lo hi:Option Int} {Q:Value->Shared->Prop} (ht:IsTup s.heap t items) (hs:s.heap.IsSliceOf sl vl vu .none) (pl:IsPart vl lo) (pu:IsPart vu hi)
    (hw:¬ (sIx items.size 0 lo=0/\sIx items.size items.size hi=items.size))
    (h:Q (.ref s.heap.objs.size) { s with heap:=s.heap.push { cls:=.type "tuple",data:=.seq ((items.toList.drop (sIx items.size 0 lo)).take (sIx items.size items.size hi - sIx items.size 0 lo)).toArray } })
    (hsz:items.size<=sizeLine):wpAny (model prog w) A (getItem (.ref t) (.ref sl)) Q E s:=by
  have htake:sizeOk (.seq ((items.toList.drop (sIx items.size 0 lo)).take (sIx items.size items.size hi - sIx items.size 0 lo)).toArray):=by
    show ((items.toList.drop (sIx items.size 0 lo)).take (sIx items.size items.size hi - sIx items.size 0 lo)).toArray.size<=sizeLine
    rw [List.size_toArray,List.length_take,List.length_drop,Array.length_toList]
    lia
  have hj:sIx items.size items.size hi<=items.size:=sIx_le _ _ (Nat.le_refl _) hi
  obtain ⟨os,hos,hcs,hds⟩:=id hs
  have hTs:s.TypeIs (.ref sl) "slice":=⟨os,hos,hcs⟩
  unfold getItem
  try with_reducible refine wpAny_holding ?_
  first | refine wpAny_bind (wpAny_pure ?_) | skip
  refine wpAny_bind (wpAny_sequenceKey ht.typeIs (by decide) ?_)
  refine wpAny_bind (wpAny_callSpecial?_slot (name:=Str.ofString "__getitem__") ht.typeIs PyProof.Rows.slot_tuple_getitem
    (wpAny_call_entry PyProof.Rows.slot_tuple_getitem ht.typeIs entry_tuple_getitem ?_ (args_tuple_getitem _ _)))
  show wpAny _ _ (Builtin.Tuple.tupleItemsOf (.ref t) >>= _) _ _ s
  refine wpAny_bind (tupleItemsOf_ ht ?_)
  refine wpAny_bind (wpAny_typeOf hTs ?_)
  rw [if_pos (by decide)]
  refine wpAny_bind (sliceApplied_gen hs pl pu ?_)
  have hno:¬ ((((sIx items.size 0 lo:Nat):Int) == 0 && (1:Int) == 1 && (sIx items.size items.size hi - sIx items.size 0 lo) == items.size)=true):=by
    intro q
    rw [Bool.and_eq_true,Bool.and_eq_true] at q
    have q1:((sIx items.size 0 lo:Nat):Int)=0:=eq_of_beq q.1.1
    have q2:sIx items.size items.size hi - sIx items.size 0 lo=items.size:=eq_of_beq q.2
    exact hw ⟨by lia,by lia⟩
  show wpAny _ _ (if (((sIx items.size 0 lo:Nat):Int) == 0 && (1:Int) == 1 && (sIx items.size items.size hi - sIx items.size 0 lo) == items.size)=true then _ else _) _ _ s
  rw [if_neg hno,pick_gen]
  first
    | exact wpAny_bind (m:=Builtin.Tuple.tupleExact _) (wpAny_newObj_type (wpAny_pure ⟨_,rfl,wpAny_pure h⟩) htake)
    | exact wpAny_bind (m:=Builtin.Tuple.tupleExact _) (wpAny_newObj_type (wpAny_bind (wpAny_pure (wpAny_pure ⟨_,rfl,wpAny_pure h⟩))) htake)
    | exact wpAny_bind (wpAny_bind (m:=Builtin.Tuple.tupleExact _) (wpAny_newObj_type (wpAny_pure (wpAny_pure ⟨_,rfl,wpAny_pure h⟩)) htake))
    | exact wpAny_bind (wpAny_bind (m:=Builtin.Tuple.tupleExact _) (wpAny_newObj_type (wpAny_pure ⟨_,rfl,wpAny_pure h⟩) htake))
end
end HT
namespace L2
open PySem PySem.Spec PyProof.Rows
noncomputable abbrev TO:=St->Hp->(Option Int->Hp->Prop)->Prop
noncomputable def PO (X:Cx) (e:Option Expr) (t:TO):Prop :=
  ∀ (pins:List (Addr × Obj)) (s:Shared) (σ:St) (H:Hp) (Q:Option Int->Hp->Prop),Inv X pins σ H s->t σ H Q ->
    wpAny (model X.prog X.w) X.A (evalPart e X.env) (fun u s'=>∃ o H',Inv X pins σ H' s'/\IsPart u o/\Q o H') X.xe s
noncomputable def tNoPart:TO:=fun _ H Q=>Q none H
noncomputable def tPart (t:TE):TO:=fun σ H Q=>t σ H fun x H1=>∃ i,x=.int i/\Q (some i) H1
section
variable {X:Cx} {e:Expr} {te:TE} {lo hi:Option Expr} {tl th:TO} {pos p2:Pos}
theorem po_none:PO X none tNoPart:=by
  intro pins s σ H Q I h
  rw [evalPart_none]
  exact wpAny_pure ⟨none,H,I,.none,h⟩
theorem po_some (h:PE X e te):PO X (some e) (tPart te):=by
  intro pins s σ H Q I hw
  rw [evalPart_some]
  refine thn (h pins s σ H _ I hw) fun u s1 h_q=>?_
  obtain ⟨x,H1,I1,r1,q1⟩:=h_q
  obtain ⟨i,rfl,q⟩:=q1
  obtain ⟨t,rfl⟩:=r1
  exact ⟨some i,H1,I1,.int i t,q⟩
noncomputable def SlR (X:Cx) (r:V->Option Int->Option Int->Hp->VK->Prop):Prop :=
  ∀ (pins:List (Addr × Obj)) (s:Shared) (σ:St) (H:Hp) (x:V) (v vl vu:Value) (lo hi:Option Int) (sl:Addr) (Q:VK),Inv X pins σ H s->RelV x v->s.heap.IsSliceOf sl vl vu .none->IsPart vl lo->IsPart vu hi->r x lo hi H Q ->
    ∃ T id,typeLookup (.type T) "__getitem__"=pure (some (.builtin id))/\s.TypeIs v T/\wpAny (model X.prog X.w) X.A (getItem v (.ref sl)) (EP X pins σ Q) X.xe s
noncomputable def tSl (r:V->Option Int->Option Int->Hp->VK->Prop) (te:TE) (tl th:TO):TE:=fun σ H Q=>te σ H fun x H1=>tl σ H1 fun l H2=>th σ H2 fun u H3=>r x l u H3 Q
theorem pe_slice {r:V->Option Int->Option Int->Hp->VK->Prop} (hr:SlR X r) (he:PE X e te) (hl:PO X lo tl) (hu:PO X hi th):PE X (.Subscript e (.Slice lo hi none p2) pos) (tSl r te tl th):=by
  intro pins s σ H Q I h
  refine Subscript_ (thn (he pins s σ H _ I h) fun v s1 h_q=>?_)
  obtain ⟨x,H1,I1,r1,q1⟩:=h_q
  refine wpAny_Slice (thn (hl pins s1 σ H1 _ I1 q1) fun vl s2 ⟨l,H2,I2,pl,q2⟩=>thn (hu pins s2 σ H2 _ I2 q2) fun vu s3 h_q=>?_)
  obtain ⟨u,H3,I3,pu,q3⟩:=h_q
  rw [evalPart_none]
  refine wpAny_pure ?_
  have I4:Inv X pins σ H3 { s3 with heap:=s3.heap.push { cls:=.type "slice",data:=.fields #[vl,vu,.none] } }:=I3.kept (t':=s3.toks) fun b ob q=>Heap.get?_push_of_some _ q
  obtain ⟨T,id,hT,ht,hg⟩:=hr pins { s3 with heap:=s3.heap.push { cls:=.type "slice",data:=.fields #[vl,vu,.none] } } σ H3 x v vl vu l u s3.heap.objs.size Q I4 r1 (Heap.IsSliceOf.new ..) pl pu q3
  show wpAny (model X.prog X.w) X.A (subscriptTail e (.Slice lo hi none p2) v (.ref s3.heap.objs.size)) (EP X pins σ Q) X.xe { s3 with heap:=s3.heap.push { cls:=.type "slice",data:=.fields #[vl,vu,.none] } }
  exact tail_any (ops:=[.ref s3.heap.objs.size,v]) ht hT hg (by with_unfolding_all rfl)
noncomputable def cutV (xs:List V) (lo hi:Option Int):List V:=(xs.drop (HT.sIx xs.length 0 lo)).take (HT.sIx xs.length xs.length hi - HT.sIx xs.length 0 lo)
theorem cutV_length (xs:List V) (lo hi:Option Int):(cutV xs lo hi).length<=xs.length:=by
  unfold cutV
  rw [List.length_take,List.length_drop]
  lia
noncomputable def rSlT (K:PySem.W.Frag):V->Option Int->Option Int->Hp->VK->Prop:=fun x lo hi H Q=>∃ a xs,x=.ref a/\SqT K H a xs /\
  ¬ (HT.sIx xs.length 0 lo=0/\HT.sIx xs.length xs.length hi=xs.length)/\∀ p,H p=none->Q (.ref p) (upd H p (.tup (cutV xs lo hi)))
theorem sl_tup:SlR X (rSlT X.K):=by
  intro pins s σ H x v vl vu lo hi sl Q I rx hs pl pu h
  obtain ⟨a,xs,rfl,hx,hw,q⟩:=h
  cases rx
  obtain ⟨its,r,ht,hz⟩:=I.tuple hx
  have hlen:its.toArray.size=xs.length:=by rw [List.size_toArray];exact r.length.symm
  refine ⟨"tuple",_,PyProof.Rows.slot_tuple_getitem.lookup,ht.typeIs,?_⟩
  refine HT.getItem_tuple_cut ht hs pl pu (by rw [hlen];exact hw) ?_ (by rw [hlen];exact hz)
  rw [hlen]
  refine ⟨.ref s.heap.objs.size,_,I.laid (t':=s.toks) (o:=.tup (cutV xs lo hi)) (fun b ob q=>Heap.get?_push_of_some _ q) (Nat.le_refl _) ?_,rfl,q _ (I.hok.fresh (Nat.le_refl _))⟩
  exact ⟨Nat.le_trans (cutV_length xs lo hi) hz,_,(r.drop (HT.sIx xs.length 0 lo)).take (HT.sIx xs.length xs.length hi - HT.sIx xs.length 0 lo),IsTup.new _ _⟩
noncomputable def rCatT (K:PySem.W.Frag):R2:=fun x y H Q=>∃ a b xs ys,x=.ref a/\y=.ref b/\SqT K H a xs/\SqT K H b ys/\xs≠[]/\xs.length + ys.length<=sizeLine /\
  (ys=[]->Q (.ref a) H)/\(ys≠[]->∀ p,H p=none->Q (.ref p) (upd H p (.tup (xs++ys))))
theorem Vals.nil_iff {xs:List V} {us:List Value} (r:Vals xs us):us=[] ↔ xs=[]:=by
  cases r with
  | nil=>simp
  | cons _ _=>simp
theorem op_catT:OpR X (binaryOp .Add) (rCatT X.K):=by
  intro pins s σ H x y v u Q I rx ry h
  obtain ⟨a,b,xs,ys,rfl,rfl,ha,hb,hx,hz,q1,q2⟩:=h
  cases rx
  cases ry
  obtain ⟨its,r1,p1,_⟩:=I.tuple ha
  obtain ⟨its2,r2,p2,_⟩:=I.tuple hb
  refine HT.cat_tup p1 p2 (fun z=>hx (r1.nil_iff.mp z)) (fun z=>⟨.ref a,H,I,rfl,q1 (r2.nil_iff.mp z)⟩) (fun z=>?_) (by rw [<- r1.length,<- r2.length];exact hz)
  refine ⟨.ref s.heap.objs.size,_,I.laid (t':=s.toks) (o:=.tup (xs++ys)) (fun b ob q=>Heap.get?_push_of_some _ q) (Nat.le_refl _) ?_,rfl,q2 (fun w=>z (r2.nil_iff.mpr w)) _ (I.hok.fresh (Nat.le_refl _))⟩
  exact ⟨by rw [List.length_append];exact hz,_,r1.append r2,IsTup.new _ _⟩
end
end L2
namespace L2
open PySem PySem.Spec PyProof.Rows
noncomputable def ixN (n:Nat) (i:Int):Option Nat:=if 0<=i then (if i < n then some i.toNat else none) else if -(n:Int)<=i then some (i + n).toNat else none
noncomputable def atI {α:Type} (xs:List α) (i:Int):Option α:=(ixN xs.length i).bind fun j=>xs[j]?
theorem ixN_seq {n:Nat} {i:Int} {j:Nat} (h:ixN n i=some j):seqIndex? i n=some j/\j < n/\-(n:Int)<=i/\i < n:=by
  unfold ixN at h
  by_cases h0:0<=i
  . rw [if_pos h0] at h
    by_cases h1:i < n
    . rw [if_pos h1] at h
      have e:i.toNat=j:=Option.some.inj h
      exact ⟨by rw [seqIndex_of h0 h1,e],by lia,by lia,h1⟩
    . rw [if_neg h1] at h;cases h
  . rw [if_neg h0] at h
    by_cases h1:-(n:Int)<=i
    . rw [if_pos h1] at h
      have e:(i + n).toNat=j:=Option.some.inj h
      exact ⟨by rw [seqIndex_neg (by lia) h1,e],by lia,h1,by lia⟩
    . rw [if_neg h1] at h;cases h
theorem atI_get {α:Type} {xs:List α} {i:Int} {v:α} (h:atI xs i=some v):∃ j,seqIndex? i xs.length=some j/\xs[j]? = some v/\j < xs.length/\-(xs.length:Int)<=i/\i < xs.length:=by
  unfold atI at h
  cases e:ixN xs.length i with
  | none=>rw [e] at h;cases h
  | some j =>
    rw [e] at h
    obtain ⟨h1,h2,h3,h4⟩:=ixN_seq e
    exact ⟨j,h1,h,h2,h3,h4⟩
theorem atI_nat {α:Type} {xs:List α} {j:Nat} {v:α} (h:xs[j]? = some v):atI xs (j:Int)=some v:=by
  have hj:j < xs.length:=(List.getElem?_eq_some_iff.mp h).1
  have e:ixN xs.length (j:Int)=some j:=by
    unfold ixN
    rw [if_pos (by lia),if_pos (by lia)];simp
  unfold atI;rw [e];exact h
noncomputable def PlainIx (b:Expr):Prop:=∀ o i,subscripted b false o i=operate [o,i] (getItem o i)
noncomputable def IxR (X:Cx) (r:R2):Prop :=
  ∀ (value slice:Expr) (pins:List (Addr × Obj)) (s:Shared) (σ:St) (H:Hp) (x y:V) (v u:Value) (Q:VK),Inv X pins σ H s->RelV x v->RelV y u->r x y H Q ->
    subscripted slice false v u=operate [v,u] (getItem v u)->wpAny (model X.prog X.w) X.A (subscriptTail value slice v u) (EP X pins σ Q) X.xe s
noncomputable def MtR (X:Cx) (id:String) (r:V->List V->Hp->VK->Prop):Prop :=
  ∀ (pins:List (Addr × Obj)) (s:Shared) (σ:St) (H:Hp) (x:V) (xs:List V) (v:Value) (us:List Value) (Q:VK),Inv X pins σ H s->RelV x v->Vals xs us->r x xs H Q ->
    wpAny (model X.prog X.w) X.A (call (.builtin id) (v::us)) (EP X pins σ Q) X.xe s
section
variable {X:Cx} {a b:Expr} {ta tb:TE} {pos:Pos}
theorem IxR.or {r r':R2} (h:IxR X r) (h':IxR X r'):IxR X (fun x y H Q=>r x y H Q\/r' x y H Q):=by
  intro value slice pins s σ H x y v u Q I rx ry q hs
  rcases q with q | q
  . exact h value slice pins s σ H x y v u Q I rx ry q hs
  . exact h' value slice pins s σ H x y v u Q I rx ry q hs
theorem pe_ix {r:R2} (hr:IxR X r) (ha:PE X a ta) (hb:PE X b tb) (hs:PlainIx b):PE X (.Subscript a b pos) (tOp r ta tb):=by
  intro pins s σ H Q I h
  exact Subscript_ (binT ha hb I h fun v u s2 x y H2 I2 rx ry q=>hr a b pins s2 σ H2 x y v u Q I2 rx ry q (hs _ _))
noncomputable def rIxL (K:PySem.W.Frag):R2:=fun x y H Q=>∃ p xs i v,x=.ref p/\y=.int i/\SqL K H p xs/\atI xs i=some v/\Q v H
noncomputable def rIxT (K:PySem.W.Frag):R2:=fun x y H Q=>∃ p xs i v,x=.ref p/\y=.int i/\SqT K H p xs/\atI xs i=some v/\Q v H
noncomputable def rIxS:R2:=fun x y H Q=>∃ z i c,x=.str z/\y=.int i/\z.length<=sizeLine/\atI z.cps.toList i=some c/\Q (.str ⟨#[c]⟩) H
theorem ix_list:IxR X (rIxL X.K):=by
  intro value slice pins s σ H x y v u Q I rx ry h hs
  obtain ⟨p,xs,i,z,rfl,rfl,hq,he,q⟩:=h
  cases rx
  obtain ⟨t,rfl⟩:=ry
  obtain ⟨its,r,pl,hz⟩:=I.list hq
  obtain ⟨j,h1,h2,h3,h4,h5⟩:=atI_get he
  obtain ⟨w,ew,rw'⟩:=r.get h2
  have hl:=r.length
  have hn:=line63
  have fin:EP X pins σ Q w s:=⟨z,H,I,rw',q⟩
  by_cases h0:0<=i
  . have hj:i.toNat=j:=by
      rw [seqIndex_of h0 h5] at h1
      exact Option.some.inj h1
    exact item_listR pl.isList h0 (by lia) (by rw [hj];simpa using ew) fin hs
  . have hj:(i + (its.toArray.size:Int)).toNat=j:=by
      rw [seqIndex_neg (by lia) h4] at h1
      rw [List.size_toArray,<- hl]
      exact Option.some.inj h1
    exact subscriptTail_builtinR (x:=w) pl.isList.typeIs slot_list_getitem.lookup
      (wpAny_getItem_list_neg (Q:=fun r s'=>r=w/\EP X pins σ Q r s') pl.isList (by lia) (by rw [List.size_toArray] <;> lia) (by lia) (by rw [hj];simpa using ew) ⟨rfl,fin⟩) hs
theorem ix_tup:IxR X (rIxT X.K):=by
  intro value slice pins s σ H x y v u Q I rx ry h hs
  obtain ⟨p,xs,i,z,rfl,rfl,hq,he,q⟩:=h
  cases rx
  obtain ⟨t,rfl⟩:=ry
  obtain ⟨its,r,pl,hz⟩:=I.tuple hq
  obtain ⟨j,h1,h2,h3,h4,h5⟩:=atI_get he
  obtain ⟨w,ew,rw'⟩:=r.get h2
  have hl:=r.length
  have hn:=line63
  have fin:EP X pins σ Q w s:=⟨z,H,I,rw',q⟩
  exact subscriptTail_builtinR (x:=w) pl.typeIs slot_tuple_getitem.lookup
    (getItem_tuple (j:=j) (Q:=fun r s'=>r=w/\EP X pins σ Q r s') pl (by lia) (by lia) (by rw [List.size_toArray,<- hl];exact h1) (by simpa using ew) ⟨rfl,fin⟩) hs
theorem ix_str:IxR X rIxS:=by
  intro value slice pins s σ H x y v u Q I rx ry h hs
  obtain ⟨z,i,c,rfl,rfl,hz,he,q⟩:=h
  obtain ⟨t,rfl⟩:=rx
  obtain ⟨t',rfl⟩:=ry
  obtain ⟨j,h1,h2,h3,h4,h5⟩:=atI_get he
  have hl:z.cps.toList.length=z.length:=by simp [Str.length]
  rw [hl] at h1 h4 h5
  have hn:=line63
  exact tail_any (typeIs_str s z t) slot_str_getitem.lookup (getItem_str (c:=c) (by
    have e1:decide (i < -(2 ^ 63:Int))=false:=decide_eq_false (by lia)
    have e2:decide (i ≥ 2 ^ 63)=false:=decide_eq_false (by lia)
    rw [e1,e2,Bool.or_false]) (by rw [h1];simpa using h2) ⟨.str ⟨#[c]⟩,H,I.tok _,⟨_,rfl⟩,q⟩) hs
noncomputable def rIx (K:PySem.W.Frag):R2:=fun x y H Q=>rIxL K x y H Q\/rIxT K x y H Q\/rIxS x y H Q
theorem ix_seq:IxR X (rIx X.K):=ix_list.or (ix_tup.or ix_str)
theorem slice_bounds (lo hi:Option Int) (n:Nat):(sliceBounds lo hi none n).1=((HT.sIx n 0 lo:Nat):Int)/\(sliceBounds lo hi none n).2.1=((HT.sIx n n hi:Nat):Int)/\(sliceBounds lo hi none n).2.2=1:=by
  refine ⟨?_,?_,rfl⟩
  . cases lo with
    | none=>simp [sliceBounds,HT.sIx]
    | some i =>
      simp only [sliceBounds,HT.sIx,Option.getD_none,show (1:Int) > 0 by decide,if_true]
      by_cases h:i < 0
      . simp only [h,if_true] <;> lia
      . simp only [h,if_false] <;> lia
  . cases hi with
    | none=>simp [sliceBounds,HT.sIx]
    | some i =>
      simp only [sliceBounds,HT.sIx,Option.getD_none,show (1:Int) > 0 by decide,if_true]
      by_cases h:i < 0
      . simp only [h,if_true] <;> lia
      . simp only [h,if_false] <;> lia
theorem slicePick_cut (its:List Value) (lo hi:Option Int):slicePick its.toArray lo hi none=((its.drop (HT.sIx its.length 0 lo)).take (HT.sIx its.length its.length hi - HT.sIx its.length 0 lo)).toArray:=by
  obtain ⟨h1,h2,h3⟩:=slice_bounds lo hi its.toArray.size
  unfold slicePick
  rw [h1,h2,h3]
  simp only [sliceRange_one,pick_run,List.size_toArray] <;> rfl
noncomputable def rSlL (K:PySem.W.Frag):V->Option Int->Option Int->Hp->VK->Prop:=fun x lo hi H Q=>∃ a xs,x=.ref a/\SqL K H a xs/\∀ p,H p=none->Q (.ref p) (upd H p (.lst (cutV xs lo hi)))
theorem sl_list:SlR X (rSlL X.K):=by
  intro pins s σ H x v vl vu lo hi sl Q I rx hs pl pu h
  obtain ⟨a,xs,rfl,hx,q⟩:=h
  cases rx
  obtain ⟨its,r,ht,hz⟩:=I.list hx
  have hlen:=r.length
  refine ⟨"list",_,slot_list_getitem.lookup,ht.isList.typeIs,?_⟩
  refine wpAny_getItem_list_slice ht.isList hs pl pu .none (by simp) ?_ (by rw [List.size_toArray] <;> lia)
  rw [slicePick_cut,<- hlen]
  refine ⟨.ref s.heap.objs.size,_,I.laid (t':=s.toks) (o:=.lst (cutV xs lo hi)) (fun b ob q=>Heap.get?_push_of_some _ q) (Nat.le_refl _) ?_,rfl,q _ (I.hok.fresh (Nat.le_refl _))⟩
  exact ⟨Nat.le_trans (cutV_length xs lo hi) hz,_,0,(r.drop (HT.sIx xs.length 0 lo)).take (HT.sIx xs.length xs.length hi - HT.sIx xs.length 0 lo),Heap.get?_push_size _ rfl⟩
noncomputable def flatV:V->Bool
  | .non=>true
  | .bl _=>true
  | .int _=>true
  | .str _=>true
  | _=>false
noncomputable def eqV:V->V->Bool
  | .non,.non=>true
  | .bl a,.bl b=>a == b
  | .bl a,.int b=>(if a then 1 else 0) == b
  | .int a,.bl b=>a == (if b then 1 else 0)
  | .int a,.int b=>a == b
  | .str a,.str b=>a == b
  | _,_=>false
theorem eqAt_V {A:Around} {s:Shared} {y x:V} {u v:Value} (ry:RelV y u) (rx:RelV x v) (fy:flatV y=true) (fx:flatV x=true):SeqAt.EqAt A s u v (eqV y x):=by
  cases y with
  | non =>
    cases ry
    cases x with
    | non=>cases rx;exact SeqAt.EqAt.same _
    | bl b=>cases rx;exact SeqAt.EqAt.none_bool b
    | int b=>obtain ⟨t,rfl⟩:=rx;exact SeqAt.EqAt.none_int b t
    | str b=>obtain ⟨t,rfl⟩:=rx;exact SeqAt.EqAt.none_str b t
    | _=>exact absurd (show false=true from fx) Bool.false_ne_true
  | bl a =>
    cases ry
    cases x with
    | non=>cases rx;exact SeqAt.EqAt.bool_none a
    | bl b=>cases rx;exact SeqAt.EqAt.bool_bool a b
    | int b=>obtain ⟨t,rfl⟩:=rx;exact SeqAt.EqAt.bool_int a b t
    | str b=>obtain ⟨t,rfl⟩:=rx;exact SeqAt.EqAt.bool_str a b t
    | _=>exact absurd (show false=true from fx) Bool.false_ne_true
  | int a =>
    obtain ⟨t',rfl⟩:=ry
    cases x with
    | non=>cases rx;exact SeqAt.EqAt.int_none a t'
    | bl b=>cases rx;exact SeqAt.EqAt.int_bool a t' b
    | int b=>obtain ⟨t,rfl⟩:=rx;exact SeqAt.EqAt.int_int a t' b t
    | str b=>obtain ⟨t,rfl⟩:=rx;exact SeqAt.EqAt.int_str a t' b t
    | _=>exact absurd (show false=true from fx) Bool.false_ne_true
  | str a =>
    obtain ⟨t',rfl⟩:=ry
    cases x with
    | non=>cases rx;exact SeqAt.EqAt.str_none a t'
    | bl b=>cases rx;exact SeqAt.EqAt.str_bool a t' b
    | int b=>obtain ⟨t,rfl⟩:=rx;exact SeqAt.EqAt.str_int a t' b t
    | str b=>obtain ⟨t,rfl⟩:=rx;exact SeqAt.EqAt.str_str a t' b t
    | _=>exact absurd (show false=true from fx) Bool.false_ne_true
  | _=>exact absurd (show false=true from fy) Bool.false_ne_true
noncomputable def eqU (x:V) (u:Value):Bool:=match u with
  | .none=>eqV .non x
  | .bool b=>eqV (.bl b) x
  | .int i _=>eqV (.int i) x
  | .str z _=>eqV (.str z) x
  | _=>false
theorem eqU_of {x y:V} {u:Value} (r:RelV y u) (f:flatV y=true):eqU x u=eqV y x:=by
  cases y with
  | non=>cases r;rfl
  | bl b=>cases r;rfl
  | int i=>obtain ⟨t,rfl⟩:=r;rfl
  | str z=>obtain ⟨t,rfl⟩:=r;rfl
  | _=>exact absurd (show false=true from f) Bool.false_ne_true
theorem any_eqU {x:V}:∀ {xs:List V} {us:List Value},Vals xs us->xs.all flatV=true->us.any (eqU x)=xs.any fun y=>eqV y x
  | _,_,.nil,_=>rfl
  | y :: xs,u::us,.cons r t,f=>by
    rw [List.all_cons,Bool.and_eq_true] at f
    rw [List.any_cons,List.any_cons,eqU_of r f.1,any_eqU t f.2]
theorem mem_eqAt {A:Around} {s:Shared} {x:V} {v:Value} (rx:RelV x v) (fx:flatV x=true):∀ {xs:List V} {us:List Value},Vals xs us->xs.all flatV=true->∀ u∈us,SeqAt.EqAt A s u v (eqU x u)
  | _,_,.nil,_=>fun u hu=>by cases hu
  | y :: xs,u::us,.cons r t,f=>fun u' hu=>by
    rw [List.all_cons,Bool.and_eq_true] at f
    rcases List.mem_cons.mp hu with rfl | hu
    . rw [eqU_of r f.1];exact eqAt_V r rx f.1 fx
    . exact mem_eqAt rx fx t f.2 u' hu
noncomputable def inV (x:V) (xs:List V):Bool:=xs.any fun y=>eqV y x
noncomputable def rIn (K:PySem.W.Frag) (neg:Bool):R2:=fun x y H Q=>∃ p xs,y=.ref p/\(SqL K H p xs\/SqT K H p xs)/\flatV x=true/\xs.all flatV=true/\Q (.bl (if neg then !inV x xs else inV x xs)) H
theorem op_in_seq:OpR X (compareOp .In) (rIn X.K false):=by
  intro pins s σ H x y v u Q I rx ry h
  obtain ⟨p,xs,rfl,hq,fx,fs,q⟩:=h
  cases ry
  rcases hq with hq | hq
  . obtain ⟨its,r,pl,hz⟩:=I.list hq
    refine SeqAt.in_listAt (eqU x) pl.isList (fun w hw=>mem_eqAt rx fx r fs w (by simpa using hw)) ⟨.bl _,H,I,rfl,?_⟩
    rw [show its.toArray.any (eqU x)=its.any (eqU x) by simp,any_eqU r fs]
    exact q
  . obtain ⟨its,r,pl,hz⟩:=I.tuple hq
    refine SeqAt.in_tupleAt (eqU x) pl (fun w hw=>mem_eqAt rx fx r fs w (by simpa using hw)) ⟨.bl _,H,I,rfl,?_⟩
    rw [show its.toArray.any (eqU x)=its.any (eqU x) by simp,any_eqU r fs]
    exact q
theorem call_len_seq:CallR X (.builtin "len") (fun xs H Q=>∃ p ys,xs=[.ref p]/\(SqL X.K H p ys\/SqT X.K H p ys)/\Q (.int ys.length) H):=by
  intro pins s σ H xs us Q I r h
  obtain ⟨p,ys,rfl,hq,q⟩:=h
  obtain ⟨u,rfl,rx⟩:=vals1 r
  cases rx
  have hn:=line63
  rcases hq with hq | hq
  . obtain ⟨its,r',pl,hz⟩:=I.list hq
    have hlen:=r'.length
    exact Calls.call_len_list pl.isList (by simp only [List.size_toArray] <;> lia) ⟨.int ys.length,H,I.tok _,⟨s.toks + 1,by rw [List.size_toArray,hlen]⟩,q⟩
  . obtain ⟨its,r',pl,hz⟩:=I.tuple hq
    have hlen:=r'.length
    exact len_tuple pl (by simp only [List.size_toArray] <;> lia) ⟨.int ys.length,H,I.tok _,⟨s.toks + 1,by rw [List.size_toArray,hlen]⟩,q⟩
theorem call_len_str:CallR X (.builtin "len") (fun xs H Q=>∃ z,xs=[.str z]/\z.length<=sizeLine/\Q (.int z.length) H):=by
  intro pins s σ H xs us Q I r h
  obtain ⟨z,rfl,hz,q⟩:=h
  obtain ⟨u,rfl,t,rfl⟩:=vals1 r
  have hn:=line63
  exact len_str (by lia) ⟨.int z.length,H,I.tok _,⟨_,rfl⟩,q⟩
theorem CallR.or {f:Value} {r r':List V->Hp->VK->Prop} (h:CallR X f r) (h':CallR X f r'):CallR X f (fun xs H Q=>r xs H Q\/r' xs H Q):=by
  intro pins s σ H xs us Q I rs q
  rcases q with q | q
  . exact h pins s σ H xs us Q I rs q
  . exact h' pins s σ H xs us Q I rs q
theorem call_list_of:CallR X (.type "list") (fun xs H Q=>∃ p ys,xs=[.ref p]/\(SqL X.K H p ys\/SqT X.K H p ys)/\∀ l,H l=none->Q (.ref l) (upd H l (.lst ys))):=by
  intro pins s σ H xs us Q I r h
  obtain ⟨p,ys,rfl,hq,q⟩:=h
  obtain ⟨u,rfl,rx⟩:=vals1 r
  cases rx
  have fin:∀ (its:List Value),Vals ys its->ys.length<=sizeLine->∀ (h':Heap) (c':Nat),(∀ b o',s.heap.get? b=some o'->h'.get? b=some o') ->
      h'.get? s.heap.objs.size=some { cls:=.type "list",dict:=none,data:=.seq its.toArray c',slots:=#[] }->EP X pins σ Q (.ref s.heap.objs.size) { s with heap:=h' }:=fun its r' hz h' c' kp e =>
    ⟨.ref s.heap.objs.size,_,I.laid (t':=s.toks) kp (Nat.le_refl _) (show ObjOk X.prog X.w _ h' _ (.lst ys) from ⟨hz,its,c',r',e⟩),rfl,q _ (I.hok.fresh (Nat.le_refl _))⟩
  rcases hq with hq | hq
  . obtain ⟨its,r',pl,hz⟩:=I.list hq
    have hlen:=r'.length
    obtain ⟨o,ho,hc,n,hd⟩:=pl.isList
    exact call_list_seq p (.inl rfl) ho hc hd (fun h' c' kp e=>fin its r' hz h' c' kp e) (by simp only [List.size_toArray] <;> lia)
  . obtain ⟨its,r',pl,hz⟩:=I.tuple hq
    have hlen:=r'.length
    obtain ⟨o,ho,hc,n,hd⟩:=pl
    exact call_list_seq p (.inr rfl) ho hc hd (fun h' c' kp e=>fin its r' hz h' c' kp e) (by simp only [List.size_toArray] <;> lia)
theorem call_tuple_of:CallR X (.type "tuple") (fun xs H Q=>∃ p ys,xs=[.ref p]/\((SqL X.K H p ys/\∀ l,H l=none->Q (.ref l) (upd H l (.tup ys)))\/(SqT X.K H p ys/\Q (.ref p) H))):=by
  intro pins s σ H xs us Q I r h
  obtain ⟨p,ys,rfl,h⟩:=h
  obtain ⟨u,rfl,rx⟩:=vals1 r
  cases rx
  rcases h with ⟨hq,q⟩ | ⟨hq,q⟩
  . obtain ⟨its,r',pl,hz⟩:=I.list hq
    have hlen:=r'.length
    refine call_tuple_list pl.isList (fun h' kp=>?_) (by simp only [List.size_toArray] <;> lia)
    have I1:Inv X pins σ H { s with heap:=h' }:=I.kept (t':=s.toks) kp
    have I2:Inv X pins σ (upd H h'.objs.size (.tup ys)) { s with heap:=h'.push { cls:=.type "tuple",data:=.seq its.toArray } } :=
      I1.laid (t':=s.toks) (fun b o e=>Heap.get?_push_of_some _ e) (Nat.le_refl _) (show ObjOk X.prog X.w _ _ _ (.tup ys) from ⟨hz,its,r',IsTup.new _ _⟩)
    exact ⟨.ref h'.objs.size,_,I2,rfl,q _ (I1.hok.fresh (Nat.le_refl _))⟩
  . obtain ⟨its,r',pl,hz⟩:=I.tuple hq
    exact call_tuple_same pl ⟨.ref p,H,I,rfl,q⟩
noncomputable def tyV (K:PySem.W.Frag) (T:String) (x:V) (H:Hp):Prop:=match x with
  | .str _=>T="str"
  | .int _=>T="int"
  | .ref p=>(T="list"/\∃ xs,SqL K H p xs)\/(T="tuple"/\∃ o,K.lookup p=some o/\o.cls=.type "tuple"/\o.dict=none) \/
      (T="dict"/\((∃ kvs,H p=some (.dK kvs))\/∃ kvs,H p=some (.dT kvs)))\/(T="set"/\∃ S n,H p=some (.set S n))
  | _=>False
theorem tyV_is {pins:List (Addr × Obj)} {σ:St} {H:Hp} {s:Shared} {T:String} {x:V} {v:Value} (I:Inv X pins σ H s) (r:RelV x v) (ty:tyV X.K T x H) :
    s.TypeIs v T/\∀ a,v=.ref a->∃ ob,s.heap.get? a=some ob/\ob.dict=none:=by
  cases x with
  | str z =>
    obtain ⟨t,rfl⟩:=r
    cases (show T="str" from ty)
    exact ⟨typeIs_str s z t,fun _ e=>nomatch e⟩
  | int i =>
    obtain ⟨t,rfl⟩:=r
    cases (show T="int" from ty)
    exact ⟨typeIs_int s i t,fun _ e=>nomatch e⟩
  | ref p =>
    cases r
    rcases ty with ⟨rfl,xs,hq⟩ | ⟨rfl,o,hk,hc,hd⟩ | ⟨rfl,hk⟩ | ⟨rfl,S,n,hk⟩
    . obtain ⟨its,_,pl,_⟩:=I.list hq
      refine ⟨pl.isList.typeIs,fun a e=>?_⟩
      cases e
      obtain ⟨o,n,e,c,hd,_⟩:=pl
      exact ⟨o,e,hd⟩
    . refine ⟨⟨o,I.kIn p o hk,hc⟩,fun a e=>?_⟩
      cases e
      exact ⟨o,I.kIn _ o hk,hd⟩
    . have z:∃ o,s.heap.get? p=some o/\o.ExactDict:=by
        rcases hk with ⟨kvs,hk⟩ | ⟨kvs,hk⟩
        . obtain ⟨_,_,_,_,o,_,_,e,ex,_⟩:=I.hok p _ hk
          exact ⟨o,e,ex⟩
        . obtain ⟨_,_,_,_,o,_,_,e,ex,_⟩:=I.hok p _ hk
          exact ⟨o,e,ex⟩
      obtain ⟨o,e,ex⟩:=z
      refine ⟨⟨o,e,ex.1⟩,fun a e2=>?_⟩
      cases e2
      exact ⟨o,e,ex.2.1⟩
    . obtain ⟨o,_,_,_,e,ex,_⟩:=I.hok p _ hk
      refine ⟨⟨o,e,ex.1⟩,fun a e2=>?_⟩
      cases e2
      exact ⟨o,e,ex.2.1⟩
  | _=>exact False.elim ty
noncomputable def tBM0 (K:PySem.W.Frag) (T:String) (r:V->List V->Hp->VK->Prop) (to:TE):TE:=fun σ H Q=>to σ H fun x H1=>tyV K T x H1/\r x [] H1 Q
noncomputable def tBM (K:PySem.W.Frag) (T:String) (r:V->List V->Hp->VK->Prop) (to:TE) (t:TA):TE:=fun σ H Q=>to σ H fun x H1=>tyV K T x H1/\t σ H1 fun xs H2=>r x xs H2 Q
variable {o e:Expr} {es:List Expr} {to:TE} {t:TA} {name:Str} {apos cpos:Pos} {T id:String} {r:V->List V->Hp->VK->Prop}
theorem pe_bm0 (pa:PlainAttrs T) (slot:Slot T name id) (hty:typeOf (.builtin id)=pure (.type "method_descriptor")) (hm:MtR X id r) (ho:PE X o to)
    (hbase:attributeBase o name X.env (eval o X.env)=eval o X.env:=by rfl) (hline:(apos.endLine == cpos.line)=true:=by rfl):PE X (.Call (.Attribute o name apos) [] [] cpos) (tBM0 X.K T r to):=by
  intro pins s σ H Q I h
  refine wpAny_Call_method0_late hbase hline (thn (ho pins s σ H _ I h) fun v s1 h_q=>?_)
  obtain ⟨x,H1,I1,r1,ty,q1⟩:=h_q
  obtain ⟨h1,h2⟩:=tyV_is I1 r1 ty
  exact ⟨T,id,pa,slot,hty,h1,h2,Calls.callWith_builtin rfl (PySem.evalArgs_none (hm pins s1 σ H1 x [] v [] Q I1 r1 .nil q1))⟩
theorem pe_bm (pa:PlainAttrs T) (slot:Slot T name id) (hty:typeOf (.builtin id)=pure (.type "method_descriptor")) (hm:MtR X id r) (ho:PE X o to) (ha:PA X (e::es) t)
    (hbase:attributeBase o name X.env (eval o X.env)=eval o X.env:=by rfl)
    (hfew:((backTo cpos (starEach (e::es) X.env)).all (fun x=>!x.1) && (backToKw cpos (keywordEach [] X.env)).all (fun x=>x.1.isSome)
      && decide ((e::es).length + ([]:List Keyword).length + (if ([]:List Keyword).isEmpty then 0 else 1) < 30))=true:=by rfl)
    (hline:(apos.endLine == cpos.line)=true:=by rfl) (hs:starEach (e::es) X.env=(false,eval e X.env)::starEach es X.env:=by rfl) (hplain:(backTo cpos (starEach es X.env)).any (·.1)=false:=by rfl) :
    PE X (.Call (.Attribute o name apos) (e::es) [] cpos) (tBM X.K T r to t):=by
  intro pins s σ H Q I h
  refine wpAny_Call_method_late hbase hfew hline rfl (thn (ho pins s σ H _ I h) fun v s1 h_q=>?_)
  obtain ⟨x,H1,I1,r1,ty,q1⟩:=h_q
  obtain ⟨h1,h2⟩:=tyV_is I1 r1 ty
  refine ⟨T,id,pa,slot,hty,h1,h2,?_⟩
  have hA:=ha cpos pins s1 σ H1 _ I1 q1
  rw [hs] at hA ⊢
  refine Calls.callWith_builtin (by show (false || (backTo cpos (starEach es X.env)).any (·.1))=false;rw [hplain] <;> rfl) (Calls.evalArgs_plain ?_)
  exact thn hA fun us s2 ⟨vs,H2,I2,r2,q2⟩=>hm pins s2 σ H2 x vs v us Q I2 r1 r2 q2
end
end L2
namespace L2
open PySem PySem.Spec PyProof.Rows
noncomputable def MtM (X:Cx) (id:String) (r:V->List V->Hp->VK->Prop):Prop :=
  ∀ (pins:List (Addr × Obj)) (s:Shared) (σ:St) (H:Hp) (x:V) (xs:List V) (v:Value) (us:List Value) (Q:VK),Inv X pins σ H s->RelV x v->Vals xs us->r x xs H Q ->
    wpAny (model X.prog X.w) X.A (call (.builtin id) (v::us)) (EP X pins σ Q) X.xe s
theorem Vals.one:∀ {x:V} {us:List Value},Vals [x] us->∃ u,us=[u]/\RelV x u
  | _,_,.cons r .nil=>⟨_,rfl,r⟩
theorem Vals.zero:∀ {us:List Value},Vals [] us->us=[]
  | _,.nil=>rfl
theorem Vals.dropLast {xs:List V} {us:List Value} (h:Vals xs us):Vals xs.dropLast us.dropLast:=by
  induction h with
  | nil=>exact .nil
  | cons r t ih =>
    cases t with
    | nil=>exact .nil
    | cons q t'=>exact .cons r ih
theorem Vals.reverse {xs:List V} {us:List Value} (h:Vals xs us):Vals xs.reverse us.reverse:=by
  induction h with
  | nil=>exact .nil
  | cons r t ih=>rw [List.reverse_cons,List.reverse_cons];exact Vals.append ih (.cons r .nil)
theorem Vals.rep {xs:List V} {us:List Value} (h:Vals xs us):∀ k:Nat,Vals (List.replicate k xs).flatten (List.replicate k us).flatten
  | 0=>.nil
  | k + 1=>by
    rw [List.replicate_succ,List.replicate_succ,List.flatten_cons,List.flatten_cons]
    exact Vals.append h (Vals.rep h k)
theorem erase_last {α:Type} (l:List α):l.eraseIdx (l.length - 1)=l.dropLast:=by
  induction l with
  | nil=>rfl
  | cons a r ih =>
    cases r with
    | nil=>rfl
    | cons b r =>
      have e:(a::b::r).length - 1=((b::r).length - 1) + 1:=by
        have h1:(a::b::r).length=r.length + 2:=rfl
        have h2:(b::r).length=r.length + 1:=rfl
        lia
      rw [e,List.eraseIdx_cons_succ,ih]
      all_goals rfl
theorem foldl_rep (its:List Value):∀ (k:Nat) (acc:List Value),
    List.foldl (fun x1 x2=>x1++x2) acc.toArray (List.replicate k its.toArray)=(acc++(List.replicate k its).flatten).toArray
  | 0,acc=>by simp
  | k + 1,acc=>by
    have e:acc.toArray++its.toArray=(acc++its).toArray:=by simp
    have e2:(acc++its)++(List.replicate k its).flatten=acc++(List.replicate (k + 1) its).flatten:=by
      rw [List.replicate_succ,List.flatten_cons,List.append_assoc]
    rw [<- e2,<- foldl_rep its k (acc++its),<- e,List.replicate_succ,List.foldl_cons]
section
variable {X:Cx} {pins:List (Addr × Obj)} {σ:St} {H:Hp} {s:Shared} {l b:Addr} {xs ys zs:List V}
theorem Inv.lset {its its':List Value} {n:Nat} {f:Array Value->Array Value} {t':Nat} (I:Inv X pins σ H s) (hH:H l=some (.lst xs))
    (e:s.heap.get? l=some { cls:=.type "list",data:=.seq its.toArray n }) (hf:f its.toArray=its'.toArray) (hv:Vals ys its') (hz:ys.length<=sizeLine) :
    Inv X pins σ (upd H l (.lst ys)) { s with heap:=s.heap.update l (Obj.mapSeq f),toks:=t' }:=by
  have q:=PySem.IsL.update e f
  rw [hf] at q
  refine I.write (x:=l) (e:=l) (by rw [hH];exact trivial) (.inl rfl) (fun b' u hb hu=>(Heap.get?_update_other s.heap (Obj.mapSeq f) (Ne.symm hb)).trans hu) ⟨_,q⟩ ?_
  exact ⟨hz,its',_,hv,q⟩
theorem Inv.lnew {its:List Value} {t':Nat} (I:Inv X pins σ H s) (hv:Vals ys its) (hz:ys.length<=sizeLine) :
    Inv X pins σ (upd H s.heap.objs.size (.lst ys)) { s with heap:=s.heap.push { cls:=.type "list",data:=.seq its.toArray },toks:=t' } :=
  I.laid (fun _ _ q=>Heap.get?_push_of_some _ q) (Nat.le_refl _) ⟨hz,its,0,hv,Heap.get?_push_size _ rfl⟩
theorem Inv.fresh (I:Inv X pins σ H s):H s.heap.objs.size=none:=I.hok.fresh (Nat.le_refl _)
theorem Inv.lstM (I:Inv X pins σ H s) (hH:H l=some (.lst xs)):xs.length<=sizeLine/\∃ (its:List Value) (n:Nat),Vals xs its/\xs.length=its.length/\s.heap.get? l=some { cls:=.type "list",data:=.seq its.toArray n }:=by
  obtain ⟨z,its,n,r,e⟩:=I.hok l _ hH
  exact ⟨z,its,n,r,r.length,e⟩
theorem notLongL {n:Nat} (h:n<=sizeLine):Builtin.List.listTooLong n=false:=by
  unfold Builtin.List.listTooLong
  exact decide_eq_false (by lia)
end
section
variable {X:Cx}
noncomputable def rAppend:V->List V->Hp->VK->Prop:=fun x vs H Q=>∃ l xs y,x=.ref l/\vs=[y]/\H l=some (.lst xs)/\xs.length < sizeLine/\Q .non (upd H l (.lst (xs++[y])))
theorem mt_append:MtM X "list.append" rAppend:=by
  intro pins s σ H x vs v us Q I rx rv h
  obtain ⟨l,xs,y,rfl,rfl,hH,hz,q⟩:=h
  cases rx
  obtain ⟨u,rfl,ru⟩:=rv.one
  obtain ⟨z,its,n,r,hl,e⟩:=I.lstM hH
  refine call_meets F.slot_list_append ⟨_,e,rfl⟩ F.entry_list_append (F.args_list_append_2 _ _) (PySem.list_append l its.toArray n u (by rw [List.size_toArray];lia)) ⟨e,?_⟩
  refine ⟨.non,_,I.lset (its':=its++[u]) hH e (by simp) (r.append (.cons ru .nil)) ?_,rfl,q⟩
  rw [List.length_append,List.length_singleton]
  lia
noncomputable def rExtend:V->List V->Hp->VK->Prop:=fun x vs H Q=>∃ l b xs zs,x=.ref l/\vs=[.ref b]/\H l=some (.lst xs)/\H b=some (.lst zs)/\xs.length + zs.length<=sizeLine/\Q .non (upd H l (.lst (xs++zs)))
theorem mt_extend:MtM X "list.extend" rExtend:=by
  intro pins s σ H x vs v us Q I rx rv h
  obtain ⟨l,b,xs,zs,rfl,rfl,hH,hB,hz,q⟩:=h
  cases rx
  obtain ⟨u,rfl,ru⟩:=rv.one
  cases ru
  obtain ⟨z,its,n,r,hl,e⟩:=I.lstM hH
  obtain ⟨z2,its2,n2,r2,hl2,e2⟩:=I.lstM hB
  have hsz:its.toArray.size + its2.toArray.size<=sizeLine:=by rw [List.size_toArray,List.size_toArray];lia
  have hlong:¬ (!its.toArray.isEmpty && Builtin.List.listTooLong (its.toArray.size + its2.toArray.size))=true:=by
    rw [notLongL hsz,Bool.and_false]
    exact Bool.false_ne_true
  refine call_meets F.slot_list_extend ⟨_,e,rfl⟩ F.entry_list_extend (F.args_list_extend_2 _ _)
    (AutoSeq1.list_extend_list_list_0 l its.toArray n b its2.toArray n2 hlong (by rw [List.size_toArray];lia) (by lia)) ⟨e,e2,?_⟩
  refine ⟨.non,_,I.lset (its':=its++its2) hH e (by simp) (r.append r2) ?_,rfl,q⟩
  rw [List.length_append]
  lia
noncomputable def rPop:V->List V->Hp->VK->Prop:=fun x vs H Q=>∃ l xs y,x=.ref l/\vs=[]/\H l=some (.lst xs)/\xs[xs.length - 1]? = some y/\Q y (upd H l (.lst xs.dropLast))
theorem mt_pop:MtM X "list.pop" rPop:=by
  intro pins s σ H x vs v us Q I rx rv h
  obtain ⟨l,xs,y,rfl,rfl,hH,hy,q⟩:=h
  cases rx
  have hus:=rv.zero
  subst hus
  obtain ⟨z,its,n,r,hl,e⟩:=I.lstM hH
  obtain ⟨u,hu,ru⟩:=r.get hy
  have hy':its.toArray[its.toArray.size - 1]? = some u:=by
    show its.toArray[its.length - 1]? = some u
    rw [<- Array.getElem?_toList,<- hl]
    exact hu
  refine call_meets F.slot_list_pop ⟨_,e,rfl⟩ F.entry_list_pop (F.args_list_pop_1 _) (MeetsSeq.list_pop_last l its.toArray n u hy' (by rw [List.size_toArray];lia)) ⟨e,?_⟩
  refine ⟨y,_,I.lset (its':=its.dropLast) hH e ?_ r.dropLast ?_,ru,q⟩
  . show its.toArray.eraseIdxIfInBounds (its.toArray.size - 1)=its.dropLast.toArray
    rw [List.size_toArray,List.eraseIdxIfInBounds_toArray,erase_last]
  . rw [List.length_dropLast]
    lia
noncomputable def rCat:R2:=fun x y H Q=>∃ l b xs zs,x=.ref l/\y=.ref b/\H l=some (.lst xs)/\H b=some (.lst zs)/\xs.length + zs.length<=sizeLine/\∀ p,H p=none->Q (.ref p) (upd H p (.lst (xs++zs)))
noncomputable def rRep:R2:=fun x y H Q=>∃ l k xs,x=.ref l/\y=.int k/\H l=some (.lst xs)/\-(2 ^ 63)<=k/\k < 2 ^ 63/\xs.length * k.toNat<=sizeLine /\
  ∀ p,H p=none->Q (.ref p) (upd H p (.lst (List.replicate k.toNat xs).flatten))
theorem len_rep {α:Type} (xs:List α) (k:Nat):(List.replicate k xs).flatten.length=k * xs.length:=by
  induction k with
  | zero=>simp
  | succ k ih=>rw [List.replicate_succ,List.flatten_cons,List.length_append,ih,Nat.succ_mul,Nat.add_comm]
theorem op_rep:OpR X (binaryOp .Mult) rRep:=by
  intro pins s σ H x y v u Q I rx ry h
  obtain ⟨l,k,xs,rfl,rfl,hH,h1,h2,hz,q⟩:=h
  cases rx
  obtain ⟨t,rfl⟩:=ry
  obtain ⟨z,its,n,r,hl,e⟩:=I.lstM hH
  have hlen:its.toArray.size * k.toNat<=sizeLine:=by rw [List.size_toArray,<- hl];exact hz
  have hcap:¬ its.toArray.size * k.toNat > (2 ^ 63 - 1) / 8:=by
    have:(sizeLine:Nat)<=(2 ^ 63 - 1) / 8:=by decide
    lia
  have hfit:¬ (!Builtin.List.listFitsIndex k)=true:=by
    rw [fitsIndex_both h1 h2]
    exact Bool.false_ne_true
  have hlong:¬ Builtin.List.listTooLong (its.toArray.size * k.toNat)=true:=by
    rw [notLongL hlen]
    exact Bool.false_ne_true
  have hnew:List.foldl (fun x1 x2=>x1++x2) #[] (List.replicate (if its.toArray.isEmpty=true then 0 else k.toNat) its.toArray)=(List.replicate k.toNat its).flatten.toArray:=by
    have f0:∀ m:Nat,List.foldl (fun x1 x2=>x1++x2) #[] (List.replicate m its.toArray)=(List.replicate m its).flatten.toArray:=fun m=>by
      have:=foldl_rep its m []
      rw [List.nil_append] at this
      exact this
    rw [f0]
    cases its with
    | nil=>simp
    | cons a r'=>rw [if_neg (by simp)]
  refine wpAny_binaryOp_repeat_ref (T:="list") (U:="int") (by decide) ⟨_,e,rfl⟩ (fun s'=>typeIs_int s' k t) noFill_list_mul F.fills_int_mul F.slot_int_rmul repeat_list F.slot_int_index.lookup
    (call_meets F.slot_int_rmul (typeIs_int s k t) F.entry_int_rmul (F.args_int_rmul_2 _ _) (int___rmul___int_list k t l its.toArray n)
      ⟨e,rfl,⟨_,e,rfl⟩,call_meets F.slot_list_mul ⟨_,e,rfl⟩ F.entry_list_mul (F.args_list_mul_2 _ _) (AutoListH.list___mul___list_int_3 l its.toArray n k t hfit hcap hlong) ⟨e,?_⟩⟩)
  rw [hnew]
  exact ⟨.ref _,_,I.lnew (t':=s.toks) (r.rep k.toNat) (by rw [len_rep,Nat.mul_comm];exact hz),rfl,q _ I.fresh⟩
end
end L2
namespace Att
open PySem PySem.W PySem.Calls PyProof.Rows
theorem ints_of_wellAll {P:Params} {h:Heap}:∀ (ns:List Int) (vs:List Value),WellAll P h vs (ns.map WData.int)->IntsAre vs ns:=by
  intro ns
  induction ns with
  | nil =>
    intro vs w
    rw [List.map_nil] at w
    cases w
    exact .nil
  | cons n ns ih =>
    intro vs w
    rw [List.map_cons] at w
    cases w with
    | cons a b =>
      cases a
      exact .cons _ _ (ih _ b)
theorem script_of {l:OpenLaw} {n:Nat} (hn:l.most=some n) {P:Params} {h:Heap} {args:List WData} {vals:List Value}
    (hpre:l.row.toRowW.claim.pre args=true) (hwl:WellAll P h vals args) :
    ∃ a vs ns,vals=[Value.ref a]/\args=[WData.list (ns.map WData.int)]/\h.get? a=some { cls:=.type "list",data:=.seq vs.toArray }/\IntsAre vs ns/\ns.length<=n:=by
  have hsh:WShape.hasAll [] args [.list .int]=true:=(pre_splitW hpre).1
  have hc:l.pre.holds [] { args:=args }=true:=(pre_splitW hpre).2
  obtain ⟨d,r,rfl,h1,h2⟩:=hasAllW_cons hsh
  obtain rfl:=hasAllW_nil h2
  obtain ⟨xs,rfl,h3⟩:=hasW_list h1
  obtain ⟨ns,rfl⟩:=items_int h3
  have hlen:ns.length<=n:=by
    unfold OpenLaw.pre at hc
    have h4:(WTm.not (.lt (.lit (.int (n:Int))) (.len (.arg 0)))).holds [] { args:=[.list (ns.map .int)] }=true:=by
      have h4:=(holds_andW hc).1
      rw [hn] at h4
      exact h4
    have h5:=condW_of h4 (w_not (w_lt w_lit (w_len_list (w_arg rfl))))
    rw [List.length_map] at h5
    refine Nat.le_of_not_lt fun q=>?_
    have q':(n:Int) < ((ns.length:Nat):Int):=by lia
    first
      | (rw [decide_eq_true q'] at h5;exact absurd h5 (by decide))
      | (simp at h5;lia)
  cases hwl with
  | cons w1 w2 =>
    cases w2
    cases w1 with
    | list ho hall=>exact ⟨_,_,ns,rfl,rfl,ho,ints_of_wellAll ns _ hall,hlen⟩
theorem post_true (l:OpenLaw) (args:List WData):l.row.toRowW.claim.post args (.bool true) args=true :=
  postW_of (r:=l.row.toRowW) (X:=(true == true))
    (show WShape.has [] (.bool true) .bool=true by first | rfl | decide | simp [WShape.has,WShape.arms,WShape.armsAll])
    (show (WTm.eq .res (.lit (.bool true))).value [] { args:=args,res:=some (.bool true),after:=args }=some (.bool (true == true)) from w_eq_bool (w_res rfl) w_lit) rfl
theorem attach_call {l:OpenLaw} {n:Nat} {q:Program} {loose:List Str} {XP:(Str->Option Value)->Heap->Prop} {YP:World->Heap->Prop} {d:DefRec}
    (hn:l.most=some n) (hdf:d.params.defaults=[])
    (call:∀ (w:World) (s₀ s₁:Shared) (mg mb:Str->Option Value) (fa:Addr) (o:Obj) (pm cd doc:Value) (a:Addr) (vs:List Value) (ns:List Int),
      Ground q loose [] XP w s₀ mg mb s₁.heap->YP w s₁.heap ->
      s₁.heap.get? fa=some o->o.data=.func (docDef d.name d.params d.body d.scope pm cd doc)->s₁.heap.CodeRec cd d.name->mg d.name=some (.ref fa) ->
      s₁.heap.get? a=some { cls:=.type "list",data:=.seq vs.toArray }->IntsAre vs ns->ns.length<=n->s₁.gens=#[] ->
      codeAny (model l.prog w) callerA (.call (.ref fa) ⟨[.ref a],[]⟩) (fun r s'=>r=.ok (.ret (.bool true))/\OldK s₁.heap s'.heap/\s'.os=s₁.os/\AllBare s'.gens) s₁) :
    WalkO q loose XP YP l.row.toRowW d [] (fun f vs=>PySem.call f vs):=by
  intro w s₀ s₁ mg mb G Y fa o pm cd doc dV kV ho hd hcd hD hmg hg args vals as hpre hlay hrd hwl hlo
  obtain rfl:dV=.none:=Dflts.none hD hdf
  obtain rfl:kV=.none:=Dflts.noKw hD
  obtain ⟨a,vs,ns,rfl,rfl,hobj,hints,hlen⟩:=script_of hn hpre hwl
  refine enter_call (codeAny_mono (call w s₀ s₁ mg mb fa o pm cd doc a vs ns G Y ho (fd_plain hd) hcd hmg hobj hints hlen hg) fun r s' hq=>?_)
  obtain ⟨rfl,h2,h3,h4⟩:=hq
  exact ⟨.inl ⟨.bool true,.bool true,[],rfl,fun _=>rfl,.bool true,post_true l _,fun _=>⟨List.Pairwise.nil,fun _ hm=>(nomatch hm)⟩⟩,h2,h3,h4⟩
end Att
namespace L2
open PySem PySem.Spec PyProof.Rows
theorem vals_ints:∀ {vs:List Value} {ns:List Int},IntsAre vs ns->Vals (ns.map V.int) vs
  | _,_,.nil=>.nil
  | _,_,.cons n t h=>.cons ⟨t,rfl⟩ (vals_ints h)
end L2
namespace L2
open PySem PySem.Spec PyProof.Rows
end L2
namespace L2
open PySem PySem.Spec PyProof.Rows
noncomputable def defArgs (s:Stmt):Arguments:=match s with
  | .FunctionDef _ a _ _ _ _ _ _ _ _=>a
  | _=>{ posonlyargs:=[],args:=[],vararg:=none,kwonlyargs:=[],kw_defaults:=[],kwarg:=none,defaults:=[] }
noncomputable def defBody (s:Stmt):List Stmt:=match s with
  | .FunctionDef _ _ b _ _ _ _ _ _ _=>b
  | _=>[]
noncomputable def defScope (s:Stmt):Scope:=match s with
  | .FunctionDef _ _ _ _ _ _ sc _ _ _=>sc
  | _=>{ kind:=.function,names:=[],isGenerator:=false,isCoroutine:=false }
noncomputable abbrev CX0:CXT:=fun _ _ _ _ _ _=>False
noncomputable abbrev E0:XK:=fun _ _ _=>False
theorem pass0 {X:Cx}:Passes CX0 X E0:=fun _ _ _ _ _ _ _ h=>h.elim
structure Fun (K:PySem.W.Frag) (x qual:Str) (st:Stmt) (f:Addr) (fd:FuncData):Prop where
  ex : ∃ (oc:Value) (od:Option Addr) (kV doc pm:Value) (an:Option Addr) (cdv ct:Value) (osl:Array (Option Value)),
    fd=PySem.W.fnOf x qual (defArgs st) (defBody st) (defScope st) .none kV doc pm an cdv ct/\K.lookup f=some ⟨oc,od,.func fd,osl⟩/\PySem.W.codeIn K cdv qual=true
  kp:PySem.W.keepIn K (.ref f)=true
section
variable {P:Program} {w:World} {K:PySem.W.Frag} {mg:Str->Option Value} {base:Heap}
theorem Fun.ok {x qual:Str} {st:Stmt} {f:Addr} {fd:FuncData} {N ps:List Str} {k:Nat} {sp:Sp} (F:Fun K x qual st f fd) (S:FnScope N ps (defScope st)) (len:∀ vs H Q E,sp vs H Q E->vs.length=ps.length)
    (hbody:∀ (cdv:Value) (A:Around) (outer:List Env) (s:Shared) (H:Hp) (vs:List V) (Q:VK) (E:XK),Room k (A.deeper (envOfC qual (defScope st) s.heap.objs.size f cdv))->sp vs H Q E ->
      ∃ t,PSs (cxOf CX0 P w K mg base N qual (defScope st) f cdv A outer s H E).nox (defBody st) t/\t { nx:=fun _ H'=>Q .non H',rt:=Q } (start N vs) H):FnOk P w K mg base CX0 (k + 1) f fd ps sp:=by
  obtain ⟨oc,od,kV,doc,pm,an,cdv,ct,osl,rfl,lk,hcd⟩:=F.ex
  refine fn_of lk hcd S len fun A outer s H vs Q E hr hsp=>?_
  obtain ⟨t,h,q⟩:=hbody cdv A outer s H vs Q E hr hsp
  exact ⟨t,h.nox,q⟩
theorem Fun.binds {x qual:Str} {st:Stmt} {f:Addr} {fd:FuncData} {ps:List Str} (F:Fun K x qual st f fd)
    (h:∀ (kV doc pm:Value) (an:Option Addr) (cdv ct:Value) (us:List Value),us.length=ps.length->bindArgs (PySem.W.fnOf x qual (defArgs st) (defBody st) (defScope st) .none kV doc pm an cdv ct) ⟨us,[]⟩=pure (ps.zip us)):Binds K fd ps []:=by
  obtain ⟨oc,od,kV,doc,pm,an,cdv,ct,osl,rfl,lk,hcd⟩:=F.ex
  exact .all (h kV doc pm an cdv ct)
theorem fun_mk {x qual:Str} {st:Stmt} {f:Addr} {oc:Value} {od an:Option Addr} {osl:Array (Option Value)} {kV doc pm cdv ct:Value} (l:K.lookup f=some ⟨oc,od,.func (PySem.W.fnOf x qual (defArgs st) (defBody st) (defScope st) .none kV doc pm an cdv ct),osl⟩)
    (c:PySem.W.codeIn K cdv qual=true) (k:PySem.W.keepIn K (.ref f)=true):Fun K x qual st f (PySem.W.fnOf x qual (defArgs st) (defBody st) (defScope st) .none kV doc pm an cdv ct):=⟨⟨oc,od,kV,doc,pm,an,cdv,ct,osl,rfl,l,c⟩,k⟩
end
theorem small1000 {n:Nat} (h:n<=1000):n < sizeLine:=Nat.lt_of_le_of_lt h (by decide)
section
variable {X:Cx}
theorem pv (i:Nat) {x:Str} {pos:Pos} (hN:X.N[i]? = some x:=by rfl) (hv:Vis X.env.scope x:=by first | exact Or.inl rfl | exact Or.inr (Or.inl rfl) | exact Or.inr (Or.inr rfl)) (hd:(x == ("__debug__":Str))=false:=by decide)
    (hcd:(x == ("__classdict__":Str))=false:=by decide):PE X (.Name x pos) (tVar i):=pe_var hN hv hd hcd
end
noncomputable def Same (H H':Hp):Prop:=∀ b o,H b=some o->H' b=some o
theorem Same.refl (H:Hp):Same H H:=fun _ _ h=>h
end L2
set_option maxHeartbeats 4000000
namespace L2
open PySem PySem.Spec PyProof.Rows
end L2
namespace L2
open PySem PySem.Spec PyProof.Rows
theorem compLoop_any {prog:Program} {w:World} {A:Around} {R:Result->Shared->Prop} {s:Shared} {elt target iter:Expr} {ifs:List Expr} {scope:Scope} {pos:Pos} {it acc:Value} {env:Env} (I:Nat->Shared->Prop)
    (turn : ∀ n s,I n s->wpAny (model prog w) A (pyNext it) (fun r s₁=>match r with
      | none=>R (.ok .next) s₁
      | some v => wpAny (model prog w) A (letOwnedTupleGo target it v) (fun _ s₁'=>wpAny (model prog w) A (assign target env v) (fun _ s₂ =>
          wpAny (model prog w) A (forIn ifs true fun c r=>if r=true then do let ok <- isTrue c env (eval c env);pure (ForInStep.yield ok) else pure (ForInStep.yield r)) (fun ok s₃ =>
            if ok=true then wpAny (model prog w) A (eval elt env) (fun x s₄ =>
              wpAny (model prog w) A (call (.builtin "list.append") [acc,x]) (fun _ s₅=>∃ m,m < n/\I m s₅) (fun _ _=>False) s₄) (fun _ _=>False) s₃
            else ∃ m,m < n/\I m s₃) (fun _ _=>False) s₂) (fun _ _=>False) s₁') (fun _ _=>False) s₁) (fun _ _=>False) s)
    (n:Nat) (h:I n s) :
    codeAny (model prog w) A (.compLoop (.ListComp elt [⟨target,iter,ifs,0⟩] scope pos) 0 it acc env) R s:=by
  refine codeAny_loop rfl I (fun n s hI=>?_) n h
  show wpAny _ A ((compTurn (.ListComp elt [⟨target,iter,ifs,0⟩] scope pos) 0 it acc env).onRaise (fun x=>do noteFrame x env;theTreesLotGoes x)) _ _ s
  refine wpAny_noted ?_
  rw [compTurn_list]
  refine wpAny_bind (wpAny_standAt (wpAny_bind (wpAny_mono (turn n s hI) (fun r s₁ h₁=>?_) fun _ _ h'=>h'.elim)))
  cases r with
  | none=>exact wpAny_pure h₁
  | some v =>
    refine wpAny_bind (wpAny_mono h₁ (fun _ s₁' h₁'=>?_) fun _ _ h'=>h'.elim)
    refine wpAny_bind (wpAny_mono h₁' (fun _ s₂ h₂=>wpAny_bind (wpAny_mono h₂ (fun ok s₃ h₃=>?_) fun _ _ h'=>h'.elim)) fun _ _ h'=>h'.elim)
    cases ok with
    | false=>exact wpAny_pure ⟨rfl,h₃⟩
    | true =>
      exact wpAny_bind (wpAny_bind (wpAny_mono h₃ (fun x s₄ h₄=>wpAny_bind (wpAny_mono h₄ (fun _ s₅ h₅=>wpAny_pure (wpAny_pure ⟨rfl,h₅⟩)) fun _ _ h'=>h'.elim)) fun _ _ h'=>h'.elim))
noncomputable def Cx.comp (X:Cx) (scope:Scope) (cl:List (Str × Addr)) (N:List Str) (pins:List (Addr × Obj)) (s:Shared) (H:Hp) (fp:List Addr):Cx where
  prog:=X.prog
  w := X.w
  K := X.K
  mg:=X.mg
  base:=X.base
  A := X.A
  N := N
  s₀:=s
  H₀:=H
  env:=compEnvC scope cl s.heap.objs.size X.env
  outer:=X.stack
  stack:=X.stack
  ex:=fp
  fn:=fun _=>false
  calm:=X.calm
  pn:=X.pn++pins
  xe:=fun _ _=>False
noncomputable def compStart (nt:Nat) (frs:List (Str × Nat)) (σ:St):St:=List.replicate nt none++frs.map fun p=>(σ[p.2]?).join
structure CompScope (X:Cx) (scope:Scope) (cl:List (Str × Addr)) (ts:List Str) (frs:List (Str × Nat)):Prop where
  clos:closureFor scope X.env=pure cl
  kind:scope.kind=.function
  nocell:∀ y∈scope.names,y.2≠.cell
  names:∀ y∈scope.names,y.2=.local->scope.names.lookup y.1=some .local
  sub:∀ p∈cl,X.env.cells.lookup p.1=some p.2
  has:∀ p∈(relabel scope X.env).names,p.2=.cell\/p.2=.free->(cl.lookup p.1).isSome=true
  out:∀ p∈frs,X.N[p.2]? = some p.1/\(X.env.kindOf p.1=some .cell\/X.env.kindOf p.1=some .free)/\((relabel scope X.env).names.lookup p.1=some .cell\/(relabel scope X.env).names.lookup p.1=some .free)/\(cl.lookup p.1).isSome=true
section
variable {X:Cx} {scope:Scope} {cl:List (Str × Addr)} {ts:List Str} {frs':List (Str × Nat)} {pins:List (Addr × Obj)} {σ:St} {H:Hp} {s:Shared} {fp:List Addr}
theorem CompScope.subL (S:CompScope X scope cl ts frs') {x:Str} {c:Addr} (h:cl.lookup x=some c):X.env.cells.lookup x=some c:=S.sub (x,c) (PySem.mem_of_lookup h)
theorem CompScope.inv (S:CompScope X scope cl ts frs') (I:Inv X pins σ H s) (hf:∀ b∈fp,FpOk X pins H b) (hlt:∀ b∈fp,b < s.heap.objs.size) {h₁:Heap} {tk:Nat} {m:Str->Option Value} (hns:h₁.Ns s.heap.objs.size m)
    (hk:∀ b o,s.heap.get? b=some o->h₁.get? b=some o):Inv (X.comp scope cl (ts++frs'.map (·.1)) pins s H fp) [] (compStart ts.length frs' σ) H { s with heap:=h₁,toks:=tk }:=by
  have hC:∀ b o,s.heap.get? b=some o->b≠s.heap.objs.size:=fun b o e=>Nat.ne_of_lt (Heap.lt_size e)
  have hcell:∀ x c,cl.lookup x=some c->∃ v,h₁.IsCell c v:=fun x c e=>by
    obtain ⟨v,o,ho,hd⟩:=I.cell x c (S.subL e)
    exact ⟨v,o,hk c o ho,hd⟩
  refine ⟨⟨I.ok.mod,?_,I.ok.glob,I.ok.blt,Nat.le_refl _,fun x y c h1 h2=>I.ok.inj x y c (S.subL h1) (S.subL h2),fun x hx=>?_,fun x c z=>(by cases z),I.ok.hd,I.ok.frames,.inl rfl,fun b hb=>⟨Nat.ne_of_lt (hlt b hb),fun x c e=>?_⟩,I.bs,Nat.le_trans I.ok.bsz I.sz,fun b o e hb=>?_,fun b hb z=>?_,I.stack,I.stkFree⟩,
    rfl,I.bare,Un.kept hk,⟨m,hns,fun i x v h1 h2 h3=>?_⟩,hcell,I.hok.fresh (Nat.le_refl _),fun x c e=>I.freeC x c (S.subL e),fun p hp=>?_,I.hok.kept hk,?_⟩
  . exact S.kind
  . have hx':(relabel scope X.env).names.lookup x=some .cell\/(relabel scope X.env).names.lookup x=some .free:=hx
    have:(cl.lookup x).isSome=true:=by
      rcases hx' with e | e
      . exact S.has (x,.cell) (PySem.mem_of_lookup e) (.inl rfl)
      . exact S.has (x,.free) (PySem.mem_of_lookup e) (.inr rfl)
    exact Option.isSome_iff_exists.mp this
  . exact (hf b hb).2.2.2.2.1 x c (S.subL e)
  . obtain ⟨_,_,_,h4,_⟩:=hf b hb
    rcases h4 with h4 | h4
    . exact I.ok.noex b o e h4
    . exact absurd (Nat.lt_of_lt_of_le (Heap.lt_size e) (Nat.le_trans I.ok.bsz h4)) (Nat.lt_irrefl _)
  . obtain ⟨_,h2,h3,_⟩:=hf b hb
    rcases List.mem_cons.mp (I.stkSub b z) with e | e
    . exact h2 e
    . exact h3 e
  . have hi : ts.length<=i:=by
      by_cases hi:ts.length<=i
      . exact hi
      . have:(compStart ts.length frs' σ)[i]? = some none:=by
          unfold compStart
          rw [List.getElem?_append_left (by simp;lia),List.getElem?_replicate,if_pos (by lia)]
        rw [this] at h2;cases h2
    obtain ⟨p,hp,e1,e2⟩:∃ p∈frs',p.1=x/\(σ[p.2]?).join=some v:=by
      have h1':(ts++frs'.map (·.1))[i]? = some x:=h1
      have h2':(compStart ts.length frs' σ)[i]? = some (some v):=h2
      unfold compStart at h2'
      rw [List.getElem?_append_right hi,List.getElem?_map] at h1'
      rw [List.getElem?_append_right (by simpa using hi),List.getElem?_map,List.length_replicate] at h2'
      cases e:frs'[i - ts.length]? with
      | none=>rw [e] at h1';cases h1'
      | some p =>
        rw [e] at h1' h2'
        exact ⟨p,List.mem_of_getElem? e,Option.some.inj h1',Option.some.inj h2'⟩
    obtain ⟨o1,o2,o3,o4⟩:=S.out p hp
    rw [e1] at o1 o2 o3 o4
    have e3:σ[p.2]? = some (some v):=by
      cases e:σ[p.2]? with
      | none=>rw [e] at e2;cases e2
      | some q=>rw [e] at e2;exact congrArg some e2
    obtain ⟨m',_,hl⟩:=I.loc
    have hv:Vis X.env.scope x:=by
      rcases o2 with o2 | o2
      . exact .inr (.inl o2)
      . exact .inr (.inr o2)
    obtain ⟨u,r,l⟩:=hl p.2 x v o1 e3 hv
    refine ⟨u,r,.inr ⟨o3,?_⟩⟩
    obtain ⟨c,hc⟩:=Option.isSome_iff_exists.mp o4
    rcases l with ⟨k,_⟩ | ⟨_,c',e,ob,ho,hd⟩
    . rcases o2 with o2 | o2 <;> (rw [o2] at k;cases k)
    . have:c'=c:=by have:=S.subL hc;rw [this] at e;exact (Option.some.inj e).symm
      subst this
      exact ⟨c',hc,ob,hk c' ob ho,hd⟩
  . have hp':p∈X.pn++pins:=by
      have:p∈(X.pn++pins)++[]:=hp
      rwa [List.append_nil] at this
    obtain ⟨e,n,ne,nf,d⟩:=I.pin p hp'
    refine ⟨hk _ _ e,n,hC _ _ e,fun z=>?_,d⟩
    rcases List.mem_cons.mp (I.stkSub _ z) with e' | e'
    . exact ne e'
    . exact nf e'
  . show (compStart ts.length frs' σ).length=(ts++frs'.map (·.1)).length
    unfold compStart
    simp
theorem CompScope.after (I:Inv X pins σ H s) (hf:∀ b∈fp,FpOk X pins H b) {N:List Str} {σ':St} {H':Hp} {s':Shared} (J:Inv (X.comp scope cl N pins s H fp) [] σ' H' s') {h':Heap} (hs:Heap.SameBut s.heap.objs.size s'.heap h') :
    Inv X pins σ H' { s' with heap:=h' }:=by
  have hC:∀ b o,s.heap.get? b=some o->b≠s.heap.objs.size:=fun b o e=>Nat.ne_of_lt (Heap.lt_size e)
  have fr:H' s.heap.objs.size=none:=J.free
  refine I.call' (s':={ s' with heap:=h' }) (ch:=fp) J.os ?_ ?_ J.bare fun b hb=>?_
  . have u:=J.base
    exact ⟨fun b o e n h1 h2=>(hs.2 b (hC b o e)).trans (u.keep b o e n h1 h2),fun b o e n h1 h2=>by
        obtain ⟨sl,q⟩:=u.slot b o e n h1 h2
        exact ⟨sl,(hs.2 b (hC b o e)).trans q⟩,u.free,fun b o e h2=>by
        obtain ⟨o',q⟩:=u.there b o e h2
        exact ⟨o',(hs.2 b (hC b o e)).trans q⟩,u.tups,u.frzs,u.tbls⟩
  . intro b ob e
    refine (J.hok b ob e).stay (fun c w' hc q=>(hs.2 c ?_).trans q) (fun _ q=>q) fun _ _ q=>q
    rintro rfl
    rcases hc with hc | hc
    . rw [<- hc,fr] at e;cases e
    . rw [fr] at hc;cases hc
  . obtain ⟨h1,h2,h3,h4,h5,h6⟩:=hf b hb
    exact ⟨h4,h2,h5,h6⟩
end
noncomputable def PIfs (X:Cx) (ifs:List Expr) (t:TT):Prop :=
  ∀ (pins:List (Addr × Obj)) (s:Shared) (σ:St) (H:Hp) (Q:Bool->Hp->Prop),Inv X pins σ H s->t σ H Q ->
    wpAny (model X.prog X.w) X.A (forIn ifs true fun c r=>if r=true then do let ok <- isTrue c X.env (eval c X.env);pure (ForInStep.yield ok) else pure (ForInStep.yield r)) (TP X pins σ Q) X.xe s
noncomputable def tTrue:TT:=fun _ H Q=>Q true H
theorem pifs_nil {X:Cx}:PIfs X [] tTrue:=fun _ _ _ H _ I h=>wpAny_tests_nil ⟨H,I,h⟩
noncomputable def tComp (nt:Nat) (frs:List (Str × Nat)) (wi:TI) (g:TG) (tt:TT) (te:TE):TE:=fun σ H Q=>wi σ H fun J H1=>∀ l,H1 l=none->∃ W:Nat->Nat->St->Hp->Prop,(∃ m,W 0 m (compStart nt frs σ) (upd H1 l (.lst []))) /\
  ∀ i m τ H,W i m τ H->(J.stop i H/\Q (.ref l) H)\/(J.go i H/\∀ x H',J.yld i H x H'->g x τ H' fun τ2 H2=>tt τ2 H2 fun ok H3 =>
    if ok=true then te τ2 H3 fun y H4=>∃ ys,H4 l=some (.lst ys)/\ys.length < sizeLine/\∃ m',m' < m/\W (i + 1) m' τ2 (upd H4 l (.lst (ys++[y]))) else ∃ m',m' < m/\W (i + 1) m' τ2 H3)
end L2
namespace L2
open PySem PySem.Spec PyProof.Rows PySem.Builtin.Str
noncomputable def cutS (z:Str) (lo hi:Option Int):Str:=⟨((z.cps.toList.drop (HT.sIx z.cps.toList.length 0 lo)).take (HT.sIx z.cps.toList.length z.cps.toList.length hi - HT.sIx z.cps.toList.length 0 lo)).toArray⟩
theorem clipS_eq (v:Int) (n d:Nat):max 0 (min (if v < 0 then v + (n:Int) else v) (n:Int))=((HT.sIx n d (some v):Nat):Int):=by
  rw [<- HT.clip_eq v n d]
  split <;> lia
theorem indices_eq (lo hi:Option Int) (n:Nat):strSliceIndices lo hi 1 n=(List.range (HT.sIx n n hi - HT.sIx n 0 lo)).map fun k=>HT.sIx n 0 lo + k:=by
  have h1:∀ (a b:Nat),sliceRange (a:Int) (b:Int) 1=(List.range (b - a)).map fun k=>a + k:=by
    intro a b
    unfold sliceRange
    simp only [show (1:Int) > 0 by decide,if_true]
    have e:(if (a:Int) < (b:Int) then ((b:Int) - (a:Int) + 1 - 1) / 1 else 0).toNat=b - a:=by
      rw [Int.ediv_one]
      split <;> lia
    rw [e]
    refine List.map_congr_left fun k _=>?_
    lia
  unfold strSliceIndices
  simp only [show (1:Int) > 0 by decide,if_true]
  cases lo with
  | none =>
    cases hi with
    | none=>exact h1 0 n
    | some v =>
      dsimp only
      rw [clipS_eq v n n]
      exact h1 0 _
  | some u =>
    cases hi with
    | none =>
      dsimp only
      rw [clipS_eq u n 0]
      exact h1 _ n
    | some v =>
      dsimp only
      rw [clipS_eq u n 0,clipS_eq v n n]
      exact h1 _ _
theorem pick_range (l:List Nat) (a k:Nat) (h:a + k<=l.length):((List.range k).map fun i=>a + i).filterMap (fun i=>l[i]?)=(l.drop a).take k:=by
  induction k generalizing a with
  | zero=>simp
  | succ k ih =>
    rw [List.range_succ_eq_map,List.map_cons,List.filterMap_cons]
    have ha:a < l.length:=by lia
    simp only [Nat.add_zero]
    rw [List.getElem?_eq_getElem ha]
    dsimp only
    rw [List.drop_eq_getElem_cons ha,List.take_succ_cons]
    congr 1
    rw [List.map_map,<- ih (a + 1) (by lia)]
    congr 1
    refine List.map_congr_left fun i _=>?_
    show a + (i + 1)=a + 1 + i
    lia
theorem slice_eq (x:Str) (lo hi:Option Int):Txt.slice x lo hi=cutS x lo hi:=by
  unfold Txt.slice cutS
  have hn:x.length=x.cps.toList.length:=by show x.cps.size=_;simp
  have ha:=HT.sIx_le x.cps.toList.length 0 (Nat.zero_le _) lo
  have hb:=HT.sIx_le x.cps.toList.length x.cps.toList.length (Nat.le_refl _) hi
  rw [hn,indices_eq]
  generalize HT.sIx x.cps.toList.length 0 lo=a at ha ⊢
  generalize HT.sIx x.cps.toList.length x.cps.toList.length hi=b at hb ⊢
  have hp:=pick_range x.cps.toList a (b - a)
  split
  . rename_i h
    simp only [List.length_map,List.length_range,Bool.and_eq_true,beq_iff_eq] at h
    have h2:b - a=x.cps.toList.length:=h.2
    by_cases h0:x.cps.toList.length=0
    . have:x.cps=#[]:=by
        apply Array.eq_empty_of_size_eq_zero;simpa using h0
      cases x;simp_all
    . have ea:a=0:=by lia
      subst ea
      rw [List.drop_zero,List.take_of_length_le (by lia)]
  . congr 1
    by_cases hab:a<=b
    . rw [<- hp (by lia)]
      congr 1
      simp only [Array.getElem?_toList]
    . have:b - a=0:=by lia
      rw [this];simp
section
variable {X:Cx}
noncomputable def rSlS:V->Option Int->Option Int->Hp->VK->Prop:=fun x lo hi H Q=>∃ z,x=.str z/\z.length<=sizeLine/\Q (.str (cutS z lo hi)) H
theorem sl_str:SlR X rSlS:=by
  intro pins s σ H x v vl vu lo hi sl Q I rx hs pl pu h
  obtain ⟨z,rfl,hz,q⟩:=h
  obtain ⟨t,rfl⟩:=rx
  rw [<- slice_eq] at q
  refine ⟨"str",_,F.slot_str_getitem.lookup,typeIs_str _ _ _,?_⟩
  obtain ⟨o,ho,hc,hd⟩:=hs
  have key:∀ (l u:Option (Int × Tok)),vl=partValue l->vu=partValue u->lo=l.map (·.1)->hi=u.map (·.1)->wpAny (model X.prog X.w) X.A (getItem (.str z t) (.ref sl)) (EP X pins σ Q) X.xe s:=by
    intro l u e1 e2 e3 e4
    subst e1 e2 e3 e4
    refine wpAny_getItem_str_slice (l:=l) (u:=u) (st:=none) ⟨o,ho,hc,hd⟩ rfl (post_val_or_str ⟨Nat.le_trans (Txt.slice_le z _ _) hz,fun t' k=>?_⟩)
    exact ⟨.str _,H,I.tok k,⟨_,rfl⟩,q⟩
  cases pl with
  | none =>
    cases pu with
    | none=>exact key none none rfl rfl rfl rfl
    | int j u=>exact key none (some (j,u)) rfl rfl rfl rfl
  | int i t =>
    cases pu with
    | none=>exact key (some (i,t)) none rfl rfl rfl rfl
    | int j u=>exact key (some (i,t)) (some (j,u)) rfl rfl rfl rfl
end
end L2
namespace L2
open PySem PySem.Spec PyProof.Rows PySem.Builtin.Str
noncomputable def Sq (K:PySem.W.Frag) (H:Hp) (a:Addr) (xs:List V):Prop:=SqL K H a xs\/SqT K H a xs
noncomputable def occ (y x:Str):Bool:=!(occurrences y x 0 y.length 1).isEmpty
noncomputable def uAdd (K:PySem.W.Frag):R2:=fun x y H Q=>match x,y with
  | .int i,.int j=>Q (.int (i + j)) H
  | .str i,.str j=>i.length + j.length<=sizeLine/\Q (.str (i++j)) H
  | .ref a,.ref b=>rCat (.ref a) (.ref b) H Q\/rCatT K (.ref a) (.ref b) H Q
  | _,_=>False
noncomputable def uSub:R2:=fun x y H Q=>match x,y with
  | .int i,.int j=>Q (.int (i - j)) H
  | _,_=>False
noncomputable def uDiv:R2:=fun x y H Q=>match x,y with
  | .int i,.int j=>CDiv i j/\Q (.int (i / j)) H
  | _,_=>False
noncomputable def uMod:R2:=fun x y H Q=>match x,y with
  | .int i,.int j=>0 < j/\Q (.int (i % j)) H
  | _,_=>False
noncomputable def uPow:R2:=fun x y H Q=>match x,y with
  | .int i,.int j=>CPow i j/\Q (.int (i ^ j.toNat)) H
  | _,_=>False
noncomputable def uLt:R2:=fun x y H Q=>match x,y with
  | .int i,.int j=>Q (.bl (decide (i < j))) H
  | .str i,.str j=>Q (.bl (decide (i.cps.toList < j.cps.toList))) H
  | _,_=>False
noncomputable def uGt:R2:=fun x y H Q=>match x,y with
  | .int i,.int j=>Q (.bl (decide (j < i))) H
  | _,_=>False
noncomputable def uEq:R2:=fun x y H Q=>match x,y with
  | .int i,.int j=>Q (.bl (decide (i=j))) H
  | .str i,.str j=>Q (.bl (decide (i=j))) H
  | .bl i,.bl j=>Q (.bl (decide (i=j))) H
  | .non,.non=>Q (.bl true) H
  | .non,.str _=>Q (.bl false) H
  | .str _,.non=>Q (.bl false) H
  | _,_=>False
noncomputable def uNe:R2:=fun x y H Q=>match x,y with
  | .int i,.int j=>Q (.bl (!decide (i=j))) H
  | .str i,.str j=>Q (.bl (!decide (i=j))) H
  | .bl i,.bl j=>Q (.bl (!decide (i=j))) H
  | .non,.non=>Q (.bl false) H
  | .non,.str _=>Q (.bl true) H
  | .str _,.non=>Q (.bl true) H
  | _,_=>False
noncomputable def uIn (K:PySem.W.Frag):R2:=fun x y H Q=>match x,y with
  | .str i,.str j=>Q (.bl (occ j i)) H
  | x,.ref p=>∃ xs,Sq K H p xs/\flatV x=true/\xs.all flatV=true/\Q (.bl (inV x xs)) H
  | _,_=>False
noncomputable def uIx (K:PySem.W.Frag):R2:=fun x y H Q=>match x,y with
  | .str z,.int i=>z.length<=sizeLine/\∃ c,atI z.cps.toList i=some c/\Q (.str ⟨#[c]⟩) H
  | .ref p,.int i=>∃ xs v,Sq K H p xs/\atI xs i=some v/\Q v H
  | _,_=>False
noncomputable def uLen (K:PySem.W.Frag):List V->Hp->VK->Prop:=fun xs H Q=>match xs with
  | [.str z]=>z.length<=sizeLine/\Q (.int z.length) H
  | [.ref p]=>∃ ys,Sq K H p ys/\Q (.int ys.length) H
  | _=>False
noncomputable def uMax:List V->Hp->VK->Prop:=fun xs H Q=>match xs with
  | [.int i,.int j]=>Q (.int (max i j)) H
  | _=>False
noncomputable def uMin:List V->Hp->VK->Prop:=fun xs H Q=>match xs with
  | [.int i,.int j]=>Q (.int (min i j)) H
  | _=>False
section
variable {X:Cx}
theorem OpR.imp {f:Value->Value->Sem Value} {r r':R2} (h:OpR X f r) (hi:∀ x y H Q,r' x y H Q->r x y H Q):OpR X f r':=fun pins s σ H x y v u Q I rx ry q=>h pins s σ H x y v u Q I rx ry (hi _ _ _ _ q)
theorem CallR.imp {f:Value} {r r':List V->Hp->VK->Prop} (h:CallR X f r) (hi:∀ xs H Q,r' xs H Q->r xs H Q):CallR X f r':=fun pins s σ H xs us Q I rx q=>h pins s σ H xs us Q I rx (hi _ _ _ q)
theorem o_sub:OpR X (binaryOp .Sub) uSub:=op_sub.imp fun x y H Q q=>by
  unfold uSub at q
  split at q
  . exact ⟨_,_,rfl,rfl,q⟩
  . exact q.elim
theorem o_fdiv:OpR X (binaryOp .FloorDiv) uDiv:=op_fdiv.imp fun x y H Q q=>by
  unfold uDiv at q
  split at q
  . exact ⟨_,_,rfl,rfl,q.1,q.2⟩
  . exact q.elim
theorem o_mod:OpR X (binaryOp .Mod) uMod:=op_mod.imp fun x y H Q q=>by
  unfold uMod at q
  split at q
  . exact ⟨_,_,rfl,rfl,q.1,q.2⟩
  . exact q.elim
theorem o_pow:OpR X (binaryOp .Pow) uPow:=op_pow.imp fun x y H Q q=>by
  unfold uPow at q
  split at q
  . exact ⟨_,_,rfl,rfl,q.1,q.2⟩
  . exact q.elim
theorem o_lt:OpR X (compareOp .Lt) uLt:=(op_lt.or op_lt_str).imp fun x y H Q q=>by
  unfold uLt at q
  split at q
  . exact .inl ⟨_,_,rfl,rfl,q⟩
  . exact .inr ⟨_,_,rfl,rfl,q⟩
  . exact q.elim
theorem o_gt:OpR X (compareOp .Gt) uGt:=op_gt.imp fun x y H Q q=>by
  unfold uGt at q
  split at q
  . exact ⟨_,_,rfl,rfl,q⟩
  . exact q.elim
theorem o_eq:OpR X (compareOp .Eq) uEq:=op_eq.imp fun x y H Q q=>by
  unfold uEq at q
  split at q <;> first | exact q.elim | (refine ⟨rfl,?_⟩;simpa using q)
theorem o_ne:OpR X (compareOp .NotEq) uNe:=op_ne.imp fun x y H Q q=>by
  unfold uNe at q
  split at q <;> first | exact q.elim | (refine ⟨rfl,?_⟩;simpa using q)
theorem o_in:OpR X (compareOp .In) (uIn X.K):=(op_in_str.or op_in_seq).imp fun x y H Q q=>by
  unfold uIn at q
  split at q
  . exact .inl ⟨_,_,rfl,rfl,q⟩
  . obtain ⟨xs,h1,h2,h3,h4⟩:=q
    exact .inr ⟨_,xs,rfl,h1,h2,h3,h4⟩
  . exact q.elim
theorem o_ix:IxR X (uIx X.K):=by
  intro value slice pins s σ H x y v u Q I rx ry q hs
  refine ix_seq value slice pins s σ H x y v u Q I rx ry ?_ hs
  unfold uIx at q
  split at q
  . obtain ⟨h1,c,h2,h3⟩:=q
    exact .inr (.inr ⟨_,_,c,rfl,rfl,h1,h2,h3⟩)
  . obtain ⟨xs,v,h1 | h1,h2,h3⟩:=q
    . exact .inl ⟨_,xs,_,v,rfl,rfl,h1,h2,h3⟩
    . exact .inr (.inl ⟨_,xs,_,v,rfl,rfl,h1,h2,h3⟩)
  . exact q.elim
theorem c_len:CallR X (.builtin "len") (uLen X.K):=(call_len_str.or call_len_seq).imp fun xs H Q q=>by
  unfold uLen at q
  split at q
  . exact .inl ⟨_,rfl,q.1,q.2⟩
  . obtain ⟨ys,h1,h2⟩:=q
    exact .inr ⟨_,ys,rfl,h1,h2⟩
  . exact q.elim
theorem c_min (hc:X.calm=true):CallR X (.builtin "min") uMin:=(call_min2 hc).imp fun xs H Q q=>by
  unfold uMin at q
  split at q
  . rename_i i j
    refine ⟨i,j,rfl,?_⟩
    have e:(if j < i then j else i)=min i j:=by split <;> lia
    rw [e];exact q
  . exact q.elim
theorem pe_gv {x:Str} {v:V} {pos:Pos} (hg:Gl X x) (h:∃ u,X.mg x=some u/\RelV v u) (hd:(x == ("__debug__":Str))=false:=by decide):PE X (.Name x pos) (tC v):=by
  obtain ⟨u,h1,h2⟩:=h
  exact pe_glob hg h1 h2 hd
end
end L2
namespace L2
open PySem PySem.Spec PyProof.Rows
end L2
namespace L2
open PySem PySem.Spec PyProof.Rows
noncomputable def uRng1:List V->Hp->(It->Hp->Prop)->Prop:=fun vs H R=>match vs with
  | [.int j]=>-(2 ^ 62)<=j/\j < 2 ^ 62/\R (Itr 0 j.toNat) H
  | _=>False
noncomputable def uRng2:List V->Hp->(It->Hp->Prop)->Prop:=fun vs H R=>match vs with
  | [.int i,.int j]=>(-(2 ^ 62)<=i/\i < 2 ^ 62/\-(2 ^ 62)<=j/\j < 2 ^ 62)/\R (Itr i (j - i).toNat) H
  | _=>False
noncomputable def jRng1 (ta:TA):TI:=fun σ H R=>ta σ H fun vs H1=>uRng1 vs H1 R
noncomputable def jRng2 (ta:TA):TI:=fun σ H R=>ta σ H fun vs H1=>uRng2 vs H1 R
noncomputable def uList (K:PySem.W.Frag):V->Hp->(It->Hp->Prop)->Prop:=fun x H R=>match x with
  | .ref a=>(∃ xs,SqL K H a xs)/\R (Itl K a) H
  | _=>False
noncomputable def uTupI (K:PySem.W.Frag):V->Hp->(It->Hp->Prop)->Prop:=fun x H R=>match x with
  | .ref a=>(∃ xs,SqT K H a xs)/\R (Itt K a) H
  | _=>False
noncomputable def jOf (u:V->Hp->(It->Hp->Prop)->Prop) (te:TE):TI:=fun σ H R=>te σ H fun x H1=>u x H1 R
section
variable {X:Cx} {tg:Expr} {a b:Expr} {p pos:Pos} {ta:TA} {te:TE}
theorem pj_range1 (hg:Gl X "range") (hm:X.mg "range"=none) (ha:PA X [a] ta) (hs:starEach [a] X.env=[(false,eval a X.env)]:=by rfl):PI X tg (.Call (.Name "range" p) [a] [] pos) (jRng1 ta):=by
  intro pins s σ H R I h
  refine Call_ (ld_blt I hg hm boot_range (PyProof.Rows.callWith_type1 (thn (ha pos pins s σ H _ I h) fun us s1 ⟨vs,H1,I1,r1,q1⟩=>?_) hs rfl))
  unfold uRng1 at q1
  dsimp only at q1
  split at q1
  . obtain ⟨q1,q2,q⟩:=q1
    cases r1 with
    | cons r rr =>
      cases rr
      obtain ⟨t,rfl⟩:=r
      exact call_range_1 (range_it I1 (by lia) (by lia) q1 q2 (by simpa using q))
  . exact q1.elim
theorem pj_range2 (hg:Gl X "range") (hm:X.mg "range"=none) (ha:PA X [a,b] ta) (hs:starEach [a,b] X.env=[(false,eval a X.env),(false,eval b X.env)]:=by rfl) (hs2:starEach [b] X.env=[(false,eval b X.env)]:=by rfl) :
    PI X tg (.Call (.Name "range" p) [a,b] [] pos) (jRng2 ta):=by
  intro pins s σ H R I h
  refine Call_ (ld_blt I hg hm boot_range (PyProof.Rows.callWith_type1 (thn (ha pos pins s σ H _ I h) fun us s1 ⟨vs,H1,I1,r1,q1⟩=>?_) (by rw [hs,hs2]) (by rw [hs2];rfl)))
  unfold uRng2 at q1
  dsimp only at q1
  split at q1
  . obtain ⟨⟨q1,q2,q3,q4⟩,q⟩:=q1
    cases r1 with
    | cons r rr =>
      cases rr with
      | cons r' rr =>
        cases rr
        obtain ⟨t,rfl⟩:=r
        obtain ⟨t',rfl⟩:=r'
        exact call_range_2 (range_it I1 q1 q2 q3 q4 q)
  . exact q1.elim
end
noncomputable def strsIn:List Expr->Option (List Str)
  | []=>some []
  | .Constant (.str x) _ _::r=>(strsIn r).map (x::·)
  | _=>none
noncomputable def tConst (vs:List V):TA:=fun _ H L=>L vs H
theorem pa_strs {X:Cx}:∀ {es:List Expr} {xs:List Str},strsIn es=some xs->PA X es (tConst (xs.map V.str))
  | [],xs,h=>by
    cases h
    exact fun pos pins s σ H Q I q=>pa_nil pos pins s σ H Q I q
  | e :: es, xs,h=>by
    cases e with
    | Constant c k p =>
      cases c with
      | str x =>
        cases h1:strsIn es with
        | none=>simp [strsIn,h1] at h
        | some ys =>
          have h2:x::ys=xs:=by simpa [strsIn,h1] using h
          subst h2
          have ih:=pa_strs (X:=X) h1
          exact fun pos pins s σ H Q I q=>(pa_cons (te:=tC (.str x)) pe_str ih) pos pins s σ H Q I q
      | _=>simp [strsIn] at h
    | _=>simp [strsIn] at h
theorem Same.upd_new {H:Hp} {l:Addr} {o:HO} (h:H l=none):Same H (upd H l o):=fun b u e=>by rw [upd_ne (ne_of_none e h)];exact e
theorem Same.sq {K:PySem.W.Frag} {H H':Hp} {a:Addr} {xs:List V} (e:Same H H') (h:SqT K H a xs):SqT K H' a xs:=by
  rcases h with (h | ⟨o,h⟩) | h
  . exact .inl (.inl (e _ _ h))
  . exact .inl (.inr ⟨o,e _ _ h⟩)
  . exact .inr h
theorem atI_lt {α:Type} {xs:List α} {i:Int} (h0:0<=i) (h:i < xs.length):∃ v,atI xs i=some v/\xs[i.toNat]? = some v:=by
  have hlt:i.toNat < xs.length:=by lia
  refine ⟨xs[i.toNat],?_,List.getElem?_eq_getElem hlt⟩
  have e:(i.toNat:Int)=i:=by lia
  have h:=atI_nat (List.getElem?_eq_getElem hlt)
  rw [e] at h
  exact h
theorem small_line {n:Nat} (h:n<=1000):n<=sizeLine:=Nat.le_of_lt (small1000 h)
theorem vals_of_abs:∀ {us:List Value} {xs:List V},us.map absV=xs.map some->Vals xs us
  | [],[],_=>.nil
  | [],_::_,h=>by cases h
  | _::_,[],h=>by cases h
  | u :: us,x::xs,h=>by
    rw [List.map_cons,List.map_cons] at h
    injection h with h1 h2
    refine .cons ?_ (vals_of_abs h2)
    cases u <;> cases h1 <;> first | rfl | exact ⟨_,rfl⟩
theorem sqT_const {K:PySem.W.Frag} {a:Addr} {oc:Value} {od:Option Addr} {its:Array Value} {n:Nat} {sl:Array (Option Value)} {xs:List V} (h:K.lookup a=some ⟨oc,od,.seq its n,sl⟩) (ht:(oc == .type "tuple")=true/\(od == none)=true)
    (hi:its.toList.map absV=xs.map some) (hz:xs.length<=1000:=by decide):∀ H,SqT K H a xs:=fun H=>by
  have r:=vals_of_abs hi
  have e:oc=.type "tuple":=by
    have:=ht.1
    exact eq_of_beq this
  refine .inr ⟨_,its,n,h,e,rfl,?_,r⟩
  have h9:=r.length
  have h8:its.toList.length=its.size:=by simp
  rw [<- h8,<- h9];exact small_line hz
end L2
namespace L2
open PySem PySem.Spec PyProof.Rows
section
variable {P:Program} {w:World} {K:PySem.W.Frag} {mg:Str->Option Value} {base:Heap}
theorem Fun.ok2 {x qual:Str} {st:Stmt} {f:Addr} {fd:FuncData} {N ps:List Str} {k:Nat} {sp:Sp} {sc:Scope} {body:List Stmt} (F:Fun K x qual st f fd) (hs:defScope st=sc) (hb:defBody st=body) (S:FnScope N ps (defScope st)) (len:∀ vs H Q E,sp vs H Q E->vs.length=ps.length)
    (hbody:FnScope N ps sc->∀ (cdv:Value) (A:Around) (outer:List Env) (s:Shared) (H:Hp) (vs:List V) (Q:VK) (E:XK),Room k (A.deeper (envOfC qual sc s.heap.objs.size f cdv))->sp vs H Q E ->
      ∃ t,PSs (cxOf CX0 P w K mg base N qual sc f cdv A outer s H E).nox body t/\t { nx:=fun _ H'=>Q .non H',rt:=Q } (L2.start N vs) H):FnOk P w K mg base CX0 (k + 1) f fd ps sp:=by
  subst hs hb
  exact F.ok S len (hbody S)
end
end L2
namespace L2
open PySem PySem.Spec PyProof.Rows
end L2
namespace L2
open PySem
theorem noFree_has {scope:Scope} {env:Env} {names:List (Str × NameKind)} {cl:List (Str × Addr)} (h:(relabel scope env).names=names) (h2:(names.all fun p=>p.2 != .cell && p.2 != .free)=true) :
    ∀ p∈(relabel scope env).names,p.2=.cell\/p.2=.free->(cl.lookup p.1).isSome=true:=by
  intro p hp hk
  rw [h] at hp
  have:=List.all_eq_true.mp h2 p hp
  rcases hk with e | e
  . rw [e] at this;exact absurd this (by decide)
  . rw [e] at this;exact absurd this (by decide)
theorem nd1 {x:Str}:[x].Nodup:=by simp
section
variable {X:Cx} (K:PySem.W.Frag) (h:X.K=K)
include h
theorem k_ix:IxR X (uIx K):=h ▸ o_ix
end
end L2
namespace L2
open PySem PySem.Spec PyProof.Rows
mutual
inductive Rep (K:PySem.W.Frag) (H:Hp):PyData->V->Prop
  | non:Rep K H .none .non
  | bl (b:Bool):Rep K H (.bool b) (.bl b)
  | int (i:Int):Rep K H (.int i) (.int i)
  | str (x:Str):Rep K H (.str x) (.str x)
  | tup {a:Addr} {xs:List V} {ds:List PyData}:SqT K H a xs->Reps K H ds xs->Rep K H (.tuple ds) (.ref a)
  | lst {a:Addr} {xs:List V} {ds:List PyData}:SqL K H a xs->Reps K H ds xs->Rep K H (.list ds) (.ref a)
inductive Reps (K:PySem.W.Frag) (H:Hp):List PyData->List V->Prop
  | nil:Reps K H [] []
  | cons {d:PyData} {v:V} {ds:List PyData} {vs:List V}:Rep K H d v->Reps K H ds vs->Reps K H (d::ds) (v::vs)
end
section
variable {X:Cx} {pins:List (Addr × Obj)} {σ:St} {H:Hp} {s:Shared}
mutual
theorem Rep.reads (I:Inv X pins σ H s):∀ {d:PyData} {v:V} {u:Value},Rep X.K H d v->RelV v u->∃ as,Reads s.heap u d as
  | _,_,_,.non,r=>by cases r;exact ⟨_,.none⟩
  | _,_,_,.bl b,r=>by cases r;exact ⟨_,.bool b⟩
  | _,_,_,.int i,r=>by obtain ⟨t,rfl⟩:=r;exact ⟨_,.int i t⟩
  | _,_,_,.str x,r=>by obtain ⟨t,rfl⟩:=r;exact ⟨_,.str x t⟩
  | _, _,_,.tup h q,r=>by
    cases r
    obtain ⟨its,rv,⟨o,e,c,n,d⟩,hz⟩:=I.tuple h
    obtain ⟨as,ra⟩:=Reps.reads I q rv
    exact ⟨_,.tuple e c d (by simpa using ra)⟩
  | _, _,_,.lst h q,r=>by
    cases r
    obtain ⟨its,rv,⟨o,n,e,c,_,d⟩,hz⟩:=I.list h
    obtain ⟨as,ra⟩:=Reps.reads I q rv
    exact ⟨_,.list e c d (by simpa using ra)⟩
theorem Reps.reads (I:Inv X pins σ H s):∀ {ds:List PyData} {vs:List V} {us:List Value},Reps X.K H ds vs->Vals vs us->∃ as,ReadsAll s.heap us ds as
  | _,_,_,.nil,r=>by cases r;exact ⟨_,.nil⟩
  | _, _,_,.cons h q,r=>by
    cases r with
    | cons r0 r1 =>
      obtain ⟨as,ra⟩:=Rep.reads I h r0
      obtain ⟨bs,rb⟩:=Reps.reads I q r1
      exact ⟨_,.cons ra rb⟩
end
noncomputable def rEqD (K:PySem.W.Frag) (ne:Bool):R2:=fun x y H Q=>∃ d e,Rep K H d x/\Rep K H e y/\d.canLay0=true/\e.canLay0=true/\d.depth<=190/\Q (.bl (if ne then !PyData.eqv d e else PyData.eqv d e)) H
theorem op_eqD (hu:X.A.units + 200 < cLine):OpR X (compareOp .Eq) (rEqD X.K false):=by
  intro pins s σ H x y v u Q I rx ry h
  obtain ⟨d,e,h1,h2,c1,c2,dp,q⟩:=h
  obtain ⟨as,ra⟩:=Rep.reads I h1 rx
  obtain ⟨bs,rb⟩:=Rep.reads I h2 ry
  refine SeqAt.compareEq_reads ra rb c1 c2 ?_ ⟨.bl _,H,I,rfl,q⟩
  have:min d.depth e.depth<=d.depth:=Nat.min_le_left _ _
  lia
theorem op_neD (hu:X.A.units + 200 < cLine):OpR X (compareOp .NotEq) (rEqD X.K true):=by
  intro pins s σ H x y v u Q I rx ry h
  obtain ⟨d,e,h1,h2,c1,c2,dp,q⟩:=h
  obtain ⟨as,ra⟩:=Rep.reads I h1 rx
  obtain ⟨bs,rb⟩:=Rep.reads I h2 ry
  refine SeqAt.compareNe_reads ra rb c1 c2 ?_ ⟨.bl _,H,I,rfl,q⟩
  have:min d.depth e.depth<=d.depth:=Nat.min_le_left _ _
  lia
noncomputable def uEqD (K:PySem.W.Frag):R2:=fun x y H Q=>match x,y with
  | .ref a,y=>rEqD K false (.ref a) y H Q
  | x,.ref b=>rEqD K false x (.ref b) H Q
  | x,y=>uEq x y H Q
noncomputable def uNeD (K:PySem.W.Frag):R2:=fun x y H Q=>match x,y with
  | .ref a,y=>rEqD K true (.ref a) y H Q
  | x,.ref b=>rEqD K true x (.ref b) H Q
  | x,y=>uNe x y H Q
theorem o_eqD {k:Nat} (hr:Room k X.A):OpR X (compareOp .Eq) (uEqD X.K):=((op_eqD (by have:=hr.un;lia)).or o_eq).imp fun x y H Q q=>by
  unfold uEqD at q
  split at q
  . exact .inl q
  . exact .inl q
  . exact .inr q
theorem o_neD {k:Nat} (hr:Room k X.A):OpR X (compareOp .NotEq) (uNeD X.K):=((op_neD (by have:=hr.un;lia)).or o_ne).imp fun x y H Q q=>by
  unfold uNeD at q
  split at q
  . exact .inl q
  . exact .inl q
  . exact .inr q
end
noncomputable def uSum (K:PySem.W.Frag):List V->Hp->VK->Prop:=fun xs H Q=>match xs with
  | [.ref p]=>∃ ns:List Int,SqL K H p (ns.map V.int)/\Q (.int ns.sum) H
  | _=>False
theorem preSum_eq (ns:List Int):∀ n,n<=ns.length->preSum (fun i=>ns.getD i 0) n=(ns.take n).sum
  | 0,_=>by simp [preSum]
  | n + 1,h=>by
    rw [preSum,preSum_eq ns n (by lia),List.take_add_one,List.getElem?_eq_getElem (by lia),List.sum_append]
    simp [List.getD_eq_getElem?_getD,List.getElem?_eq_getElem (show n < ns.length by lia)]
theorem c_sum {X:Cx} (hc:X.calm=true):CallR X (.builtin "sum") (uSum X.K):=by
  intro pins s σ H xs us Q I r h
  unfold uSum at h
  split at h
  . rename_i p
    obtain ⟨ns,hl,q⟩:=h
    obtain ⟨u,rfl,ru⟩:=r.one
    cases ru
    obtain ⟨its,rv,pl,hz⟩:=I.list hl
    refine call_sum_walkAnyS (wpAny_pyIter_list pl.isList ?_)
    have hne:p≠s.heap.objs.size:=Nat.ne_of_lt (by obtain ⟨o,n,e,_⟩:=pl;exact Heap.lt_size e)
    have hlen:its.toArray.size=ns.length:=by have:=rv.length;simp at this;simp;lia
    refine ⟨s.heap.objs.size,_,_,_,_,_,_,fun i=>ns.getD i 0,rfl,(Walks.list (show X.A.in1.handled=none from I.ok.hd hc) s.heap.objs.size p hne its.toArray).toS,⟨⟨_,Heap.get?_push_size _ rfl,rfl,rfl⟩,pl.isList.at fun o e=>Heap.get?_push_of_some _ e⟩,?_,?_,fun s' t' hm=>?_⟩
    . intro b hb
      have hp:p < s.heap.objs.size:=by obtain ⟨o,n,e,_⟩:=pl;exact Heap.lt_size e
      rw [Heap.size_push]
      rcases List.mem_cons.mp hb with rfl | hb
      . exact Nat.lt_succ_self _
      . have:b=p:=by simpa using hb
        subst this
        exact Nat.lt_succ_of_lt hp
    . intro i v hv
      have hv':its[i]? = some v:=by simpa using hv
      cases e:(ns.map V.int)[i]? with
      | none =>
        have:=rv.none_of e
        rw [this] at hv';cases hv'
      | some y =>
        obtain ⟨u,hu,ru⟩:=rv.get e
        rw [hv'] at hu;cases hu
        rw [List.getElem?_map] at e
        cases eb:ns[i]? with
        | none=>rw [eb] at e;cases e
        | some b =>
          rw [eb] at e
          cases e
          obtain ⟨t,rfl⟩:=ru
          exact ⟨t,by dsimp only;rw [List.getD_eq_getElem?_getD,eb];rfl⟩
    . have e:preSum (fun i=>ns.getD i 0) its.toArray.size=ns.sum:=by
        rw [hlen,preSum_eq ns _ (Nat.le_refl _),List.take_length]
      rw [e]
      have hI:Inv X pins σ H { s with heap:=s'.heap,toks:=s'.toks }:=I.kept (t':=s'.toks) fun b o e=>hm.heap b o (by simp;exact Nat.ne_of_lt (Heap.lt_size e)) (Heap.get?_push_of_some _ e)
      have es:({ s with heap:=s'.heap,toks:=s'.toks }:Shared)=s':=by
        have h1:=hm.gens
        have h2:=hm.drawn
        have h3:=hm.os
        cases s'
        simp only at h1 h2 h3
        subst h1 h2 h3
        rfl
      rw [es] at hI
      exact ⟨.int _,H,hI,⟨_,rfl⟩,q⟩
  . exact h.elim
noncomputable def uMulB:R2:=fun x y H Q=>match x,y with
  | .int i,.int j=>IntMulOk i j/\Q (.int (i * j)) H
  | .ref a,.int k=>rRep (.ref a) (.int k) H Q
  | _,_=>False
theorem op_mulB {X:Cx}:OpR X (binaryOp .Mult) (fun x y H Q=>∃ i j,x=.int i/\y=.int j/\IntMulOk i j/\Q (.int (i * j)) H):=by
  intro pins s σ H x y v u Q I rx ry h
  obtain ⟨i,j,rfl,rfl,hm,q⟩:=h
  obtain ⟨t,rfl⟩:=rx
  obtain ⟨t',rfl⟩:=ry
  exact PyProof.Rows.mul_int ⟨.int _,H,I.tok _,⟨_,rfl⟩,q⟩ hm
theorem o_mulB {X:Cx}:OpR X (binaryOp .Mult) uMulB:=(op_mulB.or op_rep).imp fun x y H Q q=>by
  unfold uMulB at q
  split at q
  . exact .inl ⟨_,_,rfl,rfl,q.1,q.2⟩
  . exact .inr q
  . exact q.elim
theorem mul_small {i j:Int} (h:CMul i j):IntMulOk i j:=h.ok
theorem allm_cons {α:Type} {P:α->Prop} {a:α} {l:List α} (h:P a) (t:∀ p∈l,P p):∀ p∈a::l,P p:=fun p hp=>by
  rcases List.mem_cons.mp hp with rfl | hp
  . exact h
  . exact t p hp
theorem allm_nil {α:Type} {P:α->Prop}:∀ p∈([]:List α),P p:=fun _ z=>nomatch z
theorem free_has {scope:Scope} {env:Env} {names:List (Str × NameKind)} {cl:List (Str × Addr)} (h:(relabel scope env).names=names) (h2:(names.all fun p=>(p.2 != .cell && p.2 != .free) || (cl.lookup p.1).isSome)=true) :
    ∀ p∈(relabel scope env).names,p.2=.cell\/p.2=.free->(cl.lookup p.1).isSome=true:=by
  intro p hp hk
  rw [h] at hp
  have:=List.all_eq_true.mp h2 p hp
  rcases hk with e | e
  . rw [e] at this;simpa using this
  . rw [e] at this;simpa using this
section
variable {X:Cx}
noncomputable def rCatL (K:PySem.W.Frag):R2:=fun x y H Q=>∃ l b xs zs,x=.ref l/\y=.ref b/\SqL K H l xs/\SqL K H b zs/\xs.length + zs.length<=sizeLine/\∀ p,H p=none->Q (.ref p) (upd H p (.lst (xs++zs)))
theorem op_catL:OpR X (binaryOp .Add) (rCatL X.K):=by
  intro pins s σ H x y v u Q I rx ry h
  obtain ⟨l,b,xs,zs,rfl,rfl,hH,hB,hz,q⟩:=h
  cases rx
  cases ry
  obtain ⟨its,r,pl,z1⟩:=I.list hH
  obtain ⟨its2,r2,pl2,z2⟩:=I.list hB
  have hl:=r.length
  have hl2:=r2.length
  obtain ⟨⟨cls,dd,data,sl⟩,ho,hc,n,hd⟩:=id pl.isList
  obtain ⟨⟨cls2,dd2,data2,sl2⟩,ho2,hc2,n2,hd2⟩:=id pl2.isList
  simp only at hc hd hc2 hd2
  subst hc hd hc2 hd2
  have e:its.toArray++its2.toArray=(its++its2).toArray:=by simp
  refine concat_meets ⟨_,ho,rfl⟩ ⟨_,ho2,rfl⟩ noFill_list_add seq_list_add PySem.F.slot_list_add PySem.F.entry_list_add (PySem.F.args_list_add_2 _ _) (PyProof.Rows.list_addW l b its.toArray its2.toArray n n2 dd dd2 sl sl2 (by rw [List.size_toArray,List.size_toArray];lia)) ⟨ho,ho2,?_⟩
  rw [e]
  exact ⟨.ref _,_,I.lnew (t':=s.toks) (r.append r2) (by rw [List.length_append];lia),rfl,q _ I.fresh⟩
end
theorem comp_go {X:Cx} {elt tg iter:Expr} {ifs:List Expr} {scope:Scope} {cl:List (Str × Addr)} {ts:List Str} {frs':List (Str × Nat)} {pos pos0:Pos} {wi:TI} {g:TG} {tt:TT} {te:TE} (hc:X.calm=true) (S:CompScope X scope cl ts frs')
    (hi:PI X tg iter wi) (hg:∀ pins s H fp,PG (X.comp scope cl (ts++frs'.map (·.1)) pins s H fp) tg g) (ht:∀ pins s H fp,PIfs (X.comp scope cl (ts++frs'.map (·.1)) pins s H fp) ifs tt)
    (he:∀ pins s H fp,PE (X.comp scope cl (ts++frs'.map (·.1)) pins s H fp) elt te) (hs:∀ x,foldedSetIterable iter X.env x=pure x)
    {use:Option (Value->Sem Unit)} {Qv:Value->Shared->Prop} {pins:List (Addr × Obj)} {s:Shared} {σ:St} {H:Hp} {Q:VK} (I:Inv X pins σ H s) (h:tComp ts.length frs' wi g tt te σ H Q)
    (hfin:∀ (C D:Addr) (H5:Hp) (s6:Shared) (m6:Str->Option Value),Inv X pins σ H5 s6->s6.heap.Ns C m6->FpOk X pins H5 C->(∀ h',Heap.SameBut C s6.heap h'->Inv X pins σ H5 { s6 with heap:=h' })->Q (.ref D) H5 ->
      compPost (model X.prog X.w) X.A X.xe use Qv (.ref D) C (.ok .next) s6) :
    wpAny (model X.prog X.w) X.A (comprehension (.ListComp elt [⟨tg,iter,ifs,0⟩] scope pos) scope X.env pos0 (newList []) false (eval iter X.env) use) Qv X.xe s:=by
  refine wpAny_comprehension_free (use:=use) (cl:=cl) rfl hs S.clos S.kind S.names (thn (hi pins s σ H _ I h) fun v s1 h1=>thn h1 fun itv s2 h2=>?_)
  obtain ⟨it,fp,tn,J,H2,e,I2,T,st2,f2,q2⟩:=h2
  subst e
  have fr2:H2 s2.heap.objs.size=none:=I2.hok.fresh (Nat.le_refl _)
  obtain ⟨W,⟨m0,w0⟩,turn⟩:=q2 _ fr2
  refine wpAny_newObj_type ?_
  have hlt2:∀ b∈fp,b < s2.heap.objs.size:=fun b hb=>by
    obtain ⟨o,e,_⟩:=T.obj _ _ st2 b hb
    exact Heap.lt_size e
  have I3:Inv X pins σ (upd H2 s2.heap.objs.size (.lst [])) { s2 with heap:=s2.heap.push { cls:=.type "list",data:=.seq ([]:List Value).toArray } } :=
    I2.laid (t':=s2.toks) (fun b u e=>Heap.get?_push_of_some _ e) (Nat.le_refl _) ⟨Nat.zero_le _,[],0,.nil,Heap.get?_push_size _ rfl⟩
  have f3:∀ b∈fp,FpOk X pins (upd H2 s2.heap.objs.size (.lst [])) b:=fun b hb=>⟨by rw [upd_ne (Nat.ne_of_lt (hlt2 b hb))];exact (f2 b hb).1,(f2 b hb).2⟩
  have hk3:∀ b o,s2.heap.get? b=some o->(s2.heap.push { cls:=.type "list",data:=.seq ([]:List Value).toArray }).get? b=some o:=fun b o e=>Heap.get?_push_of_some _ e
  have hsz3:(s2.heap.push { cls:=.type "list",data:=.seq ([]:List Value).toArray }).objs.size=s2.heap.objs.size + 1:=Heap.size_push ..
  refine wpAny_newFunctionEnv S.nocell (by intro y hy;simp at hy) (fun h₁ hns₁ hsb₁=>?_) S.kind
  dsimp only at hns₁ hsb₁ ⊢
  generalize hs3:({ s2 with heap:=s2.heap.push { cls:=.type "list",data:=.seq ([]:List Value).toArray } }:Shared)=s3 at I3 hns₁ hsb₁ ⊢
  have es3:s3.heap=s2.heap.push { cls:=.type "list",data:=.seq ([]:List Value).toArray }:=by rw [<- hs3]
  have hk4:∀ b o,s3.heap.get? b=some o->h₁.get? b=some o:=fun b o e=>by
    have:=hsb₁.2 b (by rw [<- es3];exact Nat.ne_of_lt (Heap.lt_size e))
    rw [<- es3] at this
    exact this.trans (Heap.get?_push_of_some _ e)
  have hlt3:∀ b∈fp,b < s3.heap.objs.size:=fun b hb=>by
    rw [es3,hsz3]
    exact Nat.lt_succ_of_lt (hlt2 b hb)
  rw [<- es3] at hns₁
  have I4:=S.inv I3 f3 hlt3 (tk:=s2.toks + ([]:List (Str × Value)).length) hns₁ hk4
  have st4:tn 0 h₁:=T.keep _ _ _ st2 fun b hb o e=>hk4 b o (by rw [es3];exact hk3 b o e)
  have estart:({ s2 with heap:=h₁,toks:=s2.toks + ([]:List (Str × Value)).length }:Shared)={ s3 with heap:=h₁,toks:=s2.toks + ([]:List (Str × Value)).length }:=by rw [<- hs3]
  rw [estart]
  have stat:∀ {H':Hp},(∀ b∈fp,H' b=none)->∀ b∈fp,FpOk (X.comp scope cl (ts++frs'.map (·.1)) pins s3 (upd H2 s2.heap.objs.size (.lst [])) fp) [] H' b:=fun hn b hb=>by
    obtain ⟨h1,h2,h3,h4,h5,h6⟩:=f3 b hb
    refine ⟨hn b hb,Nat.ne_of_lt (hlt3 b hb),fun z=>?_,.inl hb,fun x c e=>h5 x c (S.subL e),fun p hp=>h6 p (by
      have:p∈(X.pn++pins)++[]:=hp
      rwa [List.append_nil] at this)⟩
    rcases List.mem_cons.mp (I3.stkSub _ z) with e' | e'
    . exact h2 e'
    . exact h3 e'
  have loop : codeAny (model X.prog X.w) X.A (.compLoop (.ListComp elt [⟨tg,iter,ifs,0⟩] scope pos) 0 (.ref it) (.ref s2.heap.objs.size) (compEnvC scope cl s3.heap.objs.size X.env))
      (compPost (model X.prog X.w) X.A X.xe use Qv (.ref s2.heap.objs.size) s3.heap.objs.size) { s3 with heap:=h₁,toks:=s2.toks + ([]:List (Str × Value)).length }:=by
    refine compLoop_any (fun n s'=>∃ i τ H',Inv (X.comp scope cl (ts++frs'.map (·.1)) pins s3 (upd H2 s2.heap.objs.size (.lst [])) fp) [] τ H' s'/\tn i s'.heap/\(∀ b∈fp,H' b=none)/\W i n τ H') ?_ m0
      ⟨0,_,_,I4,st4,fun b hb=>(f3 b hb).1,w0⟩
    rintro n s5 ⟨i,τ,H5,I5,st5,fr5,w5⟩
    rcases turn i n τ H5 w5 with ⟨stop,qn⟩ | ⟨go,step⟩
    . refine wpAny_mono (T.done (X.comp scope cl (ts++frs'.map (·.1)) pins s3 (upd H2 s2.heap.objs.size (.lst [])) fp) rfl rfl rfl hc i [] s5 τ H5 (fun _ _=>False) I5 (stat fr5) st5 stop) (fun r s6 ⟨hr,I6⟩=>?_) fun _ _ z=>z
      subst hr
      obtain ⟨m6,hn6,_⟩:=id I6.loc
      have hA:∀ h',Heap.SameBut s3.heap.objs.size s6.heap h'->Inv X pins σ H5 { s6 with heap:=h' }:=fun h' hs'=>CompScope.after I3 f3 I6 hs'
      have hC0:=I3.fpOk (b:=s3.heap.objs.size) (Nat.le_refl _) (I3.hok.fresh (Nat.le_refl _))
      exact hfin _ _ H5 s6 m6 (hA s6.heap ⟨rfl,fun _ _=>rfl⟩) hn6 ⟨I6.free,hC0.2⟩ hA qn
    . refine wpAny_mono (T.item (X.comp scope cl (ts++frs'.map (·.1)) pins s3 (upd H2 s2.heap.objs.size (.lst [])) fp) rfl rfl rfl hc i [] s5 τ H5 (fun _ _=>False) I5 (stat fr5) st5 go) (fun r s6 ⟨u,hr,h6⟩=>?_) fun _ _ z=>z
      subst hr
      refine thn h6 fun _ s7 h_q=>?_
      obtain ⟨x,H7,I7,r7,y7,st7,fr7⟩:=h_q
      have I7':=I7.pinned (stat fr7) (T.obj _ _ st7)
      refine thn (hg _ _ _ _ _ s7 τ H7 x u _ I7' r7 (step x H7 y7)) fun _ s8 h_q=>?_
      obtain ⟨τ8,H8,I8,q8⟩:=h_q
      refine thn (ht _ _ _ _ _ s8 τ8 H8 _ I8 q8) fun ok s9 h_q=>?_
      obtain ⟨H9,I9,q9⟩:=h_q
      have again:∀ {m':Nat} {H':Hp} {s':Shared},Inv (X.comp scope cl (ts++frs'.map (·.1)) pins s3 (upd H2 s2.heap.objs.size (.lst [])) fp) ([]++pinsAt fp s7.heap) τ8 H' s'->m' < n->W (i + 1) m' τ8 H' ->
          ∃ m,m < n/\∃ i τ H',Inv (X.comp scope cl (ts++frs'.map (·.1)) pins s3 (upd H2 s2.heap.objs.size (.lst [])) fp) [] τ H' s'/\tn i s'.heap/\(∀ b∈fp,H' b=none)/\W i m τ H':=fun {m' H' s'} I' hm w'=>by
        refine ⟨m',hm,i + 1,τ8,H',I'.unpinned,T.keep _ _ _ st7 fun b hb o e=>(I'.pin (b,o) (List.mem_append_right _ (List.mem_append_right _ (mem_pinsAt hb e)))).1,fun b hb=>?_,w'⟩
        obtain ⟨o,e,d⟩:=T.obj _ _ st7 b hb
        exact (I'.pin (b,o) (List.mem_append_right _ (List.mem_append_right _ (mem_pinsAt hb e)))).2.1
      cases ok with
      | false =>
        rw [if_neg Bool.false_ne_true]
        rw [if_neg Bool.false_ne_true] at q9
        obtain ⟨m',hm,w'⟩:=q9
        exact again I9 hm w'
      | true =>
        rw [if_pos rfl]
        rw [if_pos rfl] at q9
        refine thn (he _ _ _ _ _ s9 τ8 H9 _ I9 q9) fun yv s10 h_q=>?_
        obtain ⟨y,H10,I10,r10,ys,hl,hz,m',hm,w'⟩:=h_q
        refine thn (mt_append _ s10 τ8 H10 (.ref s2.heap.objs.size) [y] (.ref s2.heap.objs.size) [yv] (fun _ H'=>W (i + 1) m' τ8 H') I10 rfl (.cons r10 .nil) ⟨_,ys,y,rfl,rfl,hl,hz,w'⟩) fun _ s11 h_q=>?_
        obtain ⟨_,H11,I11,_,w11⟩:=h_q
        exact again I11 hm w11
  have es:(s2.heap.push { cls:=.type "list",data:=.seq ([]:List Value).toArray }).objs.size=s3.heap.objs.size:=by rw [es3]
  rw [es]
  exact codeAny_compStart_list loop (T.self _ 0 _ _ _ st4 loop)
theorem pe_comp {X:Cx} {elt tg iter:Expr} {ifs:List Expr} {scope:Scope} {cl:List (Str × Addr)} {ts:List Str} {frs':List (Str × Nat)} {pos:Pos} {wi:TI} {g:TG} {tt:TT} {te:TE} (hc:X.calm=true) (S:CompScope X scope cl ts frs')
    (hi:PI X tg iter wi) (hg:∀ pins s H fp,PG (X.comp scope cl (ts++frs'.map (·.1)) pins s H fp) tg g) (ht:∀ pins s H fp,PIfs (X.comp scope cl (ts++frs'.map (·.1)) pins s H fp) ifs tt)
    (he:∀ pins s H fp,PE (X.comp scope cl (ts++frs'.map (·.1)) pins s H fp) elt te) (hs:∀ x,foldedSetIterable iter X.env x=pure x:=by intro _;rfl) :
    PE X (.ListComp elt [⟨tg,iter,ifs,0⟩] scope pos) (tComp ts.length frs' wi g tt te):=by
  intro pins s σ H Q I h
  rw [eval_ListComp]
  exact comp_go hc S hi hg ht he hs (use:=none) (Qv:=EP X pins σ Q) I h fun C D H5 s6 m6 I6 hn fpc hA q=>⟨m6,hn,fun h' hs'=>⟨.ref D,H5,hA h' hs',rfl,q⟩⟩
theorem ps_setC {X:Cx} {elt tg iter:Expr} {ifs:List Expr} {scope:Scope} {cl:List (Str × Addr)} {ts:List Str} {frs':List (Str × Nat)} {pos spos py:Pos} {wi:TI} {g:TG} {tt:TT} {te:TE} {i:Nat} {y:Str}
    (hN:X.N.Nodup) (hi':X.N[i]? = some y) (hy:Loc X.env.scope y) (hsw:swapsWith (.ListComp elt [⟨tg,iter,ifs,0⟩] scope pos) (some (.Name y py)) spos.line X.env=pure true) (hc:X.calm=true) (S:CompScope X scope cl ts frs')
    (hi:PI X tg iter wi) (hg:∀ pins s H fp,PG (X.comp scope cl (ts++frs'.map (·.1)) pins s H fp) tg g) (ht:∀ pins s H fp,PIfs (X.comp scope cl (ts++frs'.map (·.1)) pins s H fp) ifs tt)
    (he:∀ pins s H fp,PE (X.comp scope cl (ts++frs'.map (·.1)) pins s H fp) elt te) (hs:∀ x,foldedSetIterable iter X.env x=pure x:=by intro _;rfl) (hf:X.fn y=true\/X.env.scope.names.lookup y=some .local:=by first | exact .inl rfl | exact .inr rfl | assumption) :
    PS X (.Assign [.Name y py] (.ListComp elt [⟨tg,iter,ifs,0⟩] scope pos) spos) (tAsg (tComp ts.length frs' wi g tt te) (gName i)):=by
  intro pins s σ H D I h
  rw [exec_Assign_Name_used _ _ _ _ hsw]
  refine wpAny_bind (wpAny_standAt (wpAny_bind ?_))
  show wpAny _ X.A (do let _ <- comprehension (.ListComp elt [⟨tg,iter,ifs,0⟩] scope pos) scope X.env _ (newList []) false (eval iter X.env) (some (assign (.Name y py) X.env))) _ _ s
  refine wpAny_bind (wpAny_mono (comp_go hc S hi hg ht he hs (Qv:=fun _ s'=>SP X pins D .next s') (use:=some (assign (.Name y py) X.env)) I h ?_) (fun _ s' hq=>wpAny_pure (wpAny_pure hq)) fun _ _ e=>e)
  intro C Da H5 s6 m6 I6 hn6 fpC hA qn
  show wpAny _ X.A (assign (.Name y py) X.env (.ref Da)) _ _ _
  refine wpAny_assign_Name (store_ok2 I6 hN hi' hy (v:=.ref Da) rfl (fun s7 I7 ⟨a,sb,ha⟩=>?_) hf)
  have hCa:C≠a:=by
    obtain ⟨_,h2,_,_,h5,_⟩:=fpC
    rcases ha with rfl | ha
    . exact h2
    . exact fun e=>h5 _ _ ha e.symm
  refine ⟨m6,hn6.sameBut sb hCa,fun h' hs'=>?_⟩
  obtain ⟨f0,f1,f2,f3,f4,f5⟩:=fpC
  exact ⟨_,H5,I7.turned (h':=h') (t':=s7.toks) (fun b o hb e=>(hs'.2 b hb).trans e) f0 f1 f3 f4 f5,qn⟩
noncomputable def uListOf (K:PySem.W.Frag):List V->Hp->VK->Prop:=fun xs H Q=>match xs with
  | [.ref p]=>∃ ys,Sq K H p ys/\∀ l,H l=none->Q (.ref l) (upd H l (.lst ys))
  | _=>False
theorem c_list {X:Cx}:CallR X (.type "list") (uListOf X.K):=call_list_of.imp fun xs H Q q=>by
  unfold uListOf at q
  split at q
  . obtain ⟨ys,h1,h2⟩:=q
    exact ⟨_,ys,rfl,h1,h2⟩
  . exact q.elim
noncomputable def uTupOf (K:PySem.W.Frag):List V->Hp->VK->Prop:=fun xs H Q=>match xs with
  | [.ref p]=>∃ ys,((SqL K H p ys/\∀ l,H l=none->Q (.ref l) (upd H l (.tup ys)))\/(SqT K H p ys/\Q (.ref p) H))
  | _=>False
theorem c_tuple {X:Cx}:CallR X (.type "tuple") (uTupOf X.K):=call_tuple_of.imp fun xs H Q q=>by
  unfold uTupOf at q
  split at q
  . obtain ⟨ys,h⟩:=q
    exact ⟨_,ys,rfl,h⟩
  . exact q.elim
end L2
namespace MM
noncomputable def sm (n:Nat) (f:Nat->Int):Int:=((List.range n).map f).sum
noncomputable abbrev at0 (l:List Int) (i:Nat):Int:=l.getD i 0
end MM
namespace MM
noncomputable def mc:Nat->Nat->Nat
  | _,0=>1
  | 0,_ + 1=>0
  | m + 1,j + 1=>mc m (j + 1) + mc (m + 1) j
noncomputable def ch:Nat->Nat->Nat
  | _,0=>1
  | 0,_ + 1=>0
  | n + 1,k + 1=>ch n k + ch n (k + 1)
noncomputable def part (w:Nat->Int) (s:Nat) (bs:List Int) (m n:Nat):Int:=sm (m + 1) fun j=>if j * s<=n then w j * at0 bs (n - j * s) else 0
end MM
namespace L2
open PySem PySem.Spec PyProof.Rows
theorem iteP {c A B:Prop} [Decidable c] (hc:c) (h:A):if c then A else B:=by rw [if_pos hc];exact h
theorem iteN {c A B:Prop} [Decidable c] (hc:¬ c) (h:B):if c then A else B:=by rw [if_neg hc];exact h
end L2
namespace L2
open PySem PySem.Spec PyProof.Rows
section
variable {X:Cx} {pins:List (Addr × Obj)} {σ:St} {H:Hp} {s:Shared}
theorem Inv.turnedL {h':Heap} {ch:List Addr} {T:Addr} {o:HO} {t':Nat} (I:Inv X pins σ H s) (hch:∀ b∈ch,FpOk X pins H b) (k:∀ b u,b ∉ ch->s.heap.get? b=some u->h'.get? b=some u) (hT:s.heap.objs.size<=T)
    (new:ObjOk X.prog X.w (upd H T o) h' T o):Inv X pins σ (upd H T o) { s with heap:=h',toks:=t' }:=by
  have hn:H T=none:=I.hok.fresh hT
  have nT:∀ b u,s.heap.get? b=some u->b≠T:=fun b u e=>Nat.ne_of_lt (Nat.lt_of_lt_of_le (Heap.lt_size e) hT)
  have nch:∀ b u,H b=some u->b ∉ ch:=fun b u e z=>by rw [(hch b z).1] at e;cases e
  refine I.step (g':=s.gens) (d':=s.drawn) (ch:=ch) (fun b hb=>?_) (fun b u _ _ hc e _=>k b u hc e) (fun b u _ _ hc e _=>⟨u.slots,k b u hc e⟩) (fun b u _ e n=>by rw [upd_ne (nT b u e)];exact n)
    (fun b u hc e=>⟨u,k b u hc e⟩) (fun b xs e=>by rw [upd_ne (ne_of_none e hn)];exact e) (fun b u v e=>by rw [upd_ne (ne_of_none e hn)];exact e) (fun b ps e=>⟨#[],by rw [upd_ne (ne_of_none e hn),e];simp⟩) (fun m hm=>?_) (fun b u e=>?_) I.bare
  . obtain ⟨h0,h1,h2,h3,h4,h5⟩:=hch b hb
    exact ⟨h3,h1,h4,h5⟩
  . obtain ⟨ob,es,ep,ho,r⟩:=hm
    exact ⟨ob,es,ep,k _ ob (fun z=>(hch _ z).2.1 rfl) ho,r⟩
  . by_cases hb:b=T
    . subst hb;rw [upd_same] at e;cases e;exact new
    . rw [upd_ne hb] at e
      refine (I.hok b u e).stay (fun c v hc q=>k c v ?_ q) (fun c q=>by rw [upd_ne (ne_of_none q hn)];exact q) fun c xs q=>by rw [upd_ne (ne_of_none q hn)];exact q
      rcases hc with z | z
      . rw [z];exact nch b u e
      . exact nch c _ z
theorem Inv.turnedM {h':Heap} {ch:List Addr} {t':Nat} (I:Inv X pins σ H s) (hch:∀ b∈ch,FpOk X pins H b) (k:∀ b u,b ∉ ch->s.heap.get? b=some u->h'.get? b=some u):Inv X pins σ H { s with heap:=h',toks:=t' }:=by
  have nch:∀ b u,H b=some u->b ∉ ch:=fun b u e z=>by rw [(hch b z).1] at e;cases e
  refine I.step (g':=s.gens) (d':=s.drawn) (ch:=ch) (fun b hb=>?_) (fun b u _ _ hc e _=>k b u hc e) (fun b u _ _ hc e _=>⟨u.slots,k b u hc e⟩) (fun _ _ _ _ n=>n)
    (fun b u hc e=>⟨u,k b u hc e⟩) (fun _ _ e=>e) (fun _ _ _ e=>e) (fun b ps e=>⟨#[],by rw [e];simp⟩) (fun m hm=>?_) (fun b u e=>?_) I.bare
  . obtain ⟨h0,h1,h2,h3,h4,h5⟩:=hch b hb
    exact ⟨h3,h1,h4,h5⟩
  . obtain ⟨ob,es,ep,ho,r⟩:=hm
    exact ⟨ob,es,ep,k _ ob (fun z=>(hch _ z).2.1 rfl) ho,r⟩
  . refine (I.hok b u e).stay (fun c v hc q=>k c v ?_ q) (fun _ q=>q) fun _ _ q=>q
    rcases hc with z | z
    . rw [z];exact nch b u e
    . exact nch c _ z
end
noncomputable def Itz (K:PySem.W.Frag) (a b:Addr):It :=
  ⟨fun i H=>∃ xs ys x y,SqL K H a xs/\SqL K H b ys/\xs[i]? = some x/\ys[i]? = some y,
   fun i H v H'=>∃ T x y,v=.ref T/\H T=none/\H'=upd H T (.tup [x,y])/\(∀ xs,SqL K H a xs->xs[i]? = some x)/\(∀ ys,SqL K H b ys->ys[i]? = some y),
   fun i H=>∃ xs ys,SqL K H a xs/\SqL K H b ys/\(xs.length<=i\/ys.length<=i)⟩
noncomputable def Ite (K:PySem.W.Frag) (a:Addr):It :=
  ⟨fun i H=>∃ xs x,SqL K H a xs/\xs[i]? = some x,
   fun i H v H'=>∃ T x,v=.ref T/\H T=none/\H'=upd H T (.tup [.int i,x])/\(∀ xs,SqL K H a xs->xs[i]? = some x),
   fun i H=>∃ xs,SqL K H a xs/\xs.length<=i⟩
theorem turn_zip {P:Program} {w:World} {K:PySem.W.Frag} {elts:List Expr} {k0} {pos:Pos} {z TI TO i1 i2 l1 l2:Addr} (D:ZipApart z TI TO i1 i2 l1 l2):Turn P w K (.Tuple elts k0 pos) (Itz K l1 l2) [z,TI,TO,i1,i2] z
    (fun i h=>IsZip h z TI TO .none/\IsPair h TI (.ref i1) (.ref i2)/\(∃ a b,IsPair h TO a b)/\h.IsListIter i1 l1 i/\h.IsListIter i2 l2 i) where
  mem:=by simp
  obj := fun i h st b hb=>by
    obtain ⟨hz,hTI,⟨a,c,hTO⟩,h1,h2⟩:=st
    simp only [List.mem_cons,List.not_mem_nil,or_false] at hb
    rcases hb with rfl | rfl | rfl | rfl | rfl
    . exact ⟨_,hz,fun v q=>nomatch q⟩
    . exact ⟨_,hTI,fun v q=>nomatch q⟩
    . exact ⟨_,hTO,fun v q=>nomatch q⟩
    . obtain ⟨o,e,c,d⟩:=h1
      exact ⟨o,e,fun v q=>by rw [d] at q;cases q⟩
    . obtain ⟨o,e,c,d⟩:=h2
      exact ⟨o,e,fun v q=>by rw [d] at q;cases q⟩
  keep:=fun i h h' st k=>by
    obtain ⟨hz,hTI,⟨a,c,hTO⟩,h1,h2⟩:=st
    exact ⟨k z (by simp) _ hz,k TI (by simp) _ hTI,⟨a,c,k TO (by simp) _ hTO⟩,h1.at fun o e=>k i1 (by simp) o e,h2.at fun o e=>k i2 (by simp) o e⟩
  item := by
    intro X hP hw hK hc i pins s σ H E I hf st hg
    subst hP hw hK
    obtain ⟨hz,hTI,⟨a,c,hTO⟩,h1,h2⟩:=st
    obtain ⟨xs,ys,x,y,hx,hy,hxi,hyi⟩:=hg
    obtain ⟨its,rv,p,_⟩:=I.list hx
    obtain ⟨its2,rv2,p2,_⟩:=I.list hy
    obtain ⟨u,hu,ru⟩:=rv.get hxi
    obtain ⟨u2,hu2,ru2⟩:=rv2.get hyi
    refine wpAny_pyNext_zip_item D hz hTI hTO h1 h2 p.isList p2.isList (x:=u) (y:=u2) (by simpa using hu) (by simpa using hu2) fun h' a1 a2 a3 a4 a5 a6 hk=>?_
    refine ⟨_,rfl,wpAny_letOwnedTupleGo_zip a1 fun h'' hz' sb=>?_⟩
    have nz:s.heap.objs.size≠z:=Nat.ne_of_gt (Heap.lt_size hz)
    have hT':IsTup h'' s.heap.objs.size [u,u2].toArray:=⟨_,sb.extBut _ _ nz a5,rfl,_,rfl⟩
    have I':Inv X pins σ (upd H s.heap.objs.size (.tup [x,y])) { s with heap:=h'',toks:=s.toks }:=I.turnedL (ch:=[z,TI,TO,i1,i2]) hf (fun b o hb e=>by
      simp only [List.mem_cons,List.not_mem_nil,or_false,not_or] at hb
      exact sb.extBut _ _ hb.1 (hk b o hb.1 hb.2.2.1 hb.2.2.2.1 hb.2.2.2.2 e)) (Nat.le_refl _) ⟨by show 2<=sizeLine;decide,[u,u2],.cons ru (.cons ru2 .nil),hT'⟩
    have hn:H s.heap.objs.size=none:=I.hok.fresh (Nat.le_refl _)
    refine ⟨.ref s.heap.objs.size,_,I',rfl,⟨_,x,y,rfl,hn,rfl,fun zs hzs=>by rw [I.list_inj hzs hx];exact hxi,fun zs hzs=>by rw [I.list_inj hzs hy];exact hyi⟩,
      ⟨hz',sb.extBut _ _ D.TIz (hk _ _ D.TIz D.TITO D.TIi1 D.TIi2 hTI),⟨_,_,sb.extBut _ _ D.TOz a2⟩,a3.extBut sb.extBut D.i1z,a4.extBut sb.extBut D.i2z⟩,fun b hb=>?_⟩
    have hfb:=(hf b hb).1
    have : b≠s.heap.objs.size:=by
      obtain ⟨o,e⟩:∃ o,s.heap.get? b=some o:=by
        simp only [List.mem_cons,List.not_mem_nil,or_false] at hb
        rcases hb with rfl | rfl | rfl | rfl | rfl
        . exact ⟨_,hz⟩
        . exact ⟨_,hTI⟩
        . exact ⟨_,hTO⟩
        . obtain ⟨o,e,_⟩:=h1;exact ⟨o,e⟩
        . obtain ⟨o,e,_⟩:=h2;exact ⟨o,e⟩
      exact Nat.ne_of_lt (Heap.lt_size e)
    rw [upd_ne this];exact hfb
  done := by
    intro X hP hw hK hc i pins s σ H E I hf st hg
    subst hP hw hK
    obtain ⟨hz,hTI,⟨a,c,hTO⟩,h1,h2⟩:=st
    obtain ⟨xs,ys,hx,hy,hend⟩:=hg
    obtain ⟨its,rv,p,_⟩:=I.list hx
    obtain ⟨its2,rv2,p2,_⟩:=I.list hy
    have hl:=rv.length
    have hl2:=rv2.length
    refine wpAny_pyNext_zip_end (I.ok.hd hc) D hz hTI hTO h1 h2 p.isList p2.isList ?_ fun h' hk=>⟨rfl,I.turnedM (t':=s.toks) (ch:=[z,TI,TO,i1,i2]) hf (fun b o hb e=>by
      simp only [List.mem_cons,List.not_mem_nil,or_false,not_or] at hb
      exact hk b o hb.1 hb.2.2.1 hb.2.2.2.1 hb.2.2.2.2 e)⟩
    rcases hend with h | h
    . exact .inl (by simp;lia)
    . exact .inr (by simp;lia)
  self:=fun _ _ _ _ _ st h=>wpAny_pyIter_zip st.1 h
theorem turn_enum {P:Program} {w:World} {K:PySem.W.Frag} {elts:List Expr} {k0} {pos:Pos} {e it l:Addr} (hne:e≠it):Turn P w K (.Tuple elts k0 pos) (Ite K l) [e,it] e
    (fun i h=>(∃ old,IsEnum h e it i old)/\h.IsListIter it l i) where
  mem:=by simp
  obj := fun i h st b hb=>by
    obtain ⟨⟨old,he⟩,h1⟩:=st
    simp only [List.mem_cons,List.not_mem_nil,or_false] at hb
    rcases hb with rfl | rfl
    . exact ⟨_,he,fun v q=>nomatch q⟩
    . obtain ⟨o,e,c,d⟩:=h1
      exact ⟨o,e,fun v q=>by rw [d] at q;cases q⟩
  keep:=fun i h h' st k=>by
    obtain ⟨⟨old,he⟩,h1⟩:=st
    exact ⟨⟨old,k e (by simp) _ he⟩,h1.at fun o q=>k it (by simp) o q⟩
  item := by
    intro X hP hw hK hc i pins s σ H E I hf st hg
    subst hP hw hK
    obtain ⟨⟨old,he⟩,h1⟩:=st
    obtain ⟨xs,x,hx,hxi⟩:=hg
    obtain ⟨its,rv,p,_⟩:=I.list hx
    obtain ⟨u,hu,ru⟩:=rv.get hxi
    refine wpAny_pyNext_enum_item he h1 p.isList (x:=u) (by simpa using hu) hne fun h' a1 a2 a3 a4 hk=>?_
    refine ⟨_,rfl,wpAny_letOwnedTupleGo_enum a1 fun h'' he' sb=>?_⟩
    have nz:s.heap.objs.size≠e:=Nat.ne_of_gt (Heap.lt_size he)
    have hT':IsTup h'' s.heap.objs.size [Value.int i s.toks,u].toArray:=⟨_,sb.extBut _ _ nz a3,rfl,_,rfl⟩
    have I':Inv X pins σ (upd H s.heap.objs.size (.tup [.int i,x])) { s with heap:=h'',toks:=s.toks + 1 }:=I.turnedL (ch:=[e,it]) hf (fun b o hb q=>by
      simp only [List.mem_cons,List.not_mem_nil,or_false,not_or] at hb
      exact sb.extBut _ _ hb.1 (hk b o hb.1 hb.2 q)) (Nat.le_refl _) ⟨by show 2<=sizeLine;decide,[Value.int i s.toks,u],.cons ⟨_,rfl⟩ (.cons ru .nil),hT'⟩
    have hn:H s.heap.objs.size=none:=I.hok.fresh (Nat.le_refl _)
    refine ⟨.ref s.heap.objs.size,_,I',rfl,⟨_,x,rfl,hn,rfl,fun zs hzs=>by rw [I.list_inj hzs hx];exact hxi⟩,⟨⟨_,by push_cast;exact he'⟩,a2.extBut sb.extBut (Ne.symm hne)⟩,fun b hb=>?_⟩
    have hfb:=(hf b hb).1
    have : b≠s.heap.objs.size:=by
      obtain ⟨o,q⟩:∃ o,s.heap.get? b=some o:=by
        simp only [List.mem_cons,List.not_mem_nil,or_false] at hb
        rcases hb with rfl | rfl
        . exact ⟨_,he⟩
        . obtain ⟨o,q,_⟩:=h1;exact ⟨o,q⟩
      exact Nat.ne_of_lt (Heap.lt_size q)
    rw [upd_ne this];exact hfb
  done := by
    intro X hP hw hK hc i pins s σ H E I hf st hg
    subst hP hw hK
    obtain ⟨⟨old,he⟩,h1⟩:=st
    obtain ⟨xs,hx,hend⟩:=hg
    obtain ⟨its,rv,p,_⟩:=I.list hx
    have hl:=rv.length
    exact wpAny_pyNext_enum_end (I.ok.hd hc) he h1 p.isList (by simp;lia) fun h' hk=>⟨rfl,I.turnedM (t':=s.toks) (ch:=[e,it]) hf (fun b o hb q=>by
      simp only [List.mem_cons,List.not_mem_nil,or_false,not_or] at hb
      exact hk b o hb.2 q)⟩
  self:=fun _ _ _ _ _ st h=>by
    obtain ⟨⟨old,he⟩,h1⟩:=st
    exact wpAny_pyIter_enum he h
noncomputable def uZip (K:PySem.W.Frag):List V->Hp->(It->Hp->Prop)->Prop:=fun vs H R=>match vs with
  | [.ref a,.ref b]=>(∃ xs ys,SqL K H a xs/\SqL K H b ys)/\R (Itz K a b) H
  | _=>False
noncomputable def uEnum (K:PySem.W.Frag):List V->Hp->(It->Hp->Prop)->Prop:=fun vs H R=>match vs with
  | [.ref a]=>(∃ xs,SqL K H a xs)/\R (Ite K a) H
  | _=>False
noncomputable def jArgs (u:List V->Hp->(It->Hp->Prop)->Prop) (ta:TA):TI:=fun σ H R=>ta σ H fun vs H1=>u vs H1 R
theorem boot_enumerate:bootBuiltins "enumerate"=some (.type "enumerate"):=by decide +kernel
theorem pg_tupK {X:Cx} (K:PySem.W.Frag) (hK:X.K=K) (n:Nat) {es:List Expr} {k:Nat} {t:TGs} {pos:Pos} (hc:X.calm=true) (h:PGs X es t) (hn:(assignEach es X.env).length=n) (hst:(assignEach es X.env).findIdx? (·.1)=none):PG X (.Tuple es k pos) (gTup K n t):=by
  subst hK
  exact pg_tup hc h hn hst
theorem g2 {K:PySem.W.Frag} {T:Addr} {x y:V} {k0 k1:Option V} {fr:St} {H:Hp} {Q:St->Hp->Prop} (h:SqT K H T [x,y]) (q:Q (some x::some y::fr) H):gTup K 2 (gCons (gName 0) (gCons (gName 1) gNil)) (.ref T) (k0::k1::fr) H Q :=
  ⟨T,_,rfl,h,rfl,_,_,rfl,_,_,rfl,rfl,q⟩
end L2
namespace L2
open PySem PySem.Spec PyProof.Rows
end L2
namespace L2
open PySem PySem.Spec PyProof.Rows
theorem argBest_min (ns:List Int):∀ k i,i<=k->MM.at0 ns (argBest (fun i j=>decide (MM.at0 ns i < MM.at0 ns j)) k)<=MM.at0 ns i
  | 0, i,h=>by
    have:i=0:=by lia
    subst this
    exact Int.le_refl _
  | k + 1, i,h=>by
    rw [argBest]
    have ih:=argBest_min ns k
    split
    . rename_i hb
      have hb:=of_decide_eq_true hb
      by_cases e:i=k + 1
      . rw [e];exact Int.le_refl _
      . have:=ih i (by lia)
        lia
    . rename_i hb
      have hb:¬ (MM.at0 ns (k + 1) < MM.at0 ns (argBest (fun i j=>decide (MM.at0 ns i < MM.at0 ns j)) k)):=fun z=>hb (decide_eq_true z)
      by_cases e:i=k + 1
      . rw [e];lia
      . exact ih i (by lia)
theorem at0_mem {ns:List Int} {i:Nat} (h:i < ns.length):MM.at0 ns i∈ns:=by
  unfold MM.at0
  rw [List.getD_eq_getElem?_getD,List.getElem?_eq_getElem h]
  exact List.getElem_mem h
theorem mem_at0 {ns:List Int} {x:Int} (h:x∈ns):∃ i,i < ns.length/\MM.at0 ns i=x:=by
  obtain ⟨i,hi,e⟩:=List.mem_iff_getElem.mp h
  refine ⟨i,hi,?_⟩
  unfold MM.at0
  rw [List.getD_eq_getElem?_getD,List.getElem?_eq_getElem hi]
  exact e
theorem vals_at0 {ns:List Int} {its:List Value} (rv:Vals (ns.map V.int) its) {i:Nat} {v:Value} (h:its.toArray[i]? = some v):i < ns.length/\∃ t,v=.int (MM.at0 ns i) t:=by
  have hv':its[i]? = some v:=by simpa using h
  have hlen:=rv.length
  have hi:i < ns.length:=by
    have:=(List.getElem?_eq_some_iff.mp hv').1
    rw [List.length_map] at hlen
    lia
  refine ⟨hi,?_⟩
  have e:(ns.map V.int)[i]? = some (.int (MM.at0 ns i)):=by
    rw [List.getElem?_map,List.getElem?_eq_getElem hi]
    unfold MM.at0
    rw [List.getD_eq_getElem?_getD,List.getElem?_eq_getElem hi]
    rfl
  obtain ⟨u,hu,ru⟩:=rv.get e
  rw [hv'] at hu
  cases hu
  exact ru
section
variable {X:Cx}
noncomputable def uMinA (K:PySem.W.Frag):List V->Hp->VK->Prop:=fun xs H Q=>match xs with
  | [.int i,.int j]=>Q (.int (min i j)) H
  | [.ref p]=>∃ ns:List Int,SqL K H p (ns.map V.int)/\1<=ns.length/\∀ m,m∈ns->(∀ x∈ns,m<=x)->Q (.int m) H
  | _=>False
theorem c_minL (hc:X.calm=true):CallR X (.builtin "min") (fun xs H Q=>∃ (p:Addr) (ns:List Int),xs=[.ref p]/\SqL X.K H p (ns.map V.int)/\1<=ns.length/\∀ m,m∈ns->(∀ x∈ns,m<=x)->Q (.int m) H):=by
  intro pins s σ H xs us Q I r h
  obtain ⟨p,ns,rfl,hl,h1,q⟩:=h
  obtain ⟨u,rfl,ru⟩:=r.one
  cases ru
  obtain ⟨its,rv,pl,hz⟩:=I.list hl
  have hlen:its.toArray.size=ns.length:=by have:=rv.length;simp at this;simp;lia
  have hp:p < s.heap.objs.size:=by obtain ⟨o,n,e,_⟩:=pl;exact Heap.lt_size e
  refine call_min_walk (wpAny_pyIter_list pl.isList ?_)
  refine ⟨s.heap.objs.size,_,_,_,_,_,fun i j=>decide (MM.at0 ns i < MM.at0 ns j),rfl,Walks.list (show X.A.in1.handled=none from I.ok.hd hc) s.heap.objs.size p (Nat.ne_of_lt hp) its.toArray,⟨⟨_,Heap.get?_push_size _ rfl,rfl,rfl⟩,pl.isList.at fun o e=>Heap.get?_push_of_some _ e⟩,?_,by rw [hlen];exact h1,?_,?_⟩
  . intro b hb
    rw [Heap.size_push]
    rcases List.mem_cons.mp hb with rfl | hb
    . exact Nat.lt_succ_self _
    . have:b=p:=by simpa using hb
      subst this
      exact Nat.lt_succ_of_lt hp
  . intro i j vi vj s' Q' E' hi hj hq
    obtain ⟨_,t,rfl⟩:=vals_at0 rv hi
    obtain ⟨_,t',rfl⟩:=vals_at0 rv hj
    exact HT.rcLt_int _ _ _ _ _ _ _ _ _ _ hq
  . intro v h' tk hv hk
    obtain ⟨hi,t,rfl⟩:=vals_at0 rv hv
    rw [hlen] at hi ⊢
    refine ⟨.int _,H,I.kept (t':=tk) fun b o e=>hk b o (by simp;exact Nat.ne_of_lt (Heap.lt_size e)) (Heap.get?_push_of_some _ e),⟨_,rfl⟩,q _ (at0_mem hi) fun x hx=>?_⟩
    obtain ⟨j,hj,rfl⟩:=mem_at0 hx
    exact argBest_min ns (ns.length - 1) j (by lia)
theorem c_minA (hc:X.calm=true):CallR X (.builtin "min") (uMinA X.K):=((c_min hc).or (c_minL hc)).imp fun xs H Q q=>by
  unfold uMinA at q
  split at q
  . exact .inl q
  . obtain ⟨ns,h1,h2,h3⟩:=q
    exact .inr ⟨_,ns,rfl,h1,h2,h3⟩
  . exact q.elim
end
end L2
namespace L2
open PySem PySem.Spec PyProof.Rows
section
variable {prog:Program} {w:World} {A:Around} {E:Value->Shared->Prop} {s:Shared}
theorem cat_tup0 {t b:Addr} {ws:List Value} {Q:Value->Shared->Prop} (ht:IsTup s.heap t #[]) (hb:IsTup s.heap b ws.toArray) (h:Q (.ref b) s):wpAny (model prog w) A (binaryOp .Add (.ref t) (.ref b)) Q E s:=by
  obtain ⟨⟨c1,d1,x1,l1⟩,g1,k1,n1,z1⟩:=id ht
  obtain ⟨⟨c2,d2,x2,l2⟩,g2,k2,n2,z2⟩:=id hb
  simp only at k1 z1 k2 z2
  subst k1 z1 k2 z2
  exact concat_meets ⟨_,g1,rfl⟩ ⟨_,g2,rfl⟩ PySem.noFill_tuple_add PySem.seq_tuple_add PySem.F.slot_tuple_add PySem.F.entry_tuple_add (PySem.F.args_tuple_add_2 _ _) (tuple_addW0 t b #[] ws.toArray n1 n2 d1 d2 l1 l2 rfl) ⟨g1,g2,h⟩
end
section
variable {X:Cx}
noncomputable def rCatU (K:PySem.W.Frag):R2:=fun x y H Q=>∃ a b xs ys,x=.ref a/\y=.ref b/\SqT K H a xs/\SqT K H b ys/\xs.length + ys.length<=sizeLine/\∀ p H',Same H H'->SqT K H' p (xs++ys)->Q (.ref p) H'
theorem op_catU:OpR X (binaryOp .Add) (rCatU X.K):=by
  intro pins s σ H x y v u Q I rx ry h
  obtain ⟨a,b,xs,ys,rfl,rfl,ha,hb,hz,q⟩:=h
  by_cases hx:xs=[]
  . subst hx
    cases rx
    cases ry
    obtain ⟨its,r1,p1,_⟩:=I.tuple ha
    obtain ⟨its2,r2,p2,_⟩:=I.tuple hb
    cases r1
    exact cat_tup0 p1 p2 ⟨.ref b,H,I,rfl,q b H (Same.refl _) hb⟩
  . refine op_catT pins s σ H (.ref a) (.ref b) v u Q I rx ry ⟨a,b,xs,ys,rfl,rfl,ha,hb,hx,hz,fun e=>?_,fun _ p hp=>?_⟩
    . subst e
      exact q a H (Same.refl _) (by rw [List.append_nil];exact ha)
    . exact q p _ (Same.upd_new hp) (SqT.of upd_same)
noncomputable def rSlU (K:PySem.W.Frag):V->Option Int->Option Int->Hp->VK->Prop:=fun x lo hi H Q=>∃ a xs,x=.ref a/\SqT K H a xs/\∀ p H',Same H H'->SqT K H' p (cutV xs lo hi)->Q (.ref p) H'
end
section
variable {prog:Program} {w:World} {A:Around} {E:Value->Shared->Prop} {s:Shared}
theorem cut_whole {t sl:Addr} {items:Array Value} {vl vu:Value} {lo hi:Option Int} {Q:Value->Shared->Prop} (ht:IsTup s.heap t items) (hs:s.heap.IsSliceOf sl vl vu .none) (pl:IsPart vl lo) (pu:IsPart vu hi)
    (h1:HT.sIx items.size 0 lo=0) (h2:HT.sIx items.size items.size hi=items.size) (h:Q (.ref t) s):wpAny (model prog w) A (getItem (.ref t) (.ref sl)) Q E s:=by
  obtain ⟨ob,g1,g2,g3⟩:=id hs
  have hT:s.TypeIs (.ref sl) "slice":=⟨ob,g1,g2⟩
  unfold getItem
  try with_reducible refine wpAny_holding ?_
  first | refine wpAny_bind (wpAny_pure ?_) | skip
  refine wpAny_bind (wpAny_sequenceKey ht.typeIs (by decide) ?_)
  have key:wpAny (model prog w) A.in1 (Builtin.«tuple.__getitem__» ⟨[.ref t,.ref sl],[]⟩) (fun fin s'=>∃ v,fin=.done (.ret v)/\Q v s') E s:=by
    show wpAny _ _ (Builtin.Tuple.tupleItemsOf (.ref t) >>= _) _ _ s
    refine wpAny_bind (PyProof.Rows.tupleItemsOf_ ht (wpAny_bind (wpAny_typeOf hT ?_)))
    rw [if_pos (by decide)]
    refine wpAny_bind (HT.sliceApplied_gen hs pl pu ?_)
    rw [h1,h2]
    show wpAny _ _ (if ((((0:Nat):Int) == 0 && (1:Int) == 1 && (items.size - 0) == items.size))=true then _ else _) _ _ s
    rw [if_pos (by simp)]
    refine wpAny_bind (wpAny_bind (wpAny_typeOf ht.typeIs (wpAny_pure ?_)))
    rw [if_pos (by decide)]
    exact wpAny_bind (wpAny_rule (wpAny_pure ⟨_,rfl,h⟩))
  exact wpAny_bind (wpAny_callSpecial?_slot (name:=Str.ofString "__getitem__") ht.typeIs PyProof.Rows.slot_tuple_getitem (wpAny_call_entry PyProof.Rows.slot_tuple_getitem ht.typeIs PyProof.Rows.entry_tuple_getitem (wpAny_mono key (fun fin s' ⟨v,e,q⟩=>⟨v,e,wpAny_pure q⟩) fun _ _ z=>z) (PyProof.Rows.args_tuple_getitem _ _)))
end
section
variable {X:Cx}
theorem cutV_whole {xs:List V} {lo hi:Option Int} (h1:HT.sIx xs.length 0 lo=0) (h2:HT.sIx xs.length xs.length hi=xs.length):cutV xs lo hi=xs:=by
  unfold cutV
  rw [h1,h2,List.drop_zero,Nat.sub_zero,List.take_length]
theorem sl_tupU:SlR X (rSlU X.K):=by
  intro pins s σ H x v vl vu lo hi sl Q I rx hs pl pu h
  obtain ⟨a,xs,rfl,hx,q⟩:=h
  by_cases hw:HT.sIx xs.length 0 lo=0/\HT.sIx xs.length xs.length hi=xs.length
  . cases rx
    obtain ⟨its,r,ht,hz⟩:=I.tuple hx
    have hlen:its.toArray.size=xs.length:=by rw [List.size_toArray];exact r.length.symm
    refine ⟨"tuple",_,PyProof.Rows.slot_tuple_getitem.lookup,ht.typeIs,cut_whole ht hs pl pu (by rw [hlen];exact hw.1) (by rw [hlen];exact hw.2) ⟨.ref a,H,I,rfl,q a H (Same.refl _) ?_⟩⟩
    rw [cutV_whole hw.1 hw.2]
    exact hx
  . exact sl_tup pins s σ H (.ref a) v vl vu lo hi sl Q I rx hs pl pu ⟨a,xs,rfl,hx,hw,fun p hp=>q p _ (Same.upd_new hp) (SqT.of upd_same)⟩
noncomputable def uAddW (K:PySem.W.Frag):R2:=fun x y H Q=>match x,y with
  | .int i,.int j=>Q (.int (i + j)) H
  | .str i,.str j=>i.length + j.length<=sizeLine/\Q (.str (i++j)) H
  | .ref a,.ref b=>(∃ xs zs,SqL K H a xs/\SqL K H b zs/\xs.length + zs.length<=sizeLine/\∀ p,H p=none->Q (.ref p) (upd H p (.lst (xs++zs)))) \/
      (∃ xs zs,SqT K H a xs/\SqT K H b zs/\xs.length + zs.length<=sizeLine/\∀ p H',Same H H'->SqT K H' p (xs++zs)->Q (.ref p) H')
  | _,_=>False
theorem o_addW:OpR X (binaryOp .Add) (uAddW X.K):=((op_add.or op_add_str).or (op_catL.or op_catU)).imp fun x y H Q q=>by
  unfold uAddW at q
  split at q
  . exact .inl (.inl ⟨_,_,rfl,rfl,q⟩)
  . exact .inl (.inr ⟨_,_,rfl,rfl,q.1,q.2⟩)
  . rcases q with ⟨xs,zs,h1,h2,h3,h4⟩ | ⟨xs,zs,h1,h2,h3,h4⟩
    . exact .inr (.inl ⟨_,_,xs,zs,rfl,rfl,h1,h2,h3,h4⟩)
    . exact .inr (.inr ⟨_,_,xs,zs,rfl,rfl,h1,h2,h3,h4⟩)
  . exact q.elim
theorem k_addW (K:PySem.W.Frag) (h:X.K=K):OpR X (binaryOp .Add) (uAddW K):=h ▸ o_addW
noncomputable def uSlW (K:PySem.W.Frag):V->Option Int->Option Int->Hp->VK->Prop:=fun x lo hi H Q=>match x with
  | .str z=>z.length<=sizeLine/\Q (.str (cutS z lo hi)) H
  | .ref a=>(∃ xs,SqL K H a xs/\∀ p,H p=none->Q (.ref p) (upd H p (.lst (cutV xs lo hi))))\/(∃ xs,SqT K H a xs/\∀ p H',Same H H'->SqT K H' p (cutV xs lo hi)->Q (.ref p) H')
  | _=>False
theorem o_slW:SlR X (uSlW X.K):=by
  intro pins s σ H x v vl vu lo hi sl Q I rx hs pl pu q
  unfold uSlW at q
  split at q
  . exact sl_str pins s σ H _ v vl vu lo hi sl Q I rx hs pl pu ⟨_,rfl,q.1,q.2⟩
  . rcases q with ⟨xs,h1,h2⟩ | ⟨xs,h1,h2⟩
    . exact sl_list pins s σ H _ v vl vu lo hi sl Q I rx hs pl pu ⟨_,xs,rfl,h1,h2⟩
    . exact sl_tupU pins s σ H _ v vl vu lo hi sl Q I rx hs pl pu ⟨_,xs,rfl,h1,h2⟩
  . exact q.elim
end
section
open PySem.AutoSeq1 (wpAny_loadPart')
variable {prog:Program} {w:World} {A:Around} {E:Value->Shared->Prop} {s:Shared}
theorem enum_new_tup (t:Addr) (items:Array Value) (n:Nat) (dd:Option Addr) (sl:Array (Option Value)) :
    Meets (Builtin.«enumerate.__new__» ⟨[.type "enumerate",.ref t],[]⟩) (fun _ R s=>s.heap.get? t=some { cls:=.type "tuple",dict:=dd,data:=.seq items n,slots:=sl } /\
      R (.ok (.ret (.ref (s.heap.push { cls:=.type "tuple_iterator",data:=.fields #[.ref t,.int 0 0] }).objs.size)))
        { s with heap:=(s.heap.push { cls:=.type "tuple_iterator",data:=.fields #[.ref t,.int 0 0] }).push { cls:=.type "enumerate",data:=.fields #[.none,.bool false,.ref s.heap.objs.size,rawInt 0,.none,.none] } }) :=
  .of_wp fun prog w A R s hq0=>by
    obtain ⟨g1,g2⟩:=hq0
    obtain ⟨hp,ge,dr,tk,os⟩:=s
    have es:=sub_enumerate
    have hL:Heap.IsTuple (Shared.heap ⟨hp,ge,dr,tk,os⟩) t items:=⟨_,g1,rfl,n,rfl⟩
    wp_walk using wpAny_loadPart' g1
    refine wpAny_stack_any fun st=>wpAny_pure ?_
    split
    . rename_i cc _ _ _ _ _
      cases (cc == Value.type "enumerate") <;> (wp_walk using wpAny_loadPart' g1,wpAny_pyIter_tuple hL;exact ⟨_,rfl,g2⟩)
    . wp_walk using wpAny_loadPart' g1,wpAny_pyIter_tuple hL
      exact ⟨_,rfl,g2⟩
end
section
variable {prog:Program} {w:World} {A:Around} {E:Value->Shared->Prop} {s:Shared}
theorem call_enum_tup {t:Addr} {items:Array Value} {Q:Value->Shared->Prop} (ht:s.heap.IsTuple t items)
    (h:∀ h',IsEnum h' (s.heap.objs.size + 1) s.heap.objs.size 0 .none->h'.IsTupleIter s.heap.objs.size t 0->(∀ b o,s.heap.get? b=some o->h'.get? b=some o)->Q (.ref (s.heap.objs.size + 1)) { s with heap:=h' }) :
    wpAny (model prog w) A (call (.type "enumerate") [.ref t]) Q E s:=by
  obtain ⟨⟨c,dd,dt,sl⟩,g1,k1,n,k2⟩:=ht
  simp only at k1 k2
  subst k1 k2
  have e1:(s.heap.push { cls:=.type "tuple_iterator",data:=.fields #[.ref t,.int 0 0] }).objs.size=s.heap.objs.size + 1:=Heap.size_push ..
  have e2:IsEnum ((s.heap.push { cls:=.type "tuple_iterator",data:=.fields #[.ref t,.int 0 0] }).push { cls:=.type "enumerate",data:=.fields #[.none,.bool false,.ref s.heap.objs.size,rawInt 0,.none,.none] }) (s.heap.objs.size + 1) s.heap.objs.size 0 .none:=by
    rw [<- e1]
    exact Heap.get?_push_size _ rfl
  refine callType_new F.called_enumerate (by decide) (F.typeCall_enumerate_1 _) (F.newCall_enumerate_1 _) (fun ob=>F.args_object_init_2 ob _) F.entry_enumerate_new (enum_new_tup t items n dd sl) ⟨g1,?_⟩
  show _/\_
  rw [e1]
  exact ⟨⟨_,e2,rfl⟩,h _ e2 ⟨_,Heap.get?_push_of_some _ (Heap.get?_push_size _ rfl),rfl,rfl⟩ fun b o z=>Heap.get?_push_of_some _ (Heap.get?_push_of_some _ z)⟩
theorem next_tup_item {it t:Addr} {i:Nat} {items:Array Value} {x:Value} {Q:Value->Shared->Prop} (st:s.heap.IsTupleIter it t i) (ht:s.heap.IsTuple t items) (hx:items[i]? = some x)
    (hQ:∀ h',h'.IsTupleIter it t (i + 1)->Heap.SameBut it s.heap h'->Q x { s with heap:=h' }):wpAny (model prog w) A (Builtin.SmallTypes.nextOf (.ref it)) Q E s:=by
  obtain ⟨ob,g1,g2,g3⟩:=id st
  obtain ⟨ol,k1,k2,n,k3⟩:=ht
  have no:¬ ((Value.ref t == Value.none)=true):=Bool.false_ne_true
  unfold Builtin.SmallTypes.nextOf
  refine wpAny_bind (wpAny_callSpecial?_slot (name:=Str.ofString "__next__") st.typeIs F.slot_tuple_iterator_next (wpAny_call_entry F.slot_tuple_iterator_next st.typeIs F.entry_tuple_iterator_next ?_ (F.args_tuple_iterator_next_1 _)))
  refine (show wpAny _ _ (field (.ref it) 0 >>= _) _ _ s from wpAny_bind (wpAny_field g1 g3 (x:=.ref t) rfl ?_))
  refine (show wpAny _ _ (if (Value.ref t == Value.none)=true then _ else _) _ _ s from ?_)
  rw [if_neg no]
  refine (show wpAny _ _ (field (.ref it) 1 >>= _) _ _ s from wpAny_bind (wpAny_field g1 g3 (x:=.int i 0) rfl ?_))
  refine (show wpAny _ _ (seqItems? (.ref t) >>= _) _ _ s from wpAny_bind (wpAny_seqItems k1 k3 ?_))
  simp only [hx,Int.toNat_natCast]
  refine wpAny_bind (wpAny_setField g1 g3 (by simp) (wpAny_pure ⟨x,rfl,wpAny_pure (hQ _ ⟨_,Heap.get?_update_self _ g1 (Obj.isFreed_of_fields (Obj.data_mapFields g3 _)),(Obj.cls_mapFields ..).trans g2,?_⟩ (Heap.SameBut.update ..))⟩))
  rw [Obj.data_mapFields g3]
  simp [rawInt]
theorem enum_item {e it:Addr} {i:Nat} {x old:Value} {Q:Option Value->Shared->Prop} {T1:Heap->Prop} (he:IsEnum s.heap e it i old) (hne:e≠it)
    (hk:∀ h h',T1 h->(∀ o,h.get? it=some o->h'.get? it=some o)->T1 h')
    (hn:∀ (A':Around) (E':Value->Shared->Prop) (Q':Value->Shared->Prop),(∀ h',T1 h'->Heap.SameBut it s.heap h'->Q' x { s with heap:=h' })->wpAny (model prog w) A' (Builtin.SmallTypes.nextOf (.ref it)) Q' E' s)
    (hQ : ∀ h',IsEnumOut h' e it ((i:Int) + 1) x s.heap.objs.size->T1 h'->h'.get? s.heap.objs.size=some { cls:=.type "tuple",data:=.seq #[.int i s.toks,x] } ->
      (∀ b o,b≠e->b≠it->s.heap.get? b=some o->h'.get? b=some o)->Q (some (.ref s.heap.objs.size)) { s with heap:=h',toks:=s.toks + 1 }) :
    wpAny (model prog w) A (pyNext (.ref e)) Q E s:=by
  have hT:s.TypeIs (.ref e) "enumerate":=⟨_,he,rfl⟩
  have lt:e < s.heap.objs.size:=Heap.lt_size he
  have core:wpAny (model prog w) A.in1 (Builtin.«enumerate.__next__» ⟨[.ref e],[]⟩) (fun fin s'=>∃ v,fin=.done (.ret v)/\wpAny (model prog w) A (pure (some v)) Q E s') (fun _ _=>False) s:=by
    obtain ⟨hp,ge,dr,tk,os⟩:=s
    refine (show wpAny _ _ (field (.ref e) 2 >>= _) _ _ _ from wpAny_bind (wpAny_field he rfl (x:=.ref it) rfl (wpAny_bind (hn _ _ _ fun h1 t1 b1=>?_))))
    have b1:Heap.SameBut it hp h1:=b1
    have g1:IsEnum h1 e it i old:=(b1.2 e hne).trans he
    refine (show wpAny _ _ (field (.ref e) 3 >>= _) _ _ ⟨h1,ge,dr,tk,os⟩ from wpAny_bind (wpAny_field g1 rfl (x:=rawInt i) rfl ?_))
    refine (show wpAny _ _ (field (.ref e) 4 >>= _) _ _ ⟨h1,ge,dr,tk,os⟩ from wpAny_bind (wpAny_field g1 rfl (x:=.none) rfl ?_))
    refine (show wpAny _ _ (mkInt i >>= _) _ _ ⟨h1,ge,dr,tk,os⟩ from wpAny_bind (wpAny_mkInt ?_))
    refine (show wpAny _ _ (setField (.ref e) 3 (rawInt ((i:Int) + 1)) >>= _) _ _ ⟨h1,ge,dr,tk + 1,os⟩ from wpAny_bind (wpAny_setField_rec g1 (by simp) fun h2 g2 b2=>?_))
    have b2:Heap.SameBut e h1 h2:=b2
    have g2:IsEnum h2 e it ((i:Int) + 1) old:=g2
    refine (show wpAny _ _ (setField (.ref e) 4 .none >>= _) _ _ ⟨h2,ge,dr,tk + 1,os⟩ from wpAny_bind (wpAny_setField_rec g2 (by simp) fun h3 g3 b3=>?_))
    have b3:Heap.SameBut e h2 h3:=b3
    have g3:IsEnum h3 e it ((i:Int) + 1) old:=g3
    have z3:h3.objs.size=hp.objs.size:=by rw [b3.1,b2.1,b1.1]
    refine (show wpAny _ _ (newTuple [.int i tk,x] >>= _) _ _ ⟨h3,ge,dr,tk + 1,os⟩ from wpAny_bind (wpAny_newTuple ?_))
    have g4:IsEnum (h3.push { cls:=.type "tuple",data:=.seq #[.int i tk,x] }) e it ((i:Int) + 1) old:=Heap.get?_push_of_some _ g3
    have u4:(h3.push { cls:=.type "tuple",data:=.seq #[.int i tk,x] }).get? hp.objs.size=some { cls:=.type "tuple",data:=.seq #[.int i tk,x] }:=by
      rw [<- z3]
      exact Heap.get?_push_size _ rfl
    have v4:∀ b o,b≠e->b≠it->hp.get? b=some o->(h3.push { cls:=.type "tuple",data:=.seq #[.int i tk,x] }).get? b=some o:=fun b o q1 q2 q3=>Heap.get?_push_of_some _ (b3.extBut b o q1 (b2.extBut b o q1 (b1.extBut b o q2 q3)))
    have w4:T1 (h3.push { cls:=.type "tuple",data:=.seq #[.int i tk,x] }):=hk h1 _ t1 fun o q=>Heap.get?_push_of_some _ (b3.extBut it o (Ne.symm hne) (b2.extBut it o (Ne.symm hne) q))
    generalize h3.push { cls:=.type "tuple",data:=.seq #[.int i tk,x] }=h4 at g4 u4 v4 w4 ⊢
    rw [z3]
    refine (show wpAny _ _ (Builtin.SmallTypes.ownedTupleIsFree (.ref e) >>= _) _ _ ⟨h4,ge,dr,tk + 1,os⟩ from wpAny_bind ?_)
    unfold Builtin.SmallTypes.ownedTupleIsFree
    refine wpAny_bind (wpAny_field g4 rfl (x:=.none) rfl (wpAny_pure ?_))
    simp only [if_true]
    refine wpAny_bind (wpAny_rule (wpAny_bind (wpAny_field g4 rfl (x:=old) rfl (wpAny_bind (wpAny_setField_rec g4 (by simp) fun h5 g5 b5=>?_)))))
    have b5:Heap.SameBut e h4 h5:=b5
    have g5:IsEnum h5 e it ((i:Int) + 1) x:=g5
    refine (show wpAny _ _ (Builtin.SmallTypes.ownedTupleHandOut (.ref e) (.ref hp.objs.size) >>= _) _ _ ⟨h5,ge,dr,tk + 1,os⟩ from wpAny_bind ?_)
    unfold Builtin.SmallTypes.ownedTupleHandOut
    refine wpAny_bind (wpAny_setField_rec g5 (by simp) fun h6 g6 b6=>?_)
    have b6:Heap.SameBut e h5 h6:=b6
    have g6:IsEnumOut h6 e it ((i:Int) + 1) x hp.objs.size:=g6
    refine wpAny_setField_rec g6 (by simp) fun h7 g7 b7=>?_
    have b7:Heap.SameBut e h6 h7:=b7
    have g7:IsEnumOut h7 e it ((i:Int) + 1) x hp.objs.size:=g7
    have on:∀ b o,b≠e->h4.get? b=some o->h7.get? b=some o:=fun b o q1 q2=>b7.extBut b o q1 (b6.extBut b o q1 (b5.extBut b o q1 q2))
    exact wpAny_bind (wpAny_letGo (wpAny_pure ⟨_,rfl,wpAny_pure (hQ h7 g7 (hk h4 h7 w4 fun o q=>on it o (Ne.symm hne) q) (on _ _ (Nat.ne_of_gt lt) u4) fun b o q1 q2 q3=>on b o q1 (v4 b o q1 q2 q3))⟩))
  unfold pyNext
  exact wpAny_bind (wpAny_attempt (wpAny_callSpecial?_slot (name:=Str.ofString "__next__") hT F.slot_enumerate_next (wpAny_call_entry F.slot_enumerate_next hT F.entry_enumerate_next (wpAny_mono core (fun fin s' ⟨v,q1,q2⟩=>⟨v,q1,q2⟩) fun _ _ z=>z.elim) (F.args_enumerate_next_1 _))))
end
section
variable {prog:Program} {w:World} {A:Around} {E:Value->Shared->Prop} {s:Shared}
theorem next_tup_end {it t:Addr} {i:Nat} {items:Array Value} {Q:Value->Shared->Prop} (hh:A.handled=none) (st:s.heap.IsTupleIter it t i) (ht:s.heap.IsTuple t items) (hx:items[i]? = none)
    (hE:∀ h' e,Heap.ExtBut it s.heap h'->(∃ o,h'.get? e=some o/\o.cls=.type "StopIteration")->E (.ref e) { s with heap:=h' }):wpAny (model prog w) A (Builtin.SmallTypes.nextOf (.ref it)) Q E s:=by
  obtain ⟨ob,g1,g2,g3⟩:=id st
  obtain ⟨ol,k1,k2,n,k3⟩:=ht
  have no:¬ ((Value.ref t == Value.none)=true):=Bool.false_ne_true
  unfold Builtin.SmallTypes.nextOf
  refine wpAny_bind (wpAny_callSpecial?_slot (name:=Str.ofString "__next__") st.typeIs F.slot_tuple_iterator_next (wpAny_call_entry F.slot_tuple_iterator_next st.typeIs F.entry_tuple_iterator_next ?_ (F.args_tuple_iterator_next_1 _)))
  refine (show wpAny _ _ (field (.ref it) 0 >>= _) _ _ s from wpAny_bind (wpAny_field g1 g3 (x:=.ref t) rfl ?_))
  refine (show wpAny _ _ (if (Value.ref t == Value.none)=true then _ else _) _ _ s from ?_)
  rw [if_neg no]
  refine (show wpAny _ _ (field (.ref it) 1 >>= _) _ _ s from wpAny_bind (wpAny_field g1 g3 (x:=.int i 0) rfl ?_))
  refine (show wpAny _ _ (seqItems? (.ref t) >>= _) _ _ s from wpAny_bind (wpAny_seqItems k1 k3 ?_))
  simp only [hx,Int.toNat_natCast]
  refine wpAny_bind (wpAny_rule (wpAny_bind (wpAny_setField g1 g3 (by simp) (show wpAny _ _ (newExc (.type "StopIteration") [] >>= _) _ _ _ from wpAny_bind ?_))))
  simp only [newTuple,newExc]
  refine wpAny_bind (wpAny_newObj_type (wpAny_bind (m:=firstArgMember _ _) (wpAny_of_eq (a:=Value.none) (by first | rfl | (simp only [firstArgMember];rfl)) (wpAny_newObj_type ?_ (by size_fits)))) (by size_fits))
  simp only [raiseNew]
  refine wpAny_bind (wpAny_handled ?_)
  first | rw [hh] | rw [show A.in1.handled=none from hh]
  exact wpAny_bind (wpAny_pure (wpAny_throw (hE _ _ (((Heap.SameBut.update ..).extBut.push _).push _) ⟨_,Heap.get?_push_size _ rfl,rfl⟩)))
theorem enum_end {e it:Addr} {i:Int} {old:Value} {Q:Option Value->Shared->Prop} (he:IsEnum s.heap e it i old)
    (hn:∀ (E':Value->Shared->Prop) (Q':Value->Shared->Prop),(∀ h' x,Heap.ExtBut it s.heap h'->(∃ o,h'.get? x=some o/\o.cls=.type "StopIteration")->E' (.ref x) { s with heap:=h' })->wpAny (model prog w) A.in1 (Builtin.SmallTypes.nextOf (.ref it)) Q' E' s)
    (hQ:∀ h',Heap.ExtBut it s.heap h'->Q none { s with heap:=h' }):wpAny (model prog w) A (pyNext (.ref e)) Q E s:=by
  have hT:s.TypeIs (.ref e) "enumerate":=⟨_,he,rfl⟩
  unfold pyNext
  refine wpAny_bind (wpAny_attempt (wpAny_callSpecial?_slot (name:=Str.ofString "__next__") hT F.slot_enumerate_next (wpAny_call_entry F.slot_enumerate_next hT F.entry_enumerate_next ?_ (F.args_enumerate_next_1 _))))
  refine (show wpAny _ _ (field (.ref e) 2 >>= _) _ _ _ from wpAny_bind (wpAny_field he rfl (x:=.ref it) rfl (wpAny_bind (hn _ _ fun h' x q1 q2=>?_))))
  obtain ⟨o,ho,hc⟩:=q2
  exact wpAny_bind (wpAny_isInstance (T:="StopIteration") (b:=true) ⟨o,ho,hc⟩ isSubtype_stop (wpAny_pure (hQ _ q1)))
end
noncomputable def Iteu (K:PySem.W.Frag) (a:Addr):It :=
  ⟨fun i H=>∃ xs x,SqT K H a xs/\xs[i]? = some x,
   fun i H v H'=>∃ T x,v=.ref T/\H T=none/\H'=upd H T (.tup [.int i,x])/\(∀ xs,SqT K H a xs->xs[i]? = some x),
   fun i H=>∃ xs,SqT K H a xs/\xs.length<=i⟩
theorem turn_enumT {P:Program} {w:World} {K:PySem.W.Frag} {elts:List Expr} {k0} {pos:Pos} {e it l:Addr} (hne:e≠it):Turn P w K (.Tuple elts k0 pos) (Iteu K l) [e,it] e
    (fun i h=>(∃ old,IsEnum h e it i old)/\h.IsTupleIter it l i) where
  mem:=by simp
  obj := fun i h st b hb=>by
    obtain ⟨⟨old,he⟩,h1⟩:=st
    simp only [List.mem_cons,List.not_mem_nil,or_false] at hb
    rcases hb with rfl | rfl
    . exact ⟨_,he,fun v q=>nomatch q⟩
    . obtain ⟨o,e,c,d⟩:=h1
      exact ⟨o,e,fun v q=>by rw [d] at q;cases q⟩
  keep:=fun i h h' st k=>by
    obtain ⟨⟨old,he⟩,h1⟩:=st
    exact ⟨⟨old,k e (by simp) _ he⟩,h1.at fun o q=>k it (by simp) o q⟩
  item := by
    intro X hP hw hK hc i pins s σ H E I hf st hg
    subst hP hw hK
    obtain ⟨⟨old,he⟩,h1⟩:=st
    obtain ⟨xs,x,hx,hxi⟩:=hg
    obtain ⟨its,rv,p,_⟩:=I.tuple hx
    obtain ⟨u,hu,ru⟩:=rv.get hxi
    refine enum_item (x:=u) (T1:=fun h=>h.IsTupleIter it l (i + 1)) he hne (fun h h' a b=>a.at b) (fun A' E' Q' q=>next_tup_item h1 p (by simpa using hu) q) fun h' a1 a2 a3 hk=>?_
    refine ⟨_,rfl,wpAny_letOwnedTupleGo_enum a1 fun h'' he' sb=>?_⟩
    have nz:s.heap.objs.size≠e:=Nat.ne_of_gt (Heap.lt_size he)
    have hT':IsTup h'' s.heap.objs.size [Value.int i s.toks,u].toArray:=⟨_,sb.extBut _ _ nz a3,rfl,_,rfl⟩
    have I':Inv X pins σ (upd H s.heap.objs.size (.tup [.int i,x])) { s with heap:=h'',toks:=s.toks + 1 }:=I.turnedL (ch:=[e,it]) hf (fun b o hb q=>by
      simp only [List.mem_cons,List.not_mem_nil,or_false,not_or] at hb
      exact sb.extBut _ _ hb.1 (hk b o hb.1 hb.2 q)) (Nat.le_refl _) ⟨by show 2<=sizeLine;decide,[Value.int i s.toks,u],.cons ⟨_,rfl⟩ (.cons ru .nil),hT'⟩
    have hn:H s.heap.objs.size=none:=I.hok.fresh (Nat.le_refl _)
    refine ⟨.ref s.heap.objs.size,_,I',rfl,⟨_,x,rfl,hn,rfl,fun zs hzs=>by rw [I.tuple_inj hzs hx];exact hxi⟩,⟨⟨_,by push_cast;exact he'⟩,a2.at fun o q=>sb.extBut it o (Ne.symm hne) q⟩,fun b hb=>?_⟩
    have hfb:=(hf b hb).1
    have : b≠s.heap.objs.size:=by
      obtain ⟨o,q⟩:∃ o,s.heap.get? b=some o:=by
        simp only [List.mem_cons,List.not_mem_nil,or_false] at hb
        rcases hb with rfl | rfl
        . exact ⟨_,he⟩
        . obtain ⟨o,q,_⟩:=h1;exact ⟨o,q⟩
      exact Nat.ne_of_lt (Heap.lt_size q)
    rw [upd_ne this];exact hfb
  done := by
    intro X hP hw hK hc i pins s σ H E I hf st hg
    subst hP hw hK
    obtain ⟨⟨old,he⟩,h1⟩:=st
    obtain ⟨xs,hx,hend⟩:=hg
    obtain ⟨its,rv,p,_⟩:=I.tuple hx
    have hl:=rv.length
    exact enum_end he (fun E' Q' q=>next_tup_end (show X.A.in1.handled=none from I.ok.hd hc) h1 p (by simp;lia) q) fun h' hk=>⟨rfl,I.turnedM (t':=s.toks) (ch:=[e,it]) hf (fun b o hb q=>by
      simp only [List.mem_cons,List.not_mem_nil,or_false,not_or] at hb
      exact hk b o hb.2 q)⟩
  self:=fun _ _ _ _ _ st h=>by
    obtain ⟨⟨old,he⟩,h1⟩:=st
    exact wpAny_pyIter_enum he h
noncomputable def uEnumT (K:PySem.W.Frag):List V->Hp->(It->Hp->Prop)->Prop:=fun vs H R=>match vs with
  | [.ref a]=>(∃ xs,SqT K H a xs)/\R (Iteu K a) H
  | _=>False
end L2
namespace L2
open PySem PySem.Spec PyProof.Rows
theorem noLen_rev:typeLookup (.type "list_reverseiterator") "__len__"=pure none:=by rw [typeLookup_type,builtinLookup_eq_fast];kernel_rfl
theorem hint_rev:typeLookup (.type "list_reverseiterator") "__length_hint__"=pure (some (.builtin "list_reverseiterator.__length_hint__")):=by rw [typeLookup_type,builtinLookup_eq_fast];kernel_rfl
theorem items_rev {items acc:Array Value} (h:ItemsOf (fun i v=>items[items.size - 1 - i]? = some v) acc items.size):acc.toList=items.toList.reverse:=by
  obtain ⟨h1,h2⟩:=h
  apply List.ext_getElem?
  intro j
  by_cases hj:j < items.size
  . have e:=h2 j (acc[j]'(by lia)) (Array.getElem?_eq_getElem (by lia))
    rw [List.getElem?_reverse (by simpa using hj),Array.getElem?_toList,Array.getElem?_toList,Array.length_toList,e]
    exact Array.getElem?_eq_getElem (by lia)
  . rw [List.getElem?_eq_none (by rw [Array.length_toList];lia),List.getElem?_eq_none (by rw [List.length_reverse,Array.length_toList];lia)]
section
variable {prog:Program} {w:World} {A:Around} {E:Value->Shared->Prop} {s:Shared}
theorem collect_rev {I l:Addr} {items:Array Value} {Q:List Value->Shared->Prop} (hh:A.handled=none) (hne:l≠I) (st:s.heap.IsRevIter I l ((items.size:Int) - 1)) (hl:s.heap.IsList l items) (hn:items.size<=sizeLine)
    (hQ:∀ s',Moved [I] (fun a b=>b=a) s s'->Q items.toList.reverse s'):wpAny (model prog w) A (collect (.ref I)) Q E s:=by
  have W:=(Walks.listRev (prog:=prog) (w:=w) (A:=A.in1) hh I l hne items).toS
  have hlt:∀ b∈[I,l],b < s.heap.objs.size:=fun b hb=>by
    simp only [List.mem_cons,List.not_mem_nil,or_false] at hb
    rcases hb with rfl | rfl
    . obtain ⟨o,e,_⟩:=st;exact Heap.lt_size e
    . obtain ⟨o,e,_⟩:=hl;exact Heap.lt_size e
  have nf:s.heap.objs.size ∉ [I,l]:=fun z=>Nat.lt_irrefl _ (hlt _ z)
  have nI:s.heap.objs.size≠I:=fun z=>nf (by rw [z];simp)
  have st0:(0<=items.size/\s.heap.IsRevIter I l ((items.size:Int) - 1 - ((0:Nat):Int))/\s.heap.IsList l items):=⟨Nat.zero_le _,by rw [show ((0:Nat):Int)=0 from rfl,Int.sub_zero];exact st,hl⟩
  unfold collect
  refine wpAny_bind (wpAny_runValue (codeAny_builtin F.entry_proto_collect ?_))
  rw [Around.under_plainId F.plain_proto_collect _]
  refine (show wpAny _ A.in1 (newList [] >>= fun z=>again (.builtin "list.__iadd__" ⟨[z,.ref I],[]⟩)) _ _ s from wpAny_bind (wpAny_newObj_type (wpAny_pure ⟨plainId_quiet F.plain_list_iadd _,codeAny_builtin F.entry_list_iadd ?_⟩)))
  rw [Around.under_plainId F.plain_list_iadd _]
  have st1:=W.frame 0 s (s.heap.push { cls:=.type "list",data:=.seq ([]:List Value).toArray }) s.toks st0 (Nat.le_refl _) fun b _ o e=>Heap.get?_push_of_some _ e
  have new1:(s.heap.push { cls:=.type "list",data:=.seq ([]:List Value).toArray }).get? s.heap.objs.size=some { cls:=.type "list",data:=.seq ([]:List Value).toArray }:=Heap.get?_push_size _ rfl
  have apart:Builtin.List.listSameRef (.ref s.heap.objs.size) (.ref I)=false:=by simp [Builtin.List.listSameRef,nI]
  have ty:({ s with heap:=s.heap.push { cls:=.type "list",data:=.seq ([]:List Value).toArray } }:Shared).TypeIs (.ref I) "list_reverseiterator":=st1.2.1.typeIs
  show wpAny _ A.in1 (Builtin.List.listExtendWith (.ref s.heap.objs.size) (.ref I) (.ref s.heap.objs.size)) _ _ _
  unfold Builtin.List.listExtendWith
  refine wpAny_bind (wpAny_typeOf ty ?_)
  rw [if_neg (by rw [apart];decide)]
  refine wpAny_bind (W.self 0 _ _ _ st1 (wpAny_bind (wpAny_holding ?_)))
  unfold Builtin.List.listLengthHint
  refine wpAny_bind (wpAny_specialOf ty noLen_rev ?_)
  refine (show wpAny _ A.in1 (specialOf (Value.ref I) (Str.ofString "__length_hint__") >>= _) _ _ _ from wpAny_bind (wpAny_specialOf ty hint_rev ?_))
  generalize hid:("list_reverseiterator.__length_hint__":String)=id0
  (fail_if_success (clear hid id0));wp_delta
  rw [show splitId id0=some ("list_reverseiterator","__length_hint__") from by subst hid;decide +kernel]
  subst hid
  refine wpAny_bind (wpAny_isInstance (b:=true) ty (by rw [isSubtype_type];kernel_rfl) (wpAny_pure ?_))
  rw [if_neg (by decide)]
  refine wpAny_pure ⟨plainId_quiet F.plain_extend_loop _,codeAny_extend_loopS W hn _ nf _ items.size 0 _ _ _ rfl (Nat.zero_le _) st1 new1 (ItemsOf.nil _) fun s' acc c' mv here got=>?_⟩
  refine (show wpAny _ A (load s.heap.objs.size >>= _) _ _ s' from wpAny_bind (wpAny_load here (wpAny_pure ?_)))
  have e:=items_rev got
  show Q acc.toList s'
  rw [e]
  exact hQ s' (Moved.drop_new (o:={ cls:=.type "list",data:=.seq ([]:List Value).toArray }) (tk:=s.toks) mv (Nat.le_refl _))
end
section
open PySem.AutoSeq1 (wpAny_loadPart')
theorem tup_new_rev (I l:Addr) (items:Array Value) (hne:l≠I) (hn:items.size<=sizeLine) :
    Meets (Builtin.«tuple.__new__» ⟨[.type "tuple",.ref I],[]⟩) (fun A R s=>A.handled=none/\s.heap.IsRevIter I l ((items.size:Int) - 1)/\s.heap.IsList l items /\
      ∀ s':Shared,Moved [I] (fun a b=>b=a) s s'->R (.ok (.ret (.ref s'.heap.objs.size))) { s' with heap:=s'.heap.push { cls:=.type "tuple",data:=.seq items.reverse } }) :=
  .of_wp fun prog w A R s hq0=>by
    obtain ⟨hh,g1,g2,g3⟩:=hq0
    obtain ⟨hp,ge,dr,tk,os⟩:=s
    have e1:=sub_tuple_self
    have e2:=init_tuple_lookup
    have e3:=madeHere_tuple
    have ty:Shared.TypeIs ⟨hp,ge,dr,tk,os⟩ (.ref I) "list_reverseiterator":=g1.typeIs
    wp_walk using wpAny_typeOf ty,collect_rev (A:=A.in1) (show A.in1.handled=none from hh) hne g1 g2 hn
    intro s' mv
    refine (show wpAny _ _ (Builtin.Tuple.tupleExact items.toList.reverse.toArray >>= fun v=>ret v) _ _ _ from ?_)
    unfold Builtin.Tuple.tupleExact
    have e4:items.toList.reverse.toArray=items.reverse:=by apply Array.toList_inj.mp;rw [Array.toList_reverse]
    rw [e4]
    exact wpAny_bind (wpAny_newObj_type (wpAny_pure ⟨_,rfl,g3 s' mv⟩) (by show items.reverse.size<=sizeLine;simpa using hn))
end
section
variable {prog:Program} {w:World} {A:Around} {E:Value->Shared->Prop} {s:Shared}
theorem call_tup_rev {I l:Addr} {items:Array Value} {Q:Value->Shared->Prop} (hh:A.handled=none) (hne:l≠I) (st:s.heap.IsRevIter I l ((items.size:Int) - 1)) (hl:s.heap.IsList l items) (hn:items.size<=sizeLine)
    (hQ:∀ s':Shared,Moved [I] (fun a b=>b=a) s s'->Q (.ref s'.heap.objs.size) { s' with heap:=s'.heap.push { cls:=.type "tuple",data:=.seq items.reverse } }):wpAny (model prog w) A (call (.type "tuple") [.ref I]) Q E s :=
  callType_new F.called_tuple (by decide) (F.typeCall_tuple_1 _) (F.newCall_tuple_1 _) (fun ob=>F.args_object_init_2 ob _) F.entry_tuple_new (tup_new_rev I l items hne hn) ⟨hh,st,hl,fun s' mv=>⟨⟨_,Heap.get?_push_size _ rfl,rfl⟩,hQ s' mv⟩⟩
end
theorem boot_reversed:bootBuiltins "reversed"=some (.type "reversed"):=by decide +kernel
theorem boot_tuple:bootBuiltins "tuple"=some (.type "tuple"):=by decide +kernel
noncomputable def tTupRev (K:PySem.W.Frag) (te:TE):TE:=fun σ H Q=>te σ H fun x H1=>∃ a xs,x=.ref a/\SqL K H1 a xs/\∀ p,H1 p=none->Q (.ref p) (upd H1 p (.tup xs.reverse))
theorem shared_moved {s s':Shared} {wr:List Addr} (m:Moved wr (fun a b=>b=a) s s'):s'={ s with heap:=s'.heap,toks:=s'.toks }:=by
  have h1:=m.gens
  have h2:=m.drawn
  have h3:=m.os
  cases s'
  simp only at h1 h2 h3
  subst h1 h2 h3
  rfl
section
variable {X:Cx} {e:Expr} {te:TE} {p1 p2 pos1 pos2:Pos}
theorem rev_made (hc:X.calm=true) (hg2:Gl X "reversed") (hm2:X.mg "reversed"=none) (he:PE X e te) (hs2:starEach [e] X.env=[(false,eval e X.env)]) {pins:List (Addr × Obj)} {s:Shared} {σ:St} {H:Hp} {R:Addr->List V->Hp->Prop} {Q:Value->Shared->Prop} (I:Inv X pins σ H s)
    (h:te σ H fun x H1=>∃ a xs,x=.ref a/\SqL X.K H1 a xs/\R a xs H1)
    (k:∀ a xs H1 s1 its,Inv X pins σ H1 s1->SqL X.K H1 a xs->Vals xs its->s1.heap.IsList a its.toArray->xs.length<=sizeLine->R a xs H1->Q (.ref s1.heap.objs.size) { s1 with heap:=s1.heap.push (revObj a ((its.toArray.size:Int) - 1)) }) :
    wpAny (model X.prog X.w) X.A (eval (.Call (.Name "reversed" p2) [e] [] pos2) X.env) Q X.xe s:=by
  refine wpAny_Call_Name_kw (ld_blt I hg2 hm2 boot_reversed ?_ (by decide) (by decide))
  refine PyProof.Rows.callWith_type1 (T:="reversed") ?_ hs2 rfl
  rw [hs2]
  refine (show wpAny _ _ (spliced ((false,eval e X.env)::[])) _ _ s from Calls.spliced_cons (thn (he pins s σ H _ I h) fun v s1 ⟨x,H1,I1,r1,a,xs,e1,hx,q⟩=>Calls.spliced_nil ?_))
  subst e1
  cases r1
  obtain ⟨its,rv,pl,hz⟩:=I1.list hx
  exact call_reversed_list pl.isList (k a xs H1 s1 its I1 hx rv pl.isList hz q)
theorem pe_tupRev (hc:X.calm=true) (hg1:Gl X "tuple") (hm1:X.mg "tuple"=none) (hg2:Gl X "reversed") (hm2:X.mg "reversed"=none) (he:PE X e te) (hs2:starEach [e] X.env=[(false,eval e X.env)]:=by rfl)
    (hs1:starEach [.Call (.Name "reversed" p2) [e] [] pos2] X.env=[(false,eval (.Call (.Name "reversed" p2) [e] [] pos2) X.env)]:=by rfl):PE X (.Call (.Name "tuple" p1) [.Call (.Name "reversed" p2) [e] [] pos2] [] pos1) (tTupRev X.K te):=by
  intro pins s σ H Q I h
  refine wpAny_Call_Name_kw (ld_blt I hg1 hm1 boot_tuple ?_ (by decide) (by decide))
  refine PyProof.Rows.callWith_type1 (T:="tuple") ?_ hs1 rfl
  rw [hs1]
  refine (show wpAny _ _ (spliced ((false,eval (.Call (.Name "reversed" p2) [e] [] pos2) X.env)::[])) _ _ s from Calls.spliced_cons (rev_made hc hg2 hm2 he hs2 I h fun a xs H1 s1 its I1 hx rv pl hz q=>Calls.spliced_nil ?_))
  have la:a < s1.heap.objs.size:=by obtain ⟨o,e,_⟩:=pl;exact Heap.lt_size e
  have hlen:=rv.length
  refine call_tup_rev (I:=s1.heap.objs.size) (l:=a) (items:=its.toArray) (I1.ok.hd hc) (Nat.ne_of_lt la) ⟨_,Heap.get?_push_size _ rfl,rfl,rfl⟩ (pl.at fun o z=>Heap.get?_push_of_some _ z) (by rw [List.size_toArray,<- hlen];exact hz) fun s' mv=>?_
  have e':=shared_moved mv
  have kp:∀ b o,s1.heap.get? b=some o->s'.heap.get? b=some o:=fun b o z=>mv.heap b o (by simp;exact Nat.ne_of_lt (Heap.lt_size z)) (Heap.get?_push_of_some _ z)
  have I2:Inv X pins σ H1 { s1 with heap:=s'.heap,toks:=s'.toks }:=I1.kept (t':=s'.toks) kp
  have I3:Inv X pins σ (upd H1 s'.heap.objs.size (.tup xs.reverse)) { s1 with heap:=s'.heap.push { cls:=.type "tuple",data:=.seq its.toArray.reverse },toks:=s'.toks } :=
    I2.laid (t':=s'.toks) (fun b o z=>Heap.get?_push_of_some _ z) (Nat.le_refl _) ⟨by rw [List.length_reverse];exact hz,its.reverse,Vals.reverse rv,by
      have e9:its.toArray.reverse=its.reverse.toArray:=by apply Array.toList_inj.mp;simp
      rw [e9]
      exact IsTup.new _ _⟩
  rw [e']
  exact ⟨.ref s'.heap.objs.size,_,I3,rfl,q _ (I2.hok.fresh (Nat.le_refl _))⟩
end
end L2
namespace L2
open PySem PySem.Spec PyProof.Rows
inductive Wr where
  | nothing
  | bead (c:Str)
  | side (b:Bool) (f:Wr)
  | pair (f g:Wr)
  | many (k:Nat) (ps:List Wr)
noncomputable def mname:Nat->Str
  | 0=>"row"
  | 1=>"bag"
  | 2=>"choice"
  | _=>"ring"
noncomputable def sname:Bool->Str
  | true=>"right"
  | false=>"left"
noncomputable def Wr.name:Wr->Str
  | .nothing=>"nothing"
  | .bead _=>"bead"
  | .side b _=>sname b
  | .pair _ _=>"pair"
  | .many k _=>mname k
noncomputable def Wr.parts:Wr->List Wr
  | .nothing=>[]
  | .bead _=>[]
  | .side _ f=>[f]
  | .pair f g=>[f,g]
  | .many _ ps=>ps
mutual
noncomputable def Wr.tups:Wr->Nat
  | .nothing=>1
  | .bead _=>1
  | .side _ f=>1 + f.tups
  | .pair f g=>1 + (f.tups + (g.tups + 0))
  | .many _ ps=>1 + tupsL ps
noncomputable def tupsL:List Wr->Nat
  | []=>0
  | w::ws=>w.tups + tupsL ws
end
mutual
noncomputable def Wr.dep:Wr->Nat
  | .nothing=>1
  | .bead _=>1
  | .side _ f=>1 + f.dep
  | .pair f g=>1 + max f.dep g.dep
  | .many _ ps=>1 + depL ps
noncomputable def depL:List Wr->Nat
  | []=>0
  | w::ws=>max w.dep (depL ws)
end
mutual
noncomputable def Wr.ok:Wr->Bool
  | .nothing=>true
  | .bead c=>PyData.strOk c
  | .side _ f=>f.ok
  | .pair f g=>f.ok && g.ok
  | .many _ ps=>okL ps
noncomputable def okL:List Wr->Bool
  | []=>true
  | w::ws=>w.ok && okL ws
end
theorem Wr.tups_pos:∀ w:Wr,1<=w.tups
  | .nothing=>by simp [Wr.tups]
  | .bead _=>by simp [Wr.tups]
  | .side _ f=>by simp [Wr.tups]
  | .pair f g=>by simp [Wr.tups]
  | .many _ ps=>by simp [Wr.tups]
theorem Wr.dep_pos:∀ w:Wr,1<=w.dep
  | .nothing=>by simp [Wr.dep]
  | .bead _=>by simp [Wr.dep]
  | .side _ f=>by simp [Wr.dep]
  | .pair f g=>by simp [Wr.dep]
  | .many _ ps=>by simp [Wr.dep]
mutual
theorem Wr.dep_le:∀ w:Wr,w.dep<=w.tups
  | .nothing=>Nat.le_refl _
  | .bead _=>Nat.le_refl _
  | .side _ f=>by have:=f.dep_le;simp only [Wr.dep,Wr.tups];lia
  | .pair f g=>by have:=f.dep_le;have:=g.dep_le;simp only [Wr.dep,Wr.tups];lia
  | .many _ ps=>by have:=depL_le ps;simp only [Wr.dep,Wr.tups];lia
theorem depL_le:∀ ws:List Wr,depL ws<=tupsL ws
  | []=>Nat.le_refl _
  | w::ws=>by have:=w.dep_le;have:=depL_le ws;simp only [depL,tupsL];lia
end
theorem depL_mem:∀ {ws:List Wr} {w:Wr},w∈ws->w.dep<=depL ws
  | v :: ws,w,h=>by
    simp only [depL]
    rcases List.mem_cons.mp h with rfl | h
    . lia
    . have:=depL_mem h;lia
theorem tupsL_mem:∀ {ws:List Wr} {w:Wr},w∈ws->w.tups<=tupsL ws
  | v :: ws,w,h=>by
    simp only [tupsL]
    rcases List.mem_cons.mp h with rfl | h
    . lia
    . have:=tupsL_mem h;lia
theorem tupsL_app:∀ (ws us:List Wr),tupsL (ws++us)=tupsL ws + tupsL us
  | [],us=>by simp [tupsL]
  | w::ws,us=>by simp only [List.cons_append,tupsL,tupsL_app ws us];lia
theorem Wr.parts_dep (w:Wr):depL w.parts + 1<=w.dep:=by
  cases w with
  | nothing=>simp [Wr.parts,depL,Wr.dep]
  | bead c=>simp [Wr.parts,depL,Wr.dep]
  | side b f=>simp [Wr.parts,depL,Wr.dep];lia
  | pair f g=>simp [Wr.parts,depL,Wr.dep];lia
  | many k ps=>simp [Wr.parts,Wr.dep];lia
theorem Wr.parts_tups (w:Wr):tupsL w.parts + 1<=w.tups:=by
  cases w with
  | nothing=>simp [Wr.parts,tupsL,Wr.tups]
  | bead c=>simp [Wr.parts,tupsL,Wr.tups]
  | side b f=>simp [Wr.parts,tupsL,Wr.tups];lia
  | pair f g=>simp [Wr.parts,tupsL,Wr.tups];lia
  | many k ps=>simp [Wr.parts,Wr.tups];lia
noncomputable def SameT (K:PySem.W.Frag) (H H':Hp):Prop:=∀ a xs,SqT K H a xs->SqT K H' a xs
theorem SameT.trans {K:PySem.W.Frag} {H H1 H2:Hp} (h:SameT K H H1) (k:SameT K H1 H2):SameT K H H2:=fun a xs q=>k a xs (h a xs q)
theorem Same.tups {K:PySem.W.Frag} {H H':Hp} (e:Same H H'):SameT K H H':=fun _ _ h=>e.sq h
theorem SameT.lst {K:PySem.W.Frag} {H:Hp} {l:Addr} {ys zs:List V} (h:H l=some (.lst ys)):SameT K H (upd H l (.lst zs)):=fun a xs q=>by
  rcases q with (q | ⟨o,q⟩) | q
  . refine .inl (.inl ?_)
    rw [upd_ne (ne_of q h (by intro z;cases z))];exact q
  . refine .inl (.inr ⟨o,?_⟩)
    rw [upd_ne (ne_of q h (by intro z;cases z))];exact q
  . exact .inr q
mutual
noncomputable def Wr.toD:Wr->PyData
  | .nothing=>.tuple [.str "nothing"]
  | .bead c=>.tuple [.str "bead",.str c]
  | .side b f=>.tuple [.str (sname b),f.toD]
  | .pair f g=>.tuple [.str "pair",f.toD,g.toD]
  | .many k ps=>.tuple [.str (mname k),.tuple (toDL ps)]
noncomputable def toDL:List Wr->List PyData
  | []=>[]
  | w::ws=>w.toD::toDL ws
end
theorem ok_sname (b:Bool):PyData.strOk (sname b)=true:=by cases b <;> decide +kernel
theorem ok_mname:∀ k,PyData.strOk (mname k)=true
  | 0=>by decide +kernel
  | 1=>by decide +kernel
  | 2=>by decide +kernel
  | k + 3=>by show PyData.strOk "ring"=true;decide +kernel
mutual
theorem Wr.can:∀ w:Wr,w.ok=true->w.toD.canLay0=true
  | .nothing,_=>by simp only [Wr.toD,PyData.canLay0,PyData.canLayAll0];decide +kernel
  | .bead c,h=>by simp only [Wr.toD,PyData.canLay0,PyData.canLayAll0,Bool.and_true];simp only [Wr.ok] at h;rw [h];decide +kernel
  | .side b f,h=>by
    simp only [Wr.ok] at h
    simp only [Wr.toD,PyData.canLay0,PyData.canLayAll0,Bool.and_true,ok_sname,f.can h]
  | .pair f g,h=>by
    simp only [Wr.ok,Bool.and_eq_true] at h
    simp only [Wr.toD,PyData.canLay0,PyData.canLayAll0,Bool.and_true,f.can h.1,g.can h.2]
    decide +kernel
  | .many k ps,h=>by
    simp only [Wr.ok] at h
    simp only [Wr.toD,PyData.canLay0,PyData.canLayAll0,Bool.and_true,ok_mname,canL ps h]
theorem canL:∀ ws:List Wr,okL ws=true->PyData.canLayAll0 (toDL ws)=true
  | [],_=>by simp only [toDL,PyData.canLayAll0]
  | w :: ws,h=>by
    simp only [okL,Bool.and_eq_true] at h
    simp only [toDL,PyData.canLayAll0,w.can h.1,canL ws h.2,Bool.and_true]
end
mutual
theorem Wr.deep:∀ w:Wr,w.toD.depth<=2 * w.dep
  | .nothing=>by simp [Wr.toD,PyData.depth,PyData.depthAll,Wr.dep]
  | .bead c=>by simp [Wr.toD,PyData.depth,PyData.depthAll,Wr.dep]
  | .side b f=>by have:=f.deep;simp only [Wr.toD,PyData.depth,PyData.depthAll,Wr.dep];lia
  | .pair f g=>by have:=f.deep;have:=g.deep;simp only [Wr.toD,PyData.depth,PyData.depthAll,Wr.dep];lia
  | .many k ps=>by have:=deepL ps;simp only [Wr.toD,PyData.depth,PyData.depthAll,Wr.dep];lia
theorem deepL:∀ ws:List Wr,PyData.depthAll (toDL ws)<=2 * depL ws
  | []=>by simp [toDL,PyData.depthAll,depL]
  | w::ws=>by have:=w.deep;have:=deepL ws;simp only [toDL,PyData.depthAll,depL];lia
end
theorem Wr.same_eqv (w:Wr) (h:w.ok=true):PyData.eqv w.toD w.toD=true:=SeqAt.eqv_refl _ (w.can h)
noncomputable def tn (ps:List Wr) (i:Nat):Int:=((ps.map Wr.tups).getD i 0:Nat)
theorem in_many (w:Wr):inV (.str w.name) [V.str "row",V.str "bag",V.str "choice",V.str "ring"]=match w with | .many _ _=>true | _=>false:=by
  cases w with
  | nothing=>decide +kernel
  | bead c=>show inV (.str "bead") _=false;decide +kernel
  | side b f =>
    cases b
    . show inV (.str "left") _=false;decide +kernel
    . show inV (.str "right") _=false;decide +kernel
  | pair f g=>show inV (.str "pair") _=false;decide +kernel
  | many k ps =>
    match k with
    | 0=>show inV (.str "row") _=true;decide +kernel
    | 1=>show inV (.str "bag") _=true;decide +kernel
    | 2=>show inV (.str "choice") _=true;decide +kernel
    | k + 3=>show inV (.str "ring") _=true;decide +kernel
theorem nb_side (b:Bool):¬ (decide (sname b=Str.ofString "bead")=true):=by
  cases b
  . show ¬ (decide ((Str.ofString "left")=(Str.ofString "bead"))=true);decide +kernel
  . show ¬ (decide ((Str.ofString "right")=(Str.ofString "bead"))=true);decide +kernel
theorem nb_many:∀ k,¬ (decide (mname k=Str.ofString "bead")=true)
  | 0=>by show ¬ (decide ((Str.ofString "row")=(Str.ofString "bead"))=true);decide +kernel
  | 1=>by show ¬ (decide ((Str.ofString "bag")=(Str.ofString "bead"))=true);decide +kernel
  | 2=>by show ¬ (decide ((Str.ofString "choice")=(Str.ofString "bead"))=true);decide +kernel
  | k + 3=>by show ¬ (decide ((Str.ofString "ring")=(Str.ofString "bead"))=true);decide +kernel
theorem nb_pair:¬ (decide (Str.ofString "pair"=Str.ofString "bead")=true):=by decide +kernel
theorem nb_nothing:¬ (decide (Str.ofString "nothing"=Str.ofString "bead")=true):=by decide +kernel
theorem k_bm0 {X:Cx} {o:Expr} {to:TE} {name:Str} {apos cpos:Pos} {T id:String} {r:V->List V->Hp->VK->Prop} (K:PySem.W.Frag) (hK:X.K=K) (pa:PlainAttrs T) (slot:Slot T name id) (hty:typeOf (.builtin id)=pure (.type "method_descriptor")) (hm:MtR X id r) (ho:PE X o to)
    (hbase:attributeBase o name X.env (eval o X.env)=eval o X.env:=by rfl) (hline:(apos.endLine == cpos.line)=true:=by rfl):PE X (.Call (.Attribute o name apos) [] [] cpos) (tBM0 K T r to):=hK ▸ pe_bm0 pa slot hty hm ho hbase hline
theorem len_tups:∀ us:List Wr,us.length<=tupsL us
  | []=>Nat.le_refl _
  | u::us=>by have:=u.tups_pos;have:=len_tups us;simp only [List.length_cons,tupsL];lia
end L2
namespace L2
open PySem PySem.Spec PyProof.Rows
noncomputable def tCallV (f:Addr) (sp:Sp) (dvs:List V) (E:XK) (tf:TE) (t:TA):TE:=fun σ H Q=>tf σ H fun y H0=>y=.ref f/\t σ H0 fun vs H1=>sp (vs++dvs) H1 Q E
section
variable {X:Cx} {CX:CXT} {k:Nat} {f:Addr} {fd:FuncData} {ps:List Str} {sp:Sp} {x:Str} {ds:List Value} {dvs:List V} {E:XK} {e:Expr} {es:List Expr} {t:TA} {p pos:Pos} {tf:TE}
theorem pe_callV (F:FnOk X.prog X.w X.K X.mg X.base CX k f fd ps sp) (hr:Room k X.A) (hv:PE X (.Name x p) tf) (hk:PySem.W.keepIn X.K (.ref f)=true) (hb:Binds X.K fd ps ds) (hd:Vals dvs ds) (hx:Passes CX X E) (ha:PA X (e::es) t)
    (he:starEach (e::es) X.env=(false,eval e X.env)::starEach es X.env:=by rfl) (hpl:(backTo pos (starEach es X.env)).any (·.1)=false:=by rfl):PE X (.Call (.Name x p) (e::es) [] pos) (tCallV f sp dvs E tf t):=by
  intro pins s σ H Q I h
  refine wpAny_Call_Name_kw (thn (hv pins s σ H _ I h) fun u s0 h_q=>?_)
  obtain ⟨y,H0,I0,r0,e0,q0⟩:=h_q
  subst e0
  cases r0
  exact PySem.W.callWith_K (h₀:=X.base) I.ok.mod.kin hk (thn (ha pos pins s0 σ H0 _ I0 q0) fun us s1 ⟨vs,H1,I1,r,q⟩=>⟨I1.kIn,run_fn F hr hb hd hx I1 r q⟩) he hpl
end
section
open PySem.AutoSeq1 (wpAny_loadPart')
theorem extend_tup (l:Addr) (items:Array Value) (n:Nat) (t:Addr) (more:Array Value) (m:Nat) (dd:Option Addr) (sl:Array (Option Value)) (h1:¬ (!items.isEmpty && Builtin.List.listTooLong (items.size + more.size))=true) (h2:items.size<=sizeLine) (h3:(items++more).size<=sizeLine + 1) :
    Meets (Builtin.«list.extend» ⟨[.ref l,.ref t],[]⟩) (fun _ R s=>s.heap.get? l=some { cls:=.type "list",data:=.seq items n } /\
      s.heap.get? t=some { cls:=.type "tuple",dict:=dd,data:=.seq more m,slots:=sl }/\R (.ok (.ret .none)) { s with heap:=s.heap.update l (Obj.mapSeq fun x=>x++more) }) :=
  .of_wp fun prog w A R s hq0=>by
    obtain ⟨g1,g2,q⟩:=hq0
    obtain ⟨hp,ge,dr,tk,os⟩:=s
    have a1:=PySem.AutoSeq1.idx_int
    have a2:=PySem.AutoSeq1.sub_tuple_tuple
    have a3:=PySem.AutoSeq1.sub_list_list
    have a4:=PySem.AutoSeq1.sub_tuple_list
    have a5:=PySem.AutoSeq1.sub_list_tuple
    wp_walk using (wpAny_updateSeq g1 rfl (hz:=h2) (_hz':=h3)),wpAny_loadPart' g1,wpAny_loadPart' g2
    exact ⟨_,rfl,q⟩
end
section
variable {X:Cx}
noncomputable def rExtT (K:PySem.W.Frag):V->List V->Hp->VK->Prop:=fun x vs H Q=>∃ l b xs zs,x=.ref l/\vs=[.ref b]/\H l=some (.lst xs)/\SqT K H b zs/\xs.length + zs.length<=sizeLine/\Q .non (upd H l (.lst (xs++zs)))
theorem mt_extT:MtM X "list.extend" (rExtT X.K):=by
  intro pins s σ H x vs v us Q I rx rv h
  obtain ⟨l,b,xs,zs,rfl,rfl,hH,hB,hz,q⟩:=h
  cases rx
  obtain ⟨u,rfl,ru⟩:=rv.one
  cases ru
  obtain ⟨z,its,n,r,hl,e⟩:=I.lstM hH
  obtain ⟨its2,r2,⟨⟨c,dd,dt,sl⟩,e2,k1,m,k2⟩,z2⟩:=I.tuple hB
  simp only at k1 k2
  subst k1 k2
  have hl2:=r2.length
  have hsz:its.toArray.size + its2.toArray.size<=sizeLine:=by simp only [List.size_toArray];lia
  refine call_meets F.slot_list_extend ⟨_,e,rfl⟩ F.entry_list_extend (F.args_list_extend_2 _ _) (extend_tup l its.toArray n b its2.toArray m dd sl (by rw [notLongL hsz,Bool.and_false];decide) (by lia) (by rw [Array.size_append];lia)) ⟨e,e2,?_⟩
  refine ⟨.non,_,I.lset (its':=its++its2) (t':=s.toks) hH e (by simp) (r.append r2) ?_,rfl,q⟩
  simp only [List.length_append]
  lia
end
noncomputable def Itv (K:PySem.W.Frag) (a:Addr) (n:Nat):It :=
  ⟨fun i H=>i < n/\∃ xs x,SqL K H a xs/\xs[n - 1 - i]? = some x,fun i H x H'=>H'=H/\∀ xs,SqL K H a xs->xs[n - 1 - i]? = some x,fun i _=>i=n⟩
theorem turn_rev {P:Program} {w:World} {K:PySem.W.Frag} {tg:Expr} (a it:Addr) (n:Nat):Turn P w K tg (Itv K a n) [it] it (fun i h=>h.IsRevIter it a ((n:Int) - 1 - (i:Int))):=by
  refine ⟨by simp,fun i h st b hb=>?_,fun i h h' st k=>st.at fun o e=>k it (by simp) o e,?_,?_,fun _ _ _ _ _ st h=>wpAny_pyIter_revIter st h⟩
  . obtain rfl:b=it:=by simpa using hb
    obtain ⟨o,e1,_,d⟩:=st
    exact ⟨o,e1,fun v z=>by rw [d] at z;cases z⟩
  . intro X e1 e2 e3 hc i pins s σ H E I hf st ⟨hi,xs,x,hq,hx⟩
    subst e1 e2 e3
    obtain ⟨its,rv,pl,hz⟩:=I.list hq
    obtain ⟨u,hu,ru⟩:=rv.get hx
    obtain ⟨f0,f1,_,f3,f4,f5⟩:=hf it (by simp)
    have st2:s.heap.IsRevIter it a ((n - 1 - i:Nat):Int):=by
      have:((n - 1 - i:Nat):Int)=(n:Int) - 1 - (i:Int):=by lia
      rw [this];exact st
    refine wpAny_pyNext_rev_item st2 pl.isList (x:=u) (by simpa using hu) fun h' st' sb=>?_
    have J1:Inv X pins σ H { s with heap:=h' }:=I.turned (t':=s.toks) (fun b o hb z=>(sb.2 b hb).trans z) f0 f1 f3 f4 f5
    have st3:h'.IsRevIter it a ((n:Int) - 1 - ((i + 1:Nat):Int)):=by
      have:(n:Int) - 1 - ((i + 1:Nat):Int)=((n - 1 - i:Nat):Int) - 1:=by lia
      rw [this];exact st'
    obtain ⟨o,z1,z2,z3⟩:=id st'
    refine ⟨u,rfl,go_of (s:={ s with heap:=h' }) z1 z2 z3 (by decide) ⟨x,H,J1,ru,⟨rfl,fun ys hy=>?_⟩,st3,fun b hb=>(hf b hb).1⟩⟩
    rw [I.list_inj hy hq];exact hx
  . intro X e1 e2 e3 hc i pins s σ H E I hf st hi
    subst e1 e2 e3
    have hi:i=n:=hi
    subst hi
    obtain ⟨f0,f1,_,f3,f4,f5⟩:=hf it (by simp)
    have st2:s.heap.IsRevIter it a (-1):=by
      have:(-1:Int)=(i:Int) - 1 - (i:Int):=by lia
      rw [this];exact st
    exact wpAny_pyNext_rev_end (I.ok.hd hc) st2 fun h' eb=>⟨rfl,I.turned (t':=s.toks) (fun b o hb z=>eb b o hb z) f0 f1 f3 f4 f5⟩
section
variable {X:Cx} {tg e:Expr} {te:TE} {p2 pos2:Pos}
noncomputable def jRev (K:PySem.W.Frag) (te:TE):TI:=fun σ H R=>te σ H fun x H1=>∃ a xs,x=.ref a/\SqL K H1 a xs/\R (Itv K a xs.length) H1
theorem pj_rev (hc:X.calm=true) (hg:Gl X "reversed") (hm:X.mg "reversed"=none) (he:PE X e te) (hs:starEach [e] X.env=[(false,eval e X.env)]:=by rfl):PI X tg (.Call (.Name "reversed" p2) [e] [] pos2) (jRev X.K te):=by
  intro pins s σ H R I h
  refine rev_made hc hg hm he hs I h fun a xs H1 s1 its I1 hx rv pl hz q=>?_
  have hlen:its.toArray.size=xs.length:=by rw [List.size_toArray];exact rv.length.symm
  have hit:(s1.heap.push (revObj a ((its.toArray.size:Int) - 1))).IsRevIter s1.heap.objs.size a ((its.toArray.size:Int) - 1):=⟨_,Heap.get?_push_size _ rfl,rfl,rfl⟩
  refine wpAny_pyIter_revIter (s:={ s1 with heap:=s1.heap.push (revObj a ((its.toArray.size:Int) - 1)) }) hit ⟨_,[s1.heap.objs.size],_,_,H1,rfl,I1.kept (t':=s1.toks) fun b o z=>Heap.get?_push_of_some _ z,turn_rev a s1.heap.objs.size xs.length,?_,fun b hb=>?_,q⟩
  . show Heap.IsRevIter _ _ _ _
    rw [<- hlen,show ((its.toArray.size:Nat):Int) - 1 - ((0:Nat):Int)=(its.toArray.size:Int) - 1 from by lia]
    exact hit
  . obtain rfl:b=s1.heap.objs.size:=by simpa using hb
    exact I1.fpOk (Nat.le_refl _) I1.fresh
end
end L2
namespace L2
open PySem PySem.Spec PyProof.Rows
theorem tail_bounds {a n:Nat} (h:a<=n):sliceBounds (some (a:Int)) none none n=((a:Int),(n:Int),1):=by
  have h1:¬ ((a:Int) < 0):=by lia
  have h2:min (a:Int) (n:Int)=a:=by lia
  simp [sliceBounds,h1,h2]
theorem tail_splice (its its2:List Value) (a:Nat) (n:Nat) (h:its.length<=n):its.toArray.extract 0 a++its2.toArray++its.toArray.extract n its.toArray.size=(its.take a++its2).toArray:=by
  apply Array.toList_inj.mp
  simp
  lia
section
variable {prog:Program} {w:World} {A:Around} {E:Value->Shared->Prop} {s:Shared}
theorem set_tail_run {l b sl:Addr} {items new:Array Value} {n n2:Nat} {vl:Value} {a:Nat} {Q:Unit->Shared->Prop} (g1:s.heap.get? l=some { cls:=.type "list",data:=.seq items n }) (g2:s.heap.get? b=some { cls:=.type "list",data:=.seq new n2 }) (hne:l≠b)
    (hs:s.heap.IsSliceOf sl vl .none .none) (pl:IsPart vl (some (a:Int))) (ha:a<=items.size) (hz:items.size + new.size<=sizeLine)
    (h:Q () { s with heap:=s.heap.update l (Obj.mapSeq fun xs=>xs.extract 0 a++new++xs.extract items.size xs.size) }):wpAny (model prog w) A (setItem (.ref l) (.ref sl) (.ref b)) Q E s:=by
  have k1:s.heap.IsList l items:=PySem.IsL.isList g1
  have k2:s.heap.IsList b new:=PySem.IsL.isList g2
  obtain ⟨o,k3,k4,k5⟩:=id hs
  have ts:s.TypeIs (.ref sl) "slice":=⟨o,k3,k4⟩
  have st:¬ ((rawPart none == rawInt 0)=true):=by decide
  have df:Builtin.List.listSameRef (.ref l) (.ref b)=false:=beq_eq_false_iff_ne.mpr hne
  have mx:(max (a:Int) (items.size:Int)).toNat=items.size:=by lia
  have z2:((fun xs:Array Value=>xs.extract 0 a++new++xs.extract items.size xs.size) items).size<=sizeLine + 1:=by
    simp only [Array.size_append,Array.size_extract]
    lia
  unfold setItem
  try with_reducible refine wpAny_holding ?_
  first | refine wpAny_bind (wpAny_pure ?_) | skip
  refine wpAny_bind (wpAny_sequenceKey k1.typeIs (by decide) (wpAny_bind (wpAny_callSpecial?_slot (name:=Str.ofString "__setitem__") k1.typeIs slot_list_setitem (wpAny_call_entry slot_list_setitem k1.typeIs entry_list_setitem ?_ (args_list_setitem _ _ _)))))
  refine (show wpAny _ _ (Builtin.List.listSubscript? (.ref sl) >>= _) _ _ s from wpAny_bind ?_)
  unfold Builtin.List.listSubscript?
  refine wpAny_bind (wpAny_specialOf ts slice_no_index ?_)
  simp only [Option.isNone_none,if_true]
  refine wpAny_pure (show wpAny _ _ (typeOf (.ref sl) >>= _) _ _ s from wpAny_bind (wpAny_typeOf ts ?_))
  first | rw [if_neg (by decide)] | refine PySem.W.KFB.if_not (by decide) ?_
  rw [listSliceParts_eq]
  refine wpAny_bind (wpAny_bind (wpAny_field k3 k5 (x:=.none) rfl (wpAny_bind (wpAny_listPart .none ?_))))
  rw [if_neg st]
  refine wpAny_bind (wpAny_field k3 k5 (x:=vl) rfl (wpAny_bind (wpAny_listPart pl (wpAny_bind (wpAny_field k3 k5 (x:=.none) rfl (wpAny_bind (wpAny_listPart .none (wpAny_pure ?_))))))))
  first
    | simp only [df,Bool.false_eq_true,if_false]
    | refine PySem.W.KFB.if_not df ?_
  refine wpAny_bind (m:=Builtin.List.listAllItems (.ref b) "must assign iterable to extended slice") ?_
  unfold Builtin.List.listAllItems
  refine wpAny_bind (wpAny_typeOf k2.typeIs ?_)
  first
    | refine PySem.W.KFB.if_so (by decide) ?_
    | rw [if_pos (by decide)]
  unfold Builtin.List.listItems
  refine wpAny_bind (wpAny_seqItems g2 rfl (wpAny_pure (wpAny_bind (wpAny_bind (wpAny_seqItems g1 rfl (wpAny_pure ?_))))))
  refine wpAny_bind (wpAny_of_eq ((sliceIndices_raw (some (a:Int)) none none items.size (by simp)).trans (congrArg (pure:Int × Int × Int->Sem (Int × Int × Int)) (tail_bounds ha))) ?_)
  refine (show wpAny _ _ (if ((1:Int) == 1)=true then _ else _) _ _ s from ?_)
  rw [if_pos (by decide)]
  refine wpAny_bind (wpAny_rule ?_)
  first
    | simp only [notLongL hz,Bool.false_eq_true,if_false]
    | refine PySem.W.KFB.if_not (notLongL hz) ?_
  first | refine wpAny_bind (wpAny_pure ?_) | skip
  refine (show wpAny _ _ (updateSeq l (fun xs=>xs.extract 0 ((a:Int)).toNat++new++xs.extract (max (a:Int) (items.size:Int)).toNat xs.size) >>= _) _ _ s from ?_)
  rw [mx,Int.toNat_natCast]
  refine wpAny_bind (wpAny_updateSeq (hz:=Nat.le_trans (Nat.le_add_right _ _) hz) (_hz':=z2) g1 rfl (wpAny_bind (wpAny_letGo ?_)))
  first
    | exact wpAny_bind (wpAny_pure (wpAny_pure ⟨.none,rfl,wpAny_pure h⟩))
    | exact wpAny_pure ⟨.none,rfl,wpAny_pure h⟩
end
end L2
namespace L2
open PySem PySem.Spec PyProof.Rows
noncomputable def gTail (to:TE) (tl:TO):TG:=fun v σ H Q=>to σ H fun x H1=>tl σ H1 fun l H2=>∃ (a b:Addr) (xs ys:List V) (i:Int),x=.ref a/\v=.ref b/\l=some i/\H2 a=some (.lst xs)/\H2 b=some (.lst ys)/\a≠b/\0<=i/\i<=xs.length/\xs.length + ys.length<=sizeLine /\
  Q σ (upd H2 a (.lst (xs.take i.toNat++ys)))
section
variable {X:Cx} {o:Expr} {lo:Option Expr} {to:TE} {tl:TO} {p2 pos:Pos}
theorem pg_tail (ho:PE X o to) (hl:PO X lo tl)
    (ha : ∀ v,assign (.Subscript o (.Slice lo none none p2) pos) X.env v=(do
      let ov <- holding [v] (eval o X.env)
      let iv <- holding [v,ov] (eval (.Slice lo none none p2) X.env)
      standAt pos
      holding [v,ov,iv] (setItem ov iv v)
      release [iv,v,ov] []):=by intro _;rfl):PG X (.Subscript o (.Slice lo none none p2) pos) (gTail to tl):=by
  intro pins s σ H v u Q I r h
  rw [ha]
  refine wpAny_bind (wpAny_holding (thn (ho pins s σ H _ I h) fun ov s1 ⟨x,H1,I1,r1,q1⟩=>wpAny_bind (wpAny_holding ?_)))
  refine wpAny_Slice (thn (hl pins s1 σ H1 _ I1 q1) fun vl s2 h_q=>?_)
  obtain ⟨l,H2,I2,pl,a,b,xs,ys,i,e1,e2,e3,h1,h2,hne,h0,hi,hz,q2⟩:=h_q
  subst e1 e2 e3
  cases r1
  cases r
  rw [evalPart_none]
  refine wpAny_pure ?_
  refine wpAny_pure ?_
  have I4:Inv X pins σ H2 { s2 with heap:=s2.heap.push { cls:=.type "slice",data:=.fields #[vl,.none,.none] } }:=I2.kept (t':=s2.toks) fun b ob q=>Heap.get?_push_of_some _ q
  obtain ⟨i',rfl⟩:=Int.eq_ofNat_of_zero_le h0
  obtain ⟨z,its,n,rv,hl1,g1⟩:=I4.lstM h1
  obtain ⟨z2,its2,n2,rv2,hl2,g2⟩:=I4.lstM h2
  refine wpAny_bind (wpAny_standAt (wpAny_bind (wpAny_holding (set_tail_run (a:=i') g1 g2 hne (Heap.IsSliceOf.new ..) pl (by rw [List.size_toArray];lia) (by simp only [List.size_toArray];lia) (wpAny_release ⟨σ,_,?_,q2⟩)))))
  refine I4.lset (its':=its.take i'++its2) (t':=s2.toks) h1 g1 ?_ (Vals.append (rv.take _) rv2) ?_
  . exact tail_splice its its2 i' _ (by simp)
  . simp only [List.length_append,List.length_take,Int.toNat_natCast]
    lia
end
end L2
namespace L2
open PySem PySem.Spec PyProof.Rows PySem.MeetsSeq
open PySem.AutoSeq1 (wpAny_loadPart')
theorem tup_index (t:Addr) (items:Array Value) (n:Nat) (dd:Option Addr) (sl:Array (Option Value)) (x:Value) (e:Value->Bool) (he:∀ y,y∈items->EqGives y x (e y)) (j:Nat) (hj:j < items.size) (hit:e items[j]=true) (hno:∀ m (hm:m < items.size),m < j->e items[m]=false) :
    Meets (Builtin.«tuple.index» ⟨[.ref t,x],[]⟩) (fun _ R s=>s.heap.get? t=some { cls:=.type "tuple",dict:=dd,data:=.seq items n,slots:=sl }/\R (.ok (.ret (.int j s.toks))) { s with toks:=s.toks + 1 }) :=
  .of_wp fun prog w A R s hq0=>by
    obtain ⟨g1,q⟩:=hq0
    obtain ⟨hp,ge,dr,tk,os⟩:=s
    wp_walk using wpAny_loadPart' g1
    refine (show wpAny (model prog w) A.in1 (forIn [:min items.size items.size] ((none,()):Option PySem.Fin × Unit) fun (i:Nat) r=>(match items[i]? with
            | some y=>do
              let b <- eqBool y x
              if b = true then do
                  let v <- retInt (i:Int)
                  pure (ForInStep.done (some v,()))
                else pure (ForInStep.yield (none,()))
            | _=>pure (ForInStep.yield (none,())))) _ _ _ from ?_)
    rw [Std.Legacy.Range.forIn_eq_forIn_range']
    refine wpAny_forIn_list _ (fun rest r s'=>r.1=none/\s'=⟨hp,ge,dr,tk,os⟩/\∃ i,i<=j/\rest=List.range' i (items.size - i)) _ ?_ ?_ _ _ ⟨rfl,rfl,0,Nat.zero_le _,by simp [Std.Legacy.Range.size]⟩
    . rintro m rest r s' ⟨_,rfl,i,hi,hm⟩
      obtain ⟨k,hk⟩:∃ k,items.size - i=k + 1:=⟨items.size - i - 1,by lia⟩
      rw [hk,List.range'_succ] at hm
      obtain ⟨rfl,rfl⟩:=List.cons.inj hm
      have hlt:m < items.size:=by lia
      rw [Array.getElem?_eq_getElem hlt]
      refine wpAny_bind (he _ (Array.getElem_mem hlt) prog w _ _ _ _ ?_)
      by_cases hmj:m=j
      . subst hmj
        rw [hit,if_pos rfl]
        unfold retInt
        exact wpAny_bind (wpAny_bind (wpAny_mkInt (wpAny_pure (wpAny_pure (wpAny_pure ⟨_,rfl,q⟩)))))
      . rw [hno m hlt (by lia),if_neg (by decide)]
        exact wpAny_pure ⟨rfl,rfl,m + 1,by lia,by rw [show items.size - (m + 1)=k from by lia]⟩
    . rintro r s' ⟨_,rfl,i,hi,hm⟩
      have:(List.range' i (items.size - i)).length=0:=by rw [<- hm];rfl
      rw [List.length_range'] at this
      lia
section
variable {X:Cx}
noncomputable def strB (z:Str):Value->Bool
  | .str s _=>s.cps.toList == z.cps.toList
  | _=>false
theorem strB_vals {ss:List Str} {its:List Value} (r:Vals (ss.map V.str) its) {i:Nat} {u:Value} (hu:its[i]? = some u):∃ s t,ss[i]? = some s/\u=.str s t:=by
  have hl:=r.length
  rw [List.length_map] at hl
  have hi:i < its.length:=(List.getElem?_eq_some_iff.mp hu).1
  obtain ⟨v,hv,rv⟩:=r.get (i:=i) (x:=V.str (ss[i]'(by lia))) (by rw [List.getElem?_map,List.getElem?_eq_getElem (by lia)];rfl)
  rw [hu] at hv
  cases hv
  obtain ⟨t,rfl⟩:=rv
  exact ⟨_,t,List.getElem?_eq_getElem (by lia),rfl⟩
theorem strB_facts {ss:List Str} {its:List Value} (r:Vals (ss.map V.str) its) {z:Str} {t:Tok} {j:Nat} (hj:ss[j]? = some z) (hno:∀ m,m < j->ss[m]?≠some z) :
    (∀ y,y∈its.toArray->EqGives y (.str z t) (strB z y))/\∃ h:j < its.toArray.size,strB z (its.toArray[j])=true/\∀ m (hm:m < its.toArray.size),m < j->strB z (its.toArray[m])=false:=by
  have hl:=r.length
  rw [List.length_map] at hl
  refine ⟨fun y hy=>?_,?_⟩
  . obtain ⟨i,hi⟩:=List.mem_iff_getElem?.mp (show y∈its by simpa using hy)
    obtain ⟨s,u,_,rfl⟩:=strB_vals r hi
    exact SeqRoads2.EqGives.str s z u t
  . have h0:j < ss.length:=(List.getElem?_eq_some_iff.mp hj).1
    refine ⟨by rw [List.size_toArray];lia,?_,fun m hm h=>?_⟩
    . obtain ⟨s,u,h1,h2⟩:=strB_vals r (i:=j) (u:=its[j]'(by lia)) (List.getElem?_eq_getElem (by lia))
      rw [hj] at h1
      cases h1
      show strB z (its[j]'(by lia))=true
      rw [h2]
      show (z.cps.toList == z.cps.toList)=true
      simp
    . rw [List.size_toArray] at hm
      obtain ⟨s,u,h1,h2⟩:=strB_vals r (i:=m) (u:=its[m]) (List.getElem?_eq_getElem hm)
      show strB z its[m]=false
      rw [h2]
      show (s.cps.toList == z.cps.toList)=false
      refine beq_eq_false_iff_ne.mpr fun e=>hno m h ?_
      have:s=z:=by
        cases s;cases z
        simp only at e
        rw [Array.toList_inj.mp e]
      rw [h1,this]
noncomputable def rIdxS (T:V->List Str->Hp->Prop):V->List V->Hp->VK->Prop:=fun x vs H Q=>∃ (ss:List Str) (z:Str) (j:Nat),T x ss H/\vs=[.str z]/\ss[j]? = some z/\(∀ m,m < j->ss[m]?≠some z)/\Q (.int j) H
theorem mt_idxT:MtR X "tuple.index" (rIdxS fun x ss H=>∃ a,x=.ref a/\SqT X.K H a (ss.map V.str)):=by
  intro pins s σ H x vs v us Q I rx rv h
  obtain ⟨ss,z,j,⟨a,rfl,hH⟩,rfl,hj,hno,q⟩:=h
  cases rx
  obtain ⟨u,rfl,ru⟩:=rv.one
  obtain ⟨t,rfl⟩:=ru
  obtain ⟨its,r,⟨⟨c,dd,dt,sl⟩,e,k1,n,k2⟩,hz⟩:=I.tuple hH
  simp only at k1 k2
  subst k1 k2
  obtain ⟨h1,h2,h3,h4⟩:=strB_facts (t:=t) r hj hno
  exact call_meets F.slot_tuple_index ⟨_,e,rfl⟩ F.entry_tuple_index (F.args_tuple_index_2 _ _) (tup_index a its.toArray n dd sl (.str z t) (strB z) h1 j h2 h3 h4) ⟨e,.int j,H,I.tok _,⟨_,rfl⟩,q⟩
end
end L2
namespace L2
open PySem PySem.Spec PyProof.Rows
mutual
noncomputable def Wr.post:Wr->List Wr
  | .nothing=>[.nothing]
  | .bead c=>[.bead c]
  | .side b f=>f.post++[.side b f]
  | .pair f g=>f.post++(g.post++[.pair f g])
  | .many k ps=>postL ps++[.many k ps]
noncomputable def postL:List Wr->List Wr
  | []=>[]
  | w::ws=>w.post++postL ws
end
theorem Wr.post_eq (w:Wr):w.post=postL w.parts++[w]:=by
  cases w <;> simp [Wr.post,Wr.parts,postL]
theorem postL_app:∀ (ws us:List Wr),postL (ws++us)=postL ws++postL us
  | [],us=>rfl
  | w::ws,us=>by simp only [List.cons_append,postL,postL_app ws us,List.append_assoc]
mutual
theorem Wr.post_len:∀ w:Wr,w.post.length=w.tups
  | .nothing=>rfl
  | .bead _=>rfl
  | .side b f=>by simp [Wr.post,Wr.tups,f.post_len];lia
  | .pair f g=>by simp [Wr.post,Wr.tups,f.post_len,g.post_len];lia
  | .many k ps=>by simp [Wr.post,Wr.tups,postL_len ps];lia
theorem postL_len:∀ ws:List Wr,(postL ws).length=tupsL ws
  | []=>rfl
  | w::ws=>by simp [postL,tupsL,w.post_len,postL_len ws]
end
noncomputable def Run:List Wr->List Wr->List Wr->Prop
  | S,[],F=>S=F
  | S,x::l,F=>∃ S0,S=S0++x.parts/\Run (S0++[x]) l F
mutual
theorem Wr.run:∀ (w:Wr) (S l F:List Wr),Run (S++[w]) l F->Run S (w.post++l) F
  | .nothing,S,l,F,h=>⟨S,by simp [Wr.parts],h⟩
  | .bead c,S,l,F,h=>⟨S,by simp [Wr.parts],h⟩
  | .side b f,S,l,F,h=>by
    simp only [Wr.post,List.append_assoc]
    exact f.run S _ F ⟨S,by simp [Wr.parts],h⟩
  | .pair f g,S,l,F,h=>by
    simp only [Wr.post,List.append_assoc]
    refine f.run S _ F (g.run (S++[f]) _ F ⟨S,by simp [Wr.parts],h⟩)
  | .many k ps,S,l,F,h=>by
    simp only [Wr.post,List.append_assoc]
    exact runL ps S _ F ⟨S,by simp [Wr.parts],h⟩
theorem runL:∀ (ws S l F:List Wr),Run (S++ws) l F->Run S (postL ws++l) F
  | [],S,l,F,h=>by simpa [postL] using h
  | w :: ws,S,l,F,h=>by
    simp only [postL,List.append_assoc]
    refine w.run S _ F (runL ws (S++[w]) l F ?_)
    simpa using h
end
theorem Wr.run_all (w:Wr):Run [] w.post [w]:=by
  have:=w.run [] [] [w] rfl
  simpa using this
mutual
theorem Wr.post_mem:∀ (w y:Wr),y∈w.post->w.ok=true->y.ok=true/\y.tups<=w.tups
  | .nothing,y,h,o=>by simp [Wr.post] at h;subst h;exact ⟨o,Nat.le_refl _⟩
  | .bead c,y,h,o=>by simp [Wr.post] at h;subst h;exact ⟨o,Nat.le_refl _⟩
  | .side b f,y,h,o=>by
    simp only [Wr.post,List.mem_append,List.mem_singleton] at h
    rcases h with h | rfl
    . have:=f.post_mem y h (by simpa [Wr.ok] using o)
      exact ⟨this.1,by simp only [Wr.tups];lia⟩
    . exact ⟨o,Nat.le_refl _⟩
  | .pair f g,y,h,o=>by
    have o2:f.ok=true/\g.ok=true:=by simpa [Wr.ok] using o
    simp only [Wr.post,List.mem_append,List.mem_singleton] at h
    rcases h with h | h | rfl
    . have:=f.post_mem y h o2.1
      exact ⟨this.1,by simp only [Wr.tups];lia⟩
    . have:=g.post_mem y h o2.2
      exact ⟨this.1,by simp only [Wr.tups];lia⟩
    . exact ⟨o,Nat.le_refl _⟩
  | .many k ps,y,h,o=>by
    simp only [Wr.post,List.mem_append,List.mem_singleton] at h
    rcases h with h | rfl
    . have:=postL_mem ps y h (by simpa [Wr.ok] using o)
      exact ⟨this.1,by simp only [Wr.tups];lia⟩
    . exact ⟨o,Nat.le_refl _⟩
theorem postL_mem:∀ (ws:List Wr) (y:Wr),y∈postL ws->okL ws=true->y.ok=true/\y.tups<=tupsL ws
  | [],y,h,o=>by simp [postL] at h
  | w :: ws,y,h,o=>by
    have o2:w.ok=true/\okL ws=true:=by simpa [okL] using o
    simp only [postL,List.mem_append] at h
    rcases h with h | h
    . have:=w.post_mem y h o2.1
      exact ⟨this.1,by simp only [tupsL];lia⟩
    . have:=postL_mem ws y h o2.2
      exact ⟨this.1,by simp only [tupsL];lia⟩
end
theorem Wr.nb (w:Wr) (h:∀ c,w≠.bead c):¬ (decide (w.name=Str.ofString "bead")=true):=by
  cases w with
  | bead c=>exact absurd rfl (h c)
  | nothing=>exact nb_nothing
  | side b f=>exact nb_side b
  | pair f g=>exact nb_pair
  | many k ps=>exact nb_many k
mutual
noncomputable def Wr.size:Wr->Nat
  | .nothing=>0
  | .bead _=>1
  | .side _ f=>f.size
  | .pair f g=>f.size + (g.size + 0)
  | .many _ ps=>sizeL ps
noncomputable def sizeL:List Wr->Nat
  | []=>0
  | w::ws=>w.size + sizeL ws
end
theorem Wr.size_parts (w:Wr) (h:∀ c,w≠.bead c):w.size=sizeL w.parts:=by
  cases w with
  | bead c=>exact absurd rfl (h c)
  | nothing=>rfl
  | side b f=>simp [Wr.size,Wr.parts,sizeL]
  | pair f g=>simp [Wr.size,Wr.parts,sizeL]
  | many k ps=>rfl
theorem bead_or (w:Wr):(∃ c,w=.bead c)\/∀ c,w≠.bead c:=by
  cases w with
  | bead c=>exact .inl ⟨c,rfl⟩
  | _=>exact .inr fun c=>by simp
noncomputable def Wr.kidx:Wr->Nat
  | .nothing=>0
  | .bead _=>1
  | .side b _=>if b then 3 else 2
  | .pair _ _=>4
  | .many k _=>match k with | 0=>5 | 1=>6 | 2=>7 | _=>8
noncomputable def kindS:List Str:=["nothing","bead","left","right","pair","row","bag","choice","ring"]
theorem Wr.kidx_at (w:Wr):kindS[w.kidx]? = some w.name/\∀ m,m < w.kidx->kindS[m]?≠some w.name:=by
  have fin:∀ (i:Nat) (s:Str),kindS[i]? = some s->(∀ m,m < 9->m < i->kindS[m]?≠some s)->i < 9->kindS[i]? = some s/\∀ m,m < i->kindS[m]?≠some s:=fun i s h1 h2 h3=>⟨h1,fun m hm=>h2 m (by lia) hm⟩
  cases w with
  | nothing=>exact fin 0 "nothing" (by decide +kernel) (by decide +kernel) (by decide)
  | bead c=>exact fin 1 "bead" (by decide +kernel) (by decide +kernel) (by decide)
  | side b f =>
    cases b
    . exact fin 2 "left" (by decide +kernel) (by decide +kernel) (by decide)
    . exact fin 3 "right" (by decide +kernel) (by decide +kernel) (by decide)
  | pair f g=>exact fin 4 "pair" (by decide +kernel) (by decide +kernel) (by decide)
  | many k ps =>
    match k with
    | 0=>exact fin 5 "row" (by decide +kernel) (by decide +kernel) (by decide)
    | 1=>exact fin 6 "bag" (by decide +kernel) (by decide +kernel) (by decide)
    | 2=>exact fin 7 "choice" (by decide +kernel) (by decide +kernel) (by decide)
    | k + 3=>exact fin 8 "ring" (by decide +kernel) (by decide +kernel) (by decide)
mutual
noncomputable def Wr.keyD:Wr->PyData
  | .nothing=>.tuple [.int 0,.int 0]
  | .bead c=>.tuple [.int 1,.int 1,.str c]
  | .side b f=>.tuple [.int f.size,.int (Wr.side b f).kidx,f.keyD]
  | .pair f g=>.tuple [.int (Wr.pair f g).size,.int 4,f.keyD,g.keyD]
  | .many k ps=>.tuple (.int (sizeL ps)::.int (Wr.many k ps).kidx::keyDL ps)
noncomputable def keyDL:List Wr->List PyData
  | []=>[]
  | w::ws=>w.keyD::keyDL ws
end
theorem keyDL_map:∀ ws:List Wr,keyDL ws=ws.map Wr.keyD
  | []=>rfl
  | w::ws=>by rw [keyDL,List.map_cons,keyDL_map ws]
theorem Wr.keyD_parts (w:Wr) (h:∀ c,w≠.bead c):w.keyD=.tuple (.int w.size::.int w.kidx::w.parts.map Wr.keyD):=by
  cases w with
  | bead c=>exact absurd rfl (h c)
  | nothing=>rfl
  | side b f=>rfl
  | pair f g=>rfl
  | many k ps=>simp only [Wr.keyD,Wr.parts,keyDL_map];rfl
theorem ty_const {K:PySem.W.Frag} {a:Addr} {oc:Value} {od:Option Addr} {is:Array Value} {sn:Nat} {sl:Array (Option Value)} (o:K.lookup a=some ⟨oc,od,.seq is sn,sl⟩) (t:(oc == .type "tuple")=true/\(od == none)=true):∀ H,tyV K "tuple" (.ref a) H :=
  fun H=>.inr (.inl ⟨rfl,_,o,eq_of_beq t.1,eq_of_beq t.2⟩)
theorem Wr.keyD_head (w:Wr):∃ rest,w.keyD=.tuple (.int w.size::rest):=by
  rcases bead_or w with ⟨c,rfl⟩ | h
  . exact ⟨_,rfl⟩
  . exact ⟨_,w.keyD_parts h⟩
end L2
namespace L2
open PySem PySem.Spec PyProof.Rows
inductive U where
  | non | bl (b:Bool) | int (i:Int) | str (x:Str) | ty (n:String) | tup (xs:List U) | rol (xs:List U) | ref (a:Addr)
noncomputable def SqR (K:PySem.W.Frag) (H:Hp) (a:Addr) (xs:List V):Prop:=(∃ o,H a=some (.frz o (.lst xs))) \/
    ∃ (o:Obj) (its:Array Value) (n:Nat),K.lookup a=some o/\o.cls=.type "list"/\o.dict=none/\o.data=.seq its n/\its.size<=sizeLine/\Vals xs its.toList
theorem SqR.sq {K:PySem.W.Frag} {H:Hp} {a:Addr} {xs:List V} (h:SqR K H a xs):SqL K H a xs:=by
  rcases h with h | h
  . exact .inl (.inr h)
  . exact .inr h
structure Kp (K:PySem.W.Frag) (H H':Hp):Prop where
  t : SameT K H H'
  r : ∀ a xs,SqR K H a xs->SqR K H' a xs
  f : ∀ a o u,H a=some (.frz o u)->H' a=some (.frz o u)
theorem Kp.refl {K:PySem.W.Frag} (H:Hp):Kp K H H:=⟨fun _ _ h=>h,fun _ _ h=>h,fun _ _ _ h=>h⟩
theorem Kp.trans {K:PySem.W.Frag} {H H1 H2:Hp} (h:Kp K H H1) (k:Kp K H1 H2):Kp K H H2:=⟨h.t.trans k.t,fun a xs q=>k.r a xs (h.r a xs q),fun a o u q=>k.f a o u (h.f a o u q)⟩
theorem Same.kp {K:PySem.W.Frag} {H H':Hp} (e:Same H H'):Kp K H H':=⟨e.tups,fun a xs q=>by
  rcases q with ⟨o,q⟩ | q
  . exact .inl ⟨o,e _ _ q⟩
  . exact .inr q,fun a o u q=>e _ _ q⟩
theorem Kp.lst {K:PySem.W.Frag} {H:Hp} {l:Addr} {ys zs:List V} (h:H l=some (.lst ys)):Kp K H (upd H l (.lst zs)):=⟨SameT.lst h,fun a xs q=>by
  rcases q with ⟨o,q⟩ | q
  . exact .inl ⟨o,by rw [upd_ne (ne_of q h (by intro z;cases z))];exact q⟩
  . exact .inr q,fun a o u q=>by rw [upd_ne (ne_of q h (by intro z;cases z))];exact q⟩
mutual
inductive RU (K:PySem.W.Frag) (H:Hp):U->V->Prop
  | non:RU K H .non .non
  | bl (b:Bool):RU K H (.bl b) (.bl b)
  | int (i:Int):RU K H (.int i) (.int i)
  | str (x:Str):RU K H (.str x) (.str x)
  | ty (n:String):RU K H (.ty n) (.ty n)
  | ref (a:Addr):RU K H (.ref a) (.ref a)
  | tup {a:Addr} {vs:List V} {us:List U}:SqT K H a vs->RUs K H us vs->RU K H (.tup us) (.ref a)
  | rol {a:Addr} {vs:List V} {us:List U}:SqR K H a vs->RUs K H us vs->RU K H (.rol us) (.ref a)
inductive RUs (K:PySem.W.Frag) (H:Hp):List U->List V->Prop
  | nil:RUs K H [] []
  | cons {u:U} {v:V} {us:List U} {vs:List V}:RU K H u v->RUs K H us vs->RUs K H (u::us) (v::vs)
end
section
variable {K:PySem.W.Frag} {H H':Hp}
mutual
theorem RU.same (e:Kp K H H'):∀ {u:U} {v:V},RU K H u v->RU K H' u v
  | _,_,.non=>.non
  | _,_,.bl b=>.bl b
  | _,_,.int i=>.int i
  | _,_,.str x=>.str x
  | _,_,.ty n=>.ty n
  | _,_,.ref a=>.ref a
  | _,_,.tup h r=>.tup (e.t _ _ h) (RUs.same e r)
  | _,_,.rol h r=>.rol (e.r _ _ h) (RUs.same e r)
theorem RUs.same (e:Kp K H H'):∀ {us:List U} {vs:List V},RUs K H us vs->RUs K H' us vs
  | _,_,.nil=>.nil
  | _,_,.cons h r=>.cons (RU.same e h) (RUs.same e r)
end
theorem RUs.length:∀ {us:List U} {vs:List V},RUs K H us vs->us.length=vs.length
  | _,_,.nil=>rfl
  | _,_,.cons _ r=>by rw [List.length_cons,List.length_cons,r.length]
theorem RUs.app:∀ {us ws:List U} {vs xs:List V},RUs K H us vs->RUs K H ws xs->RUs K H (us++ws) (vs++xs)
  | _,_,_,_,.nil,s=>s
  | _,_,_,_,.cons h r,s=>.cons h (RUs.app r s)
theorem RUs.one {u:U} {v:V} (h:RU K H u v):RUs K H [u] [v]:=.cons h .nil
theorem RUs.get:∀ {us:List U} {vs:List V} {i:Nat} {v:V},RUs K H us vs->vs[i]? = some v->∃ u,us[i]? = some u/\RU K H u v
  | _,_,_,_,.nil,e=>by simp at e
  | _,_,0,_,.cons h _,e=>by simp at e;subst e;exact ⟨_,rfl,h⟩
  | _,_,i + 1,_,.cons _ r,e=>by simp at e;simpa using RUs.get r e
theorem RUs.get':∀ {us:List U} {vs:List V} {i:Nat} {u:U},RUs K H us vs->us[i]? = some u->∃ v,vs[i]? = some v/\RU K H u v
  | _,_,_,_,.nil,e=>by simp at e
  | _,_,0,_,.cons h _,e=>by simp at e;subst e;exact ⟨_,rfl,h⟩
  | _,_,i + 1,_,.cons _ r,e=>by simp at e;simpa using RUs.get' r e
theorem RUs.take:∀ {us:List U} {vs:List V} (n:Nat),RUs K H us vs->RUs K H (us.take n) (vs.take n)
  | _,_,0,_=>.nil
  | _,_,_ + 1,.nil=>.nil
  | _,_,n + 1,.cons r t=>.cons r (RUs.take n t)
theorem RUs.drop:∀ {us:List U} {vs:List V} (n:Nat),RUs K H us vs->RUs K H (us.drop n) (vs.drop n)
  | _,_,0,r=>r
  | _,_,_ + 1,.nil=>.nil
  | _,_,n + 1,.cons _ t=>RUs.drop n t
theorem RUs.rev {us:List U} {vs:List V} (h:RUs K H us vs):RUs K H us.reverse vs.reverse:=by
  induction us generalizing vs with
  | nil=>cases h;exact .nil
  | cons w ws ih =>
    cases h with
    | cons h r=>rw [List.reverse_cons,List.reverse_cons];exact (ih r).app (.one h)
theorem RUs.dropLast {us:List U} {vs:List V} (h:RUs K H us vs):RUs K H us.dropLast vs.dropLast:=by
  rw [List.dropLast_eq_take,List.dropLast_eq_take,h.length];exact h.take _
theorem RUs.ints:∀ {ns:List Int} {vs:List V},RUs K H (ns.map U.int) vs->vs=ns.map V.int
  | [],_,.nil=>rfl
  | n::ns,_,.cons h r=>by cases h;rw [List.map_cons,RUs.ints r]
theorem RUs.of_strs:∀ {ns:List Str},RUs K H (ns.map U.str) (ns.map V.str)
  | []=>.nil
  | n::ns=>.cons (.str n) RUs.of_strs
theorem RUs.of_ints:∀ {ns:List Int},RUs K H (ns.map U.int) (ns.map V.int)
  | []=>.nil
  | n::ns=>.cons (.int n) RUs.of_ints
end
inductive AO where
  | lst (us:List U) | ins (C dx:Addr) (fs:List (Str × U)) | oth (φ:PySem.W.Frag->Hp->Addr->Prop)
noncomputable abbrev AHp:=Addr->Option AO
noncomputable def updA (A:AHp) (a:Addr) (o:AO):AHp:=fun b=>if b=a then some o else A b
theorem updA_same {A:AHp} {a:Addr} {o:AO}:updA A a o a=some o:=by unfold updA;rw [if_pos rfl]
theorem updA_ne {A:AHp} {a b:Addr} {o:AO} (h:b≠a):updA A a o b=A b:=by unfold updA;rw [if_neg h]
theorem updA_updA {A:AHp} {a:Addr} {o u:AO}:updA (updA A a o) a u=updA A a u:=by funext b;unfold updA;split <;> rfl
noncomputable def RFs (K:PySem.W.Frag) (H:Hp) (fs:List (Str × U)) (gs:List (Str × V)):Prop:=fs.map (·.1)=gs.map (·.1)/\RUs K H (fs.map (·.2)) (gs.map (·.2))
noncomputable def RO (K:PySem.W.Frag) (H:Hp) (a:Addr):AO->Prop
  | .lst us=>∃ vs,H a=some (.lst vs)/\RUs K H us vs
  | .ins C dx fs=>∃ gs,H a=some (.ins C dx gs)/\RFs K H fs gs
  | .oth φ=>(∃ o,H a=some o)/\φ K H a/\∀ H1 H2,φ K H1 a->Kp K H1 H2->H2 a=H1 a->φ K H2 a
noncomputable def HR (K:PySem.W.Frag) (H:Hp) (A:AHp):Prop:=∀ a o,A a=some o->RO K H a o
section
variable {K:PySem.W.Frag} {H H':Hp} {A:AHp} {a:Addr}
theorem RO.keep {b:Addr} {o:AO} (t:Kp K H H') (e:H' b=H b) (h:RO K H b o):RO K H' b o:=by
  cases o with
  | lst us=>obtain ⟨vs,h1,h2⟩:=h;exact ⟨vs,by rw [e];exact h1,h2.same t⟩
  | ins C dx fs=>obtain ⟨gs,h1,h2,h3⟩:=h;exact ⟨gs,by rw [e];exact h1,h2,h3.same t⟩
  | oth φ=>obtain ⟨h0,h1,h2⟩:=h;exact ⟨by rw [e];exact h0,h2 _ _ h1 t e,h2⟩
theorem HR.grow (t:Same H H') (h:HR K H A):HR K H' A:=fun a o e=>by
  have q:=h a o e
  cases o with
  | lst us=>obtain ⟨vs,h1,h2⟩:=q;exact ⟨vs,t _ _ h1,h2.same t.kp⟩
  | ins C dx fs=>obtain ⟨gs,h1,h2,h3⟩:=q;exact ⟨gs,t _ _ h1,h2,h3.same t.kp⟩
  | oth φ=>obtain ⟨⟨o,h0⟩,h1,h2⟩:=q;exact ⟨⟨o,t _ _ h0⟩,h2 _ _ h1 t.kp (by rw [h0];exact t _ _ h0),h2⟩
theorem HR.none (h:HR K H A) (e:H a=none):A a=none:=by
  cases q:A a with
  | none=>rfl
  | some o =>
    have:=h a o q
    cases o with
    | lst us=>obtain ⟨vs,h1,_⟩:=this;rw [e] at h1;cases h1
    | ins C dx fs=>obtain ⟨vs,h1,_⟩:=this;rw [e] at h1;cases h1
    | oth φ=>obtain ⟨⟨_,h1⟩,_⟩:=this;rw [e] at h1;cases h1
theorem HR.newL {us:List U} {vs:List V} (h:HR K H A) (e:H a=Option.none) (r:RUs K H us vs):HR K (upd H a (.lst vs)) (updA A a (.lst us)):=fun b o q=>by
  have s:=Same.upd_new (o:=.lst vs) e
  by_cases hb:b=a
  . subst hb
    rw [updA_same] at q
    cases q
    exact ⟨vs,upd_same,r.same s.kp⟩
  . rw [updA_ne hb] at q
    exact (h b o q).keep s.kp (upd_ne hb)
theorem HR.setL {us:List U} {vs xs:List V} (h:HR K H A) (e:H a=some (.lst xs)) (r:RUs K H us vs):HR K (upd H a (.lst vs)) (updA A a (.lst us)):=fun b o q=>by
  have s:Kp K H (upd H a (.lst vs)):=Kp.lst e
  by_cases hb:b=a
  . subst hb
    rw [updA_same] at q
    cases q
    exact ⟨vs,upd_same,r.same s⟩
  . rw [updA_ne hb] at q
    exact (h b o q).keep s (upd_ne hb)
theorem HR.list {us:List U} (h:HR K H A) (e:A a=some (.lst us)):∃ vs,H a=some (.lst vs)/\RUs K H us vs:=h a _ e
end
noncomputable abbrev ASt:=List (Option U)
inductive RSt (K:PySem.W.Frag) (H:Hp):ASt->St->Prop
  | nil:RSt K H [] []
  | skip {x:Option V} {ρ:ASt} {σ:St}:RSt K H ρ σ->RSt K H (none::ρ) (x::σ)
  | cons {u:U} {v:V} {ρ:ASt} {σ:St}:RU K H u v->RSt K H ρ σ->RSt K H (some u::ρ) (some v::σ)
section
variable {K:PySem.W.Frag} {H H':Hp}
theorem RSt.same (e:Kp K H H'):∀ {ρ:ASt} {σ:St},RSt K H ρ σ->RSt K H' ρ σ
  | _,_,.nil=>.nil
  | _,_,.skip r=>.skip (RSt.same e r)
  | _,_,.cons h r=>.cons (h.same e) (RSt.same e r)
noncomputable def aGetN:Nat->ASt->(U->Prop)->Prop
  | 0, ρ,k=>match ρ with
    | some u::_=>k u
    | _=>False
  | i + 1,ρ,k=>match ρ with
    | _::ρ=>aGetN i ρ k
    | []=>False
noncomputable def aGet (ρ:ASt) (i:Nat) (k:U->Prop):Prop:=aGetN i ρ k
theorem RSt.get:∀ {ρ:ASt} {σ:St} {i:Nat} {k:U->Prop},RSt K H ρ σ->aGet ρ i k->∃ u v,σ[i]? = some (some v)/\RU K H u v/\k u
  | _,_,0,_,.nil,h=>h.elim
  | _,_,_ + 1,_,.nil,h=>h.elim
  | _,_,0,_,.skip _,h=>h.elim
  | _,_,i + 1,_,.skip r,h=>by simpa using RSt.get r h
  | _,_,0,_,.cons q _,h=>⟨_,_,rfl,q,h⟩
  | _,_,i + 1,_,.cons _ r,h=>by simpa using RSt.get r h
theorem RSt.set {u:U} {v:V} (q:RU K H u v):∀ {ρ:ASt} {σ:St} (i:Nat),RSt K H ρ σ->RSt K H (ρ.set i (some u)) (σ.set i (some v))
  | _,_,_,.nil=>.nil
  | _,_,0,.skip r=>.cons q r
  | _,_,i + 1,.skip r=>.skip (RSt.set q i r)
  | _,_,0,.cons _ r=>.cons q r
  | _,_,i + 1,.cons h r=>.cons h (RSt.set q i r)
end
noncomputable abbrev AVK:=U->AHp->Prop
noncomputable abbrev AE:=ASt->AHp->AVK->Prop
noncomputable abbrev AT:=ASt->AHp->(Bool->AHp->Prop)->Prop
noncomputable abbrev AA:=ASt->AHp->(List U->AHp->Prop)->Prop
noncomputable abbrev AP1:=ASt->AHp->(Option Int->AHp->Prop)->Prop
structure AEnds where
  nx:ASt->AHp->Prop
  rt:AVK
  bk:ASt->AHp->Prop:=fun _ _=>False
  ct:ASt->AHp->Prop:=fun _ _=>False
noncomputable abbrev AS:=AEnds->ASt->AHp->Prop
noncomputable abbrev Aft (K:PySem.W.Frag) (H:Hp) (Q':AVK) (Q:VK):Prop:=∀ u A' v H',Kp K H H'->HR K H' A'->RU K H' u v->Q' u A'->Q v H'
noncomputable def AbE (K:PySem.W.Frag) (te:TE) (ae:AE):Prop:=∀ ρ A σ H Q' Q,RSt K H ρ σ->HR K H A->ae ρ A Q'->Aft K H Q' Q->te σ H Q
noncomputable def AbT (K:PySem.W.Frag) (te:TT) (ae:AT):Prop:=∀ ρ A σ H (Q':Bool->AHp->Prop) (Q:Bool->Hp->Prop),RSt K H ρ σ->HR K H A->ae ρ A Q'->(∀ b A' H',Kp K H H'->HR K H' A'->Q' b A'->Q b H')->te σ H Q
noncomputable def AbA (K:PySem.W.Frag) (te:TA) (ae:AA):Prop:=∀ ρ A σ H (Q':List U->AHp->Prop) (Q:List V->Hp->Prop),RSt K H ρ σ->HR K H A->ae ρ A Q'->(∀ us A' vs H',Kp K H H'->HR K H' A'->RUs K H' us vs->Q' us A'->Q vs H')->te σ H Q
noncomputable def AbP (K:PySem.W.Frag) (te:TO) (ae:AP1):Prop:=∀ ρ A σ H (Q':Option Int->AHp->Prop) (Q:Option Int->Hp->Prop),RSt K H ρ σ->HR K H A->ae ρ A Q'->(∀ b A' H',Kp K H H'->HR K H' A'->Q' b A'->Q b H')->te σ H Q
structure AftS (K:PySem.W.Frag) (H:Hp) (D':AEnds) (D:Ends):Prop where
  nx:∀ ρ A σ H',Kp K H H'->HR K H' A->RSt K H' ρ σ->D'.nx ρ A->D.nx σ H'
  rt:Aft K H D'.rt D.rt
  bk:∀ ρ A σ H',Kp K H H'->HR K H' A->RSt K H' ρ σ->D'.bk ρ A->D.bk σ H'
  ct:∀ ρ A σ H',Kp K H H'->HR K H' A->RSt K H' ρ σ->D'.ct ρ A->D.ct σ H'
theorem AftS.same {K:PySem.W.Frag} {H H1:Hp} {D':AEnds} {D:Ends} (h:AftS K H D' D) (k:Kp K H H1):AftS K H1 D' D :=
  ⟨fun ρ A σ H' q=>h.nx ρ A σ H' (k.trans q),fun u A v H' q=>h.rt u A v H' (k.trans q),fun ρ A σ H' q=>h.bk ρ A σ H' (k.trans q),fun ρ A σ H' q=>h.ct ρ A σ H' (k.trans q)⟩
noncomputable def AbS (K:PySem.W.Frag) (ts:TS) (as:AS):Prop:=∀ ρ A σ H D' D,RSt K H ρ σ->HR K H A->as D' ρ A->AftS K H D' D->ts D σ H
end L2
namespace L2
open PySem PySem.Spec PyProof.Rows
section
variable {K:PySem.W.Frag}
noncomputable def aVar (i:Nat):AE:=fun ρ A Q=>aGet ρ i fun u=>Q u A
theorem ab_var {i:Nat}:AbE K (tVar i) (aVar i):=fun ρ A σ H Q' Q hr hh h k=>by
  obtain ⟨u,v,e,r,q⟩:=hr.get h
  exact ⟨v,e,k u A v H (.refl H) hh r q⟩
noncomputable def aC (u:U):AE:=fun _ A Q=>Q u A
theorem ab_c {u:U} {v:V} (h:∀ H,RU K H u v):AbE K (tC v) (aC u):=fun ρ A σ H Q' Q hr hh q k=>k u A v H (.refl H) hh (h H) q
theorem ab_int {i:Int}:AbE K (tC (.int i)) (aC (.int i)):=ab_c fun _=>.int i
theorem ab_str {i:Str}:AbE K (tC (.str i)) (aC (.str i)):=ab_c fun _=>.str i
theorem ab_bl {i:Bool}:AbE K (tC (.bl i)) (aC (.bl i)):=ab_c fun _=>.bl i
theorem ab_ref {a:Addr}:AbE K (tC (.ref a)) (aC (.ref a)):=ab_c fun _=>.ref a
noncomputable abbrev AR2:=U->U->AHp->AVK->Prop
noncomputable def AbR (K:PySem.W.Frag) (r:R2) (ar:AR2):Prop:=∀ x y u w A H Q' Q,RU K H u x->RU K H w y->HR K H A->ar u w A Q'->Aft K H Q' Q->r x y H Q
noncomputable def aOp (ar:AR2) (a b:AE):AE:=fun ρ A Q=>a ρ A fun x A1=>b ρ A1 fun y A2=>ar x y A2 Q
theorem ab_op {r:R2} {ar:AR2} {ta tb:TE} {aa ab:AE} (hr:AbR K r ar) (ha:AbE K ta aa) (hb:AbE K tb ab):AbE K (tOp r ta tb) (aOp ar aa ab):=fun ρ A σ H Q' Q hs hh h k =>
  ha ρ A σ H _ _ hs hh h fun x A1 v H1 k1 h1 r1 q1=>hb ρ A1 σ H1 _ _ (hs.same k1) h1 q1 fun y A2 v2 H2 k2 h2 r2 q2=>hr _ _ _ _ _ _ _ _ (r1.same k2) r2 h2 q2 fun z A3 v3 H3 k3 h3 r3 q3=>k _ _ _ _ (k1.trans (k2.trans k3)) h3 r3 q3
noncomputable def aUn (ar:U->AHp->AVK->Prop) (a:AE):AE:=fun ρ A Q=>a ρ A fun x A1=>ar x A1 Q
noncomputable def aB (a:AE):AT:=fun ρ A Q=>a ρ A fun x A1=>∃ c,x=.bl c/\Q c A1
theorem ab_tb {ta:TE} {aa:AE} (ha:AbE K ta aa):AbT K (tB ta) (aB aa):=fun ρ A σ H Q' Q hs hh h k =>
  ha ρ A σ H _ _ hs hh h fun x A1 v H1 k1 h1 r1 hq0=>by obtain ⟨c,e,q1⟩:=hq0;subst e;cases r1;exact ⟨c,rfl,k c A1 H1 k1 h1 q1⟩
theorem ab_test {ta:TE} {aa:AE} (ha:AbE K ta aa):AbT K (tTest ta) (aB aa):=ab_tb ha
noncomputable def aAnd (t u:AT):AT:=fun ρ A Q=>t ρ A fun c A1=>if c=true then u ρ A1 Q else Q false A1
noncomputable def aOr (t u:AT):AT:=fun ρ A Q=>t ρ A fun c A1=>if c=true then Q true A1 else u ρ A1 Q
noncomputable def aNot (t:AT):AT:=fun ρ A Q=>t ρ A fun c A1=>Q (!c) A1
theorem ab_and {t u:TT} {a b:AT} (ha:AbT K t a) (hb:AbT K u b):AbT K (tAnd t u) (aAnd a b):=fun ρ A σ H Q' Q hs hh h k =>
  ha ρ A σ H _ _ hs hh h fun c A1 H1 k1 h1 q1=>by
    cases c
    . exact iteN (by decide) (k _ _ _ k1 h1 (by simpa using q1))
    . exact iteP rfl (hb ρ A1 σ H1 _ _ (hs.same k1) h1 (by simpa using q1) fun c A2 H2 k2 h2 q2=>k _ _ _ (k1.trans k2) h2 q2)
theorem ab_or {t u:TT} {a b:AT} (ha:AbT K t a) (hb:AbT K u b):AbT K (tOr t u) (aOr a b):=fun ρ A σ H Q' Q hs hh h k =>
  ha ρ A σ H _ _ hs hh h fun c A1 H1 k1 h1 q1=>by
    cases c
    . exact iteN (by decide) (hb ρ A1 σ H1 _ _ (hs.same k1) h1 (by simpa using q1) fun c A2 H2 k2 h2 q2=>k _ _ _ (k1.trans k2) h2 q2)
    . exact iteP rfl (k _ _ _ k1 h1 (by simpa using q1))
noncomputable def aTrue:AT:=fun _ A Q=>Q true A
theorem ab_true:AbT K tTrue aTrue:=fun ρ A σ H Q' Q hs hh h k=>k _ _ _ (.refl H) hh h
noncomputable def aNil:AA:=fun _ A Q=>Q [] A
theorem ab_nil:AbA K tNil aNil:=fun ρ A σ H Q' Q hs hh h k=>k _ _ _ _ (.refl H) hh .nil h
noncomputable def aCons (a:AE) (l:AA):AA:=fun ρ A Q=>a ρ A fun x A1=>l ρ A1 fun xs A2=>Q (x::xs) A2
theorem ab_cons {ta:TE} {tl:TA} {a:AE} {l:AA} (ha:AbE K ta a) (hl:AbA K tl l):AbA K (tCons ta tl) (aCons a l):=fun ρ A σ H Q' Q hs hh h k =>
  ha ρ A σ H _ _ hs hh h fun x A1 v H1 k1 g1 r1 q1=>hl ρ A1 σ H1 _ _ (hs.same k1) g1 q1 fun xs A2 vs H2 k2 g2 r2 q2=>k _ _ _ _ (k1.trans k2) g2 (.cons (r1.same k2) r2) q2
noncomputable def aConst (us:List U):AA:=fun _ A L=>L us A
theorem ab_strs {xs:List Str}:AbA K (tConst (xs.map V.str)) (aConst (xs.map U.str)):=fun ρ A σ H Q' Q hs hh h k=>k _ _ _ _ (.refl H) hh RUs.of_strs h
noncomputable def aTup (l:AA):AE:=fun ρ A Q=>l ρ A fun xs A1=>xs.length<=sizeLine/\Q (.tup xs) A1
theorem ab_tup {tl:TA} {l:AA} (hl:AbA K tl l):AbE K (tTup tl) (aTup l):=fun ρ A σ H Q' Q hs hh h k =>
  hl ρ A σ H _ _ hs hh h fun xs A1 vs H1 k1 g1 r1 ⟨hz,q1⟩=>⟨by rw [<- r1.length];exact hz,fun p hp=>by
    have s:=Same.upd_new (o:=.tup vs) hp
    exact k _ _ _ _ (k1.trans s.kp) (g1.grow s) (.tup (SqT.of upd_same) (r1.same s.kp)) q1⟩
noncomputable def aLst (l:AA):AE:=fun ρ A Q=>l ρ A fun xs A1=>xs.length<=sizeLine/\∀ p,A1 p=none->Q (.ref p) (updA A1 p (.lst xs))
theorem ab_lst {tl:TA} {l:AA} (hl:AbA K tl l):AbE K (tLst tl) (aLst l):=fun ρ A σ H Q' Q hs hh h k =>
  hl ρ A σ H _ _ hs hh h fun xs A1 vs H1 k1 g1 r1 ⟨hz,q1⟩=>⟨by rw [<- r1.length];exact hz,fun p hp=>k _ _ _ _ (k1.trans (Same.upd_new hp).kp) (g1.newL hp r1) (.ref p) (q1 p (g1.none hp))⟩
noncomputable def AbL (K:PySem.W.Frag) (r:List V->Hp->VK->Prop) (ar:List U->AHp->AVK->Prop):Prop:=∀ xs us A H Q' Q,RUs K H us xs->HR K H A->ar us A Q'->Aft K H Q' Q->r xs H Q
noncomputable def aCB (ar:List U->AHp->AVK->Prop) (l:AA):AE:=fun ρ A Q=>l ρ A fun us A1=>ar us A1 Q
theorem ab_cb {r:List V->Hp->VK->Prop} {ar:List U->AHp->AVK->Prop} {tl:TA} {l:AA} (hr:AbL K r ar) (hl:AbA K tl l):AbE K (tCB r tl) (aCB ar l):=fun ρ A σ H Q' Q hs hh h k =>
  hl ρ A σ H _ _ hs hh h fun xs A1 vs H1 k1 g1 r1 q1=>hr _ _ _ _ _ _ r1 g1 q1 fun z A3 v3 H3 k3 h3 r3 q3=>k _ _ _ _ (k1.trans k3) h3 r3 q3
noncomputable abbrev ASp:=List U->AHp->AVK->Prop
noncomputable def spOf (K:PySem.W.Frag) (asp:ASp):Sp:=fun vs H Q _=>∃ us A Q',RUs K H us vs/\HR K H A/\asp us A Q'/\Aft K H Q' Q
noncomputable def aCall (asp:ASp) (l:AA):AE:=fun ρ A Q=>l ρ A fun us A1=>asp us A1 Q
theorem ab_call {asp:ASp} {E:XK} {tl:TA} {l:AA} (hl:AbA K tl l):AbE K (tCall (spOf K asp) [] E tl) (aCall asp l):=fun ρ A σ H Q' Q hs hh h k =>
  hl ρ A σ H _ _ hs hh h fun us A1 vs H1 k1 g1 r1 q1=>⟨us,A1,Q',by rw [List.append_nil];exact r1,g1,q1,fun z A3 v3 H3 k3 h3 r3 q3=>k _ _ _ _ (k1.trans k3) h3 r3 q3⟩
noncomputable def aCallV (f:Addr) (asp:ASp) (a:AE) (l:AA):AE:=fun ρ A Q=>a ρ A fun y A0=>y=.ref f/\l ρ A0 fun us A1=>asp us A1 Q
theorem ab_callV {asp:ASp} {E:XK} {f:Addr} {tf:TE} {af:AE} {tl:TA} {l:AA} (hf:AbE K tf af) (hl:AbA K tl l):AbE K (tCallV f (spOf K asp) [] E tf tl) (aCallV f asp af l):=fun ρ A σ H Q' Q hs hh h k =>
  hf ρ A σ H _ _ hs hh h fun x A0 v H0 k0 g0 r0 hq0=>by
    obtain ⟨e,q0⟩:=hq0
    subst e;cases r0
    exact ⟨rfl,hl ρ A0 σ H0 _ _ (hs.same k0) g0 q0 fun us A1 vs H1 k1 g1 r1 q1=>⟨us,A1,Q',by rw [List.append_nil];exact r1,g1,q1,fun z A3 v3 H3 k3 h3 r3 q3=>k _ _ _ _ (k0.trans (k1.trans k3)) h3 r3 q3⟩⟩
noncomputable def aNoPart:AP1:=fun _ A Q=>Q none A
theorem ab_nopart:AbP K tNoPart aNoPart:=fun ρ A σ H Q' Q hs hh h k=>k _ _ _ (.refl H) hh h
noncomputable def aPart (a:AE):AP1:=fun ρ A Q=>a ρ A fun x A1=>∃ i,x=.int i/\Q (some i) A1
theorem ab_part {t:TE} {a:AE} (ha:AbE K t a):AbP K (tPart t) (aPart a):=fun ρ A σ H Q' Q hs hh h k =>
  ha ρ A σ H _ _ hs hh h fun x A1 v H1 k1 h1 r1 hq0=>by obtain ⟨i,e,q1⟩:=hq0;subst e;cases r1;exact ⟨i,rfl,k _ _ _ k1 h1 q1⟩
noncomputable def AbSl (K:PySem.W.Frag) (r:V->Option Int->Option Int->Hp->VK->Prop) (ar:U->Option Int->Option Int->AHp->AVK->Prop):Prop:=∀ x u lo hi A H Q' Q,RU K H u x->HR K H A->ar u lo hi A Q'->Aft K H Q' Q->r x lo hi H Q
noncomputable def aSl (ar:U->Option Int->Option Int->AHp->AVK->Prop) (a:AE) (l h:AP1):AE:=fun ρ A Q=>a ρ A fun x A1=>l ρ A1 fun i A2=>h ρ A2 fun j A3=>ar x i j A3 Q
theorem ab_sl {r:V->Option Int->Option Int->Hp->VK->Prop} {ar:U->Option Int->Option Int->AHp->AVK->Prop} {t:TE} {tl th:TO} {a:AE} {l h:AP1} (hr:AbSl K r ar) (ha:AbE K t a) (hl:AbP K tl l) (hh:AbP K th h):AbE K (tSl r t tl th) (aSl ar a l h):=fun ρ A σ H Q' Q hs g w k =>
  ha ρ A σ H _ _ hs g w fun x A1 v H1 k1 g1 r1 q1=>hl ρ A1 σ H1 _ _ (hs.same k1) g1 q1 fun i A2 H2 k2 g2 q2=>hh ρ A2 σ H2 _ _ (hs.same (k1.trans k2)) g2 q2 fun j A3 H3 k3 g3 q3 =>
    hr _ _ _ _ _ _ _ _ (r1.same (k2.trans k3)) g3 q3 fun z A4 v4 H4 k4 g4 r4 q4=>k _ _ _ _ (k1.trans (k2.trans (k3.trans k4))) g4 r4 q4
noncomputable def AbY (K:PySem.W.Frag) (T:String) (y:U->AHp->Prop):Prop:=∀ x u A H,RU K H u x->HR K H A->y u A->tyV K T x H
noncomputable def aBM0 (y:U->AHp->Prop) (ar:U->List U->AHp->AVK->Prop) (a:AE):AE:=fun ρ A Q=>a ρ A fun x A1=>y x A1/\ar x [] A1 Q
noncomputable def aBM (y:U->AHp->Prop) (ar:U->List U->AHp->AVK->Prop) (a:AE) (l:AA):AE:=fun ρ A Q=>a ρ A fun x A1=>y x A1/\l ρ A1 fun us A2=>ar x us A2 Q
noncomputable def AbMt (K:PySem.W.Frag) (r:V->List V->Hp->VK->Prop) (ar:U->List U->AHp->AVK->Prop):Prop:=∀ x u xs us A H Q' Q,RU K H u x->RUs K H us xs->HR K H A->ar u us A Q'->Aft K H Q' Q->r x xs H Q
theorem ab_bm0 {T:String} {r:V->List V->Hp->VK->Prop} {y:U->AHp->Prop} {ar:U->List U->AHp->AVK->Prop} {t:TE} {a:AE} (hy:AbY K T y) (hr:AbMt K r ar) (ha:AbE K t a):AbE K (tBM0 K T r t) (aBM0 y ar a):=fun ρ A σ H Q' Q hs g w k =>
  ha ρ A σ H _ _ hs g w fun x A1 v H1 k1 g1 r1 ⟨q0,q1⟩=>⟨hy _ _ _ _ r1 g1 q0,hr _ _ _ _ _ _ _ _ r1 .nil g1 q1 fun z A4 v4 H4 k4 g4 r4 q4=>k _ _ _ _ (k1.trans k4) g4 r4 q4⟩
theorem ab_bm {T:String} {r:V->List V->Hp->VK->Prop} {y:U->AHp->Prop} {ar:U->List U->AHp->AVK->Prop} {t:TE} {a:AE} {tl:TA} {l:AA} (hy:AbY K T y) (hr:AbMt K r ar) (ha:AbE K t a) (hl:AbA K tl l):AbE K (tBM K T r t tl) (aBM y ar a l):=fun ρ A σ H Q' Q hs g w k =>
  ha ρ A σ H _ _ hs g w fun x A1 v H1 k1 g1 r1 ⟨q0,q1⟩=>⟨hy _ _ _ _ r1 g1 q0,hl ρ A1 σ H1 _ _ (hs.same k1) g1 q1 fun us A2 vs H2 k2 g2 r2 q2=>hr _ _ _ _ _ _ _ _ (r1.same k2) r2 g2 q2 fun z A4 v4 H4 k4 g4 r4 q4=>k _ _ _ _ (k1.trans (k2.trans k4)) g4 r4 q4⟩
noncomputable def aNext:AS:=fun D ρ A=>D.nx ρ A
theorem ab_next:AbS K tNext aNext:=fun ρ A σ H D' D hs g w k=>k.nx _ _ _ _ (.refl H) g hs w
noncomputable def aSeq (t u:AS):AS:=fun D ρ A=>t { D with nx:=u D } ρ A
theorem ab_seq {t u:TS} {a b:AS} (ha:AbS K t a) (hb:AbS K u b):AbS K (tSeq t u) (aSeq a b):=fun ρ A σ H D' D hs g w k =>
  ha ρ A σ H _ _ hs g w ⟨fun ρ1 A1 σ1 H1 k1 g1 r1 q1=>hb ρ1 A1 σ1 H1 _ _ r1 g1 q1 (k.same k1),k.rt,k.bk,k.ct⟩
noncomputable def aDrop (a:AE):AS:=fun D ρ A=>a ρ A fun _ A1=>D.nx ρ A1
theorem ab_drop {t:TE} {a:AE} (ha:AbE K t a):AbS K (tDrop t) (aDrop a):=fun ρ A σ H D' D hs g w k=>ha ρ A σ H _ _ hs g w fun x A1 v H1 k1 g1 r1 q1=>k.nx _ _ _ _ k1 g1 (hs.same k1) q1
noncomputable def aRet (a:AE):AS:=fun D ρ A=>a ρ A D.rt
theorem ab_ret {t:TE} {a:AE} (ha:AbE K t a):AbS K (tRet t) (aRet a):=fun ρ A σ H D' D hs g w k=>ha ρ A σ H _ _ hs g w k.rt
noncomputable def aIfS (c:AT) (t u:AS):AS:=fun D ρ A=>c ρ A fun b A1=>if b=true then t D ρ A1 else u D ρ A1
theorem ab_ifs {c:TT} {t u:TS} {ac:AT} {a b:AS} (hc:AbT K c ac) (ha:AbS K t a) (hb:AbS K u b):AbS K (tIfS c t u) (aIfS ac a b):=fun ρ A σ H D' D hs g w k =>
  hc ρ A σ H _ _ hs g w fun c A1 H1 k1 g1 q1=>by
    cases c
    . exact iteN (by decide) (hb ρ A1 σ H1 _ _ (hs.same k1) g1 (by simpa using q1) (k.same k1))
    . exact iteP rfl (ha ρ A1 σ H1 _ _ (hs.same k1) g1 (by simpa using q1) (k.same k1))
noncomputable abbrev AG:=U->ASt->AHp->(ASt->AHp->Prop)->Prop
noncomputable abbrev AGs:=List U->ASt->AHp->(ASt->AHp->Prop)->Prop
noncomputable abbrev AftG (K:PySem.W.Frag) (H:Hp) (Q':ASt->AHp->Prop) (Q:St->Hp->Prop):Prop:=∀ ρ A σ H',Kp K H H'->HR K H' A->RSt K H' ρ σ->Q' ρ A->Q σ H'
noncomputable def AbG (K:PySem.W.Frag) (t:TG) (a:AG):Prop:=∀ u v ρ A σ H Q' Q,RU K H u v->RSt K H ρ σ->HR K H A->a u ρ A Q'->AftG K H Q' Q->t v σ H Q
noncomputable def AbGs (K:PySem.W.Frag) (t:TGs) (a:AGs):Prop:=∀ u v ρ A σ H Q' Q,RUs K H u v->RSt K H ρ σ->HR K H A->a u ρ A Q'->AftG K H Q' Q->t v σ H Q
noncomputable def bName (i:Nat):AG:=fun u ρ A Q=>Q (ρ.set i (some u)) A
theorem ab_name {i:Nat}:AbG K (gName i) (bName i):=fun u v ρ A σ H Q' Q r hs g w k=>k _ _ _ _ (.refl H) g (hs.set r i) w
noncomputable def bNil:AGs:=fun us ρ A Q=>us=[]/\Q ρ A
theorem ab_gnil:AbGs K gNil bNil:=fun u v ρ A σ H Q' Q r hs g hq0 k=>by obtain ⟨e,w⟩:=hq0;subst e;cases r;exact ⟨rfl,k _ _ _ _ (.refl H) g hs w⟩
noncomputable def bCons (t:AG) (u:AGs):AGs:=fun us ρ A Q=>∃ v r,us=v::r/\t v ρ A fun ρ' A'=>u r ρ' A' Q
theorem ab_gcons {t:TG} {u:TGs} {a:AG} {b:AGs} (ha:AbG K t a) (hb:AbGs K u b):AbGs K (gCons t u) (bCons a b):=fun us vs ρ A σ H Q' Q r hs g hq0 k=>by
  obtain ⟨x,xs,e,w⟩:=hq0
  subst e
  cases r with
  | cons r rr=>exact ⟨_,_,rfl,ha _ _ _ _ _ _ _ _ r hs g w fun ρ1 A1 σ1 H1 k1 g1 s1 q1=>hb _ _ _ _ _ _ _ _ (rr.same k1) s1 g1 q1 fun ρ2 A2 σ2 H2 k2 g2 s2 q2=>k _ _ _ _ (k1.trans k2) g2 s2 q2⟩
noncomputable def bTup (n:Nat) (t:AGs):AG:=fun u ρ A Q=>∃ us,u=.tup us/\us.length=n/\t us ρ A Q
theorem ab_gtup {n:Nat} {t:TGs} {a:AGs} (ha:AbGs K t a):AbG K (gTup K n t) (bTup n a):=fun u v ρ A σ H Q' Q r hs g hq0 k=>by
  obtain ⟨us,e,hn,w⟩:=hq0
  subst e
  cases r with
  | tup h rr=>exact ⟨_,_,rfl,h,by rw [<- rr.length];exact hn,ha _ _ _ _ _ _ _ _ rr hs g w k⟩
noncomputable def aAsg (a:AE) (b:AG):AS:=fun D ρ A=>a ρ A fun x A1=>b x ρ A1 D.nx
theorem ab_asg {t:TE} {a:AE} {tg:TG} {b:AG} (ha:AbE K t a) (hb:AbG K tg b):AbS K (tAsg t tg) (aAsg a b):=fun ρ A σ H D' D hs g w k =>
  ha ρ A σ H _ _ hs g w fun x A1 v H1 k1 g1 r1 q1=>hb _ _ _ _ _ _ _ _ r1 (hs.same k1) g1 q1 fun ρ2 A2 σ2 H2 k2 g2 s2 q2=>k.nx _ _ _ _ (k1.trans k2) g2 s2 q2
noncomputable def aPar (i j:Nat) (l:AA):AS:=fun D ρ A=>l ρ A fun us A1=>∃ v w,us=[v,w]/\D.nx ((ρ.set i (some v)).set j (some w)) A1
noncomputable def aWhile (c:AT) (b:AS):AS:=fun D ρ A=>∃ W:Nat->ASt->AHp->Prop,(∃ m,W m ρ A)/\∀ m ρ A,W m ρ A ->
  c ρ A fun k A1=>if k=true then ∃ N:ASt->AHp->Prop,(∀ ρ' A',N ρ' A'->∃ m',m' < m/\W m' ρ' A')/\b { D with nx:=N,ct:=N,bk:=D.nx } ρ A1 else D.nx ρ A1
theorem ab_while {c:TT} {t:TS} {ac:AT} {a:AS} (hc:AbT K c ac) (ha:AbS K t a):AbS K (tWhile c t) (aWhile ac a):=fun ρ A σ H D' D hs g hq0 k=>by
  obtain ⟨W,⟨m0,w0⟩,turn⟩:=hq0
  refine ⟨fun m σ1 H1=>∃ ρ1 A1,Kp K H H1/\HR K H1 A1/\RSt K H1 ρ1 σ1/\W m ρ1 A1,⟨m0,ρ,A,.refl H,g,hs,w0⟩,?_⟩
  rintro m σ1 H1 ⟨ρ1,A1,k1,g1,s1,w1⟩
  refine hc ρ1 A1 σ1 H1 _ _ s1 g1 (turn m ρ1 A1 w1) fun b A2 H2 k2 g2 q2=>?_
  cases b
  . exact iteN (by decide) (k.nx _ _ _ _ (k1.trans k2) g2 (s1.same k2) (by simpa using q2))
  . refine iteP rfl ?_
    obtain ⟨N,hN,q2⟩:=(by simpa using q2:∃ N:ASt->AHp->Prop,(∀ ρ' A',N ρ' A'->∃ m',m' < m/\W m' ρ' A')/\a { D' with nx:=N,ct:=N,bk:=D'.nx } ρ1 A2)
    refine ⟨fun σ' H'=>∃ ρ' A',Kp K H H'/\HR K H' A'/\RSt K H' ρ' σ'/\N ρ' A',?_,?_⟩
    . rintro σ' H' ⟨ρ',A',k',g',s',n'⟩
      obtain ⟨m',hm,w'⟩:=hN ρ' A' n'
      exact ⟨m',hm,ρ',A',k',g',s',w'⟩
    . have k12:=k1.trans k2
      exact ha ρ1 A2 σ1 H2 _ _ (s1.same k2) g2 q2 ⟨fun ρ A σ H' k3 g3 s3 n3=>⟨ρ,A,k12.trans k3,g3,s3,n3⟩,(k.same k12).rt,fun ρ A σ H' k3 g3 s3 n3=>k.nx _ _ _ _ (k12.trans k3) g3 s3 n3,fun ρ A σ H' k3 g3 s3 n3=>⟨ρ,A,k12.trans k3,g3,s3,n3⟩⟩
end
end L2
namespace L2
open PySem PySem.Spec PyProof.Rows
noncomputable abbrev AIt:=Nat->AHp->Option U->Prop
noncomputable def AbJ (K:PySem.W.Frag) (H0:Hp) (J:It) (aj:AIt):Prop:=∀ i A H r,Kp K H0 H->HR K H A->aj i A r->match r with
  | none=>J.stop i H
  | some u=>J.go i H/\∀ x H',J.yld i H x H'->Kp K H H'/\HR K H' A/\RU K H' u x
noncomputable abbrev AI:=ASt->AHp->(AIt->AHp->Prop)->Prop
noncomputable def AbI (K:PySem.W.Frag) (wi:TI) (ai:AI):Prop:=∀ ρ A σ H R' R,RSt K H ρ σ->HR K H A->ai ρ A R'->(∀ aj A' J H',Kp K H H'->HR K H' A'->AbJ K H' J aj->R' aj A'->R J H')->wi σ H R
noncomputable def aLoop (J:AIt) (g:AG) (b:AS) (D:AEnds) (ρ:ASt) (A:AHp):Prop:=∃ W:Nat->Nat->ASt->AHp->Prop,(∃ m,W 0 m ρ A)/\∀ i m ρ A,W i m ρ A ->
  (J i A none/\D.nx ρ A)\/∃ u,J i A (some u)/\∃ N:ASt->AHp->Prop,(∀ ρ' A',N ρ' A'->∃ m',m' < m/\W (i + 1) m' ρ' A')/\g u ρ A fun ρ2 A2=>b { D with nx:=N,ct:=N,bk:=D.nx } ρ2 A2
noncomputable def aFor (wi:AI) (g:AG) (b:AS):AS:=fun D ρ A=>wi ρ A fun J A1=>aLoop J g b D ρ A1
section
variable {K:PySem.W.Frag}
theorem ab_for {wi:TI} {g:TG} {t:TS} {ai:AI} {ag:AG} {a:AS} (hi:AbI K wi ai) (hg:AbG K g ag) (ha:AbS K t a):AbS K (tFor wi g t) (aFor ai ag a):=fun ρ A σ H D' D hs g0 w k=>by
  refine hi ρ A σ H _ _ hs g0 w fun aj A1 J H1 k1 g1 hj q=>?_
  obtain ⟨W,⟨m0,w0⟩,turn⟩:=q
  refine ⟨fun i m σ2 H2=>∃ ρ2 A2,Kp K H1 H2/\HR K H2 A2/\RSt K H2 ρ2 σ2/\W i m ρ2 A2,⟨m0,ρ,A1,.refl H1,g1,hs.same k1,w0⟩,?_⟩
  rintro i m σ2 H2 ⟨ρ2,A2,k2,g2,s2,w2⟩
  have k12:=k1.trans k2
  rcases turn i m ρ2 A2 w2 with ⟨hstop,q⟩ | ⟨u,hgo,N,hN,q⟩
  . exact .inl ⟨hj i A2 H2 _ k2 g2 hstop,k.nx _ _ _ _ k12 g2 s2 q⟩
  . obtain ⟨j1,j2⟩:=hj i A2 H2 _ k2 g2 hgo
    refine .inr ⟨j1,fun σ' H'=>∃ ρ' A',Kp K H1 H'/\HR K H' A'/\RSt K H' ρ' σ'/\N ρ' A',?_,fun x H3 hy=>?_⟩
    . rintro σ' H' ⟨ρ',A',k',g',s',n'⟩
      obtain ⟨m',hm,w'⟩:=hN ρ' A' n'
      exact ⟨m',hm,ρ',A',k',g',s',w'⟩
    . obtain ⟨k3,g3,r3⟩:=j2 x H3 hy
      refine hg _ _ _ _ _ _ _ _ r3 (s2.same k3) g3 q fun ρ4 A4 σ4 H4 k4 g4 s4 q4=>?_
      have k24:=k2.trans (k3.trans k4)
      exact ha ρ4 A4 σ4 H4 _ _ s4 g4 q4 ⟨fun ρ5 A5 σ5 H5 k5 g5 s5 n5=>⟨ρ5,A5,k24.trans k5,g5,s5,n5⟩,(k.same (k1.trans k24)).rt,fun ρ5 A5 σ5 H5 k5 g5 s5 n5=>k.nx _ _ _ _ ((k1.trans k24).trans k5) g5 s5 n5,fun ρ5 A5 σ5 H5 k5 g5 s5 n5=>⟨ρ5,A5,k24.trans k5,g5,s5,n5⟩⟩
noncomputable def jFix (us:List U):AIt:=fun i _ r=>r=us[i]?
noncomputable def jLst (a:Addr):AIt:=fun i A r=>∃ us,A a=some (.lst us)/\r=us[i]?
noncomputable def aJof (y:U->AHp->(AIt->AHp->Prop)->Prop) (a:AE):AI:=fun ρ A R=>a ρ A fun x A1=>y x A1 R
noncomputable def AbY1 (K:PySem.W.Frag) (u:V->Hp->(It->Hp->Prop)->Prop) (y:U->AHp->(AIt->AHp->Prop)->Prop):Prop:=∀ x v A H R' R,RU K H x v->HR K H A->y x A R'->(∀ aj A' J H',Kp K H H'->HR K H' A'->AbJ K H' J aj->R' aj A'->R J H')->u v H R
theorem ab_jof {u:V->Hp->(It->Hp->Prop)->Prop} {y:U->AHp->(AIt->AHp->Prop)->Prop} {t:TE} {a:AE} (hy:AbY1 K u y) (ha:AbE K t a):AbI K (jOf u t) (aJof y a):=fun ρ A σ H R' R hs g w k =>
  ha ρ A σ H _ _ hs g w fun x A1 v H1 k1 g1 r1 q1=>hy _ _ _ _ _ _ r1 g1 q1 fun aj A2 J H2 k2 g2 hj q2=>k _ _ _ _ (k1.trans k2) g2 hj q2
theorem itl_fix {H:Hp} {a:Addr} {us:List U} {vs:List V} (h:SqR K H a vs) (r:RUs K H us vs):AbJ K H (Itl K a) (jFix us):=fun i A H1 x k g e=>by
  have e:x=us[i]?:=e
  have h1:=(k.r _ _ h).sq
  have r1:=r.same k
  subst e
  cases hu:us[i]? with
  | none=>exact ⟨vs,h1,by rw [<- r1.length];exact List.getElem?_eq_none_iff.mp hu⟩
  | some u =>
    obtain ⟨v,hv,rv⟩:=r1.get' hu
    refine ⟨⟨vs,v,h1,hv⟩,?_⟩
    rintro x H' ⟨rfl,hx⟩
    have:=hx vs h1
    rw [hv] at this;cases this
    exact ⟨.refl _,g,rv⟩
theorem itl_lst {H:Hp} {a:Addr}:AbJ K H (Itl K a) (jLst a):=fun i A H1 x k g hq0=>by
  obtain ⟨us,hA,e⟩:=hq0
  subst e
  obtain ⟨vs,h1,r1⟩:=g.list hA
  have h1:SqL K H1 a vs:=SqL.of h1
  cases hu:us[i]? with
  | none=>exact ⟨vs,h1,by rw [<- r1.length];exact List.getElem?_eq_none_iff.mp hu⟩
  | some u =>
    obtain ⟨v,hv,rv⟩:=r1.get' hu
    refine ⟨⟨vs,v,h1,hv⟩,?_⟩
    rintro x H' ⟨rfl,hx⟩
    have:=hx vs h1
    rw [hv] at this;cases this
    exact ⟨.refl _,g,rv⟩
theorem itt_fix {H:Hp} {a:Addr} {us:List U} {vs:List V} (h:SqT K H a vs) (r:RUs K H us vs):AbJ K H (Itt K a) (jFix us):=fun i A H1 x k g e=>by
  have e:x=us[i]?:=e
  have h1:=k.t _ _ h
  have r1:=r.same k
  subst e
  cases hu:us[i]? with
  | none=>exact ⟨vs,h1,by rw [<- r1.length];exact List.getElem?_eq_none_iff.mp hu⟩
  | some u =>
    obtain ⟨v,hv,rv⟩:=r1.get' hu
    refine ⟨⟨vs,v,h1,hv⟩,?_⟩
    rintro x H' ⟨rfl,hx⟩
    have:=hx vs h1
    rw [hv] at this;cases this
    exact ⟨.refl _,g,rv⟩
noncomputable def yList:U->AHp->(AIt->AHp->Prop)->Prop:=fun u A R=>match u with
  | .ref a=>(∃ us,A a=some (.lst us))/\R (jLst a) A
  | .rol us=>R (jFix us) A
  | _=>False
theorem ab_ylist:AbY1 K (uList K) yList:=fun x v A H R' R r g w k=>by
  cases r with
  | ref a =>
    obtain ⟨⟨us,hA⟩,w⟩:=w
    obtain ⟨vs,h1,r1⟩:=g.list hA
    exact ⟨⟨vs,SqL.of h1⟩,k _ _ _ _ (.refl H) g itl_lst w⟩
  | rol h1 r1=>exact ⟨⟨_,h1.sq⟩,k _ _ _ _ (.refl H) g (itl_fix h1 r1) w⟩
  | _=>exact w.elim
noncomputable def yTup:U->AHp->(AIt->AHp->Prop)->Prop:=fun u A R=>match u with
  | .tup us=>R (jFix us) A
  | _=>False
theorem ab_ytup:AbY1 K (uTupI K) yTup:=fun x v A H R' R r g w k=>by
  cases r with
  | tup h1 r1=>exact ⟨⟨_,h1⟩,k _ _ _ _ (.refl H) g (itt_fix h1 r1) w⟩
  | _=>exact w.elim
noncomputable def rngU (lo:Int) (n:Nat):List U:=(List.range n).map fun (i:Nat)=>.int (lo + (i:Int))
theorem rngU_get (lo:Int) (n i:Nat):(rngU lo n)[i]? = if i < n then some (.int (lo + (i:Int))) else none:=by
  unfold rngU
  rw [List.getElem?_map]
  by_cases h:i < n
  . rw [if_pos h,List.getElem?_range h];rfl
  . rw [if_neg h,List.getElem?_eq_none (by rw [List.length_range];lia)];rfl
theorem rngU_len (lo:Int) (n:Nat):(rngU lo n).length=n:=by simp [rngU]
theorem itr_fix {H:Hp} {lo:Int} {n:Nat}:AbJ K H (Itr lo n) (jFix (rngU lo n)):=fun i A H1 x k g e=>by
  have e:x=(rngU lo n)[i]?:=e
  rw [rngU_get] at e
  subst e
  by_cases h:i < n
  . rw [if_pos h]
    refine ⟨h,?_⟩
    rintro x H' ⟨rfl,rfl⟩
    exact ⟨.refl _,g,.int _⟩
  . rw [if_neg h]
    exact Nat.le_of_not_lt h
noncomputable def yRng1:List U->AHp->(AIt->AHp->Prop)->Prop:=fun us A R=>match us with
  | [.int j]=>-(2 ^ 62)<=j/\j < 2 ^ 62/\R (jFix (rngU 0 j.toNat)) A
  | _=>False
noncomputable def yRng2:List U->AHp->(AIt->AHp->Prop)->Prop:=fun us A R=>match us with
  | [.int i,.int j]=>(-(2 ^ 62)<=i/\i < 2 ^ 62/\-(2 ^ 62)<=j/\j < 2 ^ 62)/\R (jFix (rngU i (j - i).toNat)) A
  | _=>False
noncomputable def AbYs (K:PySem.W.Frag) (u:List V->Hp->(It->Hp->Prop)->Prop) (y:List U->AHp->(AIt->AHp->Prop)->Prop):Prop:=∀ x v A H R' R,RUs K H x v->HR K H A->y x A R'->(∀ aj A' J H',Kp K H H'->HR K H' A'->AbJ K H' J aj->R' aj A'->R J H')->u v H R
noncomputable def aJargs (y:List U->AHp->(AIt->AHp->Prop)->Prop) (l:AA):AI:=fun ρ A R=>l ρ A fun us A1=>y us A1 R
theorem ab_jargs {u:List V->Hp->(It->Hp->Prop)->Prop} {y:List U->AHp->(AIt->AHp->Prop)->Prop} {t:TA} {l:AA} (hy:AbYs K u y) (hl:AbA K t l):AbI K (jArgs u t) (aJargs y l):=fun ρ A σ H R' R hs g w k =>
  hl ρ A σ H _ _ hs g w fun x A1 v H1 k1 g1 r1 q1=>hy _ _ _ _ _ _ r1 g1 q1 fun aj A2 J H2 k2 g2 hj q2=>k _ _ _ _ (k1.trans k2) g2 hj q2
theorem ab_yrng1:AbYs K uRng1 yRng1:=fun x v A H R' R r g w k=>by
  unfold yRng1 at w
  split at w
  . cases r with
    | cons r rr =>
      cases rr;cases r
      exact ⟨w.1,w.2.1,k _ _ _ _ (.refl H) g itr_fix w.2.2⟩
  . exact w.elim
theorem ab_yrng2:AbYs K uRng2 yRng2:=fun x v A H R' R r g w k=>by
  unfold yRng2 at w
  split at w
  . cases r with
    | cons r rr =>
      cases rr with
      | cons r2 rr =>
        cases rr;cases r;cases r2
        exact ⟨w.1,k _ _ _ _ (.refl H) g itr_fix w.2⟩
  . exact w.elim
theorem ab_jrng1 {t:TA} {l:AA} (hl:AbA K t l):AbI K (jRng1 t) (aJargs yRng1 l):=ab_jargs (u:=uRng1) ab_yrng1 hl
theorem ab_jrng2 {t:TA} {l:AA} (hl:AbA K t l):AbI K (jRng2 t) (aJargs yRng2 l):=ab_jargs (u:=uRng2) ab_yrng2 hl
noncomputable def enU (us:List U):List U:=us.zipIdx.map fun p=>.tup [.int (p.2:Nat),p.1]
theorem enU_get (us:List U) (i:Nat):(enU us)[i]? = (us[i]?).map fun u=>.tup [.int (i:Nat),u]:=by
  unfold enU
  rw [List.getElem?_map,List.getElem?_zipIdx]
  cases us[i]? <;> simp
theorem enU_len (us:List U):(enU us).length=us.length:=by simp [enU]
noncomputable def jEnum (a:Addr):AIt:=fun i A r=>∃ us,A a=some (.lst us)/\r=(enU us)[i]?
noncomputable def yEnum:List U->AHp->(AIt->AHp->Prop)->Prop:=fun us A R=>match us with
  | [.ref a]=>(∃ us,A a=some (.lst us))/\R (jEnum a) A
  | [.rol us]=>R (jFix (enU us)) A
  | _=>False
theorem ite_of {H:Hp} {a:Addr} {us:List U} {vs:List V} {i:Nat} {A:AHp} (h1:SqL K H a vs) (r1:RUs K H us vs) (g:HR K H A):match (enU us)[i]? with
    | none=>(Ite K a).stop i H
    | some u=>(Ite K a).go i H/\∀ x H',(Ite K a).yld i H x H'->Kp K H H'/\HR K H' A/\RU K H' u x:=by
  rw [enU_get]
  cases hu:us[i]? with
  | none=>exact ⟨vs,h1,by rw [<- r1.length];exact List.getElem?_eq_none_iff.mp hu⟩
  | some u =>
    obtain ⟨v,hv,rv⟩:=r1.get' hu
    refine ⟨⟨vs,v,h1,hv⟩,?_⟩
    rintro x H' ⟨T,x0,rfl,hT,rfl,hx⟩
    have:=hx vs h1
    rw [hv] at this;cases this
    have s:=Same.upd_new (o:=.tup [.int i,v]) hT
    exact ⟨s.kp,g.grow s,.tup (SqT.of upd_same) (.cons (.int _) (.one (rv.same s.kp)))⟩
theorem iteu_of {H:Hp} {a:Addr} {us:List U} {vs:List V} {i:Nat} {A:AHp} (h1:SqT K H a vs) (r1:RUs K H us vs) (g:HR K H A):match (enU us)[i]? with
    | none=>(Iteu K a).stop i H
    | some u=>(Iteu K a).go i H/\∀ x H',(Iteu K a).yld i H x H'->Kp K H H'/\HR K H' A/\RU K H' u x:=by
  rw [enU_get]
  cases hu:us[i]? with
  | none=>exact ⟨vs,h1,by rw [<- r1.length];exact List.getElem?_eq_none_iff.mp hu⟩
  | some u =>
    obtain ⟨v,hv,rv⟩:=r1.get' hu
    refine ⟨⟨vs,v,h1,hv⟩,?_⟩
    rintro x H' ⟨T,x0,rfl,hT,rfl,hx⟩
    have:=hx vs h1
    rw [hv] at this;cases this
    have s:=Same.upd_new (o:=.tup [.int i,v]) hT
    exact ⟨s.kp,g.grow s,.tup (SqT.of upd_same) (.cons (.int _) (.one (rv.same s.kp)))⟩
theorem ab_yenum:AbYs K (uEnum K) yEnum:=fun x v A H R' R r g w k=>by
  unfold yEnum at w
  split at w
  . cases r with
    | cons r rr =>
      cases rr;cases r
      obtain ⟨⟨us,hA⟩,w⟩:=w
      obtain ⟨vs,h1,r1⟩:=g.list hA
      refine ⟨⟨vs,SqL.of h1⟩,k _ _ _ _ (.refl H) g (fun i A1 H1 r k1 g1 ⟨us,hA,e⟩=>?_) w⟩
      subst e
      obtain ⟨vs,h1,r1⟩:=g1.list hA
      exact ite_of (SqL.of h1) r1 g1
  . cases r with
    | cons r rr =>
      cases rr
      cases r with
      | rol h1 r1 =>
        refine ⟨⟨_,h1.sq⟩,k _ _ _ _ (.refl H) g (fun i A1 H1 r k1 g1 e=>?_) w⟩
        have e:r=(enU _)[i]?:=e
        subst e
        exact ite_of (k1.r _ _ h1).sq (r1.same k1) g1
  . exact w.elim
noncomputable def yEnumT:List U->AHp->(AIt->AHp->Prop)->Prop:=fun us A R=>match us with
  | [.tup us]=>R (jFix (enU us)) A
  | _=>False
theorem ab_yenumT:AbYs K (uEnumT K) yEnumT:=fun x v A H R' R r g w k=>by
  unfold yEnumT at w
  split at w
  . cases r with
    | cons r rr =>
      cases rr
      cases r with
      | tup h1 r1 =>
        refine ⟨⟨_,h1⟩,k _ _ _ _ (.refl H) g (fun i A1 H1 r k1 g1 e=>?_) w⟩
        have e:r=(enU _)[i]?:=e
        subst e
        exact iteu_of (k1.t _ _ h1) (r1.same k1) g1
  . exact w.elim
noncomputable def jRevA (a:Addr) (n:Nat):AIt:=fun i A r=>(i=n/\r=none)\/(i < n/\∃ us u,A a=some (.lst us)/\us[n - 1 - i]? = some u/\r=some u)
noncomputable def aJrev (a:AE):AI:=fun ρ A R=>a ρ A fun x A1=>∃ p us,x=.ref p/\A1 p=some (.lst us)/\R (jRevA p us.length) A1
theorem ab_jrev {t:TE} {a:AE} (ha:AbE K t a):AbI K (jRev K t) (aJrev a):=fun ρ A σ H R' R hs g w k =>
  ha ρ A σ H _ _ hs g w fun x A1 v H1 k1 g1 r1 hq0=>by
    obtain ⟨p,us,e,hA,q1⟩:=hq0
    subst e;cases r1
    obtain ⟨vs,h1,r1⟩:=g1.list hA
    refine ⟨p,vs,rfl,SqL.of h1,?_⟩
    rw [<- r1.length]
    refine k _ _ _ _ k1 g1 (fun i A2 H2 r k2 g2 e=>?_) q1
    rcases e with ⟨rfl,rfl⟩ | ⟨hi,us2,u,hA2,hu,rfl⟩
    . rfl
    . obtain ⟨vs2,h2,r2⟩:=g2.list hA2
      obtain ⟨v,hv,rv⟩:=r2.get' hu
      refine ⟨⟨hi,vs2,v,SqL.of h2,hv⟩,?_⟩
      rintro x H' ⟨rfl,hx⟩
      have:=hx vs2 (SqL.of h2)
      rw [hv] at this;cases this
      exact ⟨.refl _,g2,rv⟩
noncomputable def aCompStart (nt:Nat) (frs:List (Str × Nat)) (ρ:ASt):ASt:=List.replicate nt none++frs.map fun p=>(ρ[p.2]?).join
theorem RSt.join {H:Hp}:∀ {ρ:ASt} {σ:St} (i:Nat) {ρ2:ASt} {σ2:St},RSt K H ρ σ->RSt K H ρ2 σ2->RSt K H ((ρ[i]?).join::ρ2) ((σ[i]?).join::σ2)
  | _,_,_,_,_,.nil,q=>by simpa using .skip q
  | _,_,0,_,_,.skip _,q=>by simpa using .skip q
  | _,_,i + 1,_,_,.skip r,q=>by simpa using RSt.join i r q
  | _,_,0,_,_,.cons h _,q=>by simpa using .cons h q
  | _,_,i + 1,_,_,.cons _ r,q=>by simpa using RSt.join i r q
theorem RSt.comp {H:Hp} {ρ:ASt} {σ:St} (h:RSt K H ρ σ) (nt:Nat) (frs:List (Str × Nat)):RSt K H (aCompStart nt frs ρ) (compStart nt frs σ):=by
  unfold aCompStart compStart
  induction nt with
  | zero =>
    simp only [List.replicate_zero,List.nil_append]
    induction frs with
    | nil=>exact .nil
    | cons p frs ih=>simp only [List.map_cons];exact h.join p.2 ih
  | succ n ih=>simp only [List.replicate_succ,List.cons_append];exact .skip ih
noncomputable def aCL (J:AIt) (g:AG) (tt:AT) (te:AE) (l:Addr) (Q:AVK) (τ:ASt) (A:AHp):Prop:=∃ W:Nat->Nat->ASt->AHp->Prop,(∃ m,W 0 m τ A) /\
  ∀ i m τ A,W i m τ A->(J i A none/\Q (.ref l) A)\/∃ u,J i A (some u)/\g u τ A fun τ2 A2=>tt τ2 A2 fun ok A3 =>
    if ok=true then te τ2 A3 fun y A4=>∃ ys,A4 l=some (.lst ys)/\ys.length < sizeLine/\∃ m',m' < m/\W (i + 1) m' τ2 (updA A4 l (.lst (ys++[y]))) else ∃ m',m' < m/\W (i + 1) m' τ2 A3
noncomputable def aComp (nt:Nat) (frs:List (Str × Nat)) (wi:AI) (g:AG) (tt:AT) (te:AE):AE:=fun ρ A Q=>wi ρ A fun J A1=>∀ l,A1 l=none->aCL J g tt te l Q (aCompStart nt frs ρ) (updA A1 l (.lst []))
theorem ab_comp {nt:Nat} {frs:List (Str × Nat)} {wi:TI} {g:TG} {tt:TT} {te:TE} {ai:AI} {ag:AG} {at':AT} {ae:AE} (hi:AbI K wi ai) (hg:AbG K g ag) (ht:AbT K tt at') (he:AbE K te ae):AbE K (tComp nt frs wi g tt te) (aComp nt frs ai ag at' ae):=fun ρ A σ H Q' Q hs g0 w k=>by
  refine hi ρ A σ H _ _ hs g0 w fun aj A1 J H1 k1 g1 hj q=>?_
  intro l hl
  obtain ⟨W,⟨m0,w0⟩,turn⟩:=q l (g1.none hl)
  have kl:Kp K H1 (upd H1 l (.lst [])):=(Same.upd_new hl).kp
  refine ⟨fun i m τ H2=>∃ τ' A2,Kp K H1 H2/\HR K H2 A2/\RSt K H2 τ' τ/\W i m τ' A2,⟨m0,_,_,kl,g1.newL hl .nil,(hs.same (k1.trans kl)).comp nt frs,w0⟩,?_⟩
  rintro i m τ H2 ⟨τ',A2,k2,g2,s2,w2⟩
  have k12:=k1.trans k2
  rcases turn i m τ' A2 w2 with ⟨hstop,q⟩ | ⟨u,hgo,q⟩
  . exact .inl ⟨hj i A2 H2 _ k2 g2 hstop,k _ _ _ _ k12 g2 (.ref l) q⟩
  . obtain ⟨j1,j2⟩:=hj i A2 H2 _ k2 g2 hgo
    refine .inr ⟨j1,fun x H3 hy=>?_⟩
    obtain ⟨k3,g3,r3⟩:=j2 x H3 hy
    refine hg _ _ _ _ _ _ _ _ r3 (s2.same k3) g3 q fun ρ4 A4 σ4 H4 k4 g4 s4 q4=>ht ρ4 A4 σ4 H4 _ _ s4 g4 q4 fun b A5 H5 k5 g5 q5=>?_
    have k25:=k2.trans (k3.trans (k4.trans k5))
    cases b
    . refine iteN (by decide) ?_
      obtain ⟨m',hm,w'⟩:=(by simpa using q5:∃ m',m' < m/\W (i + 1) m' ρ4 A5)
      exact ⟨m',hm,_,_,k25,g5,s4.same k5,w'⟩
    . refine iteP rfl (he ρ4 A5 σ4 H5 _ _ (s4.same k5) g5 (by simpa using q5) fun y A6 v6 H6 k6 g6 r6 q6=>?_)
      obtain ⟨ys,hA,hz,m',hm,w'⟩:=q6
      obtain ⟨vs,h6,r7⟩:=g6.list hA
      exact ⟨vs,h6,by rw [<- r7.length];exact hz,m',hm,_,_,k25.trans (k6.trans (Kp.lst h6)),g6.setL h6 (r7.app (.one r6)),(s4.same (k5.trans (k6.trans (Kp.lst h6)))),w'⟩
end
end L2
namespace L2
open PySem PySem.Spec PyProof.Rows
section
variable {K:PySem.W.Frag}
noncomputable def xAdd:AR2:=fun u w A Q=>match u,w with
  | .int i,.int j=>Q (.int (i + j)) A
  | .str i,.str j=>i.length + j.length<=sizeLine/\Q (.str (i++j)) A
  | .tup xs,.tup ys=>xs.length + ys.length<=sizeLine/\Q (.tup (xs++ys)) A
  | .ref a,.ref b=>∃ xs ys,A a=some (.lst xs)/\A b=some (.lst ys)/\xs.length + ys.length<=sizeLine/\∀ p,A p=none->Q (.ref p) (updA A p (.lst (xs++ys)))
  | _,_=>False
theorem ab_add:AbR K (uAddW K) xAdd:=fun x y u w A H Q' Q hu hw g h k=>by
  unfold xAdd at h
  split at h
  . cases hu;cases hw;exact k _ _ _ _ (.refl H) g (.int _) h
  . cases hu;cases hw;exact ⟨h.1,k _ _ _ _ (.refl H) g (.str _) h.2⟩
  . cases hu with
    | tup h1 r1 =>
      cases hw with
      | tup h2 r2 =>
        refine .inr ⟨_,_,h1,h2,by rw [<- r1.length,<- r2.length];exact h.1,fun p H' s hp=>k _ _ _ _ s.kp (g.grow s) (.tup hp ((r1.app r2).same s.kp)) h.2⟩
  . cases hu;cases hw
    obtain ⟨xs,ys,e1,e2,hz,q⟩:=h
    obtain ⟨vs,h1,r1⟩:=g.list e1
    obtain ⟨zs,h2,r2⟩:=g.list e2
    exact .inl ⟨vs,zs,SqL.of h1,SqL.of h2,by rw [<- r1.length,<- r2.length];exact hz,fun p hp=>k _ _ _ _ (Same.upd_new hp).kp (g.newL hp (r1.app r2)) (.ref p) (q p (g.none hp))⟩
  . exact h.elim
noncomputable def xI2 (C:Int->Int->Prop) (f:Int->Int->U):AR2:=fun u w A Q=>match u,w with
  | .int i,.int j=>C i j/\Q (f i j) A
  | _,_=>False
noncomputable def xI (f:Int->Int->U):AR2:=fun u w A Q=>match u,w with
  | .int i,.int j=>Q (f i j) A
  | _,_=>False
theorem ab_sub:AbR K uSub (xI fun i j=>.int (i - j)):=fun x y u w A H Q' Q hu hw g h k=>by
  unfold xI at h
  split at h
  . cases hu;cases hw;exact k _ _ _ _ (.refl H) g (.int _) h
  . exact h.elim
noncomputable def xMul:AR2:=fun u w A Q=>match u,w with
  | .int i,.int j=>IntMulOk i j/\Q (.int (i * j)) A
  | .ref a,.int m=>∃ xs,A a=some (.lst xs)/\-(2 ^ 63)<=m/\m < 2 ^ 63/\xs.length * m.toNat<=sizeLine/\∀ p,A p=none->Q (.ref p) (updA A p (.lst (List.replicate m.toNat xs).flatten))
  | _,_=>False
theorem RUs.flat {H:Hp} {us:List U} {vs:List V} (r:RUs K H us vs):∀ n,RUs K H (List.replicate n us).flatten (List.replicate n vs).flatten
  | 0=>.nil
  | n + 1=>by rw [List.replicate_succ,List.replicate_succ,List.flatten_cons,List.flatten_cons];exact r.app (r.flat n)
theorem ab_mul:AbR K uMulB xMul:=fun x y u w A H Q' Q hu hw g h k=>by
  unfold xMul at h
  split at h
  . cases hu;cases hw;exact ⟨h.1,k _ _ _ _ (.refl H) g (.int _) h.2⟩
  . cases hu;cases hw
    obtain ⟨xs,e1,b1,b2,hz,q⟩:=h
    obtain ⟨vs,h1,r1⟩:=g.list e1
    exact ⟨_,_,vs,rfl,rfl,h1,b1,b2,by rw [<- r1.length];exact hz,fun p hp=>k _ _ _ _ (Same.upd_new hp).kp (g.newL hp (r1.flat _)) (.ref p) (q p (g.none hp))⟩
  . exact h.elim
theorem ab_div:AbR K uDiv (xI2 CDiv fun i j=>.int (i / j)):=fun x y u w A H Q' Q hu hw g h k=>by
  unfold xI2 at h
  split at h
  . cases hu;cases hw;exact ⟨h.1,k _ _ _ _ (.refl H) g (.int _) h.2⟩
  . exact h.elim
theorem ab_mod:AbR K uMod (xI2 (fun _ j=>0 < j) fun i j=>.int (i % j)):=fun x y u w A H Q' Q hu hw g h k=>by
  unfold xI2 at h
  split at h
  . cases hu;cases hw;exact ⟨h.1,k _ _ _ _ (.refl H) g (.int _) h.2⟩
  . exact h.elim
theorem ab_pow:AbR K uPow (xI2 CPow fun i j=>.int (i ^ j.toNat)):=fun x y u w A H Q' Q hu hw g h k=>by
  unfold xI2 at h
  split at h
  . cases hu;cases hw;exact ⟨h.1,k _ _ _ _ (.refl H) g (.int _) h.2⟩
  . exact h.elim
noncomputable def xLt:AR2:=fun u w A Q=>match u,w with
  | .int i,.int j=>Q (.bl (decide (i < j))) A
  | .str i,.str j=>Q (.bl (decide (i.cps.toList < j.cps.toList))) A
  | _,_=>False
theorem ab_lt:AbR K uLt xLt:=fun x y u w A H Q' Q hu hw g h k=>by
  unfold xLt at h
  split at h
  . cases hu;cases hw;exact k _ _ _ _ (.refl H) g (.bl _) h
  . cases hu;cases hw;exact k _ _ _ _ (.refl H) g (.bl _) h
  . exact h.elim
theorem ab_gt:AbR K uGt (xI fun i j=>.bl (decide (j < i))):=fun x y u w A H Q' Q hu hw g h k=>by
  unfold xI at h
  split at h
  . cases hu;cases hw;exact k _ _ _ _ (.refl H) g (.bl _) h
  . exact h.elim
mutual
inductive DU (A:AHp):U->PyData->Prop
  | non:DU A .non .none
  | bl (b:Bool):DU A (.bl b) (.bool b)
  | int (i:Int):DU A (.int i) (.int i)
  | str (x:Str):DU A (.str x) (.str x)
  | tup {us:List U} {ds:List PyData}:DUs A us ds->DU A (.tup us) (.tuple ds)
  | rol {us:List U} {ds:List PyData}:DUs A us ds->DU A (.rol us) (.list ds)
  | lst {a:Addr} {us:List U} {ds:List PyData}:A a=some (.lst us)->DUs A us ds->DU A (.ref a) (.list ds)
inductive DUs (A:AHp):List U->List PyData->Prop
  | nil:DUs A [] []
  | cons {u:U} {d:PyData} {us:List U} {ds:List PyData}:DU A u d->DUs A us ds->DUs A (u::us) (d::ds)
end
mutual
theorem DU.rep {A:AHp} {H:Hp} (g:HR K H A):∀ {u:U} {v:V} {d:PyData},DU A u d->RU K H u v->Rep K H d v:=by
  intro u v d h r
  cases h with
  | non=>cases r;exact .non
  | bl b=>cases r;exact .bl b
  | int b=>cases r;exact .int b
  | str b=>cases r;exact .str b
  | tup q=>cases r with | tup h r=>exact .tup h (DUs.reps g q r)
  | rol q=>cases r with | rol h r=>exact .lst h.sq (DUs.reps g q r)
  | lst e q =>
    cases r
    obtain ⟨vs,h,r⟩:=g.list e
    exact .lst (SqL.of h) (DUs.reps g q r)
theorem DUs.reps {A:AHp} {H:Hp} (g:HR K H A):∀ {us:List U} {vs:List V} {ds:List PyData},DUs A us ds->RUs K H us vs->Reps K H ds vs
  | _,_,_,.nil,.nil=>.nil
  | _,_,_,.cons h r,.cons q s=>.cons (DU.rep g h q) (DUs.reps g r s)
end
noncomputable def xDeep (ne:Bool) (u w:U) (A:AHp) (Q:AVK):Prop:=∃ d e,DU A u d/\DU A w e/\d.canLay0=true/\e.canLay0=true/\d.depth<=190/\Q (.bl (if ne then !PyData.eqv d e else PyData.eqv d e)) A
noncomputable def xEq:AR2:=fun u w A Q=>match u,w with
  | .int i,.int j=>Q (.bl (decide (i=j))) A
  | .str i,.str j=>Q (.bl (decide (i=j))) A
  | .bl i,.bl j=>Q (.bl (decide (i=j))) A
  | .tup us,.tup ws=>xDeep false (.tup us) (.tup ws) A Q
  | .ref a,.ref b=>xDeep false (.ref a) (.ref b) A Q
  | .rol a,.ref b=>xDeep false (.rol a) (.ref b) A Q
  | .tup us,.non=>xDeep false (.tup us) .non A Q
  | .non,.tup us=>xDeep false .non (.tup us) A Q
  | .non,.non=>Q (.bl true) A
  | .non,.str _=>Q (.bl false) A
  | .str _,.non=>Q (.bl false) A
  | _,_=>False
theorem deep_eq {x y:V} {u w:U} {A:AHp} {H:Hp} {Q':AVK} {Q:VK} {ne:Bool} (hu:RU K H u x) (hw:RU K H w y) (g:HR K H A) (h:xDeep ne u w A Q') (k:Aft K H Q' Q):rEqD K ne x y H Q:=by
  obtain ⟨d,e,h1,h2,c1,c2,dp,q⟩:=h
  exact ⟨d,e,h1.rep g hu,h2.rep g hw,c1,c2,dp,k _ _ _ _ (.refl H) g (.bl _) q⟩
theorem ab_eq:AbR K (uEqD K) xEq:=fun x y u w A H Q' Q hu hw g h k=>by
  unfold xEq at h
  split at h
  . cases hu;cases hw;exact k _ _ _ _ (.refl H) g (.bl _) h
  . cases hu;cases hw;exact k _ _ _ _ (.refl H) g (.bl _) h
  . cases hu;cases hw;exact k _ _ _ _ (.refl H) g (.bl _) h
  . have:=deep_eq hu hw g h k;cases hu;exact this
  . have:=deep_eq hu hw g h k;cases hu;exact this
  . have:=deep_eq hu hw g h k;cases hu;exact this
  . have:=deep_eq hu hw g h k;cases hu;exact this
  . have:=deep_eq hu hw g h k;cases hu;cases hw;exact this
  . cases hu;cases hw;exact k _ _ _ _ (.refl H) g (.bl _) h
  . cases hu;cases hw;exact k _ _ _ _ (.refl H) g (.bl _) h
  . cases hu;cases hw;exact k _ _ _ _ (.refl H) g (.bl _) h
  . exact h.elim
noncomputable def xNe:AR2:=fun u w A Q=>match u,w with
  | .int i,.int j=>Q (.bl (!decide (i=j))) A
  | .str i,.str j=>Q (.bl (!decide (i=j))) A
  | .bl i,.bl j=>Q (.bl (!decide (i=j))) A
  | .tup us,.tup ws=>xDeep true (.tup us) (.tup ws) A Q
  | .ref a,.ref b=>xDeep true (.ref a) (.ref b) A Q
  | .rol a,.ref b=>xDeep true (.rol a) (.ref b) A Q
  | .tup us,.non=>xDeep true (.tup us) .non A Q
  | .non,.tup us=>xDeep true .non (.tup us) A Q
  | .non,.non=>Q (.bl false) A
  | .non,.str _=>Q (.bl true) A
  | .str _,.non=>Q (.bl true) A
  | _,_=>False
theorem ab_ne:AbR K (uNeD K) xNe:=fun x y u w A H Q' Q hu hw g h k=>by
  unfold xNe at h
  split at h
  . cases hu;cases hw;exact k _ _ _ _ (.refl H) g (.bl _) h
  . cases hu;cases hw;exact k _ _ _ _ (.refl H) g (.bl _) h
  . cases hu;cases hw;exact k _ _ _ _ (.refl H) g (.bl _) h
  . have:=deep_eq hu hw g h k;cases hu;exact this
  . have:=deep_eq hu hw g h k;cases hu;exact this
  . have:=deep_eq hu hw g h k;cases hu;exact this
  . have:=deep_eq hu hw g h k;cases hu;exact this
  . have:=deep_eq hu hw g h k;cases hu;cases hw;exact this
  . cases hu;cases hw;exact k _ _ _ _ (.refl H) g (.bl _) h
  . cases hu;cases hw;exact k _ _ _ _ (.refl H) g (.bl _) h
  . cases hu;cases hw;exact k _ _ _ _ (.refl H) g (.bl _) h
  . exact h.elim
noncomputable def U.flat:U->Bool
  | .non=>true
  | .bl _=>true
  | .int _=>true
  | .str _=>true
  | _=>false
noncomputable def U.toV:U->V
  | .bl b=>.bl b
  | .int i=>.int i
  | .str x=>.str x
  | _=>.non
theorem RU.flat {H:Hp} {u:U} {v:V} (h:RU K H u v) (f:u.flat=true):v=u.toV/\flatV v=true:=by
  cases h <;> first | exact ⟨rfl,rfl⟩ | cases f
theorem RUs.flats {H:Hp}:∀ {us:List U} {vs:List V},RUs K H us vs->us.all U.flat=true->vs=us.map U.toV/\vs.all flatV=true
  | _,_,.nil,_=>⟨rfl,rfl⟩
  | _, _,.cons h r,f=>by
    rw [List.all_cons,Bool.and_eq_true] at f
    obtain ⟨e1,f1⟩:=h.flat f.1
    obtain ⟨e2,f2⟩:=RUs.flats r f.2
    exact ⟨by rw [List.map_cons,e1,e2],by rw [List.all_cons,f1,f2];rfl⟩
noncomputable def inU (u:U) (us:List U):Bool:=inV u.toV (us.map U.toV)
noncomputable def xInB (neg:Bool):AR2:=fun u w A Q=>match w with
  | .str j=>∃ i,u=.str i/\Q (.bl (if neg then !occ j i else occ j i)) A
  | .tup us=>u.flat=true/\us.all U.flat=true/\Q (.bl (if neg then !inU u us else inU u us)) A
  | .rol us=>u.flat=true/\us.all U.flat=true/\Q (.bl (if neg then !inU u us else inU u us)) A
  | .ref a=>∃ us,A a=some (.lst us)/\u.flat=true/\us.all U.flat=true/\Q (.bl (if neg then !inU u us else inU u us)) A
  | _=>False
noncomputable abbrev xIn:=xInB false
theorem in_ref {x:V} {p:Addr} {H:Hp} {Q:VK} {xs:List V} (fx:flatV x=true) (h:∃ xs,Sq K H p xs/\flatV x=true/\xs.all flatV=true/\Q (.bl (inV x xs)) H):uIn K x (.ref p) H Q:=by
  cases x <;> exact h
theorem in_go {x:V} {u:U} {us:List U} {vs:List V} {p:Addr} {H:Hp} {A:AHp} {Q':AVK} {Q:VK} (hu:RU K H u x) (hs:Sq K H p vs) (r:RUs K H us vs) (g:HR K H A) (f:u.flat=true) (fs:us.all U.flat=true) (h:Q' (.bl (inU u us)) A) (k:Aft K H Q' Q):uIn K x (.ref p) H Q:=by
  obtain ⟨e1,f1⟩:=hu.flat f
  obtain ⟨e2,f2⟩:=r.flats fs
  refine in_ref (xs:=vs) f1 ⟨vs,hs,f1,f2,k _ _ _ _ (.refl H) g (.bl _) ?_⟩
  rw [e1,e2];exact h
theorem ab_in:AbR K (uIn K) xIn:=fun x y u w A H Q' Q hu hw g h k=>by
  unfold xIn xInB at h
  split at h
  . obtain ⟨i,rfl,h⟩:=h
    cases hw;cases hu;exact k _ _ _ _ (.refl H) g (.bl _) h
  . cases hw with
    | tup h1 r1=>exact in_go hu (.inr h1) r1 g h.1 h.2.1 h.2.2 k
  . cases hw with
    | rol h1 r1=>exact in_go hu (.inl h1.sq) r1 g h.1 h.2.1 h.2.2 k
  . cases hw
    obtain ⟨us,e,h⟩:=h
    obtain ⟨vs,h1,r1⟩:=g.list e
    exact in_go hu (.inl (SqL.of h1)) r1 g h.1 h.2.1 h.2.2 k
  . exact h.elim
theorem RUs.at {H:Hp} {us:List U} {vs:List V} {i:Int} {u:U} (r:RUs K H us vs) (h:atI us i=some u):∃ v,atI vs i=some v/\RU K H u v:=by
  unfold atI at h ⊢
  rw [<- r.length]
  cases e:ixN us.length i with
  | none=>rw [e] at h;cases h
  | some j=>rw [e] at h;exact r.get' h
noncomputable def xIx:AR2:=fun u w A Q=>match u,w with
  | .str z,.int i=>z.length<=sizeLine/\∃ c,atI z.cps.toList i=some c/\Q (.str ⟨#[c]⟩) A
  | .tup us,.int i=>∃ x,atI us i=some x/\Q x A
  | .rol us,.int i=>∃ x,atI us i=some x/\Q x A
  | .ref a,.int i=>∃ us x,A a=some (.lst us)/\atI us i=some x/\Q x A
  | _,_=>False
theorem ab_ix:AbR K (uIx K) xIx:=fun x y u w A H Q' Q hu hw g h k=>by
  unfold xIx at h
  split at h
  . cases hu;cases hw
    obtain ⟨hz,c,e,h⟩:=h
    exact ⟨hz,c,e,k _ _ _ _ (.refl H) g (.str _) h⟩
  . cases hw
    obtain ⟨x,e,h⟩:=h
    cases hu with
    | tup h1 r1 =>
      obtain ⟨v,e2,rv⟩:=r1.at e
      exact ⟨_,v,.inr h1,e2,k _ _ _ _ (.refl H) g rv h⟩
  . cases hw
    obtain ⟨x,e,h⟩:=h
    cases hu with
    | rol h1 r1 =>
      obtain ⟨v,e2,rv⟩:=r1.at e
      exact ⟨_,v,.inl h1.sq,e2,k _ _ _ _ (.refl H) g rv h⟩
  . cases hw;cases hu
    obtain ⟨us,x,e0,e,h⟩:=h
    obtain ⟨vs,h1,r1⟩:=g.list e0
    obtain ⟨v,e2,rv⟩:=r1.at e
    exact ⟨_,v,.inl (SqL.of h1),e2,k _ _ _ _ (.refl H) g rv h⟩
  . exact h.elim
noncomputable def cutU (xs:List U) (lo hi:Option Int):List U:=(xs.drop (HT.sIx xs.length 0 lo)).take (HT.sIx xs.length xs.length hi - HT.sIx xs.length 0 lo)
theorem RUs.cut {H:Hp} {us:List U} {vs:List V} (r:RUs K H us vs) (lo hi:Option Int):RUs K H (cutU us lo hi) (cutV vs lo hi):=by
  unfold cutU cutV
  rw [r.length]
  exact (r.drop _).take _
noncomputable def xSl:U->Option Int->Option Int->AHp->AVK->Prop:=fun u lo hi A Q=>match u with
  | .str z=>z.length<=sizeLine/\Q (.str (cutS z lo hi)) A
  | .tup us=>Q (.tup (cutU us lo hi)) A
  | .rol us=>∀ p,A p=none->Q (.ref p) (updA A p (.lst (cutU us lo hi)))
  | .ref a=>∃ us,A a=some (.lst us)/\∀ p,A p=none->Q (.ref p) (updA A p (.lst (cutU us lo hi)))
  | _=>False
theorem ab_xsl:AbSl K (uSlW K) xSl:=fun x u lo hi A H Q' Q hu g h k=>by
  unfold xSl at h
  split at h
  . cases hu;exact ⟨h.1,k _ _ _ _ (.refl H) g (.str _) h.2⟩
  . cases hu with
    | tup h1 r1=>exact .inr ⟨_,h1,fun p H' s hp=>k _ _ _ _ s.kp (g.grow s) (.tup hp ((r1.cut lo hi).same s.kp)) h⟩
  . cases hu with
    | rol h1 r1=>exact .inl ⟨_,h1.sq,fun p hp=>k _ _ _ _ (Same.upd_new hp).kp (g.newL hp (r1.cut lo hi)) (.ref p) (h p (g.none hp))⟩
  . cases hu
    obtain ⟨us,e,h⟩:=h
    obtain ⟨vs,h1,r1⟩:=g.list e
    exact .inl ⟨_,SqL.of h1,fun p hp=>k _ _ _ _ (Same.upd_new hp).kp (g.newL hp (r1.cut lo hi)) (.ref p) (h p (g.none hp))⟩
  . exact h.elim
noncomputable def xLen:List U->AHp->AVK->Prop:=fun us A Q=>match us with
  | [.str z]=>z.length<=sizeLine/\Q (.int z.length) A
  | [.tup us]=>Q (.int us.length) A
  | [.rol us]=>Q (.int us.length) A
  | [.ref a]=>∃ us,A a=some (.lst us)/\Q (.int us.length) A
  | _=>False
theorem RUs.inv1 {H:Hp} {u:U} {vs:List V} (h:RUs K H [u] vs):∃ v,vs=[v]/\RU K H u v:=by
  cases h with
  | cons h r=>cases r;exact ⟨_,rfl,h⟩
theorem RUs.inv2 {H:Hp} {u w:U} {vs:List V} (h:RUs K H [u,w] vs):∃ v x,vs=[v,x]/\RU K H u v/\RU K H w x:=by
  cases h with
  | cons h r=>obtain ⟨x,rfl,r'⟩:=r.inv1;exact ⟨_,x,rfl,h,r'⟩
theorem ab_len:AbL K (uLen K) xLen:=fun xs us A H Q' Q r g h k=>by
  unfold xLen at h
  split at h
  . obtain ⟨v,rfl,r'⟩:=r.inv1;cases r';exact ⟨h.1,k _ _ _ _ (.refl H) g (.int _) h.2⟩
  . obtain ⟨v,rfl,r'⟩:=r.inv1
    cases r' with
    | tup h1 r1=>exact ⟨_,.inr h1,k _ _ _ _ (.refl H) g (.int _) (by rw [<- r1.length];exact h)⟩
  . obtain ⟨v,rfl,r'⟩:=r.inv1
    cases r' with
    | rol h1 r1=>exact ⟨_,.inl h1.sq,k _ _ _ _ (.refl H) g (.int _) (by rw [<- r1.length];exact h)⟩
  . obtain ⟨v,rfl,r'⟩:=r.inv1
    cases r'
    obtain ⟨us,e,h⟩:=h
    obtain ⟨vs,h1,r1⟩:=g.list e
    exact ⟨_,.inl (SqL.of h1),k _ _ _ _ (.refl H) g (.int _) (by rw [<- r1.length];exact h)⟩
  . exact h.elim
noncomputable def xMin:List U->AHp->AVK->Prop:=fun us A Q=>match us with
  | [.int i,.int j]=>Q (.int (min i j)) A
  | [.ref a]=>∃ ns:List Int,A a=some (.lst (ns.map U.int))/\1<=ns.length/\∀ m,m∈ns->(∀ x∈ns,m<=x)->Q (.int m) A
  | _=>False
theorem ab_min:AbL K (uMinA K) xMin:=fun xs us A H Q' Q r g h k=>by
  unfold xMin at h
  split at h
  . obtain ⟨v,x,rfl,r1,r2⟩:=r.inv2;cases r1;cases r2;exact k _ _ _ _ (.refl H) g (.int _) h
  . obtain ⟨v,rfl,r'⟩:=r.inv1;cases r'
    obtain ⟨ns,e,hn,h⟩:=h
    obtain ⟨vs,h1,r1⟩:=g.list e
    exact ⟨ns,SqL.of (by rw [h1,r1.ints]),hn,fun m hm hx=>k _ _ _ _ (.refl H) g (.int _) (h m hm hx)⟩
  . exact h.elim
noncomputable def xSum:List U->AHp->AVK->Prop:=fun us A Q=>match us with
  | [.ref a]=>∃ ns:List Int,A a=some (.lst (ns.map U.int))/\Q (.int ns.sum) A
  | _=>False
theorem ab_sum:AbL K (uSum K) xSum:=fun xs us A H Q' Q r g h k=>by
  unfold xSum at h
  split at h
  . obtain ⟨v,rfl,r'⟩:=r.inv1;cases r'
    obtain ⟨ns,e,h⟩:=h
    obtain ⟨vs,h1,r1⟩:=g.list e
    exact ⟨ns,SqL.of (by rw [h1,r1.ints]),k _ _ _ _ (.refl H) g (.int _) h⟩
  . exact h.elim
noncomputable def xListOf:List U->AHp->AVK->Prop:=fun us A Q=>match us with
  | [.tup us]=>∀ p,A p=none->Q (.ref p) (updA A p (.lst us))
  | [.rol us]=>∀ p,A p=none->Q (.ref p) (updA A p (.lst us))
  | [.ref a]=>∃ us,A a=some (.lst us)/\∀ p,A p=none->Q (.ref p) (updA A p (.lst us))
  | _=>False
theorem ab_listof:AbL K (uListOf K) xListOf:=fun xs us A H Q' Q r g h k=>by
  unfold xListOf at h
  split at h
  . obtain ⟨v,rfl,r'⟩:=r.inv1
    cases r' with
    | tup h1 r1=>exact ⟨_,.inr h1,fun p hp=>k _ _ _ _ (Same.upd_new hp).kp (g.newL hp r1) (.ref p) (h p (g.none hp))⟩
  . obtain ⟨v,rfl,r'⟩:=r.inv1
    cases r' with
    | rol h1 r1=>exact ⟨_,.inl h1.sq,fun p hp=>k _ _ _ _ (Same.upd_new hp).kp (g.newL hp r1) (.ref p) (h p (g.none hp))⟩
  . obtain ⟨v,rfl,r'⟩:=r.inv1
    cases r'
    obtain ⟨us,e,h⟩:=h
    obtain ⟨vs,h1,r1⟩:=g.list e
    exact ⟨_,.inl (SqL.of h1),fun p hp=>k _ _ _ _ (Same.upd_new hp).kp (g.newL hp r1) (.ref p) (h p (g.none hp))⟩
  . exact h.elim
noncomputable def xTupOf:List U->AHp->AVK->Prop:=fun us A Q=>match us with
  | [.tup us]=>Q (.tup us) A
  | [.rol us]=>Q (.tup us) A
  | [.ref a]=>∃ us,A a=some (.lst us)/\Q (.tup us) A
  | _=>False
theorem ab_tupof:AbL K (uTupOf K) xTupOf:=fun xs us A H Q' Q r g h k=>by
  unfold xTupOf at h
  split at h
  . obtain ⟨v,rfl,r'⟩:=r.inv1
    cases r' with
    | tup h1 r1=>exact ⟨_,.inr ⟨h1,k _ _ _ _ (.refl H) g (.tup h1 r1) h⟩⟩
  . obtain ⟨v,rfl,r'⟩:=r.inv1
    cases r' with
    | @rol _ zs _ h1 r1 =>
      refine ⟨_,.inl ⟨h1.sq,fun p hp=>?_⟩⟩
      have s:=Same.upd_new (o:=.tup zs) hp
      exact k _ _ _ _ s.kp (g.grow s) (.tup (SqT.of upd_same) (r1.same s.kp)) h
  . obtain ⟨v,rfl,r'⟩:=r.inv1
    cases r'
    obtain ⟨us,e,h⟩:=h
    obtain ⟨vs,h1,r1⟩:=g.list e
    refine ⟨_,.inl ⟨SqL.of h1,fun p hp=>?_⟩⟩
    have s:=Same.upd_new (o:=.tup vs) hp
    exact k _ _ _ _ s.kp (g.grow s) (.tup (SqT.of upd_same) (r1.same s.kp)) h
  . exact h.elim
noncomputable def isLst:U->AHp->Prop:=fun u A=>match u with
  | .ref a=>∃ us,A a=some (.lst us)
  | _=>False
theorem ab_isLst:AbY K "list" isLst:=fun x u A H r g h=>by
  unfold isLst at h
  split at h
  . cases r
    obtain ⟨us,e⟩:=h
    obtain ⟨vs,h1,r1⟩:=g.list e
    exact .inl ⟨rfl,vs,SqL.of h1⟩
  . exact h.elim
noncomputable def isTupU:U->AHp->Prop:=fun u _=>match u with
  | .tup _=>True
  | _=>False
noncomputable def mApp:U->List U->AHp->AVK->Prop:=fun u us A Q=>match u,us with
  | .ref a,[w]=>∃ xs,A a=some (.lst xs)/\xs.length < sizeLine/\Q .non (updA A a (.lst (xs++[w])))
  | _,_=>False
theorem ab_mapp:AbMt K rAppend mApp:=fun x u xs us A H Q' Q r rs g h k=>by
  unfold mApp at h
  split at h
  . cases r
    obtain ⟨v,rfl,rv⟩:=rs.inv1
    obtain ⟨zs,e,hz,h⟩:=h
    obtain ⟨vs,h1,r1⟩:=g.list e
    exact ⟨_,vs,_,rfl,rfl,h1,by rw [<- r1.length];exact hz,k _ _ _ _ (Kp.lst h1) (g.setL h1 (r1.app (.one rv))) .non h⟩
  . exact h.elim
noncomputable def mPop:U->List U->AHp->AVK->Prop:=fun u us A Q=>match u,us with
  | .ref a,[]=>∃ xs y,A a=some (.lst (xs++[y]))/\Q y (updA A a (.lst xs))
  | _,_=>False
theorem ab_mpop:AbMt K rPop mPop:=fun x u xs us A H Q' Q r rs g h k=>by
  unfold mPop at h
  split at h
  . cases r;cases rs
    obtain ⟨zs,y,e,h⟩:=h
    obtain ⟨vs,h1,r1⟩:=g.list e
    have hl:=r1.length
    rw [List.length_append,List.length_singleton] at hl
    obtain ⟨v,hv,rv⟩:=r1.get' (i:=zs.length) (u:=y) (by simp)
    refine ⟨_,vs,v,rfl,rfl,h1,by rw [<- hl];exact hv,k _ _ _ _ (Kp.lst h1) (g.setL h1 ?_) (rv.same (Kp.lst h1)) h⟩
    have:=r1.dropLast
    rw [List.dropLast_concat] at this
    exact this
  . exact h.elim
noncomputable def mExtT:U->List U->AHp->AVK->Prop:=fun u us A Q=>match u,us with
  | .ref a,[.tup ws]=>∃ xs,A a=some (.lst xs)/\xs.length + ws.length<=sizeLine/\Q .non (updA A a (.lst (xs++ws)))
  | _,_=>False
theorem ab_mextT:AbMt K (rExtT K) mExtT:=fun x u xs us A H Q' Q r rs g h k=>by
  unfold mExtT at h
  split at h
  . cases r
    obtain ⟨v,rfl,rv⟩:=rs.inv1
    obtain ⟨zs,e,hz,h⟩:=h
    obtain ⟨vs,h1,r1⟩:=g.list e
    cases rv with
    | tup h2 r2=>exact ⟨_,_,vs,_,rfl,rfl,h1,h2,by rw [<- r1.length,<- r2.length];exact hz,k _ _ _ _ (Kp.lst h1) (g.setL h1 (r1.app r2)) .non h⟩
  . exact h.elim
noncomputable def mExt:U->List U->AHp->AVK->Prop:=fun u us A Q=>match u,us with
  | .ref a,[.ref b]=>∃ xs ws,A a=some (.lst xs)/\A b=some (.lst ws)/\xs.length + ws.length<=sizeLine/\Q .non (updA A a (.lst (xs++ws)))
  | _,_=>False
theorem ab_mext:AbMt K rExtend mExt:=fun x u xs us A H Q' Q r rs g h k=>by
  unfold mExt at h
  split at h
  . cases r
    obtain ⟨v,rfl,rv⟩:=rs.inv1
    cases rv
    obtain ⟨zs,ws,e,e2,hz,h⟩:=h
    obtain ⟨vs,h1,r1⟩:=g.list e
    obtain ⟨ys,h2,r2⟩:=g.list e2
    exact ⟨_,_,vs,_,rfl,rfl,h1,h2,by rw [<- r1.length,<- r2.length];exact hz,k _ _ _ _ (Kp.lst h1) (g.setL h1 (r1.app r2)) .non h⟩
  . exact h.elim
noncomputable def bTail (o:AE) (l:AP1):AG:=fun u ρ A Q=>o ρ A fun x A1=>l ρ A1 fun y A2=>∃ a b us ws i,x=.ref a/\u=.ref b/\y=some i/\A2 a=some (.lst us)/\A2 b=some (.lst ws)/\a≠b/\0<=i/\i<=us.length/\us.length + ws.length<=sizeLine/\Q ρ (updA A2 a (.lst (us.take i.toNat++ws)))
theorem ab_tail {to:TE} {tl:TO} {ao:AE} {al:AP1} (ho:AbE K to ao) (hl:AbP K tl al):AbG K (gTail to tl) (bTail ao al):=fun u v ρ A σ H Q' Q r hs g w k =>
  ho ρ A σ H _ _ hs g w fun x A1 v1 H1 k1 g1 r1 q1=>hl ρ A1 σ H1 _ _ (hs.same k1) g1 q1 fun y A2 H2 k2 g2 hq0=>by
    obtain ⟨a,b,us,ws,i,e1,e2,e3,eA,eB,hne,h0,hi,hz,q⟩:=hq0
    subst e1 e2 e3
    cases r1;cases r
    obtain ⟨vs,h1,r1⟩:=g2.list eA
    obtain ⟨ys,h2,r2⟩:=g2.list eB
    refine ⟨_,_,vs,ys,i,rfl,rfl,rfl,h1,h2,hne,h0,by rw [<- r1.length];exact hi,by rw [<- r1.length,<- r2.length];exact hz,k _ _ _ _ (k1.trans (k2.trans (Kp.lst h1))) (g2.setL h1 ((r1.take _).app r2)) (hs.same (k1.trans (k2.trans (Kp.lst h1)))) q⟩
noncomputable def aTupRev (a:AE):AE:=fun ρ A Q=>a ρ A fun x A1=>∃ p us,x=.ref p/\A1 p=some (.lst us)/\Q (.tup us.reverse) A1
theorem ab_tuprev {t:TE} {a:AE} (ha:AbE K t a):AbE K (tTupRev K t) (aTupRev a):=fun ρ A σ H Q' Q hs g w k =>
  ha ρ A σ H _ _ hs g w fun x A1 v H1 k1 g1 r1 hq0=>by
    obtain ⟨p,us,e,eA,q⟩:=hq0
    subst e;cases r1
    obtain ⟨vs,h1,r1⟩:=g1.list eA
    refine ⟨p,vs,rfl,SqL.of h1,fun q2 hp=>?_⟩
    have s:=Same.upd_new (o:=.tup vs.reverse) hp
    exact k _ _ _ _ (k1.trans s.kp) (g1.grow s) (.tup (SqT.of upd_same) (r1.rev.same s.kp)) q
end
end L2
namespace L2
open PySem PySem.Spec PyProof.Rows
theorem cutU_tail (x:U) (xs:List U):cutU (x::xs) (some 1) none=xs:=by
  unfold cutU
  have:HT.sIx (x::xs).length 0 (some 1)=1:=by
    have:=HT.sIx_nat (x::xs).length 0 1
    rw [show ((1:Nat):Int)=1 from rfl] at this
    rw [this,List.length_cons];lia
  rw [this,HT.sIx_none,List.drop_succ_cons,List.drop_zero,List.length_cons,Nat.add_sub_cancel,List.take_length]
section
variable {u:U} {ρ:ASt} {A:AHp} {Q:AVK} {a b:AE} {c d:AT} {B:Bool->AHp->Prop} {l:AA} {L:List U->AHp->Prop} {D:AEnds}
theorem q_var0 :(aVar 0 (some u::ρ) A Q)=(Q u A):=rfl
theorem q_nm0 {a0:Option U} {g:ASt->AHp->Prop} :(bName 0 u (a0::ρ) A g)=(g (some u::ρ) A):=rfl
theorem q_get0 {k:U->Prop} :(aGet (some u::ρ) 0 k)=(k u):=rfl
theorem q_varS {i:Nat} {a0:Option U}:(aVar (i + 1) (a0::ρ) A Q)=(aVar i ρ A Q):=rfl
theorem q_nmS {i:Nat} {a0:Option U} {g:ASt->AHp->Prop}:(bName (i + 1) u (a0::ρ) A g)=(bName i u ρ A fun ρ2 A2=>g (a0::ρ2) A2):=rfl
theorem q_getS {i:Nat} {a0:Option U} {k:U->Prop}:(aGet (a0::ρ) (i + 1) k)=(aGet ρ i k):=rfl
theorem q_var1 {a0:Option U} :(aVar 1 (a0::some u::ρ) A Q)=(Q u A):=rfl
theorem q_c :(aC u ρ A Q)=(Q u A):=rfl
theorem q_op {r:AR2}:(aOp r a b ρ A Q)=(a ρ A fun x A1=>b ρ A1 fun y A2=>r x y A2 Q):=rfl
theorem q_un {r:U->AHp->AVK->Prop}:(aUn r a ρ A Q)=(a ρ A fun x A1=>r x A1 Q):=rfl
theorem q_tb :(aB a ρ A B)=(a ρ A fun x A1=>∃ c,x=.bl c/\B c A1):=rfl
theorem q_bl {k:Bool} {F:Bool->Prop}:(∃ c,U.bl k=.bl c/\F c)=(F k):=by simp
theorem q_int {i:Int} {F:Int->Prop}:(∃ c,U.int i=.int c/\F c)=(F i):=by simp
theorem q_and :(aAnd c d ρ A B)=(c ρ A fun k A1=>if k=true then d ρ A1 B else B false A1):=rfl
theorem q_or :(aOr c d ρ A B)=(c ρ A fun k A1=>if k=true then B true A1 else d ρ A1 B):=rfl
theorem q_not :(aNot c ρ A B)=(c ρ A fun k A1=>B (!k) A1):=rfl
theorem q_true :(aTrue ρ A B)=(B true A):=rfl
theorem q_nil :(aNil ρ A L)=(L [] A):=rfl
theorem q_cons :(aCons a l ρ A L)=(a ρ A fun x A1=>l ρ A1 fun xs A2=>L (x::xs) A2):=rfl
theorem q_const {us:List U}:(aConst us ρ A L)=(L us A):=rfl
theorem q_tup :(aTup l ρ A Q)=(l ρ A fun xs A1=>xs.length<=sizeLine/\Q (.tup xs) A1):=rfl
theorem q_lst :(aLst l ρ A Q)=(l ρ A fun xs A1=>xs.length<=sizeLine/\∀ p,A1 p=none->Q (.ref p) (updA A1 p (.lst xs))):=rfl
theorem q_cb {r:List U->AHp->AVK->Prop}:(aCB r l ρ A Q)=(l ρ A fun us A1=>r us A1 Q):=rfl
theorem q_call {sp:ASp}:(aCall sp l ρ A Q)=(l ρ A fun us A1=>sp us A1 Q):=rfl
theorem q_callV {sp:ASp} {f:Addr}:(aCallV f sp a l ρ A Q)=(a ρ A fun y A0=>y=.ref f/\l ρ A0 fun us A1=>sp us A1 Q):=rfl
theorem q_nopart {O:Option Int->AHp->Prop}:(aNoPart ρ A O)=(O none A):=rfl
theorem q_part {O:Option Int->AHp->Prop}:(aPart a ρ A O)=(a ρ A fun x A1=>∃ i,x=.int i/\O (some i) A1):=rfl
theorem q_sl {r:U->Option Int->Option Int->AHp->AVK->Prop} {lo hi:AP1}:(aSl r a lo hi ρ A Q)=(a ρ A fun x A1=>lo ρ A1 fun i A2=>hi ρ A2 fun j A3=>r x i j A3 Q):=rfl
theorem q_bm0 {y:U->AHp->Prop} {r:U->List U->AHp->AVK->Prop}:(aBM0 y r a ρ A Q)=(a ρ A fun x A1=>y x A1/\r x [] A1 Q):=rfl
theorem q_bm {y:U->AHp->Prop} {r:U->List U->AHp->AVK->Prop}:(aBM y r a l ρ A Q)=(a ρ A fun x A1=>y x A1/\l ρ A1 fun us A2=>r x us A2 Q):=rfl
theorem q_next :(aNext D ρ A)=(D.nx ρ A):=rfl
theorem q_seq {t t2:AS}:(aSeq t t2 D ρ A)=(t { D with nx:=t2 D } ρ A):=rfl
theorem q_drop :(aDrop a D ρ A)=(a ρ A fun _ A1=>D.nx ρ A1):=rfl
theorem q_ret :(aRet a D ρ A)=(a ρ A D.rt):=rfl
theorem q_ifs {t t2:AS}:(aIfS c t t2 D ρ A)=(c ρ A fun k A1=>if k=true then t D ρ A1 else t2 D ρ A1):=rfl
theorem q_asg {g:AG}:(aAsg a g D ρ A)=(a ρ A fun x A1=>g x ρ A1 D.nx):=rfl
theorem q_par {i j:Nat}:(aPar i j l D ρ A)=(l ρ A fun us A1=>∃ v w,us=[v,w]/\D.nx ((ρ.set i (some v)).set j (some w)) A1):=rfl
theorem q_two {v w:U} {F:U->U->Prop}:(∃ a b,[v,w]=[a,b]/\F a b)=(F v w):=propext ⟨fun hq0=>by obtain ⟨a,b,e,h⟩:=hq0;injection e with e1 e2;injection e2 with e2 _;subst e1 e2;exact h,fun h=>⟨_,_,rfl,h⟩⟩
theorem q_for {wi:AI} {g:AG} {t:AS}:(aFor wi g t D ρ A)=(wi ρ A fun J A1=>aLoop J g t D ρ A1):=rfl
theorem q_jof {y:U->AHp->(AIt->AHp->Prop)->Prop} {R:AIt->AHp->Prop}:(aJof y a ρ A R)=(a ρ A fun x A1=>y x A1 R):=rfl
theorem q_jargs {y:List U->AHp->(AIt->AHp->Prop)->Prop} {R:AIt->AHp->Prop}:(aJargs y l ρ A R)=(l ρ A fun us A1=>y us A1 R):=rfl
theorem q_ylr {R:AIt->AHp->Prop} {p:Addr}:(yList (.ref p) A R)=((∃ us,A p=some (.lst us))/\R (jLst p) A):=rfl
theorem q_ylo {R:AIt->AHp->Prop} {us:List U}:(yList (.rol us) A R)=(R (jFix us) A):=rfl
theorem q_yt {R:AIt->AHp->Prop} {us:List U}:(yTup (.tup us) A R)=(R (jFix us) A):=rfl
theorem q_yr1 {R:AIt->AHp->Prop} {j:Int}:(yRng1 [.int j] A R)=(-(2 ^ 62)<=j/\j < 2 ^ 62/\R (jFix (rngU 0 j.toNat)) A):=rfl
theorem q_yr2 {R:AIt->AHp->Prop} {i j:Int}:(yRng2 [.int i,.int j] A R)=((-(2 ^ 62)<=i/\i < 2 ^ 62/\-(2 ^ 62)<=j/\j < 2 ^ 62)/\R (jFix (rngU i (j - i).toNat)) A):=rfl
theorem q_yer {R:AIt->AHp->Prop} {p:Addr}:(yEnum [.ref p] A R)=((∃ us,A p=some (.lst us))/\R (jEnum p) A):=rfl
theorem q_yeo {R:AIt->AHp->Prop} {us:List U}:(yEnum [.rol us] A R)=(R (jFix (enU us)) A):=rfl
theorem q_yet {R:AIt->AHp->Prop} {us:List U}:(yEnumT [.tup us] A R)=(R (jFix (enU us)) A):=rfl
theorem q_jrev {R:AIt->AHp->Prop}:(aJrev a ρ A R)=(a ρ A fun x A1=>∃ p us,x=.ref p/\A1 p=some (.lst us)/\R (jRevA p us.length) A1):=rfl
theorem q_comp {nt:Nat} {frs:List (Str × Nat)} {wi:AI} {g:AG} {tt:AT} {te:AE}:(aComp nt frs wi g tt te ρ A Q)=(wi ρ A fun J A1=>∀ l,A1 l=none->aCL J g tt te l Q (aCompStart nt frs ρ) (updA A1 l (.lst []))):=rfl
theorem q_gtup {n:Nat} {t:AGs} {N:ASt->AHp->Prop} {us:List U}:(bTup n t (.tup us) ρ A N)=(us.length=n/\t us ρ A N):=propext ⟨fun hq0=>by obtain ⟨vs,e,h⟩:=hq0;cases e;exact h,fun h=>⟨_,rfl,h⟩⟩
theorem q_gcons {t:AG} {ts:AGs} {N:ASt->AHp->Prop} {us:List U}:(bCons t ts (u::us) ρ A N)=(t u ρ A fun ρ2 A2=>ts us ρ2 A2 N):=propext ⟨fun hq0=>by obtain ⟨v,r,e,h⟩:=hq0;cases e;exact h,fun h=>⟨_,_,rfl,h⟩⟩
theorem q_gnil {N:ASt->AHp->Prop}:(bNil [] ρ A N)=(N ρ A):=propext ⟨fun h=>h.2,fun h=>⟨rfl,h⟩⟩
theorem q_addi {i j:Int}:(xAdd (.int i) (.int j) A Q)=(Q (.int (i + j)) A):=rfl
theorem q_adds {x y:Str}:(xAdd (.str x) (.str y) A Q)=(x.length + y.length<=sizeLine/\Q (.str (x++y)) A):=rfl
theorem q_addt {us ws:List U}:(xAdd (.tup us) (.tup ws) A Q)=(us.length + ws.length<=sizeLine/\Q (.tup (us++ws)) A):=rfl
theorem q_addr {p q:Addr}:(xAdd (.ref p) (.ref q) A Q)=(∃ xs ys,A p=some (.lst xs)/\A q=some (.lst ys)/\xs.length + ys.length<=sizeLine/\∀ p,A p=none->Q (.ref p) (updA A p (.lst (xs++ys)))):=rfl
theorem q_xi {i j:Int} {f:Int->Int->U}:(xI f (.int i) (.int j) A Q)=(Q (f i j) A):=rfl
theorem q_xi2 {i j:Int} {f:Int->Int->U} {C:Int->Int->Prop}:(xI2 C f (.int i) (.int j) A Q)=(C i j/\Q (f i j) A):=rfl
theorem q_mul {i j:Int}:(xMul (.int i) (.int j) A Q)=(IntMulOk i j/\Q (.int (i * j)) A):=rfl
theorem q_rep {p:Addr} {m:Int}:(xMul (.ref p) (.int m) A Q)=(∃ xs,A p=some (.lst xs)/\-(2 ^ 63)<=m/\m < 2 ^ 63/\xs.length * m.toNat<=sizeLine/\∀ p,A p=none->Q (.ref p) (updA A p (.lst (List.replicate m.toNat xs).flatten))):=rfl
theorem q_lti {i j:Int}:(xLt (.int i) (.int j) A Q)=(Q (.bl (decide (i < j))) A):=rfl
theorem q_eqi {i j:Int}:(xEq (.int i) (.int j) A Q)=(Q (.bl (decide (i=j))) A):=rfl
theorem q_eqs {x y:Str}:(xEq (.str x) (.str y) A Q)=(Q (.bl (decide (x=y))) A):=rfl
theorem q_eqb {k m:Bool}:(xEq (.bl k) (.bl m) A Q)=(Q (.bl (decide (k=m))) A):=rfl
theorem q_eqt {us ws:List U}:(xEq (.tup us) (.tup ws) A Q)=(xDeep false (.tup us) (.tup ws) A Q):=rfl
theorem q_eqr {p q:Addr}:(xEq (.ref p) (.ref q) A Q)=(xDeep false (.ref p) (.ref q) A Q):=rfl
theorem q_nei {i j:Int}:(xNe (.int i) (.int j) A Q)=(Q (.bl (!decide (i=j))) A):=rfl
theorem q_nes {x y:Str}:(xNe (.str x) (.str y) A Q)=(Q (.bl (!decide (x=y))) A):=rfl
theorem q_neb {k m:Bool}:(xNe (.bl k) (.bl m) A Q)=(Q (.bl (!decide (k=m))) A):=rfl
theorem q_net {us ws:List U}:(xNe (.tup us) (.tup ws) A Q)=(xDeep true (.tup us) (.tup ws) A Q):=rfl
theorem q_ner {p q:Addr}:(xNe (.ref p) (.ref q) A Q)=(xDeep true (.ref p) (.ref q) A Q):=rfl
theorem q_int_ {us:List U}:(xInB false u (.tup us) A Q)=(u.flat=true/\us.all U.flat=true/\Q (.bl (inU u us)) A):=rfl
theorem q_inr_ {p:Addr}:(xInB false u (.ref p) A Q)=(∃ us,A p=some (.lst us)/\u.flat=true/\us.all U.flat=true/\Q (.bl (inU u us)) A):=rfl
theorem q_ins_ {x y:Str}:(xInB false (.str x) (.str y) A Q)=(Q (.bl (occ y x)) A):=propext ⟨fun hq0=>by obtain ⟨i,e,h⟩:=hq0;cases e;exact h,fun h=>⟨_,rfl,h⟩⟩
theorem q_ixs {z:Str} {i:Int}:(xIx (.str z) (.int i) A Q)=(z.length<=sizeLine/\∃ c,atI z.cps.toList i=some c/\Q (.str ⟨#[c]⟩) A):=rfl
theorem q_ix0 {us:List U}:(xIx (.tup (u::us)) (.int 0) A Q)=(Q u A):=propext ⟨fun hq0=>by obtain ⟨x,e,h⟩:=hq0;rw [show atI (u::us) 0=some u from atI_nat (j:=0) rfl] at e;cases e;exact h,fun h=>⟨_,atI_nat (j:=0) rfl,h⟩⟩
theorem q_ix1 {w:U} {us:List U}:(xIx (.tup (u::w::us)) (.int 1) A Q)=(Q w A):=propext ⟨fun hq0=>by obtain ⟨x,e,h⟩:=hq0;rw [show atI (u::w::us) 1=some w from atI_nat (j:=1) rfl] at e;cases e;exact h,fun h=>⟨_,atI_nat (j:=1) rfl,h⟩⟩
theorem q_ix2 {w x:U} {us:List U}:(xIx (.tup (u::w::x::us)) (.int 2) A Q)=(Q x A):=propext ⟨fun hq0=>by obtain ⟨z,e,h⟩:=hq0;rw [show atI (u::w::x::us) 2=some x from atI_nat (j:=2) rfl] at e;cases e;exact h,fun h=>⟨_,atI_nat (j:=2) rfl,h⟩⟩
theorem q_ixt {us:List U} {i:Int}:(xIx (.tup us) (.int i) A Q)=(∃ x,atI us i=some x/\Q x A):=rfl
theorem q_ixo {us:List U} {i:Int}:(xIx (.rol us) (.int i) A Q)=(∃ x,atI us i=some x/\Q x A):=rfl
theorem q_ixr {p:Addr} {i:Int}:(xIx (.ref p) (.int i) A Q)=(∃ us x,A p=some (.lst us)/\atI us i=some x/\Q x A):=rfl
theorem q_sls {lo hi:Option Int} {z:Str}:(xSl (.str z) lo hi A Q)=(z.length<=sizeLine/\Q (.str (cutS z lo hi)) A):=rfl
theorem q_slt1 {us:List U}:(xSl (.tup (u::us)) (some 1) none A Q)=(Q (.tup us) A):=by show Q (.tup (cutU (u::us) (some 1) none)) A=_;rw [cutU_tail]
theorem q_slt {lo hi:Option Int} {us:List U}:(xSl (.tup us) lo hi A Q)=(Q (.tup (cutU us lo hi)) A):=rfl
theorem q_slo {lo hi:Option Int} {us:List U}:(xSl (.rol us) lo hi A Q)=(∀ p,A p=none->Q (.ref p) (updA A p (.lst (cutU us lo hi)))):=rfl
theorem q_slr {lo hi:Option Int} {p:Addr}:(xSl (.ref p) lo hi A Q)=(∃ us,A p=some (.lst us)/\∀ p,A p=none->Q (.ref p) (updA A p (.lst (cutU us lo hi)))):=rfl
theorem q_lens {z:Str}:(xLen [.str z] A Q)=(z.length<=sizeLine/\Q (.int z.length) A):=rfl
theorem q_lent {us:List U}:(xLen [.tup us] A Q)=(Q (.int us.length) A):=rfl
theorem q_leno {us:List U}:(xLen [.rol us] A Q)=(Q (.int us.length) A):=rfl
theorem q_lenr {p:Addr}:(xLen [.ref p] A Q)=(∃ us,A p=some (.lst us)/\Q (.int us.length) A):=rfl
theorem q_min2 {i j:Int}:(xMin [.int i,.int j] A Q)=(Q (.int (min i j)) A):=rfl
theorem q_minl {p:Addr}:(xMin [.ref p] A Q)=(∃ ns:List Int,A p=some (.lst (ns.map U.int))/\1<=ns.length/\∀ m,m∈ns->(∀ x∈ns,m<=x)->Q (.int m) A):=rfl
theorem q_sum {p:Addr}:(xSum [.ref p] A Q)=(∃ ns:List Int,A p=some (.lst (ns.map U.int))/\Q (.int ns.sum) A):=rfl
theorem q_lot {us:List U}:(xListOf [.tup us] A Q)=(∀ p,A p=none->Q (.ref p) (updA A p (.lst us))):=rfl
theorem q_loo {us:List U}:(xListOf [.rol us] A Q)=(∀ p,A p=none->Q (.ref p) (updA A p (.lst us))):=rfl
theorem q_lor {p:Addr}:(xListOf [.ref p] A Q)=(∃ us,A p=some (.lst us)/\∀ p,A p=none->Q (.ref p) (updA A p (.lst us))):=rfl
theorem q_tot {us:List U}:(xTupOf [.tup us] A Q)=(Q (.tup us) A):=rfl
theorem q_tor {p:Addr}:(xTupOf [.ref p] A Q)=(∃ us,A p=some (.lst us)/\Q (.tup us) A):=rfl
theorem q_isl {p:Addr}:(isLst (.ref p) A)=(∃ us,A p=some (.lst us)):=rfl
theorem q_ist {us:List U}:(isTupU (.tup us) A)=(True):=rfl
theorem q_app {p:Addr}:(mApp (.ref p) [u] A Q)=(∃ xs,A p=some (.lst xs)/\xs.length < sizeLine/\Q .non (updA A p (.lst (xs++[u])))):=rfl
theorem q_pop {p:Addr}:(mPop (.ref p) [] A Q)=(∃ xs y,A p=some (.lst (xs++[y]))/\Q y (updA A p (.lst xs))):=rfl
theorem q_extT {p:Addr} {us:List U}:(mExtT (.ref p) [.tup us] A Q)=(∃ xs,A p=some (.lst xs)/\xs.length + us.length<=sizeLine/\Q .non (updA A p (.lst (xs++us)))):=rfl
theorem q_ext {p q:Addr}:(mExt (.ref p) [.ref q] A Q)=(∃ xs ws,A p=some (.lst xs)/\A q=some (.lst ws)/\xs.length + ws.length<=sizeLine/\Q .non (updA A p (.lst (xs++ws)))):=rfl
theorem q_tail {N:ASt->AHp->Prop} {o:AE} {lo:AP1}:(bTail o lo u ρ A N)=(o ρ A fun x A1=>lo ρ A1 fun y A2=>∃ a b us ws i,x=.ref a/\u=.ref b/\y=some i/\A2 a=some (.lst us)/\A2 b=some (.lst ws)/\a≠b/\0<=i/\i<=us.length/\us.length + ws.length<=sizeLine/\N ρ (updA A2 a (.lst (us.take i.toNat++ws)))):=rfl
theorem q_tuprev :(aTupRev a ρ A Q)=(a ρ A fun x A1=>∃ p us,x=.ref p/\A1 p=some (.lst us)/\Q (.tup us.reverse) A1):=rfl
end
end L2
namespace L2
open PySem PySem.Spec PyProof.Rows
noncomputable def Ext (A A':AHp):Prop:=∀ a o,A a=some o->A' a=some o
theorem Ext.refl (A:AHp):Ext A A:=fun _ _ h=>h
theorem Ext.trans {A B C:AHp} (h:Ext A B) (k:Ext B C):Ext A C:=fun a o e=>k a o (h a o e)
theorem Ext.new {A:AHp} {l:Addr} {o:AO} (h:A l=none):Ext A (updA A l o):=fun b u e=>by
  rw [updA_ne (fun z=>by rw [z,h] at e;cases e)];exact e
theorem HR.ext {K:PySem.W.Frag} {H:Hp} {A A':AHp} (e:Ext A A') (h:HR K H A'):HR K H A:=fun a o q=>h a o (e a o q)
noncomputable def Fg (Q:AVK):AVK:=fun u A=>∃ A',Ext A' A/\Q u A'
noncomputable def aStart (N:List Str) (us:List U):ASt:=us.map some++List.replicate (N.length - us.length) none
section
variable {P:Program} {w:World} {K:PySem.W.Frag} {mg:Str->Option Value} {base:Heap}
theorem RSt.nones {H:Hp}:∀ n,RSt K H (List.replicate n none) (List.replicate n none)
  | 0=>.nil
  | n + 1=>.skip (RSt.nones n)
theorem RSt.start {H:Hp} (N:List Str) {us:List U} {vs:List V} (r:RUs K H us vs):RSt K H (aStart N us) (L2.start N vs):=by
  unfold aStart L2.start
  rw [r.length]
  generalize N.length - vs.length=n
  induction us generalizing vs with
  | nil=>cases r;exact RSt.nones n
  | cons u us ih =>
    cases r with
    | cons h r=>exact .cons h (ih r)
theorem Fun.okA {x qual:Str} {st:Stmt} {f:Addr} {fd:FuncData} {N ps:List Str} {k:Nat} {asp:ASp} {sc:Scope} {body:List Stmt} {as:AS} (F:Fun K x qual st f fd) (hs:defScope st=sc) (hb:defBody st=body) (S:FnScope N ps (defScope st))
    (hbody:FnScope N ps sc->∀ (cdv:Value) (A:Around) (outer:List Env) (s:Shared) (H:Hp) (E:XK),Room k (A.deeper (envOfC qual sc s.heap.objs.size f cdv)) ->
      ∃ t,PSs (cxOf CX0 P w K mg base N qual sc f cdv A outer s H E).nox body t/\AbS K t as)
    (hsp:∀ us A Q,asp us A Q->us.length=ps.length/\as { nx:=fun _ A'=>Fg Q .non A',rt:=Fg Q } (aStart N us) A):FnOk P w K mg base CX0 (k + 1) f fd ps (spOf K asp):=by
  refine F.ok2 hs hb S (fun vs H Q E ⟨us,A,Q',r,g,h,_⟩=>?_) fun S cdv A outer s H vs Q E hr ⟨us,A',Q',r,g,h,k⟩=>?_
  . rw [<- r.length];exact (hsp us A Q' h).1
  . obtain ⟨t,ht,ha⟩:=hbody S cdv A outer s H E hr
    exact ⟨t,ht,ha _ _ _ _ _ _ (RSt.start N r) g (hsp us A' Q' h).2 ⟨fun ρ A σ H' k' g' s' ⟨A3,e,q'⟩=>k _ _ _ _ k' (g'.ext e) .non q',fun u A v H' k' g' r' ⟨A3,e,q'⟩=>k _ _ _ _ k' (g'.ext e) r' q',fun _ _ _ _ _ _ _ q=>q.elim,fun _ _ _ _ _ _ _ q=>q.elim⟩⟩
end
noncomputable def truU:U->AHp->(Bool->AHp->Prop)->Prop:=fun x A1 Q=>match x with
  | .ref p=>∃ us,A1 p=some (.lst us)/\Q (!us.isEmpty) A1
  | .tup us=>Q (!us.isEmpty) A1
  | .bl b=>Q b A1
  | .int i=>Q (i != 0) A1
  | .non=>Q false A1
  | _=>False
noncomputable def aTru (a:AE):AT:=fun ρ A Q=>a ρ A fun x A1=>truU x A1 Q
theorem RUs.empty {K:PySem.W.Frag} {H:Hp} {us:List U} {vs:List V} (r:RUs K H us vs):vs.isEmpty=us.isEmpty:=by cases r <;> rfl
theorem ab_tru {K:PySem.W.Frag} {t:TE} {a:AE} (ha:AbE K t a):AbT K (fun σ H Q=>t σ H fun x H'=>∃ k,TruV K x H' k/\Q k H') (aTru a):=fun ρ A σ H Q' Q hs g w k =>
  ha ρ A σ H _ _ hs g w fun x A1 v H1 k1 g1 r1 q1=>by
    cases r1 with
    | ref p =>
      obtain ⟨us,e,q1⟩:=q1
      obtain ⟨vs,h1,r1⟩:=g1.list e
      exact ⟨_,.inl ⟨vs,SqL.of h1,rfl⟩,k _ _ _ k1 g1 (by rw [r1.empty];exact q1)⟩
    | tup h r=>exact ⟨_,.inr (.inl ⟨_,h,rfl⟩),k _ _ _ k1 g1 (by rw [r.empty];exact q1)⟩
    | bl b=>exact ⟨b,rfl,k _ _ _ k1 g1 q1⟩
    | int i=>exact ⟨_,rfl,k _ _ _ k1 g1 q1⟩
    | non=>exact ⟨_,rfl,k _ _ _ k1 g1 q1⟩
    | _=>exact q1.elim
theorem q_tru {a:AE} {ρ:ASt} {A:AHp} {B:Bool->AHp->Prop}:(aTru a ρ A B)=(a ρ A fun x A1=>truU x A1 B):=rfl
theorem q_trul {A:AHp} {B:Bool->AHp->Prop} {p:Addr}:(truU (.ref p) A B)=(∃ us,A p=some (.lst us)/\B (!us.isEmpty) A):=rfl
theorem q_trut {A:AHp} {B:Bool->AHp->Prop} {us:List U}:(truU (.tup us) A B)=(B (!us.isEmpty) A):=rfl
theorem q_trub {A:AHp} {B:Bool->AHp->Prop} {k:Bool}:(truU (.bl k) A B)=(B k A):=rfl
section
variable {J:AIt} {g:AG} {b:AS} {D:AEnds} {ρ:ASt} {A:AHp}
theorem for_J (items:List U) (Pv:Nat->ASt->AHp->Prop) (h0:Pv 0 ρ A) (hJ:∀ k ρ A,k<=items.length->Pv k ρ A->J k A items[k]?)
    (hs:∀ k u ρ A,items[k]? = some u->Pv k ρ A->g u ρ A fun ρ2 A2=>b { D with nx:=Pv (k + 1),ct:=Pv (k + 1),bk:=D.nx } ρ2 A2) (hd:∀ ρ A,Pv items.length ρ A->D.nx ρ A):aLoop J g b D ρ A:=by
  refine ⟨fun k m ρ A=>m=items.length - k/\k<=items.length/\Pv k ρ A,⟨_,rfl,Nat.zero_le _,h0⟩,?_⟩
  rintro k m ρ A ⟨rfl,hk,p⟩
  have j:=hJ k ρ A hk p
  by_cases hlt:k < items.length
  . rw [List.getElem?_eq_getElem hlt] at j
    exact .inr ⟨_,j,Pv (k + 1),fun ρ' A' p'=>⟨items.length - (k + 1),by lia,rfl,hlt,p'⟩,hs k _ ρ A (List.getElem?_eq_getElem hlt) p⟩
  . have e:k=items.length:=by lia
    subst e
    rw [List.getElem?_eq_none (Nat.le_refl _)] at j
    exact .inl ⟨j,hd ρ A p⟩
theorem for_lst {a:Addr} (us:List U) (Pv:Nat->ASt->AHp->Prop) (h0:Pv 0 ρ A) (hl:∀ k ρ A,k<=us.length->Pv k ρ A->A a=some (.lst us))
    (hs:∀ k u ρ A,us[k]? = some u->Pv k ρ A->g u ρ A fun ρ2 A2=>b { D with nx:=Pv (k + 1),ct:=Pv (k + 1),bk:=D.nx } ρ2 A2) (hd:∀ ρ A,Pv us.length ρ A->D.nx ρ A):aLoop (jLst a) g b D ρ A :=
  for_J us Pv h0 (fun k ρ A hk p=>⟨us,hl k ρ A hk p,rfl⟩) hs hd
theorem for_enumF {us:List U} (Pv:Nat->ASt->AHp->Prop) (h0:Pv 0 ρ A)
    (hs:∀ (k:Nat) u ρ A,us[k]? = some u->Pv k ρ A->g (.tup [.int k,u]) ρ A fun ρ2 A2=>b { D with nx:=Pv (k + 1),ct:=Pv (k + 1),bk:=D.nx } ρ2 A2) (hd:∀ ρ A,Pv us.length ρ A->D.nx ρ A):aLoop (jFix (enU us)) g b D ρ A :=
  for_J (enU us) Pv h0 (fun k ρ A hk p=>rfl) (fun k u ρ A hu p=>by
    rw [enU_get] at hu
    obtain ⟨x,hx,rfl⟩:=Option.map_eq_some_iff.mp hu
    exact hs k x ρ A hx p) (by rw [enU_len];exact hd)
theorem for_rng {lo:Int} {n:Nat} (Pv:Nat->ASt->AHp->Prop) (h0:Pv 0 ρ A)
    (hs:∀ (k:Nat) ρ A,k < n->Pv k ρ A->g (.int (lo + k)) ρ A fun ρ2 A2=>b { D with nx:=Pv (k + 1),ct:=Pv (k + 1),bk:=D.nx } ρ2 A2) (hd:∀ ρ A,Pv n ρ A->D.nx ρ A):aLoop (jFix (rngU lo n)) g b D ρ A :=
  for_J (rngU lo n) Pv h0 (fun k ρ A hk p=>rfl) (fun k u ρ A hu p=>by
    rw [rngU_get] at hu
    by_cases h:k < n
    . rw [if_pos h] at hu;cases hu;exact hs k ρ A h p
    . rw [if_neg h] at hu;cases hu) (by rw [rngU_len];exact hd)
theorem for_revA {a:Addr} (us:List U) (Pv:Nat->ASt->AHp->Prop) (h0:Pv 0 ρ A) (hl:∀ k ρ A,k<=us.length->Pv k ρ A->A a=some (.lst us))
    (hs:∀ k u ρ A,us.reverse[k]? = some u->Pv k ρ A->g u ρ A fun ρ2 A2=>b { D with nx:=Pv (k + 1),ct:=Pv (k + 1),bk:=D.nx } ρ2 A2) (hd:∀ ρ A,Pv us.length ρ A->D.nx ρ A):aLoop (jRevA a us.length) g b D ρ A :=
  for_J us.reverse Pv h0 (fun k ρ A hk p=>by
    rw [List.length_reverse] at hk
    by_cases h:k < us.length
    . rw [List.getElem?_reverse h]
      exact .inr ⟨h,us,us[us.length - 1 - k]'(by lia),hl k ρ A hk p,List.getElem?_eq_getElem (by lia),List.getElem?_eq_getElem (by lia)⟩
    . have e:k=us.length:=by lia
      subst e
      exact .inl ⟨rfl,List.getElem?_eq_none (by simp)⟩) hs (by rw [List.length_reverse];exact hd)
noncomputable def whA (Pv:ASt->AHp->Prop) (μ:ASt->AHp->Nat) (b:AS) (D:AEnds) (k:Nat) (ρ:ASt) (A1:AHp):Prop:=∃ N:ASt->AHp->Prop,(∀ ρ' A',N ρ' A'->∃ m',m' < k/\(m'=μ ρ' A'/\Pv ρ' A'))/\b { D with nx:=N,ct:=N,bk:=D.nx } ρ A1
theorem wh_goA {Pv:ASt->AHp->Prop} {μ:ASt->AHp->Nat} {k:Nat} (h:b { D with nx:=fun ρ' A'=>Pv ρ' A'/\μ ρ' A' < k,ct:=fun ρ' A'=>Pv ρ' A'/\μ ρ' A' < k,bk:=D.nx } ρ A):whA Pv μ b D k ρ A :=
  ⟨_,fun ρ' A' ⟨p,l⟩=>⟨_,l,rfl,p⟩,h⟩
theorem while_A {c:AT} (Pv:ASt->AHp->Prop) (μ:ASt->AHp->Nat) (h0:Pv ρ A)
    (hs:∀ ρ A,Pv ρ A->c ρ A fun k A1=>if k=true then whA Pv μ b D (μ ρ A) ρ A1 else D.nx ρ A1):aWhile c b D ρ A:=by
  refine ⟨fun m ρ A=>m=μ ρ A/\Pv ρ A,⟨_,rfl,h0⟩,?_⟩
  rintro m ρ A ⟨rfl,p⟩
  exact hs ρ A p
end
theorem neA {A:AHp} {a b:Addr} {o:AO} (h:A a=some o) (h':A b=none):a≠b:=fun e=>by rw [e,h'] at h;cases h
section
variable {J:AIt} {g:AG} {tt:AT} {te:AE} {l:Addr} {Q:AVK} {τ:ASt} {A:AHp}
theorem cl_gen (items:List U) (p:Nat->Bool) (f:Nat->U) (T:ASt->Prop) (h0:T τ) (hl:A l=none) (hn:items.length<=100000) (hJ:∀ k A2,k<=items.length->Ext A A2->J k A2 items[k]?)
    (hs : ∀ k u τ A2,items[k]? = some u->T τ->Ext A A2->∀ (Cy:ASt->U->AHp->Prop) (Cn:ASt->AHp->Prop),(p k=true->∀ τ2,T τ2->Cy τ2 (f k) A2)->(p k=false->∀ τ2,T τ2->Cn τ2 A2) ->
      g u τ A2 fun τ2 A3=>tt τ2 A3 fun ok A4=>if ok=true then te τ2 A4 (Cy τ2) else Cn τ2 A4)
    (hd:Q (.ref l) (updA A l (.lst (((List.range items.length).filter p).map f)))):aCL J g tt te l Q τ (updA A l (.lst [])):=by
  refine ⟨fun i m τ A2=>m=items.length - i/\i<=items.length/\T τ/\A2=updA A l (.lst (((List.range i).filter p).map f)),⟨_,rfl,Nat.zero_le _,h0,rfl⟩,?_⟩
  rintro i m τ A2 ⟨rfl,hi,ht,rfl⟩
  have j:=hJ i _ hi (Ext.new (o:=.lst (((List.range i).filter p).map f)) hl)
  by_cases hlt:i < items.length
  . have hu:items[i]? = some items[i]:=List.getElem?_eq_getElem hlt
    rw [hu] at j
    refine .inr ⟨_,j,hs i _ τ _ hu ht (Ext.new hl) _ _ (fun hp τ2 ht2=>⟨_,updA_same,?_,_,?_,rfl,hlt,ht2,?_⟩) (fun hp τ2 ht2=>⟨_,?_,rfl,hlt,ht2,?_⟩)⟩
    . have:(((List.range i).filter p).map f).length<=i:=by rw [List.length_map];exact Nat.le_trans (List.length_filter_le ..) (by simp)
      have:(100000:Nat) < sizeLine:=by decide
      lia
    . lia
    . rw [updA_updA,List.range_succ,List.filter_append,List.map_append];simp [hp]
    . lia
    . rw [List.range_succ,List.filter_append,List.map_append];simp [hp]
  . have e:i=items.length:=by lia
    subst e
    rw [List.getElem?_eq_none (Nat.le_refl _)] at j
    exact .inl ⟨j,hd⟩
theorem cl_map {x0:Option U} {fr:ASt} (items ys:List U) (hlen:ys.length=items.length) (hl:A l=none) (hn:items.length<=100000) (hJ:∀ k A2,k<=items.length->Ext A A2->J k A2 items[k]?)
    (hs:∀ (k:Nat) u y A2,items[k]? = some u->ys[k]? = some y->Ext A A2->∀ Cy:U->AHp->Prop,Cy y A2->te (some u::fr) A2 Cy)
    (hd:Q (.ref l) (updA A l (.lst ys))):aCL J (bName 0) aTrue te l Q (x0::fr) (updA A l (.lst [])):=by
  refine cl_gen items (fun _=>true) (fun k=>(ys[k]?).getD .non) (fun τ=>∃ x,τ=x::fr) ⟨_,rfl⟩ hl hn hJ ?_ ?_
  . rintro k u τ A2 hu ⟨x,rfl⟩ he Cy Cn hy hno
    show if true=true then te (some u::fr) A2 (Cy (some u::fr)) else Cn (some u::fr) A2
    rw [if_pos rfl]
    have hk:k < ys.length:=by rw [hlen];exact (List.getElem?_eq_some_iff.mp hu).1
    have hyk:ys[k]? = some ys[k]:=List.getElem?_eq_getElem hk
    refine hs k u _ A2 hu hyk he _ ?_
    have:=hy rfl (some u::fr) ⟨_,rfl⟩
    rw [hyk] at this
    exact this
  . have e:((List.range items.length).filter fun _=>true).map (fun k=>(ys[k]?).getD .non)=ys:=by
      rw [List.filter_eq_self.mpr (fun _ _=>rfl),<- hlen]
      apply List.ext_getElem
      . simp
      . intro i h1 h2;simp [List.getElem?_eq_getElem h2]
    rw [e];exact hd
theorem cl_map2 {x0 x1:Option U} {fr:ASt} (items ys:List U) (hlen:ys.length=items.length) (hl:A l=none) (hn:items.length<=100000) (hJ:∀ k A2,k<=items.length->Ext A A2->J k A2 items[k]?)
    (hs:∀ (k:Nat) u y A2,items[k]? = some u->ys[k]? = some y->Ext A A2->∃ v w,u=.tup [v,w]/\∀ Cy:U->AHp->Prop,Cy y A2->te (some v::some w::fr) A2 Cy)
    (hd:Q (.ref l) (updA A l (.lst ys))):aCL J (bTup 2 (bCons (bName 0) (bCons (bName 1) bNil))) aTrue te l Q (x0::x1::fr) (updA A l (.lst [])):=by
  refine cl_gen items (fun _=>true) (fun k=>(ys[k]?).getD .non) (fun τ=>∃ x y,τ=x::y::fr) ⟨_,_,rfl⟩ hl hn hJ ?_ ?_
  . rintro k u τ A2 hu ⟨x,y,rfl⟩ he Cy Cn hy hno
    have hk:k < ys.length:=by rw [hlen];exact (List.getElem?_eq_some_iff.mp hu).1
    have hyk:ys[k]? = some ys[k]:=List.getElem?_eq_getElem hk
    obtain ⟨v,w,rfl,h⟩:=hs k u _ A2 hu hyk he
    refine ⟨[v,w],rfl,rfl,v,[w],rfl,w,[],rfl,rfl,?_⟩
    show if true=true then te (some v::some w::fr) A2 (Cy (some v::some w::fr)) else Cn (some v::some w::fr) A2
    rw [if_pos rfl]
    refine h _ ?_
    have:=hy rfl (some v::some w::fr) ⟨_,_,rfl⟩
    rw [hyk] at this
    exact this
  . have e:((List.range items.length).filter fun _=>true).map (fun k=>(ys[k]?).getD .non)=ys:=by
      rw [List.filter_eq_self.mpr (fun _ _=>rfl),<- hlen]
      apply List.ext_getElem
      . simp
      . intro i h1 h2;simp [List.getElem?_eq_getElem h2]
    rw [e];exact hd
end
end L2
namespace L2
open PySem PySem.Spec PyProof.Rows
mutual
noncomputable def Wr.toU:Wr->U
  | .nothing=>.tup [.str "nothing"]
  | .bead c=>.tup [.str "bead",.str c]
  | .side b f=>.tup [.str (sname b),f.toU]
  | .pair f g=>.tup [.str "pair",f.toU,g.toU]
  | .many k ps=>.tup [.str (mname k),.tup (toUL ps)]
noncomputable def toUL:List Wr->List U
  | []=>[]
  | w::ws=>w.toU::toUL ws
end
theorem toUL_map:∀ ws:List Wr,toUL ws=ws.map Wr.toU
  | []=>rfl
  | w::ws=>by rw [toUL,List.map_cons,toUL_map ws]
theorem Wr.toU_many (k:Nat) (ps:List Wr):(Wr.many k ps).toU=.tup [.str (mname k),.tup (ps.map Wr.toU)]:=by rw [Wr.toU,toUL_map]
noncomputable def Wr.few (w:Wr):Prop:=(∀ c,w≠.bead c)/\∀ k ps,w≠.many k ps
theorem Wr.toU_few {w:Wr} (h:w.few):w.toU=.tup (.str w.name::w.parts.map Wr.toU):=by
  cases w with
  | nothing=>rfl
  | bead c=>exact absurd rfl (h.1 c)
  | side b f=>rfl
  | pair f g=>rfl
  | many k ps=>exact absurd rfl (h.2 k ps)
theorem Wr.kinds (w:Wr):(∃ c,w=.bead c)\/(∃ k ps,w=.many k ps)\/w.few:=by
  cases w with
  | bead c=>exact .inl ⟨c,rfl⟩
  | many k ps=>exact .inr (.inl ⟨k,ps,rfl⟩)
  | _=>exact .inr (.inr ⟨fun c=>by simp,fun k ps=>by simp⟩)
theorem in_manyU (k:Nat):inU (.str (mname k)) [.str "row",.str "bag",.str "choice",.str "ring"]=true:=in_many (.many k [])
theorem nin_manyU {w:Wr} (h:∀ k ps,w≠.many k ps):inU (.str w.name) [.str "row",.str "bag",.str "choice",.str "ring"]=false:=by
  have:=in_many w
  cases w with
  | many k ps=>exact absurd rfl (h k ps)
  | _=>exact this
theorem nb_name {w:Wr} (h:∀ c,w≠.bead c):decide (w.name=Str.ofString "bead")=false:=by
  have:=w.nb h
  simpa using this
theorem nbm (k:Nat):decide (mname k=Str.ofString "bead")=false:=by
  have:=nb_many k
  simpa using this
theorem tup1 {x:U}:[x].length<=sizeLine:=by show 1<=sizeLine;decide
theorem tup2 {x y:U}:[x,y].length<=sizeLine:=by show 2<=sizeLine;decide
theorem tup3 {x y z:U}:[x,y,z].length<=sizeLine:=by show 3<=sizeLine;decide
theorem line1000 {n:Nat} (h:n<=100000):n<=sizeLine:=Nat.le_trans h (by decide)
theorem line1000' {n:Nat} (h:n<=100000):n < sizeLine:=Nat.lt_of_le_of_lt h (by decide)
theorem fg {Q:AVK} {u:U} {A:AHp} (h:Q u A):Fg Q u A:=⟨A,Ext.refl A,h⟩
theorem fgx {Q:AVK} {u:U} {A A':AHp} (e:Ext A A') (h:Q u A):Fg Q u A':=⟨A,e,h⟩
theorem iteB {b:Bool} {X Y:Prop} (h1:b=true->X) (h2:b=false->Y):if b=true then X else Y:=by
  cases b
  . exact iteN (by decide) (h2 rfl)
  . exact iteP rfl (h1 rfl)
theorem iteTt {X Y:Prop} {b:Bool} (hb:b=true) (h:X):if b=true then X else Y:=iteP hb h
theorem iteFf {X Y:Prop} {b:Bool} (hb:b=false) (h:Y):if b=true then X else Y:=iteN (by rw [hb];decide) h
theorem cutU_from {us ws:List U}:cutU (us++ws) (some (us.length:Int)) none=ws:=by
  unfold cutU
  rw [HT.sIx_nat,HT.sIx_none,List.length_append,Nat.min_eq_left (by lia),List.drop_left,Nat.add_sub_cancel_left,List.take_length]
noncomputable def aIdxC (ss:List Str) (l:AA):AE:=fun ρ A Q=>l ρ A fun us A1=>∃ (z:Str) (j:Nat),us=[.str z]/\ss[j]? = some z/\(∀ m,m < j->ss[m]?≠some z)/\Q (.int j) A1
theorem ab_idxC {K:PySem.W.Frag} {a:Addr} {tl:TA} {l:AA} (ss:List Str) (ty:∀ H,tyV K "tuple" (.ref a) H) (hq:∀ H,SqT K H a (ss.map V.str)) (hl:AbA K tl l):AbE K (tBM K "tuple" (rIdxS fun x ss H=>∃ a,x=.ref a/\SqT K H a (ss.map V.str)) (tC (.ref a)) tl) (aIdxC ss l):=fun ρ A σ H Q' Q hs g w k =>
  ⟨ty H,hl ρ A σ H _ _ hs g w fun us A1 vs H1 k1 g1 r1 hq0=>by
    obtain ⟨z,j,e,e1,e2,h⟩:=hq0
    subst e
    obtain ⟨v,rfl,rv⟩:=r1.inv1
    cases rv
    exact ⟨ss,z,j,⟨a,rfl,hq H1⟩,rfl,e1,e2,k _ _ _ _ k1 g1 (.int _) h⟩⟩
theorem q_idxC {ss:List Str} {l:AA} {ρ:ASt} {A:AHp} {Q:AVK}:(aIdxC ss l ρ A Q)=(l ρ A fun us A1=>∃ (z:Str) (j:Nat),us=[.str z]/\ss[j]? = some z/\(∀ m,m < j->ss[m]?≠some z)/\Q (.int j) A1):=rfl
theorem Ext.put {A A2:AHp} {a:Addr} {o:AO} (e:Ext A A2):Ext (updA A a o) (updA A2 a o):=fun b u h=>by
  by_cases hb:b=a
  . subst hb;rw [updA_same] at h ⊢;exact h
  . rw [updA_ne hb] at h ⊢;exact e b u h
theorem Ext.none {A A2:AHp} {l:Addr} (e:Ext A A2) (h:A2 l=Option.none):A l=Option.none:=by
  cases q:A l with
  | none=>rfl
  | some v=>rw [e l v q] at h;cases h
theorem Ext.in {A A2:AHp} {l:Addr} {o:AO} (e:Ext A A2) (h:A l=Option.none):Ext A (updA A2 l o):=fun b u q=>by
  rw [updA_ne (neA q h)];exact e b u q
theorem updA_swap {A:AHp} {a l:Addr} {x y:AO} (h:a≠l):updA (updA A a x) l y=updA (updA A l y) a x:=by
  funext b
  unfold updA
  by_cases h1:b=l
  . rw [if_pos h1,if_neg (fun e=>h (e.symm.trans h1)),if_pos h1]
  . rw [if_neg h1]
    by_cases h2:b=a
    . rw [if_pos h2,if_pos h2]
    . rw [if_neg h2,if_neg h2,if_neg h1]
theorem updA_self {A:AHp} {a:Addr} {o:AO} (h:A a=some o):updA A a o=A:=by
  funext b
  by_cases hb:b=a
  . subst hb;rw [updA_same,h]
  . rw [updA_ne hb]
theorem side_atU {j:Int} (h0:0<=j) (h1:j < 2):∃ b:Bool,atI [U.str "left",U.str "right"] j=some (.str (sname b)):=by
  have h:j=0\/j=1:=by lia
  rcases h with h | h <;> rw [h]
  . exact ⟨false,atI_nat (j:=0) rfl⟩
  . exact ⟨true,atI_nat (j:=1) rfl⟩
theorem atI_intsU {ns:List Int} {i:Int} (h0:0<=i) (h:i < ns.length):∃ z,atI (ns.map U.int) i=some (.int z)/\ns[i.toNat]? = some z:=by
  obtain ⟨v,h1,h2⟩:=atI_lt (xs:=ns.map U.int) (i:=i) h0 (by rw [List.length_map];exact h)
  rw [List.getElem?_map] at h2
  obtain ⟨z,hz,rfl⟩:=Option.map_eq_some_iff.mp h2
  exact ⟨z,h1,hz⟩
theorem cl_popsA {l a:Addr} {Q:AVK} {A:AHp} {x0:Option U} {lo:Int} {xs ys:List U} (ha:A a=some (.lst (xs++ys))) (hl:A l=Option.none) (hn:ys.length<=100000)
    (hd:Q (.ref l) (updA (updA A a (.lst xs)) l (.lst ys.reverse))) :
    aCL (jFix (rngU lo ys.length)) (bName 0) aTrue (aBM0 isLst mPop (aVar 1)) l Q [x0,some (.ref a)] (updA A l (.lst [])):=by
  have hne:a≠l:=neA ha hl
  refine ⟨fun i m τ A2=>m=ys.length - i/\i<=ys.length/\(∃ x,τ=[x,some (.ref a)])/\A2=updA (updA A a (.lst (xs++ys.take (ys.length - i)))) l (.lst (ys.reverse.take i)),⟨_,rfl,Nat.zero_le _,⟨_,rfl⟩,?_⟩,?_⟩
  . rw [Nat.sub_zero,List.take_length,updA_self ha];rfl
  . rintro i m τ A2 ⟨rfl,hi,⟨x,rfl⟩,rfl⟩
    by_cases hlt:i < ys.length
    . refine .inr ⟨.int (lo + i),by show _=_;rw [rngU_get,if_pos hlt],?_⟩
      have e1:ys.take (ys.length - i)=ys.take (ys.length - (i + 1))++[ys[ys.length - (i + 1)]'(by lia)]:=by
        have:ys.length - i=(ys.length - (i + 1)) + 1:=by lia
        rw [this,List.take_add_one,List.getElem?_eq_getElem (by lia)];rfl
      have e2:ys.reverse.take (i + 1)=ys.reverse.take i++[ys[ys.length - (i + 1)]'(by lia)]:=by
        rw [List.take_add_one,List.getElem?_reverse hlt,show ys.length - 1 - i=ys.length - (i + 1) from by lia,List.getElem?_eq_getElem (by lia)];rfl
      rw [q_nm0,q_true,if_pos rfl,q_bm0,q_var1]
      refine ⟨⟨_,by rw [updA_ne hne,updA_same]⟩,xs++ys.take (ys.length - (i + 1)),ys[ys.length - (i + 1)]'(by lia),by rw [updA_ne hne,updA_same,e1,List.append_assoc],_,by rw [updA_ne (Ne.symm hne),updA_same],?_,ys.length - (i + 1),by lia,rfl,hlt,⟨_,rfl⟩,?_⟩
      . refine line1000' ?_
        rw [List.length_take,List.length_reverse];lia
      . rw [e2,updA_swap (A:=updA A a _) (a:=l) (l:=a) (Ne.symm hne),updA_updA,updA_updA]
    . have e:i=ys.length:=by lia
      subst e
      refine .inl ⟨by show _=_;rw [rngU_get,if_neg (by lia)],?_⟩
      rw [Nat.sub_self,List.take_zero,List.append_nil,List.take_of_length_le (by rw [List.length_reverse];exact Nat.le_refl _)]
      exact hd
theorem map_get {α β:Type} {f:α->β} {xs:List α} {k:Nat} {u:β} (h:(xs.map f)[k]? = some u):∃ x,xs[k]? = some x/\u=f x:=by
  rw [List.getElem?_map] at h
  obtain ⟨x,hx,rfl⟩:=Option.map_eq_some_iff.mp h
  exact ⟨x,hx,rfl⟩
theorem cl_mapW {α:Type} {J:AIt} {te:AE} {l:Addr} {Q:AVK} {A:AHp} {x0:Option U} {fr:ASt} (xs:List α) (f g:α->U) (hl:A l=Option.none) (hn:xs.length<=100000) (hJ:∀ k A2,k<=xs.length->Ext A A2->J k A2 (xs.map f)[k]?)
    (hs:∀ (x:α) A2,x∈xs->Ext A A2->∀ Cy:U->AHp->Prop,Cy (g x) A2->te (some (f x)::fr) A2 Cy)
    (hd:Q (.ref l) (updA A l (.lst (xs.map g)))):aCL J (bName 0) aTrue te l Q (x0::fr) (updA A l (.lst [])):=by
  refine cl_map (xs.map f) (xs.map g) (by simp) hl (by simpa using hn) (fun k A2 hk he=>hJ k A2 (by simpa using hk) he) (fun k u y A2 hu hy he Cy hc=>?_) hd
  obtain ⟨x,hx,rfl⟩:=map_get hu
  obtain ⟨x',hx',rfl⟩:=map_get hy
  rw [hx] at hx';cases hx'
  exact hs x A2 (List.mem_of_getElem? hx) he Cy hc
theorem none_yet {P:Program} {w:World} {K:PySem.W.Frag} {mg:Str->Option Value} {base:Heap} {x qual:Str} {st:Stmt} {f:Addr} {fd:FuncData} {N ps:List Str} {k:Nat} {asp:ASp} (F:Fun K x qual st f fd) (S:FnScope N ps (defScope st)) (h:∀ us A Q,¬ asp us A Q):FnOk P w K mg base CX0 k f fd ps (spOf K asp) :=
  ⟨fun vs H Q E ⟨us,A,Q',_,_,q,_⟩=>(h us A Q' q).elim,fun A outer s H args us vs Q E _ _ _ _ ⟨ws,A',Q',_,_,q,_⟩=>(h ws A' Q' q).elim⟩
end L2
namespace L2
open PySem PySem.Spec PyProof.Rows
end L2
namespace L2
open PySem PySem.Spec PyProof.Rows
mutual
noncomputable def Wr.keyU:Wr->U
  | .nothing=>.tup [.int 0,.int 0]
  | .bead c=>.tup [.int 1,.int 1,.str c]
  | .side b f=>.tup [.int f.size,.int (Wr.side b f).kidx,f.keyU]
  | .pair f g=>.tup [.int (Wr.pair f g).size,.int 4,f.keyU,g.keyU]
  | .many k ps=>.tup (.int (sizeL ps)::.int (Wr.many k ps).kidx::keyUL ps)
noncomputable def keyUL:List Wr->List U
  | []=>[]
  | w::ws=>w.keyU::keyUL ws
end
theorem keyUL_map:∀ ws:List Wr,keyUL ws=ws.map Wr.keyU
  | []=>rfl
  | w::ws=>by rw [keyUL,List.map_cons,keyUL_map ws]
theorem Wr.keyU_parts (w:Wr) (h:∀ c,w≠.bead c):w.keyU=.tup (.int w.size::.int w.kidx::w.parts.map Wr.keyU):=by
  cases w with
  | bead c=>exact absurd rfl (h c)
  | nothing=>rfl
  | side b f=>rfl
  | pair f g=>rfl
  | many k ps=>simp only [Wr.keyU,Wr.parts,keyUL_map];rfl
theorem Wr.keyU_head (w:Wr):∃ rest,w.keyU=.tup (.int w.size::rest):=by
  rcases bead_or w with ⟨c,rfl⟩ | h
  . exact ⟨_,rfl⟩
  . exact ⟨_,w.keyU_parts h⟩
theorem sum_sizes (ws:List Wr):(ws.map fun w=>((w.size:Nat):Int)).sum=sizeL ws:=by
  induction ws with
  | nil=>rfl
  | cons w ws ih=>rw [List.map_cons,List.sum_cons,ih,sizeL];push_cast;rfl
mutual
noncomputable def U.pl:U->Bool
  | .int _=>true
  | .str _=>true
  | .tup us=>decide (us.length<=1000) && plL us
  | _=>false
noncomputable def plL:List U->Bool
  | []=>true
  | u::us=>u.pl && plL us
end
mutual
noncomputable def U.dp:U->Nat
  | .tup us=>1 + dpL us
  | _=>0
noncomputable def dpL:List U->Nat
  | []=>0
  | u::us=>max u.dp (dpL us)
end
mutual
theorem Wr.key_dp:∀ w:Wr,w.keyU.dp<=w.dep
  | .nothing=>by simp [Wr.keyU,U.dp,dpL,Wr.dep]
  | .bead c=>by simp [Wr.keyU,U.dp,dpL,Wr.dep]
  | .side b f=>by have:=f.key_dp;simp [Wr.keyU,U.dp,dpL,Wr.dep];lia
  | .pair f g=>by have:=f.key_dp;have:=g.key_dp;simp [Wr.keyU,U.dp,dpL,Wr.dep];lia
  | .many k ps=>by have:=keyL_dp ps;simp [Wr.keyU,U.dp,dpL,Wr.dep];lia
theorem keyL_dp:∀ ws:List Wr,dpL (keyUL ws)<=depL ws
  | []=>Nat.le_refl _
  | w::ws=>by have:=w.key_dp;have:=keyL_dp ws;simp only [keyUL,dpL,depL];lia
end
section
variable {A:AHp}
mutual
theorem Wr.duW:∀ w:Wr,DU A w.toU w.toD
  | .nothing=>.tup (.cons (.str _) .nil)
  | .bead c=>.tup (.cons (.str _) (.cons (.str _) .nil))
  | .side b f=>.tup (.cons (.str _) (.cons f.duW .nil))
  | .pair f g=>.tup (.cons (.str _) (.cons f.duW (.cons g.duW .nil)))
  | .many k ps=>.tup (.cons (.str _) (.cons (.tup (duWL ps)) .nil))
theorem duWL:∀ ws:List Wr,DUs A (toUL ws) (toDL ws)
  | []=>.nil
  | w::ws=>.cons w.duW (duWL ws)
end
mutual
theorem Wr.duK:∀ w:Wr,DU A w.keyU w.keyD
  | .nothing=>.tup (.cons (.int _) (.cons (.int _) .nil))
  | .bead c=>.tup (.cons (.int _) (.cons (.int _) (.cons (.str _) .nil)))
  | .side b f=>.tup (.cons (.int _) (.cons (.int _) (.cons f.duK .nil)))
  | .pair f g=>.tup (.cons (.int _) (.cons (.int _) (.cons f.duK (.cons g.duK .nil))))
  | .many k ps=>.tup (.cons (.int _) (.cons (.int _) (duKL ps)))
theorem duKL:∀ ws:List Wr,DUs A (keyUL ws) (keyDL ws)
  | []=>.nil
  | w::ws=>.cons w.duK (duKL ws)
end
end
mutual
theorem Wr.canK:∀ w:Wr,w.ok=true->w.keyD.canLay0=true
  | .nothing,_=>by simp only [Wr.keyD,PyData.canLay0,PyData.canLayAll0];decide
  | .bead c,h=>by simp only [Wr.keyD,PyData.canLay0,PyData.canLayAll0,Bool.and_true,Bool.true_and];simpa [Wr.ok] using h
  | .side b f,h=>by simp only [Wr.ok] at h;simp only [Wr.keyD,PyData.canLay0,PyData.canLayAll0,Bool.and_true,Bool.true_and,f.canK h]
  | .pair f g,h=>by
    simp only [Wr.ok,Bool.and_eq_true] at h
    simp only [Wr.keyD,PyData.canLay0,PyData.canLayAll0,Bool.and_true,Bool.true_and,f.canK h.1,g.canK h.2]
  | .many k ps,h=>by simp only [Wr.ok] at h;simp only [Wr.keyD,PyData.canLay0,PyData.canLayAll0,Bool.and_true,Bool.true_and,canKL ps h]
theorem canKL:∀ ws:List Wr,okL ws=true->PyData.canLayAll0 (keyDL ws)=true
  | [],_=>by simp only [keyDL,PyData.canLayAll0]
  | w::ws,h=>by simp only [okL,Bool.and_eq_true] at h;simp only [keyDL,PyData.canLayAll0,w.canK h.1,canKL ws h.2,Bool.and_true]
end
mutual
theorem Wr.deepK:∀ w:Wr,w.keyD.depth<=w.dep + 1
  | .nothing=>by simp [Wr.keyD,PyData.depth,PyData.depthAll,Wr.dep]
  | .bead c=>by simp [Wr.keyD,PyData.depth,PyData.depthAll,Wr.dep]
  | .side b f=>by have:=f.deepK;simp only [Wr.keyD,PyData.depth,PyData.depthAll,Wr.dep];lia
  | .pair f g=>by have:=f.deepK;have:=g.deepK;simp only [Wr.keyD,PyData.depth,PyData.depthAll,Wr.dep];lia
  | .many k ps=>by have:=deepKL ps;simp only [Wr.keyD,PyData.depth,PyData.depthAll,Wr.dep];lia
theorem deepKL:∀ ws:List Wr,PyData.depthAll (keyDL ws)<=depL ws + 1
  | []=>by simp [keyDL,PyData.depthAll]
  | w::ws=>by have:=w.deepK;have:=deepKL ws;simp only [keyDL,PyData.depthAll,depL];lia
end
mutual
noncomputable def Wr.like:Wr->Wr->Bool
  | .nothing,.nothing=>true
  | .bead c,.bead d=>c == d
  | .side b f,.side b' f'=>b == b' && f.like f'
  | .pair f g,.pair f' g'=>f.like f' && g.like g'
  | .many k ps,.many k' ps'=>(mname k == mname k') && likeL ps ps'
  | _,_=>false
noncomputable def likeL:List Wr->List Wr->Bool
  | [],[]=>true
  | w::ws,v::vs=>w.like v && likeL ws vs
  | _,_=>false
end
theorem mname_cases (k:Nat):((k=0/\mname k="row")\/(k=1/\mname k="bag")\/(k=2/\mname k="choice")\/(3<=k/\mname k="ring")):=by
  match k with
  | 0=>exact .inl ⟨rfl,rfl⟩
  | 1=>exact .inr (.inl ⟨rfl,rfl⟩)
  | 2=>exact .inr (.inr (.inl ⟨rfl,rfl⟩))
  | k + 3=>exact .inr (.inr (.inr ⟨by lia,rfl⟩))
noncomputable def mcode:Nat->Nat
  | 0=>5
  | 1=>6
  | 2=>7
  | _=>8
theorem mname_code (k k':Nat):(mname k == mname k')=(mcode k == mcode k'):=by
  match k,k' with
  | 0,0=>decide +kernel
  | 0,1=>decide +kernel
  | 0,2=>decide +kernel
  | 0,k' + 3=>show ((Str.ofString "row") == (Str.ofString "ring"))=(5 == 8);decide +kernel
  | 1,0=>decide +kernel
  | 1,1=>decide +kernel
  | 1,2=>decide +kernel
  | 1,k' + 3=>show ((Str.ofString "bag") == (Str.ofString "ring"))=(6 == 8);decide +kernel
  | 2,0=>decide +kernel
  | 2,1=>decide +kernel
  | 2,2=>decide +kernel
  | 2,k' + 3=>show ((Str.ofString "choice") == (Str.ofString "ring"))=(7 == 8);decide +kernel
  | k + 3,0=>show ((Str.ofString "ring") == (Str.ofString "row"))=(8 == 5);decide +kernel
  | k + 3,1=>show ((Str.ofString "ring") == (Str.ofString "bag"))=(8 == 6);decide +kernel
  | k + 3,2=>show ((Str.ofString "ring") == (Str.ofString "choice"))=(8 == 7);decide +kernel
  | k + 3,k' + 3=>show ((Str.ofString "ring") == (Str.ofString "ring"))=(8 == 8);decide +kernel
theorem kidx_many (k:Nat) (ps:List Wr):(Wr.many k ps).kidx=mcode k:=by
  match k with
  | 0=>rfl
  | 1=>rfl
  | 2=>rfl
  | k + 3=>rfl
theorem name_eq (w v:Wr):(w.name == v.name)=(w.kidx == v.kidx):=by
  have e1:=w.kidx_at
  have e2:=v.kidx_at
  by_cases h:w.kidx=v.kidx
  . have:=e1.1
    rw [h,e2.1] at this
    rw [Option.some.inj this,h]
    simp
  . have:w.name≠v.name:=fun e=>by
      rcases Nat.lt_or_gt_of_ne h with q | q
      . exact e2.2 _ q (by rw [e1.1,e])
      . exact e1.2 _ q (by rw [e2.1,e])
    rw [beq_eq_false_iff_ne.mpr this,beq_eq_false_iff_ne.mpr h]
theorem str_beq (x y:Str):PyData.eqv (.str x) (.str y)=(x == y):=by simp only [PyData.eqv]
theorem sname_eq (b b':Bool):(sname b == sname b')=(b == b'):=by cases b <;> cases b' <;> decide +kernel
theorem eqv_tup (xs ys:List PyData):PyData.eqv (.tuple xs) (.tuple ys)=PyData.eqvAll xs ys:=by simp only [PyData.eqv]
theorem eqvA_cons (x y:PyData) (xs ys:List PyData):PyData.eqvAll (x::xs) (y::ys)=(PyData.eqv x y && PyData.eqvAll xs ys):=by simp only [PyData.eqvAll]
theorem eqvA_nil:PyData.eqvAll [] []=true:=by simp only [PyData.eqvAll]
theorem eqvA_l (x:PyData) (xs:List PyData):PyData.eqvAll (x::xs) []=false:=by simp only [PyData.eqvAll]
theorem eqvA_r (x:PyData) (xs:List PyData):PyData.eqvAll [] (x::xs)=false:=by simp only [PyData.eqvAll]
theorem str_toD (c:Str) (w:Wr):PyData.eqv (.str c) w.toD=false:=by cases w <;> simp [Wr.toD,PyData.eqv]
theorem toD_str (c:Str) (w:Wr):PyData.eqv w.toD (.str c)=false:=by cases w <;> simp [Wr.toD,PyData.eqv]
theorem str_tup (c:Str) (xs:List PyData):PyData.eqv (.str c) (.tuple xs)=false:=by simp [PyData.eqv]
theorem tup_str (c:Str) (xs:List PyData):PyData.eqv (.tuple xs) (.str c)=false:=by simp [PyData.eqv]
theorem sm_ne (b:Bool) (k:Nat):(sname b == mname k)=false:=by
  have:=name_eq (.side b .nothing) (.many k [])
  rw [kidx_many] at this
  rw [show (sname b == mname k)=_ from this]
  match k with
  | 0=>cases b <;> rfl
  | 1=>cases b <;> rfl
  | 2=>cases b <;> rfl
  | k + 3=>cases b <;> rfl
theorem ms_ne (b:Bool) (k:Nat):(mname k == sname b)=false:=by
  have:=name_eq (.many k []) (.side b .nothing)
  rw [kidx_many] at this
  rw [show (mname k == sname b)=_ from this]
  match k with
  | 0=>cases b <;> rfl
  | 1=>cases b <;> rfl
  | 2=>cases b <;> rfl
  | k + 3=>cases b <;> rfl
mutual
theorem Wr.eqvD:∀ w v:Wr,PyData.eqv w.toD v.toD=w.like v
  | .nothing,.nothing=>by simp only [Wr.toD,eqv_tup,eqvA_cons,eqvA_nil,eqvA_l,eqvA_r,Wr.like,str_beq,str_toD,toD_str,str_tup,tup_str,Bool.and_false,Bool.false_and,Bool.and_true,beq_self_eq_true,Bool.true_and]
  | .nothing,.bead c'=>by simp only [Wr.toD,eqv_tup,eqvA_cons,eqvA_nil,eqvA_l,eqvA_r,Wr.like,str_beq,str_toD,toD_str,str_tup,tup_str,Bool.and_false,Bool.false_and,Bool.and_true,beq_self_eq_true,Bool.true_and]
  | .nothing,.side b' f'=>by simp only [Wr.toD,eqv_tup,eqvA_cons,eqvA_nil,eqvA_l,eqvA_r,Wr.like,str_beq,str_toD,toD_str,str_tup,tup_str,Bool.and_false,Bool.false_and,Bool.and_true,beq_self_eq_true,Bool.true_and]
  | .nothing,.pair f' g'=>by simp only [Wr.toD,eqv_tup,eqvA_cons,eqvA_nil,eqvA_l,eqvA_r,Wr.like,str_beq,str_toD,toD_str,str_tup,tup_str,Bool.and_false,Bool.false_and,Bool.and_true,beq_self_eq_true,Bool.true_and]
  | .nothing,.many k' ps'=>by simp only [Wr.toD,eqv_tup,eqvA_cons,eqvA_nil,eqvA_l,eqvA_r,Wr.like,str_beq,str_toD,toD_str,str_tup,tup_str,Bool.and_false,Bool.false_and,Bool.and_true,beq_self_eq_true,Bool.true_and]
  | .bead c,.nothing=>by simp only [Wr.toD,eqv_tup,eqvA_cons,eqvA_nil,eqvA_l,eqvA_r,Wr.like,str_beq,str_toD,toD_str,str_tup,tup_str,Bool.and_false,Bool.false_and,Bool.and_true,beq_self_eq_true,Bool.true_and]
  | .bead c,.bead c'=>by simp only [Wr.toD,eqv_tup,eqvA_cons,eqvA_nil,eqvA_l,eqvA_r,Wr.like,str_beq,str_toD,toD_str,str_tup,tup_str,Bool.and_false,Bool.false_and,Bool.and_true,beq_self_eq_true,Bool.true_and]
  | .bead c,.side b' f'=>by simp only [Wr.toD,eqv_tup,eqvA_cons,eqvA_nil,eqvA_l,eqvA_r,Wr.like,str_beq,str_toD,toD_str,str_tup,tup_str,Bool.and_false,Bool.false_and,Bool.and_true,beq_self_eq_true,Bool.true_and]
  | .bead c,.pair f' g'=>by simp only [Wr.toD,eqv_tup,eqvA_cons,eqvA_nil,eqvA_l,eqvA_r,Wr.like,str_beq,str_toD,toD_str,str_tup,tup_str,Bool.and_false,Bool.false_and,Bool.and_true,beq_self_eq_true,Bool.true_and]
  | .bead c,.many k' ps'=>by simp only [Wr.toD,eqv_tup,eqvA_cons,eqvA_nil,eqvA_l,eqvA_r,Wr.like,str_beq,str_toD,toD_str,str_tup,tup_str,Bool.and_false,Bool.false_and,Bool.and_true,beq_self_eq_true,Bool.true_and]
  | .side b f,.nothing=>by simp only [Wr.toD,eqv_tup,eqvA_cons,eqvA_nil,eqvA_l,eqvA_r,Wr.like,str_beq,str_toD,toD_str,str_tup,tup_str,Bool.and_false,Bool.false_and,Bool.and_true,beq_self_eq_true,Bool.true_and]
  | .side b f,.bead c'=>by simp only [Wr.toD,eqv_tup,eqvA_cons,eqvA_nil,eqvA_l,eqvA_r,Wr.like,str_beq,str_toD,toD_str,str_tup,tup_str,Bool.and_false,Bool.false_and,Bool.and_true,beq_self_eq_true,Bool.true_and]
  | .side b f,.side b' f'=>by simp only [Wr.toD,eqv_tup,eqvA_cons,eqvA_nil,eqvA_l,eqvA_r,Wr.like,str_beq,str_toD,toD_str,str_tup,tup_str,Bool.and_false,Bool.false_and,Bool.and_true,beq_self_eq_true,Bool.true_and,sname_eq,f.eqvD f']
  | .side b f,.pair f' g'=>by simp only [Wr.toD,eqv_tup,eqvA_cons,eqvA_nil,eqvA_l,eqvA_r,Wr.like,str_beq,str_toD,toD_str,str_tup,tup_str,Bool.and_false,Bool.false_and,Bool.and_true,beq_self_eq_true,Bool.true_and]
  | .side b f,.many k' ps'=>by simp only [Wr.toD,eqv_tup,eqvA_cons,eqvA_nil,eqvA_l,eqvA_r,Wr.like,str_beq,str_toD,toD_str,str_tup,tup_str,Bool.and_false,Bool.false_and,Bool.and_true,beq_self_eq_true,Bool.true_and,sm_ne]
  | .pair f g,.nothing=>by simp only [Wr.toD,eqv_tup,eqvA_cons,eqvA_nil,eqvA_l,eqvA_r,Wr.like,str_beq,str_toD,toD_str,str_tup,tup_str,Bool.and_false,Bool.false_and,Bool.and_true,beq_self_eq_true,Bool.true_and]
  | .pair f g,.bead c'=>by simp only [Wr.toD,eqv_tup,eqvA_cons,eqvA_nil,eqvA_l,eqvA_r,Wr.like,str_beq,str_toD,toD_str,str_tup,tup_str,Bool.and_false,Bool.false_and,Bool.and_true,beq_self_eq_true,Bool.true_and]
  | .pair f g,.side b' f'=>by simp only [Wr.toD,eqv_tup,eqvA_cons,eqvA_nil,eqvA_l,eqvA_r,Wr.like,str_beq,str_toD,toD_str,str_tup,tup_str,Bool.and_false,Bool.false_and,Bool.and_true,beq_self_eq_true,Bool.true_and]
  | .pair f g,.pair f' g'=>by simp only [Wr.toD,eqv_tup,eqvA_cons,eqvA_nil,eqvA_l,eqvA_r,Wr.like,str_beq,str_toD,toD_str,str_tup,tup_str,Bool.and_false,Bool.false_and,Bool.and_true,beq_self_eq_true,Bool.true_and,f.eqvD f',g.eqvD g']
  | .pair f g,.many k' ps'=>by simp only [Wr.toD,eqv_tup,eqvA_cons,eqvA_nil,eqvA_l,eqvA_r,Wr.like,str_beq,str_toD,toD_str,str_tup,tup_str,Bool.and_false,Bool.false_and,Bool.and_true,beq_self_eq_true,Bool.true_and]
  | .many k ps,.nothing=>by simp only [Wr.toD,eqv_tup,eqvA_cons,eqvA_nil,eqvA_l,eqvA_r,Wr.like,str_beq,str_toD,toD_str,str_tup,tup_str,Bool.and_false,Bool.false_and,Bool.and_true,beq_self_eq_true,Bool.true_and]
  | .many k ps,.bead c'=>by simp only [Wr.toD,eqv_tup,eqvA_cons,eqvA_nil,eqvA_l,eqvA_r,Wr.like,str_beq,str_toD,toD_str,str_tup,tup_str,Bool.and_false,Bool.false_and,Bool.and_true,beq_self_eq_true,Bool.true_and]
  | .many k ps,.side b' f'=>by simp only [Wr.toD,eqv_tup,eqvA_cons,eqvA_nil,eqvA_l,eqvA_r,Wr.like,str_beq,str_toD,toD_str,str_tup,tup_str,Bool.and_false,Bool.false_and,Bool.and_true,beq_self_eq_true,Bool.true_and,ms_ne]
  | .many k ps,.pair f' g'=>by simp only [Wr.toD,eqv_tup,eqvA_cons,eqvA_nil,eqvA_l,eqvA_r,Wr.like,str_beq,str_toD,toD_str,str_tup,tup_str,Bool.and_false,Bool.false_and,Bool.and_true,beq_self_eq_true,Bool.true_and]
  | .many k ps,.many k' ps'=>by simp only [Wr.toD,eqv_tup,eqvA_cons,eqvA_nil,eqvA_l,eqvA_r,Wr.like,str_beq,str_toD,toD_str,str_tup,tup_str,Bool.and_false,Bool.false_and,Bool.and_true,beq_self_eq_true,Bool.true_and,eqvDL ps ps']
theorem eqvDL:∀ ws vs:List Wr,PyData.eqvAll (toDL ws) (toDL vs)=likeL ws vs
  | [],[]=>by simp only [toDL,eqvA_nil,likeL]
  | [],_::_=>by simp only [toDL,eqvA_r,likeL]
  | _::_,[]=>by simp only [toDL,eqvA_l,likeL]
  | w::ws,v::vs=>by simp only [toDL,eqvA_cons,likeL,w.eqvD v,eqvDL ws vs]
end
theorem like_kidx {w v:Wr} (h:w.like v=true):w.kidx=v.kidx:=by
  cases w <;> cases v <;> simp only [Wr.like,Bool.and_eq_true,reduceCtorEq] at h <;> first | rfl | skip
  . have:=h.1;simp at this;subst this;rfl
  . rw [kidx_many,kidx_many];have:=h.1;rw [mname_code] at this;simpa using this
theorem ki (i j:Nat):(((i:Nat):Int) == ((j:Nat):Int))=(i == j):=by
  by_cases h:i=j
  . subst h;simp
  . rw [beq_eq_false_iff_ne.mpr h,beq_eq_false_iff_ne.mpr (by lia)]
end L2
namespace L2
open PySem PySem.Spec PyProof.Rows
noncomputable def uSeqI (K:PySem.W.Frag):V->Hp->(It->Hp->Prop)->Prop:=fun x H R=>uList K x H R\/uTupI K x H R
section
variable {X:Cx} {tg a:Expr} {te:TE} {ta:TA} {p pos tp:Pos} {elts:List Expr} {k0:Nat}
theorem pj_seq (hl:PE X a te):PI X tg a (jOf (uSeqI X.K) te):=by
  intro pins s σ H R I h
  refine thn (hl pins s σ H _ I h) fun v s1 h_q=>?_
  obtain ⟨x,H1,I1,r1,q1⟩:=h_q
  have fp:∀ b∈[s1.heap.objs.size],FpOk X pins H1 b:=fun b hb=>by
    obtain rfl:b=s1.heap.objs.size:=by simpa using hb
    exact I1.fpOk (Nat.le_refl _) (I1.hok.fresh (Nat.le_refl _))
  have J1:∀ o,Inv X pins σ H1 { s1 with heap:=s1.heap.push o }:=fun o=>I1.kept (t':=s1.toks) fun b u e=>Heap.get?_push_of_some _ e
  cases x with
  | ref l =>
    cases r1
    rcases q1 with ⟨⟨xs,hq⟩,q⟩ | ⟨⟨xs,hq⟩,q⟩
    . obtain ⟨its,rv,pl,hz⟩:=I1.list hq
      exact wpAny_pyIter_list pl.isList ⟨s1.heap.objs.size,[s1.heap.objs.size],_,_,H1,rfl,J1 _,turn_list l _,⟨_,Heap.get?_push_size _ rfl,rfl,rfl⟩,fp,q⟩
    . obtain ⟨its,rv,pl,hz⟩:=I1.tuple hq
      exact wpAny_pyIter_tuple (show s1.heap.IsTuple l its.toArray from pl) ⟨s1.heap.objs.size,[s1.heap.objs.size],_,_,H1,rfl,J1 _,turn_tuple l _,⟨_,Heap.get?_push_size _ rfl,rfl,rfl⟩,fp,q⟩
  | _=>rcases q1 with q | q <;> exact q.elim
noncomputable def uEnumS (K:PySem.W.Frag):List V->Hp->(It->Hp->Prop)->Prop:=fun vs H R=>uEnum K vs H R\/uEnumT K vs H R
theorem pj_enumS (hg:Gl X "enumerate") (hm:X.mg "enumerate"=none) (ha:PA X [a] ta) (hs:starEach [a] X.env=[(false,eval a X.env)]:=by rfl) :
    PI X (.Tuple elts k0 tp) (.Call (.Name "enumerate" p) [a] [] pos) (jArgs (uEnumS X.K) ta):=by
  intro pins s σ H R I h
  refine Call_ (ld_blt I hg hm boot_enumerate (PyProof.Rows.callWith_type1 (thn (ha pos pins s σ H _ I h) fun us s1 ⟨vs,H1,I1,r1,q1⟩=>?_) hs rfl))
  have fp:∀ b∈[s1.heap.objs.size + 1,s1.heap.objs.size],FpOk X pins H1 b:=fun b hb=>by
    have hb':s1.heap.objs.size<=b:=by
      simp only [List.mem_cons,List.not_mem_nil,or_false] at hb
      rcases hb with e | e <;> subst e <;> first | exact Nat.le_add_right _ _ | exact Nat.le_refl _
    exact I1.fpOk hb' (I1.hok.fresh hb')
  rcases q1 with q1 | q1
  . unfold uEnum at q1
    split at q1
    . obtain ⟨⟨xs,hx⟩,q⟩:=q1
      cases r1 with
      | cons r rr =>
        cases rr;cases r
        obtain ⟨its,rv,pl,_⟩:=I1.list hx
        exact call_enumerate_list pl.isList fun h' a1 a2 a3 hk=>wpAny_pyIter_enum a1 ⟨s1.heap.objs.size + 1,_,_,_,H1,rfl,I1.kept (t':=s1.toks) hk,turn_enum (Nat.succ_ne_self _),⟨⟨_,a1⟩,a2⟩,fp,q⟩
    . exact q1.elim
  . unfold uEnumT at q1
    split at q1
    . obtain ⟨⟨xs,hx⟩,q⟩:=q1
      cases r1 with
      | cons r rr =>
        cases rr;cases r
        obtain ⟨its,rv,pl,_⟩:=I1.tuple hx
        exact call_enum_tup pl fun h' a1 a2 hk=>wpAny_pyIter_enum a1 ⟨s1.heap.objs.size + 1,_,_,_,H1,rfl,I1.kept (t':=s1.toks) hk,turn_enumT (Nat.succ_ne_self _),⟨⟨_,a1⟩,a2⟩,fp,q⟩
    . exact q1.elim
end
section
variable {K:PySem.W.Frag}
noncomputable def ySeq:U->AHp->(AIt->AHp->Prop)->Prop:=fun u A R=>match u with
  | .ref a=>(∃ us,A a=some (.lst us))/\R (jLst a) A
  | .rol us=>R (jFix us) A
  | .tup us=>R (jFix us) A
  | _=>False
theorem ab_yseq:AbY1 K (uSeqI K) ySeq:=fun x v A H R' R r g w k=>by
  cases r with
  | ref a=>exact .inl (ab_ylist (.ref a) _ A H R' R (.ref a) g w k)
  | rol h1 r1=>exact .inl (ab_ylist _ _ A H R' R (.rol h1 r1) g w k)
  | tup h1 r1=>exact .inr (ab_ytup _ _ A H R' R (.tup h1 r1) g w k)
  | _=>exact w.elim
noncomputable def yEnumS:List U->AHp->(AIt->AHp->Prop)->Prop:=fun us A R=>match us with
  | [.ref a]=>(∃ us,A a=some (.lst us))/\R (jEnum a) A
  | [.rol us]=>R (jFix (enU us)) A
  | [.tup us]=>R (jFix (enU us)) A
  | _=>False
theorem ab_yenumS:AbYs K (uEnumS K) yEnumS:=fun x v A H R' R r g w k=>by
  unfold yEnumS at w
  split at w
  . exact .inl (ab_yenum _ _ A H R' R r g w k)
  . exact .inl (ab_yenum _ _ A H R' R r g w k)
  . exact .inr (ab_yenumT _ _ A H R' R r g w k)
  . exact w.elim
variable {A:AHp} {R:AIt->AHp->Prop} {p:Addr} {us:List U}
theorem q_ysr:(ySeq (.ref p) A R)=((∃ us,A p=some (.lst us))/\R (jLst p) A):=rfl
theorem q_yso:(ySeq (.rol us) A R)=(R (jFix us) A):=rfl
theorem q_yst:(ySeq (.tup us) A R)=(R (jFix us) A):=rfl
theorem q_yesr:(yEnumS [.ref p] A R)=((∃ us,A p=some (.lst us))/\R (jEnum p) A):=rfl
theorem q_yeso:(yEnumS [.rol us] A R)=(R (jFix (enU us)) A):=rfl
theorem q_yest:(yEnumS [.tup us] A R)=(R (jFix (enU us)) A):=rfl
end
section
variable {X:Cx}
noncomputable def rExtS (K:PySem.W.Frag):V->List V->Hp->VK->Prop:=fun x vs H Q=>rExtend x vs H Q\/rExtT K x vs H Q
theorem mt_extS:MtM X "list.extend" (rExtS X.K):=fun pins s σ H x vs v us Q I rx rv h=>by
  rcases h with h | h
  . exact mt_extend pins s σ H x vs v us Q I rx rv h
  . exact mt_extT pins s σ H x vs v us Q I rx rv h
variable {K:PySem.W.Frag}
noncomputable def mExtS:U->List U->AHp->AVK->Prop:=fun u us A Q=>match u,us with
  | .ref a,[.tup ws]=>∃ xs,A a=some (.lst xs)/\xs.length + ws.length<=sizeLine/\Q .non (updA A a (.lst (xs++ws)))
  | .ref a,[.ref b]=>∃ xs ws,A a=some (.lst xs)/\A b=some (.lst ws)/\xs.length + ws.length<=sizeLine/\Q .non (updA A a (.lst (xs++ws)))
  | _,_=>False
theorem ab_mextS:AbMt K (rExtS K) mExtS:=fun x u xs us A H Q' Q r rs g h k=>by
  unfold mExtS at h
  split at h
  . exact .inr (ab_mextT _ _ _ _ A H Q' Q r rs g h k)
  . exact .inl (ab_mext _ _ _ _ A H Q' Q r rs g h k)
  . exact h.elim
theorem q_exSt {A:AHp} {Q:AVK} {p:Addr} {us:List U}:(mExtS (.ref p) [.tup us] A Q)=(∃ xs,A p=some (.lst xs)/\xs.length + us.length<=sizeLine/\Q .non (updA A p (.lst (xs++us)))):=rfl
theorem q_exSr {A:AHp} {Q:AVK} {p q:Addr}:(mExtS (.ref p) [.ref q] A Q)=(∃ xs ws,A p=some (.lst xs)/\A q=some (.lst ws)/\xs.length + ws.length<=sizeLine/\Q .non (updA A p (.lst (xs++ws)))):=rfl
end
noncomputable def cutL {α:Type} (xs:List α) (lo hi:Option Int):List α:=(xs.drop (HT.sIx xs.length 0 lo)).take (HT.sIx xs.length xs.length hi - HT.sIx xs.length 0 lo)
theorem cutU_map {α:Type} (f:α->U) (xs:List α) (lo hi:Option Int):cutU (xs.map f) lo hi=(cutL xs lo hi).map f:=by
  unfold cutU cutL
  rw [List.length_map,List.map_take,List.map_drop]
theorem cutL_mem {α:Type} {xs:List α} {lo hi:Option Int} {x:α} (h:x∈cutL xs lo hi):x∈xs:=List.mem_of_mem_drop (List.mem_of_mem_take h)
theorem eqW {w v:Wr} {A:AHp} {Q:AVK} (h1:w.ok=true) (h2:v.ok=true) (hd:w.dep<=95) (h:Q (.bl (w.like v)) A):xDeep false w.toU v.toU A Q :=
  ⟨w.toD,v.toD,w.duW,v.duW,w.can h1,v.can h2,Nat.le_trans w.deep (by lia),by rw [if_neg (by decide),w.eqvD];exact h⟩
theorem neW {w v:Wr} {A:AHp} {Q:AVK} (h1:w.ok=true) (h2:v.ok=true) (hd:w.dep<=95) (h:Q (.bl (!w.like v)) A):xDeep true w.toU v.toU A Q :=
  ⟨w.toD,v.toD,w.duW,v.duW,w.can h1,v.can h2,Nat.le_trans w.deep (by lia),by rw [if_pos rfl,w.eqvD];exact h⟩
theorem Wr.toU_tup (w:Wr):∃ us,w.toU=.tup us:=by cases w <;> exact ⟨_,rfl⟩
theorem q_eqW {w v:Wr} {A:AHp} {Q:AVK}:(xEq w.toU v.toU A Q)=(xDeep false w.toU v.toU A Q):=by
  obtain ⟨a,e⟩:=w.toU_tup
  obtain ⟨b,e'⟩:=v.toU_tup
  rw [e,e'];rfl
theorem q_neW {w v:Wr} {A:AHp} {Q:AVK}:(xNe w.toU v.toU A Q)=(xDeep true w.toU v.toU A Q):=by
  obtain ⟨a,e⟩:=w.toU_tup
  obtain ⟨b,e'⟩:=v.toU_tup
  rw [e,e'];rfl
theorem depL_app:∀ (ws us:List Wr),depL (ws++us)=max (depL ws) (depL us)
  | [],us=>by simp [depL]
  | w::ws,us=>by simp only [List.cons_append,depL,depL_app ws us,Nat.max_assoc]
end L2
namespace L2
open PySem PySem.Spec PyProof.Rows
noncomputable def LtAt (A:Around) (s:Shared) (y x:Value) (b:Bool):Prop:=∀ (prog:Program) (w:World) (E:Value->Shared->Prop) (Q:Value->Shared->Prop),Q (.bool b) s->wpAny (model prog w) A (richCompare .Lt y x) Q E s
noncomputable def lexN (e l:Nat->Bool) (d:Bool):Nat->Nat->Bool
  | _,0=>d
  | i,k + 1=>if e i=true then lexN e l d (i + 1) k else l i
section
open PySem.SeqAt
open PySem.AutoSeq1 (wpAny_loadPart')
open PySem.MeetsSeq PySem.MeetsSeq2 PySem.MeetsSeq3
theorem tuple_ltAt (l b:Addr) (items items2:Array Value) (n n2:Nat) (dd dd2:Option Addr) (sl sl2:Array (Option Value)) (e lt:Nat->Bool) :
    Meets (Builtin.«tuple.__lt__» ⟨[.ref l,.ref b],[]⟩)
      (fun A R s=>s.heap.get? l=some { cls:=.type "tuple",dict:=dd,data:=.seq items n,slots:=sl }/\s.heap.get? b=some { cls:=.type "tuple",dict:=dd2,data:=.seq items2 n2,slots:=sl2 } /\
        (∀ j (h1:j < items.size) (h2:j < items2.size),EqAt A.in1 s items[j] items2[j] (e j))/\(∀ j (h1:j < items.size) (h2:j < items2.size),(∀ i,i < j->e i=true)->e j=false->LtAt A.in1 s items[j] items2[j] (lt j)) /\
        R (.ok (.ret (.bool (lexN e lt (decide (items.size < items2.size)) 0 (min items.size items2.size))))) s) :=
  .of_wp fun prog w A R s h=>by
    obtain ⟨hp,g,d,tk,os⟩:=s;obtain ⟨hl,hb,he,hlt,h⟩:=h
    have f2:=AutoSeq1.sub_tuple_tuple
    have hZ:(items.toList.zip items2.toList).length=min items.size items2.size:=by simp
    wp_walk using wpAny_loadPart' hl,wpAny_loadPart' hb,wpAny_forIn_list _ (fun rest b s'=>b.1=none/\s'=⟨hp,g,d,tk,os⟩/\∃ i k,rest=(items.toList.zip items2.toList).drop i/\i + k=min items.size items2.size/\(∀ j,j < i->e j=true) /\
      R (.ok (.ret (.bool (lexN e lt (decide (items.size < items2.size)) i k)))) ⟨hp,g,d,tk,os⟩) _
    case turn =>
      rintro ⟨y,x⟩ rest b s' ⟨hb',rfl,i,k,hr,hk,hall,hR⟩
      have hi:i < (items.toList.zip items2.toList).length:=by
        rcases Nat.lt_or_ge i (items.toList.zip items2.toList).length with q | q
        . exact q
        . rw [List.drop_eq_nil_of_le q] at hr;cases hr
      have hi2:i < min items.size items2.size:=hZ ▸ hi
      rw [List.drop_eq_getElem_cons hi] at hr
      injection hr with h1 h2
      have hyx:y=items[i]'(by lia)/\x=items2[i]'(by lia):=by
        have:(items.toList.zip items2.toList)[i]=(items[i]'(by lia),items2[i]'(by lia)):=by simp
        rw [this] at h1
        injection h1 with a1 a2
        exact ⟨a1,a2⟩
      obtain ⟨rfl,rfl⟩:=hyx
      obtain ⟨k,rfl⟩:∃ k',k=k' + 1:=⟨k - 1,by lia⟩
      simp only [lexN] at hR
      refine wpAny_bind (he i (by lia) (by lia) prog w _ _ ?_)
      cases q:e i with
      | true =>
        rw [q,if_pos rfl] at hR
        wp_walk
        exact ⟨rfl,rfl,i + 1,k,h2,by lia,fun j hj=>by
          by_cases hji:j=i
          . rw [hji];exact q
          . exact hall j (by lia),hR⟩
      | false =>
        rw [q,if_neg (by decide)] at hR
        have hri:=hlt i (by lia) (by lia) hall q prog w
        wp_walk using hri
        exact ⟨_,rfl,by simpa using hR⟩
    case fin =>
      rintro ⟨b1,b2⟩ s' ⟨hb',rfl,i,k,hr,hk,hall,hR⟩
      simp only at hb'
      subst hb'
      have hi:(items.toList.zip items2.toList).length<=i:=List.drop_eq_nil_iff.mp hr.symm
      obtain rfl:k=0:=by lia
      wp_walk
      exact ⟨_,rfl,by simpa [Builtin.Tuple.tupleCompareSizes,lexN] using hR⟩
    case h =>
      exact ⟨rfl,rfl,0,_,rfl,by lia,fun j hj=>absurd hj (Nat.not_lt_zero _),h⟩
theorem lt_loopAt (l b:Addr) (items items2:Array Value) (n n2:Nat) (dd dd2:Option Addr) (sl sl2:Array (Option Value)) (e lt:Nat->Bool) (k:Nat) :
    ∀ i : Nat,i + k=min items.size items2.size->(∀ j,j < i->e j=true)->Meets (Builtin.«list.__eq__.loop» ⟨[.ref l,.ref b,rawInt i,rawInt 0],[]⟩)
      (fun A R s=>s.heap.get? l=some { cls:=.type "list",dict:=dd,data:=.seq items n,slots:=sl }/\s.heap.get? b=some { cls:=.type "list",dict:=dd2,data:=.seq items2 n2,slots:=sl2 } /\
        (∀ j (h1:j < items.size) (h2:j < items2.size),EqAt A.in1 s items[j] items2[j] (e j))/\(∀ j (h1:j < items.size) (h2:j < items2.size),(∀ i,i < j->e i=true)->e j=false->LtAt A.in1 s items[j] items2[j] (lt j)) /\
        R (.ok (.ret (.bool (lexN e lt (decide (items.size < items2.size)) i k)))) s):=by
  induction k with
  | zero =>
    intro i hk hall prog w A R s h
    obtain ⟨hp,g,d,tk,os⟩:=s;obtain ⟨hl,hb,he,hlt,h⟩:=h
    wp_walk using wpAny_loadPart' hl,wpAny_loadPart' hb
    by_cases q:i < items.size
    . have z1:items[((i:Nat):Int).toNat]? = some (items[i]):=by simp [q]
      have z2:items2[((i:Nat):Int).toNat]? = none:=by simp;lia
      rw [z1,z2]
      wp_walk using wpAny_loadPart' hl,wpAny_loadPart' hb
      exact h
    . have z1:items[((i:Nat):Int).toNat]? = none:=by simp;lia
      rw [z1]
      wp_walk using wpAny_loadPart' hl,wpAny_loadPart' hb
      exact h
  | succ k ih =>
    intro i hk hall prog w A R s h
    obtain ⟨hp,g,d,tk,os⟩:=s;obtain ⟨hl,hb,he,hlt,h⟩:=h
    wp_walk using wpAny_loadPart' hl,wpAny_loadPart' hb
    have b1:i < items.size:=by lia
    have b2:i < items2.size:=by lia
    have z1:items[((i:Nat):Int).toNat]? = some items[i]:=by simp [b1]
    have z2:items2[((i:Nat):Int).toNat]? = some items2[i]:=by simp [b2]
    have hc:((i:Int) + 1)=((i + 1:Nat):Int):=by push_cast;rfl
    simp only [lexN] at h
    rw [z1,z2]
    refine wpAny_bind (he i b1 b2 prog w _ _ ?_)
    cases q:e i with
    | true =>
      rw [q,if_pos rfl] at h
      wp_walk
      rw [hc]
      exact ⟨plainId_quiet plain_eq_loop _,codeAny_builtin entry_eq_loop (by
        rw [Around.under_plainId plain_eq_loop _]
        exact ih (i + 1) (by lia) (fun j hj=>by
          by_cases hji:j=i
          . rw [hji];exact q
          . exact hall j (by lia)) prog w A R _ ⟨hl,hb,he,hlt,h⟩)⟩
    | false =>
      rw [q,if_neg (by decide)] at h
      have hri:=hlt i b1 b2 hall q prog w
      wp_walk using wpAny_loadPart' hl,wpAny_loadPart' hb
      rw [z1,z2]
      wp_walk using hri
      exact h
theorem list_ltAt (l b:Addr) (items items2:Array Value) (n n2:Nat) (dd dd2:Option Addr) (sl sl2:Array (Option Value)) (e lt:Nat->Bool) :
    Meets (Builtin.«list.__lt__» ⟨[.ref l,.ref b],[]⟩)
      (fun A R s=>s.heap.get? l=some { cls:=.type "list",dict:=dd,data:=.seq items n,slots:=sl }/\s.heap.get? b=some { cls:=.type "list",dict:=dd2,data:=.seq items2 n2,slots:=sl2 } /\
        (∀ j (h1:j < items.size) (h2:j < items2.size),EqAt A.in1 s items[j] items2[j] (e j))/\(∀ j (h1:j < items.size) (h2:j < items2.size),(∀ i,i < j->e i=true)->e j=false->LtAt A.in1 s items[j] items2[j] (lt j)) /\
        R (.ok (.ret (.bool (lexN e lt (decide (items.size < items2.size)) 0 (min items.size items2.size))))) s):=by
  intro prog w A R s h
  obtain ⟨hp,g,d,tk,os⟩:=s;obtain ⟨hl,hb,he,hlt,h⟩:=h
  have f3:=AutoSeq1.sub_list_list
  wp_walk using wpAny_loadPart' hl,wpAny_loadPart' hb
  exact ⟨plainId_quiet plain_eq_loop _,codeAny_builtin entry_eq_loop (by
    rw [Around.under_plainId plain_eq_loop _]
    exact lt_loopAt l b items items2 n n2 dd dd2 sl sl2 e lt _ 0 (by lia) (fun j hj=>absurd hj (Nat.not_lt_zero _)) prog w A R _ ⟨hl,hb,he,hlt,h⟩)⟩
end
section
open PySem.SeqAt
variable {A:Around} {s:Shared} {l b:Addr} {items items2:Array Value} {e lt:Nat->Bool}
theorem LtAt.tuples (hl:s.heap.IsTuple l items) (hb:s.heap.IsTuple b items2) (hu:A.units < cLine) (he:∀ j (h1:j < items.size) (h2:j < items2.size),EqAt A.in1 s items[j] items2[j] (e j))
    (hlt:∀ j (h1:j < items.size) (h2:j < items2.size),(∀ i,i < j->e i=true)->e j=false->LtAt A.in1 s items[j] items2[j] (lt j)):LtAt A s (.ref l) (.ref b) (lexN e lt (decide (items.size < items2.size)) 0 (min items.size items2.size)):=fun prog w E Q h=>by
  obtain ⟨⟨cls,dd,data,sl⟩,ho,hc,n,hd⟩:=id hl
  obtain ⟨⟨cls2,dd2,data2,sl2⟩,ho2,hc2,n2,hd2⟩:=id hb
  simp only at hc hd hc2 hd2
  subst hc hd hc2 hd2
  refine richCompare_meets_room (op:=.Lt) ⟨_,ho,rfl⟩ ⟨_,ho2,rfl⟩ PySem.F.slot_tuple_lt PySem.F.entry_tuple_lt (PySem.F.args_tuple_lt_2 _ _) (tuple_ltAt l b items items2 n n2 dd dd2 sl sl2 e lt) ⟨ho,ho2,he,hlt,?_⟩ hu
  exact ⟨(fun x=>nomatch x),h⟩
theorem LtAt.lists (hl:s.heap.IsList l items) (hb:s.heap.IsList b items2) (hu:A.units < cLine) (he:∀ j (h1:j < items.size) (h2:j < items2.size),EqAt A.in1 s items[j] items2[j] (e j))
    (hlt:∀ j (h1:j < items.size) (h2:j < items2.size),(∀ i,i < j->e i=true)->e j=false->LtAt A.in1 s items[j] items2[j] (lt j)):LtAt A s (.ref l) (.ref b) (lexN e lt (decide (items.size < items2.size)) 0 (min items.size items2.size)):=fun prog w E Q h=>by
  obtain ⟨⟨cls,dd,data,sl⟩,ho,hc,n,hd⟩:=id hl
  obtain ⟨⟨cls2,dd2,data2,sl2⟩,ho2,hc2,n2,hd2⟩:=id hb
  simp only at hc hd hc2 hd2
  subst hc hd hc2 hd2
  refine richCompare_meets_room (op:=.Lt) ⟨_,ho,rfl⟩ ⟨_,ho2,rfl⟩ PySem.F.slot_list_lt PySem.F.entry_list_lt (PySem.F.args_list_lt_2 _ _) (list_ltAt l b items items2 n n2 dd dd2 sl sl2 e lt) ⟨ho,ho2,he,hlt,?_⟩ hu
  exact ⟨(fun x=>nomatch x),h⟩
end
mutual
noncomputable def ltv:PyData->PyData->Bool
  | .int i,.int j=>decide (i < j)
  | .str x,.str y=>decide (x.cps.toList < y.cps.toList)
  | .tuple xs,.tuple ys=>ltvA xs ys
  | .list xs,.list ys=>ltvA xs ys
  | _,_=>false
noncomputable def ltvA:List PyData->List PyData->Bool
  | [],[]=>false
  | [],_::_=>true
  | _::_,[]=>false
  | x::xs,y::ys=>if PyData.eqv x y=true then ltvA xs ys else ltv x y
end
mutual
noncomputable def okLt:PyData->PyData->Bool
  | .int _,.int _=>true
  | .str _,.str _=>true
  | .tuple xs,.tuple ys=>okLtA xs ys
  | .list xs,.list ys=>okLtA xs ys
  | _,_=>false
noncomputable def okLtA:List PyData->List PyData->Bool
  | [],_=>true
  | _::_,[]=>true
  | x::xs,y::ys=>if PyData.eqv x y=true then okLtA xs ys else okLt x y
end
noncomputable def pairLt (xs ys:List PyData) (j:Nat):Bool:=match xs[j]?,ys[j]? with
  | some x,some y=>ltv x y
  | _,_=>false
noncomputable def pairQ (xs ys:List PyData) (j:Nat):Bool:=match xs[j]?,ys[j]? with
  | some x,some y=>PyData.eqv x y
  | _,_=>false
theorem lexN_shift (e l e' l':Nat->Bool) (d:Bool) (c:Nat) (he:∀ j,e (j + c)=e' j) (hl:∀ j,l (j + c)=l' j):∀ k i,lexN e l d (i + c) k=lexN e' l' d i k
  | 0,i=>rfl
  | k + 1,i=>by
    simp only [lexN,he,hl]
    rw [show i + c + 1=(i + 1) + c from by lia,lexN_shift e l e' l' d c he hl k (i + 1)]
theorem lex_data:∀ (xs ys:List PyData),lexN (pairQ xs ys) (pairLt xs ys) (decide (xs.length < ys.length)) 0 (min xs.length ys.length)=ltvA xs ys
  | [],[]=>by simp [lexN,ltvA]
  | [],y::ys=>by simp [lexN,ltvA]
  | x::xs,[]=>by simp [lexN,ltvA]
  | x :: xs,y::ys=>by
    have ih:=lex_data xs ys
    simp only [List.length_cons,Nat.add_min_add_right,lexN,ltvA]
    have e0:pairQ (x::xs) (y::ys) 0=PyData.eqv x y:=rfl
    have l0:pairLt (x::xs) (y::ys) 0=ltv x y:=rfl
    rw [e0,l0]
    split
    . rw [<- ih]
      have:=lexN_shift (pairQ (x::xs) (y::ys)) (pairLt (x::xs) (y::ys)) (pairQ xs ys) (pairLt xs ys) (decide (xs.length < ys.length)) 1 (fun j=>by simp [pairQ]) (fun j=>by simp [pairLt]) (min xs.length ys.length) 0
      rw [<- this]
      have e:decide (xs.length + 1 < ys.length + 1)=decide (xs.length < ys.length):=by simp
      rw [e]
    . rfl
theorem readsAll_at {h:Heap}:∀ {vs:List Value} {xs:List PyData} {as:List Addr},ReadsAll h vs xs as->∀ (j:Nat) (h1:j < vs.length),∃ x bs,xs[j]? = some x/\Reads h vs[j] x bs
  | _,_,_,.nil,j,h1=>absurd h1 (Nat.not_lt_zero _)
  | _,_,_,.cons r rs,0,_=>⟨_,_,rfl,r⟩
  | _,_,_,.cons r rs,j + 1,h1=>readsAll_at rs j (Nat.lt_of_succ_lt_succ h1)
theorem readsAll_len {h:Heap}:∀ {vs:List Value} {xs:List PyData} {as:List Addr},ReadsAll h vs xs as->vs.length=xs.length
  | _,_,_,.nil=>rfl
  | _,_,_,.cons _ rs=>by rw [List.length_cons,List.length_cons,readsAll_len rs]
theorem canAll_at:∀ {xs:List PyData} {j:Nat} {x:PyData},PyData.canLayAll0 xs=true->xs[j]? = some x->x.canLay0=true
  | y :: ys,0,x,h,e=>by
    simp only [PyData.canLayAll0,Bool.and_eq_true] at h
    simp at e;subst e;exact h.1
  | y :: ys,j + 1,x,h,e=>by
    simp only [PyData.canLayAll0,Bool.and_eq_true] at h
    exact canAll_at h.2 (by simpa using e)
theorem depthAll_at:∀ {xs:List PyData} {j:Nat} {x:PyData},xs[j]? = some x->x.depth<=PyData.depthAll xs
  | y::ys,0,x,e=>by simp at e;subst e;simp only [PyData.depthAll];lia
  | y :: ys,j + 1,x,e=>by
    have:=depthAll_at (xs:=ys) (j:=j) (x:=x) (by simpa using e)
    simp only [PyData.depthAll];lia
theorem okLtA_at:∀ {xs ys:List PyData} {j:Nat} {x y:PyData},okLtA xs ys=true->xs[j]? = some x->ys[j]? = some y->(∀ i,i < j->pairQ xs ys i=true)->PyData.eqv x y=false->okLt x y=true
  | a :: xs,b::ys,0,x,y,h,e1,e2,_,q=>by
    simp at e1 e2;subst e1 e2
    simp only [okLtA] at h
    rw [q,if_neg (by decide)] at h
    exact h
  | a :: xs,b::ys,j + 1,x,y,h,e1,e2,hp,q=>by
    simp only [okLtA] at h
    have:PyData.eqv a b=true:=hp 0 (by lia)
    rw [this,if_pos rfl] at h
    exact okLtA_at h (by simpa using e1) (by simpa using e2) (fun i hi=>by have:=hp (i + 1) (by lia);simpa [pairQ] using this) q
theorem ltAt_reads:∀ (m:Nat) (da db:PyData) (A:Around) (s:Shared) (a b:Value) (as bs:List Addr),da.depth<=m->Reads s.heap a da as->Reads s.heap b db bs->da.canLay0=true->db.canLay0=true->okLt da db=true ->
    A.units + max da.depth db.depth < cLine->LtAt A s a b (ltv da db):=by
  intro m
  induction m with
  | zero =>
    intro da db A s a b as bs hm ra rb ca cb ok hu
    cases ra with
    | int x t =>
      cases rb with
      | int y u=>intro prog w E Q h;exact (PyProof.Rows.lt_int (by simpa [ltv] using h):wpAny (model prog w) A (compareOp .Lt (.int x t) (.int y u)) Q E s)
      | _=>simp [okLt] at ok
    | str x t =>
      cases rb with
      | str y u=>intro prog w E Q h;exact (PyProof.Rows.lt_str (by simpa [ltv] using h):wpAny (model prog w) A (compareOp .Lt (.str x t) (.str y u)) Q E s)
      | _=>simp [okLt] at ok
    | list _ _ _ _=>simp [PyData.depth] at hm
    | tuple _ _ _ _=>simp [PyData.depth] at hm
    | none=>simp [okLt] at ok
    | bool _=>simp [okLt] at ok
    | dict=>cases ca
  | succ m ih =>
    intro da db A s a b as bs hm ra rb ca cb ok hu
    have seq:∀ (vs ws:Array Value) (xs ys:List PyData) (as bs:List Addr),ReadsAll s.heap vs.toList xs as->ReadsAll s.heap ws.toList ys bs->PyData.canLayAll0 xs=true->PyData.canLayAll0 ys=true->okLtA xs ys=true->PyData.depthAll xs<=m->A.units + (max (PyData.depthAll xs) (PyData.depthAll ys) + 1) < cLine ->
        (∀ j (h1:j < vs.size) (h2:j < ws.size),SeqAt.EqAt A.in1 s vs[j] ws[j] (pairQ xs ys j))/\(∀ j (h1:j < vs.size) (h2:j < ws.size),(∀ i,i < j->pairQ xs ys i=true)->pairQ xs ys j=false->LtAt A.in1 s vs[j] ws[j] (pairLt xs ys j))/\vs.size=xs.length/\ws.size=ys.length:=by
      intro vs ws xs ys as bs r1 r2 c1 c2 ok hd hu
      have l1:=readsAll_len r1
      have l2:=readsAll_len r2
      refine ⟨fun j h1 h2=>?_,fun j h1 h2 hp q=>?_,by simpa using l1,by simpa using l2⟩
      . obtain ⟨x,as1,ex,rx⟩:=readsAll_at r1 j (by simpa using h1)
        obtain ⟨y,bs1,ey,ry⟩:=readsAll_at r2 j (by simpa using h2)
        have d1:=depthAll_at ex
        have:=SeqAt.eqAt_reads x y A.in1 s _ _ _ _ rx ry (canAll_at c1 ex) (canAll_at c2 ey) (by rw [show A.in1.units=A.units + 1 from rfl];lia)
        have e:pairQ xs ys j=PyData.eqv x y:=by simp [pairQ,ex,ey]
        rw [e]
        simpa using this
      . obtain ⟨x,as1,ex,rx⟩:=readsAll_at r1 j (by simpa using h1)
        obtain ⟨y,bs1,ey,ry⟩:=readsAll_at r2 j (by simpa using h2)
        have e:pairQ xs ys j=PyData.eqv x y:=by simp [pairQ,ex,ey]
        have e2:pairLt xs ys j=ltv x y:=by simp [pairLt,ex,ey]
        rw [e] at q
        rw [e2]
        have d1:=depthAll_at ex
        have d2:=depthAll_at ey
        have:=ih x y A.in1 s _ _ _ _ (by lia) rx ry (canAll_at c1 ex) (canAll_at c2 ey) (okLtA_at ok ex ey hp q) (by rw [show A.in1.units=A.units + 1 from rfl];lia)
        simpa using this
    cases ra with
    | int x t =>
      cases rb with
      | int y u=>intro prog w E Q h;exact (PyProof.Rows.lt_int (by simpa [ltv] using h):wpAny (model prog w) A (compareOp .Lt (.int x t) (.int y u)) Q E s)
      | _=>simp [okLt] at ok
    | str x t =>
      cases rb with
      | str y u=>intro prog w E Q h;exact (PyProof.Rows.lt_str (by simpa [ltv] using h):wpAny (model prog w) A (compareOp .Lt (.str x t) (.str y u)) Q E s)
      | _=>simp [okLt] at ok
    | list k1 k2 k3 k4 =>
      cases rb with
      | list j1 j2 j3 j4 =>
        simp only [PyData.depth] at hm hu
        simp only [PyData.canLay0] at ca cb
        simp only [okLt] at ok
        obtain ⟨h1,h2,h3,h4⟩:=seq _ _ _ _ _ _ k4 j4 ca cb ok (by lia) (by lia)
        have:=LtAt.lists ⟨_,k1,k2,_,k3⟩ ⟨_,j1,j2,_,j3⟩ (by lia) h1 h2
        rw [h3,h4,lex_data] at this
        simpa [ltv] using this
      | _=>simp [okLt] at ok
    | tuple k1 k2 k3 k4 =>
      cases rb with
      | tuple j1 j2 j3 j4 =>
        simp only [PyData.depth] at hm hu
        simp only [PyData.canLay0] at ca cb
        simp only [okLt] at ok
        obtain ⟨h1,h2,h3,h4⟩:=seq _ _ _ _ _ _ k4 j4 ca cb ok (by lia) (by lia)
        have:=LtAt.tuples ⟨_,k1,k2,_,k3⟩ ⟨_,j1,j2,_,j3⟩ (by lia) h1 h2
        rw [h3,h4,lex_data] at this
        simpa [ltv] using this
      | _=>simp [okLt] at ok
    | none=>simp [okLt] at ok
    | bool _=>simp [okLt] at ok
    | dict=>cases ca
noncomputable def rLtD (K:PySem.W.Frag):R2:=fun x y H Q=>∃ d e,Rep K H d x/\Rep K H e y/\d.canLay0=true/\e.canLay0=true/\okLt d e=true/\d.depth<=190/\e.depth<=190/\Q (.bl (ltv d e)) H
noncomputable def uLtD (K:PySem.W.Frag):R2:=fun x y H Q=>match x,y with
  | .ref a,y=>rLtD K (.ref a) y H Q
  | x,y=>uLt x y H Q
section
variable {X:Cx}
theorem op_ltD (hu:X.A.units + 200 < cLine):OpR X (compareOp .Lt) (rLtD X.K):=by
  intro pins s σ H x y v u Q I rx ry h
  obtain ⟨d,e,h1,h2,c1,c2,ok,d1,d2,q⟩:=h
  obtain ⟨as,ra⟩:=Rep.reads I h1 rx
  obtain ⟨bs,rb⟩:=Rep.reads I h2 ry
  exact ltAt_reads _ d e X.A s v u as bs (Nat.le_refl _) ra rb c1 c2 ok (by lia) X.prog X.w X.xe _ ⟨.bl _,H,I,rfl,q⟩
theorem o_ltD {k:Nat} (hr:Room k X.A):OpR X (compareOp .Lt) (uLtD X.K):=((op_ltD (by have:=hr.un;lia)).or o_lt).imp fun x y H Q q=>by
  unfold uLtD at q
  split at q
  . exact .inl q
  . exact .inr q
end
noncomputable def xLtD:AR2:=fun u w A Q=>match u,w with
  | .int i,.int j=>Q (.bl (decide (i < j))) A
  | .str i,.str j=>Q (.bl (decide (i.cps.toList < j.cps.toList))) A
  | .tup us,.tup ws=>∃ d e,DU A (.tup us) d/\DU A (.tup ws) e/\d.canLay0=true/\e.canLay0=true/\okLt d e=true/\d.depth<=190/\e.depth<=190/\Q (.bl (ltv d e)) A
  | .ref a,.ref b=>∃ d e,DU A (.ref a) d/\DU A (.ref b) e/\d.canLay0=true/\e.canLay0=true/\okLt d e=true/\d.depth<=190/\e.depth<=190/\Q (.bl (ltv d e)) A
  | _,_=>False
theorem ab_ltD {K:PySem.W.Frag}:AbR K (uLtD K) xLtD:=fun x y u w A H Q' Q hu hw g h k=>by
  unfold xLtD at h
  split at h
  . cases hu;cases hw;exact k _ _ _ _ (.refl H) g (.bl _) h
  . cases hu;cases hw;exact k _ _ _ _ (.refl H) g (.bl _) h
  . obtain ⟨d,e,h1,h2,c1,c2,ok,d1,d2,q⟩:=h
    have q1:=h1.rep g hu
    have q2:=h2.rep g hw
    cases hu
    exact ⟨d,e,q1,q2,c1,c2,ok,d1,d2,k _ _ _ _ (.refl H) g (.bl _) q⟩
  . obtain ⟨d,e,h1,h2,c1,c2,ok,d1,d2,q⟩:=h
    have q1:=h1.rep g hu
    have q2:=h2.rep g hw
    cases hu
    exact ⟨d,e,q1,q2,c1,c2,ok,d1,d2,k _ _ _ _ (.refl H) g (.bl _) q⟩
  . exact h.elim
section
variable {A:AHp} {Q:AVK} {i j:Int} {x y:Str} {us ws:List U} {p q:Addr}
theorem q_ltDi:(xLtD (.int i) (.int j) A Q)=(Q (.bl (decide (i < j))) A):=rfl
theorem q_ltDs:(xLtD (.str x) (.str y) A Q)=(Q (.bl (decide (x.cps.toList < y.cps.toList))) A):=rfl
theorem q_ltDt:(xLtD (.tup us) (.tup ws) A Q)=(∃ d e,DU A (.tup us) d/\DU A (.tup ws) e/\d.canLay0=true/\e.canLay0=true/\okLt d e=true/\d.depth<=190/\e.depth<=190/\Q (.bl (ltv d e)) A):=rfl
theorem q_ltDr:(xLtD (.ref p) (.ref q) A Q)=(∃ d e,DU A (.ref p) d/\DU A (.ref q) e/\d.canLay0=true/\e.canLay0=true/\okLt d e=true/\d.depth<=190/\e.depth<=190/\Q (.bl (ltv d e)) A):=rfl
end
end L2
set_option maxHeartbeats 1000000
namespace SortA
open PySem PySem.W PyProof.Rows
noncomputable def runT {α:Type} (lt:Nat->Nat->Bool):KasT α->α
  | .ret a=>a
  | .ask i j k=>runT lt (k (lt i j))
theorem runT_bind {α β:Type} (lt:Nat->Nat->Bool) (f:α->KasT β):∀ t:KasT α,runT lt (t.bind f)=runT lt (f (runT lt t))
  | .ret _=>rfl
  | .ask i j k=>by
    show runT lt ((k (lt i j)).bind f)=_
    exact runT_bind lt f _
noncomputable def AllP (n:Nat) {α:Type} (P:α->Prop):KasT α->Prop
  | .ret a=>P a
  | .ask i j k=>i < n/\j < n/\∀ b,AllP n P (k b)
theorem AllP.bind {n:Nat} {α β:Type} {P:α->Prop} {R:β->Prop} {f:α->KasT β} (hf:∀ a,P a->AllP n R (f a)):∀ t:KasT α,AllP n P t->AllP n R (t.bind f)
  | .ret a,h=>hf a h
  | .ask _ _ k,h=>⟨h.1,h.2.1,fun b=>AllP.bind hf (k b) (h.2.2 b)⟩
theorem wpT {α:Type} {cmp:Nat->Nat->(Bool->Shared->Prop)->Shared->Prop} {I:Shared->Prop} {lt:Nat->Nat->Bool} {n:Nat}
    (hc:∀ i j (C:Bool->Shared->Prop) (s:Shared),i < n->j < n->I s->(∀ s',I s'->C (lt i j) s')->cmp i j C s)
    {Q:α->Shared->Prop} {P:α->Prop}:∀ (t:KasT α) (s:Shared),AllP n P t->I s->(∀ s',I s'->Q (runT lt t) s')->t.kasWp cmp Q s
  | .ret _,s,_,hs,hq=>hq s hs
  | .ask i j k,s,hn,hs,hq=>hc i j _ s hn.1 hn.2.1 hs fun s' hs'=>wpT hc (k (lt i j)) s' (hn.2.2 _) hs' hq
noncomputable def PB (n:Nat) (p:Array Nat):Prop:=1<=n/\p.size=n/\∀ x∈p.toList,x < n
theorem PB.at {n:Nat} {p:Array Nat} (h:PB n p) (k:Nat):p.getD k 0 < n:=by
  by_cases hk:k < p.size
  . have e:p.getD k 0=p[k]'hk:=by simp [Array.getD,hk]
    rw [e]
    exact h.2.2 _ (by simp)
  . have e:p.getD k 0=0:=by simp [Array.getD,hk]
    rw [e];exact h.1
theorem PB.rev {n:Nat} {p:Array Nat} (h:PB n p) (i j:Nat):PB n (kas_rev p i j) :=
  ⟨h.1,(kas_rev_size i j).trans h.2.1,fun x hx=>h.2.2 x ((Array.perm_iff_toList_perm.mp (mirror_perm p i j ((j - i) / 2))).mem_iff.mp hx)⟩
theorem PB.bub {n:Nat} {p:Array Nat} (h:PB n p) (i j:Nat):PB n (bubble p i j) :=
  ⟨h.1,(bubble_size p i j).trans h.2.1,fun x hx=>h.2.2 x ((Array.perm_iff_toList_perm.mp (bubble_perm p i j)).mem_iff.mp hx)⟩
theorem all_asc {n:Nat} {p:Array Nat} (h:PB n p):∀ f m,AllP n (fun _=>True) (kas_asc p f m)
  | 0,_=>trivial
  | f + 1,m=>⟨h.at _,h.at _,fun b=>by cases b with
    | true=>exact trivial
    | false=>exact all_asc h f (m + 1)⟩
theorem all_desc {n:Nat}:∀ (f:Nat) (p:Array Nat) (m q:Nat),PB n p->AllP n (fun r=>PB n r.1) (kas_desc f p m q)
  | 0,_,_,_,h=>h
  | f + 1, p,m,q,h=>⟨h.at _,h.at _,fun b=>by
      cases b with
      | true =>
        show AllP n _ (if true=true then (if q > 0 then kas_desc f (kas_rev p (m - (q + 1)) m) (m + 1) 0 else kas_desc f p (m + 1) 0) else _)
        rw [if_pos rfl]
        by_cases hq:q > 0
        . rw [if_pos hq];exact all_desc f _ _ _ (h.rev _ _)
        . rw [if_neg hq];exact all_desc f _ _ _ h
      | false=>exact ⟨h.at _,h.at _,fun d=>by
          cases d with
          | true=>exact h
          | false=>exact all_desc f _ _ _ h⟩⟩
theorem all_tail3 {n m:Nat} {p:Array Nat} (h:PB n p):AllP n (fun r=>PB n r.2) (kas_tail3 m n p):=by
  refine AllP.bind (fun x _=>?_) _ (all_asc (h.rev 0 m) _ _)
  exact h.rev 0 m
theorem all_descPart {n m:Nat} {p:Array Nat} (h:PB n p):AllP n (fun r=>PB n r.2) (kas_descPart m n p):=by
  refine AllP.bind (fun r hr=>?_) _ (all_desc _ _ _ _ h)
  split
  . exact all_tail3 (hr.rev _ _)
  . exact all_tail3 hr
theorem all_count {n:Nat} {p:Array Nat} (h:PB n p):AllP n (fun r=>PB n r.2) (kas_count n p):=by
  refine AllP.bind (fun r _=>?_) _ (all_asc h _ _)
  split
  . exact h
  . split
    . exact ⟨h.at _,h.at _,fun b=>by
        cases b with
        | true=>exact h
        | false=>exact all_descPart (h.rev _ _)⟩
    . exact all_descPart h
theorem all_place {n:Nat} {p:Array Nat} (h:PB n p) (k:Nat):∀ f l r,AllP n (fun _=>True) (kas_place p k f l r)
  | 0,_,_=>trivial
  | f + 1, l,r=>by
    unfold kas_place
    split
    . exact trivial
    . exact ⟨h.at _,h.at _,fun b=>by
        cases b with
        | true=>exact all_place h k f _ _
        | false=>exact all_place h k f _ _⟩
theorem all_bin {n:Nat}:∀ (f:Nat) (p:Array Nat) (k:Nat),PB n p->AllP n (fun r=>PB n r) (kas_bin f p k)
  | 0,_,_,h=>h
  | f + 1,_,k,h=>AllP.bind (fun _ _=>all_bin f _ (k + 1) (h.bub _ _)) _ (all_place h k _ _ _)
theorem all_sort {n:Nat} (hn:1<=n):AllP n (fun r=>PB n r) (kas_sort n):=by
  refine AllP.bind (fun r hr=>?_) _ (all_count ⟨hn,by simp,fun x hx=>by simpa using hx⟩)
  split
  . exact all_bin _ _ _ hr
  . exact hr
structure Ord (n:Nat) (lt:Nat->Nat->Bool):Prop where
  tot:∀ i j,i < n->j < n->lt i j=true->lt j i=false
  tr:∀ i j k,i < n->j < n->k < n->lt j i=false->lt k j=false->lt k i=false
section
variable {n:Nat} {lt:Nat->Nat->Bool}
noncomputable def Pm (n:Nat) (p:Array Nat):Prop:=p.toList.Perm (List.range n)
theorem Pm.size {p:Array Nat} (h:Pm n p):p.size=n:=by
  have:=h.length_eq;simpa using this
theorem Pm.inb {p:Array Nat} (h:Pm n p) (i:Nat) (hi:i < n):p.getD i 0 < n:=by
  have hs:=h.size
  have e:p.getD i 0=p[i]'(by lia):=by simp [Array.getD,hs,hi]
  rw [e]
  have hm:p[i]'(by lia)∈p.toList:=by simp
  have:=h.mem_iff.mp hm
  simpa using this
theorem Pm.start:Pm n (List.toArray (List.range n)):=by unfold Pm;simp
theorem Pm.rev {p:Array Nat} (h:Pm n p) (i j:Nat):Pm n (kas_rev p i j):=by
  unfold Pm kas_rev
  have e:=mirror_perm p i j ((j - i) / 2)
  exact (Array.perm_iff_toList_perm.mp e).trans h
theorem Pm.bub {p:Array Nat} (h:Pm n p) (i j:Nat):Pm n (bubble p i j):=by
  unfold Pm
  have e:=bubble_perm p i j
  exact (Array.perm_iff_toList_perm.mp e).trans h
theorem getD_of {p:Array Nat} {k:Nat}:p.getD k 0=(p[k]?).getD 0:=by simp
theorem rev_at {p:Array Nat} {i j:Nat} (hj:j<=p.size) (k:Nat):(kas_rev p i j).getD k 0=if i<=k/\k < j then p.getD (i + j - 1 - k) 0 else p.getD k 0:=by
  rw [getD_of,getD_of,getD_of]
  unfold kas_rev
  rw [getElem?_mirror_all hj]
  split <;> rfl
theorem bub_at {p:Array Nat} {src:Nat} (hs:src < p.size) (d:Nat) (hd:d<=src) (k:Nat) :
    (bubble p src d).getD k 0=if k=src - d then p.getD src 0 else if src - d < k/\k<=src then p.getD (k - 1) 0 else p.getD k 0:=by
  rw [getD_of,getD_of,getD_of,getD_of,getElem?_bubble hs d hd]
  repeat' split
  all_goals rfl
noncomputable def Le (lt:Nat->Nat->Bool) (p:Array Nat) (i j:Nat):Prop:=lt (p.getD j 0) (p.getD i 0)=false
noncomputable def Up (lt:Nat->Nat->Bool) (p:Array Nat) (m:Nat):Prop:=∀ i j,i < j->j < m->Le lt p i j
noncomputable def Dn (lt:Nat->Nat->Bool) (p:Array Nat) (m:Nat):Prop:=∀ i j,i < j->j < m->Le lt p j i
theorem Le.trans (O:Ord n lt) {p:Array Nat} (hp:Pm n p) {i j k:Nat} (hi:i < n) (hj:j < n) (hk:k < n) (a:Le lt p i j) (b:Le lt p j k):Le lt p i k :=
  O.tr _ _ _ (hp.inb i hi) (hp.inb j hj) (hp.inb k hk) a b
theorem Le.self (O:Ord n lt) {p:Array Nat} (hp:Pm n p) {i:Nat} (hi:i < n):Le lt p i i:=by
  unfold Le
  cases h:lt (p.getD i 0) (p.getD i 0) with
  | false=>rfl
  | true=>have e:=O.tot _ _ (hp.inb i hi) (hp.inb i hi) h;rw [h] at e;exact e
theorem Le.of (O:Ord n lt) {p:Array Nat} (hp:Pm n p) {i j:Nat} (hi:i < n) (hj:j < n) (h:lt (p.getD i 0) (p.getD j 0)=true):Le lt p i j :=
  O.tot _ _ (hp.inb i hi) (hp.inb j hj) h
theorem Up.snoc (O:Ord n lt) {p:Array Nat} (hp:Pm n p) {m:Nat} (h1:1<=m) (hm:m < n) (h:Up lt p m) (hl:Le lt p (m - 1) m):Up lt p (m + 1):=by
  intro i j hij hj
  by_cases hjm:j < m
  . exact h i j hij hjm
  . obtain rfl:j=m:=by lia
    by_cases hi:i=j - 1
    . rw [hi];exact hl
    . exact Le.trans O hp (by lia) (by lia) (by lia) (h i (j - 1) (by lia) (by lia)) hl
theorem Dn.snoc (O:Ord n lt) {p:Array Nat} (hp:Pm n p) {m:Nat} (h1:1<=m) (hm:m < n) (h:Dn lt p m) (hl:Le lt p m (m - 1)):Dn lt p (m + 1):=by
  intro i j hij hj
  by_cases hjm:j < m
  . exact h i j hij hjm
  . obtain rfl:j=m:=by lia
    by_cases hi:i=j - 1
    . rw [hi];exact hl
    . exact Le.trans O hp (by lia) (by lia) (by lia) hl (h i (j - 1) (by lia) (by lia))
theorem asc_ok (O:Ord n lt) {p:Array Nat} (hp:Pm n p):∀ (f m:Nat),1<=m->m + f<=n->Up lt p m ->
    m <= runT lt (kas_asc p f m)/\runT lt (kas_asc p f m)<=m + f/\Up lt p (runT lt (kas_asc p f m)) /\
      (runT lt (kas_asc p f m) < m + f->lt (p.getD (runT lt (kas_asc p f m)) 0) (p.getD (runT lt (kas_asc p f m) - 1) 0)=true)
  | 0,m,_,_,hu=>⟨Nat.le_refl _,Nat.le_refl _,hu,fun h=>absurd h (Nat.lt_irrefl _)⟩
  | f + 1, m,h1,hf,hu=>by
    cases hc:lt (p.getD m 0) (p.getD (m - 1) 0) with
    | true =>
      have e:runT lt (kas_asc p (f + 1) m)=m:=by
        show runT lt (if lt (p.getD m 0) (p.getD (m - 1) 0)=true then KasT.ret m else kas_asc p f (m + 1))=m
        rw [if_pos hc];rfl
      rw [e]
      exact ⟨Nat.le_refl _,by lia,hu,fun _=>hc⟩
    | false =>
      have e:runT lt (kas_asc p (f + 1) m)=runT lt (kas_asc p f (m + 1)):=by
        show runT lt (if lt (p.getD m 0) (p.getD (m - 1) 0)=true then KasT.ret m else kas_asc p f (m + 1))=_
        rw [if_neg (by rw [hc];simp)]
      rw [e]
      obtain ⟨a,b,c,d⟩:=asc_ok O hp f (m + 1) (by lia) (by lia) (hu.snoc O hp h1 (by lia) hc)
      exact ⟨by lia,by lia,c,fun h=>d (by lia)⟩
noncomputable def Lk (lt:Nat->Nat->Bool) (p:Array Nat) (a b:Nat):Prop:=∀ i j,a<=i->i < b->a<=j->j < b->Le lt p i j
theorem Dn.rev {p:Array Nat} (hp:Pm n p) {a b m:Nat} (hb:b<=m) (hm:m<=n) (h:Dn lt p m) (hk:Lk lt p a b):Dn lt (kas_rev p a b) m:=by
  have hs:=hp.size
  intro i j hij hj
  unfold Le
  rw [rev_at (by lia),rev_at (by lia)]
  by_cases hi:a<=i/\i < b
  . rw [if_pos hi]
    by_cases hj':a<=j/\j < b
    . rw [if_pos hj'];exact hk _ _ (by lia) (by lia) (by lia) (by lia)
    . rw [if_neg hj'];exact h _ _ (by lia) (by lia)
  . rw [if_neg hi]
    by_cases hj':a<=j/\j < b
    . rw [if_pos hj'];exact h _ _ (by lia) (by lia)
    . rw [if_neg hj'];exact h _ _ hij hj
theorem Dn.up {p:Array Nat} {m:Nat} (hm:m<=p.size) (h:Dn lt p m):Up lt (kas_rev p 0 m) m:=by
  intro i j hij hj
  unfold Le
  rw [rev_at hm,rev_at hm,if_pos ⟨by lia,by lia⟩,if_pos ⟨by lia,by lia⟩]
  exact h _ _ (by lia) (by lia)
theorem desc_ok (O:Ord n lt):∀ (f:Nat) (p:Array Nat) (m q:Nat),Pm n p->q + 1<=m->m + f<=n->Dn lt p m->Lk lt p (m - (q + 1)) m ->
    ∃ p' m' q',runT lt (kas_desc f p m q)=(p',m',q')/\Pm n p'/\q' + 1<=m'/\m'<=m + f/\Dn lt p' m'/\Lk lt p' (m' - (q' + 1)) m'
  | 0,p,m,q,hp,hq,hf,hd,hl=>⟨p,m,q,rfl,hp,hq,by lia,hd,hl⟩
  | f + 1, p, m,q,hp,hq,hf,hd,hl=>by
    have hs:=hp.size
    have one:∀ p':Array Nat,Pm n p'->Lk lt p' (m + 1 - (0 + 1)) (m + 1):=by
      intro p' hp' i j h1 h2 h3 h4
      obtain rfl:i=m:=by lia
      obtain rfl:j=i:=by lia
      exact Le.self O hp' (by lia)
    cases hc:lt (p.getD m 0) (p.getD (m - 1) 0) with
    | true =>
      have hle:Le lt p m (m - 1):=Le.of O hp (by lia) (by lia) hc
      by_cases hq0:q > 0
      . have e:runT lt (kas_desc (f + 1) p m q)=runT lt (kas_desc f (kas_rev p (m - (q + 1)) m) (m + 1) 0):=by
          show runT lt (if lt (p.getD m 0) (p.getD (m - 1) 0)=true then (if q > 0 then kas_desc f (kas_rev p (m - (q + 1)) m) (m + 1) 0 else kas_desc f p (m + 1) 0) else _)=_
          rw [if_pos hc,if_pos hq0]
        have hd':Dn lt (kas_rev p (m - (q + 1)) m) (m + 1):=Dn.rev hp (by lia) (by lia) (hd.snoc O hp (by lia) (by lia) hle) hl
        obtain ⟨p',m',q',e',a,b,c,d,g⟩:=desc_ok O f _ (m + 1) 0 (hp.rev (m - (q + 1)) m) (by lia) (by lia) hd' (one _ (hp.rev _ _))
        exact ⟨p',m',q',e.trans e',a,b,by lia,d,g⟩
      . have e:runT lt (kas_desc (f + 1) p m q)=runT lt (kas_desc f p (m + 1) 0):=by
          show runT lt (if lt (p.getD m 0) (p.getD (m - 1) 0)=true then (if q > 0 then kas_desc f (kas_rev p (m - (q + 1)) m) (m + 1) 0 else kas_desc f p (m + 1) 0) else _)=_
          rw [if_pos hc,if_neg hq0]
        obtain ⟨p',m',q',e',a,b,c,d,g⟩:=desc_ok O f _ (m + 1) 0 hp (by lia) (by lia) (hd.snoc O hp (by lia) (by lia) hle) (one _ hp)
        exact ⟨p',m',q',e.trans e',a,b,by lia,d,g⟩
    | false =>
      cases hc2:lt (p.getD (m - 1) 0) (p.getD m 0) with
      | true =>
        have e:runT lt (kas_desc (f + 1) p m q)=(p,m,q):=by
          show runT lt (if lt (p.getD m 0) (p.getD (m - 1) 0)=true then _ else KasT.ask (p.getD (m - 1) 0) (p.getD m 0) fun d=>if d=true then .ret (p,m,q) else kas_desc f p (m + 1) (q + 1))=_
          rw [if_neg (by rw [hc];simp)]
          show runT lt (if lt (p.getD (m - 1) 0) (p.getD m 0)=true then _ else _)=_
          rw [if_pos hc2];rfl
        exact ⟨p,m,q,e,hp,hq,by lia,hd,hl⟩
      | false =>
        have e:runT lt (kas_desc (f + 1) p m q)=runT lt (kas_desc f p (m + 1) (q + 1)):=by
          show runT lt (if lt (p.getD m 0) (p.getD (m - 1) 0)=true then _ else KasT.ask (p.getD (m - 1) 0) (p.getD m 0) fun d=>if d=true then .ret (p,m,q) else kas_desc f p (m + 1) (q + 1))=_
          rw [if_neg (by rw [hc];simp)]
          show runT lt (if lt (p.getD (m - 1) 0) (p.getD m 0)=true then _ else _)=_
          rw [if_neg (by rw [hc2];simp)]
        have h1:Le lt p (m - 1) m:=hc
        have h2:Le lt p m (m - 1):=hc2
        have hl':Lk lt p (m + 1 - (q + 1 + 1)) (m + 1):=by
          intro i j a1 a2 a3 a4
          have hi:Le lt p i (m - 1)/\Le lt p (m - 1) i:=by
            by_cases x:i=m
            . rw [x];exact ⟨h2,h1⟩
            . exact ⟨hl _ _ (by lia) (by lia) (by lia) (by lia),hl _ _ (by lia) (by lia) (by lia) (by lia)⟩
          have hj:Le lt p j (m - 1)/\Le lt p (m - 1) j:=by
            by_cases x:j=m
            . rw [x];exact ⟨h2,h1⟩
            . exact ⟨hl _ _ (by lia) (by lia) (by lia) (by lia),hl _ _ (by lia) (by lia) (by lia) (by lia)⟩
          exact Le.trans O hp (by lia) (by lia:m - 1 < n) (by lia) hi.1 hj.2
        obtain ⟨p',m',q',e',a,b,c,d,g⟩:=desc_ok O f _ (m + 1) (q + 1) hp (by lia) (by lia) (hd.snoc O hp (by lia) (by lia) h2) hl'
        exact ⟨p',m',q',e.trans e',a,b,by lia,d,g⟩
noncomputable def Good (n:Nat) (lt:Nat->Nat->Bool) (r:Nat × Array Nat):Prop:=1<=r.1/\r.1<=n/\Pm n r.2/\Up lt r.2 r.1
theorem tail3_ok (O:Ord n lt) {p:Array Nat} {m:Nat} (hp:Pm n p) (h1:1<=m) (hm:m<=n) (hd:Dn lt p m):Good n lt (runT lt (kas_tail3 m n p)):=by
  unfold kas_tail3
  rw [runT_bind]
  have hs:=hp.size
  obtain ⟨a,b,c,_⟩:=asc_ok O (hp.rev 0 m) (n - m) m h1 (by lia) (hd.up (by lia))
  exact ⟨Nat.le_trans h1 a,by show runT lt (kas_asc (kas_rev p 0 m) (n - m) m)<=n;lia,hp.rev 0 m,c⟩
theorem descPart_ok (O:Ord n lt) {p:Array Nat} {m:Nat} (hp:Pm n p) (h1:1<=m) (hm:m < n) (hd:Dn lt p (m + 1)):Good n lt (runT lt (kas_descPart m n p)):=by
  unfold kas_descPart
  rw [runT_bind]
  have one:Lk lt p (m + 1 - (0 + 1)) (m + 1):=by
    intro i j h1 h2 h3 h4
    obtain rfl:i=m:=by lia
    obtain rfl:j=i:=by lia
    exact Le.self O hp (by lia)
  obtain ⟨p',m',q',e,a,b,c,d,g⟩:=desc_ok O (n - (m + 1)) p (m + 1) 0 hp (by lia) (by lia) hd one
  rw [e]
  dsimp only
  split
  . exact tail3_ok O (a.rev _ _) (by lia) (by lia) (Dn.rev a (Nat.le_refl _) (by lia) d g)
  . exact tail3_ok O a (by lia) (by lia) d
theorem count_ok (O:Ord n lt) {p:Array Nat} (hp:Pm n p) (hn:1<=n):Good n lt (runT lt (kas_count n p)):=by
  unfold kas_count
  rw [runT_bind]
  have hs:=hp.size
  have u1:Up lt p 1:=by intro i j a b;lia
  obtain ⟨a,b,c,d⟩:=asc_ok O hp (n - 1) 1 (Nat.le_refl _) (by lia) u1
  generalize runT lt (kas_asc p (n - 1) 1)=m at a b c d
  by_cases hm:m=n
  . rw [if_pos (by simp [hm])]
    exact ⟨a,by show m<=n;lia,hp,c⟩
  . rw [if_neg (by simp [hm])]
    have hlt:=d (by lia)
    by_cases h1:m > 1
    . rw [if_pos h1]
      show Good n lt (runT lt (if lt (p.getD 0 0) (p.getD (m - 1) 0)=true then _ else _))
      by_cases hc:lt (p.getD 0 0) (p.getD (m - 1) 0)=true
      . rw [if_pos hc];exact ⟨a,by show m<=n;lia,hp,c⟩
      . rw [if_neg hc]
        have hb:Le lt p (m - 1) 0:=by unfold Le;simpa using hc
        have hk : Lk lt p 0 m:=by
          intro i j _ hi _ hj
          have h0i:Le lt p 0 i/\Le lt p i 0:=by
            constructor
            . by_cases x:i=0
              . rw [x];exact Le.self O hp (by lia)
              . exact c 0 i (by lia) hi
            . by_cases x:i=m - 1
              . rw [x];exact hb
              . exact Le.trans O hp (by lia) (by lia:m - 1 < n) (by lia) (c i (m - 1) (by lia) (by lia)) hb
          have h0j:Le lt p 0 j:=by
            by_cases x:j=0
            . rw [x];exact Le.self O hp (by lia)
            . exact c 0 j (by lia) hj
          exact Le.trans O hp (by lia) (by lia:0 < n) (by lia) h0i.2 h0j
        have hd:Dn lt p m:=fun i j hij hj=>hk _ _ (by lia) (by lia) (by lia) (by lia)
        have hd1:Dn lt p (m + 1):=hd.snoc O hp a (by lia) (Le.of O hp (by lia) (by lia) hlt)
        exact descPart_ok O (hp.rev 0 m) a (by lia) (Dn.rev hp (by lia) (by lia) hd1 hk)
    . rw [if_neg h1]
      obtain rfl:m=1:=by lia
      refine descPart_ok O hp (Nat.le_refl _) (by lia) ?_
      refine Dn.snoc O hp (Nat.le_refl _) (by lia) (fun i j a b=>by lia) ?_
      exact Le.of O hp (by lia) (by lia) hlt
theorem place_ok (O:Ord n lt) {p:Array Nat} {k:Nat} (hp:Pm n p) (hk:k < n) (hu:Up lt p k):∀ (f l r:Nat),r<=k->r<=l + f->l<=r ->
    (∀ i,i < l->Le lt p i k)->(∀ i,r<=i->i < k->Le lt p k i) ->
    runT lt (kas_place p k f l r)<=k/\(∀ i,i < runT lt (kas_place p k f l r)->Le lt p i k)/\(∀ i,runT lt (kas_place p k f l r)<=i->i < k->Le lt p k i)
  | 0, l,r,hr,hf,hlr,h1,h2=>by
    obtain rfl:l=r:=by lia
    exact ⟨hr,h1,h2⟩
  | f + 1, l,r,hr,hf,hlr,h1,h2=>by
    unfold kas_place
    by_cases hge:l ≥ r
    . rw [if_pos hge]
      obtain rfl:l=r:=by lia
      exact ⟨hr,h1,h2⟩
    . rw [if_neg hge]
      show runT lt (if lt (p.getD k 0) (p.getD ((l + r) / 2) 0)=true then kas_place p k f l ((l + r) / 2) else kas_place p k f ((l + r) / 2 + 1) r)<=k/\(∀ i,i < runT lt (if lt (p.getD k 0) (p.getD ((l + r) / 2) 0)=true then kas_place p k f l ((l + r) / 2) else kas_place p k f ((l + r) / 2 + 1) r)->Le lt p i k)/\(∀ i,runT lt (if lt (p.getD k 0) (p.getD ((l + r) / 2) 0)=true then kas_place p k f l ((l + r) / 2) else kas_place p k f ((l + r) / 2 + 1) r)<=i->i < k->Le lt p k i)
      by_cases hc:lt (p.getD k 0) (p.getD ((l + r) / 2) 0)=true
      . rw [if_pos hc]
        have hle:Le lt p k ((l + r) / 2):=Le.of O hp hk (by lia) hc
        refine place_ok O hp hk hu f l ((l + r) / 2) (by lia) (by lia) (by lia) h1 fun i a b=>?_
        by_cases x:i=(l + r) / 2
        . rw [x];exact hle
        . exact Le.trans O hp hk (by lia:(l + r) / 2 < n) (by lia) hle (hu _ _ (by lia) b)
      . rw [if_neg hc]
        have hle:Le lt p ((l + r) / 2) k:=by unfold Le;simpa using hc
        refine place_ok O hp hk hu f ((l + r) / 2 + 1) r hr (by lia) (by lia) (fun i a=>?_) h2
        by_cases x:i=(l + r) / 2
        . rw [x];exact hle
        . exact Le.trans O hp (by lia) (by lia:(l + r) / 2 < n) hk (hu _ _ (by lia) (by lia)) hle
theorem bin_ok (O:Ord n lt):∀ (f:Nat) (p:Array Nat) (k:Nat),Pm n p->1<=k->k + f=n->Up lt p k->Pm n (runT lt (kas_bin f p k))/\Up lt (runT lt (kas_bin f p k)) n
  | 0,p,k,hp,_,hk,hu=>⟨hp,by have e:k=n:=(by lia);rw [<- e];exact hu⟩
  | f + 1, p, k,hp,h1,hk,hu=>by
    have hs:=hp.size
    show Pm n (runT lt ((kas_place p k k 0 k).bind fun l=>kas_bin f (bubble p k (k - l)) (k + 1)))/\Up lt (runT lt ((kas_place p k k 0 k).bind fun l=>kas_bin f (bubble p k (k - l)) (k + 1))) n
    rw [runT_bind]
    obtain ⟨a,b,c⟩:=place_ok O hp (by lia) hu k 0 k (Nat.le_refl _) (by lia) (by lia) (fun i h=>by lia) (fun i h h'=>by lia)
    generalize runT lt (kas_place p k k 0 k)=l at a b c
    refine bin_ok O f _ (k + 1) (hp.bub _ _) (by lia) (by lia) ?_
    intro i j hij hj
    unfold Le
    rw [bub_at (by lia) _ (by lia),bub_at (by lia) _ (by lia)]
    have e:k - (k - l)=l:=by lia
    rw [e]
    by_cases i1:i=l
    . rw [if_pos i1]
      rw [if_neg (by lia),if_pos (by lia)]
      exact c _ (by lia) (by lia)
    . rw [if_neg i1]
      by_cases j1:j=l
      . rw [if_pos j1,if_neg (by lia)]
        exact b i (by lia)
      . rw [if_neg j1]
        by_cases i2:l < i/\i<=k
        . rw [if_pos i2,if_pos (by lia)]
          exact hu _ _ (by lia) (by lia)
        . rw [if_neg i2]
          by_cases j2:l < j/\j<=k
          . rw [if_pos j2]
            by_cases x:i=j - 1
            . lia
            . exact hu _ _ (by lia) (by lia)
          . rw [if_neg j2]
            exact hu _ _ hij (by lia)
theorem sort_ok (O:Ord n lt) (hn:1<=n):Pm n (runT lt (kas_sort n))/\Up lt (runT lt (kas_sort n)) n:=by
  unfold kas_sort
  rw [runT_bind]
  obtain ⟨a,b,c,d⟩:=count_ok O (Pm.start (n:=n)) hn
  generalize runT lt (kas_count n (List.toArray (List.range n)))=r at a b c d
  split
  . have e:max r.1 1=r.1:=by lia
    rw [e]
    exact bin_ok O _ _ _ c a (by lia) d
  . have e:r.1=n:=by lia
    refine ⟨c,?_⟩
    show Up lt r.2 n
    rw [<- e];exact d
end
end SortA
namespace N2
open PySem PyProof.Rows
end N2
namespace N2
open PySem PyProof.Rows PySem.F
end N2
namespace L2
open PySem PySem.Spec PyProof.Rows N2
theorem valsAt:∀ {xs:List V} {us:List Value} {i:Nat} {u:Value},Vals xs us->us[i]? = some u->∃ x,xs[i]? = some x/\RelV x u
  | _,_,_,_,.nil,e=>by simp at e
  | _,_,0,_,.cons h _,e=>by simp at e;subst e;exact ⟨_,rfl,h⟩
  | _,_,i + 1,_,.cons _ r,e=>by simp at e;simpa using valsAt r e
theorem Reps.at {K:PySem.W.Frag} {H:Hp}:∀ {ds:List PyData} {vs:List V} {i:Nat} {v:V},Reps K H ds vs->vs[i]? = some v->∃ d,ds[i]? = some d/\Rep K H d v
  | _,_,_,_,.nil,e=>by simp at e
  | _,_,0,_,.cons h _,e=>by simp at e;subst e;exact ⟨_,rfl,h⟩
  | _,_,i + 1,_,.cons _ r,e=>by simp at e;simpa using Reps.at r e
theorem Reps.len {K:PySem.W.Frag} {H:Hp}:∀ {ds:List PyData} {vs:List V},Reps K H ds vs->ds.length=vs.length
  | _,_,.nil=>rfl
  | _,_,.cons _ r=>by rw [List.length_cons,List.length_cons,r.len]
noncomputable def ltD (ds:List PyData) (i j:Nat):Bool:=ltv (ds.getD i .none) (ds.getD j .none)
noncomputable def OkD (ds:List PyData):Prop:=(∀ d∈ds,d.canLay0=true/\d.depth<=190)/\∀ d∈ds,∀ e∈ds,okLt d e=true
end L2
namespace L2
open PySem PySem.Spec PySem.W PyProof.Rows
section
variable {prog:Program} {w:World} {A:Around} {E:Value->Shared->Prop} {s:Shared} {Q:Bool->Shared->Prop}
noncomputable def intFst:PyData->Bool
  | .tuple (.int _::_)=>true
  | _=>false
theorem lexU1 {u a b c d L:Nat} (h:u + (max (max a b) (max c d) + 1) < L):u + min a c < L:=by
  have h1:min a c<=a:=Nat.min_le_left a c
  have h2:a<=max (max a b) (max c d):=Nat.le_trans (Nat.le_max_left a b) (Nat.le_max_left _ _)
  lia
theorem lexU2 {u a b c d L:Nat} (h:u + (max (max a b) (max c d) + 1) < L):u + (max b d + 1) < L:=by
  have h2:max b d<=max (max a b) (max c d):=Nat.max_le.mpr ⟨Nat.le_trans (Nat.le_max_right a b) (Nat.le_max_left _ _),Nat.le_trans (Nat.le_max_right c d) (Nat.le_max_right _ _)⟩
  lia
theorem lexU3 {u a b c d L:Nat} (h:u + (max (max a b) (max c d) + 1) < L):u + max a c < L:=by
  have h2:max a c<=max (max a b) (max c d):=Nat.max_le.mpr ⟨Nat.le_trans (Nat.le_max_left a b) (Nat.le_max_left _ _),Nat.le_trans (Nat.le_max_left c d) (Nat.le_max_right _ _)⟩
  lia
theorem lex_reads:∀ (xs ys:List PyData) (vs ws:List Value) (as bs:List Addr) (i:Nat),ReadsAll s.heap vs xs as->ReadsAll s.heap ws ys bs->PyData.canLayAll0 xs=true->PyData.canLayAll0 ys=true->okLtA xs ys=true ->
    A.units + (max (PyData.depthAll xs) (PyData.depthAll ys) + 1) < cLine->(i=0->intFst (.tuple xs)=true/\intFst (.tuple ys)=true)->Q (ltvA xs ys) s->KatLex prog w A true (decide (xs.length < ys.length)) Q (vs.zip ws) i s:=by
  intro xs
  induction xs with
  | nil =>
    intro ys vs ws as bs i rx ry cx cy ok hu hi q
    cases rx
    cases ry with
    | nil=>exact q
    | cons r1 r2 =>
      rename_i d ds _ _
      have e:decide (([]:List PyData).length < (d::ds).length)=true:=by simp
      rw [e];exact q
  | cons x xs ih =>
    intro ys vs ws as bs i rx ry cx cy ok hu hi q
    cases rx with
    | cons rx rxs =>
      cases ry with
      | nil=>exact q
      | cons ry rys =>
        rename_i y ys _ _
        simp only [PyData.canLayAll0,Bool.and_eq_true] at cx cy
        simp only [PyData.depthAll] at hu
        refine kat_cons (SeqAt.eqAt_reads x y A s _ _ _ _ rx ry cx.1 cy.1 (lexU1 hu) prog w _ _ ?_)
        refine kat_go (fun e=>kat_yes ?_) fun e=>kat_no ?_
        . have e1:decide ((x::xs).length < (y::ys).length)=decide (xs.length < ys.length):=by simp
          rw [e1]
          simp only [ltvA,e,if_true] at q
          simp only [okLtA,e,if_true] at ok
          exact ih ys _ _ _ _ (i + 1) rxs rys cx.2 cy.2 ok (lexU2 hu) (fun z=>absurd z (Nat.succ_ne_zero i)) q
        . simp only [ltvA,e,Bool.false_eq_true,if_false] at q
          simp only [okLtA,e,Bool.false_eq_true,if_false] at ok
          by_cases h0:i=0
          . obtain ⟨f1,f2⟩:=hi h0
            subst h0
            cases x <;> simp [intFst] at f1
            cases y <;> simp [intFst] at f2
            cases rx;cases ry
            exact oneLt_int q
          . have e2:(true && i == 0)=false:=by simp [h0]
            rw [e2]
            exact kat_one _ _ (ltAt_reads _ x y A s _ _ _ _ (Nat.le_refl _) rx ry cx.1 cy.1 ok (lexU3 hu) prog w (fun _ _=>False) _ q)
theorem keyLt_reads {x y:Value} {dx dy:PyData} {as bs:List Addr} (rx:Reads s.heap x dx as) (ry:Reads s.heap y dy bs) (cx:dx.canLay0=true) (cy:dy.canLay0=true) (ok:okLt dx dy=true) (fx:intFst dx=true) (fy:intFst dy=true)
    (hu:A.units + (max dx.depth dy.depth + 1) < cLine) (q:Q (ltv dx dy) s):wpAny (model prog w) A (keyLt' (tuples' true) x y) Q E s:=by
  cases rx with
  | tuple k1 k2 k3 k4 =>
    cases ry with
    | tuple j1 j2 j3 j4 =>
      simp only [PyData.canLay0] at cx cy
      simp only [PyData.depth] at hu
      simp only [okLt] at ok
      have l1:=readsAll_len k4
      have l2:=readsAll_len j4
      refine kat_lt k1 k3 j1 j3 ?_
      have:=lex_reads (prog:=prog) (w:=w) (A:=A) _ _ _ _ _ _ 0 k4 j4 cx cy ok (by lia) (fun _=>⟨fx,fy⟩) q
      rw [<- l1,<- l2,Array.length_toList,Array.length_toList] at this
      exact this
    | _=>simp [intFst] at fy
  | _=>simp [intFst] at fx
end
section
variable {X:Cx} {pins:List (Addr × Obj)} {σ:St}
theorem Inv.adopt {H:Hp} {s:Shared} {a:Addr} {xs:List V} {its:List Value} {n:Nat} (I:Inv X pins σ H s) (f:FpOk X pins H a) (h0:X.s₀.heap.objs.size<=a) (r:Vals xs its) (hz:xs.length<=sizeLine)
    (e:s.heap.get? a=some { cls:=.type "list",data:=.seq its.toArray n }):Inv X pins σ (upd H a (.lst xs)) s:=by
  obtain ⟨f0,f1,f2,f3,f4,f5⟩:=f
  have ne:∀ b u,H b=some u->b≠a:=fun b u q z=>by rw [z,f0] at q;cases q
  have old:∀ b o,X.s₀.heap.get? b=some o->b≠a:=fun b o q=>Nat.ne_of_lt (Nat.lt_of_lt_of_le (Heap.lt_size q) h0)
  refine ⟨I.ok,I.os,I.bare,⟨I.base.keep,I.base.slot,fun b o q n hx=>?_,I.base.there,fun b xs q=>?_,fun b o u q=>?_,fun b ps q=>?_⟩,I.loc,I.cell,?_,fun x c q=>?_,fun p hp=>?_,fun b u q=>?_,I.len⟩
  . rw [upd_ne (old b o q)];exact I.base.free b o q n hx
  . have:=I.base.tups b xs q;rw [upd_ne (ne _ _ this)];exact this
  . have:=I.base.frzs b o u q;rw [upd_ne (ne _ _ this)];exact this
  . obtain ⟨m,q'⟩:=I.base.tbls b ps q;exact ⟨m,by rw [upd_ne (ne _ _ q')];exact q'⟩
  . rw [upd_ne (Ne.symm f1)];exact I.free
  . rw [upd_ne (f4 x c q)];exact I.freeC x c q
  . obtain ⟨p1,p2,p3⟩:=I.pin p hp;exact ⟨p1,by rw [upd_ne (f5 p hp)];exact p2,p3⟩
  . by_cases hb:b=a
    . subst hb;rw [upd_same] at q;cases q;exact ⟨hz,its,n,r,e⟩
    . rw [upd_ne hb] at q
      exact (I.hok b u q).stay (fun _ _ _ z=>z) (fun c z=>by rw [upd_ne (ne _ _ z)];exact z) (fun c ys z=>by rw [upd_ne (ne _ _ z)];exact z)
theorem Inv.mine {H:Hp} {s:Shared} {a:Addr} {h':Heap} {t':Nat} (I:Inv X pins σ H s) (f:FpOk X pins H a) (k:∀ b o,b≠a->s.heap.get? b=some o->h'.get? b=some o):Inv X pins σ H { s with heap:=h',toks:=t' } :=
  I.turned k f.1 f.2.1 f.2.2.2.1 f.2.2.2.2.1 f.2.2.2.2.2
theorem RUs.getD {K:PySem.W.Frag} {H:Hp} {us:List U} {vs:List V} {its:List Value} (r:RUs K H us vs) (rv:Vals vs its) (i:Nat) (hi:i < us.length):∃ v,vs[i]? = some v/\RU K H (us.getD i .non) v/\RelV v (its.getD i .none):=by
  obtain ⟨v,hv,hr⟩:=r.get' (i:=i) (u:=us[i]) (List.getElem?_eq_getElem hi)
  obtain ⟨x,hx,rel⟩:=rv.get hv
  exact ⟨v,hv,by rw [List.getD_eq_getElem?_getD,List.getElem?_eq_getElem hi];exact hr,by rw [List.getD_eq_getElem?_getD,hx];exact rel⟩
theorem RUs.picked {K:PySem.W.Frag} {H:Hp} {us:List U} {vs:List V} {its:List Value} (r:RUs K H us vs) (rv:Vals vs its):∀ (ps:List Nat),(∀ p∈ps,p < us.length) ->
    ∃ ys,RUs K H (ps.map fun i=>us.getD i .non) ys/\Vals ys (ps.map fun i=>its.getD i .none)
  | [],_=>⟨[],.nil,.nil⟩
  | p :: ps,h=>by
    obtain ⟨v,_,h1,h2⟩:=RUs.getD r rv p (h p (.head _))
    obtain ⟨ys,h3,h4⟩:=RUs.picked r rv ps fun q hq=>h q (.tail _ hq)
    exact ⟨v::ys,.cons h1 h3,.cons h2 h4⟩
theorem RUs.katRev {K:PySem.W.Frag} {H:Hp} {us:List U} {vs:List V} (b:Bool) (r:RUs K H us vs):RUs K H (katRev b us) (katRev b vs):=by
  unfold PySem.W.katRev;split
  . exact r.rev
  . exact r
theorem vals_rev {vs:List V} {its:List Value} (r:Vals vs its):Vals vs.reverse its.reverse:=by
  induction vs generalizing its with
  | nil=>cases r;exact .nil
  | cons v vs ih =>
    cases r with
    | cons h t=>rw [List.reverse_cons,List.reverse_cons];exact Vals.append (ih t) (.cons h .nil)
theorem vals_katRev {vs:List V} {its:List Value} (b:Bool) (r:Vals vs its):Vals (katRev b vs) (katRev b its):=by
  unfold PySem.W.katRev;split
  . exact vals_rev r
  . exact r
noncomputable def srt (b:Bool) (us:List U) (ds:List PyData):List U:=if us.length < 2 then us else katRev b ((SortA.runT (ltD (katRev b ds)) (kas_sort us.length)).toList.map fun i=>(katRev b us).getD i .non)
section
variable {B:Around} {E:Value->Shared->Prop} {f:Value} {b:Bool} {A:AHp} {us:List U} {H:Hp} {s:Shared} {a kS:Addr} {e e1:Nat} {P:PySem.Fin->Shared->Prop}
theorem fp_of {Y:Cx} {H H':Hp} {p:Addr} (f:FpOk Y pins H p) (h:H' p=none):FpOk Y pins H' p:=⟨h,f.2⟩
theorem sort_tail {st:SortSt} {out ks:List Value} (I:Inv X pins σ H s) (fa:FpOk X pins H a) (fk:FpOk X pins H kS) (hak:a≠kS) (oa:s.heap.get? a=some (seqObj "list" #[] e1)) (ok:s.heap.get? kS=some (seqObj "list" ks.toArray e))
    (hout:(arrOf st).map (·.2)=List.toArray out) (hz:out.length < 64) (hkz:ks.length < 64) (hf:failedOf st=none)
    (h:∀ s' c,Inv X pins σ H s'->s'.heap.get? a=some (seqObj "list" (katRev b out).toArray c)->P (.done (.ret .none)) s') :
    wpAny (model X.prog X.w) B (ksk_tail a b e1 (.ref kS) st) P E s:=by
  have s1:=Heap.SameBut.update s.heap kS (Obj.mapSeq fun _=>(#[]:Array Value))
  have na:(s.heap.update kS (Obj.mapSeq fun _=>(#[]:Array Value))).get? a=some (seqObj "list" #[] e1):=(s1.2 a hak).trans oa
  have s2:=Heap.SameBut.update (s.heap.update kS (Obj.mapSeq fun _=>(#[]:Array Value))) a (Obj.mapSeq fun _=>List.toArray (katRev b out))
  have hsz:(List.toArray (katRev b out)).size=out.length:=by rw [List.size_toArray,kat_len]
  unfold ksk_tail
  try dsimp only
  rw [hout,kat_outs]
  refine wpAny_bind (listUpdate_at ok rfl (show _ from ?_) (by rw [List.size_toArray,sizeLine_eq];lia) (Nat.zero_le _))
  refine wpAny_bind (wpAny_letGo (show _ from ?_))
  refine wpAny_bind (seqEpoch_at na rfl (show _ from ?_))
  refine wpAny_bind (listUpdate_at na rfl (show _ from ?_) (Nat.zero_le _) (Nat.le_trans (Nat.le_of_eq hsz) (by rw [sizeLine_eq];lia)))
  rw [hf]
  simp only [bne_self_eq_false,Bool.false_eq_true,if_false]
  have I1:=I.mine (t':=s.toks) fk fun p o hp q=>(s1.2 p hp).trans q
  have I2:=I1.mine (t':=s.toks) (s:={ s with heap:=s.heap.update kS (Obj.mapSeq fun _=>(#[]:Array Value)),toks:=s.toks }) fa fun p o hp q=>(s2.2 p hp).trans q
  exact wpAny_pure (h _ _ I2 (get?_update_seq na fun _=>List.toArray (katRev b out)))
variable {kf:U->U} {dk:U->PyData} {Z:Hp->Prop}
theorem reads_at (I:Inv X pins σ H s) (g:HR X.K H A) {kus:List U} {kvs:List V} {ks:List Value} {ds:List PyData} (rk:RUs X.K H kus kvs) (rv:Vals kvs ks) (hd:DUs A kus ds) (i:Nat) (hi:i < ks.length) :
    ∃ as,Reads s.heap (ks.getD i .none) (ds.getD i .none) as:=by
  have rep:=DUs.reps g hd rk
  obtain ⟨x,hx,rel⟩:=valsAt rv (List.getElem?_eq_getElem hi)
  obtain ⟨d,h1,h2⟩:=rep.at hx
  obtain ⟨as,ra⟩:=Rep.reads I h2 rel
  refine ⟨as,?_⟩
  rw [List.getD_eq_getElem?_getD,List.getD_eq_getElem?_getD,List.getElem?_eq_getElem hi,h1]
  exact ra
theorem dus_rev {A:AHp}:∀ {us:List U} {ds:List PyData},DUs A us ds->DUs A us.reverse ds.reverse:=by
  have app:∀ {us ws:List U} {ds es:List PyData},DUs A us ds->DUs A ws es->DUs A (us++ws) (ds++es):=by
    intro us
    induction us with
    | nil=>intro ws ds es h k;cases h;exact k
    | cons u us ih=>intro ws ds es h k;cases h with | cons p q=>exact .cons p (ih q k)
  intro us
  induction us with
  | nil=>intro ds h;cases h;exact .nil
  | cons u us ih =>
    intro ds h
    cases h with
    | cons p q=>rw [List.reverse_cons,List.reverse_cons];exact app (ih q) (.cons p .nil)
theorem dus_katRev {us:List U} {ds:List PyData} (b:Bool) (h:DUs A us ds):DUs A (katRev b us) (katRev b ds):=by
  unfold PySem.W.katRev;split
  . exact dus_rev h
  . exact h
theorem mem_katRev {α:Type} {b:Bool} {l:List α} {x:α} (h:x∈katRev b l):x∈l:=by
  unfold PySem.W.katRev at h;split at h
  . exact List.mem_reverse.mp h
  . exact h
theorem okD_katRev {ds:List PyData} (b:Bool) (h:OkD ds):OkD (katRev b ds):=⟨fun d hd=>h.1 d (mem_katRev hd),fun d hd e he=>h.2 d (mem_katRev hd) e (mem_katRev he)⟩
theorem katTups_of (hs:Heap):∀ {ks:List Value} {ds:List PyData} {n:Nat},ks.length=n->ds.length=n->(∀ i,i < n->∃ as,Reads hs (ks.getD i .none) (ds.getD i .none) as)->(∀ d∈ds,intFst d=true) ->
    ∃ fs:List Value,KatTups hs ks fs/\fs.length=n/\∀ v∈fs,∃ i t,v=.int i t
  | [],[],_,h1,_,_,_=>⟨[],trivial,h1,fun v hv=>nomatch hv⟩
  | k :: ks, d::ds,n,h1,h2,hr,hi=>by
    obtain ⟨m,rfl⟩:∃ m,n=m + 1:=⟨ks.length,by rw [<- h1];rfl⟩
    obtain ⟨fs,t,l,all⟩:=katTups_of hs (n:=m) (by simpa using h1) (by simpa using h2) (fun i hlt=>by simpa using hr (i + 1) (by lia)) fun d hd=>hi d (.tail _ hd)
    obtain ⟨as,ra⟩:=hr 0 (by lia)
    have ra:Reads hs k d as:=by simpa using ra
    have fi:=hi d (.head _)
    cases ra with
    | @tuple a0 o its n0 xs as1 k1 k2 k3 k4 =>
      have hl:=readsAll_len k4
      cases xs with
      | nil=>simp [intFst] at fi
      | cons x xs =>
        cases x <;> simp [intFst] at fi
        rename_i i
        obtain ⟨x',bs,e,rx⟩:=readsAll_at k4 0 (by rw [hl];simp)
        simp at e
        subst e
        have h0:0 < its.toList.length:=by rw [hl];simp
        obtain ⟨v0,hv0⟩:∃ v0,v0=its.toList[0]'h0:=⟨_,rfl⟩
        rw [<- hv0] at rx
        cases rx
        rename_i t
        refine ⟨.int i t::fs,⟨⟨_,_,_,_,rfl,k1,k2,k3,?_⟩,‹KatTups _ _ _›⟩,by simp [l],?_⟩
        . rw [<- Array.getElem?_toList,List.getElem?_eq_getElem h0,hv0]
        . intro v hv
          rcases List.mem_cons.mp hv with rfl | hv
          . exact ⟨_,_,rfl⟩
          . exact all v hv
    | _=>simp [intFst] at fi
theorem runs_ok {n:Nat} (hn:1<=n) (lt:Nat->Nat->Bool):(SortA.runT lt (kas_sort n)).size=n/\∀ p∈(SortA.runT lt (kas_sort n)).toList,p < n:=by
  have go:∀ {α:Type} {R:α->Prop} (t:KasT α),SortA.AllP n R t->R (SortA.runT lt t):=by
    intro α R t
    induction t with
    | ret a=>intro h;exact h
    | ask i j k ih=>intro h;exact ih _ (h.2.2 _)
  exact (go _ (SortA.all_sort hn)).2
theorem srt_len (b:Bool) (us:List U) (ds:List PyData):(srt b us ds).length=us.length:=by
  unfold srt
  split
  . rfl
  . rw [kat_len,List.length_map,Array.length_toList,(runs_ok (by lia) _).1]
theorem sort_end {ks its:List Value} {vs kvs:List V} (I:Inv X pins σ H s) (g:HR X.K H A) (r:RUs X.K H us vs) (rv:Vals vs its) (rk:RUs X.K H (us.map kf) kvs) (rkv:Vals kvs ks) (h64:us.length < 64)
    (fa:FpOk X pins H a) (fk:FpOk X pins H kS) (hak:a≠kS) (oa:s.heap.get? a=some (seqObj "list" #[] e1)) (ok:s.heap.get? kS=some (seqObj "list" ks.toArray e))
    (hdu:DUs A (us.map kf) (us.map dk)) (hok:OkD (us.map dk)) (hin:∀ u∈us,intFst (dk u)=true) (hun:B.units + 200 < cLine)
    (h:∀ s' ys its' c,Inv X pins σ H s'->s'.heap.get? a=some (seqObj "list" its'.toArray c)->RUs X.K H (srt b us (us.map dk)) ys->Vals ys its'->P (.done (.ret .none)) s') :
    wpAny (model X.prog X.w) B (ksk_end a b its.toArray e1 (.ref kS) (List.toArray ks)) P E s:=by
  have l1:its.length=us.length:=by rw [<- rv.length,r.length]
  have l2:ks.length=us.length:=by rw [<- rkv.length,<- rk.length,List.length_map]
  have hl:ks.length=its.length:=by rw [l1,l2]
  have step:∀ t:Sem PySem.Fin,wpAny (model X.prog X.w) B t P E s->wpAny (model X.prog X.w) B (if b=true then (do let _ <- rule "list.sort.reverse";t) else t) P E s:=by
    intro t ht
    split
    . exact wpAny_bind (wpAny_rule ht)
    . exact ht
  unfold ksk_end
  try dsimp only
  refine step _ ?_
  rw [kat_pairs b hl]
  by_cases hn:us.length < 2
  . have hn2:its.toArray.size < 2:=by rw [List.size_toArray];lia
    rw [if_pos hn2,if_pos hn2]
    refine wpAny_bind (wpAny_pure ?_)
    refine wpAny_bind (wpAny_pure ?_)
    have hrev:katRev b its=its:=by
      unfold PySem.W.katRev
      split
      . match its,l1 with
        | [],_=>rfl
        | [x],_=>rfl
        | x::y::z,q=>simp at q;lia
      . rfl
    have hz:((List.toArray (katRev b ks)).zip (List.toArray (katRev b its))).map (·.2)=List.toArray its:=by
      apply Array.toList_inj.mp
      rw [Array.toList_map,ksk_zip,hrev]
      simp only [List.toList_toArray]
      rw [List.map_snd_zip (by rw [kat_len];lia)]
    refine sort_tail (out:=its) I fa fk hak oa ok hz (by rw [l1];exact h64) (by rw [l2];exact h64) rfl fun s' c I' o'=>?_
    rw [hrev] at o'
    exact h s' vs its c I' o' (by unfold srt;rw [if_pos hn];exact r) rv
  . have hn2:¬ its.toArray.size < 2:=by rw [List.size_toArray];lia
    rw [if_neg hn2,if_neg hn2]
    have hd':=dus_katRev (A:=A) b hdu
    have hok':=okD_katRev b hok
    have rk':=rk.katRev b
    have rkv':=vals_katRev b rkv
    have hld:(katRev b (us.map dk)).length=us.length:=by rw [kat_len,List.length_map]
    have hlk:(katRev b ks).length=us.length:=by rw [kat_len,l2]
    have rds:∀ i,i < us.length->∃ as,Reads s.heap ((katRev b ks).getD i .none) ((katRev b (us.map dk)).getD i .none) as:=fun i hi=>reads_at I g rk' rkv' hd' i (by lia)
    have mem:∀ i,i < us.length->(katRev b (us.map dk)).getD i .none∈katRev b (us.map dk):=fun i hi=>by
      rw [List.getD_eq_getElem?_getD,List.getElem?_eq_getElem (by lia)];exact List.getElem_mem _
    have int':∀ d∈us.map dk,intFst d=true:=fun d hd=>by
      obtain ⟨u,hu,rfl⟩:=List.mem_map.mp hd;exact hin u hu
    obtain ⟨fs,kt,lf,all⟩:=katTups_of s.heap (ks:=ks) (ds:=us.map dk) (n:=us.length) l2 (by rw [List.length_map]) (fun i hi=>reads_at I g rk rkv hdu i (by lia)) int'
    refine wpAny_bind (kat_kind (T:=.type "int") kt (by lia) (fun v hv=>by obtain ⟨i,t,rfl⟩:=all v hv;exact Looks.of_pure rfl) rfl ?_)
    have hT:(Value.type "int" != Value.type "tuple")=true:=by decide
    rw [hT]
    have hlr:(katRev b ks).length=(katRev b its).length:=by rw [kat_len,kat_len,hl]
    refine wpAny_bind (wpAny_mono (kat_run (Q:=fun st' s'=>s'=s/\arrOf st'=(SortA.runT (ltD (katRev b (us.map dk))) (kas_sort us.length)).map (kas_item ((List.toArray (katRev b ks)).zip (List.toArray (katRev b its))))/\failedOf st'=none/\(SortA.runT (ltD (katRev b (us.map dk))) (kas_sort us.length)).size=(katRev b its).length)
      (G:=fun p s'=>s'=s/\p=SortA.runT (ltD (katRev b (us.map dk))) (kas_sort us.length)) hlr (by rw [kat_len];lia) (by rw [kat_len];lia) (fun p' st' s' a1 a2 a3 a4=>⟨a4.1,by rw [a2,a4.2],a3,by rw [<- a4.2];exact a1⟩) ?_) ?_ fun _ _ x=>x)
    . rw [kat_len,l1]
      refine SortA.wpT (I:=fun s'=>s'=s) (lt:=ltD (katRev b (us.map dk))) (n:=us.length) (fun i j C s0 hi hj hs hC=>?_) _ s (SortA.all_sort (by lia)) rfl fun s' hs=>⟨hs,rfl⟩
      subst hs
      obtain ⟨as,ra⟩:=rds i hi
      obtain ⟨bs,rb⟩:=rds j hj
      have m1:=mem i hi
      have m2:=mem j hj
      have d1:=(hok'.1 _ m1).2
      have d2:=(hok'.1 _ m2).2
      exact keyLt_reads ra rb (hok'.1 _ m1).1 (hok'.1 _ m2).1 (hok'.2 _ m1 _ m2) (int' _ (mem_katRev m1)) (int' _ (mem_katRev m2)) (by lia) (hC _ rfl)
    . rintro ⟨⟨⟩,st'⟩ s' ⟨e0,har,hf,hsz⟩
      subst e0
      have hps:=(runs_ok (n:=us.length) (by lia) (ltD (katRev b (us.map dk)))).2
      have hpl:(SortA.runT (ltD (katRev b (us.map dk))) (kas_sort us.length)).toList.length<=us.length:=by
        rw [Array.length_toList,hsz,kat_len,l1];exact Nat.le_refl _
      obtain ⟨ys,r1,r2⟩:=RUs.picked (r.katRev b) (vals_katRev b rv) (SortA.runT (ltD (katRev b (us.map dk))) (kas_sort us.length)).toList (fun p hp=>by rw [kat_len];exact hps p hp)
      refine sort_tail (out:=(SortA.runT (ltD (katRev b (us.map dk))) (kas_sort us.length)).toList.map fun i=>(katRev b its).getD i .none) I fa fk hak oa ok (kat_snds hlr har) (by rw [List.length_map];lia) (by lia) hf fun s'' c I' o'=>?_
      exact h s'' (katRev b ys) _ c I' o' (by unfold srt;rw [if_neg hn];exact r1.katRev b) (vals_katRev b r2)
noncomputable def KeyCall (X:Cx) (pins:List (Addr × Obj)) (σ:St) (B:Around) (f:Value) (A:AHp) (us:List U) (kf:U->U) (Z:Hp->Prop):Prop :=
  ∀ (pl:List (Addr × Obj)) (s:Shared) (H:Hp) (u:U) (v:V) (x:Value),Inv X (pins++pl) σ H s->HR X.K H A->Z H->u∈us->RU X.K H u v->RelV v x ->
    wpAny (model X.prog X.w) B (call f [x]) (fun y s'=>∃ H' z,Inv X (pins++pl) σ H' s'/\Kp X.K H H'/\HR X.K H' A/\RU X.K H' (kf u) z/\RelV z y) (fun _ _=>False) s
theorem sort_rest {its:List Value} {vs:List V} (I:Inv X pins σ H s) (g:HR X.K H A) (r:RUs X.K H us vs) (rv:Vals vs its) (h64:us.length < 64)
    (fa:FpOk X pins H a) (fk:FpOk X pins H kS) (hak:a≠kS) (oa:s.heap.get? a=some (seqObj "list" #[] e1)) (ok:s.heap.get? kS=some (seqObj "list" #[] 0))
    (hdu:DUs A (us.map kf) (us.map dk)) (hok:OkD (us.map dk)) (hin:∀ u∈us,intFst (dk u)=true) (hun:B.units + 200 < cLine) (hcall:KeyCall X pins σ B f A us kf Z) (z0:Z H) (hZ:∀ H H',Z H->Kp X.K H H'->Z H')
    (h:∀ H' s' ys its' c,Inv X pins σ H' s'->Kp X.K H H'->HR X.K H' A->FpOk X pins H' a->s'.heap.get? a=some (seqObj "list" its'.toArray c)->RUs X.K H' (srt b us (us.map dk)) ys->Vals ys its'->P (.done (.ret .none)) s') :
    wpAny (model X.prog X.w) B (ksk_rest a f b its.toArray e1 (.ref kS)) P E s:=by
  have l1:its.length=us.length:=by rw [<- rv.length,r.length]
  unfold ksk_rest
  refine wpAny_bind (wpAny_rule ?_)
  first
    | rw [List.forIn_toArray]
    | (rw [<- Array.forIn_toList];simp only [List.toList_toArray])
  refine wpAny_bind (ksk_fold (fun j s'=>∃ H' kvs ks e,Inv X pins σ H' s'/\Kp X.K H H'/\HR X.K H' A/\FpOk X pins H' a/\FpOk X pins H' kS/\s'.heap.get? a=some (seqObj "list" #[] e1)/\s'.heap.get? kS=some (seqObj "list" (List.toArray ks) e)/\RUs X.K H' ((us.take j).map kf) kvs/\Vals kvs ks) its 0 s
    ⟨H,[],[],0,I,.refl H,g,fa,fk,oa,ok,by simpa using RUs.nil,.nil⟩ ?step ?done)
  case step =>
    rintro j x s' hx ⟨H1,kvs,ks,e,I1,k1,g1,fa1,fk1,oa1,ok1,rk1,rv1⟩
    simp only [Nat.zero_add] at rk1 ⊢
    have hj:j < us.length:=by rw [<- l1];exact (List.getElem?_eq_some_iff.mp hx).1
    have hkl:ks.length=j:=by rw [<- rv1.length,<- rk1.length,List.length_map,List.length_take];lia
    obtain ⟨v,hv,rel⟩:=valsAt rv hx
    obtain ⟨u,hu,ru⟩:=r.get hv
    have hmem:=List.mem_of_getElem? hu
    have J:=I1.pinned (fp:=[kS,a]) (fun p hp=>by
      rcases List.mem_cons.mp hp with rfl | hp
      . exact fk1
      . rw [List.mem_singleton.mp hp];exact fa1) (fun p hp=>by
      rcases List.mem_cons.mp hp with rfl | hp
      . exact ⟨_,ok1,fun v z=>nomatch z⟩
      . rw [List.mem_singleton.mp hp];exact ⟨_,oa1,fun v z=>nomatch z⟩)
    refine wpAny_bind (wpAny_attempt (wpAny_mono (hcall _ s' H1 u v x J g1 (hZ _ _ z0 k1) hmem (ru.same k1) rel) (fun y s2 hy=>?_) fun _ _ hF=>hF.elim))
    obtain ⟨H2,z,J2,k2,g2,rz,relz⟩:=hy
    have pk:=J2.pin (kS,seqObj "list" (List.toArray ks) e) (List.mem_append_right _ (List.mem_append_right _ (mem_pinsAt (.head _) ok1)))
    have pa:=J2.pin (a,seqObj "list" #[] e1) (List.mem_append_right _ (List.mem_append_right _ (mem_pinsAt (.tail _ (.head _)) oa1)))
    have I2:=J2.unpinned
    have s1:=Heap.SameBut.update s2.heap kS (Obj.mapSeq (·.push y))
    have ea:(List.toArray ks).push y=List.toArray (ks++[y]):=by simp
    obtain ⟨c2,hc2⟩:∃ c2,(s2.heap.update kS (Obj.mapSeq (·.push y))).get? kS=some (seqObj "list" (List.toArray (ks++[y])) c2):=⟨_,by rw [<- ea];exact get?_update_seq pk.1 (·.push y)⟩
    try dsimp only
    refine wpAny_bind (listUpdate_at pk.1 rfl (show _ from ?_) (by rw [List.size_toArray,sizeLine_eq];lia) (Nat.le_trans (Nat.le_of_eq (Array.size_push ..)) (by rw [List.size_toArray,sizeLine_eq];lia)))
    have I3:=I2.mine (t':=s2.toks) (fp_of fk1 pk.2.1) fun p o hp q=>(s1.2 p hp).trans q
    refine wpAny_pure ⟨rfl,H2,kvs++[z],ks++[y],c2,I3,k1.trans k2,g2,fp_of fa1 pa.2.1,fp_of fk1 pk.2.1,(s1.2 a hak).trans pa.1,hc2,?_,Vals.append rv1 (.cons relz .nil)⟩
    rw [List.take_add_one,hu,List.map_append]
    exact (rk1.same k2).app (.one rz)
  case done =>
    rintro s' ⟨H1,kvs,ks,e,I1,k1,g1,fa1,fk1,oa1,ok1,rk1,rv1⟩
    rw [Nat.zero_add,l1,List.take_length] at rk1
    try dsimp only
    refine wpAny_bind (listItems_at ok1 rfl (show _ from ?_))
    exact sort_end I1 g1 (r.same k1) rv rk1 rv1 h64 fa1 fk1 hak oa1 ok1 hdu hok hin hun fun s2 ys its' c I2 o2 r2 v2=>h H1 s2 ys its' c I2 k1 g1 fa1 o2 r2 v2
theorem sort_tree {its:List Value} {vs:List V} {n:Nat} (I:Inv X pins σ H s) (g:HR X.K H A) (r:RUs X.K H us vs) (rv:Vals vs its) (h64:us.length < 64)
    (fa:FpOk X pins H a) (oa:s.heap.get? a=some (seqObj "list" its.toArray n))
    (hdu:DUs A (us.map kf) (us.map dk)) (hok:OkD (us.map dk)) (hin:∀ u∈us,intFst (dk u)=true) (hun:B.units + 200 < cLine) (hcall:KeyCall X pins σ B f A us kf Z) (z0:Z H) (hZ:∀ H H',Z H->Kp X.K H H'->Z H')
    (h:∀ H' s' ys its' c,Inv X pins σ H' s'->Kp X.K H H'->HR X.K H' A->FpOk X pins H' a->s'.heap.get? a=some (seqObj "list" its'.toArray c)->RUs X.K H' (srt b us (us.map dk)) ys->Vals ys its'->P (.done (.ret .none)) s') :
    wpAny (model X.prog X.w) B (ksk_tree a f b) P E s:=by
  have l1:its.length=us.length:=by rw [<- rv.length,r.length]
  have ha:a < s.heap.objs.size:=Heap.lt_size oa
  have s1:=Heap.SameBut.update s.heap a (Obj.mapSeq fun _=>(#[]:Array Value))
  obtain ⟨e1,ho1⟩:∃ e1,(s.heap.update a (Obj.mapSeq fun _=>(#[]:Array Value))).get? a=some (seqObj "list" #[] e1):=⟨_,get?_update_seq oa fun _=>#[]⟩
  unfold ksk_tree
  refine wpAny_bind (listItems_at oa rfl (show _ from ?_))
  refine wpAny_bind (listUpdate_at oa rfl (show _ from ?_) (by rw [List.size_toArray,sizeLine_eq];lia) (Nat.zero_le _))
  refine wpAny_bind (seqEpoch_at ho1 rfl (show _ from ?_))
  refine wpAny_bind (wpAny_newTuple (show _ from ?_) (by show its.length<=_;rw [sizeLine_eq];lia))
  refine wpAny_bind (wpAny_newList (show _ from ?_) (Nat.zero_le _))
  refine wpAny_holding (show _ from ?_)
  have I1:=I.mine (t':=s.toks) fa fun p o hp q=>(s1.2 p hp).trans q
  have I2:=I1.kept (t':=s.toks) (h':=(s.heap.update a (Obj.mapSeq fun _=>(#[]:Array Value))).push { cls:=.type "tuple",data:=.seq its.toArray }) fun p o q=>Heap.get?_push_of_some _ q
  have fk:FpOk X pins H ((s.heap.update a (Obj.mapSeq fun _=>(#[]:Array Value))).push { cls:=.type "tuple",data:=.seq its.toArray }).objs.size:=I2.fpOk (Nat.le_refl _) (I2.hok.fresh (Nat.le_refl _))
  have I3:=I2.kept (t':=s.toks) (h':=((s.heap.update a (Obj.mapSeq fun _=>(#[]:Array Value))).push { cls:=.type "tuple",data:=.seq its.toArray }).push { cls:=.type "list",data:=.seq #[] }) fun p o q=>Heap.get?_push_of_some _ q
  have oa2:=Heap.get?_push_of_some ({ cls:=.type "tuple",data:=.seq its.toArray }:Obj) ho1
  exact sort_rest I3 g r rv h64 fa fk (Nat.ne_of_lt (Heap.lt_size oa2)) (Heap.get?_push_of_some _ oa2) (Heap.get?_push_size _ rfl) hdu hok hin hun hcall z0 hZ h
theorem sorted_run {l:Addr} {kw:List (Str × Value)} {Q:Value->Shared->Prop} (I:Inv X pins σ H s) (g:HR X.K H A) (hl:A l=some (.lst us)) (h64:us.length < 64)
    (ha1:argsOk "sorted" ⟨[.ref l],kw⟩) (ha2:∀ x,argsOk "list.sort" ⟨[.ref x],kw⟩) (ht:∀ x,Builtin.«list.sort» ⟨[.ref x],kw⟩=ksk_tree x f b)
    (hdu:DUs A (us.map kf) (us.map dk)) (hok:OkD (us.map dk)) (hin:∀ u∈us,intFst (dk u)=true) (hun:B.in1.in1.units + 200 < cLine) (hcall:KeyCall X pins σ B.in1.in1 f A us kf Z) (z0:Z H) (hZ:∀ H H',Z H->Kp X.K H H'->Z H')
    (h:∀ D H' s',A D=none->Inv X pins σ H' s'->Kp X.K H H'->HR X.K H' (updA A D (.lst (srt b us (us.map dk))))->Q (.ref D) s') :
    wpAny (model X.prog X.w) B (call (.builtin "sorted") [.ref l] kw) Q E s:=by
  obtain ⟨vs,h1,r⟩:=g.list hl
  obtain ⟨its,rv,pl,hz⟩:=I.list (SqL.of h1)
  have l1:its.length=us.length:=by rw [<- rv.length,r.length]
  refine call_function_entry_kw kind_sorted plain_sorted entry_sorted ha1 (show _ from ?_)
  unfold Builtin.«sorted»
  refine wpAny_bind (m:=checkCount "sorted" 1 1 _) (wpAny_pure (show _ from ?_))
  refine wpAny_bind (collect_list pl.isList (show _ from ?_) (by rw [sizeLine_eq];lia))
  refine wpAny_bind (wpAny_newList (show _ from ?_) (by rw [sizeLine_eq];lia))
  have s0:=Heap.SameBut.update (s.heap.push (seqObj "list" #[] 0)) s.heap.objs.size (Obj.mapSeq (·++its.toArray))
  have hk1:∀ p o,s.heap.get? p=some o->((s.heap.push (seqObj "list" #[] 0)).update s.heap.objs.size (Obj.mapSeq (·++its.toArray))).get? p=some o:=fun p o q =>
    (s0.2 p (Nat.ne_of_lt (Heap.lt_size q))).trans (Heap.get?_push_of_some _ q)
  have I1:=I.kept (t':=s.toks) hk1
  have f1:=I1.fpOk (Nat.le_refl _) (I1.hok.fresh (Nat.le_refl _))
  have hs0:X.s₀.heap.objs.size<=((s.heap.push (seqObj "list" #[] 0)).update s.heap.objs.size (Obj.mapSeq (·++its.toArray))).objs.size:=I1.sz
  have I2:=I1.kept (t':=s.toks) (h':=((s.heap.push (seqObj "list" #[] 0)).update s.heap.objs.size (Obj.mapSeq (·++its.toArray))).push { cls:=.type "list",data:=.seq its.toArray }) fun p o q=>Heap.get?_push_of_some _ q
  have oD:(((s.heap.push (seqObj "list" #[] 0)).update s.heap.objs.size (Obj.mapSeq (·++its.toArray))).push { cls:=.type "list",data:=.seq its.toArray }).get? ((s.heap.push (seqObj "list" #[] 0)).update s.heap.objs.size (Obj.mapSeq (·++its.toArray))).objs.size=some (seqObj "list" its.toArray 0):=Heap.get?_push_size _ rfl
  refine wpAny_bind (wpAny_holding (wpAny_call_entry_kw slot_list_sort ⟨_,oD,rfl⟩ entry_list_sort ?body (ha2 _)))
  case body =>
    generalize ((s.heap.push (seqObj "list" #[] 0)).update s.heap.objs.size (Obj.mapSeq (·++its.toArray))).objs.size=D at *
    have ht':=ht D
    show wpAny (model X.prog X.w) B.in1.in1 (Builtin.«list.sort» ⟨[.ref D],kw⟩) _ _ _
    rw [ht']
    refine sort_tree I2 g r rv h64 f1 oD hdu hok hin hun hcall z0 hZ fun H' s' ys its' c I3 k3 g3 f3 o3 r3 v3=>⟨_,rfl,wpAny_pure ⟨_,rfl,?_⟩⟩
    have hsl:(srt b us (us.map dk)).length<=sizeLine:=by rw [srt_len,sizeLine_eq];lia
    have I4:=I3.adopt f3 hs0 v3 (by rw [<- r3.length];exact hsl) o3
    exact h D (upd H' D (.lst ys)) s' (g3.none f3.1) I4 (k3.trans (Same.upd_new f3.1).kp) (g3.newL f3.1 r3)
end
end
end L2
namespace L2
open PySem PySem.Spec PySem.W PyProof.Rows
section
variable {X:Cx} {pins:List (Addr × Obj)} {σ:St} {B:Around} {A:AHp} {us:List U} {kf:U->U}
theorem keyCall_lam {fl c:Addr} {name qual:Str} {params:Arguments} {body:Expr} {scope:Scope} {pm ctv:Value} {oc:Obj} {vs:Array Value} {tq:Tok} {p:Str} {N:List Str} {ae:AE} {k:Nat}
    (S:FnScope N [p] scope) (hbind:∀ x,bindArgs (kla_fn name qual params body scope [] pm (.ref c) ctv) ⟨[x],[]⟩=pure [(p,x)])
    (m1:(fl,kla_obj name qual params body scope [] pm c ctv)∈pins) (hoc:oc.data=.fields vs) (hq:vs[1]? = some (.str qual tq))
    (hr:Room (k + 1) B) (hfr:B.frames=X.A.frames)
    (hbody:∀ (s:Shared) (H:Hp),Room k (B.deeper (envOfC qual scope s.heap.objs.size fl (.ref c)))->∃ te,PE (cxOf CX0 X.prog X.w X.K X.mg X.base N qual scope fl (.ref c) B X.stack s H E0).nox body te/\AbE X.K te ae)
    (hkey:∀ u∈us,ae (aStart N [u]) A (fun y A'=>y=kf u/\Ext A A')):KeyCall X pins σ B (.ref fl) A us kf (fun H=>H c=some (.frz oc (.own c))):=by
  intro pl s H u v x I g hz hu r rel
  have p1:=(I.pin _ (List.mem_append_right _ (List.mem_append_left pl m1))).1
  have p2:s.heap.get? c=some oc:=(I.hok c _ hz).1
  have e0:=I.env0
  have e1:Env0 X.prog X.w X.K X.mg X.base B X.stack s H:=⟨hfr.trans e0.frames,e0.mod,e0.bs,e0.bsz,e0.funs,e0.frf,e0.hok,e0.bare⟩
  have rv:Vals [v] [x]:=.cons rel .nil
  have hkind:∀ y∈[(p,x)],scope.names.lookup y.1=some .local\/(scope.names.lookup y.1=some .cell/\((cellsFrom (s.heap.objs.size + 1) scope.names []).lookup y.1).isSome=true):=fun y hy=>by
    rw [List.mem_singleton.mp hy]
    rcases S.par p (.head _) with q | q
    . exact .inl q
    . exact .inr ⟨q,PySem.W.cellsFrom_some _ _ _ (.inl q)⟩
  have lim:s.heap.NoLimit:=e1.mod.nolimit.keeps fun b o e=>(e1.bs b o e).1
  obtain ⟨te,hpe,hab⟩:=hbody s H (hr.deeper _)
  refine wpAny_call (codeAny_mono (R:=CR CX0 X.stack X.prog X.w H s (fun z H'=>Kp X.K H H'/\HR X.K H' A/\RU X.K H' (kf u) z) E0) ?_ fun res s' hq=>?_)
  . refine kla_callFunE hr.depth p1 rfl S.co S.gen rfl ⟨c,oc,vs,tq,rfl,p2,hoc,hq⟩ ?_
    rw [hbind]
    refine wpAny_pure ?_
    refine wpAny_newFunctionEnv_cells S.kind hkind fun env he s1 xx=>?_
    subst he
    refine ⟨lim.keeps xx.toInCall.keep,kla_codeExpr ?_⟩
    have J:Inv (cxOf CX0 X.prog X.w X.K X.mg X.base N qual scope fl (.ref c) B X.stack s H E0) [] (start N [v]) H s1:=inv_start S hr.hd e1 rfl rv xx
    refine wpAny_mono (hpe.nox [] s1 (start N [v]) H (fun z H'=>Kp X.K H H'/\HR X.K H' A/\RU X.K H' (kf u) z) J (hab (aStart N [u]) A _ _ _ _ (RSt.start N (.cons r .nil)) g (hkey u hu) fun y A' z H' kp g' r' q=>?_)) (fun y s2 hs=>?_) fun e s2 hs=>hs
    . obtain ⟨rfl,e⟩:=q
      exact ⟨kp,HR.ext e g',r'⟩
    . obtain ⟨z,H',J',rz,q⟩:=hs
      exact ⟨z,H',J'.os,J'.bare,J'.base,J'.hok,rz,q⟩
  . cases res with
    | error e=>exact hq.elim
    | ok fl =>
      cases fl with
      | ret y =>
        obtain ⟨z,H',I',rz,k1,g1,r1⟩:=I.after hq
        exact ⟨H',z,I',k1,g1,r1,rz⟩
      | next=>exact False.elim hq
      | brk=>exact False.elim hq
      | cont=>exact False.elim hq
noncomputable def tblO (pos:Pos) (qual:Str):AO:=.oth fun _ H P=>∃ ps:Array Value,H P=some (.tbl ps)/\TriplesOk ps.toList /\
  (codeAmong pos ps.toList=none\/∃ c oc vs t,codeAmong pos ps.toList=some (.ref c)/\H c=some (.frz oc (.own c))/\oc.data=.fields vs/\vs[1]? = some (.str qual t))
theorem tblO_ro {K:PySem.W.Frag} {H:Hp} {P:Addr} {pos:Pos} {qual:Str} {ps:Array Value} (h1:H P=some (.tbl ps)) (h2:TriplesOk ps.toList)
    (h3:codeAmong pos ps.toList=none\/∃ c oc vs t,codeAmong pos ps.toList=some (.ref c)/\H c=some (.frz oc (.own c))/\oc.data=.fields vs/\vs[1]? = some (.str qual t)):RO K H P (tblO pos qual) :=
  ⟨⟨_,h1⟩,⟨ps,h1,h2,h3⟩,fun H1 H2 ⟨qs,q1,q2,q3⟩ kp e=>⟨qs,by rw [e];exact q1,q2,q3.imp id fun ⟨c,oc,vs,t,w1,w2,w3,w4⟩=>⟨c,oc,vs,t,w1,kp.f _ _ _ w2,w3,w4⟩⟩⟩
theorem Kp.tbl {K:PySem.W.Frag} {H:Hp} {P c:Addr} {ps qs:Array Value} {o:HO} (h:H P=some (.tbl ps)) (hc:H c=none):Kp K H (upd (upd H P (.tbl qs)) c o):=by
  have ne:∀ a u,H a=some u->a≠c:=fun a u q z=>by rw [z,hc] at q;cases q
  refine ⟨fun a xs q=>?_,fun a xs q=>?_,fun a ob u q=>by rw [upd_ne (ne _ _ q),upd_ne (ne_of q h (by intro z;cases z))];exact q⟩
  . rcases q with (q | ⟨ob,q⟩) | q
    . exact .inl (.inl (by rw [upd_ne (ne _ _ q),upd_ne (ne_of q h (by intro z;cases z))];exact q))
    . exact .inl (.inr ⟨ob,by rw [upd_ne (ne _ _ q),upd_ne (ne_of q h (by intro z;cases z))];exact q⟩)
    . exact .inr q
  . rcases q with ⟨ob,q⟩ | q
    . exact .inl ⟨ob,by rw [upd_ne (ne _ _ q),upd_ne (ne_of q h (by intro z;cases z))];exact q⟩
    . exact .inr q
theorem Inv.coded {H:Hp} {s:Shared} {P c:Addr} {ps qs:Array Value} {oc:Obj} {h':Heap} {t':Nat} (I:Inv X pins σ H s) (hP:H P=some (.tbl ps)) (hx:Heap.ExtBut P s.heap h') (hc:s.heap.objs.size<=c) (oP:h'.get? P=some { cls:=.none,data:=.fields (ps++qs) }) (occ:h'.get? c=some oc) :
    Inv X pins σ (upd (upd H P (.tbl (ps++qs))) c (.frz oc (.own c))) { s with heap:=h',toks:=t' }:=by
  have hcn:H c=none:=I.hok.fresh hc
  have ne:∀ a u,H a=some u->a≠c:=fun a u q z=>by rw [z,hcn] at q;cases q
  have old:∀ b o,s.heap.get? b=some o->b≠c:=fun b o q=>Nat.ne_of_lt (Nat.lt_of_lt_of_le (Heap.lt_size q) hc)
  have nP:∀ b,H b=none->b≠P:=fun b q z=>by rw [z,hP] at q;cases q
  have hPc:P≠c:=ne _ _ hP
  refine I.un ⟨fun b o q n _ _=>hx b o (nP b n) q,fun b o q n _ _=>⟨o.slots,hx b o (nP b n) q⟩,fun b o q n _=>by rw [upd_ne (old b o q),upd_ne (nP b n)];exact n,fun b o q _=>?_,fun b xs q=>?_,fun b ob u q=>?_,fun b rs q=>?_⟩ fun b u q=>?_
  . by_cases hb:b=P
    . rw [hb];exact ⟨_,oP⟩
    . exact ⟨o,hx b o hb q⟩
  . rw [upd_ne (ne _ _ q),upd_ne (ne_of q hP (by intro z;cases z))];exact q
  . rw [upd_ne (ne _ _ q),upd_ne (ne_of q hP (by intro z;cases z))];exact q
  . by_cases hb:b=P
    . subst hb
      rw [hP] at q;cases q
      exact ⟨qs,by rw [upd_ne hPc,upd_same]⟩
    . exact ⟨#[],by rw [upd_ne (ne _ _ q),upd_ne hb,q];simp⟩
  . by_cases hb:b=c
    . subst hb
      rw [upd_same] at q;cases q
      exact ⟨occ,oc,occ⟩
    . rw [upd_ne hb] at q
      by_cases hb2:b=P
      . subst hb2
        rw [upd_same] at q;cases q
        exact oP
      . rw [upd_ne hb2] at q
        refine (I.hok b u q).stay (fun d w hd z=>hx d w ?_ z) (fun d z=>?_) fun d xs z=>?_
        . rcases hd with z2 | z2
          . rw [z2];exact hb2
          . exact fun z3=>by rw [z3,hP] at z2;cases z2
        . rw [upd_ne (ne _ _ z),upd_ne (ne_of z hP (by intro z;cases z))];exact z
        . rw [upd_ne (ne _ _ z),upd_ne (ne_of z hP (by intro z;cases z))];exact z
theorem lam_made {name qual:Str} {params:Arguments} {body:Expr} {scope:Scope} {pos:Pos} {firstLine:Nat} {H:Hp} {s:Shared} {P c0:Addr} {E:Value->Shared->Prop} {Q:Value->Shared->Prop}
    (I:Inv X pins σ H s) (g:HR X.K H A) (hA:A P=some (tblO pos qual)) (hcode:X.env.code=.ref c0) (hcd:codeHdIn X.K c0 P=true) (hcl:closureFor scope X.env=pure []) (hBA:X.base.BuiltinsAt X.mg P) (hgP:mainGlobals≠P)
    (h:∀ fl c ctv oc vs t H' s',Inv X (pins++[(fl,kla_obj name qual params body scope [] ((X.mg "__name__").getD .none) c ctv)]) σ H' s'->Kp X.K H H'->HR X.K H' A->H' c=some (.frz oc (.own c))->oc.data=.fields vs->vs[1]? = some (.str qual t)->Q (.ref fl) s') :
    wpAny (model X.prog X.w) X.A (makeFunction name qual params (.expr body) scope X.env [] [] [] pos firstLine) Q E s:=by
  obtain ⟨ps,h1,h2,h3⟩:=(g P _ hA).2.1
  have oP:s.heap.get? P=some (tabObj ps):=I.hok P _ h1
  have gl:=I.mod.glob.keeps I.bk
  have C:=codeHd_of_K I.kIn hcd
  have pinned:∀ {H':Hp} {s':Shared} {o:Obj} (I':Inv X pins σ H' s') (t:Nat),(∀ v,o.data≠.cell v)->o.isFreed=false->Inv X (pins++[(s'.heap.objs.size,o)]) σ H' { s' with heap:=s'.heap.push o,toks:=t }:=by
    intro H' s' o I' t hd hfr
    have f:=I'.fpOk (Nat.le_refl _) (I'.hok.fresh (Nat.le_refl _))
    have I2:=I'.kept (t':=t) (h':=s'.heap.push o) fun b u q=>Heap.get?_push_of_some _ q
    refine I2.pins_of fun p hp=>?_
    rcases List.mem_append.mp hp with hp | hp
    . exact I2.pin p (List.mem_append_right _ hp)
    . rw [List.mem_singleton.mp hp]
      exact ⟨Heap.get?_push_size _ hfr,f.1,f.2.1,f.2.2.1,hd⟩
  rcases h3 with h3 | ⟨c,oc,vs,t,h3,h4,h5,h6⟩
  . refine kla_makeFunction hcl I.ok.glob gl hcode C oP h2 h3 hgP (hBA.keeps I.bk) fun c' ctv h' tk hx hge hlt hrec htab=>?_
    obtain ⟨c,oc,vs,t,e,ho,hd,hq⟩:=hrec
    cases e
    have I1:=I.coded (t':=tk) h1 hx hge htab ho
    have hcn:H c'=none:=I.hok.fresh hge
    have kp:Kp X.K H (upd (upd H P (.tbl (ps++#[rawInt pos.line,rawInt pos.col,.ref c']))) c' (.frz oc (.own c'))):=Kp.tbl h1 hcn
    have hPc:P≠c':=fun z=>by rw [z,hcn] at h1;cases h1
    refine h _ c' ctv oc vs t _ _ (pinned I1 tk (fun v z=>nomatch z) rfl) kp (fun b o q=>?_) upd_same hd hq
    by_cases hb:b=P
    . subst hb
      rw [hA] at q;cases q
      refine tblO_ro (by rw [upd_ne hPc,upd_same]) ?_ (.inr ⟨c',oc,vs,t,?_,upd_same,hd,hq⟩)
      . rw [Array.toList_append];exact TriplesOk_snoc _ _ _ _ h2
      . rw [Array.toList_append];exact codeAmong_snoc _ h2 h3
    . have hbc:b≠c':=fun z=>by rw [z,g.none hcn] at q;cases q
      exact (g b o q).keep kp (by rw [upd_ne hbc,upd_ne hb])
  . refine kla_makeFunctionHit hcl I.ok.glob gl hcode C oP h2 h3 (hBA.keeps I.bk) fun ctv h' tk hk hsz=>?_
    have I1:=I.kept (t':=tk) hk
    exact h _ c ctv oc vs t H _ (pinned I1 tk (fun v z=>nomatch z) rfl) (.refl H) g h4 h5 h6
end
theorem lam_eval {M:Model} {A:Around} {E:Value->Shared->Prop} {s:Shared} {env:Env} {params:Arguments} {body:Expr} {scope:Scope} {pos:Pos} {Q:Value->Shared->Prop} (hd:params.defaults=[]) (hk:params.kw_defaults=[])
    (h:wpAny M A (makeFunction "<lambda>" (env.qual++"<lambda>") params (.expr body) scope env [] [] [] pos pos.line) Q E s):wpAny M A (eval (.Lambda params body scope pos) env) Q E s:=by
  rw [arm_eval_Lambda,defaultsOf_eq,hk,hd]
  exact wpAny_bind (wpAny_evalAll_nil (wpAny_bind (wpAny_holding (wpAny_pure h))))
noncomputable def rSortL (K:PySem.W.Frag) (P:Addr) (lpos:Pos) (qual:Str) (N:List Str) (ae:AE) (b:Bool):V->Hp->VK->Prop:=fun x H Q=>∃ l A Q' us kf dk,x=.ref l/\HR K H A/\A P=some (tblO lpos qual)/\A l=some (.lst us)/\us.length < 64/\DUs A (us.map kf) (us.map dk)/\OkD (us.map dk)/\(∀ u∈us,intFst (dk u)=true) /\
  (∀ u∈us,ae (aStart N [u]) A (fun y A'=>y=kf u/\Ext A A'))/\(∀ D,A D=none->Q' (.ref D) (updA A D (.lst (srt b us (us.map dk)))))/\Aft K H Q' Q
noncomputable def tSortL (K:PySem.W.Frag) (P:Addr) (lpos:Pos) (qual:Str) (N:List Str) (ae:AE) (b:Bool) (te:TE):TE:=fun σ H Q=>te σ H fun x H1=>rSortL K P lpos qual N ae b x H1 Q
noncomputable def xSortL (P:Addr) (lpos:Pos) (qual:Str) (N:List Str) (ae:AE) (b:Bool):U->AHp->AVK->Prop:=fun x A Q=>∃ l us kf dk,x=.ref l/\A P=some (tblO lpos qual)/\A l=some (.lst us)/\us.length < 64/\DUs A (us.map kf) (us.map dk)/\OkD (us.map dk)/\(∀ u∈us,intFst (dk u)=true) /\
  (∀ u∈us,ae (aStart N [u]) A (fun y A'=>y=kf u/\Ext A A'))/\∀ D,A D=none->Q (.ref D) (updA A D (.lst (srt b us (us.map dk))))
noncomputable def aSortL (P:Addr) (lpos:Pos) (qual:Str) (N:List Str) (ae:AE) (b:Bool) (aa:AE):AE:=fun ρ A Q=>aa ρ A fun x A1=>xSortL P lpos qual N ae b x A1 Q
theorem ab_sortL {K:PySem.W.Frag} {P:Addr} {lpos:Pos} {qual:Str} {N:List Str} {ae:AE} {b:Bool} {te:TE} {aa:AE} (h:AbE K te aa):AbE K (tSortL K P lpos qual N ae b te) (aSortL P lpos qual N ae b aa):=fun ρ A σ H Q' Q hs g w k =>
  h ρ A σ H _ _ hs g w fun x A1 v H1 k1 g1 r1 hq0=>by
    obtain ⟨l,us,kf,dk,e,h0,h1,h2,h3,h4,h5,h6,q⟩:=hq0
    subst e
    cases r1
    exact ⟨l,A1,Q',us,kf,dk,rfl,g1,h0,h1,h2,h3,h4,h5,h6,q,fun u A2 v2 H2 k2 g2 r2 q2=>k _ _ _ _ (k1.trans k2) g2 r2 q2⟩
section
variable {X:Cx} {k:Nat} {P c0:Addr} {x y:Str} {e body:Expr} {te:TE} {p lpos p3 p4 p5 pos:Pos} {j:Nat} {b:Bool} {params:Arguments} {scope:Scope} {qual:Str} {N:List Str} {ae:AE}
theorem pe_sortL (hr:Room (k + 3) X.A) (hg:Gl X "sorted") (hm:X.mg "sorted"=none) (he:PE X e te) (hcode:X.env.code=.ref c0) (hcd:codeHdIn X.K c0 P=true) (hcl:closureFor scope X.env=pure []) (hBA:X.base.BuiltinsAt X.mg P) (hgP:mainGlobals≠P) (hqu:X.env.qual++"<lambda>"=qual)
    (S:FnScope N [y] scope) (hd0:params.defaults=[]) (hk0:params.kw_defaults=[]) (hbind:∀ pm c ctv x,bindArgs (kla_fn "<lambda>" qual params body scope [] pm (.ref c) ctv) ⟨[x],[]⟩=pure [(y,x)])
    (hbody:∀ (fl c:Addr) (s:Shared) (H:Hp),Room k (X.A.in1.in1.deeper (envOfC qual scope s.heap.objs.size fl (.ref c)))->∃ te,PE (cxOf CX0 X.prog X.w X.K X.mg X.base N qual scope fl (.ref c) X.A.in1.in1 X.stack s H E0).nox body te/\AbE X.K te ae)
    (hst:starEach [e] X.env=[(false,eval e X.env)]:=by rfl) :
    PE X (.Call (.Name "sorted" p) [e] [⟨some "key",.Lambda params body scope lpos,p3⟩,⟨some "reverse",.Constant (.bool b) j p4,p5⟩] pos) (tSortL X.K P lpos qual N ae b te):=by
  intro pins s σ H Q I h
  refine wpAny_Call_Name_kw (ld_blt I hg hm boot_sorted (show _ from ?_) (by decide) (by decide))
  have hpa:PA X [e] (tCons te tNil):=pa_cons he pa_nil hst
  have h':tCons te tNil σ H (fun vs H1=>match vs with | [x]=>rSortL X.K P lpos qual N ae b x H1 Q | _=>False):=h
  refine callWith_kw (thn (hpa pos pins s σ H _ I h') fun us s1 ⟨vs,H1,I1,r1,q1⟩=>?_) (by rw [hst];rfl) (by rw [hst];rfl) rfl rfl
  dsimp only at q1
  split at q1
  . obtain ⟨u,rfl,ru⟩:=r1.one
    obtain ⟨l,A,Q',us,kf,dk,rfl,g,hA,hl,h64,hdu,hok,hin,hkey,q,aft⟩:=q1
    cases ru
    have hun:=hr.un
    show wpAny _ _ (evalAll [(do let v <- eval (.Lambda params body scope lpos) X.env;standAt pos;pure v),(do let v <- eval (.Constant (.bool b) j p4) X.env;standAt pos;pure v)]) _ _ s1
    refine wpAny_evalAll_cons (wpAny_bind ?_)
    refine lam_eval hd0 hk0 ?_
    rw [hqu]
    refine lam_made I1 g hA hcode hcd hcl hBA hgP fun fl c ctv oc vs t H2 s2 I2 k2 g2 hz hoc hq=>?_
    refine wpAny_bind (wpAny_standAt (wpAny_pure ?_))
    refine wpAny_evalAll_cons (wpAny_bind (Constant_bool ?_))
    refine wpAny_bind (wpAny_standAt (wpAny_pure ?_))
    refine wpAny_evalAll_nil ?_
    show wpAny _ _ (call (.builtin "sorted") [.ref l] [(Str.ofString "key",.ref fl),(Str.ofString "reverse",.bool b)]) _ _ _
    exact sorted_run I2 g2 hl h64 (ksk_s2 _ _ _) (fun x=>ksk_l2 _ _ _) (fun x=>ksk_t2 _ _ _) hdu hok hin (by show X.A.units + 1 + 1 + 200 < cLine;lia)
      (keyCall_lam S (hbind _ _ _) (List.mem_append_right _ (.head _)) hoc hq hr.in1.in1 rfl (hbody fl c) hkey) hz (fun _ _ z kp=>kp.f _ _ _ z) fun D H' s' hD I' kp g'=>⟨.ref D,H',I'.unpinned,rfl,aft _ _ _ _ (k2.trans kp) g' (.ref D) (q D hD)⟩
  . exact q1.elim
end
end L2
namespace L2
open PySem PySem.Spec PySem.W PyProof.Rows
noncomputable abbrev Tabs:=List (Addr × Pos × Str)
noncomputable def OnlyT (ts:Tabs) (H:Hp):Prop:=∀ b,H b=none\/(∃ o xs,H b=some (.frz o (.lst xs)))\/(b∈ts.map (·.1)/\H b=some (.tbl #[]))
theorem law_callT {P:Program} {w:World} {K:PySem.W.Frag} {mg mb:Str->Option Value} {k:Nat} {fa a:Addr} {fd:FuncData} {x:Str} {sp:Sp} {s₁:Shared} {vs:List Value} {ns:List Int} {ts:Tabs}
    (KX:K.In s₁.heap) (hns:s₁.heap.Ns mainGlobals mg) (hb:s₁.heap.Ns builtinsNs mb) (hbb:∀ x:Str,x≠"__name__"->mb x=bootBuiltins x) (hlim:s₁.heap.NoLimit) (hg:s₁.gens=#[])
    (hbm:∃ bm ob,mg "__builtins__"=some (.ref bm)/\bm≠builtinsNs/\s₁.heap.get? bm=some ob/\ob.cls=.type "module"/\ob.dict=some builtinsNs/\ob.data=.plain)
    (hts:∀ t∈ts,s₁.heap.get? t.1=some (tabObj #[])/\K.lookup t.1=none/\isCodeTable s₁.heap t.1)
    (ha:s₁.heap.get? a=some { cls:=.type "list",data:=.seq vs.toArray }) (hi:IntsAre vs ns) (hl:ns.length<=sizeLine) (hr:Room k callerA)
    (F:∀ base:Heap,K.In base->base.Ns mainGlobals mg->(∀ t∈ts,base.BuiltinsAt mg t.1)->FnOk P w K mg base CX0 k fa fd [x] sp) (hbind:∀ (s:Shared) (u:Value),BindsTo s fd ⟨[u],[]⟩ [(x,u)])
    (hsp:∀ H:Hp,OnlyT ts H->(∀ t∈ts,H t.1=some (.tbl #[]))->SqL K H a (ns.map V.int)->sp [.ref a] H (fun v _=>v=.bl true) E0) :
    codeAny (model P w) callerA (.call (.ref fa) ⟨[.ref a],[]⟩) (fun r s'=>r=.ok (.ret (.bool true))/\OldK s₁.heap s'.heap/\s'.os=s₁.os/\AllBare s'.gens) s₁:=by
  have rv:=vals_ints hi
  have lenV:=hi.length
  have na:∀ t∈ts,t.1≠a:=fun t ht z=>by
    have e:=(hts t ht).1
    rw [z,ha] at e;cases e
  have core : ∀ H:Hp,OnlyT ts H->(∀ t∈ts,H t.1=some (.tbl #[]))->SqL K H a (ns.map V.int)->HOk P w H s₁.heap->(∀ b,H b≠none->b=a\/b∈ts.map (·.1))->(H a≠none->K.lookup a=none) ->
      codeAny (model P w) callerA (.call (.ref fa) ⟨[.ref a],[]⟩) (fun r s'=>r=.ok (.ret (.bool true))/\OldK s₁.heap s'.heap/\s'.os=s₁.os/\AllBare s'.gens) s₁:=by
    intro H hO hT hS hok hA hK
    have trkd:∀ {b:Addr} {o:Obj},s₁.heap.get? b=some o->H b≠none->o={ cls:=.type "list",data:=.seq vs.toArray }\/o=tabObj #[]:=fun {b o} e n=>by
      rcases hA b n with z | z
      . rw [z,ha] at e;cases e;exact .inl rfl
      . obtain ⟨t,ht,rfl⟩:=List.mem_map.mp z
        rw [(hts t ht).1] at e;cases e;exact .inr rfl
    have base_of:∀ {b:Addr} {o:Obj},s₁.heap.get? b=some o->H b=none->(hidT s₁.heap H).get? b=some o:=fun e n=>hidT_get e n
    have noA:∀ {b:Addr} {o:Obj} {es:Array DictEntry} {ep:Nat},s₁.heap.get? b=some o->o.data=.dict es ep->H b=none:=fun {b o es ep} e d=>by
      cases q:H b with
      | none=>rfl
      | some u =>
        rcases trkd e (by rw [q];simp) with z | z
        . rw [z] at d;cases d
        . rw [z] at d;cases d
    have nsK:∀ {b:Addr} {m:Str->Option Value},s₁.heap.Ns b m->(hidT s₁.heap H).Ns b m:=fun {b m} ⟨o,es,ep,e,d,r⟩=>⟨o,es,ep,base_of e (noA e d),d,r⟩
    have hKb:K.In (hidT s₁.heap H):=fun b o e=>base_of (KX b o e) (by
      cases q:H b with
      | none=>rfl
      | some u =>
        rcases hA b (by rw [q];simp) with z | z
        . subst z
          rw [hK (by rw [q];simp)] at e;cases e
        . obtain ⟨t,ht,rfl⟩:=List.mem_map.mp z
          rw [(hts t ht).2.1] at e;cases e)
    have hM:Mod K mg (hidT s₁.heap H):=⟨hKb,nsK hns,⟨mb,nsK hb,hbb⟩,let ⟨mc,h1,h2⟩:=hlim;⟨mc,nsK h1,h2⟩⟩
    have hBA:∀ t∈ts,(hidT s₁.heap H).BuiltinsAt mg t.1:=fun t ht=>by
      obtain ⟨bm,ob,b1,b2,b3,b4,b5,b6⟩:=hbm
      have hn:H bm=none:=by
        cases q:H bm with
        | none=>rfl
        | some u =>
          rcases trkd b3 (by rw [q];simp) with z | z
          . rw [z] at b6;cases b6
          . rw [z] at b6;cases b6
      refine ⟨bm,ob,b1,b2,fun z=>?_,fun z=>?_,base_of b3 hn,b4,b5,b6⟩
      . obtain ⟨o,es,ep,e,d,_⟩:=hns
        rw [z,e] at b3;cases b3
        rw [b6] at d;cases d
      . rw [z,(hts t ht).1] at b3;cases b3;cases b6
    have e0:Env0 P w K mg (hidT s₁.heap H) callerA [] s₁ H:=⟨rfl,hM,fun b o e=>of_hidT e,Nat.le_of_eq (hidT_size _ _),trivial,fun b hb=>absurd (show b∈([]:List Addr) from hb) (by simp),hok,.of_eq hg⟩
    refine codeAny_mono ((F _ hKb (nsK hns) hBA).run callerA [] s₁ H ⟨[.ref a],[]⟩ [.ref a] [.ref a] _ _ hr e0 (hbind s₁ (.ref a)) (.cons rfl .nil) (hsp H hO hT hS)) fun r s' h=>?_
    cases r with
    | error e=>exact h.elim
    | ok fl =>
      cases fl with
      | next=>exact False.elim h
      | brk=>exact False.elim h
      | cont=>exact False.elim h
      | ret u =>
        obtain ⟨v,H',os,bare,un,hok',r',q⟩:=h
        have q':v=.bl true:=q
        subst q'
        obtain rfl:u=Value.bool true:=r'
        have cases3:∀ b o,s₁.heap.get? b=some o->s'.heap.get? b=some o\/(b∈ts.map (·.1)/\∃ more,s'.heap.get? b=some (tabObj more)):=fun b o e=>by
          rcases hO b with z | ⟨ob,xs,z⟩ | ⟨z1,z2⟩
          . exact .inl (un.keep b o e z (by intro y;exact absurd (show b∈([]:List Addr) from y) (by simp)) (by simp))
          . have y2:=un.frzs b ob _ z
            obtain ⟨e1,_⟩:=hok b _ z
            obtain ⟨e2,_⟩:=hok' b _ y2
            rw [e] at e1;cases e1
            exact .inl e2
          . obtain ⟨more,y2⟩:=un.tbls b _ z2
            exact .inr ⟨z1,_,hok' b _ y2⟩
        refine ⟨rfl,⟨fun b o e=>?_,fun b o e=>?_⟩,os,bare⟩
        . rcases cases3 b o e with y | ⟨y1,more,y2⟩
          . exact .inl y
          . obtain ⟨t,ht,rfl⟩:=List.mem_map.mp y1
            have e':=(hts t ht).1
            rw [e] at e';cases e'
            exact .inr (.inl ⟨(hts t ht).2.2,rfl,#[],more,rfl,by rw [y2];simp⟩)
        . rcases cases3 b o e with y | ⟨_,more,y⟩
          . exact ⟨_,y⟩
          . exact ⟨_,y⟩
  have tin:∀ t∈ts,t.1∈ts.map (·.1):=fun t ht=>List.mem_map.mpr ⟨t,ht,rfl⟩
  cases hk:K.lookup a with
  | some o =>
    have e:=KX a o hk
    rw [ha] at e
    cases e
    refine core (fun b=>if b∈ts.map (·.1) then some (.tbl #[]) else none) (fun b=>?_) (fun t ht=>if_pos (tin t ht)) (.inr ⟨_,vs.toArray,_,hk,rfl,rfl,rfl,by rw [List.size_toArray,lenV];exact hl,by simpa using rv⟩) (fun b u z=>?_) (fun b z=>?_) fun z=>?_
    . by_cases h:b∈ts.map (·.1)
      . exact .inr (.inr ⟨h,if_pos h⟩)
      . exact .inl (if_neg h)
    . by_cases h:b∈ts.map (·.1)
      . have z':=(if_pos h).symm.trans z
        cases z'
        obtain ⟨t,ht,rfl⟩:=List.mem_map.mp h
        exact (hts t ht).1
      . have z':=(if_neg h).symm.trans z
        cases z'
    . by_cases h:b∈ts.map (·.1)
      . exact .inr h
      . exact absurd (if_neg h) z
    . have h:a ∉ ts.map (·.1):=fun h=>by
        obtain ⟨t,ht,e⟩:=List.mem_map.mp h
        exact na t ht e
      exact absurd (if_neg h) z
  | none =>
    refine core (fun b=>if b=a then some (.frz { cls:=.type "list",data:=.seq vs.toArray } (.lst (ns.map V.int))) else if b∈ts.map (·.1) then some (.tbl #[]) else none) (fun b=>?_) (fun t ht=>(if_neg (na t ht)).trans (if_pos (tin t ht))) (.inl (.inr ⟨{ cls:=.type "list",data:=.seq vs.toArray },if_pos rfl⟩)) (fun b u z=>?_) (fun b z=>?_) fun _=>hk
    . by_cases hb:b=a
      . exact .inr (.inl ⟨_,_,if_pos hb⟩)
      . by_cases h:b∈ts.map (·.1)
        . exact .inr (.inr ⟨h,(if_neg hb).trans (if_pos h)⟩)
        . exact .inl ((if_neg hb).trans (if_neg h))
    . by_cases hb:b=a
      . have z':=(if_pos hb).symm.trans z
        cases z'
        subst hb
        exact ⟨ha,by rw [List.length_map];exact hl,vs,_,rv,ha⟩
      . have z':=(if_neg hb).symm.trans z
        by_cases h:b∈ts.map (·.1)
        . have z2:=(if_pos h).symm.trans z'
          cases z2
          obtain ⟨t,ht,rfl⟩:=List.mem_map.mp h
          exact (hts t ht).1
        . have z2:=(if_neg h).symm.trans z'
          cases z2
    . by_cases hb:b=a
      . exact .inl hb
      . by_cases h:b∈ts.map (·.1)
        . exact .inr h
        . exact absurd ((if_neg hb).trans (if_neg h)) z
theorem walk_ofT {l:PySem.W.OpenLaw} {n k:Nat} {q:Program} {loose:List Str} {XP:(Str->Option Value)->Heap->Prop} {YP:World->Heap->Prop} {d:DefRec} {K:Params->PySem.W.Frag} {sp:World->Sp} {x:Str} {ts:Tabs}
    (hn:l.most=some n) (hn2:n<=sizeLine) (hdf:d.params.defaults=[]) (hr:Room k callerA)
    (hY:∀ (w:World) (h:Heap),YP w h->(K w.params).In h/\∀ t∈ts,h.get? t.1=some (tabObj #[]))
    (hK:∀ (w:World) (t:Addr × Pos × Str),t∈ts->(K w.params).lookup t.1=none/\∃ c,codeHdIn (K w.params) c t.1=true)
    (F : ∀ (w:World) (mg:Str->Option Value) (fa:Addr) (h:Heap),(K w.params).In h->h.Ns mainGlobals mg->mg d.name=some (.ref fa) ->
      ∃ fd:FuncData,(∀ (s:Shared) (u:Value),BindsTo s fd ⟨[u],[]⟩ [(x,u)]) /\
        ∀ base:Heap,(K w.params).In base->base.Ns mainGlobals mg->(∀ t∈ts,base.BuiltinsAt mg t.1)->FnOk l.prog w (K w.params) mg base CX0 k fa fd [x] (sp w))
    (hsp:∀ (w:World) (H:Hp) (a:Addr) (ns:List Int),ns.length<=n->OnlyT ts H->(∀ t∈ts,H t.1=some (.tbl #[]))->SqL (K w.params) H a (ns.map V.int)->sp w [.ref a] H (fun v _=>v=.bl true) E0) :
    PySem.W.WalkO q loose XP YP l.row.toRowW d [] (fun f vs=>PySem.call f vs):=by
  refine Att.attach_call hn hdf fun w s₀ s₁ mg mb fa o pm cd doc a vs ns G Y ho hd hcd hmg hobj hints hlen hg=>?_
  obtain ⟨KX,hT⟩:=hY w _ Y
  obtain ⟨fd,hb,hF⟩:=F w mg fa _ KX G.T.g hmg
  exact law_callT (ts:=ts) KX G.T.g G.T.b G.T.builtins G.T.nolimit hg G.T.bmain (fun t ht=>⟨hT t ht,(hK w t ht).1,let ⟨c,hc⟩:=(hK w t ht).2;((codeHd_of_K KX hc).tab (hT t ht)).isCodeTable⟩) hobj hints (Nat.le_trans hlen hn2) hr hF hb (fun H hO h1 hS=>hsp w H a ns hlen hO h1 hS)
noncomputable def aspLawT (ts:Tabs):ASp:=fun us A Q=>∃ ns:List Int,us=[.rol (ns.map U.int)]/\ns.length<=63/\(∀ t∈ts,A t.1=some (tblO t.2.1 t.2.2))/\∀ A',Q (.bl true) A'
theorem law_inT {K:PySem.W.Frag} {H:Hp} {a:Addr} {ns:List Int} {E:XK} {ts:Tabs} (hd:(ts.map (·.1)).Nodup) (hl:ns.length<=63) (hO:OnlyT ts H) (hT:∀ t∈ts,H t.1=some (.tbl #[])) (hS:SqL K H a (ns.map V.int)):spOf K (aspLawT ts) [.ref a] H (fun v _=>v=.bl true) E:=by
  have hR:SqR K H a (ns.map V.int):=by
    rcases hS with (h | h) | h
    . rcases hO a with e | ⟨o,xs,e⟩ | ⟨_,e⟩ <;> rw [e] at h <;> cases h
    . exact .inl h
    . exact .inr h
  refine ⟨[.rol (ns.map U.int)],fun b=>(ts.find? fun t=>decide (t.1=b)).map fun t=>tblO t.2.1 t.2.2,fun u _=>u=.bl true,.one (.rol hR RUs.of_ints),(fun b o e=>?_),⟨ns,rfl,hl,fun t ht=>?_,fun _=>rfl⟩,fun u A v H' _ _ r e=>by subst e;cases r;rfl⟩
  . obtain ⟨t,ht,rfl⟩:=Option.map_eq_some_iff.mp e
    have h1:=List.mem_of_find?_eq_some ht
    have h2:t.1=b:=of_decide_eq_true (List.find?_some (p:=fun t:Addr × Pos × Str=>decide (t.1=b)) ht)
    subst h2
    exact tblO_ro (hT t h1) trivial (.inl rfl)
  . have : ts.find? (fun t'=>decide (t'.1=t.1))=some t:=by
      clear hO hT
      induction ts with
      | nil=>cases ht
      | cons y ys ih =>
        rw [List.map_cons,List.nodup_cons] at hd
        rcases List.mem_cons.mp ht with z | z
        . subst z;simp
        . have:y.1≠t.1:=fun e=>hd.1 (by rw [e];exact List.mem_map.mpr ⟨t,z,rfl⟩)
          rw [List.find?_cons_of_neg (by simpa using this)]
          exact ih hd.2 z
    show (ts.find? fun t'=>decide (t'.1=t.1)).map _=_
    rw [this];rfl
end L2
namespace L2
open PySem PySem.Spec PySem.W PyProof.Rows
end L2
namespace L2
open PySem PySem.Spec PySem.W PyProof.Rows
section
variable {P:Program} {w:World} {K:PySem.W.Frag} {mg:Str->Option Value} {base:Heap}
theorem Fun.okL {x qual:Str} {st:Stmt} {f c0:Addr} {fd:FuncData} {N ps:List Str} {k:Nat} {asp:ASp} {sc:Scope} {body:List Stmt} {as:AS} (F:Fun K x qual st f fd) (hc:fd.code=.ref c0) (hs:defScope st=sc) (hb:defBody st=body) (S:FnScope N ps (defScope st))
    (hB:FnScope N ps sc->∀ (A:Around) (outer:List Env) (s:Shared) (H:Hp) (E:XK),Room k (A.deeper (envOfC qual sc s.heap.objs.size f (.ref c0)))->∃ t,PSs (cxOf CX0 P w K mg base N qual sc f (.ref c0) A outer s H E).nox body t/\AbS K t as)
    (hS:∀ us A Q,asp us A Q->us.length=ps.length/\as { nx:=fun _ A'=>Fg Q .non A',rt:=Fg Q } (aStart N us) A):FnOk P w K mg base CX0 (k + 1) f fd ps (spOf K asp):=by
  subst hs hb
  obtain ⟨oc,od,kV,doc,pm,an,cdv,ct,osl,rfl,lk,hcd⟩:=F.ex
  have hc':cdv=.ref c0:=hc
  subst hc'
  refine fn_of lk hcd S (fun vs H Q E h=>?_) fun A outer s H vs Q E hr h=>?_
  . obtain ⟨us,A,Q',r,g,h,k⟩:=h
    rw [<- r.length];exact (hS us A Q' h).1
  . obtain ⟨us,A',Q',r,g,h,k⟩:=h
    obtain ⟨t,ht,ha⟩:=hB S A outer s H E hr
    exact ⟨t,ht.nox,ha _ _ _ _ _ _ (RSt.start N r) g (hS us A' Q' h).2 ⟨fun ρ A σ H' k' g' s' ⟨A3,e,q'⟩=>k _ _ _ _ k' (g'.ext e) .non q',fun u A v H' k' g' r' ⟨A3,e,q'⟩=>k _ _ _ _ k' (g'.ext e) r' q',fun _ _ _ _ _ _ _ q=>q.elim,fun _ _ _ _ _ _ _ q=>q.elim⟩⟩
end
section
variable {asp:ASp} {b:Bool} {aa ae:AE} {ρ:ASt} {A:AHp} {Q:AVK} {P p:Addr} {lpos:Pos} {qual:Str} {N:List Str}
theorem q_sortL:(aSortL P lpos qual N ae b aa ρ A Q)=(aa ρ A fun x A1=>xSortL P lpos qual N ae b x A1 Q):=rfl
end
end L2
namespace L2
open PySem
mutual
noncomputable def plainD:PyData->Bool
  | .int _=>true
  | .str _=>true
  | .tuple xs=>plainDs xs
  | .list xs=>plainDs xs
  | _=>false
noncomputable def plainDs:List PyData->Bool
  | []=>true
  | x::xs=>plainD x && plainDs xs
end
theorem eqv_aux:∀ n:Nat,(∀ x y:PyData,sizeOf x<=n->plainD x=true->plainD y=true->(PyData.eqv x y=true ↔ x=y))/\∀ xs ys:List PyData,sizeOf xs<=n->plainDs xs=true->plainDs ys=true->(PyData.eqvAll xs ys=true ↔ xs=ys)
  | 0=>⟨fun x y h=>by cases x <;> simp at h,fun xs ys h=>by cases xs <;> simp at h⟩
  | n + 1 => by
    obtain ⟨i1,i2⟩:=eqv_aux n
    constructor
    . intro x y h px py
      cases x with
      | int i=>cases y <;> simp [plainD] at py <;> simp [PyData.eqv]
      | str i=>cases y <;> simp [plainD] at py <;> simp [PyData.eqv]
      | tuple xs =>
        cases y with
        | tuple ys =>
          simp at h
          simp only [plainD] at px py
          simp only [PyData.eqv,PyData.tuple.injEq]
          exact i2 xs ys (by lia) px py
        | _=>simp [PyData.eqv]
      | list xs =>
        cases y with
        | list ys =>
          simp at h
          simp only [plainD] at px py
          simp only [PyData.eqv,PyData.list.injEq]
          exact i2 xs ys (by lia) px py
        | _=>simp [PyData.eqv]
      | _=>simp [plainD] at px
    . intro xs ys h px py
      cases xs with
      | nil=>cases ys <;> simp [PyData.eqvAll]
      | cons x xs =>
        cases ys with
        | nil=>simp [PyData.eqvAll]
        | cons y ys =>
          simp only [plainDs,Bool.and_eq_true] at px py
          simp at h
          simp only [PyData.eqvAll,Bool.and_eq_true,List.cons.injEq]
          rw [i1 x y (by lia) px.1 py.1,i2 xs ys (by lia) px.2 py.2]
theorem eqv_iff {x y:PyData} (px:plainD x=true) (py:plainD y=true):PyData.eqv x y=true ↔ x=y:=(eqv_aux (sizeOf x)).1 x y (Nat.le_refl _) px py
theorem lt_aux : ∀ n:Nat,(∀ x y:PyData,sizeOf x<=n->plainD x=true->plainD y=true->(ltv x y=true->ltv y x=false)/\(okLt x y=true->ltv x y=true\/x=y\/ltv y x=true)) /\
    ∀ xs ys:List PyData,sizeOf xs<=n->plainDs xs=true->plainDs ys=true->(ltvA xs ys=true->ltvA ys xs=false)/\(okLtA xs ys=true->ltvA xs ys=true\/xs=ys\/ltvA ys xs=true)
  | 0=>⟨fun x y h=>by cases x <;> simp at h,fun xs ys h=>by cases xs <;> simp at h⟩
  | n + 1 => by
    obtain ⟨i1,i2⟩:=lt_aux n
    constructor
    . intro x y h px py
      cases x with
      | int i =>
        cases y with
        | int j=>simp only [ltv,okLt,decide_eq_true_eq,decide_eq_false_iff_not,PyData.int.injEq];lia
        | _=>simp [ltv,okLt]
      | str i =>
        cases y with
        | str j =>
          simp only [ltv,okLt,decide_eq_true_eq,decide_eq_false_iff_not,PyData.str.injEq]
          refine ⟨fun h=>List.lt_asymm h,fun _=>?_⟩
          rcases Decidable.em (i.cps.toList < j.cps.toList) with a | a
          . exact .inl a
          . rcases Decidable.em (j.cps.toList < i.cps.toList) with b | b
            . exact .inr (.inr b)
            . refine .inr (.inl ?_)
              have e:i.cps.toList=j.cps.toList:=List.le_antisymm (List.not_lt.mp b) (List.not_lt.mp a)
              have e2:=Array.toList_inj.mp e
              cases i;cases j;simp at e2;rw [e2]
        | _=>simp [ltv,okLt]
      | tuple xs =>
        cases y with
        | tuple ys =>
          simp at h
          simp only [plainD] at px py
          simp only [ltv,okLt,PyData.tuple.injEq]
          exact i2 xs ys (by lia) px py
        | _=>simp [ltv,okLt]
      | list xs =>
        cases y with
        | list ys =>
          simp at h
          simp only [plainD] at px py
          simp only [ltv,okLt,PyData.list.injEq]
          exact i2 xs ys (by lia) px py
        | _=>simp [ltv,okLt]
      | _=>simp [plainD] at px
    . intro xs ys h px py
      cases xs with
      | nil=>cases ys <;> simp [ltvA,okLtA]
      | cons x xs =>
        cases ys with
        | nil=>simp [ltvA,okLtA]
        | cons y ys =>
          simp only [plainDs,Bool.and_eq_true] at px py
          simp at h
          have a1:=i1 x y (by lia) px.1 py.1
          have a2:=i2 xs ys (by lia) px.2 py.2
          simp only [ltvA,okLtA]
          by_cases e:x=y
          . have e1:PyData.eqv x y=true:=(eqv_iff px.1 py.1).mpr e
            subst e
            simp only [e1,if_true,List.cons.injEq,true_and]
            exact a2
          . have e1:PyData.eqv x y=false:=by cases q:PyData.eqv x y with | false=>rfl | true=>exact absurd ((eqv_iff px.1 py.1).mp q) e
            have e2:PyData.eqv y x=false:=by cases q:PyData.eqv y x with | false=>rfl | true=>exact absurd ((eqv_iff py.1 px.1).mp q).symm e
            simp only [e1,e2,Bool.false_eq_true,if_false,List.cons.injEq]
            refine ⟨a1.1,fun o=>?_⟩
            rcases a1.2 o with z | z | z
            . exact .inl z
            . exact absurd z e
            . exact .inr (.inr z)
theorem lt_asymm {x y:PyData} (px:plainD x=true) (py:plainD y=true) (h:ltv x y=true):ltv y x=false:=((lt_aux (sizeOf x)).1 x y (Nat.le_refl _) px py).1 h
theorem lt_conn {x y:PyData} (px:plainD x=true) (py:plainD y=true) (h:okLt x y=true):ltv x y=true\/x=y\/ltv y x=true:=((lt_aux (sizeOf x)).1 x y (Nat.le_refl _) px py).2 h
theorem eqv_no {x y:PyData} (px:plainD x=true) (py:plainD y=true) (e:x≠y):PyData.eqv x y=false:=by
  cases q:PyData.eqv x y with
  | false=>rfl
  | true=>exact absurd ((eqv_iff px py).mp q) e
theorem eqv_yes {x:PyData} (px:plainD x=true):PyData.eqv x x=true:=(eqv_iff px px).mpr rfl
theorem tr_aux : ∀ n:Nat,(∀ x y z:PyData,sizeOf x<=n->plainD x=true->plainD y=true->plainD z=true->okLt x z=true->ltv x y=true->ltv y z=true->ltv x z=true) /\
    ∀ xs ys zs:List PyData,sizeOf xs<=n->plainDs xs=true->plainDs ys=true->plainDs zs=true->okLtA xs zs=true->ltvA xs ys=true->ltvA ys zs=true->ltvA xs zs=true
  | 0=>⟨fun x y z h=>by cases x <;> simp at h,fun xs ys zs h=>by cases xs <;> simp at h⟩
  | n + 1 => by
    obtain ⟨i1,i2⟩:=tr_aux n
    constructor
    . intro x y z h px py pz o h1 h2
      cases x with
      | int i =>
        cases y with
        | int j =>
          cases z with
          | int k=>simp only [ltv,decide_eq_true_eq] at h1 h2 ⊢;lia
          | _=>simp [ltv] at h2
        | _=>simp [ltv] at h1
      | str i =>
        cases y with
        | str j =>
          cases z with
          | str k=>simp only [ltv,decide_eq_true_eq] at h1 h2 ⊢;exact List.lt_trans h1 h2
          | _=>simp [ltv] at h2
        | _=>simp [ltv] at h1
      | tuple xs =>
        cases y with
        | tuple ys =>
          cases z with
          | tuple zs =>
            simp at h
            simp only [plainD] at px py pz
            simp only [ltv,okLt] at h1 h2 o ⊢
            exact i2 xs ys zs (by lia) px py pz o h1 h2
          | _=>simp [ltv] at h2
        | _=>simp [ltv] at h1
      | list xs =>
        cases y with
        | list ys =>
          cases z with
          | list zs =>
            simp at h
            simp only [plainD] at px py pz
            simp only [ltv,okLt] at h1 h2 o ⊢
            exact i2 xs ys zs (by lia) px py pz o h1 h2
          | _=>simp [ltv] at h2
        | _=>simp [ltv] at h1
      | _=>simp [plainD] at px
    . intro xs ys zs h px py pz o h1 h2
      cases xs with
      | nil =>
        cases ys with
        | nil=>simp [ltvA] at h1
        | cons y ys =>
          cases zs with
          | nil=>simp [ltvA] at h2
          | cons z zs=>simp [ltvA]
      | cons x xs =>
        cases ys with
        | nil=>simp [ltvA] at h1
        | cons y ys =>
          cases zs with
          | nil=>simp [ltvA] at h2
          | cons z zs =>
            simp only [plainDs,Bool.and_eq_true] at px py pz
            simp at h
            simp only [ltvA,okLtA] at h1 h2 o ⊢
            by_cases e1:x=y
            . subst e1
              rw [if_pos (eqv_yes px.1)] at h1
              by_cases e2:x=z
              . subst e2
                rw [if_pos (eqv_yes px.1)] at h2 o ⊢
                exact i2 xs ys zs (by lia) px.2 py.2 pz.2 o h1 h2
              . rw [if_neg (by rw [eqv_no px.1 pz.1 e2];simp)] at h2 ⊢
                exact h2
            . rw [if_neg (by rw [eqv_no px.1 py.1 e1];simp)] at h1
              by_cases e2:y=z
              . subst e2
                rw [if_neg (by rw [eqv_no px.1 py.1 e1];simp)]
                exact h1
              . rw [if_neg (by rw [eqv_no py.1 pz.1 e2];simp)] at h2
                by_cases e3:x=z
                . subst e3
                  rw [lt_asymm px.1 py.1 h1] at h2;cases h2
                . rw [if_neg (by rw [eqv_no px.1 pz.1 e3];simp)] at o ⊢
                  exact i1 x y z (by lia) px.1 py.1 pz.1 o h1 h2
theorem lt_trans' {x y z:PyData} (px:plainD x=true) (py:plainD y=true) (pz:plainD z=true) (o:okLt x z=true) (h1:ltv x y=true) (h2:ltv y z=true):ltv x z=true:=(tr_aux (sizeOf x)).1 x y z (Nat.le_refl _) px py pz o h1 h2
theorem ordD {ds:List PyData} (hp:∀ d∈ds,plainD d=true) (ok:∀ d∈ds,∀ e∈ds,okLt d e=true):SortA.Ord ds.length (ltD ds):=by
  have mem:∀ i,i < ds.length->ds.getD i .none∈ds:=fun i hi=>by
    rw [List.getD_eq_getElem?_getD,List.getElem?_eq_getElem hi];exact List.getElem_mem _
  refine ⟨fun i j hi hj h=>lt_asymm (hp _ (mem i hi)) (hp _ (mem j hj)) h,fun i j k hi hj hk h1 h2=>?_⟩
  unfold ltD at h1 h2 ⊢
  cases q:ltv (ds.getD k .none) (ds.getD i .none) with
  | false=>rfl
  | true =>
    rcases lt_conn (hp _ (mem i hi)) (hp _ (mem j hj)) (ok _ (mem i hi) _ (mem j hj)) with z | z | z
    . rw [lt_trans' (hp _ (mem k hk)) (hp _ (mem i hi)) (hp _ (mem j hj)) (ok _ (mem k hk) _ (mem j hj)) q z] at h2;cases h2
    . rw [z] at q;rw [q] at h2;cases h2
    . rw [z] at h1;cases h1
end L2
namespace L2
open PySem PySem.W
theorem katRev_map {α β:Type} (b:Bool) (f:α->β) (l:List α):katRev b (l.map f)=(katRev b l).map f:=by
  unfold PySem.W.katRev;split
  . rw [List.map_reverse]
  . rfl
theorem range_getD {α:Type} (l:List α) (d:α):(List.range l.length).map (fun i=>l.getD i d)=l:=by
  apply List.ext_getElem
  . simp
  . intro i h1 h2;simp [h2]
noncomputable def srtI (b:Bool) (n:Nat) (ds:List PyData):List Nat:=if n < 2 then List.range n else katRev b ((SortA.runT (ltD (katRev b ds)) (kas_sort n)).toList.map fun i=>(katRev b (List.range n)).getD i 0)
theorem katRev_at {α:Type} (b:Bool) (l:List α) (d:α) (i:Nat) (hi:i < l.length):(katRev b l).getD i d=l.getD ((katRev b (List.range l.length)).getD i 0) d:=by
  unfold PySem.W.katRev
  cases b with
  | false=>simp [hi]
  | true =>
    have h2:l.length - 1 - i < l.length:=by lia
    simp [hi,List.getElem?_reverse,h2]
theorem srt_eq (b:Bool) (us:List U) (ds:List PyData):srt b us ds=(srtI b us.length ds).map fun i=>us.getD i .non:=by
  unfold srt srtI
  by_cases h:us.length < 2
  . rw [if_pos h,if_pos h];exact (range_getD us .non).symm
  . rw [if_neg h,if_neg h,<- katRev_map,List.map_map]
    congr 1
    apply List.map_congr_left
    intro i hi
    exact katRev_at b us .non i ((runs_ok (by lia) _).2 i hi)
theorem revI_perm (b:Bool) (n:Nat) {L:List Nat} (h:L.Perm (List.range n)):(katRev b (L.map fun i=>(katRev b (List.range n)).getD i 0)).Perm (List.range n):=by
  have e:((List.range n).map fun i=>(katRev b (List.range n)).getD i 0)=katRev b (List.range n):=by
    have:=range_getD (katRev b (List.range n)) 0
    rw [kat_len,List.length_range] at this
    exact this
  have p1:(L.map fun i=>(katRev b (List.range n)).getD i 0).Perm (katRev b (List.range n)):=by
    have:=h.map fun i=>(katRev b (List.range n)).getD i 0
    rw [e] at this;exact this
  have p2:∀ l:List Nat,(katRev b l).Perm l:=fun l=>by
    unfold PySem.W.katRev;split
    . exact List.reverse_perm l
    . exact .refl _
  exact (p2 _).trans (p1.trans (p2 _))
theorem srtI_perm (b:Bool) (ds:List PyData) (hp:∀ d∈ds,plainD d=true) (ok:∀ d∈ds,∀ e∈ds,okLt d e=true):(srtI b ds.length ds).Perm (List.range ds.length):=by
  unfold srtI
  by_cases h:ds.length < 2
  . rw [if_pos h]
  . rw [if_neg h]
    have O:SortA.Ord (katRev b ds).length (ltD (katRev b ds)):=ordD (fun d hd=>hp d (mem_katRev hd)) fun d hd e he=>ok d (mem_katRev hd) e (mem_katRev he)
    rw [kat_len] at O
    exact revI_perm b ds.length (SortA.sort_ok O (by lia)).1
theorem ltD_rev {ds:List PyData} {i j:Nat} (hi:i < ds.length) (hj:j < ds.length) (b:Bool):ltD (katRev b ds) i j=ltD ds ((katRev b (List.range ds.length)).getD i 0) ((katRev b (List.range ds.length)).getD j 0):=by
  unfold ltD
  rw [katRev_at b ds .none i hi,katRev_at b ds .none j hj]
theorem srtI_sorted (b:Bool) (ds:List PyData) (hp:∀ d∈ds,plainD d=true) (ok:∀ d∈ds,∀ e∈ds,okLt d e=true):(srtI b ds.length ds).Pairwise fun i j=>if b=true then ltD ds i j=false else ltD ds j i=false:=by
  unfold srtI
  by_cases h:ds.length < 2
  . rw [if_pos h]
    have:ds.length=0\/ds.length=1:=by lia
    rcases this with e | e <;> rw [e]
    . exact List.Pairwise.nil
    . exact List.pairwise_singleton _ _
  . rw [if_neg h]
    have O:SortA.Ord (katRev b ds).length (ltD (katRev b ds)):=ordD (fun d hd=>hp d (mem_katRev hd)) fun d hd e he=>ok d (mem_katRev hd) e (mem_katRev he)
    rw [kat_len] at O
    obtain ⟨pm,up⟩:=SortA.sort_ok O (by lia:1<=ds.length)
    generalize SortA.runT (ltD (katRev b ds)) (kas_sort ds.length)=p at pm up
    have hs:p.toList.length=ds.length:=by rw [Array.length_toList];exact pm.size
    have base:(p.toList.map fun i=>(katRev b (List.range ds.length)).getD i 0).Pairwise fun i j=>ltD ds j i=false:=by
      rw [List.pairwise_map,List.pairwise_iff_getElem]
      intro i j hi hj hij
      have h1:=up i j hij (by rw [hs] at hj;exact hj)
      unfold SortA.Le at h1
      have gi:p.getD i 0=p.toList[i]:=by simp at hi;simp [Array.getD,hi]
      have gj:p.getD j 0=p.toList[j]:=by simp at hj;simp [Array.getD,hj]
      have bi:=pm.inb i (by rw [hs] at hi;exact hi)
      have bj:=pm.inb j (by rw [hs] at hj;exact hj)
      rw [ltD_rev bj bi b,gi,gj] at h1
      exact h1
    cases b with
    | false =>
      simp only [PySem.W.katRev,Bool.false_eq_true,if_false] at base ⊢
      exact base
    | true =>
      simp only [PySem.W.katRev,if_true] at base ⊢
      rw [List.pairwise_reverse]
      exact base
theorem falling_one {α:Type} (k:α->PyData):∀ {l1 l2:List α},(∀ x∈l1,plainD (k x)=true)->(∀ x∈l1,∀ y∈l1,okLt (k x) (k y)=true)->(∀ x∈l1,∀ y∈l1,k x=k y->x=y)->l1.Perm l2 ->
    l1.Pairwise (fun x y=>ltv (k x) (k y)=false)->l2.Pairwise (fun x y=>ltv (k x) (k y)=false)->l1=l2
  | [],l2,_,_,_,p,_,_=>by rw [List.nil_perm.mp p]
  | x::l1,[],_,_,_,p,_,_=>by have:=p.length_eq;simp at this
  | x :: l1, y::l2,hp,ok,inj,p,s1,s2=>by
    have hy:y∈x::l1:=p.mem_iff.mpr (.head _)
    have hx:x∈y::l2:=p.mem_iff.mp (.head _)
    have e : x=y:=by
      rcases List.mem_cons.mp hx with z | z
      . exact z
      . rcases List.mem_cons.mp hy with w | w
        . exact w.symm
        . have a1:=(List.pairwise_cons.mp s1).1 y w
          have a2:=(List.pairwise_cons.mp s2).1 x z
          rcases lt_conn (hp x (.head _)) (hp y hy) (ok x (.head _) y hy) with q | q | q
          . rw [q] at a1;cases a1
          . exact inj x (.head _) y hy q
          . rw [q] at a2;cases a2
    subst e
    have p':l1.Perm l2:=(List.perm_cons x).mp p
    rw [falling_one k (fun a ha=>hp a (.tail _ ha)) (fun a ha b hb=>ok a (.tail _ ha) b (.tail _ hb)) (fun a ha b hb=>inj a (.tail _ ha) b (.tail _ hb)) p' (List.pairwise_cons.mp s1).2 (List.pairwise_cons.mp s2).2]
noncomputable def srtK {α:Type} (k:α->PyData) (d:α) (b:Bool) (ws:List α):List α:=(srtI b ws.length (ws.map k)).map fun i=>ws.getD i d
theorem srtK_perm {α:Type} {k:α->PyData} {d:α} {ws:List α} (b:Bool) (hp:∀ x∈ws,plainD (k x)=true) (ok:∀ x∈ws,∀ y∈ws,okLt (k x) (k y)=true):(srtK k d b ws).Perm ws:=by
  unfold srtK
  have h:=srtI_perm b (ws.map k) (fun x hx=>by obtain ⟨w,hw,rfl⟩:=List.mem_map.mp hx;exact hp w hw) (fun x hx y hy=>by
    obtain ⟨w,hw,rfl⟩:=List.mem_map.mp hx
    obtain ⟨v,hv,rfl⟩:=List.mem_map.mp hy
    exact ok w hw v hv)
  rw [List.length_map] at h
  have:=h.map fun i=>ws.getD i d
  rw [range_getD] at this
  exact this
theorem srtK_falls {α:Type} {k:α->PyData} {d:α} {ws:List α} (hp:∀ x∈ws,plainD (k x)=true) (ok:∀ x∈ws,∀ y∈ws,okLt (k x) (k y)=true):(srtK k d true ws).Pairwise fun x y=>ltv (k x) (k y)=false:=by
  unfold srtK
  have hp':∀ x∈ws.map k,plainD x=true:=fun x hx=>by obtain ⟨w,hw,rfl⟩:=List.mem_map.mp hx;exact hp w hw
  have ok':∀ x∈ws.map k,∀ y∈ws.map k,okLt x y=true:=fun x hx y hy=>by
    obtain ⟨w,hw,rfl⟩:=List.mem_map.mp hx
    obtain ⟨v,hv,rfl⟩:=List.mem_map.mp hy
    exact ok w hw v hv
  have h:=srtI_sorted true (ws.map k) hp' ok'
  have hm:=srtI_perm true (ws.map k) hp' ok'
  rw [List.length_map] at h hm
  rw [List.pairwise_map]
  refine h.imp_of_mem fun {i j} hi hj q=>?_
  rw [if_pos rfl] at q
  have bi:i < ws.length:=List.mem_range.mp (hm.mem_iff.mp hi)
  have bj:j < ws.length:=List.mem_range.mp (hm.mem_iff.mp hj)
  unfold ltD at q
  rw [List.getD_eq_getElem?_getD,List.getD_eq_getElem?_getD,List.getElem?_map,List.getElem?_map,List.getElem?_eq_getElem bi,List.getElem?_eq_getElem bj] at q
  rw [List.getD_eq_getElem?_getD,List.getD_eq_getElem?_getD,List.getElem?_eq_getElem bi,List.getElem?_eq_getElem bj]
  exact q
theorem srtK_same {α:Type} {k:α->PyData} {d:α} {ws vs:List α} (hp:∀ x∈ws,plainD (k x)=true) (ok:∀ x∈ws,∀ y∈ws,okLt (k x) (k y)=true) (inj:∀ x∈ws,∀ y∈ws,k x=k y->x=y) (p:ws.Perm vs):srtK k d true ws=srtK k d true vs:=by
  have hp2:∀ x∈vs,plainD (k x)=true:=fun x hx=>hp x (p.mem_iff.mpr hx)
  have ok2:∀ x∈vs,∀ y∈vs,okLt (k x) (k y)=true:=fun x hx y hy=>ok x (p.mem_iff.mpr hx) y (p.mem_iff.mpr hy)
  have q1:=srtK_perm (d:=d) true hp ok
  have q2:=srtK_perm (d:=d) true hp2 ok2
  refine falling_one k (fun x hx=>hp x (q1.mem_iff.mp hx)) (fun x hx y hy=>ok x (q1.mem_iff.mp hx) y (q1.mem_iff.mp hy)) (fun x hx y hy=>inj x (q1.mem_iff.mp hx) y (q1.mem_iff.mp hy)) (q1.trans (p.trans q2.symm)) (srtK_falls hp ok) (srtK_falls hp2 ok2)
theorem srt_of {α:Type} {k:α->PyData} {d:α} {ws:List α} (b:Bool) (f:α->U):(srt b (ws.map f) (ws.map k)).length=ws.length/\((∀ x∈ws,plainD (k x)=true)->(∀ x∈ws,∀ y∈ws,okLt (k x) (k y)=true)->srt b (ws.map f) (ws.map k)=(srtK k d b ws).map f):=by
  refine ⟨by rw [srt_len,List.length_map],fun hp ok=>?_⟩
  have hm:=srtI_perm b (ws.map k) (fun x hx=>by obtain ⟨w,hw,rfl⟩:=List.mem_map.mp hx;exact hp w hw) (fun x hx y hy=>by
    obtain ⟨w,hw,rfl⟩:=List.mem_map.mp hx
    obtain ⟨v,hv,rfl⟩:=List.mem_map.mp hy
    exact ok w hw v hv)
  rw [List.length_map] at hm
  rw [srt_eq,List.length_map]
  unfold srtK
  rw [List.map_map]
  apply List.map_congr_left
  intro i hi
  have bi:i < ws.length:=List.mem_range.mp (hm.mem_iff.mp hi)
  show (ws.map f).getD i .non=f (ws.getD i d)
  rw [List.getD_eq_getElem?_getD,List.getD_eq_getElem?_getD,List.getElem?_map,List.getElem?_eq_getElem bi];rfl
theorem best_lt {lt:Nat->Nat->Bool}:∀ m,argBest lt m<=m
  | 0=>Nat.le_refl _
  | m + 1=>by
    show (if lt (m + 1) (argBest lt m)=true then m + 1 else argBest lt m)<=m + 1
    have:=best_lt (lt:=lt) m
    split <;> lia
theorem best_min {n:Nat} {lt:Nat->Nat->Bool} (O:SortA.Ord n lt):∀ m,m < n->∀ j,j<=m->lt j (argBest lt m)=false
  | 0, h,j,hj=>by
    obtain rfl:j=0:=by lia
    show lt 0 0=false
    cases q:lt 0 0 with
    | false=>rfl
    | true=>have:=O.tot 0 0 h h q;rw [q] at this;cases this
  | m + 1, h,j,hj=>by
    have ih:=best_min O m (by lia)
    have hb:=best_lt (lt:=lt) m
    show lt j (if lt (m + 1) (argBest lt m)=true then m + 1 else argBest lt m)=false
    by_cases c:lt (m + 1) (argBest lt m)=true
    . rw [if_pos c]
      by_cases e:j=m + 1
      . subst e
        cases q:lt (m + 1) (m + 1) with
        | false=>rfl
        | true=>have:=O.tot _ _ h h q;rw [q] at this;cases this
      . exact O.tr (m + 1) (argBest lt m) j h (by lia) (by lia) (O.tot _ _ h (by lia) c) (ih j (by lia))
    . rw [if_neg c]
      by_cases e:j=m + 1
      . subst e;simpa using c
      . exact ih j (by lia)
theorem okLtA_of:∀ {xs ys:List PyData},(∀ x∈xs,∀ y∈ys,okLt x y=true)->okLtA xs ys=true
  | [],_,_=>by simp [okLtA]
  | _::_,[],_=>by simp [okLtA]
  | x :: xs,y::ys,h=>by
    simp only [okLtA]
    split
    . exact okLtA_of fun a ha b hb=>h a (.tail _ ha) b (.tail _ hb)
    . exact h x (.head _) y (.head _)
theorem plainDs_of:∀ {xs:List PyData},(∀ x∈xs,plainD x=true)->plainDs xs=true
  | [],_=>rfl
  | x::xs,h=>by simp only [plainDs,Bool.and_eq_true];exact ⟨h x (.head _),plainDs_of fun a ha=>h a (.tail _ ha)⟩
noncomputable def turnL {α:Type} (ps:List α) (i:Nat):List α:=ps.drop i++ps.take i
theorem turnL_len {α:Type} (ps:List α) (i:Nat):(turnL ps i).length=ps.length:=by unfold turnL;simp;lia
theorem turnL_perm {α:Type} (ps:List α) (i:Nat):(turnL ps i).Perm ps:=by
  unfold turnL
  have h:=List.take_append_drop i ps
  exact List.perm_append_comm.trans (by rw [h])
theorem turnL_get {α:Type} (ps:List α) {r i:Nat} (hr:r < ps.length) (hi:i < ps.length):(turnL ps r)[i]? = ps[(r + i) % ps.length]?:=by
  unfold turnL
  by_cases h:r + i < ps.length
  . rw [List.getElem?_append_left (by rw [List.length_drop];lia),List.getElem?_drop,Nat.mod_eq_of_lt h]
  . rw [List.getElem?_append_right (by rw [List.length_drop];lia),List.length_drop,List.getElem?_take_of_lt (by lia)]
    have e:(r + i) % ps.length=r + i - ps.length:=by rw [Nat.mod_eq_sub_mod (by lia),Nat.mod_eq_of_lt (by lia)]
    rw [e];congr 1;lia
theorem turnL_turnL {α:Type} (ps:List α) {r i:Nat} (hr:r < ps.length) (hi:i < ps.length):turnL (turnL ps r) i=turnL ps ((r + i) % ps.length):=by
  have h0:0 < ps.length:=by lia
  have hm:(r + i) % ps.length < ps.length:=Nat.mod_lt _ h0
  apply List.ext_getElem?
  intro j
  by_cases hj:j < ps.length
  . rw [turnL_get _ (by rw [turnL_len];exact hi) (by rw [turnL_len];exact hj),turnL_len,turnL_get _ hr (Nat.mod_lt _ h0),turnL_get _ hm hj]
    congr 1
    rw [Nat.add_mod_mod,Nat.mod_add_mod,Nat.add_assoc]
  . rw [List.getElem?_eq_none (by rw [turnL_len,turnL_len];lia),List.getElem?_eq_none (by rw [turnL_len];lia)]
section
variable {α:Type} (k:α->PyData)
noncomputable def kdL (ps:List α):PyData:=.list (ps.map k)
noncomputable def bestT (ps:List α):Nat:=argBest (fun i j=>ltv (kdL k (turnL ps i)) (kdL k (turnL ps j))) (ps.length - 1)
noncomputable def leastT (ps:List α):List α:=turnL ps (bestT k ps)
variable {k}
theorem turns_ord {ps:List α} (hp:∀ x∈ps,plainD (k x)=true) (ok:∀ x∈ps,∀ y∈ps,okLt (k x) (k y)=true):SortA.Ord ps.length (fun i j=>ltv (kdL k (turnL ps i)) (kdL k (turnL ps j))) /\
    (∀ i,plainD (kdL k (turnL ps i))=true)/\∀ i j,okLt (kdL k (turnL ps i)) (kdL k (turnL ps j))=true:=by
  have pl:∀ i,plainD (kdL k (turnL ps i))=true:=fun i=>by
    unfold kdL;simp only [plainD]
    exact plainDs_of fun x hx=>by obtain ⟨w,hw,rfl⟩:=List.mem_map.mp hx;exact hp w ((turnL_perm ps i).mem_iff.mp hw)
  have okk:∀ i j,okLt (kdL k (turnL ps i)) (kdL k (turnL ps j))=true:=fun i j=>by
    unfold kdL;simp only [okLt]
    exact okLtA_of fun x hx y hy=>by
      obtain ⟨w,hw,rfl⟩:=List.mem_map.mp hx
      obtain ⟨v,hv,rfl⟩:=List.mem_map.mp hy
      exact ok w ((turnL_perm ps i).mem_iff.mp hw) v ((turnL_perm ps j).mem_iff.mp hv)
  refine ⟨⟨fun i j hi hj h=>lt_asymm (pl i) (pl j) h,fun i j m hi hj hm h1 h2=>?_⟩,pl,okk⟩
  cases q:ltv (kdL k (turnL ps m)) (kdL k (turnL ps i)) with
  | false=>rfl
  | true =>
    rcases lt_conn (pl i) (pl j) (okk i j) with z | z | z
    . rw [lt_trans' (pl m) (pl i) (pl j) (okk m j) q z] at h2;cases h2
    . rw [z] at q;rw [q] at h2;cases h2
    . rw [z] at h1;cases h1
theorem map_inj {ps qs:List α} (inj:∀ x∈ps,∀ y∈qs,k x=k y->x=y):ps.map k=qs.map k->ps=qs:=by
  induction ps generalizing qs with
  | nil=>intro h;cases qs with
    | nil=>rfl
    | cons _ _=>simp at h
  | cons x ps ih =>
    intro h
    cases qs with
    | nil=>simp at h
    | cons y qs =>
      simp only [List.map_cons,List.cons.injEq] at h
      rw [inj x (.head _) y (.head _) h.1,ih (fun a ha b hb=>inj a (.tail _ ha) b (.tail _ hb)) h.2]
theorem leastT_turn {ps:List α} (hp:∀ x∈ps,plainD (k x)=true) (ok:∀ x∈ps,∀ y∈ps,okLt (k x) (k y)=true) (inj:∀ x∈ps,∀ y∈ps,k x=k y->x=y) {r:Nat} (hr:r < ps.length):leastT k (turnL ps r)=leastT k ps:=by
  have m:∀ i x,x∈turnL ps i ↔ x∈ps:=fun i x=>(turnL_perm ps i).mem_iff
  have hp2:∀ x∈turnL ps r,plainD (k x)=true:=fun x hx=>hp x ((turnL_perm ps r).mem_iff.mp hx)
  have ok2:∀ x∈turnL ps r,∀ y∈turnL ps r,okLt (k x) (k y)=true:=fun x hx y hy=>ok x ((turnL_perm ps r).mem_iff.mp hx) y ((turnL_perm ps r).mem_iff.mp hy)
  obtain ⟨O1,pl,okk⟩:=turns_ord hp ok
  obtain ⟨O2,_,_⟩:=turns_ord hp2 ok2
  have b1:=best_lt (lt:=fun i j=>ltv (kdL k (turnL ps i)) (kdL k (turnL ps j))) (ps.length - 1)
  have b2:=best_lt (lt:=fun i j=>ltv (kdL k (turnL (turnL ps r) i)) (kdL k (turnL (turnL ps r) j))) ((turnL ps r).length - 1)
  have m1:=best_min O1 (ps.length - 1) (by lia)
  have m2:=best_min O2 ((turnL ps r).length - 1) (by rw [turnL_len];lia)
  have c1:bestT k ps<=ps.length - 1:=b1
  have c2:bestT k (turnL ps r)<=ps.length - 1:=by
    have q:bestT k (turnL ps r)<=(turnL ps r).length - 1:=b2
    have q2:=turnL_len ps r
    lia
  have e2:leastT k (turnL ps r)=turnL ps ((r + bestT k (turnL ps r)) % ps.length):=turnL_turnL ps hr (by lia)
  have h0:0 < ps.length:=by lia
  have hmod:(r + bestT k (turnL ps r)) % ps.length < ps.length:=Nat.mod_lt _ h0
  have n1:ltv (kdL k (leastT k (turnL ps r))) (kdL k (leastT k ps))=false:=by
    rw [e2];exact m1 _ (by lia)
  have n2:ltv (kdL k (leastT k ps)) (kdL k (leastT k (turnL ps r)))=false:=by
    have hj:∃ j,j < ps.length/\(r + j) % ps.length=bestT k ps:=by
      by_cases c:r<=bestT k ps
      . exact ⟨bestT k ps - r,by lia,by rw [show r + (bestT k ps - r)=bestT k ps by lia,Nat.mod_eq_of_lt (by lia)]⟩
      . exact ⟨bestT k ps + ps.length - r,by lia,by rw [show r + (bestT k ps + ps.length - r)=bestT k ps + ps.length by lia,Nat.add_mod_right,Nat.mod_eq_of_lt (by lia)]⟩
    obtain ⟨j,hj1,hj2⟩:=hj
    have:=m2 j (by rw [turnL_len];lia)
    have e3:turnL (turnL ps r) j=leastT k ps:=by rw [turnL_turnL ps hr hj1,hj2];rfl
    have this:ltv (kdL k (turnL (turnL ps r) j)) (kdL k (turnL (turnL ps r) (bestT k (turnL ps r))))=false:=this
    rw [e3] at this
    exact this
  rcases lt_conn (pl ((r + bestT k (turnL ps r)) % ps.length)) (pl (bestT k ps)) (okk _ _) with z | z | z
  . rw [e2] at n1;rw [show kdL k (leastT k ps)=kdL k (turnL ps (bestT k ps)) from rfl,z] at n1;cases n1
  . rw [e2]
    unfold kdL at z
    refine map_inj (k:=k) (fun x hx y hy=>inj x ((m _ _).mp hx) y ((m _ _).mp hy)) ?_
    exact PyData.list.inj z
  . rw [e2] at n2;rw [show kdL k (leastT k ps)=kdL k (turnL ps (bestT k ps)) from rfl,z] at n2;cases n2
end
end L2
namespace L2
open PySem
mutual
theorem Wr.plainK:∀ w:Wr,plainD w.keyD=true
  | .nothing=>by simp [Wr.keyD,plainD,plainDs]
  | .bead c=>by simp [Wr.keyD,plainD,plainDs]
  | .side b f=>by simp [Wr.keyD,plainD,plainDs,f.plainK]
  | .pair f g=>by simp [Wr.keyD,plainD,plainDs,f.plainK,g.plainK]
  | .many k ps=>by simp [Wr.keyD,plainD,plainDs,plainKL ps]
theorem plainKL:∀ ws:List Wr,plainDs (keyDL ws)=true
  | []=>rfl
  | w::ws=>by simp [keyDL,plainDs,w.plainK,plainKL ws]
end
theorem ok_head (a b a' b':Int) (xs ys:List PyData) (h:a=a'->b=b'->okLtA xs ys=true):okLt (.tuple (.int a::.int b::xs)) (.tuple (.int a'::.int b'::ys))=true:=by
  simp only [okLt,okLtA,PyData.eqv]
  by_cases e1:a=a'
  . by_cases e2:b=b'
    . simp [e1,e2,h e1 e2]
    . simp [e1,e2]
  . simp [e1]
theorem kidx_side (b:Bool) (f:Wr):(Wr.side b f).kidx=2\/(Wr.side b f).kidx=3:=by cases b <;> simp [Wr.kidx]
theorem kidx_manyR (k:Nat) (ps:List Wr):5<=(Wr.many k ps).kidx:=by
  match k with
  | 0=>exact Nat.le_refl 5
  | 1=>exact (by decide:5<=6)
  | 2=>exact (by decide:5<=7)
  | _ + 3=>exact (by decide:5<=8)
mutual
theorem Wr.okK:∀ w v:Wr,okLt w.keyD v.keyD=true
  | .nothing,v=>by
    obtain ⟨r,e⟩:∃ r,v.keyD=.tuple (.int v.size::.int v.kidx::r):=by cases v <;> exact ⟨_,rfl⟩
    rw [e];exact ok_head _ _ _ _ _ _ fun _ _=>by simp [okLtA]
  | .bead c,v=>by
    cases v with
    | bead d=>exact ok_head _ _ _ _ _ _ fun _ _=>by simp [okLtA,okLt]
    | nothing=>exact ok_head _ _ _ _ _ _ fun _ h=>by simp at h
    | side b f=>exact ok_head _ _ _ _ _ _ fun _ h=>by have:=kidx_side b f;lia
    | pair f g=>exact ok_head _ _ _ _ _ _ fun _ h=>by simp at h
    | many k ps=>exact ok_head _ _ _ _ _ _ fun _ h=>by have:=kidx_manyR k ps;lia
  | .side b f,v=>by
    have hs:=kidx_side b f
    cases v with
    | bead d=>exact ok_head _ _ _ _ _ _ fun _ h=>by lia
    | nothing=>exact ok_head _ _ _ _ _ _ fun _ h=>by lia
    | side b' f'=>exact ok_head _ _ _ _ _ _ fun _ _=>by simp [okLtA,f.okK f']
    | pair f' g=>exact ok_head _ _ _ _ _ _ fun _ h=>by lia
    | many k ps=>exact ok_head _ _ _ _ _ _ fun _ h=>by have:=kidx_manyR k ps;lia
  | .pair f g,v=>by
    cases v with
    | bead d=>exact ok_head _ _ _ _ _ _ fun _ h=>by simp at h
    | nothing=>exact ok_head _ _ _ _ _ _ fun _ h=>by simp at h
    | side b' f'=>exact ok_head _ _ _ _ _ _ fun _ h=>by have:=kidx_side b' f';lia
    | pair f' g'=>exact ok_head _ _ _ _ _ _ fun _ _=>by simp [okLtA,f.okK f',g.okK g']
    | many k ps=>exact ok_head _ _ _ _ _ _ fun _ h=>by have:=kidx_manyR k ps;lia
  | .many k ps,v=>by
    have hs:=kidx_manyR k ps
    cases v with
    | bead d=>exact ok_head _ _ _ _ _ _ fun _ h=>by lia
    | nothing=>exact ok_head _ _ _ _ _ _ fun _ h=>by lia
    | side b' f'=>exact ok_head _ _ _ _ _ _ fun _ h=>by have:=kidx_side b' f';lia
    | pair f' g'=>exact ok_head _ _ _ _ _ _ fun _ h=>by lia
    | many k' ps'=>exact ok_head _ _ _ _ _ _ fun _ _=>okKL ps ps'
theorem okKL:∀ ws vs:List Wr,okLtA (keyDL ws) (keyDL vs)=true
  | [],_=>by simp [keyDL,okLtA]
  | _::_,[]=>by simp [keyDL,okLtA]
  | w :: ws,v::vs=>by
    simp only [keyDL,okLtA]
    split
    . exact okKL ws vs
    . exact w.okK v
end
mutual
noncomputable def Wr.nrm:Wr->Bool
  | .nothing=>true
  | .bead _=>true
  | .side _ f=>f.nrm
  | .pair f g=>f.nrm && g.nrm
  | .many k ps=>decide (k<=3) && nrmL ps
noncomputable def nrmL:List Wr->Bool
  | []=>true
  | w::ws=>w.nrm && nrmL ws
end
theorem nrmL_mem {ws:List Wr}:nrmL ws=true ↔ ∀ w∈ws,w.nrm=true:=by
  induction ws with
  | nil=>simp [nrmL]
  | cons w ws ih=>simp [nrmL,ih]
theorem kidx_inj {k k':Nat} {ps ps':List Wr} (h:k<=3) (h':k'<=3) (e:(Wr.many k ps).kidx=(Wr.many k' ps').kidx):k=k':=by
  have a:k=0\/k=1\/k=2\/k=3:=by lia
  have b:k'=0\/k'=1\/k'=2\/k'=3:=by lia
  rcases a with rfl | rfl | rfl | rfl <;> rcases b with rfl | rfl | rfl | rfl <;> first | rfl | (simp [Wr.kidx] at e)
mutual
theorem Wr.key_inj:∀ w v:Wr,w.nrm=true->v.nrm=true->w.keyD=v.keyD->w=v
  | .nothing,v,_,_,e=>by
    cases v with
    | nothing=>rfl
    | bead d=>simp [Wr.keyD] at e
    | side b f=>simp [Wr.keyD] at e
    | pair f g=>simp [Wr.keyD] at e
    | many k ps=>simp [Wr.keyD] at e;have:=kidx_manyR k ps;lia
  | .bead c,v,_,_,e=>by
    cases v with
    | nothing=>simp [Wr.keyD] at e
    | bead d=>simp [Wr.keyD] at e;rw [e]
    | side b f=>simp [Wr.keyD] at e;have:=kidx_side b f;lia
    | pair f g=>simp [Wr.keyD] at e
    | many k ps=>simp [Wr.keyD] at e;have:=kidx_manyR k ps;lia
  | .side b f,v,hw,hv,e=>by
    have hs:=kidx_side b f
    cases v with
    | nothing=>simp [Wr.keyD] at e
    | bead d=>simp [Wr.keyD] at e;lia
    | side b' f' =>
      simp only [Wr.keyD,PyData.tuple.injEq,List.cons.injEq,PyData.int.injEq,and_true] at e
      simp only [Wr.nrm] at hw hv
      rw [f.key_inj f' hw hv e.2.2]
      have:b=b':=by cases b <;> cases b' <;> first | rfl | (simp [Wr.kidx] at e)
      rw [this]
    | pair f' g=>simp [Wr.keyD] at e
    | many k ps=>simp [Wr.keyD] at e;have:=kidx_manyR k ps;lia
  | .pair f g,v,hw,hv,e=>by
    cases v with
    | nothing=>simp [Wr.keyD] at e
    | bead d=>simp [Wr.keyD] at e
    | side b' f'=>simp [Wr.keyD] at e
    | pair f' g' =>
      simp only [Wr.keyD,PyData.tuple.injEq,List.cons.injEq,and_true] at e
      simp only [Wr.nrm,Bool.and_eq_true] at hw hv
      rw [f.key_inj f' hw.1 hv.1 e.2.2.1,g.key_inj g' hw.2 hv.2 e.2.2.2]
    | many k ps=>simp [Wr.keyD] at e;have:=kidx_manyR k ps;lia
  | .many k ps,v,hw,hv,e=>by
    have hs:=kidx_manyR k ps
    cases v with
    | nothing=>simp [Wr.keyD] at e;lia
    | bead d=>simp [Wr.keyD] at e;lia
    | side b' f'=>simp [Wr.keyD] at e;have:=kidx_side b' f';lia
    | pair f' g'=>simp [Wr.keyD] at e;lia
    | many k' ps' =>
      simp only [Wr.keyD,PyData.tuple.injEq,List.cons.injEq,PyData.int.injEq] at e
      simp only [Wr.nrm,Bool.and_eq_true,decide_eq_true_eq] at hw hv
      have e1:(Wr.many k ps).kidx=(Wr.many k' ps').kidx:=by have:=e.2.1;lia
      rw [kidx_inj hw.1 hv.1 e1,keyL_inj ps ps' hw.2 hv.2 e.2.2]
theorem keyL_inj:∀ ws vs:List Wr,nrmL ws=true->nrmL vs=true->keyDL ws=keyDL vs->ws=vs
  | [],[],_,_,_=>rfl
  | [],_::_,_,_,e=>by simp [keyDL] at e
  | _::_,[],_,_,e=>by simp [keyDL] at e
  | w :: ws,v::vs,h1,h2,e=>by
    simp only [keyDL,List.cons.injEq] at e
    simp only [nrmL,Bool.and_eq_true] at h1 h2
    rw [w.key_inj v h1.1 h2.1 e.1,keyL_inj ws vs h1.2 h2.2 e.2]
end
noncomputable def arr (k:Nat) (ps:List Wr):List Wr:=if k=1\/k=2 then srtK Wr.keyD .nothing true ps else if k=0 then ps else leastT Wr.keyD ps
mutual
noncomputable def Wr.pl:Wr->Wr
  | .nothing=>.nothing
  | .bead c=>.bead c
  | .side b f=>.side b f.pl
  | .pair f g=>.pair f.pl g.pl
  | .many k ps=>.many k (arr k (plnL ps))
noncomputable def plnL:List Wr->List Wr
  | []=>[]
  | w::ws=>w.pl::plnL ws
end
theorem plnL_map:∀ ws:List Wr,plnL ws=ws.map Wr.pl
  | []=>rfl
  | w::ws=>by rw [plnL,List.map_cons,plnL_map ws]
theorem arr_perm (k:Nat) (ps:List Wr):(arr k ps).Perm ps:=by
  unfold arr
  split
  . exact srtK_perm true (fun x _=>x.plainK) fun x _ y _=>x.okK y
  . split
    . exact .refl _
    . exact turnL_perm _ _
noncomputable def Alk (k:Nat) (ps qs:List Wr):Prop:=if k=1\/k=2 then ps.Perm qs else if k=0 then ps=qs else ps=qs\/∃ r,r < ps.length/\qs=turnL ps r
theorem arr_alike {k:Nat} {ps qs:List Wr} (h:nrmL ps=true) (a:Alk k ps qs):arr k qs=arr k ps:=by
  have hm:=nrmL_mem.mp h
  have inj:∀ x∈ps,∀ y∈ps,Wr.keyD x=Wr.keyD y->x=y:=fun x hx y hy e=>x.key_inj y (hm x hx) (hm y hy) e
  unfold Alk at a
  unfold arr
  by_cases c:k=1\/k=2
  . rw [if_pos c] at a
    rw [if_pos c,if_pos c]
    exact (srtK_same (fun x _=>x.plainK) (fun x _ y _=>x.okK y) inj a).symm
  . rw [if_neg c] at a
    rw [if_neg c,if_neg c]
    by_cases c0:k=0
    . rw [if_pos c0] at a
      rw [if_pos c0,if_pos c0,a]
    . rw [if_neg c0] at a
      rw [if_neg c0,if_neg c0]
      rcases a with a | ⟨r,hr,a⟩
      . rw [a]
      . rw [a];exact leastT_turn (fun x _=>x.plainK) (fun x _ y _=>x.okK y) inj hr
theorem nrmL_perm {ps qs:List Wr} (p:ps.Perm qs) (h:nrmL ps=true):nrmL qs=true:=nrmL_mem.mpr fun w hw=>nrmL_mem.mp h w (p.mem_iff.mpr hw)
mutual
theorem Wr.pl_nrm:∀ w:Wr,w.nrm=true->w.pl.nrm=true
  | .nothing,_=>rfl
  | .bead _,_=>rfl
  | .side _ f,h=>by simp only [Wr.nrm] at h;simp only [Wr.pl,Wr.nrm];exact f.pl_nrm h
  | .pair f g,h=>by simp only [Wr.nrm,Bool.and_eq_true] at h;simp only [Wr.pl,Wr.nrm,Bool.and_eq_true];exact ⟨f.pl_nrm h.1,g.pl_nrm h.2⟩
  | .many k ps,h=>by
    simp only [Wr.nrm,Bool.and_eq_true] at h
    simp only [Wr.pl,Wr.nrm,Bool.and_eq_true]
    exact ⟨h.1,nrmL_perm (arr_perm k _).symm (plnL_nrm ps h.2)⟩
theorem plnL_nrm:∀ ws:List Wr,nrmL ws=true->nrmL (plnL ws)=true
  | [],_=>rfl
  | w::ws,h=>by simp only [nrmL,Bool.and_eq_true] at h;simp only [plnL,nrmL,Bool.and_eq_true];exact ⟨w.pl_nrm h.1,plnL_nrm ws h.2⟩
end
theorem sizeL_perm {ps qs:List Wr} (p:ps.Perm qs):sizeL ps=sizeL qs:=by
  induction p with
  | nil=>rfl
  | cons x _ ih=>simp only [sizeL,ih]
  | swap x y l=>simp only [sizeL];lia
  | trans _ _ i1 i2=>rw [i1,i2]
theorem okL_perm {ps qs:List Wr} (p:ps.Perm qs):okL ps=okL qs:=by
  induction p with
  | nil=>rfl
  | cons x _ ih=>simp only [okL,ih]
  | swap x y l=>simp only [okL];cases x.ok <;> cases y.ok <;> rfl
  | trans _ _ i1 i2=>rw [i1,i2]
theorem tupsL_perm {ps qs:List Wr} (p:ps.Perm qs):tupsL ps=tupsL qs:=by
  induction p with
  | nil=>rfl
  | cons x _ ih=>simp only [tupsL,ih]
  | swap x y l=>simp only [tupsL];lia
  | trans _ _ i1 i2=>rw [i1,i2]
theorem depL_perm {ps qs:List Wr} (p:ps.Perm qs):depL ps=depL qs:=by
  induction p with
  | nil=>rfl
  | cons x _ ih=>simp only [depL,ih]
  | swap x y l=>simp only [depL];exact Nat.max_left_comm _ _ _
  | trans _ _ i1 i2=>rw [i1,i2]
mutual
theorem Wr.pl_ok:∀ w:Wr,w.pl.ok=w.ok
  | .nothing=>rfl
  | .bead _=>rfl
  | .side _ f=>by simp only [Wr.pl,Wr.ok,f.pl_ok]
  | .pair f g=>by simp only [Wr.pl,Wr.ok,f.pl_ok,g.pl_ok]
  | .many k ps=>by simp only [Wr.pl,Wr.ok];rw [okL_perm (arr_perm k _),plnL_ok ps]
theorem plnL_ok:∀ ws:List Wr,okL (plnL ws)=okL ws
  | []=>rfl
  | w::ws=>by simp only [plnL,okL,w.pl_ok,plnL_ok ws]
end
mutual
theorem Wr.pl_tups:∀ w:Wr,w.pl.tups=w.tups
  | .nothing=>rfl
  | .bead _=>rfl
  | .side _ f=>by simp only [Wr.pl,Wr.tups,f.pl_tups]
  | .pair f g=>by simp only [Wr.pl,Wr.tups,f.pl_tups,g.pl_tups]
  | .many k ps=>by simp only [Wr.pl,Wr.tups];rw [tupsL_perm (arr_perm k _),plnL_tups ps]
theorem plnL_tups:∀ ws:List Wr,tupsL (plnL ws)=tupsL ws
  | []=>rfl
  | w::ws=>by simp only [plnL,tupsL,w.pl_tups,plnL_tups ws]
end
mutual
theorem Wr.pl_dep:∀ w:Wr,w.pl.dep=w.dep
  | .nothing=>rfl
  | .bead _=>rfl
  | .side _ f=>by simp only [Wr.pl,Wr.dep,f.pl_dep]
  | .pair f g=>by simp only [Wr.pl,Wr.dep,f.pl_dep,g.pl_dep]
  | .many k ps=>by simp only [Wr.pl,Wr.dep];rw [depL_perm (arr_perm k _),plnL_dep ps]
theorem plnL_dep:∀ ws:List Wr,depL (plnL ws)=depL ws
  | []=>rfl
  | w::ws=>by simp only [plnL,depL,w.pl_dep,plnL_dep ws]
end
theorem Wr.pl_few {w:Wr} (h:w.few):w.pl.few/\w.pl.name=w.name/\w.pl.parts=w.parts.map Wr.pl:=by
  cases w with
  | nothing=>exact ⟨h,rfl,rfl⟩
  | bead c=>exact absurd rfl (h.1 c)
  | side b f=>exact ⟨⟨(fun c z=>nomatch z),(fun k ps z=>nomatch z)⟩,rfl,rfl⟩
  | pair f g=>exact ⟨⟨(fun c z=>nomatch z),(fun k ps z=>nomatch z)⟩,rfl,rfl⟩
  | many k ps=>exact absurd rfl (h.2 k ps)
mutual
noncomputable def U.dat:U->PyData
  | .int i=>.int i
  | .str x=>.str x
  | .bl b=>.bool b
  | .tup us=>.tuple (datL us)
  | _=>.none
noncomputable def datL:List U->List PyData
  | []=>[]
  | u::us=>u.dat::datL us
end
mutual
theorem Wr.dat_key:∀ w:Wr,w.keyU.dat=w.keyD
  | .nothing=>by simp [Wr.keyU,Wr.keyD,U.dat,datL]
  | .bead c=>by simp [Wr.keyU,Wr.keyD,U.dat,datL]
  | .side b f=>by simp [Wr.keyU,Wr.keyD,U.dat,datL,f.dat_key]
  | .pair f g=>by simp [Wr.keyU,Wr.keyD,U.dat,datL,f.dat_key,g.dat_key]
  | .many k ps=>by simp [Wr.keyU,Wr.keyD,U.dat,datL,dat_keyL ps]
theorem dat_keyL:∀ ws:List Wr,datL (keyUL ws)=keyDL ws
  | []=>by simp [keyUL,keyDL,datL]
  | w::ws=>by simp [keyUL,keyDL,datL,w.dat_key,dat_keyL ws]
end
noncomputable def U.snd:U->U
  | .tup [_,b]=>b
  | _=>.non
end L2
namespace L2
open PySem PySem.Spec PyProof.Rows
section
variable {prog:Program} {w:World} {A:Around} {E:Value->Shared->Prop} {s:Shared}
theorem extend_rev {I l S:Addr} {items:Array Value} {c:Nat} {R:Result->Shared->Prop} (hh:A.handled=none) (hne:l≠I) (hSI:S≠I) (hSl:S≠l) (st:s.heap.IsRevIter I l ((items.size:Int) - 1)) (hl:s.heap.IsList l items) (hn:items.size<=sizeLine)
    (hS:s.heap.get? S=some { cls:=.type "list",data:=.seq #[] c })
    (hR:∀ s' c',Moved [S,I] (fun a b=>b=a) s s'->s'.heap.get? S=some { cls:=.type "list",dict:=none,data:=.seq items.reverse c',slots:=#[] }->R (.ok (.ret .none)) s') :
    wpAny (model prog w) A.in1 (Builtin.List.listExtendWith (.ref S) (.ref I) .none)
      (fun fin s'=>match fin with | .done f=>R (.ok f) s' | .again c'=>c'.quiet=true/\codeAny (model prog w) A c' R s') (fun e s'=>R (.error e) s') s:=by
  have W:=(Walks.listRev (prog:=prog) (w:=w) (A:=A.in1) hh I l hne items).toS
  have nf:S ∉ [I,l]:=fun z=>by
    simp only [List.mem_cons,List.not_mem_nil,or_false] at z
    exact z.elim hSI hSl
  have st0:(0<=items.size/\s.heap.IsRevIter I l ((items.size:Int) - 1 - ((0:Nat):Int))/\s.heap.IsList l items):=⟨Nat.zero_le _,by rw [show ((0:Nat):Int)=0 from rfl,Int.sub_zero];exact st,hl⟩
  have apart:Builtin.List.listSameRef (.ref S) (.ref I)=false:=by simp [Builtin.List.listSameRef,hSI]
  have ty:s.TypeIs (.ref I) "list_reverseiterator":=st.typeIs
  unfold Builtin.List.listExtendWith
  refine wpAny_bind (wpAny_typeOf ty ?_)
  rw [if_neg (by rw [apart];decide)]
  refine wpAny_bind (W.self 0 _ _ _ st0 (wpAny_bind (wpAny_holding ?_)))
  unfold Builtin.List.listLengthHint
  refine wpAny_bind (wpAny_specialOf ty noLen_rev ?_)
  refine (show wpAny _ A.in1 (specialOf (Value.ref I) (Str.ofString "__length_hint__") >>= _) _ _ _ from wpAny_bind (wpAny_specialOf ty hint_rev ?_))
  generalize hid:("list_reverseiterator.__length_hint__":String)=id0
  (fail_if_success (clear hid id0));wp_delta
  rw [show splitId id0=some ("list_reverseiterator","__length_hint__") from by subst hid;decide +kernel]
  subst hid
  refine wpAny_bind (wpAny_isInstance (b:=true) ty (by rw [isSubtype_type];kernel_rfl) (wpAny_pure ?_))
  rw [if_neg (by decide)]
  refine wpAny_pure ⟨plainId_quiet F.plain_extend_loop _,codeAny_extend_loopS W hn _ nf _ items.size 0 _ _ _ rfl (Nat.zero_le _) st0 hS (ItemsOf.nil _) fun s' acc c' mv here got=>?_⟩
  have e:=items_rev got
  have e2:acc=items.reverse:=by apply Array.toList_inj.mp;rw [e,Array.toList_reverse]
  subst e2
  exact hR s' c' mv here
theorem call_list_rev {I l:Addr} {items:Array Value} {Q:Value->Shared->Prop} (hh:A.handled=none) (hne:l≠I) (st:s.heap.IsRevIter I l ((items.size:Int) - 1)) (hl:s.heap.IsList l items) (hn:items.size<=sizeLine)
    (hQ:∀ s' c',Moved [s.heap.objs.size,I] (fun a b=>b=a) { s with heap:=s.heap.push { cls:=.type "list",data:=.seq #[] } } s'->s'.heap.get? s.heap.objs.size=some { cls:=.type "list",dict:=none,data:=.seq items.reverse c',slots:=#[] }->Q (.ref s.heap.objs.size) s') :
    wpAny (model prog w) A (call (.type "list") [.ref I]) Q E s:=by
  have lI:I < s.heap.objs.size:=by obtain ⟨o,e,_⟩:=st;exact Heap.lt_size e
  have ll:l < s.heap.objs.size:=by obtain ⟨o,e,_⟩:=hl;exact Heap.lt_size e
  refine callType_codes (Q₁:=fun obj s₁=>obj=.ref s.heap.objs.size/\s₁={ s with heap:=s.heap.push { cls:=.type "list",data:=.seq #[] } }) F.called_list (F.typeCall_list_1 _) F.entry_list_init
    (code_list_new _ ⟨rfl,rfl⟩) fun obj s₁ h₁=>?_
  obtain ⟨rfl,rfl⟩:=h₁
  have hS:(s.heap.push { cls:=.type "list",data:=.seq #[] }).get? s.heap.objs.size=some { cls:=.type "list",data:=.seq #[] }:=Heap.get?_push_size _ rfl
  refine ⟨⟨_,hS,rfl⟩,F.args_list_init_2 _ _,?_⟩
  show wpAny _ A.in1.in1 (do let old <- Builtin.List.listItems (.ref s.heap.objs.size);Builtin.List.listUpdate (.ref s.heap.objs.size) (fun _=>#[]);letGo old.toList.reverse;Builtin.List.listExtendWith (.ref s.heap.objs.size) (.ref I) .none) _ _ _
  refine wpAny_bind ?_
  unfold Builtin.List.listItems
  refine wpAny_bind (wpAny_seqItems hS rfl (wpAny_pure ?_))
  show wpAny _ A.in1.in1 (updateSeq s.heap.objs.size (fun _=>#[]) >>= fun _=>letGo (#[]:Array Value).toList.reverse >>= fun _=>Builtin.List.listExtendWith (.ref s.heap.objs.size) (.ref I) .none) _ _ _
  refine wpAny_bind (wpAny_updateSeq hS rfl ?_)
  have hS₂:=Heap.get?_update_self (Obj.mapSeq (fun _=>(#[]:Array Value))) hS rfl
  have oth:∀ b o,b≠s.heap.objs.size->(s.heap.push { cls:=.type "list",data:=.seq #[] }).get? b=some o->((s.heap.push { cls:=.type "list",data:=.seq #[] }).update s.heap.objs.size (Obj.mapSeq (fun _=>(#[]:Array Value)))).get? b=some o :=
    fun b o hb e=>(Heap.get?_update_other _ _ (Ne.symm hb)).trans e
  refine wpAny_bind (wpAny_letGo ?_)
  refine extend_rev (A:=A.in1) (c:=_) (items:=items) hh hne (Nat.ne_of_gt lI) (Nat.ne_of_gt ll) (st.at fun o e=>oth _ _ (Nat.ne_of_lt lI) (Heap.get?_push_of_some _ e)) (hl.at fun o e=>oth _ _ (Nat.ne_of_lt ll) (Heap.get?_push_of_some _ e)) hn hS₂ fun s' c' mv here=>?_
  have m0:Moved [s.heap.objs.size,I] (fun a b:Array GenState=>b=a) { s with heap:=s.heap.push { cls:=.type "list",data:=.seq #[] } } { s with heap:=(s.heap.push { cls:=.type "list",data:=.seq #[] }).update s.heap.objs.size (Obj.mapSeq (fun _=>(#[]:Array Value))) } :=
    Moved.then_heap (wr:=[s.heap.objs.size,I]) (G:=fun a b=>b=a) (s:={ s with heap:=s.heap.push { cls:=.type "list",data:=.seq #[] } }) (s':={ s with heap:=s.heap.push { cls:=.type "list",data:=.seq #[] } }) (Moved.refl (G:=fun a b=>b=a) (fun _=>rfl)) (Nat.le_refl _) fun b o hb e=>oth b o (fun h=>hb (by rw [h];exact List.mem_cons_self)) e
  exact ⟨rfl,hQ s' c' (Moved.trans (fun _ _ _ h1 h2=>h2.trans h1) m0 mv) here⟩
end
noncomputable def tListRev (K:PySem.W.Frag) (te:TE):TE:=fun σ H Q=>te σ H fun x H1=>∃ a xs,x=.ref a/\SqL K H1 a xs/\∀ p,H1 p=none->Q (.ref p) (upd H1 p (.lst xs.reverse))
section
variable {X:Cx} {e:Expr} {te:TE} {p1 p2 pos1 pos2:Pos}
theorem pe_listRev (hc:X.calm=true) (hg1:Gl X "list") (hm1:X.mg "list"=none) (hg2:Gl X "reversed") (hm2:X.mg "reversed"=none) (he:PE X e te) (hs2:starEach [e] X.env=[(false,eval e X.env)]:=by rfl)
    (hs1:starEach [.Call (.Name "reversed" p2) [e] [] pos2] X.env=[(false,eval (.Call (.Name "reversed" p2) [e] [] pos2) X.env)]:=by rfl):PE X (.Call (.Name "list" p1) [.Call (.Name "reversed" p2) [e] [] pos2] [] pos1) (tListRev X.K te):=by
  intro pins s σ H Q I h
  refine wpAny_Call_Name_kw (ld_blt I hg1 hm1 (show bootBuiltins "list"=some (.type "list") by decide +kernel) ?_ (by decide) (by decide))
  refine PyProof.Rows.callWith_type1 (T:="list") ?_ hs1 rfl
  rw [hs1]
  refine (show wpAny _ _ (spliced ((false,eval (.Call (.Name "reversed" p2) [e] [] pos2) X.env)::[])) _ _ s from Calls.spliced_cons (rev_made hc hg2 hm2 he hs2 I h fun a xs H1 s1 its I1 hx rv pl hz q=>Calls.spliced_nil ?_))
  have la:a < s1.heap.objs.size:=by obtain ⟨o,e,_⟩:=pl;exact Heap.lt_size e
  have hlen:=rv.length
  refine call_list_rev (I:=s1.heap.objs.size) (l:=a) (items:=its.toArray) (I1.ok.hd hc) (Nat.ne_of_lt la) ⟨_,Heap.get?_push_size _ rfl,rfl,rfl⟩ (pl.at fun o z=>Heap.get?_push_of_some _ z) (by rw [List.size_toArray,<- hlen];exact hz) fun s' c' mv here=>?_
  have e':=shared_moved mv
  have sz:(s1.heap.push (revObj a ((its.toArray.size:Int) - 1))).objs.size=s1.heap.objs.size + 1:=Array.size_push ..
  have kp:∀ b o,s1.heap.get? b=some o->s'.heap.get? b=some o:=fun b o z=>mv.heap b o (by
    have:=Heap.lt_size z
    simp only [List.mem_cons,List.not_mem_nil,or_false,not_or]
    constructor
    . show b≠(s1.heap.push (revObj a ((its.toArray.size:Int) - 1))).objs.size
      rw [sz];exact Nat.ne_of_lt (Nat.lt_succ_of_lt this)
    . exact Nat.ne_of_lt this) (Heap.get?_push_of_some _ (Heap.get?_push_of_some _ z))
  have e9:its.toArray.reverse=its.reverse.toArray:=by apply Array.toList_inj.mp;simp
  have I3:Inv X pins σ (upd H1 (s1.heap.objs.size + 1) (.lst xs.reverse)) { s1 with heap:=s'.heap,toks:=s'.toks } :=
    I1.laid (t':=s'.toks) kp (Nat.le_succ _) (show ObjOk X.prog X.w _ s'.heap _ (.lst xs.reverse) from ⟨by rw [List.length_reverse];exact hz,its.reverse,c',Vals.reverse rv,by rw [<- e9];rw [<- sz];exact here⟩)
  rw [show s'={ s1 with heap:=s'.heap,toks:=s'.toks } from e']
  exact ⟨.ref (s1.heap.objs.size + 1),_,I3,by show RelV _ _;rw [<- sz];rfl,q _ (I1.hok.fresh (Nat.le_succ _))⟩
end
section
variable {K:PySem.W.Frag}
noncomputable def aListRev (a:AE):AE:=fun ρ A Q=>a ρ A fun x A1=>∃ p us,x=.ref p/\A1 p=some (.lst us)/\∀ l,A1 l=none->Q (.ref l) (updA A1 l (.lst us.reverse))
theorem ab_listrev {t:TE} {a:AE} (ha:AbE K t a):AbE K (tListRev K t) (aListRev a):=fun ρ A σ H Q' Q hs g w k =>
  ha ρ A σ H _ _ hs g w fun x A1 v H1 k1 g1 r1 hq0=>by
    obtain ⟨p,us,e,eA,q⟩:=hq0
    subst e;cases r1
    obtain ⟨vs,h1,r1⟩:=g1.list eA
    refine ⟨p,vs,rfl,SqL.of h1,fun q2 hp=>?_⟩
    have s:=Same.upd_new (o:=.lst vs.reverse) hp
    exact k _ _ _ _ (k1.trans s.kp) (g1.newL hp r1.rev) (.ref _) (q q2 (g1.none hp))
theorem q_listrev {a:AE} {ρ:ASt} {A:AHp} {Q:AVK}:(aListRev a ρ A Q)=(a ρ A fun x A1=>∃ p us,x=.ref p/\A1 p=some (.lst us)/\∀ l,A1 l=none->Q (.ref l) (updA A1 l (.lst us.reverse))):=rfl
end
mutual
noncomputable def Wr.gd:Wr->Bool
  | .nothing=>true
  | .bead c=>PyData.strOk c
  | .side _ f=>f.gd
  | .pair f g=>f.gd && g.gd
  | .many k ps=>(decide (k<=3) && decide (ps.length < 64)) && gdL ps
noncomputable def gdL:List Wr->Bool
  | []=>true
  | w::ws=>w.gd && gdL ws
end
theorem gdL_app:∀ (ws us:List Wr),gdL (ws++us)=(gdL ws && gdL us)
  | [],us=>by simp [gdL]
  | w::ws,us=>by simp only [List.cons_append,gdL,gdL_app ws us,Bool.and_assoc]
theorem gdL_iff {ws:List Wr}:gdL ws=true ↔ ∀ w∈ws,w.gd=true:=by
  induction ws with
  | nil=>simp [gdL]
  | cons w ws ih=>simp [gdL,ih]
theorem gdL_mem {ws:List Wr} {w:Wr} (h:gdL ws=true) (m:w∈ws):w.gd=true:=gdL_iff.mp h w m
theorem gdL_perm {ps qs:List Wr} (p:ps.Perm qs) (h:gdL ps=true):gdL qs=true:=gdL_iff.mpr fun w hw=>gdL_iff.mp h w (p.mem_iff.mpr hw)
mutual
theorem Wr.gd_ok:∀ w:Wr,w.gd=true->w.ok=true
  | .nothing,_=>rfl
  | .bead _,h=>h
  | .side _ f,h=>f.gd_ok h
  | .pair f g,h=>by simp only [Wr.gd,Bool.and_eq_true] at h;simp only [Wr.ok,Bool.and_eq_true];exact ⟨f.gd_ok h.1,g.gd_ok h.2⟩
  | .many k ps,h=>by simp only [Wr.gd,Bool.and_eq_true] at h;simp only [Wr.ok];exact gdL_ok ps h.2
theorem gdL_ok:∀ ws:List Wr,gdL ws=true->okL ws=true
  | [],_=>rfl
  | w::ws,h=>by simp only [gdL,Bool.and_eq_true] at h;simp only [okL,Bool.and_eq_true];exact ⟨w.gd_ok h.1,gdL_ok ws h.2⟩
end
mutual
theorem Wr.gd_nrm:∀ w:Wr,w.gd=true->w.nrm=true
  | .nothing,_=>rfl
  | .bead _,h=>rfl
  | .side _ f,h=>by simp only [Wr.nrm];exact f.gd_nrm h
  | .pair f g,h=>by simp only [Wr.gd,Bool.and_eq_true] at h;simp only [Wr.nrm,Bool.and_eq_true];exact ⟨f.gd_nrm h.1,g.gd_nrm h.2⟩
  | .many k ps,h=>by simp only [Wr.gd,Bool.and_eq_true] at h;simp only [Wr.nrm,Bool.and_eq_true];exact ⟨h.1.1,gdL_nrm ps h.2⟩
theorem gdL_nrm:∀ ws:List Wr,gdL ws=true->nrmL ws=true
  | [],_=>rfl
  | w::ws,h=>by simp only [gdL,Bool.and_eq_true] at h;simp only [nrmL,Bool.and_eq_true];exact ⟨w.gd_nrm h.1,gdL_nrm ws h.2⟩
end
theorem Wr.gd_parts {w:Wr} (h:w.gd=true):gdL w.parts=true/\w.parts.length < 64:=by
  cases w with
  | nothing=>exact ⟨rfl,by simp [Wr.parts]⟩
  | bead c=>exact ⟨rfl,by simp [Wr.parts]⟩
  | side b f=>simp only [Wr.gd] at h;exact ⟨by simp [Wr.parts,gdL,h],by simp [Wr.parts]⟩
  | pair f g=>simp only [Wr.gd,Bool.and_eq_true] at h;exact ⟨by simp [Wr.parts,gdL,h],by simp [Wr.parts]⟩
  | many k ps=>simp only [Wr.gd,Bool.and_eq_true,decide_eq_true_eq] at h;exact ⟨h.2,h.1.2⟩
mutual
theorem Wr.gd_post:∀ (w y:Wr),y∈w.post->w.gd=true->y.gd=true/\y.dep<=w.dep
  | .nothing,y,h,g=>by rw [Wr.post_eq] at h;simp [Wr.parts,postL] at h;subst h;exact ⟨g,Nat.le_refl _⟩
  | .bead c,y,h,g=>by rw [Wr.post_eq] at h;simp [Wr.parts,postL] at h;subst h;exact ⟨g,Nat.le_refl _⟩
  | .side b f,y,h,g=>by
    rw [Wr.post_eq] at h
    simp only [Wr.parts,postL,List.append_nil,List.mem_append,List.mem_singleton] at h
    rcases h with h | h
    . have:=f.gd_post y h g;exact ⟨this.1,by have:=this.2;simp only [Wr.dep];lia⟩
    . subst h;exact ⟨g,Nat.le_refl _⟩
  | .pair f f',y,h,g=>by
    rw [Wr.post_eq] at h
    have g2:=g
    simp only [Wr.gd,Bool.and_eq_true] at g2
    simp only [Wr.parts,postL,List.append_nil,List.mem_append,List.mem_singleton] at h
    rcases h with (h | h) | h
    . have:=f.gd_post y h g2.1;exact ⟨this.1,by have:=this.2;simp only [Wr.dep];lia⟩
    . have:=f'.gd_post y h g2.2;exact ⟨this.1,by have:=this.2;simp only [Wr.dep];lia⟩
    . subst h;exact ⟨g,Nat.le_refl _⟩
  | .many k ps,y,h,g=>by
    rw [Wr.post_eq] at h
    have g2:=g
    simp only [Wr.gd,Bool.and_eq_true] at g2
    simp only [Wr.parts,List.mem_append,List.mem_singleton] at h
    rcases h with h | h
    . have:=gdL_post ps y h g2.2;exact ⟨this.1,by have:=this.2;simp only [Wr.dep];lia⟩
    . subst h;exact ⟨g,Nat.le_refl _⟩
theorem gdL_post:∀ (ws:List Wr) (y:Wr),y∈postL ws->gdL ws=true->y.gd=true/\y.dep<=depL ws
  | [],y,h,_=>by simp [postL] at h
  | w :: ws,y,h,g=>by
    simp only [gdL,Bool.and_eq_true] at g
    simp only [postL,List.mem_append] at h
    rcases h with h | h
    . have:=w.gd_post y h g.1;exact ⟨this.1,by have:=this.2;simp only [depL];lia⟩
    . have:=gdL_post ws y h g.2;exact ⟨this.1,by have:=this.2;simp only [depL];lia⟩
end
mutual
theorem Wr.pl_gd:∀ w:Wr,w.gd=true->w.pl.gd=true
  | .nothing,_=>rfl
  | .bead _,h=>h
  | .side _ f,h=>by simp only [Wr.pl,Wr.gd];exact f.pl_gd h
  | .pair f g,h=>by simp only [Wr.gd,Bool.and_eq_true] at h;simp only [Wr.pl,Wr.gd,Bool.and_eq_true];exact ⟨f.pl_gd h.1,g.pl_gd h.2⟩
  | .many k ps,h=>by
    simp only [Wr.gd,Bool.and_eq_true,decide_eq_true_eq] at h
    simp only [Wr.pl,Wr.gd,Bool.and_eq_true,decide_eq_true_eq]
    exact ⟨⟨h.1.1,by rw [(arr_perm k _).length_eq,plnL_map,List.length_map];exact h.1.2⟩,gdL_perm (arr_perm k _).symm (plnL_gd ps h.2)⟩
theorem plnL_gd:∀ ws:List Wr,gdL ws=true->gdL (plnL ws)=true
  | [],_=>rfl
  | w::ws,h=>by simp only [gdL,Bool.and_eq_true] at h;simp only [plnL,gdL,Bool.and_eq_true];exact ⟨w.pl_gd h.1,plnL_gd ws h.2⟩
end
structure Lk (w v:Wr):Prop where
  gd:v.gd=true
  tups:v.tups=w.tups
  dep:v.dep=w.dep
  size:v.size=w.size
  pl:v.pl=w.pl
structure Lks (ws vs:List Wr):Prop where
  len:vs.length=ws.length
  gd:gdL vs=true
  tups:tupsL vs=tupsL ws
  dep:depL vs=depL ws
  size:sizeL vs=sizeL ws
  pl:plnL vs=plnL ws
theorem Lk.refl {w:Wr} (h:w.gd=true):Lk w w:=⟨h,rfl,rfl,rfl,rfl⟩
theorem sizeL_app:∀ (ws us:List Wr),sizeL (ws++us)=sizeL ws + sizeL us
  | [],us=>by simp [sizeL]
  | w::ws,us=>by simp only [List.cons_append,sizeL,sizeL_app ws us];lia
theorem plnL_app (ws us:List Wr):plnL (ws++us)=plnL ws++plnL us:=by rw [plnL_map,plnL_map,plnL_map,List.map_append]
theorem Alk.perm {k:Nat} {qs rs:List Wr} (h:Alk k qs rs):qs.Perm rs:=by
  unfold Alk at h
  split at h
  . exact h
  . split at h
    . rw [h]
    . rcases h with h | ⟨r,_,h⟩
      . rw [h]
      . rw [h];exact (turnL_perm qs r).symm
theorem turnL_map {α β:Type} (f:α->β) (ps:List α) (i:Nat):(turnL ps i).map f=turnL (ps.map f) i:=by
  unfold turnL;rw [List.map_append,List.map_drop,List.map_take]
theorem Alk.pln {k:Nat} {qs rs:List Wr} (h:Alk k qs rs):Alk k (plnL qs) (plnL rs):=by
  rw [plnL_map,plnL_map]
  unfold Alk at h ⊢
  by_cases c:k=1\/k=2
  . rw [if_pos c] at h ⊢;exact h.map _
  . rw [if_neg c] at h ⊢
    by_cases c0:k=0
    . rw [if_pos c0] at h ⊢;rw [h]
    . rw [if_neg c0] at h ⊢
      rcases h with h | ⟨r,hr,h⟩
      . exact .inl (by rw [h])
      . exact .inr ⟨r,by rw [List.length_map];exact hr,by rw [h,turnL_map]⟩
theorem Alk.refl (k:Nat) (qs:List Wr):Alk k qs qs:=by
  unfold Alk
  split
  . exact .refl _
  . split
    . rfl
    . exact .inl rfl
theorem Lks.many {k:Nat} {ps qs rs:List Wr} (h:(Wr.many k ps).gd=true) (l:Lks ps qs) (a:Alk k qs rs):Lk (.many k ps) (.many k rs):=by
  simp only [Wr.gd,Bool.and_eq_true,decide_eq_true_eq] at h
  have p:=a.perm
  refine ⟨?_,?_,?_,?_,?_⟩
  . simp only [Wr.gd,Bool.and_eq_true,decide_eq_true_eq]
    exact ⟨⟨h.1.1,by rw [<- p.length_eq,l.len];exact h.1.2⟩,gdL_perm p l.gd⟩
  . simp only [Wr.tups];rw [<- tupsL_perm p,l.tups]
  . simp only [Wr.dep];rw [<- depL_perm p,l.dep]
  . simp only [Wr.size];rw [<- sizeL_perm p,l.size]
  . simp only [Wr.pl];rw [arr_alike (plnL_nrm _ (gdL_nrm _ l.gd)) a.pln,l.pl]
theorem Wr.like_self (w:Wr) (h:w.ok=true):w.like w=true:=by
  rw [<- w.eqvD w];exact w.same_eqv h
mutual
theorem Wr.like_eq:∀ w v:Wr,w.nrm=true->v.nrm=true->w.like v=true->w=v
  | .nothing,v,_,_,e=>by cases v <;> simp [Wr.like] at e;rfl
  | .bead c,v,_,_,e=>by cases v <;> simp [Wr.like] at e;rw [e]
  | .side b f,v,h1,h2,e=>by
    cases v <;> simp [Wr.like] at e
    rename_i b' f'
    rw [e.1,f.like_eq f' h1 h2 e.2]
  | .pair f g,v,h1,h2,e=>by
    cases v <;> simp [Wr.like] at e
    rename_i f' g'
    simp only [Wr.nrm,Bool.and_eq_true] at h1 h2
    rw [f.like_eq f' h1.1 h2.1 e.1,g.like_eq g' h1.2 h2.2 e.2]
  | .many k ps,v,h1,h2,e=>by
    have ki:=like_kidx e
    cases v <;> simp [Wr.like] at e
    rename_i k' ps'
    simp only [Wr.nrm,Bool.and_eq_true,decide_eq_true_eq] at h1 h2
    rw [kidx_inj h1.1 h2.1 ki,likeL_eq ps ps' h1.2 h2.2 e.2]
theorem likeL_eq:∀ ws vs:List Wr,nrmL ws=true->nrmL vs=true->likeL ws vs=true->ws=vs
  | [],[],_,_,_=>rfl
  | [],_::_,_,_,e=>by simp [likeL] at e
  | _::_,[],_,_,e=>by simp [likeL] at e
  | w :: ws,v::vs,h1,h2,e=>by
    simp only [likeL,Bool.and_eq_true] at e
    simp only [nrmL,Bool.and_eq_true] at h1 h2
    rw [w.like_eq v h1.1 h2.1 e.1,likeL_eq ws vs h1.2 h2.2 e.2]
end
theorem len0 {α:Type} {P:List α->Prop} (h:P []):∀ us:List α,us.length=0->P us:=fun us e=>by
  cases us with
  | nil=>exact h
  | cons a us=>simp at e
theorem len1 {α:Type} {P:List α->Prop} (h:∀ a,P [a]):∀ us:List α,us.length=1->P us:=fun us e=>by
  cases us with
  | nil=>simp at e
  | cons a us=>exact len0 (P:=fun us=>P (a::us)) (h a) us (by simpa using e)
theorem len2 {α:Type} {P:List α->Prop} (h:∀ a b,P [a,b]):∀ us:List α,us.length=2->P us:=fun us e=>by
  cases us with
  | nil=>simp at e
  | cons a us=>exact len1 (P:=fun us=>P (a::us)) (h a) us (by simpa using e)
theorem len3 {α:Type} {P:List α->Prop} (h:∀ a b c,P [a,b,c]):∀ us:List α,us.length=3->P us:=fun us e=>by
  cases us with
  | nil=>simp at e
  | cons a us=>exact len2 (P:=fun us=>P (a::us)) (h a) us (by simpa using e)
end L2
namespace L2
open PySem PySem.Spec PySem.W PyProof.Rows
section
variable {K:PySem.W.Frag}
open Classical in
noncomputable def cntE (h:Heap) (d:PyData) (y:Value):Bool:=if q:∃ e as,Reads h y e as then PyData.eqv q.choose d else false
theorem cntE_at {h:Heap} {d e:PyData} {y:Value} {as:List Addr} (r:Reads h y e as):cntE h d y=PyData.eqv e d:=by
  have q:∃ e as,Reads h y e as:=⟨e,as,r⟩
  unfold cntE
  rw [dif_pos q]
  obtain ⟨bs,r2⟩:=q.choose_spec
  rw [(reads_det (fun _ _ z _=>z) r r2).1]
end
end L2
namespace L2
open PySem PySem.Spec PySem.W PyProof.Rows
noncomputable def rInD (neg:Bool) (K:PySem.W.Frag):R2:=fun x y H Q=>∃ (l:Addr) (vs:List V) (ds:List PyData) (d:PyData),y=.ref l/\H l=some (.lst vs)/\Reps K H ds vs/\Rep K H d x/\(∀ e∈ds,e.canLay0=true/\e.depth<=190)/\d.canLay0=true/\Q (.bl (if neg then !ds.any (fun e=>PyData.eqv e d) else ds.any fun e=>PyData.eqv e d)) H
theorem any_cnt {h:Heap} {d:PyData}:∀ (its:List Value) (ds:List PyData),its.length=ds.length->(∀ (i:Nat) (y:Value),its[i]? = some y->∃ e as,ds[i]? = some e/\Reads h y e as)->its.any (cntE h d)=ds.any fun e=>PyData.eqv e d:=by
  intro its
  induction its with
  | nil=>intro ds hl _;cases ds with | nil=>rfl | cons _ _=>simp at hl
  | cons y ys ih =>
    intro ds hl ho
    cases ds with
    | nil=>simp at hl
    | cons e es =>
      obtain ⟨e',as,h1,ra⟩:=ho 0 y rfl
      simp at h1;subst h1
      rw [List.any_cons,List.any_cons,cntE_at ra,ih es (by simpa using hl) fun i y' hy=>ho (i + 1) y' (by simpa using hy)]
section
variable {X:Cx} {pins:List (Addr × Obj)} {σ:St} {H:Hp} {s:Shared}
theorem inD_at {l:Addr} {x:V} {vs:List V} {ds:List PyData} {d:PyData} {v:Value} {k:Nat} (hr:Room (k + 1) X.A) (I:Inv X pins σ H s) (rx:RelV x v) (hH:H l=some (.lst vs)) (hds:Reps X.K H ds vs) (hd:Rep X.K H d x) (ho:∀ e∈ds,e.canLay0=true/\e.depth<=190) (hdo:d.canLay0=true) :
    ∃ its:List Value,s.heap.IsList l its.toArray/\(∀ y,y∈its.toArray->SeqAt.EqAt X.A.in1 s y v (cntE s.heap d y))/\its.toArray.any (cntE s.heap d)=ds.any fun e=>PyData.eqv e d:=by
  obtain ⟨z,its,n,r,hl,e⟩:=I.lstM hH
  obtain ⟨bs,rb⟩:=Rep.reads I hd rx
  have hun:=hr.un
  have one:∀ {i:Nat} {y:Value},its[i]? = some y->∃ e as,ds[i]? = some e/\Reads s.heap y e as:=by
    intro i y hy
    obtain ⟨w,hw,rel⟩:=valsAt r hy
    obtain ⟨e,h1,h2⟩:=hds.at hw
    obtain ⟨as,ra⟩:=Rep.reads I h2 rel
    exact ⟨e,as,h1,ra⟩
  refine ⟨its,⟨_,e,rfl,_,rfl⟩,fun y hy=>?_,?_⟩
  . have hy':y∈its:=by simpa using hy
    obtain ⟨i,hi⟩:=List.mem_iff_getElem?.mp hy'
    obtain ⟨e1,as,h1,ra⟩:=one hi
    have hm:=ho e1 (List.mem_of_getElem? h1)
    rw [cntE_at ra]
    exact SeqAt.eqAt_reads e1 d _ s _ _ _ _ ra rb hm.1 hdo (by show X.A.units + 1 + _ < cLine;have:=hm.2;lia)
  . rw [List.any_toArray]
    exact any_cnt its ds (by rw [<- r.length,hds.len]) fun i y=>one
theorem o_inD {k:Nat} (hr:Room (k + 1) X.A):OpR X (compareOp .In) (rInD false X.K):=by
  intro pins s σ H x y v u Q I rx ry h
  obtain ⟨l,vs,ds,d,rfl,hH,hds,hd,ho,hdo,q⟩:=h
  cases ry
  obtain ⟨its,h1,h2,h3⟩:=inD_at hr I rx hH hds hd ho hdo
  refine SeqAt.in_listAt _ h1 h2 ?_
  rw [h3]
  exact ⟨.bl _,H,I,rfl,q⟩
theorem o_ninD {k:Nat} (hr:Room (k + 1) X.A):OpR X (compareOp .NotIn) (rInD true X.K):=by
  intro pins s σ H x y v u Q I rx ry h
  obtain ⟨l,vs,ds,d,rfl,hH,hds,hd,ho,hdo,q⟩:=h
  cases ry
  obtain ⟨its,h1,h2,h3⟩:=inD_at hr I rx hH hds hd ho hdo
  refine SeqAt.notIn_listAt _ h1 h2 ?_
  rw [h3]
  exact ⟨.bl _,H,I,rfl,q⟩
end
section
variable {K:PySem.W.Frag}
noncomputable def xInD (neg:Bool):AR2:=fun w u A Q=>match u with
  | .ref l=>∃ (xs:List U) (ds:List PyData) (d:PyData),A l=some (.lst xs)/\DUs A xs ds/\DU A w d/\(∀ e∈ds,e.canLay0=true/\e.depth<=190)/\d.canLay0=true/\Q (.bl (if neg then !ds.any (fun e=>PyData.eqv e d) else ds.any fun e=>PyData.eqv e d)) A
  | _=>False
theorem ab_inDg {neg:Bool}:AbR K (rInD neg K) (xInD neg):=fun x y u w A H Q' Q hu hw g h k=>by
  unfold xInD at h
  split at h
  . cases hw
    obtain ⟨zs,ds,d,e,h1,h2,h3,h4,q⟩:=h
    obtain ⟨vs,hH,r1⟩:=g.list e
    exact ⟨_,vs,ds,d,rfl,hH,DUs.reps g h1 r1,DU.rep g h2 hu,h3,h4,k _ _ _ _ (.refl H) g (.bl _) q⟩
  . exact h.elim
end
theorem wDUs {A:AHp}:∀ vs:List Wr,DUs A (vs.map Wr.toU) (vs.map Wr.toD)
  | []=>.nil
  | v::vs=>.cons v.duW (wDUs vs)
theorem inW {neg:Bool} {A:AHp} {Q:AVK} {l:Addr} {w:Wr} {vs:List Wr} (hl:A l=some (.lst (vs.map Wr.toU))) (hg:∀ v∈vs,v.gd=true) (hd:∀ v∈vs,v.dep<=95) (hw:w.gd=true) (b:Bool) (hb:b=true ↔ w∈vs) (h:Q (.bl (if neg then !b else b)) A):xInD neg w.toU (.ref l) A Q:=by
  refine ⟨_,_,_,hl,wDUs vs,w.duW,fun e he=>?_,w.can (w.gd_ok hw),?_⟩
  . obtain ⟨v,hv,rfl⟩:=List.mem_map.mp he
    exact ⟨v.can (v.gd_ok (hg v hv)),Nat.le_trans v.deep (by have:=hd v hv;lia)⟩
  . have e:(vs.map Wr.toD).any (fun e=>PyData.eqv e w.toD)=b:=by
      rw [Bool.eq_iff_iff,hb,List.any_eq_true]
      constructor
      . rintro ⟨e,he,q⟩
        obtain ⟨v,hv,rfl⟩:=List.mem_map.mp he
        rw [v.eqvD] at q
        rw [<- v.like_eq w (v.gd_nrm (hg v hv)) (w.gd_nrm hw) q]
        exact hv
      . intro hm
        exact ⟨_,List.mem_map_of_mem hm,by rw [w.eqvD];exact w.like_self (w.gd_ok hw)⟩
    rw [e];exact h
end L2
namespace L2
inductive Star {α:Type} (r:α->α->Prop):α->α->Prop
  | refl (a:α):Star r a a
  | tail {a b c:α}:Star r a b->r b c->Star r a c
theorem Star.one {α:Type} {r:α->α->Prop} {a b:α} (h:r a b):Star r a b:=.tail (.refl a) h
theorem Star.trans {α:Type} {r:α->α->Prop} {a b c:α} (h:Star r a b) (k:Star r b c):Star r a c:=by
  induction k with
  | refl=>exact h
  | tail _ q ih=>exact .tail ih q
theorem Star.symm {α:Type} {r:α->α->Prop} (hs:∀ {a b},r a b->r b a) {a b:α} (h:Star r a b):Star r b a:=by
  induction h with
  | refl=>exact .refl _
  | tail _ q ih=>exact (Star.one (hs q)).trans ih
theorem Star.map {α β:Type} {r:α->α->Prop} {s:β->β->Prop} (f:α->β) (hf:∀ a b,r a b->Star s (f a) (f b)) {a b:α} (h:Star r a b):Star s (f a) (f b):=by
  induction h with
  | refl=>exact .refl _
  | tail _ q ih=>exact ih.trans (hf _ _ q)
inductive Sw {α:Type}:List α->List α->Prop
  | mk (p:List α) (a b:α) (s:List α):Sw (p++a::b::s) (p++b::a::s)
theorem Sw.symm {α:Type} {l m:List α} (h:Sw l m):Sw m l:=by
  cases h with
  | mk p a b s=>exact .mk p b a s
theorem Sw.cons {α:Type} (x:α) {l m:List α} (h:Sw l m):Sw (x::l) (x::m):=by
  cases h with
  | mk p a b s=>exact .mk (x::p) a b s
theorem Sw.perm {α:Type} {l m:List α} (h:Sw l m):l.Perm m:=by
  cases h with
  | mk p a b s=>exact (List.Perm.swap b a s).append_left p
theorem star_perm {α:Type} {l m:List α} (h:l.Perm m):Star Sw l m:=by
  induction h with
  | nil=>exact .refl _
  | cons x _ ih=>exact ih.map (x::·) fun _ _ q=>.one (q.cons x)
  | swap x y l=>exact .one (.mk [] y x l)
  | trans _ _ h1 h2=>exact h1.trans h2
noncomputable def swAt {α:Type} (l:List α) (k:Nat):List α:=l.take k++(l.drop (k + 1)).take 1++(l.drop k).take 1++l.drop (k + 2)
theorem swAt_mk {α:Type} (p:List α) (a b:α) (s:List α):swAt (p++a::b::s) p.length=p++b::a::s:=by
  have e1:(p++a::b::s).drop (p.length + 1)=b::s:=by
    rw [List.drop_append,List.drop_eq_nil_of_le (Nat.le_succ _)];simp
  have e2:(p++a::b::s).drop (p.length + 2)=s:=by
    rw [List.drop_append,List.drop_eq_nil_of_le (by lia)];simp
  unfold swAt
  rw [e1,e2]
  simp
theorem sw_at {α:Type} {l:List α} {k:Nat} (h:k + 1 < l.length):Sw l (swAt l k):=by
  obtain ⟨p,a,b,s,rfl,rfl⟩:∃ p a b s,l=p++a::b::s/\k=p.length:=by
    refine ⟨l.take k,l[k],l[k + 1],l.drop (k + 2),?_,by simp;lia⟩
    have e:l.drop k=l[k]::l[k + 1]::l.drop (k + 2):=by
      rw [List.drop_eq_getElem_cons (by lia),List.drop_eq_getElem_cons h]
    rw [<- e,List.take_append_drop]
  rw [swAt_mk]
  exact .mk p a b s
theorem sw_iff {α:Type} {l m:List α}:Sw l m ↔ ∃ k,k + 1 < l.length/\m=swAt l k:=by
  constructor
  . intro h
    cases h with
    | mk p a b s=>exact ⟨p.length,by simp,(swAt_mk p a b s).symm⟩
  . rintro ⟨k,h,rfl⟩
    exact sw_at h
inductive At {α:Type} (r:α->α->Prop):List α->List α->Prop
  | mk (p:List α) {a b:α} (s:List α):r a b->At r (p++a::s) (p++b::s)
end L2
namespace L2
section
variable {α:Type} [DecidableEq α]
noncomputable def addOne (s:List α × List α) (o:α):List α × List α:=if o∈s.2 then s else (s.1++[o],s.2++[o])
noncomputable def addAll (os:List α) (s:List α × List α):List α × List α:=os.foldl addOne s
theorem addAll_snoc (os:List α) (o:α) (s:List α × List α):addAll (os++[o]) s=addOne (addAll os s) o:=by
  unfold addAll;rw [List.foldl_append];rfl
structure Mid (r:α->α->Prop) (stp:α->List α) (w:α) (all:List α) (x:α) (d:List α) (s:List α × List α):Prop where
  nd:s.2.Nodup
  star:∀ y∈s.2,Star r w y
  wt:∀ y∈s.1,y∈s.2
  here:w∈s.2
  mem:x∈s.2
  fin:∀ y∈s.2,y∈s.1\/y=x\/∀ z∈stp y,z∈s.2
  sub:∀ y∈s.2,y∈all
  done:∀ z∈d,z∈s.2
structure Srch (r:α->α->Prop) (stp:α->List α) (w:α) (all:List α) (s:List α × List α):Prop where
  nd:s.2.Nodup
  star:∀ y∈s.2,Star r w y
  wt:∀ y∈s.1,y∈s.2
  here:w∈s.2
  fin:∀ y∈s.2,y∈s.1\/∀ z∈stp y,z∈s.2
  sub:∀ y∈s.2,y∈all
variable {r:α->α->Prop} {stp:α->List α} {w x o:α} {all d ini:List α} {s:List α × List α}
theorem Srch.start (h:w∈all):Srch r stp w all ([w],[w]) where
  nd:=by simp
  star:=fun y hy=>by rw [List.mem_singleton.mp hy];exact .refl w
  wt:=fun y hy=>hy
  here:=by simp
  fin:=fun y hy=>.inl hy
  sub:=fun y hy=>by rw [List.mem_singleton.mp hy];exact h
theorem Srch.mid (I:Srch r stp w all (ini++[x],s.2)):Mid r stp w all x [] (ini,s.2) where
  nd:=I.nd
  star:=I.star
  wt:=fun y hy=>I.wt y (List.mem_append_left _ hy)
  here:=I.here
  mem:=I.wt x (List.mem_append_right _ (List.mem_singleton.mpr rfl))
  fin := fun y hy=>by
    rcases I.fin y hy with h | h
    . rcases List.mem_append.mp h with h | h
      . exact .inl h
      . exact .inr (.inl (List.mem_singleton.mp h))
    . exact .inr (.inr h)
  sub:=I.sub
  done:=fun z hz=>by cases hz
theorem Mid.step (I:Mid r stp w all x d s) (hr:r x o) (ha:o∈all):Mid r stp w all x (d++[o]) (addOne s o):=by
  unfold addOne
  by_cases h:o∈s.2
  . rw [if_pos h]
    exact { I with done:=fun z hz=>by rcases List.mem_append.mp hz with q | q;exact I.done z q;rw [List.mem_singleton.mp q];exact h }
  . rw [if_neg h]
    have up:∀ {y},y∈s.2->y∈s.2++[o]:=fun q=>List.mem_append_left _ q
    refine ⟨?_,?_,?_,up I.here,up I.mem,?_,?_,?_⟩
    . rw [List.nodup_append]
      exact ⟨I.nd,by simp,fun a p b q e=>h (by rw [<- List.mem_singleton.mp q,<- e];exact p)⟩
    . intro y hy
      rcases List.mem_append.mp hy with q | q
      . exact I.star y q
      . rw [List.mem_singleton.mp q];exact .tail (I.star x I.mem) hr
    . intro y hy
      rcases List.mem_append.mp hy with q | q
      . exact up (I.wt y q)
      . exact List.mem_append_right _ q
    . intro y hy
      rcases List.mem_append.mp hy with q | q
      . rcases I.fin y q with k | k | k
        . exact .inl (List.mem_append_left _ k)
        . exact .inr (.inl k)
        . exact .inr (.inr fun z hz=>up (k z hz))
      . exact .inl (List.mem_append_right _ q)
    . intro y hy
      rcases List.mem_append.mp hy with q | q
      . exact I.sub y q
      . rw [List.mem_singleton.mp q];exact ha
    . intro z hz
      rcases List.mem_append.mp hz with q | q
      . exact up (I.done z q)
      . exact List.mem_append_right _ q
theorem Mid.all' (hr:∀ o∈stp x,r x o) (ha:∀ o∈stp x,o∈all) (I:Mid r stp w all x [] s):Mid r stp w all x (stp x) (addAll (stp x) s):=by
  have go:∀ (os d:List α) (s:List α × List α),(∀ o∈os,o∈stp x)->Mid r stp w all x d s->Mid r stp w all x (d++os) (addAll os s):=by
    intro os
    induction os with
    | nil=>intro d s _ I;rw [List.append_nil];exact I
    | cons o os ih =>
      intro d s hs I
      have:=ih (d++[o]) (addOne s o) (fun z hz=>hs z (List.mem_cons_of_mem _ hz)) (I.step (hr o (hs o (List.mem_cons_self ..))) (ha o (hs o (List.mem_cons_self ..))))
      rwa [List.append_assoc] at this
  exact go (stp x) [] s (fun _ h=>h) I
theorem Mid.out (I:Mid r stp w all x (stp x) s):Srch r stp w all s :=
  ⟨I.nd,I.star,I.wt,I.here,fun y hy=>by
    rcases I.fin y hy with k | k | k
    . exact .inl k
    . subst k;exact .inr I.done
    . exact .inr k,I.sub⟩
theorem Srch.whole (hr:∀ a b,r a b->b∈stp a) (I:Srch r stp w all ([],s.2)):∀ y,y∈s.2 ↔ Star r w y:=by
  intro y
  refine ⟨I.star y,fun h=>?_⟩
  induction h with
  | refl=>exact I.here
  | tail _ q ih =>
    rcases I.fin _ ih with k | k
    . cases k
    . exact k _ (hr _ _ q)
theorem nodup_len:∀ {l m:List α},l.Nodup->(∀ y∈l,y∈m)->l.length<=m.length
  | [],m,_,_=>Nat.zero_le _
  | a :: l,m,nd,h=>by
    rw [List.nodup_cons] at nd
    have ha:a∈m:=h a (List.mem_cons_self ..)
    have:=nodup_len (m:=m.erase a) nd.2 fun y hy=>(List.mem_erase_of_ne (fun e=>nd.1 (by rw [<- e];exact hy))).mpr (h y (List.mem_cons_of_mem _ hy))
    rw [List.length_erase_of_mem ha] at this
    have:0 < m.length:=List.length_pos_of_mem ha
    simp only [List.length_cons];lia
theorem addOne_len (s:List α × List α) (o:α):(addOne s o).1.length + s.2.length=s.1.length + (addOne s o).2.length:=by
  unfold addOne
  by_cases h:o∈s.2
  . rw [if_pos h]
  . rw [if_neg h];simp;lia
theorem addAll_len (os:List α):∀ s:List α × List α,(addAll os s).1.length + s.2.length=s.1.length + (addAll os s).2.length/\s.2.length<=(addAll os s).2.length:=by
  induction os with
  | nil=>intro s;exact ⟨rfl,Nat.le_refl _⟩
  | cons o os ih =>
    intro s
    have h1:=ih (addOne s o)
    have h2:=addOne_len s o
    have h3:s.2.length<=(addOne s o).2.length:=by
      unfold addOne;split <;> simp
    have e:addAll (o::os) s=addAll os (addOne s o):=rfl
    rw [e];lia
noncomputable def left (all:List α) (s:List α × List α):Nat:=2 * (all.length - s.2.length) + s.1.length
theorem left_lt (I:Srch r stp w all (ini++[x],s.2)) (J:Srch r stp w all (addAll (stp x) (ini,s.2))):left all (addAll (stp x) (ini,s.2)) < left all (ini++[x],s.2):=by
  have h:=addAll_len (stp x) (ini,s.2)
  have n1:=nodup_len J.nd J.sub
  unfold left
  simp only [List.length_append,List.length_cons,List.length_nil] at *
  lia
end
end L2
namespace L2
inductive Stp:Wr->Wr->Prop
  | swap {k:Nat} {ps qs:List Wr}:k=1\/k=2->Sw ps qs->Stp (.many k ps) (.many k qs)
  | turn {ps:List Wr} {r:Nat}:1<=r->r < ps.length->Stp (.many 3 ps) (.many 3 (turnL ps r))
  | part (k:Nat) (p:List Wr) {a b:Wr} (s:List Wr):Stp a b->Stp (.many k (p++a::s)) (.many k (p++b::s))
  | side (c:Bool) {a b:Wr}:Stp a b->Stp (.side c a) (.side c b)
  | fst {a b:Wr} (g:Wr):Stp a b->Stp (.pair a g) (.pair b g)
  | snd (f:Wr) {a b:Wr}:Stp a b->Stp (.pair f a) (.pair f b)
theorem turnL_zero {α:Type} (ps:List α):turnL ps 0=ps:=by simp [turnL]
theorem Stp.symm {a b:Wr} (h:Stp a b):Stp b a:=by
  induction h with
  | swap c q=>exact .swap c q.symm
  | @turn ps r h1 h2 =>
    have e:turnL (turnL ps r) (ps.length - r)=ps:=by
      rw [turnL_turnL ps h2 (by lia),show r + (ps.length - r)=ps.length by lia,Nat.mod_self,turnL_zero]
    have:=Stp.turn (ps:=turnL ps r) (r:=ps.length - r) (by lia) (by rw [turnL_len];lia)
    rwa [e] at this
  | part k p s _ ih=>exact .part k p s ih
  | side c _ ih=>exact .side c ih
  | fst g _ ih=>exact .fst g ih
  | snd f _ ih=>exact .snd f ih
theorem Lks.refl {ws:List Wr} (h:gdL ws=true):Lks ws ws:=⟨rfl,h,rfl,rfl,rfl,rfl⟩
theorem Lks.set {p s:List Wr} {a b:Wr} (h:gdL (p++a::s)=true) (k:Lk a b):Lks (p++a::s) (p++b::s):=by
  rw [gdL_app,gdL,Bool.and_eq_true,Bool.and_eq_true] at h
  refine ⟨by simp,?_,?_,?_,?_,?_⟩
  . rw [gdL_app,gdL,h.1,h.2.2,k.gd];rfl
  . rw [tupsL_app,tupsL_app];simp only [tupsL,k.tups]
  . rw [depL_app,depL_app];simp only [depL,k.dep]
  . rw [sizeL_app,sizeL_app];simp only [sizeL,k.size]
  . rw [plnL_app,plnL_app];simp only [plnL,k.pl]
theorem Stp.lk {a b:Wr} (h:Stp a b):a.gd=true->Lk a b:=by
  induction h with
  | @swap k ps qs c q =>
    intro g
    refine Lks.many g (Lks.refl ?_) ?_
    . simp only [Wr.gd,Bool.and_eq_true] at g;exact g.2
    . unfold Alk;rw [if_pos c];exact q.perm
  | @turn ps r h1 h2 =>
    intro g
    refine Lks.many g (Lks.refl ?_) ?_
    . simp only [Wr.gd,Bool.and_eq_true] at g;exact g.2
    . unfold Alk;rw [if_neg (by decide),if_neg (by decide)];exact .inr ⟨r,h2,rfl⟩
  | @part k p a b s _ ih =>
    intro g
    have g2:=g
    simp only [Wr.gd,Bool.and_eq_true] at g2
    have ga:a.gd=true:=gdL_iff.mp g2.2 a (by simp)
    exact Lks.many g (Lks.set g2.2 (ih ga)) (Alk.refl k _)
  | @side c a b _ ih =>
    intro g
    have k:=ih g
    exact ⟨k.gd,by simp only [Wr.tups,k.tups],by simp only [Wr.dep,k.dep],by simp only [Wr.size,k.size],by simp only [Wr.pl,k.pl]⟩
  | @fst a b f _ ih =>
    intro g
    simp only [Wr.gd,Bool.and_eq_true] at g
    have k:=ih g.1
    exact ⟨by simp only [Wr.gd,k.gd,g.2,Bool.and_self],by simp only [Wr.tups,k.tups],by simp only [Wr.dep,k.dep],by simp only [Wr.size,k.size],by simp only [Wr.pl,k.pl]⟩
  | @snd f a b _ ih =>
    intro g
    simp only [Wr.gd,Bool.and_eq_true] at g
    have k:=ih g.2
    exact ⟨by simp only [Wr.gd,k.gd,g.1,Bool.and_self],by simp only [Wr.tups,k.tups],by simp only [Wr.dep,k.dep],by simp only [Wr.size,k.size],by simp only [Wr.pl,k.pl]⟩
theorem Lk.trans {a b c:Wr} (h:Lk a b) (k:Lk b c):Lk a c:=⟨k.gd,k.tups.trans h.tups,k.dep.trans h.dep,k.size.trans h.size,k.pl.trans h.pl⟩
theorem star_lk {a b:Wr} (h:Star Stp a b) (g:a.gd=true):Lk a b:=by
  induction h with
  | refl=>exact Lk.refl g
  | tail _ q ih=>exact (ih).trans (q.lk (ih).gd)
theorem star_swaps {k:Nat} {ps qs:List Wr} (c:k=1\/k=2) (h:ps.Perm qs):Star Stp (.many k ps) (.many k qs) :=
  (star_perm h).map (Wr.many k) fun _ _ q=>.one (.swap c q)
theorem star_parts {k:Nat} {ps qs:List Wr} (h:Star (At Stp) ps qs):Star Stp (.many k ps) (.many k qs) :=
  h.map (Wr.many k) fun _ _ q=>by
    cases q with
    | mk p s q=>exact .one (.part k p s q)
theorem star_arr {k:Nat} {ps:List Wr} (hk:k<=3):Star Stp (.many k ps) (.many k (arr k ps)):=by
  by_cases c:k=1\/k=2
  . exact star_swaps c (arr_perm k ps).symm
  . unfold arr
    rw [if_neg c]
    by_cases c0:k=0
    . rw [if_pos c0];exact .refl _
    . rw [if_neg c0]
      obtain rfl:k=3:=by lia
      unfold leastT
      by_cases b0:bestT Wr.keyD ps=0
      . rw [b0,turnL_zero];exact .refl _
      . refine .one (.turn (by lia) ?_)
        have:=best_lt (lt:=fun i j=>ltv (kdL Wr.keyD (turnL ps i)) (kdL Wr.keyD (turnL ps j))) (ps.length - 1)
        have this:bestT Wr.keyD ps<=ps.length - 1:=this
        lia
mutual
theorem Wr.star_pl:∀ w:Wr,w.gd=true->Star Stp w w.pl
  | .nothing,_=>.refl _
  | .bead _,_=>.refl _
  | .side b f,g=>by
    simp only [Wr.pl]
    exact (f.star_pl g).map (Wr.side b) fun _ _ q=>.one (.side b q)
  | .pair f f',g=>by
    simp only [Wr.gd,Bool.and_eq_true] at g
    simp only [Wr.pl]
    exact ((f.star_pl g.1).map (fun x=>Wr.pair x f') fun _ _ q=>.one (.fst f' q)).trans ((f'.star_pl g.2).map (fun x=>Wr.pair f.pl x) fun _ _ q=>.one (.snd f.pl q))
  | .many k ps,g=>by
    simp only [Wr.gd,Bool.and_eq_true,decide_eq_true_eq] at g
    simp only [Wr.pl]
    exact (star_parts (starL_pl ps g.2)).trans (star_arr g.1.1)
theorem starL_pl:∀ ws:List Wr,gdL ws=true->Star (At Stp) ws (plnL ws)
  | [],_=>.refl _
  | w :: ws,g=>by
    simp only [gdL,Bool.and_eq_true] at g
    have h1:Star (At Stp) (w::ws) (w.pl::ws):=(w.star_pl g.1).map (·::ws) fun x y q=>.one (.mk [] ws q)
    refine h1.trans ((starL_pl ws g.2).map (w.pl::·) fun x y q=>?_)
    cases q with
    | mk p s q=>exact .one (.mk (w.pl::p) s q)
end
theorem star_iff {w v:Wr} (hw:w.gd=true) (hv:v.gd=true):Star Stp w v ↔ v.pl=w.pl:=by
  refine ⟨fun h=>(star_lk h hw).pl,fun e=>?_⟩
  have h:=v.star_pl hv
  rw [e] at h
  exact (w.star_pl hw).trans (h.symm Stp.symm)
end L2
namespace L2
section
variable {α:Type}
noncomputable def ins (x:α):List α->List (List α)
  | []=>[[x]]
  | y::l=>(x::y::l)::(ins x l).map (y::·)
noncomputable def perms:List α->List (List α)
  | []=>[[]]
  | x::l=>(perms l).flatMap (ins x)
theorem ins_len (x:α):∀ l:List α,(ins x l).length=l.length + 1
  | []=>rfl
  | y::l=>by simp [ins,ins_len x l]
theorem mem_ins (x:α):∀ p s:List α,p++x::s∈ins x (p++s)
  | [],[]=>by simp [ins]
  | [],y::s=>by simp [ins]
  | y :: p,s=>by
    simp only [List.cons_append,ins]
    exact List.mem_cons_of_mem _ (List.mem_map.mpr ⟨_,mem_ins x p s,rfl⟩)
theorem ins_perm {x:α}:∀ {l m:List α},m∈ins x l->m.Perm (x::l)
  | [],m,h=>by simp [ins] at h;rw [h]
  | y :: l,m,h=>by
    simp only [ins,List.mem_cons,List.mem_map] at h
    rcases h with h | ⟨k,hk,h⟩
    . rw [h]
    . rw [<- h];exact ((ins_perm hk).cons y).trans (.swap x y l)
theorem mem_perms:∀ {l m:List α},m.Perm l->m∈perms l
  | [],m,h=>by rw [h.eq_nil];simp [perms]
  | x :: l,m,h=>by
    obtain ⟨p,s,rfl⟩:=List.append_of_mem (h.mem_iff.mpr (List.mem_cons_self ..))
    have q:(p++s).Perm l:=by
      have:=(List.perm_middle (a:=x) (l₁:=p) (l₂:=s)).symm.trans h
      exact this.cons_inv
    simp only [perms,List.mem_flatMap]
    exact ⟨_,mem_perms q,mem_ins x p s⟩
theorem perms_perm:∀ {l m:List α},m∈perms l->m.Perm l
  | [],m,h=>by simp [perms] at h;rw [h]
  | x :: l,m,h=>by
    simp only [perms,List.mem_flatMap] at h
    obtain ⟨k,hk,h⟩:=h
    exact (ins_perm h).trans ((perms_perm hk).cons x)
noncomputable def fct:Nat->Nat
  | 0=>1
  | n + 1=>(n + 1) * fct n
theorem flat_len {β:Type} (f:α->List β) (c:Nat):∀ l:List α,(∀ x∈l,(f x).length=c)->(l.flatMap f).length=l.length * c
  | [],_=>by simp
  | x :: l,h=>by
    rw [List.flatMap_cons,List.length_append,flat_len f c l fun y hy=>h y (List.mem_cons_of_mem _ hy),h x (List.mem_cons_self ..),List.length_cons,Nat.succ_mul,Nat.add_comm]
theorem perms_len:∀ l:List α,(perms l).length=fct l.length
  | []=>rfl
  | x :: l=>by
    rw [perms,flat_len (ins x) (l.length + 1) (perms l) fun m hm=>by rw [ins_len,(perms_perm hm).length_eq],perms_len l,List.length_cons,fct,Nat.mul_comm]
noncomputable def picks:List (List α)->List (List α)
  | []=>[[]]
  | l::ls=>l.flatMap fun x=>(picks ls).map (x::·)
noncomputable def prodLen:List (List α)->Nat
  | []=>1
  | l::ls=>l.length * prodLen ls
theorem picks_len:∀ ls:List (List α),(picks ls).length=prodLen ls
  | []=>rfl
  | l :: ls=>by
    rw [picks,flat_len _ (prodLen ls) l fun x _=>by rw [List.length_map,picks_len ls],prodLen]
theorem mem_picks:∀ {ls:List (List α)} {m:List α},m∈picks ls ↔ m.length=ls.length/\∀ i (h:i < m.length) (k:i < ls.length),m[i]∈ls[i]
  | [],m=>by
    simp only [picks,List.mem_singleton,List.length_nil]
    exact ⟨fun h=>by subst h;exact ⟨rfl,fun i h=>absurd h (Nat.not_lt_zero _)⟩,fun h=>List.length_eq_zero_iff.mp h.1⟩
  | l :: ls,m=>by
    simp only [picks,List.mem_flatMap,List.mem_map]
    constructor
    . rintro ⟨x,hx,k,hk,rfl⟩
      obtain ⟨e,h⟩:=mem_picks.mp hk
      refine ⟨by simp [e],fun i h1 h2=>?_⟩
      cases i with
      | zero=>exact hx
      | succ i=>exact h i (Nat.lt_of_succ_lt_succ h1) (Nat.lt_of_succ_lt_succ h2)
    . rintro ⟨e,h⟩
      cases m with
      | nil=>simp at e
      | cons x m =>
        exact ⟨x,h 0 (Nat.succ_pos _) (Nat.succ_pos _),m,mem_picks.mpr ⟨by simpa using e,fun i p q=>h (i + 1) (Nat.succ_lt_succ p) (Nat.succ_lt_succ q)⟩,rfl⟩
end
mutual
noncomputable def Wr.plays:Wr->List Wr
  | .nothing=>[.nothing]
  | .bead c=>[.bead c]
  | .side b f=>f.plays.map (Wr.side b)
  | .pair f g=>f.plays.flatMap fun x=>g.plays.map (Wr.pair x)
  | .many k ps=>(picks (playsL ps)).flatMap fun qs=>(perms qs).map (Wr.many k)
noncomputable def playsL:List Wr->List (List Wr)
  | []=>[]
  | w::ws=>w.plays::playsL ws
end
mutual
theorem Wr.plays_self:∀ w:Wr,w∈w.plays
  | .nothing=>by simp [Wr.plays]
  | .bead c=>by simp [Wr.plays]
  | .side b f=>by simp only [Wr.plays,List.mem_map];exact ⟨f,f.plays_self,rfl⟩
  | .pair f g=>by simp only [Wr.plays,List.mem_flatMap,List.mem_map];exact ⟨f,f.plays_self,g,g.plays_self,rfl⟩
  | .many k ps=>by simp only [Wr.plays,List.mem_flatMap,List.mem_map];exact ⟨ps,playsL_self ps,ps,mem_perms (.refl _),rfl⟩
theorem playsL_self:∀ ws:List Wr,ws∈picks (playsL ws)
  | []=>by simp [playsL,picks]
  | w::ws=>by simp only [playsL,picks,List.mem_flatMap,List.mem_map];exact ⟨w,w.plays_self,ws,playsL_self ws,rfl⟩
end
theorem perm_set {α:Type} {p s qs:List α} {a b:α} (h:(p++a::s).Perm qs):∃ p' s',qs=p'++a::s'/\(p++b::s).Perm (p'++b::s'):=by
  obtain ⟨p',s',rfl⟩:=List.append_of_mem (h.mem_iff.mp (by simp:a∈p++a::s))
  refine ⟨p',s',rfl,?_⟩
  have q:(p++s).Perm (p'++s'):=((List.perm_middle (a:=a) (l₁:=p) (l₂:=s)).symm.trans (h.trans List.perm_middle)).cons_inv
  exact List.perm_middle.trans ((q.cons b).trans List.perm_middle.symm)
mutual
theorem Wr.plays_cl:∀ (w v u:Wr),v∈w.plays->Stp v u->u∈w.plays
  | .nothing,v,u,h,q=>by simp only [Wr.plays,List.mem_singleton] at h;subst h;cases q
  | .bead c,v,u,h,q=>by simp only [Wr.plays,List.mem_singleton] at h;subst h;cases q
  | .side b f,v,u,h,q=>by
    simp only [Wr.plays,List.mem_map] at h ⊢
    obtain ⟨x,hx,rfl⟩:=h
    cases q with
    | side _ q=>exact ⟨_,f.plays_cl x _ hx q,rfl⟩
  | .pair f g,v,u,h,q=>by
    simp only [Wr.plays,List.mem_flatMap,List.mem_map] at h ⊢
    obtain ⟨x,hx,y,hy,rfl⟩:=h
    cases q with
    | fst _ q=>exact ⟨_,f.plays_cl x _ hx q,y,hy,rfl⟩
    | snd _ q=>exact ⟨x,hx,_,g.plays_cl y _ hy q,rfl⟩
  | .many k ps,v,u,h,q=>by
    simp only [Wr.plays,List.mem_flatMap,List.mem_map] at h ⊢
    obtain ⟨qs,hq,rs,hr,rfl⟩:=h
    have pr:=perms_perm hr
    generalize hv:Wr.many k rs=v at q
    cases q with
    | swap c q =>
      cases hv
      exact ⟨qs,hq,_,mem_perms (q.perm.symm.trans pr),rfl⟩
    | turn h1 h2 =>
      cases hv
      exact ⟨qs,hq,_,mem_perms ((turnL_perm _ _).trans pr),rfl⟩
    | part k p s q =>
      cases hv
      obtain ⟨p',s',e,pq⟩:=perm_set pr
      subst e
      exact ⟨_,playsL_cl ps _ _ hq (.mk p' s' q),_,mem_perms pq,rfl⟩
    | side=>cases hv
    | fst=>cases hv
    | snd=>cases hv
theorem playsL_cl:∀ (ws vs us:List Wr),vs∈picks (playsL ws)->At Stp vs us->us∈picks (playsL ws)
  | [],vs,us,h,q=>by
    simp only [playsL,picks,List.mem_singleton] at h
    subst h
    generalize hv:([]:List Wr)=v at q
    cases q with
    | mk p s q=>simp at hv
  | w :: ws,vs,us,h,q=>by
    simp only [playsL,picks,List.mem_flatMap,List.mem_map] at h ⊢
    obtain ⟨x,hx,ks,hk,rfl⟩:=h
    generalize hv:x::ks=v at q
    cases q with
    | mk p s q =>
      cases p with
      | nil=>cases hv;exact ⟨_,w.plays_cl x _ hx q,ks,hk,rfl⟩
      | cons y p=>cases hv;exact ⟨x,hx,_,playsL_cl ws _ _ hk (.mk p s q),rfl⟩
end
mutual
noncomputable def Wr.nply:Wr->Nat
  | .nothing=>1
  | .bead _=>1
  | .side _ f=>f.nply
  | .pair f g=>f.nply * g.nply
  | .many _ ps=>nplyL ps * fct ps.length
noncomputable def nplyL:List Wr->Nat
  | []=>1
  | w::ws=>w.nply * nplyL ws
end
theorem playsL_len:∀ ws:List Wr,(playsL ws).length=ws.length
  | []=>rfl
  | w::ws=>by simp [playsL,playsL_len ws]
mutual
theorem Wr.plays_len:∀ w:Wr,w.plays.length=w.nply
  | .nothing=>rfl
  | .bead _=>rfl
  | .side _ f=>by simp only [Wr.plays,Wr.nply,List.length_map,f.plays_len]
  | .pair f g=>by
    simp only [Wr.plays,Wr.nply]
    rw [flat_len _ g.nply f.plays fun x _=>by rw [List.length_map,g.plays_len],f.plays_len]
  | .many k ps=>by
    simp only [Wr.plays,Wr.nply]
    rw [flat_len _ (fct ps.length) _ fun qs hq=>by rw [List.length_map,perms_len,(mem_picks.mp hq).1,playsL_len],picks_len,playsL_prod ps]
theorem playsL_prod:∀ ws:List Wr,prodLen (playsL ws)=nplyL ws
  | []=>rfl
  | w::ws=>by simp only [playsL,prodLen,nplyL,w.plays_len,playsL_prod ws]
end
theorem fct_mul (a b:Nat):fct a * fct b<=fct (a + b):=by
  induction a with
  | zero=>simp [fct]
  | succ a ih =>
    rw [Nat.succ_add,fct,fct,Nat.mul_assoc]
    exact Nat.mul_le_mul (by lia) ih
theorem fct_pos:∀ n,1<=fct n
  | 0=>Nat.le_refl _
  | n + 1=>Nat.mul_pos (Nat.succ_pos n) (fct_pos n)
theorem fct_mono {a b:Nat} (h:a<=b):fct a<=fct b:=by
  obtain ⟨c,rfl⟩:=Nat.exists_eq_add_of_le h
  have:=fct_mul a c
  exact Nat.le_trans (Nat.le_mul_of_pos_right _ (fct_pos c)) this
mutual
noncomputable def Wr.nin:Wr->Nat
  | .nothing=>0
  | .bead _=>0
  | .side _ f=>f.nin + 1
  | .pair f g=>f.nin + g.nin + 2
  | .many _ ps=>ninL ps + ps.length
noncomputable def ninL:List Wr->Nat
  | []=>0
  | w::ws=>w.nin + ninL ws
end
mutual
theorem Wr.nply_le:∀ w:Wr,w.nply<=fct w.nin
  | .nothing=>Nat.le_refl _
  | .bead _=>Nat.le_refl _
  | .side _ f=>Nat.le_trans f.nply_le (fct_mono (Nat.le_succ _))
  | .pair f g=>Nat.le_trans (Nat.mul_le_mul f.nply_le g.nply_le) (Nat.le_trans (fct_mul _ _) (fct_mono (Nat.le_add_right _ _)))
  | .many _ ps=>Nat.le_trans (Nat.mul_le_mul (nplyL_le ps) (Nat.le_refl _)) (fct_mul _ _)
theorem nplyL_le:∀ ws:List Wr,nplyL ws<=fct (ninL ws)
  | []=>Nat.le_refl _
  | w::ws=>Nat.le_trans (Nat.mul_le_mul w.nply_le (nplyL_le ws)) (fct_mul _ _)
end
theorem plays_120 {w:Wr} (h:w.nin<=5):w.plays.length<=120:=by
  rw [w.plays_len]
  exact Nat.le_trans w.nply_le (Nat.le_trans (fct_mono h) (by decide))
noncomputable def swaps (ps:List Wr):List (List Wr):=(List.range (ps.length - 1)).map (swAt ps)
noncomputable def turnsL (ps:List Wr):List (List Wr):=(List.range' 1 (ps.length - 1)).map (turnL ps)
mutual
noncomputable def Wr.stps:Wr->List Wr
  | .nothing=>[]
  | .bead _=>[]
  | .side b f=>f.stps.map (Wr.side b)
  | .pair f g=>f.stps.map (fun x=>Wr.pair x g)++g.stps.map (fun x=>Wr.pair f x)
  | .many k ps=>(if k=1\/k=2 then (swaps ps).map (Wr.many k) else [])++(if k=3 then (turnsL ps).map (Wr.many k) else [])++(stpsL [] ps).map (Wr.many k)
noncomputable def stpsL:List Wr->List Wr->List (List Wr)
  | _,[]=>[]
  | p,w::ws=>w.stps.map (fun x=>p++x::ws)++stpsL (p++[w]) ws
end
mutual
theorem Wr.stps_ok:∀ (w v:Wr),v∈w.stps->Stp w v
  | .nothing,v,h=>by simp [Wr.stps] at h
  | .bead _,v,h=>by simp [Wr.stps] at h
  | .side b f,v,h=>by
    simp only [Wr.stps,List.mem_map] at h
    obtain ⟨x,hx,rfl⟩:=h
    exact .side b (f.stps_ok x hx)
  | .pair f g,v,h=>by
    simp only [Wr.stps,List.mem_append,List.mem_map] at h
    rcases h with ⟨x,hx,rfl⟩ | ⟨x,hx,rfl⟩
    . exact .fst g (f.stps_ok x hx)
    . exact .snd f (g.stps_ok x hx)
  | .many k ps,v,h=>by
    simp only [Wr.stps,List.mem_append] at h
    rcases h with (h | h) | h
    . by_cases c:k=1\/k=2
      . rw [if_pos c,List.mem_map] at h
        obtain ⟨x,hx,rfl⟩:=h
        simp only [swaps,List.mem_map,List.mem_range] at hx
        obtain ⟨i,hi,rfl⟩:=hx
        exact .swap c (sw_at (by lia))
      . rw [if_neg c] at h;cases h
    . by_cases c:k=3
      . subst c
        rw [if_pos rfl,List.mem_map] at h
        obtain ⟨x,hx,rfl⟩:=h
        simp only [turnsL,List.mem_map,List.mem_range'_1] at hx
        obtain ⟨i,hi,rfl⟩:=hx
        exact .turn hi.1 (by lia)
      . rw [if_neg c] at h;cases h
    . rw [List.mem_map] at h
      obtain ⟨x,hx,rfl⟩:=h
      obtain ⟨p,a,b,s,e1,e2,q⟩:=stpsL_ok [] ps x hx
      rw [List.nil_append] at e1
      subst e1 e2
      exact .part k p s q
theorem stpsL_ok:∀ (p ws us:List Wr),us∈stpsL p ws->∃ p' a b s,p++ws=p'++a::s/\us=p'++b::s/\Stp a b
  | p,[],us,h=>by simp [stpsL] at h
  | p, w::ws,us,h=>by
    simp only [stpsL,List.mem_append,List.mem_map] at h
    rcases h with ⟨x,hx,rfl⟩ | h
    . exact ⟨p,w,x,ws,rfl,rfl,w.stps_ok x hx⟩
    . obtain ⟨p',a,b,s,e1,e2,q⟩:=stpsL_ok (p++[w]) ws us h
      exact ⟨p',a,b,s,by rw [<- e1];simp,e2,q⟩
end
theorem stpsL_mem:∀ (p q:List Wr) {a b:Wr} (s:List Wr),b∈a.stps->p++q++b::s∈stpsL p (q++a::s)
  | p, [],a,b,s,h=>by
    simp only [List.append_nil,List.nil_append,stpsL,List.mem_append,List.mem_map]
    exact .inl ⟨b,h,rfl⟩
  | p, y::q,a,b,s,h=>by
    simp only [List.cons_append,stpsL,List.mem_append]
    have:=stpsL_mem (p++[y]) q s h
    refine .inr ?_
    rwa [List.append_assoc p [y] q] at this
theorem Stp.mem {w v:Wr} (h:Stp w v):v∈w.stps:=by
  induction h with
  | @swap k ps qs c q =>
    obtain ⟨i,hi,rfl⟩:=sw_iff.mp q
    simp only [Wr.stps,List.mem_append]
    exact .inl (.inl (by rw [if_pos c];exact List.mem_map.mpr ⟨_,List.mem_map.mpr ⟨i,List.mem_range.mpr (by lia),rfl⟩,rfl⟩))
  | @turn ps r h1 h2 =>
    simp only [Wr.stps,List.mem_append]
    exact .inl (.inr (by rw [if_pos trivial];exact List.mem_map.mpr ⟨_,List.mem_map.mpr ⟨r,List.mem_range'_1.mpr ⟨h1,by lia⟩,rfl⟩,rfl⟩))
  | part k p s _ ih =>
    simp only [Wr.stps,List.mem_append]
    exact .inr (List.mem_map.mpr ⟨_,stpsL_mem [] p s ih,rfl⟩)
  | side c _ ih=>simp only [Wr.stps,List.mem_map];exact ⟨_,ih,rfl⟩
  | fst g _ ih=>simp only [Wr.stps,List.mem_append,List.mem_map];exact .inl ⟨_,ih,rfl⟩
  | snd f _ ih=>simp only [Wr.stps,List.mem_append,List.mem_map];exact .inr ⟨_,ih,rfl⟩
end L2
namespace L2
open PySem
theorem Wr.nin_tups':(∀ w:Wr,w.tups=w.nin + 1)/\∀ ws:List Wr,tupsL ws=ninL ws + ws.length:=by
  have h : ∀ n,(∀ w:Wr,w.tups<=n->w.tups=w.nin + 1)/\∀ ws:List Wr,tupsL ws<=n->tupsL ws=ninL ws + ws.length:=by
    intro n
    induction n with
    | zero =>
      refine ⟨fun w h=>absurd h (by have:=w.tups_pos;lia),fun ws h=>?_⟩
      cases ws with
      | nil=>rfl
      | cons w ws=>simp only [tupsL] at h;have:=w.tups_pos;lia
    | succ n ih =>
      have h1:∀ w:Wr,w.tups<=n + 1->w.tups=w.nin + 1:=fun w h=>by
        cases w with
        | nothing=>rfl
        | bead c=>rfl
        | side b f=>simp only [Wr.tups,Wr.nin] at h ⊢;have:=ih.1 f (by lia);lia
        | pair f g=>simp only [Wr.tups,Wr.nin] at h ⊢;have:=ih.1 f (by lia);have:=ih.1 g (by lia);lia
        | many k ps=>simp only [Wr.tups,Wr.nin] at h ⊢;have:=ih.2 ps (by lia);lia
      refine ⟨h1,fun ws=>?_⟩
      induction ws with
      | nil=>intro _;rfl
      | cons w ws ihw=>intro h;simp only [tupsL,ninL,List.length_cons] at h ⊢;have:=h1 w (by lia);have:=ihw (by lia);lia
  exact ⟨fun w=>(h w.tups).1 w (Nat.le_refl _),fun ws=>(h (tupsL ws)).2 ws (Nat.le_refl _)⟩
mutual
theorem Wr.stps_len:∀ w:Wr,w.stps.length<=w.nin
  | .nothing=>Nat.le_refl _
  | .bead _=>Nat.le_refl _
  | .side _ f=>by simp only [Wr.stps,Wr.nin,List.length_map];have:=f.stps_len;lia
  | .pair f g=>by simp only [Wr.stps,Wr.nin,List.length_map,List.length_append];have:=f.stps_len;have:=g.stps_len;lia
  | .many k ps=>by
    simp only [Wr.stps,Wr.nin,List.length_map,List.length_append]
    have h:=stpsL_len [] ps
    have h1:(swaps ps).length=ps.length - 1:=by simp [swaps]
    have h2:(turnsL ps).length=ps.length - 1:=by simp [turnsL]
    by_cases c:k=1\/k=2
    . rw [if_pos c,if_neg (by lia)];simp;lia
    . rw [if_neg c];split <;> simp <;> lia
theorem stpsL_len:∀ (p ws:List Wr),(stpsL p ws).length<=ninL ws
  | _,[]=>Nat.le_refl _
  | p,w::ws=>by simp only [stpsL,ninL,List.length_map,List.length_append];have:=w.stps_len;have:=stpsL_len (p++[w]) ws;lia
end
noncomputable def Wr.wthU (w:Wr) (ps:List U):U:=match w with
  | .many k _=>.tup [.str (mname k),.tup ps]
  | w=>.tup (.str w.name::ps)
theorem wthU_few {w:Wr} (h:w.few) (ps:List U):w.wthU ps=.tup (.str w.name::ps):=by
  cases w with
  | many k qs=>exact absurd rfl (h.2 k qs)
  | _=>rfl
theorem stps_few {w:Wr} (h:w.few):(stpsL [] w.parts).map (fun ps=>w.wthU (ps.map Wr.toU))=w.stps.map Wr.toU:=by
  cases w with
  | nothing=>rfl
  | bead c=>exact absurd rfl (h.1 c)
  | many k ps=>exact absurd rfl (h.2 k ps)
  | side b f =>
    simp only [Wr.parts,stpsL,Wr.stps,List.append_nil,List.map_map]
    exact List.map_congr_left fun x _=>rfl
  | pair f g =>
    simp only [Wr.parts,stpsL,Wr.stps,List.append_nil,List.map_map,List.map_append,List.nil_append]
    congr 1 <;> exact List.map_congr_left fun x _=>rfl
theorem stps_many (k:Nat) (ps:List Wr):(stpsL [] ps).map (fun qs=>(Wr.many k ps).wthU (qs.map Wr.toU))=((stpsL [] ps).map (Wr.many k)).map Wr.toU:=by
  rw [List.map_map]
  exact List.map_congr_left fun x _=>(Wr.toU_many k x).symm
theorem mid_take {α:Type} [DecidableEq α] {r:α->α->Prop} {stp:α->List α} {w x:α} {all:List α} {s:List α × List α} (hr:∀ o∈stp x,r x o) (ha:∀ o∈stp x,o∈all) (I:Mid r stp w all x [] s):∀ j,Mid r stp w all x ((stp x).take j) (addAll ((stp x).take j) s)
  | 0=>by rw [List.take_zero];exact I
  | j + 1=>by
    have h:=mid_take hr ha I j
    rw [List.take_add_one]
    cases e:(stp x)[j]? with
    | none=>simpa using h
    | some o =>
      have hm:=List.mem_of_getElem? e
      have:=h.step (hr o hm) (ha o hm)
      rw [<- addAll_snoc] at this
      exact this
theorem wth_ok {w:Wr} {rs:List Wr} (hb:∀ c,w≠.bead c) (hg:w.gd=true) (hl:rs.length=w.parts.length) (hr:gdL rs=true) (ht:tupsL rs=tupsL w.parts):∃ v:Wr,v.toU=w.wthU (rs.map Wr.toU)/\v.gd=true/\v.tups=w.tups:=by
  cases w with
  | nothing=>obtain rfl:rs=[]:=List.length_eq_zero_iff.mp hl;exact ⟨.nothing,rfl,rfl,rfl⟩
  | bead c=>exact absurd rfl (hb c)
  | side b f =>
    obtain ⟨x,rfl⟩:=List.length_eq_one_iff.mp hl
    simp only [Wr.parts,gdL,tupsL,Bool.and_true,Nat.add_zero] at hr ht
    exact ⟨.side b x,rfl,hr,by simp only [Wr.tups,ht]⟩
  | pair f g =>
    obtain ⟨x,y,rfl⟩:∃ x y,rs=[x,y]:=len2 (P:=fun rs=>∃ x y,rs=[x,y]) (fun a b=>⟨a,b,rfl⟩) rs hl
    simp only [Wr.parts,gdL,tupsL,Bool.and_true,Nat.add_zero] at hr ht
    exact ⟨.pair x y,rfl,hr,by simp only [Wr.tups];lia⟩
  | many k ps =>
    simp only [Wr.gd,Bool.and_eq_true,decide_eq_true_eq] at hg
    exact ⟨.many k rs,Wr.toU_many k rs,by simp only [Wr.gd,Bool.and_eq_true,decide_eq_true_eq];exact ⟨⟨hg.1.1,by rw [hl];exact hg.1.2⟩,hr⟩,by simp only [Wr.tups,ht,Wr.parts]⟩
theorem cl_inv2 {J:AIt} {te:AE} {l:Addr} {Q:AVK} {x0 x1:Option U} {fr:ASt} {A:AHp} (items:List U) (Pv:Nat->List U->AHp->Prop) (h0:Pv 0 [] A) (hn:items.length<=100000) (hl:∀ k ys A2,Pv k ys A2->ys.length=k) (hJ:∀ k ys A2,k<=items.length->Pv k ys A2->J k A2 items[k]?)
    (hs:∀ k u ys A2,items[k]? = some u->Pv k ys A2->∃ v w,u=.tup [v,w]/\∀ Cy:AVK,(∀ y A3,A3 l=some (.lst ys)->Pv (k + 1) (ys++[y]) (updA A3 l (.lst (ys++[y])))->Cy y A3)->te (some v::some w::fr) A2 Cy)
    (hd:∀ ys A2,Pv items.length ys A2->Q (.ref l) A2):aCL J (bTup 2 (bCons (bName 0) (bCons (bName 1) bNil))) aTrue te l Q (x0::x1::fr) A:=by
  refine ⟨fun i m τ A2=>m=items.length - i/\i<=items.length/\(∃ x y,τ=x::y::fr)/\∃ ys,Pv i ys A2,⟨_,rfl,Nat.zero_le _,⟨_,_,rfl⟩,_,h0⟩,?_⟩
  rintro i m τ A2 ⟨rfl,hi,⟨x,y,rfl⟩,ys,hp⟩
  have j:=hJ i ys A2 hi hp
  by_cases hlt:i < items.length
  . have hu:items[i]? = some items[i]:=List.getElem?_eq_getElem hlt
    rw [hu] at j
    obtain ⟨v,w,e,h⟩:=hs i _ ys A2 hu hp
    refine .inr ⟨_,j,?_⟩
    rw [e]
    refine ⟨[v,w],rfl,rfl,v,[w],rfl,w,[],rfl,rfl,?_⟩
    simp only [List.set_cons_zero,List.set_cons_succ,q_true,if_pos]
    exact h _ fun y A3 h1 h2=>⟨ys,h1,line1000' (by rw [hl i ys A2 hp];lia),items.length - (i + 1),by lia,rfl,hlt,⟨_,_,rfl⟩,_,h2⟩
  . have e:i=items.length:=by lia
    subst e
    rw [List.getElem?_eq_none (Nat.le_refl _)] at j
    exact .inl ⟨j,hd ys A2 hp⟩
end L2
namespace My
open PySem L2
local macro_rules | `(tactic| walk_at "qd") => do
  let ls <- ("q_var0 q_nm0 q_get0 q_varS q_nmS q_getS q_c q_op q_un q_tb q_bl q_int q_and q_or q_not q_true q_nil q_cons q_const q_tup q_lst q_cb q_call q_callV q_nopart q_part q_sl q_bm0 q_bm q_next q_seq q_drop q_ret q_ifs q_asg q_par q_two q_for q_jof q_jargs q_ylr q_ylo q_yt q_yr1 q_yr2 q_yer q_yeo q_yet q_jrev q_comp q_gtup q_gcons q_gnil q_addi q_adds q_addt q_addr q_xi q_xi2 q_mul q_rep q_lti q_eqi q_eqs q_eqb q_eqt q_eqr q_nei q_nes q_neb q_net q_ner q_int_ q_inr_ q_ins_ q_ixs q_ix0 q_ix1 q_ix2 q_ixo q_ixr q_sls q_slt1 q_slo q_slr q_lens q_lent q_leno q_lenr q_min2 q_minl q_sum q_lot q_loo q_lor q_tot q_tor q_isl q_ist q_app q_pop q_extT q_ext q_tail q_tuprev q_tru q_trul q_trut q_trub q_idxC q_ysr q_yso q_yst q_yesr q_yeso q_yest q_exSt q_exSr q_ltDi q_ltDs q_ltDt q_ltDr q_sortL q_listrev".splitOn " ").toArray.mapM fun s => `(Lean.Parser.Tactic.simpLemma| ↓$(Lean.mkIdent (.mkSimple s)):ident)
  `(tactic| (try simp only [$ls,*,List.set_cons_zero,List.set_cons_succ,List.cons_append,List.nil_append]))
local macro_rules | `(tactic| walk_at "qg") => `(tactic| (walk_at "qd"; (try simp only [↓q_ixt, ↓q_slt]); walk_at "qd"))
local macro_rules | `(tactic| walk_at "qs") => `(tactic| (simp only [L2.aStart, List.map_cons, List.map_nil, List.length_cons, List.length_nil, List.replicate, List.cons_append, List.nil_append, Nat.reduceAdd, Nat.reduceSub]))
local macro_rules | `(tactic| walk_at "qc") => `(tactic| (try simp only [L2.aCompStart, List.replicate, List.map_cons, List.map_nil, List.getElem?_cons_zero, List.getElem?_cons_succ, Option.join_some, List.cons_append, List.nil_append]))
noncomputable def top (i:Nat):Stmt:=PySem.Challenge.pw_figurebook_k12_whole_alike_by_steps.main.body.getD i (.Pass ⟨0,0,0,0⟩)
noncomputable abbrev s_parts_of:Stmt:=top 3
noncomputable abbrev s_made_of:Stmt:=top 4
noncomputable abbrev s_folded:Stmt:=top 5
noncomputable abbrev s_folded_over:Stmt:=top 6
noncomputable abbrev s_key_by:Stmt:=top 7
noncomputable abbrev s_plain:Stmt:=top 8
noncomputable abbrev s_plain_with_key:Stmt:=top 9
noncomputable abbrev s_plain_by:Stmt:=top 10
noncomputable abbrev s_least_start:Stmt:=top 11
noncomputable abbrev s_w_mix:Stmt:=top 13
noncomputable abbrev s_w_cell:Stmt:=top 14
noncomputable abbrev s_w_put:Stmt:=top 15
noncomputable abbrev s_w_small:Stmt:=top 16
noncomputable abbrev s_w_parts:Stmt:=top 17
noncomputable abbrev s_w_with:Stmt:=top 18
noncomputable abbrev s_w_stepped:Stmt:=top 19
noncomputable abbrev s_w_reached:Stmt:=top 20
noncomputable abbrev s_w_other:Stmt:=top 21
noncomputable abbrev s_law:Stmt:=top 22
theorem sc_parts_of:FnScope ["writing","kind"] ["writing"] (defScope s_parts_of):=⟨rfl,rfl,rfl,by decide +kernel,rfl,by decide +kernel,by decide +kernel⟩
theorem sc_made_of:FnScope ["kind","parts"] ["kind","parts"] (defScope s_made_of):=⟨rfl,rfl,rfl,by decide +kernel,rfl,by decide +kernel,by decide +kernel⟩
theorem sc_folded:FnScope ["writing","deed"] ["writing","deed"] (defScope s_folded):=⟨rfl,rfl,rfl,by decide +kernel,rfl,by decide +kernel,by decide +kernel⟩
theorem sc_folded_over:FnScope ["whole","parts","deed","order","waiting","one","inner","told","many","first"] ["whole","parts","deed"] (defScope s_folded_over):=⟨rfl,rfl,rfl,by decide +kernel,rfl,by decide +kernel,by decide +kernel⟩
theorem sc_key_by:FnScope ["figure","keys","size"] ["figure","keys"] (defScope s_key_by):=⟨rfl,rfl,rfl,by decide +kernel,rfl,by decide +kernel,by decide +kernel⟩
theorem sc_plain:FnScope ["writing"] ["writing"] (defScope s_plain):=⟨rfl,rfl,rfl,by decide +kernel,rfl,by decide +kernel,by decide +kernel⟩
theorem sc_plain_with_key:FnScope ["writing"] ["writing"] (defScope s_plain_with_key):=⟨rfl,rfl,rfl,by decide +kernel,rfl,by decide +kernel,by decide +kernel⟩
theorem sc_plain_by:FnScope ["writing","told","kind","start","figure"] ["writing","told"] (defScope s_plain_by):=⟨rfl,rfl,rfl,by decide +kernel,rfl,by decide +kernel,by decide +kernel⟩
theorem sc_least_start:FnScope ["keys","start","least","place","turned"] ["keys"] (defScope s_least_start):=⟨rfl,rfl,rfl,by decide +kernel,rfl,by decide +kernel,by decide +kernel⟩
theorem sc_w_mix:FnScope ["_law_script","_law_made","_law_k","_law_cell_here"] ["_law_script"] (defScope s_w_mix):=⟨rfl,rfl,rfl,by decide +kernel,rfl,by decide +kernel,by decide +kernel⟩
theorem sc_w_cell:FnScope ["_law_script","_law_k"] ["_law_script","_law_k"] (defScope s_w_cell):=⟨rfl,rfl,rfl,by decide +kernel,rfl,by decide +kernel,by decide +kernel⟩
theorem sc_w_put:FnScope ["_law_stack","_law_cell_here","_law_kind","_law_turn","_law_many","_law_part","_law_parts_here"] ["_law_stack","_law_cell_here"] (defScope s_w_put):=⟨rfl,rfl,rfl,by decide +kernel,rfl,by decide +kernel,by decide +kernel⟩
theorem sc_w_small:FnScope ["_law_cells","_law_how","_law_stack","_law_cell_here"] ["_law_cells","_law_how"] (defScope s_w_small):=⟨rfl,rfl,rfl,by decide +kernel,rfl,by decide +kernel,by decide +kernel⟩
theorem sc_w_parts:FnScope ["_law_figure"] ["_law_figure"] (defScope s_w_parts):=⟨rfl,rfl,rfl,by decide +kernel,rfl,by decide +kernel,by decide +kernel⟩
theorem sc_w_with:FnScope ["_law_figure","_law_parts_here"] ["_law_figure","_law_parts_here"] (defScope s_w_with):=⟨rfl,rfl,rfl,by decide +kernel,rfl,by decide +kernel,by decide +kernel⟩
theorem sc_w_stepped:FnScope ["_law_figure","_law_parts_here","_law_found","_law_k","_law_part","_law_other_here"] ["_law_figure"] (defScope s_w_stepped):=⟨rfl,rfl,rfl,by decide +kernel,rfl,by decide +kernel,by decide +kernel⟩
theorem sc_w_reached:FnScope ["_law_figure","_law_waiting","_law_seen","_law_other_here"] ["_law_figure"] (defScope s_w_reached):=⟨rfl,rfl,rfl,by decide +kernel,rfl,by decide +kernel,by decide +kernel⟩
theorem sc_w_other:FnScope ["_law_figure","_law_how","_law_turn","_law_parts_here"] ["_law_figure","_law_how","_law_turn"] (defScope s_w_other):=⟨rfl,rfl,rfl,by decide +kernel,rfl,by decide +kernel,by decide +kernel⟩
theorem sc_law:FnScope ["_law_script","_law_cell_here","_law_figure","_law_other_here","_law_due","_law_seen","_law_writing"] ["_law_script"] (defScope s_law):=⟨rfl,rfl,rfl,by decide +kernel,rfl,by decide +kernel,by decide +kernel⟩
/-- what the top has written: each def of the text,its names;what is not the text's own -/
structure TX (K:PySem.W.Frag) (mg:Str->Option Value) (f_parts_of f_made_of f_folded f_folded_over f_key_by f_plain f_plain_with_key f_plain_by f_least_start f_w_mix f_w_cell f_w_put f_w_small f_w_parts f_w_with f_w_stepped f_w_reached f_w_other f_law t_plain_by c_plain_by a_KINDS a_MANY:Addr) (d_parts_of d_made_of d_folded d_folded_over d_key_by d_plain d_plain_with_key d_plain_by d_least_start d_w_mix d_w_cell d_w_put d_w_small d_w_parts d_w_with d_w_stepped d_w_reached d_w_other d_law:FuncData):Prop where
  F_parts_of:Fun K "parts_of" "parts_of" s_parts_of f_parts_of d_parts_of
  B_parts_of:Binds K d_parts_of ["writing"] []
  M_parts_of:mg "parts_of"=some (.ref f_parts_of)
  F_made_of:Fun K "made_of" "made_of" s_made_of f_made_of d_made_of
  B_made_of:Binds K d_made_of ["kind","parts"] []
  M_made_of:mg "made_of"=some (.ref f_made_of)
  F_folded:Fun K "folded" "folded" s_folded f_folded d_folded
  B_folded:Binds K d_folded ["writing","deed"] []
  M_folded:mg "folded"=some (.ref f_folded)
  F_folded_over:Fun K "folded_over" "folded_over" s_folded_over f_folded_over d_folded_over
  B_folded_over:Binds K d_folded_over ["whole","parts","deed"] []
  M_folded_over:mg "folded_over"=some (.ref f_folded_over)
  F_key_by:Fun K "key_by" "key_by" s_key_by f_key_by d_key_by
  B_key_by:Binds K d_key_by ["figure","keys"] []
  M_key_by:mg "key_by"=some (.ref f_key_by)
  F_plain:Fun K "plain" "plain" s_plain f_plain d_plain
  B_plain:Binds K d_plain ["writing"] []
  M_plain:mg "plain"=some (.ref f_plain)
  F_plain_with_key:Fun K "plain_with_key" "plain_with_key" s_plain_with_key f_plain_with_key d_plain_with_key
  B_plain_with_key:Binds K d_plain_with_key ["writing"] []
  M_plain_with_key:mg "plain_with_key"=some (.ref f_plain_with_key)
  F_plain_by:Fun K "plain_by" "plain_by" s_plain_by f_plain_by d_plain_by
  B_plain_by:Binds K d_plain_by ["writing","told"] []
  M_plain_by:mg "plain_by"=some (.ref f_plain_by)
  C_plain_by:d_plain_by.code=.ref c_plain_by
  H_plain_by:PySem.W.codeHdIn K c_plain_by t_plain_by=true
  Z_plain_by:mainGlobals≠t_plain_by
  F_least_start:Fun K "least_start" "least_start" s_least_start f_least_start d_least_start
  B_least_start:Binds K d_least_start ["keys"] []
  M_least_start:mg "least_start"=some (.ref f_least_start)
  F_w_mix:Fun K "_law_mix" "_law_mix" s_w_mix f_w_mix d_w_mix
  B_w_mix:Binds K d_w_mix ["_law_script"] []
  M_w_mix:mg "_law_mix"=some (.ref f_w_mix)
  F_w_cell:Fun K "_law_cell" "_law_cell" s_w_cell f_w_cell d_w_cell
  B_w_cell:Binds K d_w_cell ["_law_script","_law_k"] []
  M_w_cell:mg "_law_cell"=some (.ref f_w_cell)
  F_w_put:Fun K "_law_put" "_law_put" s_w_put f_w_put d_w_put
  B_w_put:Binds K d_w_put ["_law_stack","_law_cell_here"] []
  M_w_put:mg "_law_put"=some (.ref f_w_put)
  F_w_small:Fun K "_law_small" "_law_small" s_w_small f_w_small d_w_small
  B_w_small:Binds K d_w_small ["_law_cells","_law_how"] []
  M_w_small:mg "_law_small"=some (.ref f_w_small)
  F_w_parts:Fun K "_law_parts" "_law_parts" s_w_parts f_w_parts d_w_parts
  B_w_parts:Binds K d_w_parts ["_law_figure"] []
  M_w_parts:mg "_law_parts"=some (.ref f_w_parts)
  F_w_with:Fun K "_law_with" "_law_with" s_w_with f_w_with d_w_with
  B_w_with:Binds K d_w_with ["_law_figure","_law_parts_here"] []
  M_w_with:mg "_law_with"=some (.ref f_w_with)
  F_w_stepped:Fun K "_law_stepped" "_law_stepped" s_w_stepped f_w_stepped d_w_stepped
  B_w_stepped:Binds K d_w_stepped ["_law_figure"] []
  M_w_stepped:mg "_law_stepped"=some (.ref f_w_stepped)
  F_w_reached:Fun K "_law_reached" "_law_reached" s_w_reached f_w_reached d_w_reached
  B_w_reached:Binds K d_w_reached ["_law_figure"] []
  M_w_reached:mg "_law_reached"=some (.ref f_w_reached)
  F_w_other:Fun K "_law_other" "_law_other" s_w_other f_w_other d_w_other
  B_w_other:Binds K d_w_other ["_law_figure","_law_how","_law_turn"] []
  M_w_other:mg "_law_other"=some (.ref f_w_other)
  F_law:Fun K "law" "law" s_law f_law d_law
  B_law:Binds K d_law ["_law_script"] []
  M_law:mg "law"=some (.ref f_law)
  n_all:mg "all"=none
  n_any:mg "any"=none
  n_bool:mg "bool"=none
  n_enumerate:mg "enumerate"=none
  n_int:mg "int"=none
  n_isinstance:mg "isinstance"=none
  n_len:mg "len"=none
  n_list:mg "list"=none
  n_max:mg "max"=none
  n_min:mg "min"=none
  n_range:mg "range"=none
  n_reversed:mg "reversed"=none
  n_sorted:mg "sorted"=none
  n_str:mg "str"=none
  n_sum:mg "sum"=none
  n_tuple:mg "tuple"=none
  n_zip:mg "zip"=none
  c_KINDS:∃ u,mg "KINDS"=some u/\RelV (.ref a_KINDS) u
  q_KINDS:∀ H,SqT K H a_KINDS [.str "nothing",.str "bead",.str "left",.str "right",.str "pair",.str "row",.str "bag",.str "choice",.str "ring"]
  y_KINDS:∀ H,tyV K "tuple" (.ref a_KINDS) H
  c_MANY:∃ u,mg "MANY"=some u/\RelV (.ref a_MANY) u
  q_MANY:∀ H,SqT K H a_MANY [.str "row",.str "bag",.str "choice",.str "ring"]
  y_MANY:∀ H,tyV K "tuple" (.ref a_MANY) H
variable {P:Program} {w:World} {K:PySem.W.Frag} {mg:Str->Option Value} {base:Heap} {f_parts_of f_made_of f_folded f_folded_over f_key_by f_plain f_plain_with_key f_plain_by f_least_start f_w_mix f_w_cell f_w_put f_w_small f_w_parts f_w_with f_w_stepped f_w_reached f_w_other f_law t_plain_by c_plain_by a_KINDS a_MANY:Addr} {d_parts_of d_made_of d_folded d_folded_over d_key_by d_plain d_plain_with_key d_plain_by d_least_start d_w_mix d_w_cell d_w_put d_w_small d_w_parts d_w_with d_w_stepped d_w_reached d_w_other d_law:FuncData} (T:TX K mg f_parts_of f_made_of f_folded f_folded_over f_key_by f_plain f_plain_with_key f_plain_by f_least_start f_w_mix f_w_cell f_w_put f_w_small f_w_parts f_w_with f_w_stepped f_w_reached f_w_other f_law t_plain_by c_plain_by a_KINDS a_MANY d_parts_of d_made_of d_folded d_folded_over d_key_by d_plain d_plain_with_key d_plain_by d_least_start d_w_mix d_w_cell d_w_put d_w_small d_w_parts d_w_with d_w_stepped d_w_reached d_w_other d_law)
noncomputable def asp_parts:ASp:=fun us A Q=>∃ w:Wr,us=[w.toU]/\Q (.tup (w.parts.map Wr.toU)) A
section
include T
theorem ok_parts_of:FnOk P w K mg base CX0 1 f_parts_of d_parts_of ["writing"] (spOf K asp_parts):=by
  refine' Fun.okA T.F_parts_of (sc:=?sc) (body:=?bd) ?hs ?hb sc_parts_of ?hB ?hS
  case hs=>conv=>lhs;whnf
  case hb=>conv=>lhs;whnf
  case hB=>exact fun S cdv A outer s H E hr=>⟨_,(pss_cons (ps_set (i:=1) S.nd rfl (Or.inl rfl) (pe_ix o_ix (pv 0) pe_int (fun _ _=>rfl)))
      (pss_cons (ps_if (pt_cmpR o_in (pv 1) (pe_gv (by rfl) T.c_MANY) (by with_unfolding_all rfl)) (pss_one (ps_ret (pe_ix o_ix (pv 0) pe_int (fun _ _=>rfl)))) pss_nil)
      (pss_cons (ps_if (pt_cmpR (o_eqD hr) (pv 1) pe_str (nomark _)) (pss_one (ps_ret (pe_tup pa_nil))) pss_nil)
      (pss_one (ps_ret (pe_slice o_slW (pv 0) (po_some pe_int) po_none)))))),(ab_seq (ab_asg (ab_op ab_ix ab_var ab_int) ab_name)
      (ab_seq (ab_ifs (ab_test (ab_op ab_in ab_var (ab_c fun H=>.tup (T.q_MANY H) (.cons (.str _) (.cons (.str _) (.cons (.str _) (.cons (.str _) .nil))))))) (ab_ret (ab_op ab_ix ab_var ab_int)) ab_next)
      (ab_seq (ab_ifs (ab_test (ab_op ab_eq ab_var ab_str)) (ab_ret (ab_tup ab_nil)) ab_next)
      (ab_ret (ab_sl ab_xsl ab_var (ab_part ab_int) ab_nopart)))))⟩
  rintro us A Q ⟨w,rfl,q⟩
  refine ⟨rfl,?_⟩
  walk_at "qs"
  rcases w.kinds with ⟨c,rfl⟩ | ⟨k,ps,rfl⟩ | hf
  . rw [Wr.toU]
    walk_at "qd"
    refine ⟨rfl,rfl,iteFf rfl ?_⟩
    walk_at "qd"
    refine iteTt rfl ⟨by decide,fg q⟩
  . rw [Wr.toU_many]
    walk_at "qd"
    exact ⟨rfl,rfl,iteTt (in_manyU k) (fg q)⟩
  . rw [Wr.toU_few hf]
    walk_at "qd"
    refine ⟨rfl,rfl,iteFf (nin_manyU hf.2) ?_⟩
    walk_at "qd"
    exact iteFf (nb_name hf.1) (fg q)
end
noncomputable def asp_deed (val:Wr->U):ASp:=fun us A Q=>∃ (w:Wr) (l:Addr),us=[w.toU,.ref l]/\A l=some (.lst (w.parts.map val))/\w.ok=true/\w.tups<=200/\Q (val w) A
noncomputable def encW (w:Wr):U:=.tup [w.toU,.int (w.parts.length:Nat)]
noncomputable def asp_deedC (val:Wr->U) (C:AHp->Prop) (Dw:Wr->Prop):ASp:=fun us A Q=>∃ (w:Wr) (l:Addr),us=[w.toU,.ref l]/\A l=some (.lst (w.parts.map val))/\w.ok=true/\w.tups<=200/\Dw w/\C A/\Q (val w) A
noncomputable def asp_foC (val:Wr->U) (C:AHp->Prop) (Dw:Wr->Prop) (fp fd:Addr):ASp:=fun us A Q=>∃ w:Wr,us=[w.toU,.ref fp,.ref fd]/\w.ok=true/\w.tups<=200/\(∀ v∈w.post,Dw v)/\C A/\Q (val w) A
noncomputable def asp_foldedC (val:Wr->U) (C:AHp->Prop) (Dw:Wr->Prop) (fd:Addr):ASp:=fun us A Q=>∃ w:Wr,us=[w.toU,.ref fd]/\w.ok=true/\w.tups<=200/\(∀ v∈w.post,Dw v)/\C A/\Q (val w) A
section
include T
theorem ok_folded_overC (k:Nat) {val:Wr->U} {C:AHp->Prop} {Dw:Wr->Prop} (hst:∀ A A',Ext A A'->C A->C A') {fp fd:Addr} {dp dd:FuncData} {pp pd:List Str} (G_parts:FnOk P w K mg base CX0 k fp dp pp (spOf K asp_parts)) (hk_parts:PySem.W.keepIn K (.ref fp)=true) (hb_parts:Binds K dp pp [])
    (G_deed:FnOk P w K mg base CX0 k fd dd pd (spOf K (asp_deedC val C Dw))) (hk_deed:PySem.W.keepIn K (.ref fd)=true) (hb_deed:Binds K dd pd []):FnOk P w K mg base CX0 (k + 1) f_folded_over d_folded_over ["whole","parts","deed"] (spOf K (asp_foC val C Dw fp fd)):=by
  refine' Fun.okA T.F_folded_over (sc:=?sc2) (body:=?bd2) ?hs2 ?hb2 sc_folded_over ?hB2 ?hS2
  case hs2=>conv=>lhs;whnf
  case hb2=>conv=>lhs;whnf
  case hB2=>exact fun S cdv A outer s H E hr=>⟨_,(pss_cons (ps_set (i:=3) S.nd rfl (Or.inl rfl) (pe_lst pa_nil))
      (pss_cons (ps_set (i:=4) S.nd rfl (Or.inl rfl) (pe_lst (pa_cons (pv 0) pa_nil)))
      (pss_cons (ps_while PassesOwn.never (pt_truth (pv 4) (fun _=>rfl)) (pss_cons (ps_set (i:=5) S.nd rfl (Or.inl rfl) (pe_bm0 PySem.F.plainAttrs_list PySem.F.slot_list_pop PySem.F.type_list_pop mt_pop (pv 4)))
      (pss_cons (ps_set (i:=6) S.nd rfl (Or.inl rfl) (pe_callV (G_parts.mono (by first | decide | lia)) hr (pv 1) hk_parts hb_parts .nil pass0 (pa_cons (pv 5) pa_nil)))
      (pss_cons (ps_expr (pe_bm PySem.F.plainAttrs_list PySem.F.slot_list_append PySem.F.type_list_append mt_append (pv 3) (pa_cons (pe_tup (pa_cons (pv 5) (pa_cons (pe_callB c_len (by rfl) T.n_len (by decide +kernel) (pa_cons (pv 6) pa_nil)) pa_nil))) pa_nil)))
      (pss_one (ps_expr (pe_bm PySem.F.plainAttrs_list PySem.F.slot_list_extend PySem.F.type_list_extend mt_extS (pv 4) (pa_cons (pv 6) pa_nil))))))))
      (pss_cons (ps_set (i:=7) S.nd rfl (Or.inl rfl) (pe_lst pa_nil))
      (pss_cons (ps_for PassesOwn.never rfl (pj_rev rfl (by rfl) T.n_reversed (pv 3)) (pg_tup (n:=2) rfl (pgs_cons (pg_name (i:=5) S.nd rfl (Or.inl rfl)) (pgs_cons (pg_name (i:=8) S.nd rfl (Or.inl rfl)) pgs_nil)))
      (pss_cons (ps_set (i:=9) S.nd rfl (Or.inl rfl) (pe_op o_sub (pe_callB c_len (by rfl) T.n_len (by decide +kernel) (pa_cons (pv 7) pa_nil)) (pv 8)))
      (pss_one (ps_asg (pe_lst (pa_cons (pe_callV (G_deed.mono (by first | decide | lia)) hr (pv 2) hk_deed hb_deed .nil pass0 (pa_cons (pv 5) (pa_cons (pe_slice o_slW (pv 7) (po_some (pv 9)) po_none) pa_nil))) pa_nil)) (pg_tail (pv 7) (po_some (pv 9)))))))
      (pss_one (ps_ret (pe_ix o_ix (pv 7) pe_int (fun _ _=>rfl))))))))),(ab_seq (ab_asg (ab_lst ab_nil) ab_name)
      (ab_seq (ab_asg (ab_lst (ab_cons ab_var ab_nil)) ab_name)
      (ab_seq (ab_while (ab_tru ab_var) (ab_seq (ab_asg (ab_bm0 ab_isLst ab_mpop ab_var) ab_name)
      (ab_seq (ab_asg (ab_callV ab_var (ab_cons ab_var ab_nil)) ab_name)
      (ab_seq (ab_drop (ab_bm ab_isLst ab_mapp ab_var (ab_cons (ab_tup (ab_cons ab_var (ab_cons (ab_cb ab_len (ab_cons ab_var ab_nil)) ab_nil))) ab_nil)))
      (ab_drop (ab_bm ab_isLst ab_mextS ab_var (ab_cons ab_var ab_nil)))))))
      (ab_seq (ab_asg (ab_lst ab_nil) ab_name)
      (ab_seq (ab_for (ab_jrev ab_var) (ab_gtup (ab_gcons ab_name (ab_gcons ab_name ab_gnil)))
      (ab_seq (ab_asg (ab_op ab_sub (ab_cb ab_len (ab_cons ab_var ab_nil)) ab_var) ab_name)
      (ab_asg (ab_lst (ab_cons (ab_callV ab_var (ab_cons ab_var (ab_cons (ab_sl ab_xsl ab_var (ab_part ab_var) ab_nopart) ab_nil))) ab_nil)) (ab_tail ab_var (ab_part ab_var)))))
      (ab_ret (ab_op ab_ix ab_var ab_int)))))))⟩
  rintro us A Q ⟨w,rfl,hok,ht,hDw,hC,q⟩
  refine ⟨rfl,?_⟩
  walk_at "qs"
  walk_at "qd"
  refine ⟨by decide,fun o ho=>?_⟩
  walk_at "qd"
  refine ⟨tup1,fun wt hwt=>?_⟩
  walk_at "qd"
  have hne:o≠wt:=fun e=>by rw [e,updA_same] at hwt;cases hwt
  have hw0:A wt=none:=by rw [updA_ne (Ne.symm hne)] at hwt;exact hwt
  refine while_A (fun ρ A2=>∃ (ws1 ws2:List Wr) (x5 x6:Option U),ρ=[some w.toU,some (.ref fp),some (.ref fd),some (.ref o),some (.ref wt),x5,x6,none,none,none]/\Ext A A2/\A2 o=some (.lst (ws1.map encW))/\A2 wt=some (.lst (ws2.map Wr.toU))/\ws1++(postL ws2).reverse=w.post.reverse)
    (fun ρ A2=>match A2 o with | some (.lst us)=>1000 - us.length | _=>0) ⟨[],[w],_,_,rfl,(Ext.new ho).trans (Ext.new hwt),by rw [updA_ne hne,updA_same];rfl,by rw [updA_same];rfl,by simp [postL]⟩ ?_
  . rintro ρ A2 ⟨ws1,ws2,x5,x6,rfl,he,h1,h2,hord⟩
    have hlen:ws1.length + tupsL ws2=w.tups:=by
      have e:=congrArg List.length hord
      rw [List.length_append,List.length_reverse,List.length_reverse,postL_len,w.post_len] at e
      exact e
    walk_at "qd"
    refine ⟨_,h2,iteB (fun hb=>?_) fun hb=>?_⟩
    . refine wh_goA ?_
      obtain ⟨ws0,x,rfl⟩:∃ ws0 x,ws2=ws0++[x]:=by
        rcases List.eq_nil_or_concat ws2 with rfl | ⟨a,b,rfl⟩
        . cases hb
        . exact ⟨a,b,by simp⟩
      rw [tupsL_app] at hlen
      simp only [tupsL] at hlen
      have hx:=x.tups_pos
      have hxp:=x.parts_tups
      have hl0:=len_tups ws0
      have hlp:=len_tups x.parts
      walk_at "qd"
      refine ⟨⟨_,h2⟩,ws0.map Wr.toU,x.toU,by rw [h2,List.map_append];rfl,?_⟩
      walk_at "qd"
      refine ⟨trivial,x,rfl,?_⟩
      walk_at "qd"
      have h1':updA A2 wt (.lst (ws0.map Wr.toU)) o=some (.lst (ws1.map encW)):=by rw [updA_ne hne];exact h1
      refine ⟨⟨_,h1'⟩,tup2,_,h1',line1000' (by rw [List.length_map];lia),?_⟩
      have h2':updA (updA A2 wt (.lst (ws0.map Wr.toU))) o (.lst (ws1.map encW++[.tup [x.toU,.int (x.parts.map Wr.toU).length]])) wt=some (.lst (ws0.map Wr.toU)):=by rw [updA_ne (Ne.symm hne),updA_same]
      refine ⟨⟨_,h2'⟩,_,h2',line1000 (by rw [List.length_map,List.length_map];lia),?_⟩
      refine ⟨⟨ws1++[x],ws0++x.parts,_,_,rfl,?_,?_,?_,?_⟩,?_⟩
      . intro b u hb
        rw [updA_ne (neA hb hw0),updA_ne (neA hb ho),updA_ne (neA hb hw0)];exact he b u hb
      . rw [updA_ne hne,updA_same,List.map_append,List.length_map];rfl
      . rw [updA_same,List.map_append]
      . rw [<- hord,postL_app,postL_app]
        simp [postL,Wr.post_eq x]
      . rw [updA_ne hne,updA_same,h1]
        show 1000 - (ws1.map encW++[_]).length < 1000 - (ws1.map encW).length
        rw [List.length_append,List.length_singleton,List.length_map]
        lia
    . have e2:ws2=[]:=by simpa using hb
      subst e2
      simp only [postL,List.reverse_nil,List.append_nil] at hord
      subst hord
      walk_at "qd"
      refine ⟨by decide,fun td htd=>?_⟩
      walk_at "qd"
      have h1t:updA A2 td (.lst []) o=some (.lst (w.post.reverse.map encW)):=by rw [updA_ne (neA h1 htd)];exact h1
      refine ⟨o,_,rfl,h1t,?_⟩
      have htA:A td=none:=by
        cases e:A td with
        | none=>rfl
        | some v=>rw [he td v e] at htd;cases htd
      have hot:o≠td:=neA h1 htd
      refine for_revA (w.post.reverse.map encW) (fun k ρ A3=>∃ (S:List Wr) (x5 x6 x8 x9:Option U),ρ=[some w.toU,some (.ref fp),some (.ref fd),some (.ref o),some (.ref wt),x5,x6,some (.ref td),x8,x9]/\Ext A A3/\A3 o=some (.lst (w.post.reverse.map encW))/\A3 td=some (.lst (S.map val))/\S.length<=k/\Run S (w.post.drop k) [w])
        ⟨[],_,_,_,_,rfl,he.trans (Ext.new htd),h1t,by rw [updA_same];rfl,Nat.le_refl _,by simpa using w.run_all⟩ (fun k ρ A3 _ ⟨_,_,_,_,_,_,_,h,_⟩=>h) ?_ ?_
      . rintro k u ρ A3 hu ⟨S,y5,y6,y8,y9,rfl,he3,h3,ht3,hSl,run⟩
        rw [<- List.map_reverse,List.reverse_reverse,List.getElem?_map] at hu
        obtain ⟨y,hy,rfl⟩:=Option.map_eq_some_iff.mp hu
        have hmem:=w.post_mem y (List.mem_of_getElem? hy) hok
        obtain ⟨hkl,e⟩:=List.getElem?_eq_some_iff.mp hy
        rw [w.post_len] at hkl
        rw [List.drop_eq_getElem_cons (by rw [w.post_len];exact hkl),e] at run
        obtain ⟨S0,rfl,run⟩:=run
        rw [List.length_append] at hSl
        unfold encW
        walk_at "qd"
        refine ⟨rfl,?_⟩
        walk_at "qd"
        refine ⟨_,ht3,?_⟩
        walk_at "qd"
        refine ⟨trivial,?_⟩
        have efst:(((S0++y.parts).map val).length:Int) - ((y.parts.length:Nat):Int)=((S0.length:Nat):Int):=by rw [List.length_map,List.length_append];lia
        refine ⟨_,ht3,fun l2 hl2=>?_⟩
        rw [efst]
        refine ⟨y,l2,rfl,by rw [updA_same,List.map_append];rw [show ((S0.length:Nat):Int)=(((S0.map val).length:Nat):Int) from by rw [List.length_map],cutU_from],hmem.1,by lia,hDw y (List.mem_of_getElem? hy),hst _ _ (he3.trans (Ext.new hl2)) hC,tup1,fun l3 hl3=>?_⟩
        have n3:A3 l2=none:=hl2
        have n4:A3 l3=none:=by
          cases e:A3 l3 with
          | none=>rfl
          | some v=>rw [updA_ne (neA e n3)] at hl3;rw [e] at hl3;cases hl3
        have d2:td≠l2:=neA ht3 n3
        have d3:td≠l3:=neA ht3 n4
        have ht5:updA (updA A3 l2 (.lst (cutU ((S0++y.parts).map val) (some ((S0.length:Nat):Int)) none))) l3 (.lst [val y]) td=some (.lst ((S0++y.parts).map val)):=by rw [updA_ne d3,updA_ne d2];exact ht3
        refine ⟨td,l3,_,[val y],_,rfl,rfl,rfl,ht5,updA_same,d3,by lia,by rw [List.length_map,List.length_append];lia,line1000 (by rw [List.length_map,List.length_append,List.length_singleton];lia),S0++[y],_,_,_,_,rfl,?_,?_,?_,?_,run⟩
        . intro b u hb
          rw [updA_ne (neA hb htA),updA_ne (neA (he3 b u hb) n4),updA_ne (neA (he3 b u hb) n3)];exact he3 b u hb
        . rw [updA_ne hot,updA_ne (neA h3 n4),updA_ne (neA h3 n3)];exact h3
        . rw [updA_same,Int.toNat_natCast,List.map_append,List.map_append,List.take_left' (by rw [List.length_map])];rfl
        . rw [List.length_append,List.length_singleton];lia
      . rintro ρ A3 ⟨S,y5,y6,y8,y9,rfl,he3,h3,ht3,hSl,run⟩
        rw [List.length_map,List.length_reverse,List.drop_length] at run
        obtain rfl:S=[w]:=run
        walk_at "qd"
        exact ⟨_,_,ht3,atI_nat (j:=0) rfl,fgx he3 q⟩
theorem ok_foldedC (k:Nat) (hk:1<=k) {val:Wr->U} {C:AHp->Prop} {Dw:Wr->Prop} (hst:∀ A A',Ext A A'->C A->C A') {fd:Addr} {dd:FuncData} {pd:List Str} (G_deed:FnOk P w K mg base CX0 k fd dd pd (spOf K (asp_deedC val C Dw))) (hk_deed:PySem.W.keepIn K (.ref fd)=true) (hb_deed:Binds K dd pd []):FnOk P w K mg base CX0 (k + 2) f_folded d_folded ["writing","deed"] (spOf K (asp_foldedC val C Dw fd)):=by
  have G_folded_over:=ok_folded_overC (P:=P) (w:=w) (base:=base) T k hst ((ok_parts_of (P:=P) (w:=w) (base:=base) T).mono hk) T.F_parts_of.kp T.B_parts_of G_deed hk_deed hb_deed
  refine' Fun.okA T.F_folded (sc:=?sc3) (body:=?bd3) ?hs3 ?hb3 sc_folded ?hB3 ?hS3
  case hs3=>conv=>lhs;whnf
  case hb3=>conv=>lhs;whnf
  case hB3=>exact fun S cdv A outer s H E hr=>⟨_,(pss_one (ps_ret (pe_call (G_folded_over.mono (by first | decide | lia)) hr (by rfl) T.M_folded_over T.F_folded_over.kp T.B_folded_over .nil pass0 (pa_cons (pv 0) (pa_cons (pe_glob (v:=.ref f_parts_of) (by rfl) T.M_parts_of rfl) (pa_cons (pv 1) pa_nil)))))),(ab_ret (ab_call (ab_cons ab_var (ab_cons ab_ref (ab_cons ab_var ab_nil)))))⟩
  rintro us A Q ⟨w,rfl,hok,ht,hDw,hC,q⟩
  refine ⟨rfl,?_⟩
  walk_at "qs"
  walk_at "qd"
  exact ⟨w,rfl,hok,ht,hDw,hC,fg q⟩
end
section
include T
theorem ok_key_by:FnOk P w K mg base CX0 1 f_key_by d_key_by ["figure","keys"] (spOf K (asp_deed Wr.keyU)):=by
  refine' Fun.okA T.F_key_by (sc:=?sc4) (body:=?bd4) ?hs4 ?hb4 sc_key_by ?hB4 ?hS4
  case hs4=>conv=>lhs;whnf
  case hb4=>conv=>lhs;whnf
  case hB4=>exact fun S cdv A outer s H E hr=>⟨_,(pss_cons (ps_if (pt_cmpR (o_eqD hr) (pe_ix o_ix (pv 0) pe_int (fun _ _=>rfl)) pe_str (nomark _)) (pss_one (ps_ret (pe_tup (pa_cons pe_int (pa_cons (pe_bm PySem.F.plainAttrs_tuple PySem.F.slot_tuple_index PySem.F.type_tuple_index mt_idxT (pe_gv (by rfl) T.c_KINDS) (pa_cons pe_str pa_nil)) (pa_cons (pe_ix o_ix (pv 0) pe_int (fun _ _=>rfl)) pa_nil)))))) pss_nil)
      (pss_cons (ps_set (i:=2) S.nd rfl (Or.inl rfl) (pe_callB (c_sum rfl) (by rfl) T.n_sum (by decide +kernel) (pa_cons (pe_comp (ts:=["key"]) (frs':=[]) (cl:=[]) rfl ⟨rfl,rfl,(by decide +kernel),(by decide +kernel),(fun _ z=>nomatch z),(noFree_has rfl rfl),(fun _ z=>nomatch z)⟩ (pj_seq (pv 1)) (fun _ _ _ _=>pg_name (i:=0) nd1 rfl (Or.inl rfl) (.inr rfl)) (fun _ _ _ _=>pifs_nil) (fun _ _ _ _=>by exact (pe_ix (k_ix K rfl) (pv 0) pe_int (fun _ _=>rfl)))) pa_nil)))
      (pss_one (ps_ret (pe_op o_addW (pe_tup (pa_cons (pv 2) (pa_cons (pe_bm PySem.F.plainAttrs_tuple PySem.F.slot_tuple_index PySem.F.type_tuple_index mt_idxT (pe_gv (by rfl) T.c_KINDS) (pa_cons (pe_ix o_ix (pv 0) pe_int (fun _ _=>rfl)) pa_nil)) pa_nil))) (pe_callTy c_tuple (by rfl) T.n_tuple (by decide +kernel) (pa_cons (pv 1) pa_nil))))))),(ab_seq (ab_ifs (ab_test (ab_op ab_eq (ab_op ab_ix ab_var ab_int) ab_str)) (ab_ret (ab_tup (ab_cons ab_int (ab_cons (ab_idxC ["nothing","bead","left","right","pair","row","bag","choice","ring"] T.y_KINDS T.q_KINDS (ab_cons ab_str ab_nil)) (ab_cons (ab_op ab_ix ab_var ab_int) ab_nil))))) ab_next)
      (ab_seq (ab_asg (ab_cb ab_sum (ab_cons (ab_comp (ab_jof ab_yseq ab_var) ab_name ab_true (ab_op ab_ix ab_var ab_int)) ab_nil)) ab_name)
      (ab_ret (ab_op ab_add (ab_tup (ab_cons ab_var (ab_cons (ab_idxC ["nothing","bead","left","right","pair","row","bag","choice","ring"] T.y_KINDS T.q_KINDS (ab_cons (ab_op ab_ix ab_var ab_int) ab_nil)) ab_nil))) (ab_cb ab_tupof (ab_cons ab_var ab_nil))))))⟩
  rintro us A Q ⟨w,l,rfl,hl,hok,ht,q⟩
  refine ⟨rfl,?_⟩
  walk_at "qs"
  have hpt:=w.parts_tups
  have hpl:=len_tups w.parts
  rcases bead_or w with ⟨c,rfl⟩ | hb
  . rw [Wr.toU]
    walk_at "qd"
    refine iteTt rfl ?_
    walk_at "qd"
    refine ⟨_,1,rfl,(Wr.bead c).kidx_at.1,(Wr.bead c).kidx_at.2,?_⟩
    walk_at "qd"
    exact ⟨tup3,fg q⟩
  . obtain ⟨rest,e⟩:∃ rest,w.toU=.tup (.str w.name::rest):=by
      rcases w.kinds with ⟨c,rfl⟩ | ⟨k,ps,rfl⟩ | hf
      . exact absurd rfl (hb c)
      . exact ⟨_,Wr.toU_many k ps⟩
      . exact ⟨_,Wr.toU_few hf⟩
    rw [e]
    walk_at "qd"
    refine iteFf (nb_name hb) ?_
    walk_at "qd"
    refine ⟨⟨_,hl⟩,fun p hp=>?_⟩
    walk_at "qc"
    refine cl_mapW w.parts Wr.keyU (fun w=>.int (w.size:Nat)) hp (by lia) (fun k A2 _ he=>⟨_,he _ _ hl,rfl⟩) (fun x A2 hx he Cy hc=>?_) ?_
    . obtain ⟨r,e2⟩:=x.keyU_head
      rw [e2]
      walk_at "qd"
      exact hc
    . walk_at "qd"
      refine ⟨w.parts.map fun w=>((w.size:Nat):Int),by rw [updA_same,List.map_map];rfl,?_⟩
      walk_at "qd"
      refine ⟨w.name,w.kidx,rfl,w.kidx_at.1,w.kidx_at.2,tup2,_,Ext.new hp _ _ hl,?_⟩
      walk_at "qd"
      refine ⟨line1000 (by simp only [List.length_cons,List.length_nil,List.length_map];lia),fgx (Ext.new hp) ?_⟩
      rw [sum_sizes,<- w.size_parts hb]
      rw [w.keyU_parts hb] at q
      exact q
end
theorem okL_iff {ws:List Wr}:okL ws=true ↔ ∀ w∈ws,w.ok=true:=by
  induction ws with
  | nil=>simp [okL]
  | cons w ws ih=>simp [okL,ih]
theorem depL_iff {ws:List Wr} {n:Nat}:depL ws<=n ↔ ∀ w∈ws,w.dep<=n:=by
  induction ws with
  | nil=>simp [depL]
  | cons w ws ih=>simp only [depL,List.forall_mem_cons,<- ih];lia
theorem canAll_of:∀ {xs:List PyData},(∀ x∈xs,x.canLay0=true)->PyData.canLayAll0 xs=true
  | [],_=>rfl
  | x::xs,h=>by simp only [PyData.canLayAll0,Bool.and_eq_true];exact ⟨h x (.head _),canAll_of fun a ha=>h a (.tail _ ha)⟩
theorem kd_ok {vs:List Wr} (h:okL vs=true) (hd:depL vs<=95):(kdL Wr.keyD vs).canLay0=true/\(kdL Wr.keyD vs).depth<=190:=by
  unfold kdL
  constructor
  . simp only [PyData.canLay0]
    exact canAll_of fun x hx=>by obtain ⟨w,hw,rfl⟩:=List.mem_map.mp hx;exact w.canK (okL_iff.mp h w hw)
  . simp only [PyData.depth]
    have:=deepKL vs
    rw [keyDL_map] at this
    lia
theorem kd_lt (vs ws:List Wr):okLt (kdL Wr.keyD vs) (kdL Wr.keyD ws)=true:=by
  unfold kdL
  simp only [okLt]
  have:=okKL vs ws
  rw [keyDL_map,keyDL_map] at this
  exact this
theorem kd_du {A:AHp} {p:Addr} {vs:List Wr} (h:A p=some (.lst (vs.map Wr.keyU))):DU A (.ref p) (kdL Wr.keyD vs):=by
  have e:∀ vs:List Wr,DUs A (vs.map Wr.keyU) (vs.map Wr.keyD):=by
    intro vs
    induction vs with
    | nil=>exact .nil
    | cons v vs ih=>exact .cons v.duK ih
  exact .lst h (e vs)
theorem ok_turn {ws:List Wr} (i:Nat) (h:okL ws=true):okL (turnL ws i)=true:=okL_iff.mpr fun w hw=>okL_iff.mp h w ((turnL_perm ws i).mem_iff.mp hw)
theorem dep_turn {ws:List Wr} {n:Nat} (i:Nat) (h:depL ws<=n):depL (turnL ws i)<=n:=depL_iff.mpr fun w hw=>depL_iff.mp h w ((turnL_perm ws i).mem_iff.mp hw)
theorem cutFrom {xs:List U} {k:Nat} (h:k<=xs.length):cutU xs (some (k:Int)) none=xs.drop k:=by
  unfold cutU
  rw [HT.sIx_nat,HT.sIx_none,Nat.min_eq_left h,List.take_of_length_le (by rw [List.length_drop];lia)]
theorem cutTo {xs:List U} {k:Nat} (h:k<=xs.length):cutU xs none (some (k:Int))=xs.take k:=by
  unfold cutU
  rw [HT.sIx_nat,HT.sIx_none,Nat.min_eq_left h,List.drop_zero,Nat.sub_zero]
noncomputable def asp_least:ASp:=fun us A Q=>∃ (l:Addr) (ws:List Wr),us=[.ref l]/\A l=some (.lst (ws.map Wr.keyU))/\okL ws=true/\ws.length<=1000/\depL ws<=95/\Q (.int (bestT Wr.keyD ws:Nat)) A
noncomputable def asp_made:ASp:=fun us A Q=>∃ (l:Addr) (w:Wr),us=[.str w.name,.ref l]/\A l=some (.lst (w.parts.map Wr.toU))/\w.ok=true/\(∀ c,w≠.bead c)/\w.parts.length<=1000/\Q w.toU A
section
include T
theorem ok_least:FnOk P w K mg base CX0 1 f_least_start d_least_start ["keys"] (spOf K asp_least):=by
  refine' Fun.okA T.F_least_start (sc:=?sc5) (body:=?bd5) ?hs5 ?hb5 sc_least_start ?hB5 ?hS5
  case hs5=>conv=>lhs;whnf
  case hb5=>conv=>lhs;whnf
  case hB5=>exact fun S cdv A outer s H E hr=>⟨_,(pss_cons (ps_set (i:=1) S.nd rfl (Or.inl rfl) pe_int)
      (pss_cons (ps_set (i:=2) S.nd rfl (Or.inl rfl) (pv 0))
      (pss_cons (ps_for PassesOwn.never rfl (pj_range2 rfl T.n_range (pa_cons pe_int (pa_cons (pe_callB c_len (by rfl) T.n_len (by decide +kernel) (pa_cons (pv 0) pa_nil)) pa_nil))) (pg_name (i:=3) S.nd rfl (Or.inl rfl))
      (pss_cons (ps_set (i:=4) S.nd rfl (Or.inl rfl) (pe_op o_addW (pe_slice o_slW (pv 0) (po_some (pv 3)) po_none) (pe_slice o_slW (pv 0) po_none (po_some (pv 3)))))
      (pss_one (ps_if (pt_cmpR (o_ltD hr) (pv 4) (pv 2) (nomark _)) (pss_cons (ps_set (i:=1) S.nd rfl (Or.inl rfl) (pv 3))
      (pss_one (ps_set (i:=2) S.nd rfl (Or.inl rfl) (pv 4)))) pss_nil))))
      (pss_one (ps_ret (pv 1)))))),(ab_seq (ab_asg ab_int ab_name)
      (ab_seq (ab_asg ab_var ab_name)
      (ab_seq (ab_for (ab_jrng2 (ab_cons ab_int (ab_cons (ab_cb ab_len (ab_cons ab_var ab_nil)) ab_nil))) ab_name
      (ab_seq (ab_asg (ab_op ab_add (ab_sl ab_xsl ab_var (ab_part ab_var) ab_nopart) (ab_sl ab_xsl ab_var ab_nopart (ab_part ab_var))) ab_name)
      (ab_ifs (ab_test (ab_op ab_ltD ab_var ab_var)) (ab_seq (ab_asg ab_var ab_name)
      (ab_asg ab_var ab_name)) ab_next)))
      (ab_ret ab_var))))⟩
  rintro us A Q ⟨l,ws,rfl,hl,hok,hn,hd,q⟩
  refine ⟨rfl,?_⟩
  walk_at "qs"
  walk_at "qd"
  refine ⟨_,hl,⟨by decide,by decide,by rw [List.length_map];lia,by rw [List.length_map];lia⟩,?_⟩
  rw [List.length_map]
  have en:((ws.length:Int) - 1).toNat=ws.length - 1:=by lia
  rw [en]
  refine for_rng (fun k ρ A2=>∃ (x3 x4:Option U) (p:Addr),ρ=[some (.ref l),some (.int (argBest (fun i j=>ltv (kdL Wr.keyD (turnL ws i)) (kdL Wr.keyD (turnL ws j))) k:Nat)),some (.ref p),x3,x4]/\Ext A A2 /\
    A2 p=some (.lst ((turnL ws (argBest (fun i j=>ltv (kdL Wr.keyD (turnL ws i)) (kdL Wr.keyD (turnL ws j))) k)).map Wr.keyU))) ⟨_,_,l,rfl,Ext.refl A,by rw [hl];show _=some (AO.lst ((ws.drop 0++ws.take 0).map Wr.keyU));simp⟩ ?_ ?_
  . rintro k ρ A2 hk ⟨x3,x4,p,rfl,hE,hp⟩
    have hb:=best_lt (lt:=fun i j=>ltv (kdL Wr.keyD (turnL ws i)) (kdL Wr.keyD (turnL ws j))) k
    have ek:(1:Int) + (k:Int)=((k + 1:Nat):Int):=by lia
    rw [ek]
    walk_at "qd"
    have hl2:=hE _ _ hl
    refine ⟨_,hl2,fun p1 hp1=>⟨_,by rw [updA_ne (neA hl2 hp1)];exact hl2,fun p2 hp2=>?_⟩⟩
    rw [cutFrom (by rw [List.length_map];lia)] at hp2 ⊢
    rw [cutTo (by rw [List.length_map];lia)]
    have n12:p1≠p2:=neA updA_same hp2
    have hp2A:A2 p2=none:=by rw [updA_ne (Ne.symm n12)] at hp2;exact hp2
    refine ⟨_,_,by rw [updA_ne n12,updA_same],updA_same,line1000 (by simp;lia),fun p3 hp3=>?_⟩
    have n13:p1≠p3:=fun e=>by rw [<- e,updA_ne n12,updA_same] at hp3;cases hp3
    have n23:p2≠p3:=neA updA_same hp3
    have hp3A:A2 p3=none:=by rw [updA_ne (Ne.symm n23),updA_ne (Ne.symm n13)] at hp3;exact hp3
    have et:(ws.map Wr.keyU).drop (k + 1)++(ws.map Wr.keyU).take (k + 1)=(turnL ws (k + 1)).map Wr.keyU:=by unfold turnL;rw [List.map_append,List.map_drop,List.map_take]
    rw [et]
    have e1:Ext A2 (updA (updA (updA A2 p1 (.lst ((ws.map Wr.keyU).drop (k + 1)))) p2 (.lst ((ws.map Wr.keyU).take (k + 1)))) p3 (.lst ((turnL ws (k + 1)).map Wr.keyU))):=(Ext.new hp1).trans ((Ext.new hp2).trans (Ext.new hp3))
    have a3:(updA (updA (updA A2 p1 (.lst ((ws.map Wr.keyU).drop (k + 1)))) p2 (.lst ((ws.map Wr.keyU).take (k + 1)))) p3 (.lst ((turnL ws (k + 1)).map Wr.keyU))) p3=some (.lst ((turnL ws (k + 1)).map Wr.keyU)):=updA_same
    generalize (updA (updA (updA A2 p1 (.lst ((ws.map Wr.keyU).drop (k + 1)))) p2 (.lst ((ws.map Wr.keyU).take (k + 1)))) p3 (.lst ((turnL ws (k + 1)).map Wr.keyU)))=A3 at e1 a3 ⊢
    have o1:=kd_ok (ok_turn (k + 1) hok) (dep_turn (k + 1) hd)
    have o2:=kd_ok (ok_turn (argBest (fun i j=>ltv (kdL Wr.keyD (turnL ws i)) (kdL Wr.keyD (turnL ws j))) k) hok) (dep_turn (argBest (fun i j=>ltv (kdL Wr.keyD (turnL ws i)) (kdL Wr.keyD (turnL ws j))) k) hd)
    refine ⟨kdL Wr.keyD (turnL ws (k + 1)),kdL Wr.keyD (turnL ws (argBest (fun i j=>ltv (kdL Wr.keyD (turnL ws i)) (kdL Wr.keyD (turnL ws j))) k)),kd_du a3,kd_du (e1 _ _ hp),o1.1,o2.1,kd_lt _ _,o1.2,o2.2,?_⟩
    by_cases c:ltv (kdL Wr.keyD (turnL ws (k + 1))) (kdL Wr.keyD (turnL ws (argBest (fun i j=>ltv (kdL Wr.keyD (turnL ws i)) (kdL Wr.keyD (turnL ws j))) k)))=true
    . have eb:argBest (fun i j=>ltv (kdL Wr.keyD (turnL ws i)) (kdL Wr.keyD (turnL ws j))) (k + 1)=k + 1:=if_pos c
      rw [if_pos c]
      exact ⟨_,_,p3,by rw [eb],hE.trans e1,by rw [eb];exact a3⟩
    . have eb:argBest (fun i j=>ltv (kdL Wr.keyD (turnL ws i)) (kdL Wr.keyD (turnL ws j))) (k + 1)=argBest (fun i j=>ltv (kdL Wr.keyD (turnL ws i)) (kdL Wr.keyD (turnL ws j))) k:=if_neg c
      rw [if_neg c]
      exact ⟨_,_,p,by rw [eb],hE.trans e1,by rw [eb];exact e1 _ _ hp⟩
  . rintro ρ A2 ⟨x3,x4,p,rfl,hE,hp⟩
    walk_at "qd"
    exact fgx hE q
theorem ok_made:FnOk P w K mg base CX0 1 f_made_of d_made_of ["kind","parts"] (spOf K asp_made):=by
  refine' Fun.okA T.F_made_of (sc:=?sc6) (body:=?bd6) ?hs6 ?hb6 sc_made_of ?hB6 ?hS6
  case hs6=>conv=>lhs;whnf
  case hb6=>conv=>lhs;whnf
  case hB6=>exact fun S cdv A outer s H E hr=>⟨_,(pss_cons (ps_if (pt_cmpR o_in (pv 0) (pe_gv (by rfl) T.c_MANY) (by with_unfolding_all rfl)) (pss_one (ps_ret (pe_tup (pa_cons (pv 0) (pa_cons (pe_callTy c_tuple (by rfl) T.n_tuple (by decide +kernel) (pa_cons (pv 1) pa_nil)) pa_nil))))) pss_nil)
      (pss_one (ps_ret (pe_op o_addW (pe_tup (pa_cons (pv 0) pa_nil)) (pe_callTy c_tuple (by rfl) T.n_tuple (by decide +kernel) (pa_cons (pv 1) pa_nil)))))),(ab_seq (ab_ifs (ab_test (ab_op ab_in ab_var (ab_c fun H=>.tup (T.q_MANY H) (.cons (.str _) (.cons (.str _) (.cons (.str _) (.cons (.str _) .nil))))))) (ab_ret (ab_tup (ab_cons ab_var (ab_cons (ab_cb ab_tupof (ab_cons ab_var ab_nil)) ab_nil)))) ab_next)
      (ab_ret (ab_op ab_add (ab_tup (ab_cons ab_var ab_nil)) (ab_cb ab_tupof (ab_cons ab_var ab_nil)))))⟩
  rintro us A Q ⟨l,w,rfl,hl,hok,hb,hn,q⟩
  refine ⟨rfl,?_⟩
  walk_at "qs"
  walk_at "qd"
  rcases w.kinds with ⟨c,rfl⟩ | ⟨k,ps,rfl⟩ | hf
  . exact absurd rfl (hb c)
  . refine ⟨rfl,rfl,iteTt (in_manyU k) ⟨_,hl,tup2,fg ?_⟩⟩
    rw [Wr.toU_many] at q;exact q
  . refine ⟨rfl,rfl,iteFf (nin_manyU hf.2) ⟨tup1,_,hl,line1000 (by rw [List.length_map];simp only [List.length_cons,List.length_nil];lia),fg ?_⟩⟩
    rw [Wr.toU_few hf] at q;exact q
end
noncomputable def lpos_p:Pos:=⟨44,32,44,50⟩
noncomputable def gP (w:Wr):U:=.tup [w.pl.toU,w.pl.keyU]
noncomputable def gQ (w:Wr):U:=.tup [w.toU,w.keyU]
theorem few_name {w:Wr} (h:w.few):inU (.str w.name) [.str "bag",.str "choice"]=false/\decide (w.name=Str.ofString "ring")=false:=by
  cases w with
  | nothing=>exact ⟨by decide +kernel,by decide +kernel⟩
  | bead c=>exact absurd rfl (h.1 c)
  | side b f =>
    cases b
    . exact ⟨(by show inU (.str "left") [.str "bag",.str "choice"]=false;decide +kernel),(by show decide (("left":Str)=Str.ofString "ring")=false;decide +kernel)⟩
    . exact ⟨(by show inU (.str "right") [.str "bag",.str "choice"]=false;decide +kernel),(by show decide (("right":Str)=Str.ofString "ring")=false;decide +kernel)⟩
  | pair f g=>exact ⟨(by show inU (.str "pair") [.str "bag",.str "choice"]=false;decide +kernel),(by show decide (("pair":Str)=Str.ofString "ring")=false;decide +kernel)⟩
  | many k ps=>exact absurd rfl (h.2 k ps)
noncomputable def asp_pby (t:Addr):ASp:=fun us A Q=>∃ (w:Wr) (l:Addr),us=[w.toU,.ref l]/\A l=some (.lst (w.parts.map gP))/\w.ok=true/\w.nrm=true/\w.tups<=200/\w.dep<=95/\w.parts.length < 64/\A t=some (tblO lpos_p "plain_by.<locals>.<lambda>")/\Q (gP w) A
section
include T
theorem ok_plain_by (hBA_plain_by:base.BuiltinsAt mg t_plain_by):FnOk P w K mg base CX0 6 f_plain_by d_plain_by ["writing","told"] (spOf K (asp_pby t_plain_by)):=by
  have G_key_by:=ok_key_by (P:=P) (w:=w) (base:=base) T
  have G_least_start:=ok_least (P:=P) (w:=w) (base:=base) T
  have G_made_of:=ok_made (P:=P) (w:=w) (base:=base) T
  refine' Fun.okL T.F_plain_by T.C_plain_by (sc:=?sc7) (body:=?bd7) ?hs7 ?hb7 sc_plain_by ?hB7 ?hS7
  case hs7=>conv=>lhs;whnf
  case hb7=>conv=>lhs;whnf
  case hB7=>exact fun S A outer s H E hr=>⟨_,(pss_cons (ps_set (i:=2) S.nd rfl (Or.inl rfl) (pe_ix o_ix (pv 0) pe_int (fun _ _=>rfl)))
      (pss_cons (ps_if (pt_cmpR (o_eqD hr) (pv 2) pe_str (nomark _)) (pss_one (ps_ret (pe_tup (pa_cons (pv 0) (pa_cons (pe_call (G_key_by.mono (by first | decide | lia)) hr (by rfl) T.M_key_by T.F_key_by.kp T.B_key_by .nil pass0 (pa_cons (pv 0) (pa_cons (pe_lst pa_nil) pa_nil))) pa_nil))))) pss_nil)
      (pss_cons (ps_if (pt_cmpR o_in (pv 2) (pe_tup (pa_cons pe_str (pa_cons pe_str pa_nil))) (by with_unfolding_all rfl)) (pss_one (ps_set (i:=1) S.nd rfl (Or.inl rfl) (pe_sortL (N:=["row"]) (y:="row") (qual:="plain_by.<locals>.<lambda>") hr (by rfl) T.n_sorted (pv 1) rfl T.H_plain_by (by rfl) hBA_plain_by T.Z_plain_by (by show (Str.ofString "plain_by"++".<locals>."++"<lambda>":Str)=_;decide +kernel) ⟨rfl,rfl,rfl,by decide +kernel,rfl,by decide +kernel,by decide +kernel⟩ rfl rfl (fun _ _ _ _=>rfl) (fun fl c s H hr=>⟨_,(pe_ix (k_ix K rfl) (pv 0) pe_int (fun _ _=>rfl)),(ab_op ab_ix ab_var ab_int)⟩)))) pss_nil)
      (pss_cons (ps_if (pt_cmpR (o_eqD hr) (pv 2) pe_str (nomark _)) (pss_cons (ps_set (i:=3) S.nd rfl (Or.inl rfl) (pe_call (G_least_start.mono (by first | decide | lia)) hr (by rfl) T.M_least_start T.F_least_start.kp T.B_least_start .nil pass0 (pa_cons (pe_comp (ts:=["part","key"]) (frs':=[]) (cl:=[]) rfl ⟨rfl,rfl,(by decide +kernel),(by decide +kernel),(fun _ z=>nomatch z),(noFree_has rfl rfl),(fun _ z=>nomatch z)⟩ (pj_seq (pv 1)) (fun _ _ _ _=>pg_tupK K rfl 2 rfl (pgs_cons (pg_name (i:=0) (show List.Nodup (["part","key"]:List Str) from by decide +kernel) rfl (Or.inl rfl) (.inr rfl)) (pgs_cons (pg_name (i:=1) (show List.Nodup (["part","key"]:List Str) from by decide +kernel) rfl (Or.inl rfl) (.inr rfl)) pgs_nil)) (by rfl) (by rfl)) (fun _ _ _ _=>pifs_nil) (fun _ _ _ _=>by exact (pv 1))) pa_nil)))
      (pss_one (ps_set (i:=1) S.nd rfl (Or.inl rfl) (pe_op o_addW (pe_slice o_slW (pv 1) (po_some (pv 3)) po_none) (pe_slice o_slW (pv 1) po_none (po_some (pv 3))))))) pss_nil)
      (pss_cons (ps_set (i:=4) S.nd rfl (Or.inl rfl) (pe_call (G_made_of.mono (by first | decide | lia)) hr (by rfl) T.M_made_of T.F_made_of.kp T.B_made_of .nil pass0 (pa_cons (pv 2) (pa_cons (pe_comp (ts:=["part","key"]) (frs':=[]) (cl:=[]) rfl ⟨rfl,rfl,(by decide +kernel),(by decide +kernel),(fun _ z=>nomatch z),(noFree_has rfl rfl),(fun _ z=>nomatch z)⟩ (pj_seq (pv 1)) (fun _ _ _ _=>pg_tupK K rfl 2 rfl (pgs_cons (pg_name (i:=0) (show List.Nodup (["part","key"]:List Str) from by decide +kernel) rfl (Or.inl rfl) (.inr rfl)) (pgs_cons (pg_name (i:=1) (show List.Nodup (["part","key"]:List Str) from by decide +kernel) rfl (Or.inl rfl) (.inr rfl)) pgs_nil)) (by rfl) (by rfl)) (fun _ _ _ _=>pifs_nil) (fun _ _ _ _=>by exact (pv 0))) pa_nil))))
      (pss_one (ps_ret (pe_tup (pa_cons (pv 4) (pa_cons (pe_call (G_key_by.mono (by first | decide | lia)) hr (by rfl) T.M_key_by T.F_key_by.kp T.B_key_by .nil pass0 (pa_cons (pv 4) (pa_cons (pe_comp (ts:=["part","key"]) (frs':=[]) (cl:=[]) rfl ⟨rfl,rfl,(by decide +kernel),(by decide +kernel),(fun _ z=>nomatch z),(noFree_has rfl rfl),(fun _ z=>nomatch z)⟩ (pj_seq (pv 1)) (fun _ _ _ _=>pg_tupK K rfl 2 rfl (pgs_cons (pg_name (i:=0) (show List.Nodup (["part","key"]:List Str) from by decide +kernel) rfl (Or.inl rfl) (.inr rfl)) (pgs_cons (pg_name (i:=1) (show List.Nodup (["part","key"]:List Str) from by decide +kernel) rfl (Or.inl rfl) (.inr rfl)) pgs_nil)) (by rfl) (by rfl)) (fun _ _ _ _=>pifs_nil) (fun _ _ _ _=>by exact (pv 1))) pa_nil))) pa_nil)))))))))),(ab_seq (ab_asg (ab_op ab_ix ab_var ab_int) ab_name)
      (ab_seq (ab_ifs (ab_test (ab_op ab_eq ab_var ab_str)) (ab_ret (ab_tup (ab_cons ab_var (ab_cons (ab_call (ab_cons ab_var (ab_cons (ab_lst ab_nil) ab_nil))) ab_nil)))) ab_next)
      (ab_seq (ab_ifs (ab_test (ab_op ab_in ab_var (ab_tup (ab_cons ab_str (ab_cons ab_str ab_nil))))) (ab_asg (ab_sortL ab_var) ab_name) ab_next)
      (ab_seq (ab_ifs (ab_test (ab_op ab_eq ab_var ab_str)) (ab_seq (ab_asg (ab_call (ab_cons (ab_comp (ab_jof ab_yseq ab_var) (ab_gtup (ab_gcons ab_name (ab_gcons ab_name ab_gnil))) ab_true ab_var) ab_nil)) ab_name)
      (ab_asg (ab_op ab_add (ab_sl ab_xsl ab_var (ab_part ab_var) ab_nopart) (ab_sl ab_xsl ab_var ab_nopart (ab_part ab_var))) ab_name)) ab_next)
      (ab_seq (ab_asg (ab_call (ab_cons ab_var (ab_cons (ab_comp (ab_jof ab_yseq ab_var) (ab_gtup (ab_gcons ab_name (ab_gcons ab_name ab_gnil))) ab_true ab_var) ab_nil))) ab_name)
      (ab_ret (ab_tup (ab_cons ab_var (ab_cons (ab_call (ab_cons ab_var (ab_cons (ab_comp (ab_jof ab_yseq ab_var) (ab_gtup (ab_gcons ab_name (ab_gcons ab_name ab_gnil))) ab_true ab_var) ab_nil))) ab_nil)))))))))⟩
  rintro us A Q ⟨w,l,rfl,hl,hok,hnr,ht,hd,hn,hT,q⟩
  refine ⟨rfl,?_⟩
  walk_at "qs"
  rcases w.kinds with ⟨c,rfl⟩ | ⟨k,ps,rfl⟩ | hf
  . rw [Wr.toU]
    walk_at "qd"
    refine iteTt rfl ⟨by decide,fun p hp=>⟨.bead c,p,by rw [Wr.toU],updA_same,hok,ht,?_⟩⟩
    walk_at "qd"
    refine ⟨tup2,fgx (Ext.new hp) ?_⟩
    unfold gP at q
    simp only [Wr.pl,Wr.toU] at q
    exact q
  . rw [Wr.toU_many]
    walk_at "qd"
    simp only [Wr.nrm,Bool.and_eq_true,decide_eq_true_eq] at hnr
    have hl:A l=some (.lst (ps.map gP)):=hl
    have hn:ps.length < 64:=hn
    have hk3:=hnr.1
    have eg:ps.map gP=(plnL ps).map gQ:=by rw [plnL_map,List.map_map];rfl
    have ed:((plnL ps).map gQ).map (fun u=>u.snd.dat)=(plnL ps).map Wr.keyD:=by
      rw [List.map_map]
      exact List.map_congr_left fun w _=>w.dat_key
    have hnl:(plnL ps).length=ps.length:=by rw [plnL_map,List.length_map]
    refine iteFf (nbm k) ⟨by decide,rfl,rfl,?_⟩
    by_cases c:k=1\/k=2
    . have nr : decide (mname k=Str.ofString "ring")=false:=by rcases c with rfl | rfl <;> decide +kernel
      refine iteTt (by rcases c with rfl | rfl <;> decide +kernel) ?_
      rw [eg] at hl
      refine ⟨l,(plnL ps).map gQ,U.snd,fun u=>u.snd.dat,rfl,hT,hl,by rw [List.length_map,hnl];exact hn,?_,?_,?_,?_,fun D hD=>?_⟩
      . rw [ed,List.map_map]
        have:∀ vs:List Wr,DUs A (vs.map (U.snd ∘ gQ)) (vs.map Wr.keyD):=by
          intro vs
          induction vs with
          | nil=>exact .nil
          | cons v vs ih=>exact .cons v.duK ih
        exact this _
      . rw [ed]
        have hokL:okL (plnL ps)=true:=by rw [plnL_ok];exact hok
        have hdL:depL (plnL ps)<=95:=by rw [plnL_dep];simp only [Wr.dep] at hd;lia
        refine ⟨fun d hd'=>?_,fun d hd' e he=>?_⟩
        . obtain ⟨w,hw,rfl⟩:=List.mem_map.mp hd'
          have:=depL_iff.mp hdL w hw
          have h2:=w.deepK
          exact ⟨w.canK (okL_iff.mp hokL w hw),by lia⟩
        . obtain ⟨w,hw,rfl⟩:=List.mem_map.mp hd'
          obtain ⟨v,hv,rfl⟩:=List.mem_map.mp he
          exact w.okK v
      . intro u hu
        obtain ⟨w,hw,rfl⟩:=List.mem_map.mp hu
        show intFst (w.keyU.dat)=true
        rw [w.dat_key]
        obtain ⟨r,e⟩:=w.keyD_head
        rw [e];rfl
      . intro u hu
        obtain ⟨w,hw,rfl⟩:=List.mem_map.mp hu
        walk_at "qs"
        unfold gQ
        walk_at "qg"
        first | exact ⟨rfl,Ext.refl A⟩ | exact ⟨_,rfl,rfl,Ext.refl A⟩
      . refine iteFf nr ?_
        rw [ed,(srt_of (d:=Wr.nothing) true gQ).2 (fun x _=>x.plainK) fun x _ y _=>x.okK y]
        obtain ⟨x,rfl⟩:∃ x,x=D:=⟨D,rfl⟩
        have ea:srtK Wr.keyD Wr.nothing true (plnL ps)=arr k (plnL ps):=by unfold arr;rw [if_pos c]
        rw [ea]
        obtain ⟨vs,hvs⟩:∃ vs,vs=arr k (plnL ps):=⟨_,rfl⟩
        rw [<- hvs]
        obtain ⟨W,hWd⟩:∃ W,W=Wr.many k vs:=⟨_,rfl⟩
        have hWp:W=(Wr.many k ps).pl:=by rw [hWd,hvs,Wr.pl]
        have hE:Ext A (updA A x (.lst (vs.map gQ))):=Ext.new hD
        have hx:updA A x (.lst (vs.map gQ)) x=some (.lst (vs.map gQ)):=updA_same
        generalize updA A x (.lst (vs.map gQ))=A1 at hE hx ⊢
        have hname:mname k=W.name:=by rw [hWd];rfl
        have hW:W.parts=vs:=by rw [hWd];rfl
        have hWok:W.ok=true:=by rw [hWp,Wr.pl_ok];exact hok
        have hWb:∀ c,W≠.bead c:=by rw [hWd];exact fun c z=>nomatch z
        have hWt:W.tups<=200:=by rw [hWp,Wr.pl_tups];exact ht
        have hvl:vs.length < 64:=by rw [hvs,(arr_perm k _).length_eq,hnl];exact hn
        have q:Q (.tup [W.toU,W.keyU]) A:=by rw [hWp];exact q
        walk_at "qd"
        refine ⟨⟨_,hx⟩,fun l1 h1=>?_⟩
        walk_at "qc"
        refine cl_map2 (vs.map gQ) (vs.map Wr.toU) (by rw [List.length_map,List.length_map]) h1 (by rw [List.length_map];lia) (fun k A2 _ he=>⟨_,he _ _ hx,rfl⟩) (fun k u y A2 hu hy he=>?_) ?_
        . obtain ⟨v,hv,rfl⟩:=map_get hu
          rw [List.getElem?_map,hv] at hy
          cases hy
          refine ⟨_,_,rfl,fun Cy hc=>?_⟩
          walk_at "qd"
          exact hc
        . walk_at "qd"
          refine ⟨l1,W,by rw [hname],by rw [updA_same,hW],hWok,hWb,by rw [hW];lia,?_⟩
          walk_at "qd"
          have hx1:updA A1 l1 (.lst (vs.map Wr.toU)) x=some (.lst (vs.map gQ)):=by rw [updA_ne (neA hx h1)];exact hx
          refine ⟨⟨_,hx1⟩,fun l2 h2=>?_⟩
          walk_at "qc"
          refine cl_map2 (vs.map gQ) (vs.map Wr.keyU) (by rw [List.length_map,List.length_map]) h2 (by rw [List.length_map];lia) (fun k A2 _ he=>⟨_,he _ _ hx1,rfl⟩) (fun k u y A2 hu hy he=>?_) ?_
          . obtain ⟨v,hv,rfl⟩:=map_get hu
            rw [List.getElem?_map,hv] at hy
            cases hy
            refine ⟨_,_,rfl,fun Cy hc=>?_⟩
            walk_at "qd"
            exact hc
          . walk_at "qd"
            refine ⟨W,l2,rfl,by rw [updA_same,hW],hWok,hWt,?_⟩
            walk_at "qd"
            exact ⟨tup2,fgx (hE.trans ((Ext.new h1).trans (Ext.new h2))) q⟩
    . have k03 : k=0\/k=3:=by lia
      refine iteFf (by rcases k03 with rfl | rfl <;> decide +kernel) ?_
      have hq:A l=some (.lst ((plnL ps).map gQ)):=by rw [<- eg];exact hl
      rcases k03 with rfl | rfl
      . refine iteFf (by decide +kernel) ?_
        obtain ⟨x,rfl⟩:∃ x,x=l:=⟨l,rfl⟩
        obtain ⟨A1,rfl⟩:∃ A1,A1=A:=⟨A,rfl⟩
        obtain ⟨vs,hvs⟩:∃ vs,vs=plnL ps:=⟨_,rfl⟩
        rw [<- hvs] at hq
        obtain ⟨W,hWd⟩:∃ W,W=Wr.many 0 vs:=⟨_,rfl⟩
        have hWp:W=(Wr.many 0 ps).pl:=by rw [hWd,hvs,Wr.pl];rfl
        have hE:Ext A1 A1:=Ext.refl _
        have hx:A1 x=some (.lst (vs.map gQ)):=hq
        have hname:mname 0=W.name:=by rw [hWd];rfl
        have hW:W.parts=vs:=by rw [hWd];rfl
        have hWok:W.ok=true:=by rw [hWp,Wr.pl_ok];exact hok
        have hWb:∀ c,W≠.bead c:=by rw [hWd];exact fun c z=>nomatch z
        have hWt:W.tups<=200:=by rw [hWp,Wr.pl_tups];exact ht
        have hvl:vs.length < 64:=by rw [hvs,hnl];exact hn
        have q:Q (.tup [W.toU,W.keyU]) A1:=by rw [hWp];exact q
        walk_at "qd"
        refine ⟨⟨_,hx⟩,fun l1 h1=>?_⟩
        walk_at "qc"
        refine cl_map2 (vs.map gQ) (vs.map Wr.toU) (by rw [List.length_map,List.length_map]) h1 (by rw [List.length_map];lia) (fun k A2 _ he=>⟨_,he _ _ hx,rfl⟩) (fun k u y A2 hu hy he=>?_) ?_
        . obtain ⟨v,hv,rfl⟩:=map_get hu
          rw [List.getElem?_map,hv] at hy
          cases hy
          refine ⟨_,_,rfl,fun Cy hc=>?_⟩
          walk_at "qd"
          exact hc
        . walk_at "qd"
          refine ⟨l1,W,by rw [hname],by rw [updA_same,hW],hWok,hWb,by rw [hW];lia,?_⟩
          walk_at "qd"
          have hx1:updA A1 l1 (.lst (vs.map Wr.toU)) x=some (.lst (vs.map gQ)):=by rw [updA_ne (neA hx h1)];exact hx
          refine ⟨⟨_,hx1⟩,fun l2 h2=>?_⟩
          walk_at "qc"
          refine cl_map2 (vs.map gQ) (vs.map Wr.keyU) (by rw [List.length_map,List.length_map]) h2 (by rw [List.length_map];lia) (fun k A2 _ he=>⟨_,he _ _ hx1,rfl⟩) (fun k u y A2 hu hy he=>?_) ?_
          . obtain ⟨v,hv,rfl⟩:=map_get hu
            rw [List.getElem?_map,hv] at hy
            cases hy
            refine ⟨_,_,rfl,fun Cy hc=>?_⟩
            walk_at "qd"
            exact hc
          . walk_at "qd"
            refine ⟨W,l2,rfl,by rw [updA_same,hW],hWok,hWt,?_⟩
            walk_at "qd"
            exact ⟨tup2,fgx (hE.trans ((Ext.new h1).trans (Ext.new h2))) q⟩
      . refine iteTt (by decide +kernel) ?_
        walk_at "qd"
        refine ⟨⟨_,hq⟩,fun l0 h0=>?_⟩
        walk_at "qc"
        refine cl_map2 ((plnL ps).map gQ) ((plnL ps).map Wr.keyU) (by rw [List.length_map,List.length_map]) h0 (by rw [List.length_map];lia) (fun k A2 _ he=>⟨_,he _ _ hq,rfl⟩) (fun k u y A2 hu hy he=>?_) ?_
        . obtain ⟨v,hv,rfl⟩:=map_get hu
          rw [List.getElem?_map,hv] at hy
          cases hy
          refine ⟨_,_,rfl,fun Cy hc=>?_⟩
          walk_at "qd"
          exact hc
        . walk_at "qd"
          refine ⟨l0,plnL ps,rfl,updA_same,by rw [plnL_ok];exact hok,by lia,by rw [plnL_dep];simp only [Wr.dep] at hd;lia,?_⟩
          walk_at "qd"
          have hbest:bestT Wr.keyD (plnL ps)<=(plnL ps).length:=by
            have:=best_lt (lt:=fun i j=>ltv (kdL Wr.keyD (turnL (plnL ps) i)) (kdL Wr.keyD (turnL (plnL ps) j))) ((plnL ps).length - 1)
            have c2:bestT Wr.keyD (plnL ps)<=(plnL ps).length - 1:=this
            lia
          have hq1:updA A l0 (.lst ((plnL ps).map Wr.keyU)) l=some (.lst ((plnL ps).map gQ)):=by rw [updA_ne (neA hq h0)];exact hq
          have hE0:Ext A (updA A l0 (.lst ((plnL ps).map Wr.keyU))):=Ext.new h0
          generalize updA A l0 (.lst ((plnL ps).map Wr.keyU))=A0 at hq1 hE0 ⊢
          refine ⟨_,hq1,fun p1 hp1=>⟨_,by rw [updA_ne (neA hq1 hp1)];exact hq1,fun p2 hp2=>?_⟩⟩
          rw [cutFrom (by rw [List.length_map];exact hbest)] at hp2 ⊢
          rw [cutTo (by rw [List.length_map];exact hbest)]
          have n12:p1≠p2:=neA updA_same hp2
          refine ⟨_,_,by rw [updA_ne n12,updA_same],updA_same,line1000 (by simp;lia),fun x hx0=>?_⟩
          have et:((plnL ps).map gQ).drop (bestT Wr.keyD (plnL ps))++((plnL ps).map gQ).take (bestT Wr.keyD (plnL ps))=(leastT Wr.keyD (plnL ps)).map gQ:=by unfold leastT turnL;rw [List.map_append,List.map_drop,List.map_take]
          rw [et]
          have ea:leastT Wr.keyD (plnL ps)=arr 3 (plnL ps):=by unfold arr;rw [if_neg (by lia),if_neg (by lia)]
          rw [ea]
          obtain ⟨vs,hvs⟩:∃ vs,vs=arr 3 (plnL ps):=⟨_,rfl⟩
          rw [<- hvs]
          obtain ⟨W,hWd⟩:∃ W,W=Wr.many 3 vs:=⟨_,rfl⟩
          have hWp:W=(Wr.many 3 ps).pl:=by rw [hWd,hvs,Wr.pl]
          have hE:=hE0.trans ((Ext.new (o:=.lst (((plnL ps).map gQ).drop (bestT Wr.keyD (plnL ps)))) hp1).trans ((Ext.new (o:=.lst (((plnL ps).map gQ).take (bestT Wr.keyD (plnL ps)))) hp2).trans (Ext.new (o:=.lst (vs.map gQ)) hx0)))
          have hx:updA (updA (updA A0 p1 (.lst (((plnL ps).map gQ).drop (bestT Wr.keyD (plnL ps))))) p2 (.lst (((plnL ps).map gQ).take (bestT Wr.keyD (plnL ps))))) x (.lst (vs.map gQ)) x=some (.lst (vs.map gQ)):=updA_same
          generalize updA (updA (updA A0 p1 (.lst (((plnL ps).map gQ).drop (bestT Wr.keyD (plnL ps))))) p2 (.lst (((plnL ps).map gQ).take (bestT Wr.keyD (plnL ps))))) x (.lst (vs.map gQ))=A1 at hE hx ⊢
          have hname:mname 3=W.name:=by rw [hWd];rfl
          have hW:W.parts=vs:=by rw [hWd];rfl
          have hWok:W.ok=true:=by rw [hWp,Wr.pl_ok];exact hok
          have hWb:∀ c,W≠.bead c:=by rw [hWd];exact fun c z=>nomatch z
          have hWt:W.tups<=200:=by rw [hWp,Wr.pl_tups];exact ht
          have hvl:vs.length < 64:=by rw [hvs,(arr_perm 3 _).length_eq,hnl];exact hn
          have q:Q (.tup [W.toU,W.keyU]) A:=by rw [hWp];exact q
          walk_at "qd"
          refine ⟨⟨_,hx⟩,fun l1 h1=>?_⟩
          walk_at "qc"
          refine cl_map2 (vs.map gQ) (vs.map Wr.toU) (by rw [List.length_map,List.length_map]) h1 (by rw [List.length_map];lia) (fun k A2 _ he=>⟨_,he _ _ hx,rfl⟩) (fun k u y A2 hu hy he=>?_) ?_
          . obtain ⟨v,hv,rfl⟩:=map_get hu
            rw [List.getElem?_map,hv] at hy
            cases hy
            refine ⟨_,_,rfl,fun Cy hc=>?_⟩
            walk_at "qd"
            exact hc
          . walk_at "qd"
            refine ⟨l1,W,by rw [hname],by rw [updA_same,hW],hWok,hWb,by rw [hW];lia,?_⟩
            walk_at "qd"
            have hx1:updA A1 l1 (.lst (vs.map Wr.toU)) x=some (.lst (vs.map gQ)):=by rw [updA_ne (neA hx h1)];exact hx
            refine ⟨⟨_,hx1⟩,fun l2 h2=>?_⟩
            walk_at "qc"
            refine cl_map2 (vs.map gQ) (vs.map Wr.keyU) (by rw [List.length_map,List.length_map]) h2 (by rw [List.length_map];lia) (fun k A2 _ he=>⟨_,he _ _ hx1,rfl⟩) (fun k u y A2 hu hy he=>?_) ?_
            . obtain ⟨v,hv,rfl⟩:=map_get hu
              rw [List.getElem?_map,hv] at hy
              cases hy
              refine ⟨_,_,rfl,fun Cy hc=>?_⟩
              walk_at "qd"
              exact hc
            . walk_at "qd"
              refine ⟨W,l2,rfl,by rw [updA_same,hW],hWok,hWt,?_⟩
              walk_at "qd"
              exact ⟨tup2,fgx (hE.trans ((Ext.new h1).trans (Ext.new h2))) q⟩
  . rw [Wr.toU_few hf]
    walk_at "qd"
    obtain ⟨f1,f2,f3⟩:=Wr.pl_few hf
    obtain ⟨n1,n2⟩:=few_name hf
    refine iteFf (nb_name hf.1) ⟨by decide,rfl,rfl,iteFf n1 (iteFf n2 ?_)⟩
    obtain ⟨x,rfl⟩:∃ x,x=l:=⟨l,rfl⟩
    obtain ⟨A1,rfl⟩:∃ A1,A1=A:=⟨A,rfl⟩
    obtain ⟨vs,hvs⟩:∃ vs,vs=w.parts.map Wr.pl:=⟨_,rfl⟩
    obtain ⟨W,hWd⟩:∃ W,W=w.pl:=⟨_,rfl⟩
    have hE:Ext A1 A1:=Ext.refl _
    have hx:A1 x=some (.lst (vs.map gQ)):=by rw [hl,hvs,List.map_map];rfl
    have hname:w.name=W.name:=by rw [hWd];exact f2.symm
    have hW:W.parts=vs:=by rw [hWd,hvs];exact f3
    have hWok:W.ok=true:=by rw [hWd,w.pl_ok];exact hok
    have hWb:∀ c,W≠.bead c:=by rw [hWd];exact f1.1
    have hWt:W.tups<=200:=by rw [hWd,w.pl_tups];exact ht
    have hvl:vs.length < 64:=by rw [hvs,List.length_map];exact hn
    have q:Q (.tup [W.toU,W.keyU]) A1:=by rw [hWd];exact q
    walk_at "qd"
    refine ⟨⟨_,hx⟩,fun l1 h1=>?_⟩
    walk_at "qc"
    refine cl_map2 (vs.map gQ) (vs.map Wr.toU) (by rw [List.length_map,List.length_map]) h1 (by rw [List.length_map];lia) (fun k A2 _ he=>⟨_,he _ _ hx,rfl⟩) (fun k u y A2 hu hy he=>?_) ?_
    . obtain ⟨v,hv,rfl⟩:=map_get hu
      rw [List.getElem?_map,hv] at hy
      cases hy
      refine ⟨_,_,rfl,fun Cy hc=>?_⟩
      walk_at "qd"
      exact hc
    . walk_at "qd"
      refine ⟨l1,W,by rw [hname],by rw [updA_same,hW],hWok,hWb,by rw [hW];lia,?_⟩
      walk_at "qd"
      have hx1:updA A1 l1 (.lst (vs.map Wr.toU)) x=some (.lst (vs.map gQ)):=by rw [updA_ne (neA hx h1)];exact hx
      refine ⟨⟨_,hx1⟩,fun l2 h2=>?_⟩
      walk_at "qc"
      refine cl_map2 (vs.map gQ) (vs.map Wr.keyU) (by rw [List.length_map,List.length_map]) h2 (by rw [List.length_map];lia) (fun k A2 _ he=>⟨_,he _ _ hx1,rfl⟩) (fun k u y A2 hu hy he=>?_) ?_
      . obtain ⟨v,hv,rfl⟩:=map_get hu
        rw [List.getElem?_map,hv] at hy
        cases hy
        refine ⟨_,_,rfl,fun Cy hc=>?_⟩
        walk_at "qd"
        exact hc
      . walk_at "qd"
        refine ⟨W,l2,rfl,by rw [updA_same,hW],hWok,hWt,?_⟩
        walk_at "qd"
        exact ⟨tup2,fgx (hE.trans ((Ext.new h1).trans (Ext.new h2))) q⟩
end
noncomputable def Cp (t:Addr) (A:AHp):Prop:=A t=some (tblO lpos_p "plain_by.<locals>.<lambda>")
noncomputable def DwP (w:Wr):Prop:=w.nrm=true/\w.dep<=95/\w.parts.length < 64
theorem pby_of {K:PySem.W.Frag} {t:Addr} {vs:List V} {H:Hp} {Q:VK} {E:XK} (h:spOf K (asp_deedC gP (Cp t) DwP) vs H Q E):spOf K (asp_pby t) vs H Q E:=by
  obtain ⟨us,A,Q',r,g,⟨w,l,e,hl,hok,ht,⟨d1,d2,d3⟩,hC,q⟩,k⟩:=h
  exact ⟨us,A,Q',r,g,⟨w,l,e,hl,hok,d1,ht,d2,d3,hC,q⟩,k⟩
noncomputable def okW (w:Wr):Prop:=w.ok=true/\w.tups<=200/\∀ v∈w.post,DwP v
noncomputable def asp_w (t:Addr) (f:Wr->U):ASp:=fun us A Q=>∃ w:Wr,us=[w.toU]/\okW w/\Cp t A/\Q (f w) A
section
include T
theorem ok_pwk (hBA_plain_by:base.BuiltinsAt mg t_plain_by):FnOk P w K mg base CX0 9 f_plain_with_key d_plain_with_key ["writing"] (spOf K (asp_w t_plain_by gP)):=by
  have G_folded:=ok_foldedC (P:=P) (w:=w) (base:=base) (C:=Cp t_plain_by) (Dw:=DwP) (val:=gP) T 6 (by decide) (fun A A' e h=>e _ _ h) ((ok_plain_by (P:=P) (w:=w) (base:=base) T hBA_plain_by).imp fun _ _ _ _ h=>pby_of h) T.F_plain_by.kp T.B_plain_by
  refine' Fun.okA T.F_plain_with_key (sc:=?sc8) (body:=?bd8) ?hs8 ?hb8 sc_plain_with_key ?hB8 ?hS8
  case hs8=>conv=>lhs;whnf
  case hb8=>conv=>lhs;whnf
  case hB8=>exact fun S cdv A outer s H E hr=>⟨_,(pss_one (ps_ret (pe_call (G_folded.mono (by first | decide | lia)) hr (by rfl) T.M_folded T.F_folded.kp T.B_folded .nil pass0 (pa_cons (pv 0) (pa_cons (pe_glob (v:=.ref f_plain_by) (by rfl) T.M_plain_by rfl) pa_nil))))),(ab_ret (ab_call (ab_cons ab_var (ab_cons ab_ref ab_nil))))⟩
  rintro us A Q ⟨w,rfl,⟨hok,ht,hD⟩,hC,q⟩
  refine ⟨rfl,?_⟩
  walk_at "qs"
  walk_at "qd"
  exact ⟨w,rfl,hok,ht,hD,hC,fg q⟩
theorem ok_plain (hBA_plain_by:base.BuiltinsAt mg t_plain_by):FnOk P w K mg base CX0 10 f_plain d_plain ["writing"] (spOf K (asp_w t_plain_by fun w=>w.pl.toU)):=by
  have G_plain_with_key:=ok_pwk (P:=P) (w:=w) (base:=base) T hBA_plain_by
  refine' Fun.okA T.F_plain (sc:=?sc9) (body:=?bd9) ?hs9 ?hb9 sc_plain ?hB9 ?hS9
  case hs9=>conv=>lhs;whnf
  case hb9=>conv=>lhs;whnf
  case hB9=>exact fun S cdv A outer s H E hr=>⟨_,(pss_one (ps_ret (pe_ix o_ix (pe_call (G_plain_with_key.mono (by first | decide | lia)) hr (by rfl) T.M_plain_with_key T.F_plain_with_key.kp T.B_plain_with_key .nil pass0 (pa_cons (pv 0) pa_nil)) pe_int (fun _ _=>rfl)))),(ab_ret (ab_op ab_ix (ab_call (ab_cons ab_var ab_nil)) ab_int))⟩
  rintro us A Q ⟨w,rfl,ho,hC,q⟩
  refine ⟨rfl,?_⟩
  walk_at "qs"
  walk_at "qd"
  refine ⟨w,rfl,ho,hC,?_⟩
  unfold gP
  walk_at "qg"
  first | exact fg q | exact ⟨_,rfl,fg q⟩
end
theorem okW_gd {w:Wr} (hg:w.gd=true) (ht:w.tups<=95):okW w:=by
  have hd:=w.dep_le
  refine ⟨w.gd_ok hg,by lia,fun v hv=>?_⟩
  obtain ⟨h1,h2⟩:=w.gd_post v hv hg
  exact ⟨v.gd_nrm h1,by lia,(v.gd_parts h1).2⟩
noncomputable def asp_cell:ASp:=fun us A Q=>∃ (a:Addr) (ns:List Int) (k:Int),us=[.ref a,.int k]/\A a=some (.lst (ns.map U.int))/\0<=k/\∀ z,Q (.int z) A
section
include T
theorem ok_cell:FnOk P w K mg base CX0 1 f_w_cell d_w_cell ["_law_script","_law_k"] (spOf K asp_cell):=by
  refine' Fun.okA T.F_w_cell (sc:=?sc10) (body:=?bd10) ?hs10 ?hb10 sc_w_cell ?hB10 ?hS10
  case hs10=>conv=>lhs;whnf
  case hb10=>conv=>lhs;whnf
  case hB10=>exact fun S cdv A outer s H E hr=>⟨_,(pss_cons (ps_if (pt_cmpR o_lt (pv 1) (pe_callB c_len (by rfl) T.n_len (by decide +kernel) (pa_cons (pv 0) pa_nil)) (nomark _)) (pss_one (ps_ret (pe_ix o_ix (pv 0) (pv 1) (fun _ _=>rfl)))) pss_nil)
      (pss_one (ps_ret pe_int))),(ab_seq (ab_ifs (ab_test (ab_op ab_lt ab_var (ab_cb ab_len (ab_cons ab_var ab_nil)))) (ab_ret (ab_op ab_ix ab_var ab_var)) ab_next)
      (ab_ret ab_int))⟩
  rintro us A Q ⟨a,ns,k,rfl,ha,hk,q⟩
  refine ⟨rfl,?_⟩
  walk_at "qs"
  walk_at "qd"
  refine ⟨_,ha,iteB (fun h=>?_) fun _=>fg (q 0)⟩
  have h':k < ns.length:=by simpa using h
  obtain ⟨z,h1,_⟩:=atI_intsU hk h'
  exact ⟨_,_,ha,h1,fg (q z)⟩
end
noncomputable def asp_mix:ASp:=fun us A Q=>∃ ns:List Int,us=[.rol (ns.map U.int)]/\ns.length<=63/\∀ (l:Addr) (ms:List Int),A l=none->ms.length<=63->Q (.ref l) (updA A l (.lst (ms.map U.int)))
section
include T
theorem ok_mix:FnOk P w K mg base CX0 1 f_w_mix d_w_mix ["_law_script"] (spOf K asp_mix):=by
  refine' Fun.okA T.F_w_mix (sc:=?sc11) (body:=?bd11) ?hs11 ?hb11 sc_w_mix ?hB11 ?hS11
  case hs11=>conv=>lhs;whnf
  case hb11=>conv=>lhs;whnf
  case hB11=>exact fun S cdv A outer s H E hr=>⟨_,(pss_cons (ps_if ((pw_and (pt_cmpR o_gt (pe_callB c_len (by rfl) T.n_len (by decide +kernel) (pa_cons (pv 0) pa_nil)) pe_int (nomark _)) (pw_and1 (pt_cmpR (o_eqD hr) (pe_op o_mod (pe_ix o_ix (pv 0) pe_int (fun _ _=>rfl)) pe_int) pe_int (nomark _))))).pt (pss_one (ps_ret (pe_op o_addW (pe_lst (pa_cons (pe_op o_fdiv (pe_ix o_ix (pv 0) pe_int (fun _ _=>rfl)) pe_int) pa_nil)) (pe_callTy c_list (by rfl) T.n_list (by decide +kernel) (pa_cons (pe_slice o_slW (pv 0) (po_some pe_int) po_none) pa_nil))))) pss_nil)
      (pss_cons (ps_set (i:=1) S.nd rfl (Or.inl rfl) (pe_lst pa_nil))
      (pss_cons (ps_for PassesOwn.never rfl (pj_enumS (by rfl) T.n_enumerate (pa_cons (pv 0) pa_nil)) (pg_tup (n:=2) rfl (pgs_cons (pg_name (i:=2) S.nd rfl (Or.inl rfl)) (pgs_cons (pg_name (i:=3) S.nd rfl (Or.inl rfl)) pgs_nil)))
      (pss_one (ps_expr (pe_bm PySem.F.plainAttrs_list PySem.F.slot_list_append PySem.F.type_list_append mt_append (pv 1) (pa_cons (pe_op o_mod (pe_op o_mulB (pe_op o_mod (pe_op o_addW (pe_op o_mulB (pe_op o_mod (pv 3) (pe_op o_pow pe_int pe_int)) pe_int) (pe_op o_mulB pe_int (pv 2))) pe_int) pe_int) pe_int) pa_nil)))))
      (pss_one (ps_ret (pv 1)))))),(ab_seq (ab_ifs (ab_and (ab_test (ab_op ab_gt (ab_cb ab_len (ab_cons ab_var ab_nil)) ab_int)) (ab_test (ab_op ab_eq (ab_op ab_mod (ab_op ab_ix ab_var ab_int) ab_int) ab_int))) (ab_ret (ab_op ab_add (ab_lst (ab_cons (ab_op ab_div (ab_op ab_ix ab_var ab_int) ab_int) ab_nil)) (ab_cb ab_listof (ab_cons (ab_sl ab_xsl ab_var (ab_part ab_int) ab_nopart) ab_nil)))) ab_next)
      (ab_seq (ab_asg (ab_lst ab_nil) ab_name)
      (ab_seq (ab_for (ab_jargs ab_yenumS (ab_cons ab_var ab_nil)) (ab_gtup (ab_gcons ab_name (ab_gcons ab_name ab_gnil)))
      (ab_drop (ab_bm ab_isLst ab_mapp ab_var (ab_cons (ab_op ab_mod (ab_op ab_mul (ab_op ab_mod (ab_op ab_add (ab_op ab_mul (ab_op ab_mod ab_var (ab_op ab_pow ab_int ab_int)) ab_int) (ab_op ab_mul ab_int ab_var)) ab_int) ab_int) ab_int) ab_nil))))
      (ab_ret ab_var))))⟩
  rintro us A Q ⟨ns,rfl,hk,q⟩
  refine ⟨rfl,?_⟩
  walk_at "qs"
  walk_at "qd"
  rw [List.length_map]
  refine iteB (fun h0=>?_) fun h0=>?_
  . have h0 : 0 < ns.length:=by simpa using h0
    obtain ⟨z,h1,h2⟩:=atI_intsU (Int.le_refl 0) (show (0:Int) < ns.length by lia)
    refine ⟨_,h1,?_⟩
    walk_at "qd"
    refine ⟨by decide,iteB (fun _=>?_) fun _=>?_⟩
    . obtain ⟨n0,ns,rfl⟩:∃ n0 ns',ns=n0::ns':=by
        cases ns with
        | nil=>simp at h0
        | cons n0 ns'=>exact ⟨_,_,rfl⟩
      walk_at "qd"
      refine ⟨_,h1,?_⟩
      walk_at "qd"
      refine ⟨⟨by decide,by decide⟩,tup1,fun p hp p1 hp1=>?_⟩
      walk_at "qd"
      refine ⟨_,updA_same,fun p2 hp2=>?_⟩
      walk_at "qd"
      rw [List.map_cons,cutU_tail] at hp2 ⊢
      have d1:p≠p1:=neA updA_same hp1
      have d2:p≠p2:=fun e=>by rw [<- e,updA_ne d1,updA_same] at hp2;cases hp2
      have e:=(Ext.new (o:=.lst [.int (z / 2)]) hp).trans ((Ext.new (o:=.lst (ns.map U.int)) hp1).trans (Ext.new (o:=.lst (ns.map U.int)) hp2))
      refine ⟨[.int (z / 2)],ns.map U.int,by rw [updA_ne d2,updA_ne d1,updA_same],updA_same,?_,fun p3 hp3=>fgx e.put (q p3 ((z / 2)::ns) (e.none hp3) hk)⟩
      refine line1000 ?_
      simp only [List.length_cons,List.length_nil,List.length_map] at hk ⊢
      lia
    . walk_at "qd"
      refine ⟨by decide,fun p hp=>?_⟩
      walk_at "qd"
      refine for_enumF (us:=ns.map U.int) (fun k ρ A2=>∃ (ms:List Int) (x y:Option U),ρ=[some (.rol (ns.map U.int)),some (.ref p),x,y]/\A2=updA A p (.lst (ms.map U.int))/\ms.length=k) ⟨[],_,_,rfl,rfl,rfl⟩ ?_ ?_
      . rintro k u ρ A2 hu ⟨ms,x,y,rfl,rfl,hm⟩
        have hkl:=(List.getElem?_eq_some_iff.mp hu).1
        rw [List.length_map] at hkl
        obtain ⟨n,_,rfl⟩:=map_get hu
        walk_at "qd"
        exact ⟨rfl,⟨_,updA_same⟩,⟨by decide,by decide,by decide⟩,by decide,mul_small (.inr ⟨by decide,by decide⟩),mul_small (.inl ⟨by decide,by decide⟩),by decide,mul_small (.inr ⟨by decide,by decide⟩),by decide,
          _, updA_same,line1000' (by rw [List.length_map];lia),ms++[_],_,_,rfl,by rw [updA_updA,List.map_append];rfl,by rw [List.length_append,hm];rfl⟩
      . rintro ρ A2 ⟨ms,x,y,rfl,rfl,hm⟩
        walk_at "qd"
        exact fg (q p ms hp (by rw [hm,List.length_map];exact hk))
  . refine iteFf rfl ?_
    walk_at "qd"
    refine ⟨by decide,fun p hp=>?_⟩
    walk_at "qd"
    refine for_enumF (us:=ns.map U.int) (fun k ρ A2=>∃ (ms:List Int) (x y:Option U),ρ=[some (.rol (ns.map U.int)),some (.ref p),x,y]/\A2=updA A p (.lst (ms.map U.int))/\ms.length=k) ⟨[],_,_,rfl,rfl,rfl⟩ ?_ ?_
    . rintro k u ρ A2 hu ⟨ms,x,y,rfl,rfl,hm⟩
      have hkl:=(List.getElem?_eq_some_iff.mp hu).1
      rw [List.length_map] at hkl
      obtain ⟨n,_,rfl⟩:=map_get hu
      walk_at "qd"
      exact ⟨rfl,⟨_,updA_same⟩,⟨by decide,by decide,by decide⟩,by decide,mul_small (.inr ⟨by decide,by decide⟩),mul_small (.inl ⟨by decide,by decide⟩),by decide,mul_small (.inr ⟨by decide,by decide⟩),by decide,
        _, updA_same,line1000' (by rw [List.length_map];lia),ms++[_],_,_,rfl,by rw [updA_updA,List.map_append];rfl,by rw [List.length_append,hm];rfl⟩
    . rintro ρ A2 ⟨ms,x,y,rfl,rfl,hm⟩
      walk_at "qd"
      exact fg (q p ms hp (by rw [hm,List.length_map];exact hk))
end
noncomputable def asp_put:ASp:=fun us A Q=>∃ (a:Addr) (z:Int) (ws:List Wr),us=[.ref a,.int z]/\A a=some (.lst (ws.map Wr.toU))/\gdL ws=true/\0<=z/\tupsL ws<=60 /\
  ∀ ws':List Wr,gdL ws'=true->tupsL ws'<=tupsL ws + 1->Q .non (updA A a (.lst (ws'.map Wr.toU)))
noncomputable def asp_small:ASp:=fun us A Q=>∃ (a:Addr) (ns:List Int) (z:Int),us=[.ref a,.int z]/\A a=some (.lst (ns.map U.int))/\ns.length<=5/\∀ (k:Nat) (ws:List Wr),(Wr.many k ws).gd=true->(Wr.many k ws).tups<=6->Q (Wr.many k ws).toU A
theorem col3_at (j:Int):∃ c:Str,atI [U.str "red",U.str "ash",U.str "blue"] (j % 3)=some (.str c)/\PyData.strOk c=true:=by
  have h:j % 3=0\/j % 3=1\/j % 3=2:=by lia
  rcases h with h | h | h <;> rw [h]
  . exact ⟨"red",atI_nat (j:=0) rfl,by decide +kernel⟩
  . exact ⟨"ash",atI_nat (j:=1) rfl,by decide +kernel⟩
  . exact ⟨"blue",atI_nat (j:=2) rfl,by decide +kernel⟩
theorem many7_at {j:Int} (h0:0<=j) (h1:j < 4):∃ k:Nat,k<=3/\atI [U.str "row",U.str "bag",U.str "choice",U.str "ring"] j=some (.str (mname k)):=by
  have h:j=0\/j=1\/j=2\/j=3:=by lia
  rcases h with h | h | h | h <;> rw [h]
  . exact ⟨0,by decide,atI_nat (j:=0) rfl⟩
  . exact ⟨1,by decide,atI_nat (j:=1) rfl⟩
  . exact ⟨2,by decide,atI_nat (j:=2) rfl⟩
  . exact ⟨3,by decide,atI_nat (j:=3) rfl⟩
theorem how6_at (j:Int):∃ k:Nat,k<=3/\atI [U.str "bag",U.str "ring",U.str "choice",U.str "bag",U.str "ring",U.str "row"] (j % 6)=some (.str (mname k)):=by
  have h:j % 6=0\/j % 6=1\/j % 6=2\/j % 6=3\/j % 6=4\/j % 6=5:=by lia
  rcases h with h | h | h | h | h | h <;> rw [h]
  . exact ⟨1,by decide,atI_nat (j:=0) rfl⟩
  . exact ⟨3,by decide,atI_nat (j:=1) rfl⟩
  . exact ⟨2,by decide,atI_nat (j:=2) rfl⟩
  . exact ⟨1,by decide,atI_nat (j:=3) rfl⟩
  . exact ⟨3,by decide,atI_nat (j:=4) rfl⟩
  . exact ⟨0,by decide,atI_nat (j:=5) rfl⟩
section
include T
theorem ok_put : FnOk P w K mg base CX0 1 f_w_put d_w_put ["_law_stack","_law_cell_here"] (spOf K asp_put):=by
  refine' Fun.okA T.F_w_put (sc:=?sc12) (body:=?bd12) ?hs12 ?hb12 sc_w_put ?hB12 ?hS12
  case hs12=>conv=>lhs;whnf
  case hb12=>conv=>lhs;whnf
  case hB12=>exact fun S cdv A outer s H E hr=>⟨_,(pss_cons (ps_set (i:=2) S.nd rfl (Or.inl rfl) (pe_op o_mod (pv 1) pe_int))
      (pss_cons (ps_set (i:=3) S.nd rfl (Or.inl rfl) (pe_op o_fdiv (pv 1) pe_int))
      (pss_cons (ps_set (i:=4) S.nd rfl (Or.inl rfl) (pe_callB (c_minA rfl) (by rfl) T.n_min (by decide +kernel) (pa_cons (pe_callB c_len (by rfl) T.n_len (by decide +kernel) (pa_cons (pv 0) pa_nil)) (pa_cons (pe_op o_addW pe_int (pe_op o_mod (pv 3) pe_int)) pa_nil))))
      (pss_one (ps_if ((pw_and (pt_cmpR (o_eqD hr) (pv 2) pe_int (nomark _)) (pw_and1 (pt_cmpR o_gt (pe_callB c_len (by rfl) T.n_len (by decide +kernel) (pa_cons (pv 0) pa_nil)) pe_int (nomark _))))).pt (pss_cons (ps_set (i:=5) S.nd rfl (Or.inl rfl) (pe_bm0 PySem.F.plainAttrs_list PySem.F.slot_list_pop PySem.F.type_list_pop mt_pop (pv 0)))
      (pss_one (ps_expr (pe_bm PySem.F.plainAttrs_list PySem.F.slot_list_append PySem.F.type_list_append mt_append (pv 0) (pa_cons (pe_tup (pa_cons pe_str (pa_cons (pe_bm0 PySem.F.plainAttrs_list PySem.F.slot_list_pop PySem.F.type_list_pop mt_pop (pv 0)) (pa_cons (pv 5) pa_nil)))) pa_nil))))) (pss_one (ps_if ((pw_or (pt_cmpR o_lt (pv 2) pe_int (nomark _)) (pw_or (pt_cmpR (o_eqD hr) (pv 2) pe_int (nomark _)) (pw_or1 (pt_cmpR (o_eqD hr) (pe_callB c_len (by rfl) T.n_len (by decide +kernel) (pa_cons (pv 0) pa_nil)) pe_int (nomark _)))))).pt (pss_one (ps_expr (pe_bm PySem.F.plainAttrs_list PySem.F.slot_list_append PySem.F.type_list_append mt_append (pv 0) (pa_cons (pe_tup (pa_cons pe_str (pa_cons (pe_ix o_ix (pe_lst (pa_strs (xs:=["red","ash","blue"]) rfl)) (pe_op o_mod (pv 3) pe_int) (fun _ _=>rfl)) pa_nil))) pa_nil)))) (pss_one (ps_if (pt_cmpR (o_eqD hr) (pv 2) pe_int (nomark _)) (pss_one (ps_expr (pe_bm PySem.F.plainAttrs_list PySem.F.slot_list_append PySem.F.type_list_append mt_append (pv 0) (pa_cons (pe_tup (pa_cons pe_str pa_nil)) pa_nil)))) (pss_one (ps_if (pt_cmpR o_lt (pv 2) pe_int (nomark _)) (pss_one (ps_expr (pe_bm PySem.F.plainAttrs_list PySem.F.slot_list_append PySem.F.type_list_append mt_append (pv 0) (pa_cons (pe_tup (pa_cons (pe_ix o_ix (pe_lst (pa_cons pe_str (pa_cons pe_str pa_nil))) (pe_op o_sub (pv 2) pe_int) (fun _ _=>rfl)) (pa_cons (pe_bm0 PySem.F.plainAttrs_list PySem.F.slot_list_pop PySem.F.type_list_pop mt_pop (pv 0)) pa_nil))) pa_nil)))) (pss_cons (ps_setC (i:=6) S.nd rfl (Or.inl rfl) (by with_unfolding_all rfl) (ts:=["_law_k"]) (frs':=[("_law_stack",0)]) (cl:=_) rfl ⟨(by rfl),rfl,(by decide +kernel),(by decide +kernel),(allm_cons (by rfl) allm_nil),(free_has (by rfl) (by rfl)),(allm_cons ⟨(by rfl),(by first | exact .inl rfl | exact .inr rfl),(by first | exact .inl rfl | exact .inr rfl),(by rfl)⟩ allm_nil)⟩ (pj_range1 rfl T.n_range (pa_cons (pv 4) pa_nil)) (fun _ _ _ _=>pg_name (i:=0) (show List.Nodup (["_law_k","_law_stack"]:List Str) from by decide +kernel) rfl (Or.inl rfl) (.inr rfl)) (fun _ _ _ _=>pifs_nil) (fun _ _ _ _=>by exact (k_bm0 K rfl PySem.F.plainAttrs_list PySem.F.slot_list_pop PySem.F.type_list_pop mt_pop (pv 1))))
      (pss_one (ps_expr (pe_bm PySem.F.plainAttrs_list PySem.F.slot_list_append PySem.F.type_list_append mt_append (pv 0) (pa_cons (pe_tup (pa_cons (pe_ix o_ix (pe_lst (pa_strs (xs:=["row","bag","choice","ring"]) rfl)) (pe_op o_sub (pv 2) pe_int) (fun _ _=>rfl)) (pa_cons (pe_tupRev rfl (by rfl) T.n_tuple (by rfl) T.n_reversed (pv 6)) pa_nil))) pa_nil)))))))))))))))),(ab_seq (ab_asg (ab_op ab_mod ab_var ab_int) ab_name)
      (ab_seq (ab_asg (ab_op ab_div ab_var ab_int) ab_name)
      (ab_seq (ab_asg (ab_cb ab_min (ab_cons (ab_cb ab_len (ab_cons ab_var ab_nil)) (ab_cons (ab_op ab_add ab_int (ab_op ab_mod ab_var ab_int)) ab_nil))) ab_name)
      (ab_ifs (ab_and (ab_test (ab_op ab_eq ab_var ab_int)) (ab_test (ab_op ab_gt (ab_cb ab_len (ab_cons ab_var ab_nil)) ab_int))) (ab_seq (ab_asg (ab_bm0 ab_isLst ab_mpop ab_var) ab_name)
      (ab_drop (ab_bm ab_isLst ab_mapp ab_var (ab_cons (ab_tup (ab_cons ab_str (ab_cons (ab_bm0 ab_isLst ab_mpop ab_var) (ab_cons ab_var ab_nil)))) ab_nil)))) (ab_ifs (ab_or (ab_test (ab_op ab_lt ab_var ab_int)) (ab_or (ab_test (ab_op ab_eq ab_var ab_int)) (ab_test (ab_op ab_eq (ab_cb ab_len (ab_cons ab_var ab_nil)) ab_int)))) (ab_drop (ab_bm ab_isLst ab_mapp ab_var (ab_cons (ab_tup (ab_cons ab_str (ab_cons (ab_op ab_ix (ab_lst ab_strs) (ab_op ab_mod ab_var ab_int)) ab_nil))) ab_nil))) (ab_ifs (ab_test (ab_op ab_eq ab_var ab_int)) (ab_drop (ab_bm ab_isLst ab_mapp ab_var (ab_cons (ab_tup (ab_cons ab_str ab_nil)) ab_nil))) (ab_ifs (ab_test (ab_op ab_lt ab_var ab_int)) (ab_drop (ab_bm ab_isLst ab_mapp ab_var (ab_cons (ab_tup (ab_cons (ab_op ab_ix (ab_lst (ab_cons ab_str (ab_cons ab_str ab_nil))) (ab_op ab_sub ab_var ab_int)) (ab_cons (ab_bm0 ab_isLst ab_mpop ab_var) ab_nil))) ab_nil))) (ab_seq (ab_asg (ab_comp (ab_jrng1 (ab_cons ab_var ab_nil)) ab_name ab_true (ab_bm0 ab_isLst ab_mpop ab_var)) ab_name)
      (ab_drop (ab_bm ab_isLst ab_mapp ab_var (ab_cons (ab_tup (ab_cons (ab_op ab_ix (ab_lst ab_strs) (ab_op ab_sub ab_var ab_int)) (ab_cons (ab_tuprev ab_var) ab_nil))) ab_nil)))))))))))⟩
  rintro us A Q ⟨a,z,ws,rfl,ha,hok0,hz,ht,q⟩
  refine ⟨rfl,?_⟩
  walk_at "qs"
  walk_at "qd"
  have hl0:=len_tups ws
  have fin:∀ (A3:AHp) (ws0:List Wr) (w:Wr),Ext A A3->gdL ws0=true->w.gd=true->tupsL ws0 + w.tups<=tupsL ws + 1->Fg Q .non (updA A3 a (.lst (ws0.map Wr.toU++[w.toU]))):=fun A3 ws0 w e ho1 ho2 hb=>by
    have:=q (ws0++[w]) (by rw [gdL_app,ho1];simp [gdL,ho2]) (by rw [tupsL_app];simpa [tupsL] using hb)
    rw [List.map_append] at this
    exact fgx e.put this
  refine ⟨by decide,⟨by decide,by decide⟩,_,ha,by decide,?_⟩
  have hlm:((ws.map Wr.toU).length:Int)=(ws.length:Int):=by rw [List.length_map]
  by_cases h11:z % 12=11
  . refine iteTt (decide_eq_true h11) ⟨_,ha,?_⟩
    rw [hlm]
    by_cases h1:1 < ws.length
    . refine iteTt (decide_eq_true (by lia)) ?_
      obtain ⟨ws0,x,y,rfl⟩:∃ ws0 x y,ws=ws0++[x]++[y]:=by
        rcases List.eq_nil_or_concat ws with rfl | ⟨a,b,rfl⟩
        . simp at h1
        . rcases List.eq_nil_or_concat a with rfl | ⟨c,d,rfl⟩
          . simp at h1
          . exact ⟨c,d,b,by simp⟩
      simp only [List.length_append,List.length_singleton] at hl0
      rw [gdL_app,gdL_app,Bool.and_eq_true,Bool.and_eq_true] at hok0
      refine ⟨⟨_,ha⟩,(ws0++[x]).map Wr.toU,y.toU,by rw [ha,List.map_append];rfl,?_⟩
      refine ⟨⟨_,updA_same⟩,⟨_,updA_same⟩,ws0.map Wr.toU,x.toU,by rw [updA_same,List.map_append];rfl,?_⟩
      refine ⟨tup3,_,updA_same,line1000' (by rw [List.length_map];lia),?_⟩
      rw [updA_updA,updA_updA]
      exact fin _ ws0 (.pair x y) (Ext.refl A) hok0.1.1 (by have h1:=hok0.1.2;have h2:=hok0.2;simp [gdL] at h1 h2;simp [Wr.gd,h1,h2]) (by rw [tupsL_app,tupsL_app];simp only [Wr.tups,tupsL];lia)
    . refine iteFf (decide_eq_false (by lia)) (iteFf (decide_eq_false (by lia)) (iteTt (decide_eq_true h11) ?_))
      walk_at "qd"
      refine ⟨⟨_,ha⟩,by decide,fun p hp=>?_⟩
      walk_at "qd"
      refine ⟨by decide,?_⟩
      obtain ⟨c,hc,hok⟩:=col3_at (z / 12)
      refine ⟨_,_,updA_same,hc,?_⟩
      walk_at "qd"
      have e:=Ext.new (o:=.lst [U.str "red",U.str "ash",U.str "blue"]) hp
      exact ⟨tup2,_,e _ _ ha,line1000' (by rw [List.length_map];lia),fin _ ws (.bead c) e hok0 hok (by simp only [Wr.tups];lia)⟩
  . refine iteFf (decide_eq_false h11) (iteFf rfl ?_)
    by_cases h4:z % 12 < 4
    . refine iteTt (decide_eq_true h4) ?_
      walk_at "qd"
      refine ⟨⟨_,ha⟩,by decide,fun p hp=>?_⟩
      walk_at "qd"
      refine ⟨by decide,?_⟩
      obtain ⟨c,hc,hok⟩:=col3_at (z / 12)
      refine ⟨_,_,updA_same,hc,?_⟩
      walk_at "qd"
      have e:=Ext.new (o:=.lst [U.str "red",U.str "ash",U.str "blue"]) hp
      exact ⟨tup2,_,e _ _ ha,line1000' (by rw [List.length_map];lia),fin _ ws (.bead c) e hok0 hok (by simp only [Wr.tups];lia)⟩
    . refine iteFf (decide_eq_false h4) (iteFf (decide_eq_false h11) ⟨_,ha,?_⟩)
      rw [hlm]
      by_cases h0:ws.length=0
      . refine iteTt (decide_eq_true (by lia)) ?_
        walk_at "qd"
        refine ⟨⟨_,ha⟩,by decide,fun p hp=>?_⟩
        walk_at "qd"
        refine ⟨by decide,?_⟩
        obtain ⟨c,hc,hok⟩:=col3_at (z / 12)
        refine ⟨_,_,updA_same,hc,?_⟩
        walk_at "qd"
        have e:=Ext.new (o:=.lst [U.str "red",U.str "ash",U.str "blue"]) hp
        exact ⟨tup2,_,e _ _ ha,line1000' (by rw [List.length_map];lia),fin _ ws (.bead c) e hok0 hok (by simp only [Wr.tups];lia)⟩
      . refine iteFf (decide_eq_false (by lia)) ?_
        by_cases h5:z % 12=4
        . refine iteTt (decide_eq_true h5) ?_
          exact ⟨⟨_,ha⟩,tup1,_,ha,line1000' (by rw [List.length_map];lia),fin _ ws .nothing (Ext.refl A) hok0 rfl (by simp only [Wr.tups];lia)⟩
        . refine iteFf (decide_eq_false h5) ?_
          by_cases h7:z % 12 < 7
          . refine iteTt (decide_eq_true h7) ?_
            refine ⟨⟨_,ha⟩,tup2,fun p hp=>?_⟩
            obtain ⟨b,hb⟩:=side_atU (j:=z % 12 - 5) (by lia) (by lia)
            refine ⟨_,_,updA_same,hb,?_⟩
            have e:=Ext.new (o:=.lst [U.str "left",U.str "right"]) hp
            obtain ⟨ws0,x,rfl⟩:∃ ws0 x,ws=ws0++[x]:=by
              rcases List.eq_nil_or_concat ws with rfl | ⟨a,b,rfl⟩
              . exact absurd rfl h0
              . exact ⟨a,b,by simp⟩
            rw [List.length_append,List.length_singleton] at hl0
            rw [gdL_app,Bool.and_eq_true] at hok0
            refine ⟨⟨_,e _ _ ha⟩,ws0.map Wr.toU,x.toU,by rw [e _ _ ha,List.map_append];rfl,?_⟩
            refine ⟨tup2,_,updA_same,line1000' (by rw [List.length_map];lia),?_⟩
            rw [updA_updA]
            exact fin _ ws0 (.side b x) e hok0.1 (by have:=hok0.2;simpa [gdL,Wr.gd] using this) (by rw [tupsL_app];simp only [Wr.tups,tupsL];lia)
          . refine iteFf (decide_eq_false h7) ?_
            refine ⟨by lia,by lia,fun l hl=>?_⟩
            walk_at "qc"
            generalize em:(min ((ws.length:Nat):Int) (2 + z / 12 % 4)).toNat=m
            have hm:m<=ws.length:=by lia
            obtain ⟨ws1,ws2,e12,hl2⟩:∃ ws1 ws2:List Wr,ws=ws1++ws2/\ws2.length=m:=⟨ws.take (ws.length - m),ws.drop (ws.length - m),(List.take_append_drop _ _).symm,by rw [List.length_drop];lia⟩
            subst e12
            have ha':A a=some (.lst (ws1.map Wr.toU++ws2.map Wr.toU)):=by rw [ha,List.map_append]
            rw [<- hl2,show ws2.length=(ws2.map Wr.toU).length from by rw [List.length_map]]
            rw [List.length_append] at hl0
            have hne:a≠l:=neA ha hl
            refine cl_popsA ha' hl (by rw [List.length_map];lia) ?_
            walk_at "qd"
            refine ⟨⟨_,by rw [updA_ne hne,updA_same]⟩,by decide,fun p hp=>?_⟩
            obtain ⟨k,hk3,hk⟩:=many7_at (j:=z % 12 - 7) (by lia) (by lia)
            refine ⟨_,_,updA_same,hk,?_⟩
            have n1:p≠l:=fun e=>by rw [e,updA_same] at hp;cases hp
            refine ⟨l,_,rfl,by rw [updA_ne (Ne.symm n1),updA_same],tup2,?_⟩
            have n2:a≠p:=fun e=>by rw [<- e,updA_ne hne,updA_same] at hp;cases hp
            refine ⟨ws1.map Wr.toU,by rw [updA_ne n2,updA_ne hne,updA_same],line1000' (by rw [List.length_map];lia),?_⟩
            rw [gdL_app,Bool.and_eq_true] at hok0
            have n3:A p=none:=by rw [updA_ne n1,updA_ne (Ne.symm n2)] at hp;exact hp
            have:=fin (updA (updA A l (.lst (ws2.map Wr.toU).reverse)) p (.lst [.str "row",.str "bag",.str "choice",.str "ring"])) ws1 (.many k ws2) ((Ext.new hl).trans (Ext.new (by rw [updA_ne n1];exact n3))) hok0.1 (by simp only [Wr.gd,Bool.and_eq_true,decide_eq_true_eq];exact ⟨⟨hk3,by lia⟩,hok0.2⟩) (by rw [tupsL_app];simp only [Wr.tups];lia)
            rw [List.reverse_reverse]
            rw [Wr.toU_many] at this
            rw [updA_swap (A:=A) hne,updA_swap (A:=updA A l _) n2,updA_updA]
            exact this
end
section
include T
theorem ok_small:FnOk P w K mg base CX0 3 f_w_small d_w_small ["_law_cells","_law_how"] (spOf K asp_small):=by
  have G_w_put:=ok_put (P:=P) (w:=w) (base:=base) T
  refine' Fun.okA T.F_w_small (sc:=?sc13) (body:=?bd13) ?hs13 ?hb13 sc_w_small ?hB13 ?hS13
  case hs13=>conv=>lhs;whnf
  case hb13=>conv=>lhs;whnf
  case hB13=>exact fun S cdv A outer s H E hr=>⟨_,(pss_cons (ps_set (i:=2) S.nd rfl (Or.inl rfl) (pe_lst pa_nil))
      (pss_cons (ps_for PassesOwn.never rfl (pj_seq (pv 0)) (pg_name (i:=3) S.nd rfl (Or.inl rfl))
      (pss_one (ps_expr (pe_call (G_w_put.mono (by first | decide | lia)) hr (by rfl) T.M_w_put T.F_w_put.kp T.B_w_put .nil pass0 (pa_cons (pv 2) (pa_cons (pe_op o_mod (pv 3) (pe_op o_pow pe_int pe_int)) pa_nil))))))
      (pss_one (ps_ret (pe_tup (pa_cons (pe_ix o_ix (pe_lst (pa_strs (xs:=["bag","ring","choice","bag","ring","row"]) rfl)) (pe_op o_mod (pv 1) pe_int) (fun _ _=>rfl)) (pa_cons (pe_callTy c_tuple (by rfl) T.n_tuple (by decide +kernel) (pa_cons (pv 2) pa_nil)) pa_nil))))))),(ab_seq (ab_asg (ab_lst ab_nil) ab_name)
      (ab_seq (ab_for (ab_jof ab_yseq ab_var) ab_name
      (ab_drop (ab_call (ab_cons ab_var (ab_cons (ab_op ab_mod ab_var (ab_op ab_pow ab_int ab_int)) ab_nil)))))
      (ab_ret (ab_tup (ab_cons (ab_op ab_ix (ab_lst ab_strs) (ab_op ab_mod ab_var ab_int)) (ab_cons (ab_cb ab_tupof (ab_cons ab_var ab_nil)) ab_nil))))))⟩
  rintro us A Q ⟨a,ns,z,rfl,ha,hk,q⟩
  refine ⟨rfl,?_⟩
  walk_at "qs"
  walk_at "qd"
  refine ⟨by decide,fun p hp=>?_⟩
  have hpa:a≠p:=neA ha hp
  refine ⟨⟨_,by rw [updA_ne hpa];exact ha⟩,?_⟩
  refine for_lst (ns.map U.int) (fun k ρ A2=>∃ (ws:List Wr) (x:Option U),ρ=[some (.ref a),some (.int z),some (.ref p),x]/\A2=updA A p (.lst (ws.map Wr.toU))/\gdL ws=true/\tupsL ws<=k)
    ⟨[],_,rfl,rfl,rfl,Nat.le_refl _⟩ (fun k ρ A2 _ hq0=>by obtain ⟨_,_,_,e,_⟩:=hq0;rw [e,updA_ne hpa];exact ha) ?_ ?_
  . rintro k u ρ A2 hu ⟨ws,x,rfl,rfl,hok,hb⟩
    have hkl:=(List.getElem?_eq_some_iff.mp hu).1
    rw [List.length_map] at hkl
    obtain ⟨n,_,rfl⟩:=map_get hu
    walk_at "qd"
    refine ⟨⟨by decide,by decide,by decide⟩,by decide,p,_,ws,rfl,updA_same,hok,Int.emod_nonneg _ (by decide),by lia,fun ws' hok' hb'=>?_⟩
    exact ⟨ws',_,rfl,by rw [updA_updA],hok',by lia⟩
  . rintro ρ A2 ⟨ws,x,rfl,rfl,hok,hb⟩
    rw [List.length_map] at hb
    walk_at "qd"
    refine ⟨by decide,fun p1 hp1=>?_⟩
    have e1:=Ext.new (o:=.lst [U.str "bag",U.str "ring",U.str "choice",U.str "bag",U.str "ring",U.str "row"]) hp1
    obtain ⟨k,hk3,hk2⟩:=how6_at z
    have hwl:=len_tups ws
    refine ⟨by decide,_,_,updA_same,hk2,_,e1 _ _ updA_same,tup2,?_⟩
    refine fgx ((Ext.new hp).trans e1) ?_
    have:=q k ws (by simp only [Wr.gd,Bool.and_eq_true,decide_eq_true_eq];exact ⟨⟨hk3,by lia⟩,hok⟩) (by simp only [Wr.tups];lia)
    rw [Wr.toU_many] at this
    exact this
end
noncomputable def asp_with:ASp:=fun us A Q=>∃ (w:Wr) (x:U) (ps:List U),us=[w.toU,x]/\(x=.tup ps\/∃ l,x=.ref l/\A l=some (.lst ps))/\ps.length<=1000/\(∀ c,w≠.bead c)/\Q (w.wthU ps) A
noncomputable def asp_stp (n:Nat):ASp:=fun us A Q=>∃ w:Wr,us=[w.toU]/\w.gd=true/\w.dep<=n/\w.tups<=95/\∀ l,A l=none->Q (.ref l) (updA A l (.lst (w.stps.map Wr.toU)))
theorem few_bcr {w:Wr} (h:w.few):inU (.str w.name) [.str "bag",.str "choice"]=false/\decide (w.name=Str.ofString "ring")=false:=by
  have key:∀ x∈[Str.ofString "nothing",Str.ofString "left",Str.ofString "right",Str.ofString "pair"],inU (.str x) [.str "bag",.str "choice"]=false/\decide (x=Str.ofString "ring")=false:=by decide +kernel
  cases w with
  | nothing=>exact key _ (.head _)
  | bead c=>exact absurd rfl (h.1 c)
  | side b f => cases b
                . exact key _ (.tail _ (.head _))
                . exact key _ (.tail _ (.tail _ (.head _)))
  | pair f g=>exact key _ (.tail _ (.tail _ (.tail _ (.head _))))
  | many k ps=>exact absurd rfl (h.2 k ps)
noncomputable abbrev stepBody (n:Nat):AS:=aFor (aJof ySeq (aCall (asp_stp n) (aCons (aVar 4) aNil))) (bName 5) (aDrop (aBM isLst mApp (aVar 2) (aCons (aCall asp_with (aCons (aVar 0) (aCons (aOp xAdd (aOp xAdd (aSl xSl (aVar 1) aNoPart (aPart (aVar 3))) (aTup (aCons (aVar 5) aNil))) (aSl xSl (aVar 1) (aPart (aOp xAdd (aVar 3) (aC (U.int 1)))) aNoPart)) aNil))) aNil)))
theorem Ext.of {A A2:AHp} {p:Addr} {o:AO} (e:Ext A A2) (h:A2 p=some o):Ext (updA A p o) A2:=fun b u hb=>by
  by_cases hp:b=p
  . subst hp;rw [updA_same] at hb;cases hb;exact h
  . rw [updA_ne hp] at hb;exact e b u hb
theorem step_loop {D:AEnds} {n:Nat} {w:Wr} {p:Addr} {A A1:AHp} {pre:List U} {x0 x3 x4 x5:Option U} (hx0:x0=some w.toU) (hp:A p=none) (e:Ext A A1) (h1:A1 p=some (.lst pre)) (wb:∀ c,w≠.bead c) (hg:gdL w.parts=true) (hd:depL w.parts<=n) (ht:tupsL w.parts<=95) (hn:pre.length + (stpsL [] w.parts).length<=1000)
    (hD:∀ A2 x3 x4 x5,Ext A A2->A2 p=some (.lst (pre++(stpsL [] w.parts).map fun ps=>w.wthU (ps.map Wr.toU)))->D.nx [x0,some (.tup (w.parts.map Wr.toU)),some (.ref p),x3,x4,x5] A2) :
    aLoop (jFix (enU (w.parts.map Wr.toU))) (bTup 2 (bCons (bName 3) (bCons (bName 4) bNil))) (stepBody n) D [x0,some (.tup (w.parts.map Wr.toU)),some (.ref p),x3,x4,x5] A1:=by
  subst hx0
  have hpl:=len_tups w.parts
  refine for_enumF (fun k ρ A2=>∃ (dn:List (List Wr)) (x3 x4 x5:Option U),ρ=[some w.toU,some (.tup (w.parts.map Wr.toU)),some (.ref p),x3,x4,x5]/\Ext A A2/\A2 p=some (.lst (pre++dn.map fun ps=>w.wthU (ps.map Wr.toU)))/\dn++stpsL (w.parts.take k) (w.parts.drop k)=stpsL [] w.parts)
    ⟨[],_,_,_,rfl,e,by simpa using h1,by simp⟩ ?_ ?_
  . rintro k u ρ A2 hu ⟨dn,x3,x4,x5,rfl,e2,h2,hdn⟩
    have hkl:=(List.getElem?_eq_some_iff.mp hu).1
    rw [List.length_map] at hkl
    obtain ⟨v,hv,rfl⟩:=map_get hu
    have hvm:=List.mem_of_getElem? hv
    have hvd:=depL_mem hvm
    have hvt:=tupsL_mem hvm
    have hdr:w.parts.drop k=v::w.parts.drop (k + 1):=by
      rw [List.drop_eq_getElem_cons hkl]
      rw [List.getElem?_eq_getElem hkl] at hv
      cases hv;rfl
    have htk:w.parts.take (k + 1)=w.parts.take k++[v]:=by rw [List.take_add_one,hv];rfl
    rw [hdr,stpsL,<- htk,<- List.append_assoc] at hdn
    walk_at "qd"
    refine ⟨rfl,v,rfl,gdL_mem hg hvm,by lia,by lia,fun r hr=>?_⟩
    walk_at "qd"
    have hrp:r≠p:=fun z=>by rw [z,h2] at hr;cases hr
    refine ⟨⟨_,updA_same⟩,?_⟩
    refine for_lst (v.stps.map Wr.toU) (fun j ρ A3=>∃ (x5:Option U),ρ=[some w.toU,some (.tup (w.parts.map Wr.toU)),some (.ref p),some (.int (k:Nat)),some v.toU,x5]/\Ext A A3/\A3 r=some (.lst (v.stps.map Wr.toU))/\A3 p=some (.lst (pre++(dn++(v.stps.take j).map fun x=>w.parts.take k++x::w.parts.drop (k + 1)).map fun ps=>w.wthU (ps.map Wr.toU))))
      ⟨_,rfl,e2.trans (Ext.new hr),updA_same,by rw [updA_ne (Ne.symm hrp)];simpa using h2⟩ (fun j ρ A3 _ ⟨_,_,_,h,_⟩=>h) ?_ ?_
    . rintro j u ρ A3 hu ⟨x5,rfl,e3,hr3,hp3⟩
      obtain ⟨y,hy,rfl⟩:=map_get hu
      have hyl:=(List.getElem?_eq_some_iff.mp hy).1
      have hlen:=congrArg List.length hdn
      simp only [List.length_append,List.length_map] at hlen
      walk_at "qg"
      rw [cutTo (by rw [List.length_map];lia),show (k:Int) + 1=((k + 1:Nat):Int) from rfl,cutFrom (by rw [List.length_map];lia)]
      refine ⟨⟨_,hp3⟩,tup1,line1000 (by simp;lia),line1000 (by simp;lia),w,_,_,rfl,.inl rfl,by simp;lia,wb,_,hp3,line1000' (by simp;lia),_,rfl,e3.in hp,by rw [updA_ne hrp];exact hr3,?_⟩
      rw [updA_same,List.take_add_one,hy]
      simp
    . rintro ρ A3 ⟨x5,rfl,e3,hr3,hp3⟩
      refine ⟨_,_,_,_,rfl,e3,hp3,?_⟩
      rw [List.length_map,List.take_length]
      exact hdn
  . rintro ρ A2 ⟨dn,x3,x4,x5,rfl,e2,h2,hdn⟩
    rw [List.length_map,List.drop_length,stpsL,List.append_nil] at hdn
    subst hdn
    exact hD _ _ _ _ e2 h2
section
include T
theorem ok_lparts:FnOk P w K mg base CX0 1 f_w_parts d_w_parts ["_law_figure"] (spOf K asp_parts):=by
  refine' Fun.okA T.F_w_parts (sc:=?sc14) (body:=?bd14) ?hs14 ?hb14 sc_w_parts ?hB14 ?hS14
  case hs14=>conv=>lhs;whnf
  case hb14=>conv=>lhs;whnf
  case hB14=>exact fun S cdv A outer s H E hr=>⟨_,(pss_cons (ps_if (pt_cmpR (o_eqD hr) (pe_ix o_ix (pv 0) pe_int (fun _ _=>rfl)) pe_str (nomark _)) (pss_one (ps_ret (pe_tup pa_nil))) pss_nil)
      (pss_cons (ps_if (pt_cmpR o_in (pe_ix o_ix (pv 0) pe_int (fun _ _=>rfl)) (pe_tup (pa_strs (xs:=["row","bag","choice","ring"]) rfl)) (by with_unfolding_all rfl)) (pss_one (ps_ret (pe_ix o_ix (pv 0) pe_int (fun _ _=>rfl)))) pss_nil)
      (pss_one (ps_ret (pe_slice o_slW (pv 0) (po_some pe_int) po_none))))),(ab_seq (ab_ifs (ab_test (ab_op ab_eq (ab_op ab_ix ab_var ab_int) ab_str)) (ab_ret (ab_tup ab_nil)) ab_next)
      (ab_seq (ab_ifs (ab_test (ab_op ab_in (ab_op ab_ix ab_var ab_int) (ab_tup ab_strs))) (ab_ret (ab_op ab_ix ab_var ab_int)) ab_next)
      (ab_ret (ab_sl ab_xsl ab_var (ab_part ab_int) ab_nopart))))⟩
  rintro us A Q ⟨w,rfl,q⟩
  refine ⟨rfl,?_⟩
  walk_at "qs"
  rcases w.kinds with ⟨c,rfl⟩ | ⟨k,ps,rfl⟩ | hf
  . rw [Wr.toU]
    walk_at "qd"
    exact iteTt rfl ⟨by decide,fg q⟩
  . rw [Wr.toU_many]
    walk_at "qd"
    refine iteFf (nbm k) ?_
    walk_at "qd"
    exact ⟨by decide,rfl,rfl,iteTt (in_manyU k) (fg q)⟩
  . rw [Wr.toU_few hf]
    walk_at "qd"
    refine iteFf (nb_name hf.1) ?_
    walk_at "qd"
    exact ⟨by decide,rfl,rfl,iteFf (nin_manyU hf.2) (fg q)⟩
theorem ok_with:FnOk P w K mg base CX0 1 f_w_with d_w_with ["_law_figure","_law_parts_here"] (spOf K asp_with):=by
  refine' Fun.okA T.F_w_with (sc:=?sc15) (body:=?bd15) ?hs15 ?hb15 sc_w_with ?hB15 ?hS15
  case hs15=>conv=>lhs;whnf
  case hb15=>conv=>lhs;whnf
  case hB15=>exact fun S cdv A outer s H E hr=>⟨_,(pss_cons (ps_if (pt_cmpR o_in (pe_ix o_ix (pv 0) pe_int (fun _ _=>rfl)) (pe_tup (pa_strs (xs:=["row","bag","choice","ring"]) rfl)) (by with_unfolding_all rfl)) (pss_one (ps_ret (pe_tup (pa_cons (pe_ix o_ix (pv 0) pe_int (fun _ _=>rfl)) (pa_cons (pe_callTy c_tuple (by rfl) T.n_tuple (by decide +kernel) (pa_cons (pv 1) pa_nil)) pa_nil))))) pss_nil)
      (pss_one (ps_ret (pe_op o_addW (pe_tup (pa_cons (pe_ix o_ix (pv 0) pe_int (fun _ _=>rfl)) pa_nil)) (pe_callTy c_tuple (by rfl) T.n_tuple (by decide +kernel) (pa_cons (pv 1) pa_nil)))))),(ab_seq (ab_ifs (ab_test (ab_op ab_in (ab_op ab_ix ab_var ab_int) (ab_tup ab_strs))) (ab_ret (ab_tup (ab_cons (ab_op ab_ix ab_var ab_int) (ab_cons (ab_cb ab_tupof (ab_cons ab_var ab_nil)) ab_nil)))) ab_next)
      (ab_ret (ab_op ab_add (ab_tup (ab_cons (ab_op ab_ix ab_var ab_int) ab_nil)) (ab_cb ab_tupof (ab_cons ab_var ab_nil)))))⟩
  rintro us A Q ⟨w,x,ps,rfl,hx,hn,hb,q⟩
  refine ⟨rfl,?_⟩
  walk_at "qs"
  have hT:∀ R:AVK,R (.tup ps) A->xTupOf [x] A R:=fun R h=>by
    rcases hx with rfl | ⟨l,rfl,hl⟩
    . exact h
    . exact ⟨ps,hl,h⟩
  rcases w.kinds with ⟨c,rfl⟩ | ⟨k,qs,rfl⟩ | hf
  . exact absurd rfl (hb c)
  . rw [Wr.toU_many]
    walk_at "qd"
    refine ⟨by decide,rfl,rfl,iteTt (in_manyU k) ?_⟩
    walk_at "qd"
    exact hT _ ⟨tup2,fg q⟩
  . rw [Wr.toU_few hf]
    walk_at "qd"
    refine ⟨by decide,rfl,rfl,iteFf (nin_manyU hf.2) ?_⟩
    walk_at "qd"
    refine ⟨tup1,hT _ ?_⟩
    walk_at "qd"
    rw [wthU_few hf] at q
    exact ⟨line1000 (by simp only [List.length_cons,List.length_nil];lia),fg q⟩
theorem ok_stp:∀ n:Nat,FnOk P w K mg base CX0 (n + 2) f_w_stepped d_w_stepped ["_law_figure"] (spOf K (asp_stp n)):=by
  intro n
  induction n with
  | zero=>exact none_yet T.F_w_stepped sc_w_stepped fun us A Q hq0=>by obtain ⟨w,_,_,hd,_⟩:=hq0;have:=w.dep_pos;lia
  | succ n ih =>
    have G_w_stepped:=ih
    have G_w_parts:=ok_lparts (P:=P) (w:=w) (base:=base) T
    have G_w_with:=ok_with (P:=P) (w:=w) (base:=base) T
    refine' Fun.okA T.F_w_stepped (sc:=?sc16) (body:=?bd16) ?hs16 ?hb16 sc_w_stepped ?hB16 ?hS16
    case hs16=>conv=>lhs;whnf
    case hb16=>conv=>lhs;whnf
    case hB16=>exact fun S cdv A outer s H E hr=>⟨_,(pss_cons (ps_if (pt_cmpR (o_eqD hr) (pe_ix o_ix (pv 0) pe_int (fun _ _=>rfl)) pe_str (nomark _)) (pss_one (ps_ret (pe_lst pa_nil))) pss_nil)
      (pss_cons (ps_set (i:=1) S.nd rfl (Or.inl rfl) (pe_call (G_w_parts.mono (by first | decide | lia)) hr (by rfl) T.M_w_parts T.F_w_parts.kp T.B_w_parts .nil pass0 (pa_cons (pv 0) pa_nil)))
      (pss_cons (ps_set (i:=2) S.nd rfl (Or.inl rfl) (pe_lst pa_nil))
      (pss_cons (ps_if (pt_cmpR o_in (pe_ix o_ix (pv 0) pe_int (fun _ _=>rfl)) (pe_tup (pa_cons pe_str (pa_cons pe_str pa_nil))) (by with_unfolding_all rfl)) (pss_one (ps_for PassesOwn.never rfl (pj_range1 rfl T.n_range (pa_cons (pe_op o_sub (pe_callB c_len (by rfl) T.n_len (by decide +kernel) (pa_cons (pv 1) pa_nil)) pe_int) pa_nil)) (pg_name (i:=3) S.nd rfl (Or.inl rfl))
      (pss_one (ps_expr (pe_bm PySem.F.plainAttrs_list PySem.F.slot_list_append PySem.F.type_list_append mt_append (pv 2) (pa_cons (pe_tup (pa_cons (pe_ix o_ix (pv 0) pe_int (fun _ _=>rfl)) (pa_cons (pe_op o_addW (pe_op o_addW (pe_slice o_slW (pv 1) po_none (po_some (pv 3))) (pe_tup (pa_cons (pe_ix o_ix (pv 1) (pe_op o_addW (pv 3) pe_int) (fun _ _=>rfl)) (pa_cons (pe_ix o_ix (pv 1) (pv 3) (fun _ _=>rfl)) pa_nil)))) (pe_slice o_slW (pv 1) (po_some (pe_op o_addW (pv 3) pe_int)) po_none)) pa_nil))) pa_nil)))))) pss_nil)
      (pss_cons (ps_if (pt_cmpR (o_eqD hr) (pe_ix o_ix (pv 0) pe_int (fun _ _=>rfl)) pe_str (nomark _)) (pss_one (ps_for PassesOwn.never rfl (pj_range2 rfl T.n_range (pa_cons pe_int (pa_cons (pe_callB c_len (by rfl) T.n_len (by decide +kernel) (pa_cons (pv 1) pa_nil)) pa_nil))) (pg_name (i:=3) S.nd rfl (Or.inl rfl))
      (pss_one (ps_expr (pe_bm PySem.F.plainAttrs_list PySem.F.slot_list_append PySem.F.type_list_append mt_append (pv 2) (pa_cons (pe_tup (pa_cons (pe_ix o_ix (pv 0) pe_int (fun _ _=>rfl)) (pa_cons (pe_op o_addW (pe_slice o_slW (pv 1) (po_some (pv 3)) po_none) (pe_slice o_slW (pv 1) po_none (po_some (pv 3)))) pa_nil))) pa_nil)))))) pss_nil)
      (pss_cons (ps_for PassesOwn.never rfl (pj_enumS (by rfl) T.n_enumerate (pa_cons (pv 1) pa_nil)) (pg_tup (n:=2) rfl (pgs_cons (pg_name (i:=3) S.nd rfl (Or.inl rfl)) (pgs_cons (pg_name (i:=4) S.nd rfl (Or.inl rfl)) pgs_nil)))
      (pss_one (ps_for PassesOwn.never rfl (pj_seq (pe_call (G_w_stepped.mono (by first | decide | lia)) hr (by rfl) T.M_w_stepped T.F_w_stepped.kp T.B_w_stepped .nil pass0 (pa_cons (pv 4) pa_nil))) (pg_name (i:=5) S.nd rfl (Or.inl rfl))
      (pss_one (ps_expr (pe_bm PySem.F.plainAttrs_list PySem.F.slot_list_append PySem.F.type_list_append mt_append (pv 2) (pa_cons (pe_call (G_w_with.mono (by first | decide | lia)) hr (by rfl) T.M_w_with T.F_w_with.kp T.B_w_with .nil pass0 (pa_cons (pv 0) (pa_cons (pe_op o_addW (pe_op o_addW (pe_slice o_slW (pv 1) po_none (po_some (pv 3))) (pe_tup (pa_cons (pv 5) pa_nil))) (pe_slice o_slW (pv 1) (po_some (pe_op o_addW (pv 3) pe_int)) po_none)) pa_nil))) pa_nil)))))))
      (pss_one (ps_ret (pv 2))))))))),(ab_seq (ab_ifs (ab_test (ab_op ab_eq (ab_op ab_ix ab_var ab_int) ab_str)) (ab_ret (ab_lst ab_nil)) ab_next)
      (ab_seq (ab_asg (ab_call (ab_cons ab_var ab_nil)) ab_name)
      (ab_seq (ab_asg (ab_lst ab_nil) ab_name)
      (ab_seq (ab_ifs (ab_test (ab_op ab_in (ab_op ab_ix ab_var ab_int) (ab_tup (ab_cons ab_str (ab_cons ab_str ab_nil))))) (ab_for (ab_jrng1 (ab_cons (ab_op ab_sub (ab_cb ab_len (ab_cons ab_var ab_nil)) ab_int) ab_nil)) ab_name
      (ab_drop (ab_bm ab_isLst ab_mapp ab_var (ab_cons (ab_tup (ab_cons (ab_op ab_ix ab_var ab_int) (ab_cons (ab_op ab_add (ab_op ab_add (ab_sl ab_xsl ab_var ab_nopart (ab_part ab_var)) (ab_tup (ab_cons (ab_op ab_ix ab_var (ab_op ab_add ab_var ab_int)) (ab_cons (ab_op ab_ix ab_var ab_var) ab_nil)))) (ab_sl ab_xsl ab_var (ab_part (ab_op ab_add ab_var ab_int)) ab_nopart)) ab_nil))) ab_nil)))) ab_next)
      (ab_seq (ab_ifs (ab_test (ab_op ab_eq (ab_op ab_ix ab_var ab_int) ab_str)) (ab_for (ab_jrng2 (ab_cons ab_int (ab_cons (ab_cb ab_len (ab_cons ab_var ab_nil)) ab_nil))) ab_name
      (ab_drop (ab_bm ab_isLst ab_mapp ab_var (ab_cons (ab_tup (ab_cons (ab_op ab_ix ab_var ab_int) (ab_cons (ab_op ab_add (ab_sl ab_xsl ab_var (ab_part ab_var) ab_nopart) (ab_sl ab_xsl ab_var ab_nopart (ab_part ab_var))) ab_nil))) ab_nil)))) ab_next)
      (ab_seq (ab_for (ab_jargs ab_yenumS (ab_cons ab_var ab_nil)) (ab_gtup (ab_gcons ab_name (ab_gcons ab_name ab_gnil)))
      (ab_for (ab_jof ab_yseq (ab_call (ab_cons ab_var ab_nil))) ab_name
      (ab_drop (ab_bm ab_isLst ab_mapp ab_var (ab_cons (ab_call (ab_cons ab_var (ab_cons (ab_op ab_add (ab_op ab_add (ab_sl ab_xsl ab_var ab_nopart (ab_part ab_var)) (ab_tup (ab_cons ab_var ab_nil))) (ab_sl ab_xsl ab_var (ab_part (ab_op ab_add ab_var ab_int)) ab_nopart)) ab_nil))) ab_nil)))))
      (ab_ret ab_var)))))))⟩
    rintro us A Q ⟨w,rfl,hg,hd,ht,q⟩
    refine ⟨rfl,?_⟩
    have hpd:=w.parts_dep
    have hpt:=w.parts_tups
    have hpl:=len_tups w.parts
    walk_at "qs"
    rcases w.kinds with ⟨c,rfl⟩ | ⟨k,ps,rfl⟩ | hf
    . rw [Wr.toU]
      walk_at "qd"
      exact iteTt rfl ⟨by decide,fun p hp=>fg (q p hp)⟩
    . have hgp:gdL ps=true:=by simp only [Wr.gd,Bool.and_eq_true] at hg;exact hg.2
      have hk3:k<=3:=by simp only [Wr.gd,Bool.and_eq_true,decide_eq_true_eq] at hg;exact hg.1.1
      have hnt:=Wr.nin_tups'.1 (.many k ps)
      have hsl:=(Wr.many k ps).stps_len
      have hsL:=stpsL_len [] ps
      simp only [Wr.nin] at hnt hsl
      rw [Wr.toU_many]
      walk_at "qd"
      refine iteFf (nbm k) ?_
      walk_at "qd"
      refine ⟨.many k ps,by rw [Wr.toU_many],by decide,fun p hp=>?_⟩
      simp only [Wr.parts] at hpd hpt hpl ⊢
      walk_at "qd"
      rw [List.length_map]
      have fin:∀ (sw tn:List (List Wr)) A2,(Wr.many k ps).stps=(sw++tn++stpsL [] ps).map (Wr.many k)->Ext A A2->A2 p=some (.lst ((sw++tn).map (fun ps=>(Wr.many k ps).toU)++(stpsL [] ps).map fun qs=>(Wr.many k ps).wthU (qs.map Wr.toU)))->Fg Q (.ref p) A2:=fun sw tn A2 hs e h=>by
        refine ⟨_,?_,q p hp⟩
        rw [hs]
        rw [stps_many] at h
        refine Ext.of e ?_
        rw [h]
        simp only [List.map_append,List.map_map,Function.comp_def]
      have loop:∀ (pre:List (List Wr)) (A1:AHp) (x3 x4 x5:Option U),(Wr.many k ps).stps=(pre++stpsL [] ps).map (Wr.many k)->Ext A A1->A1 p=some (.lst (pre.map fun ps=>(Wr.many k ps).toU))->aLoop (jFix (enU (ps.map Wr.toU))) (bTup 2 (bCons (bName 3) (bCons (bName 4) bNil))) (stepBody n) { nx:=aRet (aVar 2) { nx:=fun _ A'=>Fg Q U.non A',rt:=Fg Q },rt:=Fg Q } [some (U.tup [U.str (mname k),U.tup (ps.map Wr.toU)]),some (U.tup (ps.map Wr.toU)),some (U.ref p),x3,x4,x5] A1:=fun pre A1 x3 x4 x5 hs e h=>by
        have hlen:=congrArg List.length hs
        simp only [List.length_append,List.length_map] at hlen
        refine step_loop (w:=.many k ps) (by rw [Wr.toU_many]) hp e h (fun c z=>by cases z) hgp (show depL ps<=n by lia) (show tupsL ps<=95 by lia) (by rw [List.length_map];show pre.length + (stpsL [] ps).length<=1000;lia) fun A2 x3 x4 x5 e h=>?_
        walk_at "qd"
        exact fin pre [] A2 (by rw [List.append_nil];exact hs) e (by rw [List.append_nil];exact h)
      refine ⟨tup2,rfl,rfl,?_⟩
      by_cases k12:k=1\/k=2
      . have hs:(Wr.many k ps).stps=(swaps ps++stpsL [] ps).map (Wr.many k):=by simp only [Wr.stps];rw [if_pos k12,if_neg (by lia)];simp
        refine iteTt (by rcases k12 with h | h;all_goals (subst h;decide +kernel)) ⟨by lia,by lia,?_⟩
        refine for_rng (fun j ρ A2=>∃ x3,ρ=[some (U.tup [U.str (mname k),U.tup (ps.map Wr.toU)]),some (U.tup (ps.map Wr.toU)),some (U.ref p),x3,none,none]/\Ext A A2/\A2 p=some (.lst (((List.range j).map (swAt ps)).map fun ps=>(Wr.many k ps).toU))) ⟨_,rfl,Ext.new hp,updA_same⟩ ?_ ?_
        . rintro j ρ A2 hj ⟨x3,rfl,e,h⟩
          rw [Int.zero_add]
          have hj1:j + 1 < ps.length:=by lia
          obtain ⟨x,hx⟩:∃ x,ps[j]? = some x:=⟨_,List.getElem?_eq_getElem (by lia)⟩
          obtain ⟨y,hy⟩:∃ y,ps[j + 1]? = some y:=⟨_,List.getElem?_eq_getElem hj1⟩
          have hxU:(ps.map Wr.toU)[j]? = some x.toU:=by rw [List.getElem?_map,hx];rfl
          have hyU:(ps.map Wr.toU)[j + 1]? = some y.toU:=by rw [List.getElem?_map,hy];rfl
          walk_at "qg"
          rw [cutTo (by rw [List.length_map];lia),show (j:Int) + 2=((j + 2:Nat):Int) from rfl,cutFrom (by rw [List.length_map];lia)]
          refine ⟨⟨_,h⟩,_,atI_nat (j:=j + 1) hyU,_,atI_nat hxU,tup2,line1000 (by simp;lia),line1000 (by simp;lia),tup2,_,h,line1000' (by simp;lia),_,rfl,e.in hp,?_⟩
          have es:swAt ps j=ps.take j++[y,x]++ps.drop (j + 2):=by
            have e1:(ps.drop (j + 1)).take 1=[y]:=by rw [List.take_one,List.head?_drop,hy];rfl
            have e2:(ps.drop j).take 1=[x]:=by rw [List.take_one,List.head?_drop,hx];rfl
            unfold swAt;rw [e1,e2];simp
          rw [updA_same,List.range_succ,List.map_append,List.map_append,List.map_cons,List.map_nil,List.map_cons,List.map_nil,es,Wr.toU_many]
          simp
        . rintro ρ A2 ⟨x3,rfl,e,h⟩
          walk_at "qd"
          refine iteFf (by rcases k12 with h | h;all_goals (subst h;decide +kernel)) ?_
          have en:((ps.length:Int) - 1).toNat=ps.length - 1:=by lia
          rw [en] at h
          exact loop (swaps ps) A2 _ _ _ hs e h
      . refine iteFf (by obtain h | h:k=0\/k=3:=(by lia);all_goals (subst h;decide +kernel)) ?_
        by_cases k3:k=3
        . subst k3
          have hs:(Wr.many 3 ps).stps=(turnsL ps++stpsL [] ps).map (Wr.many 3):=by simp [Wr.stps]
          refine iteTt (by decide +kernel) ⟨⟨by decide,by decide,by lia,by lia⟩,?_⟩
          refine for_rng (fun j ρ A2=>∃ x3,ρ=[some (U.tup [U.str (mname 3),U.tup (ps.map Wr.toU)]),some (U.tup (ps.map Wr.toU)),some (U.ref p),x3,none,none]/\Ext A A2/\A2 p=some (.lst (((List.range' 1 j).map (turnL ps)).map fun ps=>(Wr.many 3 ps).toU))) ⟨_,rfl,Ext.new hp,updA_same⟩ ?_ ?_
          . rintro j ρ A2 hj ⟨x3,rfl,e,h⟩
            rw [show (1:Int) + (j:Int)=((1 + j:Nat):Int) by lia]
            walk_at "qg"
            rw [cutTo (by rw [List.length_map];lia),cutFrom (by rw [List.length_map];lia)]
            refine ⟨⟨_,h⟩,line1000 (by simp;lia),tup2,_,h,line1000' (by simp;lia),_,rfl,e.in hp,?_⟩
            rw [updA_same,List.range'_1_concat,List.map_append,List.map_append,List.map_cons,List.map_nil,List.map_cons,List.map_nil,Wr.toU_many,turnL,List.map_append,List.map_drop,List.map_take]
          . rintro ρ A2 ⟨x3,rfl,e,h⟩
            walk_at "qd"
            have en:((ps.length:Int) - 1).toNat=ps.length - 1:=by lia
            rw [en] at h
            exact loop (turnsL ps) A2 _ _ _ hs e h
        . obtain rfl:k=0:=by lia
          refine iteFf (by decide +kernel) ?_
          walk_at "qd"
          exact loop [] _ _ _ _ (by simp [Wr.stps]) (Ext.new hp) updA_same
    . have hnt:=Wr.nin_tups'.2 w.parts
      have hsL:=stpsL_len [] w.parts
      have hwg:=(w.gd_parts hg).1
      rw [Wr.toU_few hf]
      walk_at "qd"
      refine iteFf (nb_name hf.1) ⟨w,by rw [Wr.toU_few hf],by decide,fun p hp=>⟨tup2,rfl,rfl,iteFf ?_ (iteFf ?_ ?_)⟩⟩
      . exact (few_bcr hf).1
      . exact (few_bcr hf).2
      . walk_at "qd"
        refine step_loop (w:=w) (by rw [Wr.toU_few hf]) hp (Ext.new hp) updA_same hf.1 hwg (by lia) (by lia) (by simp;lia) fun A2 x3 x4 x5 e h=>?_
        walk_at "qd"
        refine ⟨_,?_,q p hp⟩
        refine Ext.of e ?_
        rw [h,stps_few hf];rfl
end
noncomputable def asp_rch:ASp:=fun us A Q=>∃ w:Wr,us=[w.toU]/\w.gd=true/\w.tups<=6/\∀ (l:Addr) (sn:List Wr),A l=none->(∀ y,y∈sn ↔ Star Stp w y)->sn.length<=120->Q (.ref l) (updA A l (.lst (sn.map Wr.toU)))
section
include T
open Classical in
theorem ok_reached:FnOk P w K mg base CX0 99 f_w_reached d_w_reached ["_law_figure"] (spOf K asp_rch):=by
  have G_w_stepped:=ok_stp (P:=P) (w:=w) (base:=base) T 95
  refine' Fun.okA T.F_w_reached (sc:=?sc17) (body:=?bd17) ?hs17 ?hb17 sc_w_reached ?hB17 ?hS17
  case hs17=>conv=>lhs;whnf
  case hb17=>conv=>lhs;whnf
  case hB17=>exact fun S cdv A outer s H E hr=>⟨_,(pss_cons (ps_set (i:=1) S.nd rfl (Or.inl rfl) (pe_lst (pa_cons (pv 0) pa_nil)))
      (pss_cons (ps_set (i:=2) S.nd rfl (Or.inl rfl) (pe_lst (pa_cons (pv 0) pa_nil)))
      (pss_cons (ps_while PassesOwn.never (pt_cmpR o_gt (pe_callB c_len (by rfl) T.n_len (by decide +kernel) (pa_cons (pv 1) pa_nil)) pe_int (nomark _)) (pss_one (ps_for PassesOwn.never rfl (pj_seq (pe_call (G_w_stepped.mono (by first | decide | lia)) hr (by rfl) T.M_w_stepped T.F_w_stepped.kp T.B_w_stepped .nil pass0 (pa_cons (pe_bm0 PySem.F.plainAttrs_list PySem.F.slot_list_pop PySem.F.type_list_pop mt_pop (pv 1)) pa_nil))) (pg_name (i:=3) S.nd rfl (Or.inl rfl))
      (pss_one (ps_if (pt_cmpR (o_ninD hr) (pv 3) (pv 2) (by with_unfolding_all rfl)) (pss_cons (ps_expr (pe_bm PySem.F.plainAttrs_list PySem.F.slot_list_append PySem.F.type_list_append mt_append (pv 2) (pa_cons (pv 3) pa_nil)))
      (pss_one (ps_expr (pe_bm PySem.F.plainAttrs_list PySem.F.slot_list_append PySem.F.type_list_append mt_append (pv 1) (pa_cons (pv 3) pa_nil))))) pss_nil)))))
      (pss_one (ps_ret (pv 2)))))),(ab_seq (ab_asg (ab_lst (ab_cons ab_var ab_nil)) ab_name)
      (ab_seq (ab_asg (ab_lst (ab_cons ab_var ab_nil)) ab_name)
      (ab_seq (ab_while (ab_test (ab_op ab_gt (ab_cb ab_len (ab_cons ab_var ab_nil)) ab_int)) (ab_for (ab_jof ab_yseq (ab_call (ab_cons (ab_bm0 ab_isLst ab_mpop ab_var) ab_nil))) ab_name
      (ab_ifs (ab_test (ab_op ab_inDg ab_var ab_var)) (ab_seq (ab_drop (ab_bm ab_isLst ab_mapp ab_var (ab_cons ab_var ab_nil)))
      (ab_drop (ab_bm ab_isLst ab_mapp ab_var (ab_cons ab_var ab_nil)))) ab_next)))
      (ab_ret ab_var))))⟩
  rintro us A Q ⟨w,rfl,hg,ht,q⟩
  refine ⟨rfl,?_⟩
  have hpl:w.plays.length<=120:=plays_120 (by have:=Wr.nin_tups'.1 w;lia)
  have good:∀ y,y∈w.plays->Star Stp w y->y.gd=true/\y.dep<=95/\y.tups<=95:=fun y _ hs=>by
    have L:=star_lk hs hg
    have:=y.dep_le
    have h2:=L.tups
    exact ⟨L.gd,by lia,by lia⟩
  walk_at "qs"
  walk_at "qd"
  refine ⟨tup1,fun a ha=>⟨tup1,fun b hb=>?_⟩⟩
  have hab:a≠b:=fun z=>by rw [<- z,updA_same] at hb;cases hb
  have hbA:A b=none:=by rw [updA_ne (Ne.symm hab)] at hb;exact hb
  refine ⟨fun m ρ A2=>∃ (s:List Wr × List Wr) (x3:Option U),m=left w.plays s/\m<=240/\ρ=[some w.toU,some (.ref a),some (.ref b),x3]/\Ext A A2/\A2 a=some (.lst (s.1.map Wr.toU))/\A2 b=some (.lst (s.2.map Wr.toU))/\Srch Stp Wr.stps w w.plays s,
    ⟨_,([w],[w]),_,rfl,by unfold left;simp only [List.length_cons,List.length_nil];lia,rfl,(Ext.new ha).trans (Ext.new hb),by rw [updA_ne hab,updA_same];rfl,by rw [updA_same];rfl,Srch.start w.plays_self⟩,?_⟩
  rintro m ρ A2 ⟨⟨wt,sn⟩,x3,rfl,hm240,rfl,e2,h2a,h2b,I⟩
  walk_at "qd"
  refine ⟨_,h2a,?_⟩
  rw [List.length_map]
  rcases List.eq_nil_or_concat wt with rfl | ⟨ini,x,rfl⟩
  . refine iteFf rfl ⟨_,Ext.of e2 h2b,q b sn hbA (Srch.whole (s:=([],sn)) (fun _ _ h=>Stp.mem h) I) ?_⟩
    exact Nat.le_trans (nodup_len I.nd I.sub) hpl
  . rw [List.concat_eq_append] at h2a I hm240 ⊢
    refine iteTt (decide_eq_true (by simp only [List.length_append,List.length_singleton];lia)) ?_
    have M0:=Srch.mid (s:=(ini,sn)) I
    have hxg:=good x (I.sub x M0.mem) (I.star x M0.mem)
    have hxs:∀ o∈x.stps,o∈w.plays:=fun o ho=>w.plays_cl x o (I.sub x M0.mem) (x.stps_ok o ho)
    have M1:=M0.all' (fun o ho=>x.stps_ok o ho) hxs
    have J:=M1.out
    have hlt:=left_lt (s:=(ini,sn)) I J
    refine ⟨fun ρ' A'=>∃ x3,ρ'=[some w.toU,some (.ref a),some (.ref b),x3]/\Ext A A'/\A' a=some (.lst ((addAll x.stps (ini,sn)).1.map Wr.toU))/\A' b=some (.lst ((addAll x.stps (ini,sn)).2.map Wr.toU)),?_,⟨_,h2a⟩,ini.map Wr.toU,x.toU,by rw [h2a,List.map_append];rfl,x,rfl,hxg.1,hxg.2.1,hxg.2.2,fun r hr=>?_⟩
    . rintro ρ' A' ⟨x3,rfl,e3,h3a,h3b⟩
      exact ⟨_,hlt,_,x3,rfl,Nat.le_trans (Nat.le_of_lt hlt) hm240,rfl,e3,h3a,h3b,J⟩
    walk_at "qd"
    have hra:r≠a:=fun z=>by rw [z,updA_same] at hr;cases hr
    have hrb:r≠b:=fun z=>by rw [z,updA_ne (Ne.symm hab),h2b] at hr;cases hr
    refine ⟨⟨_,updA_same⟩,?_⟩
    refine for_lst (x.stps.map Wr.toU) (fun j ρ A3=>∃ x3,ρ=[some w.toU,some (.ref a),some (.ref b),x3]/\Ext A A3/\A3 r=some (.lst (x.stps.map Wr.toU))/\A3 a=some (.lst ((addAll (x.stps.take j) (ini,sn)).1.map Wr.toU))/\A3 b=some (.lst ((addAll (x.stps.take j) (ini,sn)).2.map Wr.toU)))
      ⟨_,rfl,(e2.in ha).trans (Ext.new hr),updA_same,by rw [updA_ne (Ne.symm hra),updA_same];rfl,by rw [updA_ne (Ne.symm hrb),updA_ne (Ne.symm hab),h2b];rfl⟩ (fun j ρ A3 _ ⟨_,_,_,h,_⟩=>h) ?_ ?_
    . rintro j u ρ A3 hu ⟨x3,rfl,e3,h3r,h3a,h3b⟩
      obtain ⟨o,ho,rfl⟩:=map_get hu
      have hom:=List.mem_of_getElem? ho
      have Mj:=mid_take (fun o ho=>x.stps_ok o ho) hxs M0 j
      have hog:=good o (hxs o hom) (.tail (I.star x M0.mem) (x.stps_ok o hom))
      have hsl:=Nat.le_trans (nodup_len Mj.nd Mj.sub) hpl
      have hwl:=addAll_len (x.stps.take j) (ini,sn)
      have et:addAll (x.stps.take (j + 1)) (ini,sn)=addOne (addAll (x.stps.take j) (ini,sn)) o:=by rw [List.take_add_one,ho];exact addAll_snoc _ _ _
      rw [et]
      generalize addAll (x.stps.take j) (ini,sn)=s at h3a h3b Mj hsl hwl ⊢
      obtain ⟨s1,s2⟩:=s
      walk_at "qd"
      refine inW h3b (fun v hv=>(good v (Mj.sub v hv) (Mj.star v hv)).1) (fun v hv=>(good v (Mj.sub v hv) (Mj.star v hv)).2.1) hog.1 (decide (o∈s2)) decide_eq_true_iff ?_
      by_cases hm:o∈s2
      . have ea:addOne (s1,s2) o=(s1,s2):=if_pos hm
        rw [ea,decide_eq_true hm]
        walk_at "qd"
        exact iteFf rfl ⟨_,rfl,e3,h3r,h3a,h3b⟩
      . have ea:addOne (s1,s2) o=(s1++[o],s2++[o]):=if_neg hm
        rw [ea,decide_eq_false hm]
        walk_at "qd"
        have hl1:s1.length<=1000:=by simp only at hwl hsl;unfold left at hm240;simp only [List.length_append,List.length_cons,List.length_nil] at hm240;lia
        refine iteTt rfl ⟨⟨_,h3b⟩,_,h3b,line1000' (by rw [List.length_map];simp only at hsl ⊢;lia),⟨_,by rw [updA_ne hab];exact h3a⟩,_,by rw [updA_ne hab];exact h3a,line1000' (by rw [List.length_map];exact Nat.le_trans hl1 (by decide)),_,rfl,(e3.in hbA).in ha,by rw [updA_ne hra,updA_ne hrb];exact h3r,by rw [updA_same,List.map_append];rfl,by rw [updA_ne (Ne.symm hab),updA_same,List.map_append];rfl⟩
    . rintro ρ A3 ⟨x3,rfl,e3,h3r,h3a,h3b⟩
      rw [List.length_map,List.take_length] at h3a h3b
      exact ⟨_,rfl,e3,h3a,h3b⟩
end
noncomputable def asp_oth (n:Nat):ASp:=fun us A Q=>∃ (w:Wr) (z t:Int),us=[w.toU,.int z,.int t]/\w.gd=true/\w.dep<=n/\w.tups<=95/\∀ v:Wr,v.gd=true->v.tups=w.tups->Q v.toU A
section
include T
theorem ok_other:∀ n:Nat,FnOk P w K mg base CX0 (n + 2) f_w_other d_w_other ["_law_figure","_law_how","_law_turn"] (spOf K (asp_oth n)):=by
  intro n
  induction n with
  | zero=>exact none_yet T.F_w_other sc_w_other fun us A Q hq0=>by obtain ⟨w,_,_,_,_,hd,_⟩:=hq0;have:=w.dep_pos;lia
  | succ n ih =>
    have G_w_other:=ih
    have G_w_parts:=ok_lparts (P:=P) (w:=w) (base:=base) T
    have G_w_with:=ok_with (P:=P) (w:=w) (base:=base) T
    refine' Fun.okA T.F_w_other (sc:=?sc18) (body:=?bd18) ?hs18 ?hb18 sc_w_other ?hB18 ?hS18
    case hs18=>conv=>lhs;whnf
    case hb18=>conv=>lhs;whnf
    case hB18=>exact fun S cdv A outer s H E hr=>⟨_,(pss_cons (ps_if (pt_cmpR (o_eqD hr) (pe_ix o_ix (pv 0) pe_int (fun _ _=>rfl)) pe_str (nomark _)) (pss_cons (ps_if (pt_cmpR (o_eqD hr) (pe_op o_mod (pv 1) pe_int) pe_int (nomark _)) (pss_one (ps_ret (pe_tup (pa_cons pe_str (pa_cons (pe_ix o_ix (pe_lst (pa_strs (xs:=["red","ash","blue"]) rfl)) (pe_op o_mod (pv 2) pe_int) (fun _ _=>rfl)) pa_nil))))) pss_nil)
      (pss_one (ps_ret (pv 0)))) pss_nil)
      (pss_cons (ps_setC (i:=3) S.nd rfl (Or.inl rfl) (by with_unfolding_all rfl) (ts:=["_law_k","_law_part"]) (frs':=[("_law_how",1),("_law_turn",2)]) (cl:=_) rfl ⟨(by rfl),rfl,(by decide +kernel),(by decide +kernel),(allm_cons (by rfl) (allm_cons (by rfl) allm_nil)),(free_has (by rfl) (by rfl)),(allm_cons ⟨(by rfl),(by first | exact .inl rfl | exact .inr rfl),(by first | exact .inl rfl | exact .inr rfl),(by rfl)⟩ (allm_cons ⟨(by rfl),(by first | exact .inl rfl | exact .inr rfl),(by first | exact .inl rfl | exact .inr rfl),(by rfl)⟩ allm_nil))⟩ (pj_enumS (by rfl) T.n_enumerate (pa_cons (pe_call (G_w_parts.mono (by first | decide | lia)) hr (by rfl) T.M_w_parts T.F_w_parts.kp T.B_w_parts .nil pass0 (pa_cons (pv 0) pa_nil)) pa_nil)) (fun _ _ _ _=>pg_tupK K rfl 2 rfl (pgs_cons (pg_name (i:=0) (show List.Nodup (["_law_k","_law_part","_law_how","_law_turn"]:List Str) from by decide +kernel) rfl (Or.inl rfl) (.inr rfl)) (pgs_cons (pg_name (i:=1) (show List.Nodup (["_law_k","_law_part","_law_how","_law_turn"]:List Str) from by decide +kernel) rfl (Or.inl rfl) (.inr rfl)) pgs_nil)) (by rfl) (by rfl)) (fun _ _ _ _=>pifs_nil) (fun _ _ _ _=>by exact (pe_call (G_w_other.mono (by first | decide | lia)) hr (by rfl) T.M_w_other T.F_w_other.kp T.B_w_other .nil pass0 (pa_cons (pv 1) (pa_cons (pv 2) (pa_cons (pe_op (k_addW K rfl) (pe_op o_fdiv (pv 3) pe_int) (pv 0)) pa_nil))))))
      (pss_cons (ps_if ((pw_and (pt_cmpR (o_eqD hr) (pe_op o_mod (pv 1) pe_int) pe_int (nomark _)) (pw_and1 (pt_cmpR o_gt (pe_callB c_len (by rfl) T.n_len (by decide +kernel) (pa_cons (pv 3) pa_nil)) pe_int (nomark _))))).pt (pss_one (ps_set (i:=3) S.nd rfl (Or.inl rfl) (pe_op o_addW (pe_slice o_slW (pv 3) (po_some pe_int) po_none) (pe_slice o_slW (pv 3) po_none (po_some pe_int))))) pss_nil)
      (pss_cons (ps_if (pt_cmpR (o_eqD hr) (pe_op o_mod (pv 1) pe_int) pe_int (nomark _)) (pss_one (ps_set (i:=3) S.nd rfl (Or.inl rfl) (pe_listRev rfl (by rfl) T.n_list (by rfl) T.n_reversed (pv 3)))) pss_nil)
      (pss_one (ps_ret (pe_call (G_w_with.mono (by first | decide | lia)) hr (by rfl) T.M_w_with T.F_w_with.kp T.B_w_with .nil pass0 (pa_cons (pv 0) (pa_cons (pv 3) pa_nil))))))))),(ab_seq (ab_ifs (ab_test (ab_op ab_eq (ab_op ab_ix ab_var ab_int) ab_str)) (ab_seq (ab_ifs (ab_test (ab_op ab_eq (ab_op ab_mod ab_var ab_int) ab_int)) (ab_ret (ab_tup (ab_cons ab_str (ab_cons (ab_op ab_ix (ab_lst ab_strs) (ab_op ab_mod ab_var ab_int)) ab_nil)))) ab_next)
      (ab_ret ab_var)) ab_next)
      (ab_seq (ab_asg (ab_comp (ab_jargs ab_yenumS (ab_cons (ab_call (ab_cons ab_var ab_nil)) ab_nil)) (ab_gtup (ab_gcons ab_name (ab_gcons ab_name ab_gnil))) ab_true (ab_call (ab_cons ab_var (ab_cons ab_var (ab_cons (ab_op ab_add (ab_op ab_div ab_var ab_int) ab_var) ab_nil))))) ab_name)
      (ab_seq (ab_ifs (ab_and (ab_test (ab_op ab_eq (ab_op ab_mod ab_var ab_int) ab_int)) (ab_test (ab_op ab_gt (ab_cb ab_len (ab_cons ab_var ab_nil)) ab_int))) (ab_asg (ab_op ab_add (ab_sl ab_xsl ab_var (ab_part ab_int) ab_nopart) (ab_sl ab_xsl ab_var ab_nopart (ab_part ab_int))) ab_name) ab_next)
      (ab_seq (ab_ifs (ab_test (ab_op ab_eq (ab_op ab_mod ab_var ab_int) ab_int)) (ab_asg (ab_listrev ab_var) ab_name) ab_next)
      (ab_ret (ab_call (ab_cons ab_var (ab_cons ab_var ab_nil))))))))⟩
    rintro us A Q ⟨w,z,t,rfl,hg,hd,ht,q⟩
    refine ⟨rfl,?_⟩
    have hpd:=w.parts_dep
    have hpt:=w.parts_tups
    have hpl:=len_tups w.parts
    walk_at "qs"
    rcases bead_or w with ⟨c,rfl⟩ | hb
    . rw [Wr.toU]
      walk_at "qd"
      refine iteTt (decide_eq_true trivial) ⟨by decide,iteB (fun _=>⟨by decide,fun p hp=>?_⟩) fun _=>fg (q (.bead c) hg rfl)⟩
      obtain ⟨d,hd,hok⟩:=col3_at t
      exact ⟨by decide,_,_,updA_same,hd,tup2,fgx (Ext.new hp) (q (.bead d) hok rfl)⟩
    . obtain ⟨rest,e⟩:∃ rest,w.toU=.tup (.str w.name::rest):=by
        rcases w.kinds with ⟨c,rfl⟩ | ⟨k,ps,rfl⟩ | hf
        . exact absurd rfl (hb c)
        . exact ⟨_,Wr.toU_many k ps⟩
        . exact ⟨_,Wr.toU_few hf⟩
      rw [e]
      walk_at "qd"
      refine iteFf (nb_name hb) ⟨w,by rw [e],?_⟩
      walk_at "qd"
      intro l hl
      walk_at "qc"
      refine cl_inv2 (enU (w.parts.map Wr.toU)) (fun k ys A2=>∃ vs:List Wr,ys=vs.map Wr.toU/\vs.length=k/\gdL vs=true/\tupsL vs=tupsL (w.parts.take k)/\A2=updA A l (.lst ys))
        ⟨[],rfl,rfl,rfl,rfl,rfl⟩ (by rw [enU_len,List.length_map];lia) (fun k ys A2 hq0=>by obtain ⟨vs,e,h,_⟩:=hq0;rw [e,List.length_map];exact h) (fun _ _ _ _ _=>rfl) ?_ ?_
      . rintro k u ys A2 hu ⟨vs,rfl,hk,hvg,hvt,rfl⟩
        rw [enU_get] at hu
        obtain ⟨u',hu',rfl⟩:=Option.map_eq_some_iff.mp hu
        obtain ⟨v,hv,rfl⟩:=map_get hu'
        have hvm:=List.mem_of_getElem? hv
        have hvd:=depL_mem hvm
        have hvt2:=tupsL_mem hvm
        refine ⟨_,_,rfl,fun Cy hC=>?_⟩
        walk_at "qd"
        refine ⟨⟨by decide,by decide⟩,v,_,_,rfl,gdL_mem (w.gd_parts hg).1 hvm,by lia,by lia,fun y hy hyt=>hC _ _ updA_same ⟨vs++[y],by rw [List.map_append];rfl,by rw [List.length_append,hk];rfl,by rw [gdL_app,hvg];simp [gdL,hy],?_,by rw [updA_updA]⟩⟩
        rw [List.take_add_one,hv,tupsL_app,hvt]
        show _=tupsL (_++[v])
        rw [tupsL_app]
        simp only [tupsL,hyt]
      . rintro ys A2 ⟨vs,rfl,hk,hvg,hvt,rfl⟩
        rw [enU_len,List.length_map] at hk hvt
        rw [List.take_length] at hvt
        have fin:∀ (rs:List Wr) (x:Addr) (A3:AHp),rs.Perm vs->Ext A A3->A3 x=some (.lst (rs.map Wr.toU))->asp_with [.tup (.str w.name::rest),.ref x] A3 (Fg Q):=fun rs x A3 p e3 h3=>by
          have hrl:=p.length_eq
          obtain ⟨v,h1,h2,h4⟩:=wth_ok (rs:=rs) hb hg (by lia) (gdL_perm p.symm hvg) (by rw [tupsL_perm p];exact hvt)
          refine ⟨w,_,_,by rw [e],.inr ⟨x,rfl,h3⟩,by rw [List.length_map];lia,hb,?_⟩
          rw [<- h1]
          exact fgx e3 (q v h2 h4)
        have e0:=Ext.new (o:=.lst (vs.map Wr.toU)) hl
        have a0:updA A l (.lst (vs.map Wr.toU)) l=some (.lst (vs.map Wr.toU)):=updA_same
        generalize updA A l (.lst (vs.map Wr.toU))=A0 at e0 a0 ⊢
        walk_at "qd"
        have self:=fin vs l A0 (.refl _) e0 a0
        refine ⟨by decide,?_⟩
        by_cases h0:z % 3=0
        . refine iteTt (decide_eq_true h0) ⟨_,a0,iteB (fun h=>?_) fun _=>⟨by decide,iteFf (decide_eq_false (by lia)) self⟩⟩
          have h1:1 < vs.length:=by simp at h;lia
          refine ⟨_,a0,fun p1 hp1=>⟨_,by rw [updA_ne (neA a0 hp1)];exact a0,fun p2 hp2=>?_⟩⟩
          have c1:cutU (vs.map Wr.toU) (some 1) none=(vs.map Wr.toU).drop 1:=cutFrom (k:=1) (by rw [List.length_map];lia)
          have c2:cutU (vs.map Wr.toU) none (some 1)=(vs.map Wr.toU).take 1:=cutTo (k:=1) (by rw [List.length_map];lia)
          rw [c1] at hp2 ⊢
          rw [c2]
          have n12:p1≠p2:=neA updA_same hp2
          refine ⟨_,_,by rw [updA_ne n12,updA_same],updA_same,line1000 (by simp;lia),fun p3 hp3=>⟨by decide,iteFf (decide_eq_false (by lia)) ?_⟩⟩
          refine fin (turnL vs 1) p3 _ (turnL_perm vs 1) (e0.trans ((Ext.new hp1).trans ((Ext.new hp2).trans (Ext.new hp3)))) ?_
          rw [updA_same,turnL,List.map_append,List.map_drop,List.map_take]
        . refine iteFf (decide_eq_false h0) (iteFf rfl ⟨by decide,iteB (fun _=>⟨l,_,rfl,a0,fun p hp=>?_⟩) fun _=>self⟩)
          exact fin vs.reverse p _ (List.reverse_perm vs) (e0.trans (Ext.new hp)) (by rw [updA_same,List.map_reverse])
end
section
include T
theorem ok_law (hBA_plain_by:base.BuiltinsAt mg t_plain_by):FnOk P w K mg base CX0 200 f_law d_law ["_law_script"] (spOf K (aspLawT [(t_plain_by,lpos_p,"plain_by.<locals>.<lambda>")])):=by
  have G_w_mix:=ok_mix (P:=P) (w:=w) (base:=base) T
  have G_w_cell:=ok_cell (P:=P) (w:=w) (base:=base) T
  have G_w_small:=ok_small (P:=P) (w:=w) (base:=base) T
  have G_w_other:=ok_other (P:=P) (w:=w) (base:=base) T 95
  have G_w_reached:=ok_reached (P:=P) (w:=w) (base:=base) T
  have G_plain:=ok_plain (P:=P) (w:=w) (base:=base) T hBA_plain_by
  refine' Fun.okA T.F_law (sc:=?sc19) (body:=?bd19) ?hs19 ?hb19 sc_law ?hB19 ?hS19
  case hs19=>conv=>lhs;whnf
  case hb19=>conv=>lhs;whnf
  case hB19=>exact fun S cdv A outer s H E hr=>⟨_,(pss_cons (ps_set (i:=0) S.nd rfl (Or.inl rfl) (pe_call (G_w_mix.mono (by first | decide | lia)) hr (by rfl) T.M_w_mix T.F_w_mix.kp T.B_w_mix .nil pass0 (pa_cons (pv 0) pa_nil)))
      (pss_cons (ps_set (i:=1) S.nd rfl (Or.inl rfl) (pe_call (G_w_cell.mono (by first | decide | lia)) hr (by rfl) T.M_w_cell T.F_w_cell.kp T.B_w_cell .nil pass0 (pa_cons (pv 0) (pa_cons pe_int pa_nil))))
      (pss_cons (ps_set (i:=2) S.nd rfl (Or.inl rfl) (pe_call (G_w_small.mono (by first | decide | lia)) hr (by rfl) T.M_w_small T.F_w_small.kp T.B_w_small .nil pass0 (pa_cons (pe_slice o_slW (pv 0) (po_some pe_int) (po_some pe_int)) (pa_cons (pv 1) pa_nil))))
      (pss_cons (ps_set (i:=3) S.nd rfl (Or.inl rfl) (pe_call (G_w_other.mono (by first | decide | lia)) hr (by rfl) T.M_w_other T.F_w_other.kp T.B_w_other .nil pass0 (pa_cons (pv 2) (pa_cons (pe_op o_fdiv (pv 1) pe_int) (pa_cons (pe_op o_mod (pe_call (G_w_cell.mono (by first | decide | lia)) hr (by rfl) T.M_w_cell T.F_w_cell.kp T.B_w_cell .nil pass0 (pa_cons (pv 0) (pa_cons pe_int pa_nil))) (pe_op o_pow pe_int pe_int)) pa_nil)))))
      (pss_cons (ps_set (i:=4) S.nd rfl (Or.inl rfl) (pe_call (G_plain.mono (by first | decide | lia)) hr (by rfl) T.M_plain T.F_plain.kp T.B_plain .nil pass0 (pa_cons (pv 2) pa_nil)))
      (pss_cons (ps_set (i:=5) S.nd rfl (Or.inl rfl) (pe_call (G_w_reached.mono (by first | decide | lia)) hr (by rfl) T.M_w_reached T.F_w_reached.kp T.B_w_reached .nil pass0 (pa_cons (pv 2) pa_nil)))
      (pss_cons (ps_if (pt_cmpR (o_ninD hr) (pv 4) (pv 5) (by with_unfolding_all rfl)) (pss_one (ps_ret pe_bl)) pss_nil)
      (pss_cons (ps_for PassesOwn.never rfl (pj_seq (pe_slice o_slW (pv 5) po_none (po_some pe_int))) (pg_name (i:=6) S.nd rfl (Or.inl rfl))
      (pss_one (ps_if (pt_cmpR (o_neD hr) (pe_call (G_plain.mono (by first | decide | lia)) hr (by rfl) T.M_plain T.F_plain.kp T.B_plain .nil pass0 (pa_cons (pv 6) pa_nil)) (pv 4) (nomark _)) (pss_one (ps_ret pe_bl)) pss_nil)))
      (pss_one (ps_ret (pe_cmpR (o_eqD hr) (pe_cmpR (o_eqD hr) (pe_call (G_plain.mono (by first | decide | lia)) hr (by rfl) T.M_plain T.F_plain.kp T.B_plain .nil pass0 (pa_cons (pv 3) pa_nil)) (pv 4) (nomark _)) (pe_cmpR (o_inD hr) (pv 3) (pv 5) (by with_unfolding_all rfl)) (nomark _)))))))))))),(ab_seq (ab_asg (ab_call (ab_cons ab_var ab_nil)) ab_name)
      (ab_seq (ab_asg (ab_call (ab_cons ab_var (ab_cons ab_int ab_nil))) ab_name)
      (ab_seq (ab_asg (ab_call (ab_cons (ab_sl ab_xsl ab_var (ab_part ab_int) (ab_part ab_int)) (ab_cons ab_var ab_nil))) ab_name)
      (ab_seq (ab_asg (ab_call (ab_cons ab_var (ab_cons (ab_op ab_div ab_var ab_int) (ab_cons (ab_op ab_mod (ab_call (ab_cons ab_var (ab_cons ab_int ab_nil))) (ab_op ab_pow ab_int ab_int)) ab_nil)))) ab_name)
      (ab_seq (ab_asg (ab_call (ab_cons ab_var ab_nil)) ab_name)
      (ab_seq (ab_asg (ab_call (ab_cons ab_var ab_nil)) ab_name)
      (ab_seq (ab_ifs (ab_test (ab_op ab_inDg ab_var ab_var)) (ab_ret ab_bl) ab_next)
      (ab_seq (ab_for (ab_jof ab_yseq (ab_sl ab_xsl ab_var ab_nopart (ab_part ab_int))) ab_name
      (ab_ifs (ab_test (ab_op ab_ne (ab_call (ab_cons ab_var ab_nil)) ab_var)) (ab_ret ab_bl) ab_next))
      (ab_ret (ab_op ab_eq (ab_op ab_eq (ab_call (ab_cons ab_var ab_nil)) ab_var) (ab_op ab_inDg ab_var ab_var)))))))))))⟩
  rintro us A Q ⟨ns,rfl,hl,hts,q⟩
  have hC1:Cp t_plain_by A:=hts (t_plain_by,lpos_p,"plain_by.<locals>.<lambda>") (.head _)
  refine ⟨rfl,?_⟩
  walk_at "qs"
  walk_at "qd"
  refine ⟨ns,rfl,hl,fun l ms hl0 hml=>?_⟩
  walk_at "qd"
  have e0:=Ext.new (o:=.lst (ms.map U.int)) hl0
  have a0:updA A l (.lst (ms.map U.int)) l=some (.lst (ms.map U.int)):=updA_same
  generalize updA A l (.lst (ms.map U.int))=A0 at e0 a0 ⊢
  refine ⟨l,ms,0,rfl,a0,by decide,fun z0=>⟨_,a0,fun p hp=>?_⟩⟩
  rw [cutU_map]
  refine ⟨p,_,z0,rfl,updA_same,?_,fun k ws hg ht=>?_⟩
  . unfold cutL
    rw [List.length_take,show HT.sIx ms.length ms.length (some 7)=min 7 ms.length from HT.sIx_nat ms.length ms.length 7,show HT.sIx ms.length 0 (some 2)=min 2 ms.length from HT.sIx_nat ms.length 0 2]
    lia
  have e1:=Ext.new (o:=.lst ((cutL ms (some 2) (some 7)).map U.int)) hp
  generalize updA A0 p (.lst ((cutL ms (some 2) (some 7)).map U.int))=A1 at e1 ⊢
  have hC2:Cp t_plain_by A1:=e1 _ _ (e0 _ _ hC1)
  have hd:=(Wr.many k ws).dep_le
  generalize Wr.many k ws=f at hg ht hd ⊢
  walk_at "qd"
  refine ⟨⟨by decide,by decide⟩,l,ms,1,rfl,e1 _ _ a0,by decide,fun z1=>?_⟩
  walk_at "qd"
  refine ⟨⟨by decide,by decide,by decide⟩,by decide,f,_,_,rfl,hg,by lia,by lia,fun v hvg hvt=>⟨f,rfl,okW_gd hg (by lia),hC2,f,rfl,hg,ht,fun s sn hs hsn hn=>?_⟩⟩
  have a2:updA A1 s (.lst (sn.map Wr.toU)) s=some (.lst (sn.map Wr.toU)):=updA_same
  have hC3:Cp t_plain_by (updA A1 s (.lst (sn.map Wr.toU))):=Ext.new hs _ _ hC2
  generalize updA A1 s (.lst (sn.map Wr.toU))=A2 at a2 hC3 ⊢
  have hpg:=f.pl_gd hg
  have hpd:=f.pl_dep
  have hpt:=f.pl_tups
  have hgo:∀ y∈sn,y.gd=true/\y.tups<=6/\y.dep<=95/\y.pl=f.pl:=fun y hy=>by
    have L:=star_lk ((hsn y).mp hy) hg
    have h1:=L.tups
    have h2:=y.dep_le
    exact ⟨L.gd,by lia,by lia,L.pl⟩
  refine inW a2 (fun y hy=>(hgo y hy).1) (fun y hy=>(hgo y hy).2.2.1) hpg true ⟨fun _=>(hsn _).mpr (f.star_pl hg),fun _=>rfl⟩ ⟨_,rfl,iteFf rfl ?_⟩
  walk_at "qd"
  refine ⟨_,a2,fun p2 hp2=>⟨⟨_,updA_same⟩,?_⟩⟩
  rw [cutU_map]
  have hmem:∀ y∈cutL sn none (some 200),y∈sn:=fun y hy=>cutL_mem hy
  generalize cutL sn none (some 200)=few at hmem ⊢
  have a3:=Ext.new (o:=.lst (few.map Wr.toU)) hp2 _ _ a2
  have a4:updA A2 p2 (.lst (few.map Wr.toU)) p2=some (.lst (few.map Wr.toU)):=updA_same
  have hC4:Cp t_plain_by (updA A2 p2 (.lst (few.map Wr.toU))):=Ext.new hp2 _ _ hC3
  generalize updA A2 p2 (.lst (few.map Wr.toU))=A3 at a3 a4 hC4 ⊢
  refine for_lst (few.map Wr.toU) (fun k ρ A4=>∃ x6,ρ=[some (.ref l),some (.int z0),some f.toU,some v.toU,some f.pl.toU,some (.ref s),x6]/\A4=A3) ⟨_,rfl,rfl⟩ (fun k ρ A4 _ hq0=>by obtain ⟨_,_,e⟩:=hq0;rw [e];exact a4) ?_ ?_
  . rintro k u ρ A4 hu ⟨x6,rfl,rfl⟩
    obtain ⟨y,hy,rfl⟩:=map_get hu
    obtain ⟨h1,h2,h3,h4⟩:=hgo y (hmem y (List.mem_of_getElem? hy))
    walk_at "qd"
    refine ⟨y,rfl,okW_gd h1 (by lia),hC4,?_⟩
    try dsimp only
    rw [h4,q_neW]
    refine neW (f.pl.gd_ok hpg) (f.pl.gd_ok hpg) (by lia) ?_
    rw [f.pl.like_self (f.pl.gd_ok hpg)]
    exact ⟨_,rfl,iteFf rfl ⟨_,rfl,rfl⟩⟩
  . rintro ρ A4 ⟨x6,rfl,rfl⟩
    walk_at "qd"
    refine ⟨v,rfl,okW_gd hvg (by lia),hC4,?_⟩
    try dsimp only
    have hvp:=v.pl_gd hvg
    have hvd:=v.pl_dep
    have hvd2:=v.dep_le
    rw [q_eqW]
    refine eqW (v.pl.gd_ok hvp) (f.pl.gd_ok hpg) (by lia) ?_
    refine inW a3 (fun y hy=>(hgo y hy).1) (fun y hy=>(hgo y hy).2.2.1) hvg (v.pl.like f.pl) ?_ ?_
    . rw [hsn,star_iff hg hvg]
      exact ⟨v.pl.like_eq f.pl (v.pl.gd_nrm hvp) (f.pl.gd_nrm hpg),fun e=>by rw [e];exact f.pl.like_self (f.pl.gd_ok hpg)⟩
    . walk_at "qd"
      rw [show decide (v.pl.like f.pl=if false=true then !v.pl.like f.pl else v.pl.like f.pl)=true by simp]
      exact fg (q _)
end
noncomputable abbrev tabs:Tabs:=[(65,lpos_p,"plain_by.<locals>.<lambda>")]
theorem all_mk {l:PySem.W.OpenLaw} {w:World} {K:PySem.W.Frag} {h:Heap} {mg:Str->Option Value} {fa:Addr} {f_parts_of f_made_of f_folded f_folded_over f_key_by f_plain f_plain_with_key f_plain_by f_least_start f_w_mix f_w_cell f_w_put f_w_small f_w_parts f_w_with f_w_stepped f_w_reached f_w_other f_law:Addr} {od_parts_of an_parts_of od_made_of an_made_of od_folded an_folded od_folded_over an_folded_over od_key_by an_key_by od_plain an_plain od_plain_with_key an_plain_with_key od_plain_by an_plain_by od_least_start an_least_start od_w_mix an_w_mix od_w_cell an_w_cell od_w_put an_w_put od_w_small an_w_small od_w_parts an_w_parts od_w_with an_w_with od_w_stepped an_w_stepped od_w_reached an_w_reached od_w_other an_w_other od_law an_law:Option Addr} {sl_parts_of sl_made_of sl_folded sl_folded_over sl_key_by sl_plain sl_plain_with_key sl_plain_by sl_least_start sl_w_mix sl_w_cell sl_w_put sl_w_small sl_w_parts sl_w_with sl_w_stepped sl_w_reached sl_w_other sl_law:Array (Option Value)} {oc_parts_of kV_parts_of dc_parts_of pm_parts_of ct_parts_of cd_parts_of oc_made_of kV_made_of dc_made_of pm_made_of ct_made_of cd_made_of oc_folded kV_folded dc_folded pm_folded ct_folded cd_folded oc_folded_over kV_folded_over dc_folded_over pm_folded_over ct_folded_over cd_folded_over oc_key_by kV_key_by dc_key_by pm_key_by ct_key_by cd_key_by oc_plain kV_plain dc_plain pm_plain ct_plain cd_plain oc_plain_with_key kV_plain_with_key dc_plain_with_key pm_plain_with_key ct_plain_with_key cd_plain_with_key oc_plain_by kV_plain_by dc_plain_by pm_plain_by ct_plain_by oc_least_start kV_least_start dc_least_start pm_least_start ct_least_start cd_least_start oc_w_mix kV_w_mix dc_w_mix pm_w_mix ct_w_mix cd_w_mix oc_w_cell kV_w_cell dc_w_cell pm_w_cell ct_w_cell cd_w_cell oc_w_put kV_w_put dc_w_put pm_w_put ct_w_put cd_w_put oc_w_small kV_w_small dc_w_small pm_w_small ct_w_small cd_w_small oc_w_parts kV_w_parts dc_w_parts pm_w_parts ct_w_parts cd_w_parts oc_w_with kV_w_with dc_w_with pm_w_with ct_w_with cd_w_with oc_w_stepped kV_w_stepped dc_w_stepped pm_w_stepped ct_w_stepped cd_w_stepped oc_w_reached kV_w_reached dc_w_reached pm_w_reached ct_w_reached cd_w_reached oc_w_other kV_w_other dc_w_other pm_w_other ct_w_other cd_w_other oc_law kV_law dc_law pm_law ct_law cd_law:Value} {c_plain_by:Addr} {a_KINDS:Addr} {oc_KINDS:Value} {od_KINDS:Option Addr} {is_KINDS:Array Value} {sn_KINDS:Nat} {sl_KINDS:Array (Option Value)} {a_MANY:Addr} {oc_MANY:Value} {od_MANY:Option Addr} {is_MANY:Array Value} {sn_MANY:Nat} {sl_MANY:Array (Option Value)} (X:K.In h) (G:h.Ns mainGlobals mg) (hfa:mg "law"=some (.ref fa))
    (a_parts_of:PySem.W.nsIn K mainGlobals "parts_of"=some (some (.ref f_parts_of))) (l_parts_of:K.lookup f_parts_of=some ⟨oc_parts_of,od_parts_of,.func (PySem.W.fnOf "parts_of" "parts_of" (defArgs s_parts_of) (defBody s_parts_of) (defScope s_parts_of) .none kV_parts_of dc_parts_of pm_parts_of an_parts_of cd_parts_of ct_parts_of),sl_parts_of⟩) (x_parts_of:PySem.W.codeIn K cd_parts_of "parts_of"=true) (k_parts_of:PySem.W.keepIn K (.ref f_parts_of)=true)
    (a_made_of:PySem.W.nsIn K mainGlobals "made_of"=some (some (.ref f_made_of))) (l_made_of:K.lookup f_made_of=some ⟨oc_made_of,od_made_of,.func (PySem.W.fnOf "made_of" "made_of" (defArgs s_made_of) (defBody s_made_of) (defScope s_made_of) .none kV_made_of dc_made_of pm_made_of an_made_of cd_made_of ct_made_of),sl_made_of⟩) (x_made_of:PySem.W.codeIn K cd_made_of "made_of"=true) (k_made_of:PySem.W.keepIn K (.ref f_made_of)=true)
    (a_folded:PySem.W.nsIn K mainGlobals "folded"=some (some (.ref f_folded))) (l_folded:K.lookup f_folded=some ⟨oc_folded,od_folded,.func (PySem.W.fnOf "folded" "folded" (defArgs s_folded) (defBody s_folded) (defScope s_folded) .none kV_folded dc_folded pm_folded an_folded cd_folded ct_folded),sl_folded⟩) (x_folded:PySem.W.codeIn K cd_folded "folded"=true) (k_folded:PySem.W.keepIn K (.ref f_folded)=true)
    (a_folded_over:PySem.W.nsIn K mainGlobals "folded_over"=some (some (.ref f_folded_over))) (l_folded_over:K.lookup f_folded_over=some ⟨oc_folded_over,od_folded_over,.func (PySem.W.fnOf "folded_over" "folded_over" (defArgs s_folded_over) (defBody s_folded_over) (defScope s_folded_over) .none kV_folded_over dc_folded_over pm_folded_over an_folded_over cd_folded_over ct_folded_over),sl_folded_over⟩) (x_folded_over:PySem.W.codeIn K cd_folded_over "folded_over"=true) (k_folded_over:PySem.W.keepIn K (.ref f_folded_over)=true)
    (a_key_by:PySem.W.nsIn K mainGlobals "key_by"=some (some (.ref f_key_by))) (l_key_by:K.lookup f_key_by=some ⟨oc_key_by,od_key_by,.func (PySem.W.fnOf "key_by" "key_by" (defArgs s_key_by) (defBody s_key_by) (defScope s_key_by) .none kV_key_by dc_key_by pm_key_by an_key_by cd_key_by ct_key_by),sl_key_by⟩) (x_key_by:PySem.W.codeIn K cd_key_by "key_by"=true) (k_key_by:PySem.W.keepIn K (.ref f_key_by)=true)
    (a_plain:PySem.W.nsIn K mainGlobals "plain"=some (some (.ref f_plain))) (l_plain:K.lookup f_plain=some ⟨oc_plain,od_plain,.func (PySem.W.fnOf "plain" "plain" (defArgs s_plain) (defBody s_plain) (defScope s_plain) .none kV_plain dc_plain pm_plain an_plain cd_plain ct_plain),sl_plain⟩) (x_plain:PySem.W.codeIn K cd_plain "plain"=true) (k_plain:PySem.W.keepIn K (.ref f_plain)=true)
    (a_plain_with_key:PySem.W.nsIn K mainGlobals "plain_with_key"=some (some (.ref f_plain_with_key))) (l_plain_with_key:K.lookup f_plain_with_key=some ⟨oc_plain_with_key,od_plain_with_key,.func (PySem.W.fnOf "plain_with_key" "plain_with_key" (defArgs s_plain_with_key) (defBody s_plain_with_key) (defScope s_plain_with_key) .none kV_plain_with_key dc_plain_with_key pm_plain_with_key an_plain_with_key cd_plain_with_key ct_plain_with_key),sl_plain_with_key⟩) (x_plain_with_key:PySem.W.codeIn K cd_plain_with_key "plain_with_key"=true) (k_plain_with_key:PySem.W.keepIn K (.ref f_plain_with_key)=true)
    (a_plain_by:PySem.W.nsIn K mainGlobals "plain_by"=some (some (.ref f_plain_by))) (l_plain_by:K.lookup f_plain_by=some ⟨oc_plain_by,od_plain_by,.func (PySem.W.fnOf "plain_by" "plain_by" (defArgs s_plain_by) (defBody s_plain_by) (defScope s_plain_by) .none kV_plain_by dc_plain_by pm_plain_by an_plain_by (.ref c_plain_by) ct_plain_by),sl_plain_by⟩) (x_plain_by:PySem.W.codeIn K (.ref c_plain_by) "plain_by"=true) (k_plain_by:PySem.W.keepIn K (.ref f_plain_by)=true)
    (h_plain_by:PySem.W.codeHdIn K c_plain_by 65=true)
    (a_least_start:PySem.W.nsIn K mainGlobals "least_start"=some (some (.ref f_least_start))) (l_least_start:K.lookup f_least_start=some ⟨oc_least_start,od_least_start,.func (PySem.W.fnOf "least_start" "least_start" (defArgs s_least_start) (defBody s_least_start) (defScope s_least_start) .none kV_least_start dc_least_start pm_least_start an_least_start cd_least_start ct_least_start),sl_least_start⟩) (x_least_start:PySem.W.codeIn K cd_least_start "least_start"=true) (k_least_start:PySem.W.keepIn K (.ref f_least_start)=true)
    (a_w_mix:PySem.W.nsIn K mainGlobals "_law_mix"=some (some (.ref f_w_mix))) (l_w_mix:K.lookup f_w_mix=some ⟨oc_w_mix,od_w_mix,.func (PySem.W.fnOf "_law_mix" "_law_mix" (defArgs s_w_mix) (defBody s_w_mix) (defScope s_w_mix) .none kV_w_mix dc_w_mix pm_w_mix an_w_mix cd_w_mix ct_w_mix),sl_w_mix⟩) (x_w_mix:PySem.W.codeIn K cd_w_mix "_law_mix"=true) (k_w_mix:PySem.W.keepIn K (.ref f_w_mix)=true)
    (a_w_cell:PySem.W.nsIn K mainGlobals "_law_cell"=some (some (.ref f_w_cell))) (l_w_cell:K.lookup f_w_cell=some ⟨oc_w_cell,od_w_cell,.func (PySem.W.fnOf "_law_cell" "_law_cell" (defArgs s_w_cell) (defBody s_w_cell) (defScope s_w_cell) .none kV_w_cell dc_w_cell pm_w_cell an_w_cell cd_w_cell ct_w_cell),sl_w_cell⟩) (x_w_cell:PySem.W.codeIn K cd_w_cell "_law_cell"=true) (k_w_cell:PySem.W.keepIn K (.ref f_w_cell)=true)
    (a_w_put:PySem.W.nsIn K mainGlobals "_law_put"=some (some (.ref f_w_put))) (l_w_put:K.lookup f_w_put=some ⟨oc_w_put,od_w_put,.func (PySem.W.fnOf "_law_put" "_law_put" (defArgs s_w_put) (defBody s_w_put) (defScope s_w_put) .none kV_w_put dc_w_put pm_w_put an_w_put cd_w_put ct_w_put),sl_w_put⟩) (x_w_put:PySem.W.codeIn K cd_w_put "_law_put"=true) (k_w_put:PySem.W.keepIn K (.ref f_w_put)=true)
    (a_w_small:PySem.W.nsIn K mainGlobals "_law_small"=some (some (.ref f_w_small))) (l_w_small:K.lookup f_w_small=some ⟨oc_w_small,od_w_small,.func (PySem.W.fnOf "_law_small" "_law_small" (defArgs s_w_small) (defBody s_w_small) (defScope s_w_small) .none kV_w_small dc_w_small pm_w_small an_w_small cd_w_small ct_w_small),sl_w_small⟩) (x_w_small:PySem.W.codeIn K cd_w_small "_law_small"=true) (k_w_small:PySem.W.keepIn K (.ref f_w_small)=true)
    (a_w_parts:PySem.W.nsIn K mainGlobals "_law_parts"=some (some (.ref f_w_parts))) (l_w_parts:K.lookup f_w_parts=some ⟨oc_w_parts,od_w_parts,.func (PySem.W.fnOf "_law_parts" "_law_parts" (defArgs s_w_parts) (defBody s_w_parts) (defScope s_w_parts) .none kV_w_parts dc_w_parts pm_w_parts an_w_parts cd_w_parts ct_w_parts),sl_w_parts⟩) (x_w_parts:PySem.W.codeIn K cd_w_parts "_law_parts"=true) (k_w_parts:PySem.W.keepIn K (.ref f_w_parts)=true)
    (a_w_with:PySem.W.nsIn K mainGlobals "_law_with"=some (some (.ref f_w_with))) (l_w_with:K.lookup f_w_with=some ⟨oc_w_with,od_w_with,.func (PySem.W.fnOf "_law_with" "_law_with" (defArgs s_w_with) (defBody s_w_with) (defScope s_w_with) .none kV_w_with dc_w_with pm_w_with an_w_with cd_w_with ct_w_with),sl_w_with⟩) (x_w_with:PySem.W.codeIn K cd_w_with "_law_with"=true) (k_w_with:PySem.W.keepIn K (.ref f_w_with)=true)
    (a_w_stepped:PySem.W.nsIn K mainGlobals "_law_stepped"=some (some (.ref f_w_stepped))) (l_w_stepped:K.lookup f_w_stepped=some ⟨oc_w_stepped,od_w_stepped,.func (PySem.W.fnOf "_law_stepped" "_law_stepped" (defArgs s_w_stepped) (defBody s_w_stepped) (defScope s_w_stepped) .none kV_w_stepped dc_w_stepped pm_w_stepped an_w_stepped cd_w_stepped ct_w_stepped),sl_w_stepped⟩) (x_w_stepped:PySem.W.codeIn K cd_w_stepped "_law_stepped"=true) (k_w_stepped:PySem.W.keepIn K (.ref f_w_stepped)=true)
    (a_w_reached:PySem.W.nsIn K mainGlobals "_law_reached"=some (some (.ref f_w_reached))) (l_w_reached:K.lookup f_w_reached=some ⟨oc_w_reached,od_w_reached,.func (PySem.W.fnOf "_law_reached" "_law_reached" (defArgs s_w_reached) (defBody s_w_reached) (defScope s_w_reached) .none kV_w_reached dc_w_reached pm_w_reached an_w_reached cd_w_reached ct_w_reached),sl_w_reached⟩) (x_w_reached:PySem.W.codeIn K cd_w_reached "_law_reached"=true) (k_w_reached:PySem.W.keepIn K (.ref f_w_reached)=true)
    (a_w_other:PySem.W.nsIn K mainGlobals "_law_other"=some (some (.ref f_w_other))) (l_w_other:K.lookup f_w_other=some ⟨oc_w_other,od_w_other,.func (PySem.W.fnOf "_law_other" "_law_other" (defArgs s_w_other) (defBody s_w_other) (defScope s_w_other) .none kV_w_other dc_w_other pm_w_other an_w_other cd_w_other ct_w_other),sl_w_other⟩) (x_w_other:PySem.W.codeIn K cd_w_other "_law_other"=true) (k_w_other:PySem.W.keepIn K (.ref f_w_other)=true)
    (a_law:PySem.W.nsIn K mainGlobals "law"=some (some (.ref f_law))) (l_law:K.lookup f_law=some ⟨oc_law,od_law,.func (PySem.W.fnOf "law" "law" (defArgs s_law) (defBody s_law) (defScope s_law) .none kV_law dc_law pm_law an_law cd_law ct_law),sl_law⟩) (x_law:PySem.W.codeIn K cd_law "law"=true) (k_law:PySem.W.keepIn K (.ref f_law)=true)
    (n_all:PySem.W.nsIn K mainGlobals "all"=some none)
    (n_any:PySem.W.nsIn K mainGlobals "any"=some none)
    (n_bool:PySem.W.nsIn K mainGlobals "bool"=some none)
    (n_enumerate:PySem.W.nsIn K mainGlobals "enumerate"=some none)
    (n_int:PySem.W.nsIn K mainGlobals "int"=some none)
    (n_isinstance:PySem.W.nsIn K mainGlobals "isinstance"=some none)
    (n_len:PySem.W.nsIn K mainGlobals "len"=some none)
    (n_list:PySem.W.nsIn K mainGlobals "list"=some none)
    (n_max:PySem.W.nsIn K mainGlobals "max"=some none)
    (n_min:PySem.W.nsIn K mainGlobals "min"=some none)
    (n_range:PySem.W.nsIn K mainGlobals "range"=some none)
    (n_reversed:PySem.W.nsIn K mainGlobals "reversed"=some none)
    (n_sorted:PySem.W.nsIn K mainGlobals "sorted"=some none)
    (n_str:PySem.W.nsIn K mainGlobals "str"=some none)
    (n_sum:PySem.W.nsIn K mainGlobals "sum"=some none)
    (n_tuple:PySem.W.nsIn K mainGlobals "tuple"=some none)
    (n_zip:PySem.W.nsIn K mainGlobals "zip"=some none)
    (c_KINDS:PySem.W.nsIn K mainGlobals "KINDS"=some (some (.ref a_KINDS))) (o_KINDS:K.lookup a_KINDS=some ⟨oc_KINDS,od_KINDS,.seq is_KINDS sn_KINDS,sl_KINDS⟩) (t_KINDS:(oc_KINDS == .type "tuple")=true/\(od_KINDS == none)=true) (i_KINDS:is_KINDS.toList.map absV=[(.str "nothing":V),(.str "bead":V),(.str "left":V),(.str "right":V),(.str "pair":V),(.str "row":V),(.str "bag":V),(.str "choice":V),(.str "ring":V)].map some)
    (c_MANY:PySem.W.nsIn K mainGlobals "MANY"=some (some (.ref a_MANY))) (o_MANY:K.lookup a_MANY=some ⟨oc_MANY,od_MANY,.seq is_MANY sn_MANY,sl_MANY⟩) (t_MANY:(oc_MANY == .type "tuple")=true/\(od_MANY == none)=true) (i_MANY:is_MANY.toList.map absV=[(.str "row":V),(.str "bag":V),(.str "choice":V),(.str "ring":V)].map some) :
    ∃ fd:FuncData,(∀ (s:Shared) (v:Value),BindsTo s fd ⟨[v],[]⟩ [("_law_script",v)])/\∀ base:Heap,K.In base->base.Ns mainGlobals mg->(∀ t∈tabs,base.BuiltinsAt mg t.1)->FnOk l.prog w K mg base CX0 200 fa fd ["_law_script"] (spOf K (aspLawT tabs)):=by
  have e:=hfa.symm.trans (PySem.W.mg_of X G a_law)
  cases e
  have F_parts_of:=fun_mk (st:=s_parts_of) l_parts_of x_parts_of k_parts_of
  have B_parts_of:=F_parts_of.binds (ps:=["writing"]) fun _ _ _ _ _ _=>by refine len1 ?_;intros;rfl
  have F_made_of:=fun_mk (st:=s_made_of) l_made_of x_made_of k_made_of
  have B_made_of:=F_made_of.binds (ps:=["kind","parts"]) fun _ _ _ _ _ _=>by refine len2 ?_;intros;rfl
  have F_folded:=fun_mk (st:=s_folded) l_folded x_folded k_folded
  have B_folded:=F_folded.binds (ps:=["writing","deed"]) fun _ _ _ _ _ _=>by refine len2 ?_;intros;rfl
  have F_folded_over:=fun_mk (st:=s_folded_over) l_folded_over x_folded_over k_folded_over
  have B_folded_over:=F_folded_over.binds (ps:=["whole","parts","deed"]) fun _ _ _ _ _ _=>by refine len3 ?_;intros;rfl
  have F_key_by:=fun_mk (st:=s_key_by) l_key_by x_key_by k_key_by
  have B_key_by:=F_key_by.binds (ps:=["figure","keys"]) fun _ _ _ _ _ _=>by refine len2 ?_;intros;rfl
  have F_plain:=fun_mk (st:=s_plain) l_plain x_plain k_plain
  have B_plain:=F_plain.binds (ps:=["writing"]) fun _ _ _ _ _ _=>by refine len1 ?_;intros;rfl
  have F_plain_with_key:=fun_mk (st:=s_plain_with_key) l_plain_with_key x_plain_with_key k_plain_with_key
  have B_plain_with_key:=F_plain_with_key.binds (ps:=["writing"]) fun _ _ _ _ _ _=>by refine len1 ?_;intros;rfl
  have F_plain_by:=fun_mk (st:=s_plain_by) l_plain_by x_plain_by k_plain_by
  have B_plain_by:=F_plain_by.binds (ps:=["writing","told"]) fun _ _ _ _ _ _=>by refine len2 ?_;intros;rfl
  have F_least_start:=fun_mk (st:=s_least_start) l_least_start x_least_start k_least_start
  have B_least_start:=F_least_start.binds (ps:=["keys"]) fun _ _ _ _ _ _=>by refine len1 ?_;intros;rfl
  have F_w_mix:=fun_mk (st:=s_w_mix) l_w_mix x_w_mix k_w_mix
  have B_w_mix:=F_w_mix.binds (ps:=["_law_script"]) fun _ _ _ _ _ _=>by refine len1 ?_;intros;rfl
  have F_w_cell:=fun_mk (st:=s_w_cell) l_w_cell x_w_cell k_w_cell
  have B_w_cell:=F_w_cell.binds (ps:=["_law_script","_law_k"]) fun _ _ _ _ _ _=>by refine len2 ?_;intros;rfl
  have F_w_put:=fun_mk (st:=s_w_put) l_w_put x_w_put k_w_put
  have B_w_put:=F_w_put.binds (ps:=["_law_stack","_law_cell_here"]) fun _ _ _ _ _ _=>by refine len2 ?_;intros;rfl
  have F_w_small:=fun_mk (st:=s_w_small) l_w_small x_w_small k_w_small
  have B_w_small:=F_w_small.binds (ps:=["_law_cells","_law_how"]) fun _ _ _ _ _ _=>by refine len2 ?_;intros;rfl
  have F_w_parts:=fun_mk (st:=s_w_parts) l_w_parts x_w_parts k_w_parts
  have B_w_parts:=F_w_parts.binds (ps:=["_law_figure"]) fun _ _ _ _ _ _=>by refine len1 ?_;intros;rfl
  have F_w_with:=fun_mk (st:=s_w_with) l_w_with x_w_with k_w_with
  have B_w_with:=F_w_with.binds (ps:=["_law_figure","_law_parts_here"]) fun _ _ _ _ _ _=>by refine len2 ?_;intros;rfl
  have F_w_stepped:=fun_mk (st:=s_w_stepped) l_w_stepped x_w_stepped k_w_stepped
  have B_w_stepped:=F_w_stepped.binds (ps:=["_law_figure"]) fun _ _ _ _ _ _=>by refine len1 ?_;intros;rfl
  have F_w_reached:=fun_mk (st:=s_w_reached) l_w_reached x_w_reached k_w_reached
  have B_w_reached:=F_w_reached.binds (ps:=["_law_figure"]) fun _ _ _ _ _ _=>by refine len1 ?_;intros;rfl
  have F_w_other:=fun_mk (st:=s_w_other) l_w_other x_w_other k_w_other
  have B_w_other:=F_w_other.binds (ps:=["_law_figure","_law_how","_law_turn"]) fun _ _ _ _ _ _=>by refine len3 ?_;intros;rfl
  have F_law:=fun_mk (st:=s_law) l_law x_law k_law
  have B_law:=F_law.binds (ps:=["_law_script"]) fun _ _ _ _ _ _=>by refine len1 ?_;intros;rfl
  have T:TX K mg _ _ _ _ _ _ _ _ _ _ _ _ _ _ _ _ _ _ _ 65 _ _ _ _ _ _ _ _ _ _ _ _ _ _ _ _ _ _ _ _ _ _:=⟨F_parts_of,B_parts_of,PySem.W.mg_of X G a_parts_of,F_made_of,B_made_of,PySem.W.mg_of X G a_made_of,F_folded,B_folded,PySem.W.mg_of X G a_folded,F_folded_over,B_folded_over,PySem.W.mg_of X G a_folded_over,F_key_by,B_key_by,PySem.W.mg_of X G a_key_by,F_plain,B_plain,PySem.W.mg_of X G a_plain,F_plain_with_key,B_plain_with_key,PySem.W.mg_of X G a_plain_with_key,F_plain_by,B_plain_by,PySem.W.mg_of X G a_plain_by,rfl,h_plain_by,(by decide),F_least_start,B_least_start,PySem.W.mg_of X G a_least_start,F_w_mix,B_w_mix,PySem.W.mg_of X G a_w_mix,F_w_cell,B_w_cell,PySem.W.mg_of X G a_w_cell,F_w_put,B_w_put,PySem.W.mg_of X G a_w_put,F_w_small,B_w_small,PySem.W.mg_of X G a_w_small,F_w_parts,B_w_parts,PySem.W.mg_of X G a_w_parts,F_w_with,B_w_with,PySem.W.mg_of X G a_w_with,F_w_stepped,B_w_stepped,PySem.W.mg_of X G a_w_stepped,F_w_reached,B_w_reached,PySem.W.mg_of X G a_w_reached,F_w_other,B_w_other,PySem.W.mg_of X G a_w_other,F_law,B_law,PySem.W.mg_of X G a_law,PySem.W.mg_none_of X G n_all,PySem.W.mg_none_of X G n_any,PySem.W.mg_none_of X G n_bool,PySem.W.mg_none_of X G n_enumerate,PySem.W.mg_none_of X G n_int,PySem.W.mg_none_of X G n_isinstance,PySem.W.mg_none_of X G n_len,PySem.W.mg_none_of X G n_list,PySem.W.mg_none_of X G n_max,PySem.W.mg_none_of X G n_min,PySem.W.mg_none_of X G n_range,PySem.W.mg_none_of X G n_reversed,PySem.W.mg_none_of X G n_sorted,PySem.W.mg_none_of X G n_str,PySem.W.mg_none_of X G n_sum,PySem.W.mg_none_of X G n_tuple,PySem.W.mg_none_of X G n_zip,⟨_,PySem.W.mg_of X G c_KINDS,rfl⟩,sqT_const o_KINDS t_KINDS i_KINDS,ty_const o_KINDS t_KINDS,⟨_,PySem.W.mg_of X G c_MANY,rfl⟩,sqT_const o_MANY t_MANY i_MANY,ty_const o_MANY t_MANY⟩
  exact ⟨_,fun s v=>.of_eq rfl,fun base _ _ hB=>ok_law T (hB _ (.head _))⟩
theorem walk {l:PySem.W.OpenLaw} {q:Program} {loose:List Str} {XP:(Str->Option Value)->Heap->Prop} {YP:World->Heap->Prop} {d:DefRec} {K:Params->PySem.W.Frag} (hn:l.most=some 63) (hdf:d.params.defaults=[])
    (hY:∀ (w:World) (h:Heap),YP w h->(K w.params).In h/\∀ t∈tabs,h.get? t.1=some (PySem.W.tabObj #[]))
    (hK:∀ (w:World) (t:Addr × Pos × Str),t∈tabs->(K w.params).lookup t.1=none/\∃ c,PySem.W.codeHdIn (K w.params) c t.1=true)
    (F : ∀ (w:World) (mg:Str->Option Value) (fa:Addr) (h:Heap),(K w.params).In h->h.Ns mainGlobals mg->mg d.name=some (.ref fa) ->
      ∃ fd:FuncData,(∀ (s:Shared) (u:Value),BindsTo s fd ⟨[u],[]⟩ [("_law_script",u)])/\∀ base:Heap,(K w.params).In base->base.Ns mainGlobals mg->(∀ t∈tabs,base.BuiltinsAt mg t.1)->FnOk l.prog w (K w.params) mg base CX0 200 fa fd ["_law_script"] (spOf (K w.params) (aspLawT tabs))) :
    PySem.W.WalkO q loose XP YP l.row.toRowW d [] (fun f vs=>PySem.call f vs) :=
  L2.walk_ofT (n:=63) (k:=200) (x:="_law_script") (ts:=tabs) (sp:=fun w=>spOf (K w.params) (aspLawT tabs)) hn (by decide) hdf ⟨rfl,by decide,by decide⟩ hY hK F (fun _ _ a ns hl hO hT hS=>law_inT (by decide) hl hO hT hS)
end My
open PySem PySem.W PyProof.Rows
set_option maxRecDepth 100000 in
set_option maxHeartbeats 0 in
theorem PySem.Challenge.cw_figurebook_k12_whole_alike_by_steps_holds : PySem.Challenge.rw_figurebook_k12_whole_alike_by_steps.Holds := by
  w_on;o_law;k_head;(case hw=>w_witness2)
  k_fill
  refine My.walk (l:=PySem.Challenge.rw_figurebook_k12_whole_alike_by_steps) rfl rfl (fun w h Y=>⟨PySem.W.km_in_of Y,fun t ht=>PySem.W.km_tabs_of Y t.1 (by simp only [My.tabs,List.mem_cons,List.not_mem_nil,or_false] at ht;subst ht;simp)⟩) ?hK ?F
  case hK =>
    intro w t ht
    rcases List.mem_cons.mp ht with rfl | ht
    . refine ⟨?_,67,?_⟩
      all_goals first | kernel_rfl | rfl
    . cases ht
  case F =>
    intro w mg fa h KX G hmg
    refine' My.all_mk KX G hmg ?a_parts_of ?l_parts_of ?x_parts_of ?k_parts_of ?a_made_of ?l_made_of ?x_made_of ?k_made_of ?a_folded ?l_folded ?x_folded ?k_folded ?a_folded_over ?l_folded_over ?x_folded_over ?k_folded_over ?a_key_by ?l_key_by ?x_key_by ?k_key_by ?a_plain ?l_plain ?x_plain ?k_plain ?a_plain_with_key ?l_plain_with_key ?x_plain_with_key ?k_plain_with_key ?a_plain_by ?l_plain_by ?x_plain_by ?k_plain_by ?h_plain_by ?a_least_start ?l_least_start ?x_least_start ?k_least_start ?a_w_mix ?l_w_mix ?x_w_mix ?k_w_mix ?a_w_cell ?l_w_cell ?x_w_cell ?k_w_cell ?a_w_put ?l_w_put ?x_w_put ?k_w_put ?a_w_small ?l_w_small ?x_w_small ?k_w_small ?a_w_parts ?l_w_parts ?x_w_parts ?k_w_parts ?a_w_with ?l_w_with ?x_w_with ?k_w_with ?a_w_stepped ?l_w_stepped ?x_w_stepped ?k_w_stepped ?a_w_reached ?l_w_reached ?x_w_reached ?k_w_reached ?a_w_other ?l_w_other ?x_w_other ?k_w_other ?a_law ?l_law ?x_law ?k_law ?n_all ?n_any ?n_bool ?n_enumerate ?n_int ?n_isinstance ?n_len ?n_list ?n_max ?n_min ?n_range ?n_reversed ?n_sorted ?n_str ?n_sum ?n_tuple ?n_zip ?c_KINDS ?o_KINDS ?t_KINDS ?i_KINDS ?c_MANY ?o_MANY ?t_MANY ?i_MANY
    (case a_parts_of=>k_is)
    (case l_parts_of=>k_is)
    (case x_parts_of=>k_is)
    (case k_parts_of=>k_is)
    (case a_made_of=>k_is)
    (case l_made_of=>k_is)
    (case x_made_of=>k_is)
    (case k_made_of=>k_is)
    (case a_folded=>k_is)
    (case l_folded=>k_is)
    (case x_folded=>k_is)
    (case k_folded=>k_is)
    (case a_folded_over=>k_is)
    (case l_folded_over=>k_is)
    (case x_folded_over=>k_is)
    (case k_folded_over=>k_is)
    (case a_key_by=>k_is)
    (case l_key_by=>k_is)
    (case x_key_by=>k_is)
    (case k_key_by=>k_is)
    (case a_plain=>k_is)
    (case l_plain=>k_is)
    (case x_plain=>k_is)
    (case k_plain=>k_is)
    (case a_plain_with_key=>k_is)
    (case l_plain_with_key=>k_is)
    (case x_plain_with_key=>k_is)
    (case k_plain_with_key=>k_is)
    (case a_plain_by=>k_is)
    (case l_plain_by=>k_is)
    (case x_plain_by=>k_is)
    (case k_plain_by=>k_is)
    (case h_plain_by=>first | kernel_rfl | rfl)
    (case a_least_start=>k_is)
    (case l_least_start=>k_is)
    (case x_least_start=>k_is)
    (case k_least_start=>k_is)
    (case a_w_mix=>k_is)
    (case l_w_mix=>k_is)
    (case x_w_mix=>k_is)
    (case k_w_mix=>k_is)
    (case a_w_cell=>k_is)
    (case l_w_cell=>k_is)
    (case x_w_cell=>k_is)
    (case k_w_cell=>k_is)
    (case a_w_put=>k_is)
    (case l_w_put=>k_is)
    (case x_w_put=>k_is)
    (case k_w_put=>k_is)
    (case a_w_small=>k_is)
    (case l_w_small=>k_is)
    (case x_w_small=>k_is)
    (case k_w_small=>k_is)
    (case a_w_parts=>k_is)
    (case l_w_parts=>k_is)
    (case x_w_parts=>k_is)
    (case k_w_parts=>k_is)
    (case a_w_with=>k_is)
    (case l_w_with=>k_is)
    (case x_w_with=>k_is)
    (case k_w_with=>k_is)
    (case a_w_stepped=>k_is)
    (case l_w_stepped=>k_is)
    (case x_w_stepped=>k_is)
    (case k_w_stepped=>k_is)
    (case a_w_reached=>k_is)
    (case l_w_reached=>k_is)
    (case x_w_reached=>k_is)
    (case k_w_reached=>k_is)
    (case a_w_other=>k_is)
    (case l_w_other=>k_is)
    (case x_w_other=>k_is)
    (case k_w_other=>k_is)
    (case a_law=>k_is)
    (case l_law=>k_is)
    (case x_law=>k_is)
    (case k_law=>k_is)
    (case n_all=>k_is)
    (case n_any=>k_is)
    (case n_bool=>k_is)
    (case n_enumerate=>k_is)
    (case n_int=>k_is)
    (case n_isinstance=>k_is)
    (case n_len=>k_is)
    (case n_list=>k_is)
    (case n_max=>k_is)
    (case n_min=>k_is)
    (case n_range=>k_is)
    (case n_reversed=>k_is)
    (case n_sorted=>k_is)
    (case n_str=>k_is)
    (case n_sum=>k_is)
    (case n_tuple=>k_is)
    (case n_zip=>k_is)
    (case c_KINDS=>k_is)
    (case o_KINDS=>k_is)
    (case t_KINDS=>exact ⟨rfl,rfl⟩)
    (case i_KINDS=>rfl)
    (case c_MANY=>k_is)
    (case o_MANY=>k_is)
    (case t_MANY=>exact ⟨rfl,rfl⟩)
    (case i_MANY=>rfl)
