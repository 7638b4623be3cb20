import PyProof.Rows.All
import Wide.All
import OpenK.AllK
import Wide.FinOn
import Lean
import PyProof.EqAt
import PyProof.EqKinds
import PyProof.TupleCall
import KE.KSortTup
import PyProof.TupleKey
import PyProof.DictRoadsH
import KE.KLam
import KE.KNestM
import KE.KDflt
import KE.KMinKey
import PySem.Challenge.RW_figurebook_k02_whole_rules_shown_and_rea
set_option Elab.async false
set_option compiler.extract_closed false
set_option bootstrap.genMatcherCode false
set_option linter.all false
set_option maxRecDepth 100000
namespace L2
open PySem PySem.Spec PyProof.Rows
noncomputable abbrev Key:=Sum Int Str
noncomputable def keyIs:Key->Value->Bool
  | .inl k,v=>Value.isInt k v
  | .inr x,v=>Value.isStrOf x v
noncomputable def keyH (w:World):Key->Int
  | .inl k=>hashInt k
  | .inr x=>hashStr w x
theorem keyIs_shape:∀ {k:Key} {v:Value},keyIs k v=true->(∃ i t,k=Sum.inl i/\v=Value.int i t)\/(∃ x t,k=Sum.inr x/\v=Value.str x t)
  | .inl i,v,h=>by
    obtain ⟨t,e⟩:=Value.isInt_shape (k:=i) (v:=v) h
    exact .inl ⟨i,t,rfl,e⟩
  | .inr x,v,h=>by
    obtain ⟨t,e⟩:=Value.isStrOf_shape (x:=x) (v:=v) h
    exact .inr ⟨x,t,rfl,e⟩
theorem key_ll (a b:Int):decide ((Sum.inl a:Key)=Sum.inl b)=(a == b):=by
  by_cases e:a=b
  . subst e;simp
  . have h:¬ (Sum.inl a:Key)=Sum.inl b:=fun q=>e (Sum.inl.inj q)
    rw [decide_eq_false h]
    exact (beq_eq_false_iff_ne.mpr e).symm
theorem key_rr (a b:Str):decide ((Sum.inr a:Key)=Sum.inr b)=decide (a=b):=by
  by_cases e:a=b
  . subst e;simp
  . have h:¬ (Sum.inr a:Key)=Sum.inr b:=fun q=>e (Sum.inr.inj q)
    rw [decide_eq_false h,decide_eq_false e]
theorem key_lr (a:Int) (b:Str):decide ((Sum.inl a:Key)=Sum.inr b)=false:=decide_eq_false (fun q=>nomatch q)
theorem key_rl (a:Str) (b:Int):decide ((Sum.inr a:Key)=Sum.inl b)=false:=decide_eq_false (fun q=>nomatch q)
noncomputable def mixKind (prog:Program) (w:World):PySem.KeyKind prog w Key where
  is:=keyIs
  hash:=keyH w
  inj := fun v a b ha hb=>by
    rcases keyIs_shape ha with ⟨i,t,rfl,rfl⟩ | ⟨x,t,rfl,rfl⟩
    . rcases keyIs_shape hb with ⟨j,u,rfl,e⟩ | ⟨y,u,rfl,e⟩
      . injection e with e1 _;rw [e1]
      . exact nomatch e
    . rcases keyIs_shape hb with ⟨j,u,rfl,e⟩ | ⟨y,u,rfl,e⟩
      . exact nomatch e
      . injection e with e1 _;rw [e1]
  byValue:=fun k v h=>by
    rcases keyIs_shape h with ⟨i,t,rfl,rfl⟩ | ⟨x,t,rfl,rfl⟩ <;> rfl
  pyHash:=fun hv h=>by
    rcases keyIs_shape hv with ⟨i,t,rfl,rfl⟩ | ⟨x,t,rfl,rfl⟩
    . exact wpAny_pyHash_int h
    . exact wpAny_pyHash_str h
  eqBool:=fun hu hv h=>by
    rcases keyIs_shape hu with ⟨i,t,rfl,rfl⟩ | ⟨x,t,rfl,rfl⟩
    . rcases keyIs_shape hv with ⟨j,u,rfl,rfl⟩ | ⟨y,u,rfl,rfl⟩
      . rw [key_ll] at h;exact wpAny_eqBool_int h
      . rw [key_lr] at h;exact SeqAt.EqAt.int_str i t y u _ _ _ _ h
    . rcases keyIs_shape hv with ⟨j,u,rfl,rfl⟩ | ⟨y,u,rfl,rfl⟩
      . rw [key_rl] at h;exact SeqAt.EqAt.str_int x t j u _ _ _ _ h
      . rw [key_rr] at h;exact wpAny_eqBool_str h
  «strs»:=fun k x t v h=>by
    rcases keyIs_shape h with ⟨i,u,rfl,e⟩ | ⟨y,u,rfl,e⟩
    . exact nomatch e
    . injection e with e1 _
      subst e1
      cases v <;> rfl
end L2
namespace L2
open PySem PySem.Spec PyProof.Rows
inductive V where
  | non | bl (b:Bool) | int (i:Int) | str (x:Str) | byt (b:Array UInt8) | flt (b:UInt64) | ref (a:Addr) | ty (n:String)
  deriving DecidableEq
noncomputable def RelV:V->Value->Prop
  | .non,u=>u=Value.none
  | .bl b,u=>u=Value.bool b
  | .int i,u=>∃ t,u=Value.int i t
  | .str x,u=>∃ t,u=Value.str x t
  | .byt b,u=>∃ t,u=Value.bytes b t
  | .flt b,u=>∃ t,u=Value.float b t
  | .ref a,u=>u=Value.ref a
  | .ty n,u=>u=Value.type n
noncomputable abbrev Vals:List V->List Value->Prop:=Paired RelV
theorem Vals.length {xs:List V} {us:List Value} (r:Vals xs us):xs.length=us.length:=Paired.length r
theorem Vals.get:∀ {xs:List V} {us:List Value} {i:Nat} {x:V},Vals xs us->xs[i]? = some x->∃ u,us[i]? = some u/\RelV x u
  | _,_,_,_,.nil,e=>by simp at e
  | _,_,0,_,.cons r _,e=>by simp at e;subst e;exact ⟨_,rfl,r⟩
  | _, _,i + 1,x,.cons _ t,e=>by
    obtain ⟨u,h1,h2⟩:=Vals.get (i:=i) (x:=x) t (by simpa using e)
    exact ⟨u,by simpa using h1,h2⟩
theorem Vals.set {x:V} {u:Value} (r:RelV x u):∀ {xs:List V} {us:List Value} (i:Nat),Vals xs us->Vals (xs.set i x) (us.set i u)
  | _,_,_,.nil=>.nil
  | _,_,0,.cons _ t=>.cons r t
  | _,_,i + 1,.cons q t=>.cons q (Vals.set r i t)
theorem Vals.append:∀ {xs ys:List V} {us ws:List Value},Vals xs us->Vals ys ws->Vals (xs++ys) (us++ws)
  | _,_,_,_,.nil,s=>s
  | _,_,_,_,.cons r t,s=>.cons r (Vals.append t s)
theorem Vals.take:∀ {xs:List V} {us:List Value} (n:Nat),Vals xs us->Vals (xs.take n) (us.take n)
  | _,_,0,_=>.nil
  | _,_,_ + 1,.nil=>.nil
  | _,_,n + 1,.cons r t=>.cons r (Vals.take n t)
theorem Vals.drop:∀ {xs:List V} {us:List Value} (n:Nat),Vals xs us->Vals (xs.drop n) (us.drop n)
  | _,_,0,r=>r
  | _,_,_ + 1,.nil=>.nil
  | _,_,n + 1,.cons _ t=>Vals.drop n t
theorem Vals.none_of:∀ {xs:List V} {us:List Value} {i:Nat},Vals xs us->xs[i]? = none->us[i]? = none:=fun {xs us i} r e=>by
  have h1:=r.length
  have h2:xs.length<=i:=List.getElem?_eq_none_iff.mp e
  exact List.getElem?_eq_none_iff.mpr (by lia)
noncomputable def RelO:Option V->Option Value->Prop
  | some v,some u=>RelV v u
  | none,none=>True
  | _,_=>False
noncomputable def KV {κ:Type}:List (κ × V)->List (κ × Value)->Prop:=Paired fun (p:κ × V) (q:κ × Value)=>p.1=q.1/\RelV p.2 q.2
noncomputable def kV:Key->V
  | .inl i=>.int i
  | .inr x=>.str x
inductive HO where
  /-- a list -/
  | lst (xs:List V)
  /-- a tuple (never changes) -/
  | tup (xs:List V)
  /-- a dict whose keys are ints and texts;one whose keys are tuples of ints and texts (the empty one is both) -/
  | dK (kvs:List (Key × V)) | dT (kvs:List (List Key × V))
  /-- a set of ints: its members,its size -/
  | set (S:Int->Bool) (n:Nat)
  /-- an instance of the class at C,its dict at dx,its attributes -/
  | ins (C dx:Addr) (fs:List (Str × V))
  /-- the dict of the instance at x -/
  | own (x:Addr)
  /-- the dict of an exception -/
  | xd (fs:List (Str × V))
  /-- a bound method,f of x -/
  | met (f x:Addr)
  /-- a range object lo,lo + 1,.. below hi -/
  | rng (lo hi:Int)
  /-- a thing that is known to the object (the script;a dict while a loop walks it): read,never written while it is so -/
  | frz (o:Obj) (u:HO)
  /-- a code object's table -/
  | tbl (ps:Array Value)
  /-- any other thing,by what is true of its one object (a def of one's own: SetO a S n:=HO.ext fun h=>..) -/
  | ext (φ:Heap->Prop)
noncomputable abbrev Hp:=Addr->Option HO
noncomputable def upd (H:Hp) (a:Addr) (o:HO):Hp:=fun b=>if b=a then some o else H b
theorem upd_same {H:Hp} {a:Addr} {o:HO}:upd H a o a=some o:=by unfold upd;rw [if_pos rfl]
theorem upd_ne {H:Hp} {a b:Addr} {o:HO} (h:b≠a):upd H a o b=H b:=by unfold upd;rw [if_neg h]
theorem ne_of {H:Hp} {a b:Addr} {o u:HO} (h:H a=some o) (h':H b=some u) (d:o≠u):a≠b:=by
  intro e;subst e;rw [h] at h';exact d (Option.some.inj h')
theorem ne_of_none {H:Hp} {a b:Addr} {o:HO} (h:H a=some o) (h':H b=none):a≠b:=by
  intro e;subst e;rw [h] at h';cases h'
section
variable (P:Program) (w:World)
noncomputable def ObjOk (H:Hp) (h:Heap) (a:Addr):HO->Prop
  | .lst xs=>xs.length<=sizeLine/\∃ (its:List Value) (n:Nat),Vals xs its/\h.get? a=some { cls:=.type "list",data:=.seq its.toArray n }
  | .tup xs=>xs.length<=sizeLine/\∃ its:List Value,Vals xs its/\IsTup h a its.toArray
  | .dK kvs=>kvs.length<=sizeLine/\(a == sysModules)=false/\∃ vs,KV kvs vs/\h.DictOf (mixKind P w) a vs
  | .dT kvs=>kvs.length<=sizeLine/\(a == sysModules)=false/\∃ xs:List (List Key × Addr × Value),
      Paired (fun (p:List Key × V) (q:List Key × Addr × Value)=>p.1=q.1/\H q.2.1=some (.tup (p.1.map kV))/\RelV p.2 q.2.2) kvs xs /\
      ∃ o es ep,h.get? a=some o/\o.ExactDict/\o.data=.dict es ep/\es.toList=xs.map (entryOfKey (tupleKind (mixKind P w)))/\(xs.map (·.1)).Nodup
  | .set S n=>h.SetOf (intKind P w) a S n
  | .ins C dx fs=>H dx=some (.own a)/\fs.length<=1000/\dx≠a/\h.get? a=some (PySem.W.instObj C dx) /\
      ∃ mA,h.Ns1 dx mA/\(∀ f,RelO (fs.lookup f) (mA f))/\PySem.Within mA (fs.map (·.1))
  | .own _=>∃ o,h.get? a=some o
  | .xd fs=>∃ mA,h.Ns1 a mA/\∀ f,RelO (fs.lookup f) (mA f)
  | .rng lo hi=>∃ t u v,h.get? a=some { cls:=.type "range",data:=.fields #[.int lo t,.int hi u,.int 1 v] }
  | .frz o u=>h.get? a=some o/\ObjOk H h a u
  | .tbl ps=>h.get? a=some { cls:=.none,data:=.fields ps }
  | .met f x=>h.get? a=some (PySem.W.methodObj (.ref f) (.ref x))
  | .ext φ=>φ h/\(∃ o,h.get? a=some o)/\∀ h1 h2:Heap,φ h1->(∀ o,h1.get? a=some o->h2.get? a=some o)->φ h2
noncomputable def HOk (H:Hp) (h:Heap):Prop:=∀ a o,H a=some o->ObjOk P w H h a o
end
section
variable {P:Program} {w:World} {H H':Hp} {h h':Heap} {a:Addr} {o:HO}
theorem ObjOk.lt (x:ObjOk P w H h a o):a < h.objs.size:=by
  cases o with
  | lst xs=>obtain ⟨_,_,_,_,e⟩:=x;exact Heap.lt_size e
  | tup xs=>obtain ⟨_,_,_,p⟩:=x;exact p.lt
  | dK kvs=>obtain ⟨_,_,_,_,o,_,_,e,_⟩:=x;exact Heap.lt_size e
  | dT kvs=>obtain ⟨_,_,_,_,o,_,_,e,_⟩:=x;exact Heap.lt_size e
  | set S n=>obtain ⟨o,_,_,_,e,_⟩:=x;exact Heap.lt_size e
  | ins C dx fs=>obtain ⟨_,_,_,e,_⟩:=x;exact Heap.lt_size e
  | own y=>obtain ⟨_,e⟩:=x;exact Heap.lt_size e
  | xd fs=>obtain ⟨_,⟨_,_,_,e,_⟩,_⟩:=x;exact Heap.lt_size e
  | rng lo hi=>obtain ⟨_,_,_,e⟩:=x;exact Heap.lt_size e
  | frz ob u=>obtain ⟨e,_⟩:=x;exact Heap.lt_size e
  | tbl ps=>exact Heap.lt_size (show h.get? a=some _ from x)
  | met f y=>exact Heap.lt_size (show h.get? a=some _ from x)
  | ext φ=>obtain ⟨_,⟨_,e⟩,_⟩:=x;exact Heap.lt_size e
theorem Paired.mapP {α β:Type} {F G:α->β->Prop}:∀ {l₁:List α} {l₂:List β},Paired F l₁ l₂->(∀ a b,F a b->G a b)->Paired G l₁ l₂
  | _,_,.nil,_=>.nil
  | _,_,.cons r t,f=>.cons (f _ _ r) (Paired.mapP t f)
theorem ObjOk.stay (x:ObjOk P w H h a o) (k:∀ b u,(b=a\/H b=some (.own a))->h.get? b=some u->h'.get? b=some u)
    (ho:∀ b,H b=some (.own a)->H' b=some (.own a)) (ht:∀ b xs,H b=some (.tup xs)->H' b=some (.tup xs)):ObjOk P w H' h' a o:=by
  induction o with
  | lst xs=>obtain ⟨z,its,n,r,e⟩:=x;exact ⟨z,its,n,r,k _ _ (.inl rfl) e⟩
  | tup xs=>obtain ⟨z,its,r,ob,e,c⟩:=x;exact ⟨z,its,r,ob,k _ _ (.inl rfl) e,c⟩
  | dK kvs=>obtain ⟨z,y,vs,r,ob,es,ep,e,c⟩:=x;exact ⟨z,y,vs,r,ob,es,ep,k _ _ (.inl rfl) e,c⟩
  | dT kvs =>
    obtain ⟨z,y,xs,r,ob,es,ep,e,c⟩:=x
    exact ⟨z,y,xs,Paired.mapP r fun p q z=>⟨z.1,ht _ _ z.2.1,z.2.2⟩,ob,es,ep,k _ _ (.inl rfl) e,c⟩
  | set S n=>obtain ⟨ob,es,ep,t,e,c⟩:=x;exact ⟨ob,es,ep,t,k _ _ (.inl rfl) e,c⟩
  | ins C dx fs =>
    obtain ⟨d,z,ne,e,mA,⟨od,es,ep,e2,c⟩,r⟩:=x
    exact ⟨ho _ d,z,ne,k _ _ (.inl rfl) e,mA,⟨od,es,ep,k _ _ (.inr d) e2,c⟩,r⟩
  | own y=>obtain ⟨ob,e⟩:=x;exact ⟨ob,k _ _ (.inl rfl) e⟩
  | xd fs=>obtain ⟨mA,⟨od,es,ep,e,c⟩,r⟩:=x;exact ⟨mA,⟨od,es,ep,k _ _ (.inl rfl) e,c⟩,r⟩
  | rng lo hi=>obtain ⟨t,u,v,e⟩:=x;exact ⟨t,u,v,k _ _ (.inl rfl) e⟩
  | frz ob u ih=>obtain ⟨e,q⟩:=x;exact ⟨k _ _ (.inl rfl) e,ih q⟩
  | tbl ps =>
    have e:h.get? a=some { cls:=.none,data:=.fields ps }:=x
    show h'.get? a=some { cls:=.none,data:=.fields ps }
    exact k a _ (.inl rfl) e
  | met f y =>
    have e:h.get? a=some (PySem.W.methodObj (.ref f) (.ref y)):=x
    show h'.get? a=some (PySem.W.methodObj (.ref f) (.ref y))
    exact k a _ (.inl rfl) e
  | ext φ=>obtain ⟨p,⟨o,e⟩,st⟩:=x;exact ⟨st _ _ p fun o q=>k _ _ (.inl rfl) q,⟨o,k _ _ (.inl rfl) e⟩,st⟩
theorem HOk.lt (x:HOk P w H h) (e:H a=some o):a < h.objs.size:=(x a o e).lt
theorem HOk.fresh (x:HOk P w H h) (e:h.objs.size<=a):H a=none:=by
  cases q:H a with
  | none=>rfl
  | some u=>exact absurd (Nat.lt_of_lt_of_le (x.lt q) e) (Nat.lt_irrefl _)
theorem HOk.kept (x:HOk P w H h) (k:∀ b u,h.get? b=some u->h'.get? b=some u):HOk P w H h':=fun a o e =>
  (x a o e).stay (fun b u _ q=>k b u q) (fun _ q=>q) fun _ _ q=>q
theorem HOk.laid (x:HOk P w H h) (k:∀ b u,h.get? b=some u->h'.get? b=some u) (hp:h.objs.size<=a) (new:ObjOk P w (upd H a o) h' a o):HOk P w (upd H a o) h':=fun b u e=>by
  have hn:=x.fresh hp
  by_cases hb:b=a
  . subst hb;rw [upd_same] at e;cases e;exact new
  . rw [upd_ne hb] at e
    exact (x b u e).stay (fun c v _ q=>k c v q) (fun c q=>by rw [upd_ne (ne_of_none q hn)];exact q) fun c xs q=>by rw [upd_ne (ne_of_none q hn)];exact q
end
noncomputable def Rd (H:Hp) (a:Addr) (u:HO):Prop:=H a=some u\/∃ o,H a=some (.frz o u)
theorem Rd.ok {P:Program} {w:World} {H:Hp} {h:Heap} {a:Addr} {u:HO} (r:Rd H a u) (x:HOk P w H h):ObjOk P w H h a u:=by
  rcases r with r | ⟨o,r⟩
  . exact x a u r
  . obtain ⟨_,q⟩:=x a _ r
    exact q
noncomputable def Mut:Option HO->Prop
  | some (.lst _)=>True
  | some (.dK _)=>True
  | some (.dT _)=>True
  | some (.set _ _)=>True
  | some (.ins _ _ _)=>True
  | some (.ext _)=>True
  | _=>False
section
variable {P:Program} {w:World} {H:Hp} {h h':Heap} {x e:Addr} {o':HO}
theorem HOk.write (ok:HOk P w H h) (mu:Mut (H x)) (he:e=x\/H e=some (.own x)) (k:∀ b u,b≠e->h.get? b=some u->h'.get? b=some u) (heo:∃ u,h'.get? e=some u)
    (new:ObjOk P w (upd H x o') h' x o'):HOk P w (upd H x o') h':=fun b u q=>by
  have nown:∀ c y,H c=some (.own y)->c≠x:=fun c y r z=>by subst z;rw [r] at mu;exact mu
  have ntup:∀ c xs,H c=some (.tup xs)->c≠x:=fun c xs r z=>by subst z;rw [r] at mu;exact mu
  by_cases hb:b=x
  . subst hb;rw [upd_same] at q;cases q;exact new
  . rw [upd_ne hb] at q
    by_cases hbe:b=e
    . have q':H b=some (.own x):=by
        rcases he with z | z
        . exact absurd (hbe.trans z) hb
        . rw [hbe];exact z
      rw [q] at q';cases q'
      obtain ⟨v,hv⟩:=heo
      exact ⟨v,by rw [hbe];exact hv⟩
    . refine (ok b u q).stay (fun c v hc r=>k c v ?_ r) (fun c r=>by rw [upd_ne (nown c b r)];exact r) fun c xs r=>by rw [upd_ne (ntup c xs r)];exact r
      rcases hc with rfl | hc
      . exact hbe
      . rintro rfl
        rcases he with z | z
        . exact nown c b hc z
        . rw [hc] at z;cases z;exact hb rfl
end
structure Un (fs ex:List Addr) (H H':Hp) (h h':Heap):Prop where
  keep:∀ b o,h.get? b=some o->H b=none->b ∉ fs->b ∉ ex->h'.get? b=some o
  slot:∀ b o,h.get? b=some o->H b=none->b∈fs->b ∉ ex->∃ sl,h'.get? b=some { o with slots:=sl }
  free:∀ b o,h.get? b=some o->H b=none->b ∉ ex->H' b=none
  there:∀ b o,h.get? b=some o->b ∉ ex->∃ o',h'.get? b=some o'
  tups:∀ b xs,H b=some (.tup xs)->H' b=some (.tup xs)
  frzs:∀ b o u,H b=some (.frz o u)->H' b=some (.frz o u)
  tbls:∀ b ps,H b=some (.tbl ps)->∃ more,H' b=some (.tbl (ps++more))
section
variable {fs fs' ex ex':List Addr} {H H1 H2:Hp} {h h1 h2 h':Heap} {a x e:Addr} {o:HO}
theorem Un.any (u:Un fs ex H H1 h h1) {b:Addr} {ob:Obj} (q:h.get? b=some ob) (n:H b=none) (hx:b ∉ ex):∃ sl,h1.get? b=some { ob with slots:=sl }:=by
  by_cases hb:b∈fs
  . exact u.slot b ob q n hb hx
  . exact ⟨ob.slots,u.keep b ob q n hb hx⟩
theorem Un.kept (k:∀ b u,h.get? b=some u->h'.get? b=some u):Un fs ex H H h h' :=
  ⟨fun b ob q _ _ _=>k b ob q,fun b ob q _ _ _=>⟨ob.slots,k b ob q⟩,fun _ _ _ n _=>n,fun b ob q _=>⟨ob,k b ob q⟩,fun _ _ q=>q,fun _ _ _ q=>q,fun _ ps q=>⟨#[],by rw [q];simp⟩⟩
theorem Un.refl:Un fs ex H H h h:=Un.kept fun _ _ q=>q
theorem Un.laid (k:∀ b u,h.get? b=some u->h'.get? b=some u) (hp:h.objs.size<=a) (hn:H a=none):Un fs ex H (upd H a o) h h' where
  keep:=fun b u q _ _ _=>k b u q
  slot:=fun b u q _ _ _=>⟨u.slots,k b u q⟩
  free:=fun b u q n _=>by rw [upd_ne (Nat.ne_of_lt (Nat.lt_of_lt_of_le (Heap.lt_size q) hp))];exact n
  there:=fun b u q _=>⟨u,k b u q⟩
  tups:=fun b xs q=>by rw [upd_ne (ne_of_none q hn)];exact q
  frzs:=fun b u xs q=>by rw [upd_ne (ne_of_none q hn)];exact q
  tbls:=fun b ps q=>⟨#[],by rw [upd_ne (ne_of_none q hn),q];simp⟩
theorem Un.write (mu:Mut (H x)) (he:e=x\/H e=some (.own x)) (k:∀ b u,b≠e->h.get? b=some u->h'.get? b=some u) (heo:∃ u,h'.get? e=some u):Un fs ex H (upd H x o) h h':=by
  have hx:∀ b,H b=none->b≠x:=fun b n z=>by subst z;rw [n] at mu;exact mu
  have hb:∀ b,H b=none->b≠e:=fun b n z=>by
    subst z
    rcases he with r | r
    . exact hx b n r
    . rw [n] at r;cases r
  have hm:∀ b u,H b=some u->¬ Mut (some u)->b≠x:=fun b u q nm z=>by subst z;rw [q] at mu;exact nm mu
  refine ⟨fun b u q n _ _=>k b u (hb b n) q,fun b u q n _ _=>⟨u.slots,k b u (hb b n) q⟩,fun b u q n _=>by rw [upd_ne (hx b n)];exact n,fun b u q _=>?_,
    fun b xs q=>by rw [upd_ne (hm b _ q fun z=>z)];exact q,fun b u xs q=>by rw [upd_ne (hm b _ q fun z=>z)];exact q,fun b ps q=>⟨#[],by rw [upd_ne (hm b _ q fun z=>z),q];simp⟩⟩
  by_cases hbe:b=e
  . subst hbe;exact heo
  . exact ⟨u,k b u hbe q⟩
end
noncomputable def trk (h:Heap) (H:Hp):List Addr:=(List.range h.objs.size).filter fun a=>(H a).isSome
noncomputable def hidT (h:Heap) (H:Hp):Heap:=PySem.W.hideAll h (trk h H)
theorem hidT_size (h:Heap) (H:Hp):(hidT h H).objs.size=h.objs.size:=PySem.W.hideAll_size _ _
theorem hidT_get {h:Heap} {H:Hp} {b:Addr} {o:Obj} (e:h.get? b=some o) (n:H b=none):(hidT h H).get? b=some o :=
  PySem.W.hideAll_get _ e fun hm=>by
    have q:(H b).isSome=true:=(List.mem_filter.mp hm).2
    rw [n] at q;simp at q
theorem of_hidT {h:Heap} {H:Hp} {b:Addr} {o:Obj} (e:(hidT h H).get? b=some o):h.get? b=some o/\H b=none:=by
  have e':h.get? b=some o:=PySem.W.of_hideAll (trk h H) e
  refine ⟨e',?_⟩
  cases q:H b with
  | none=>rfl
  | some x =>
    have hm:b∈trk h H:=List.mem_filter.mpr ⟨List.mem_range.mpr (Heap.lt_size e'),by simp [q]⟩
    have z:(hidT h H).get? b=none:=PySem.W.hideAll_none (trk h H) hm
    rw [z] at e;cases e
noncomputable def allNews (g h:Heap) (L:Addr):List (Addr × Obj):=(List.range h.objs.size).filterMap fun a=>if a=L\/(g.get? a).isSome=true then none else (h.get? a).map fun o=>(a,o)
noncomputable def rest (g h:Heap) (L d:Addr):List (Addr × Obj):=(allNews g h L).filter fun p=>decide (p.1≠d)
end L2
namespace L2
open PySem PySem.Spec PyProof.Rows
structure Mod (K:PySem.W.Frag) (mg:Str->Option Value) (base:Heap):Prop where
  kin:K.In base
  glob:base.Ns mainGlobals mg
  blt:∃ mb,base.Ns builtinsNs mb/\∀ x:Str,x≠"__name__"->mb x=bootBuiltins x
  nolimit:base.NoLimit
structure Cx where
  prog:Program
  w : World
  K : PySem.W.Frag
  mg:Str->Option Value
  base:Heap
  A : Around
  N : List Str
  s₀:Shared
  H₀:Hp
  env:Env
  outer:List Env
  stack:List Env
  ex:List Addr
  fn:Str->Bool
  calm:Bool
  pn:List (Addr × Obj)
  xe:Value->Shared->Prop
noncomputable def frs (l:List Env):List Addr:=l.filterMap (·.frame)
noncomputable abbrev Cx.fs (X:Cx):List Addr:=frs X.outer
noncomputable def Vis (sc:Scope) (x:Str):Prop:=sc.names.lookup x=some .local\/sc.names.lookup x=some .cell\/sc.names.lookup x=some .free
noncomputable def Loc (sc:Scope) (x:Str):Prop:=sc.names.lookup x=some .local\/sc.names.lookup x=some .cell
noncomputable def Look (env:Env) (h:Heap) (m:Str->Option Value) (x:Str) (u:Value):Prop :=
  (env.kindOf x=some .local/\m x=some u)\/((env.kindOf x=some .cell\/env.kindOf x=some .free)/\∃ c,env.cells.lookup x=some c/\h.IsCell c (some u))
structure Cx.Ok (X:Cx):Prop where
  mod:Mod X.K X.mg X.base
  kind:X.env.scope.kind=.function
  glob:X.env.globals=mainGlobals
  blt:X.env.builtins=builtinsNs
  above:X.s₀.heap.objs.size<=X.env.locals
  inj:∀ x y c,X.env.cells.lookup x=some c->X.env.cells.lookup y=some c->x=y
  has:∀ x,(X.env.kindOf x=some .cell\/X.env.kindOf x=some .free)->∃ c,X.env.cells.lookup x=some c
  cab:∀ x c,X.fn x=true->X.env.cells.lookup x=some c->X.s₀.heap.objs.size<=c
  hd:X.calm=true->X.A.handled=none
  frames:X.A.frames=some X.stack
  stk:X.stack=X.outer\/(X.stack=X.env::X.outer/\X.env.frame=some X.env.locals)
  exf:∀ b∈X.ex,b≠X.env.locals/\∀ x c,X.env.cells.lookup x=some c->c≠b
  bs:∀ b o,X.base.get? b=some o->X.s₀.heap.get? b=some o/\X.H₀ b=none
  bsz:X.base.objs.size<=X.s₀.heap.objs.size
  noex:∀ b o,X.base.get? b=some o->b ∉ X.ex
  exfs:∀ b∈X.ex,b ∉ X.fs
  funs:X.s₀.heap.FunFrames X.base X.outer
  frf:∀ b∈X.fs,X.H₀ b=none
structure Inv (X:Cx) (pins:List (Addr × Obj)) (σ:List (Option V)) (H:Hp) (s:Shared):Prop where
  ok:X.Ok
  os:s.os=X.s₀.os
  bare:AllBare s.gens
  base:Un X.fs X.ex X.H₀ H X.s₀.heap s.heap
  loc:∃ m,s.heap.Ns X.env.locals m/\∀ (i:Nat) (x:Str) (v:V),X.N[i]? = some x->σ[i]? = some (some v)->Vis X.env.scope x->∃ u,RelV v u/\Look X.env s.heap m x u
  cell:∀ x c,X.env.cells.lookup x=some c->∃ v,s.heap.IsCell c v
  free:H X.env.locals=none
  freeC:∀ x c,X.env.cells.lookup x=some c->H c=none
  pin:∀ p∈X.pn++pins,s.heap.get? p.1=some p.2/\H p.1=none/\p.1≠X.env.locals/\p.1 ∉ X.fs/\∀ v,p.2.data≠.cell v
  hok:HOk X.prog X.w H s.heap
  len:σ.length=X.N.length
section
variable {X:Cx} {pins:List (Addr × Obj)} {σ:List (Option V)} {H H':Hp} {s:Shared} {h':Heap}
theorem Cx.Ok.nofr (ok:X.Ok) {b:Addr} {o:Obj} (e:X.base.get? b=some o):b ∉ X.fs:=fun hb=>by
  have:=(ok.funs.mem hb).1
  rw [e] at this;cases this
theorem Inv.bs (I:Inv X pins σ H s):∀ b o,X.base.get? b=some o->s.heap.get? b=some o/\H b=none:=fun b o e =>
  ⟨I.base.keep b o (I.ok.bs b o e).1 (I.ok.bs b o e).2 (I.ok.nofr e) (I.ok.noex b o e),I.base.free b o (I.ok.bs b o e).1 (I.ok.bs b o e).2 (I.ok.noex b o e)⟩
theorem Inv.bk (I:Inv X pins σ H s):∀ b o,X.base.get? b=some o->s.heap.get? b=some o:=fun b o e=>(I.bs b o e).1
theorem Inv.mod (I:Inv X pins σ H s):Mod X.K X.mg X.base:=I.ok.mod
theorem Inv.kIn (I:Inv X pins σ H s):X.K.In s.heap:=I.ok.mod.kin.keeps I.bk
theorem Inv.lt (I:Inv X pins σ H s):X.env.locals < s.heap.objs.size:=let ⟨_,hn,_⟩:=I.loc;hn.lt
theorem Inv.sz (I:Inv X pins σ H s):X.s₀.heap.objs.size<=s.heap.objs.size:=Nat.le_trans I.ok.above (Nat.le_of_lt I.lt)
theorem Inv.nofs (I:Inv X pins σ H s) {a:Addr} (h:s.heap.objs.size<=a):a ∉ X.fs:=fun hb=>by
  obtain ⟨_,o,ho,_⟩:=I.ok.funs.mem hb
  exact absurd (Nat.lt_of_lt_of_le (Heap.lt_size ho) (Nat.le_trans I.sz h)) (Nat.lt_irrefl _)
theorem Inv.cne (I:Inv X pins σ H s):∀ x c,X.env.cells.lookup x=some c->c≠X.env.locals:=fun x c e z=>by
  obtain ⟨v,o,ho,hd⟩:=I.cell x c e
  obtain ⟨m,⟨o',es,ep,ho',hd',_⟩,_⟩:=I.loc
  rw [z,ho'] at ho;cases ho;rw [hd'] at hd;cases hd
theorem Inv.funs (I:Inv X pins σ H s):s.heap.FunFrames X.base X.outer:=by
  have all:∀ (l:List Env),(∀ b∈frs l,b∈X.fs)->X.s₀.heap.FunFrames X.base l->s.heap.FunFrames X.base l:=by
    intro l
    induction l with
    | nil=>intro _ _;trivial
    | cons env r ih =>
      intro hs hl
      obtain ⟨hk,⟨L,o,hf,hn,ho,hd⟩,hr⟩:=hl
      have hL:L∈X.fs:=hs L (by unfold frs;rw [List.filterMap_cons,hf];exact List.mem_cons_self)
      obtain ⟨sl,e⟩:=I.base.slot L o ho (I.ok.frf L hL) hL fun z=>I.ok.exfs L z hL
      exact ⟨hk,⟨L,_,hf,hn,e,hd⟩,ih (fun b hb=>hs b (by unfold frs;rw [List.filterMap_cons,hf];exact List.mem_cons_of_mem _ hb)) hr⟩
  exact all X.outer (fun _ hb=>hb) I.ok.funs
theorem Inv.stack (I:Inv X pins σ H s):s.heap.FunFrames X.base X.stack:=by
  rcases I.ok.stk with e | ⟨e,hf⟩
  . rw [e];exact I.funs
  . rw [e]
    obtain ⟨m,hn,_⟩:=I.loc
    refine .cons (by rw [I.ok.kind];decide) hf hn ?_ I.funs
    exact Heap.get?_none_of_le (Nat.le_trans I.ok.bsz I.ok.above)
theorem Inv.stkSub (I:Inv X pins σ H s):∀ b∈frs X.stack,b∈X.env.locals::X.fs:=fun b hb=>by
  rcases I.ok.stk with e | ⟨e,hf⟩
  . rw [e] at hb;exact List.mem_cons_of_mem _ hb
  . rw [e] at hb
    unfold frs at hb
    rw [List.filterMap_cons,hf] at hb
    exact hb
theorem Inv.stkFree (I:Inv X pins σ H s):∀ b∈frs X.stack,H b=none:=fun b hb=>by
  rcases List.mem_cons.mp (I.stkSub b hb) with e | hb
  . rw [e];exact I.free
  . obtain ⟨_,o,ho,_⟩:=I.ok.funs.mem hb
    exact I.base.free b o ho (I.ok.frf b hb) fun z=>I.ok.exfs b z hb
theorem Inv.step {g':Array GenState} {t':Nat} {d':Drawn} {ch:List Addr} (I:Inv X pins σ H s)
    (hch:∀ b∈ch,(b∈X.ex\/X.s₀.heap.objs.size<=b)/\b≠X.env.locals/\(∀ x c,X.env.cells.lookup x=some c->c≠b)/\∀ p∈X.pn++pins,p.1≠b)
    (keep:∀ b o,b≠X.env.locals->b ∉ X.fs->b ∉ ch->s.heap.get? b=some o->H b=none->h'.get? b=some o)
    (slot:∀ b o,b≠X.env.locals->b∈X.fs->b ∉ ch->s.heap.get? b=some o->H b=none->∃ sl,h'.get? b=some { o with slots:=sl }) (free:∀ b o,b ∉ ch->s.heap.get? b=some o->H b=none->H' b=none)
    (there:∀ b o,b ∉ ch->s.heap.get? b=some o->∃ o',h'.get? b=some o')
    (tups:∀ b xs,H b=some (.tup xs)->H' b=some (.tup xs)) (frzs:∀ b o u,H b=some (.frz o u)->H' b=some (.frz o u)) (tbls:∀ b ps,H b=some (.tbl ps)->∃ more,H' b=some (.tbl (ps++more)))
    (ns:∀ m,s.heap.Ns X.env.locals m->h'.Ns X.env.locals m) (hok:HOk X.prog X.w H' h') (hg:AllBare g') :
    Inv X pins σ H' { s with heap:=h',gens:=g',drawn:=d',toks:=t' }:=by
  have neL:∀ b o,X.s₀.heap.get? b=some o->b≠X.env.locals:=fun b o e=>Nat.ne_of_lt (Nat.lt_of_lt_of_le (Heap.lt_size e) I.ok.above)
  have neC:∀ b o,X.s₀.heap.get? b=some o->b ∉ X.ex->b ∉ ch:=fun b o e hx hb=>by
    rcases (hch b hb).1 with z | z
    . exact hx z
    . exact absurd (Nat.lt_of_lt_of_le (Heap.lt_size e) z) (Nat.lt_irrefl _)
  have cellK:∀ x c,X.env.cells.lookup x=some c->∀ v,s.heap.IsCell c v->h'.IsCell c v:=fun x c e v hq0=>by
    obtain ⟨o,ho,hd⟩:=hq0
    have nch:c ∉ ch:=fun z=>(hch c z).2.2.1 x c e rfl
    by_cases hc:c∈X.fs
    . obtain ⟨sl,q⟩:=slot c o (I.cne x c e) hc nch ho (I.freeC x c e)
      exact ⟨_,q,hd⟩
    . exact ⟨o,keep c o (I.cne x c e) hc nch ho (I.freeC x c e),hd⟩
  refine ⟨I.ok,I.os,hg,⟨fun b o e n hb hx=>?_,fun b o e n hb hx=>?_,fun b o e n hx=>?_,fun b o e hx=>?_,fun b xs e=>tups b xs (I.base.tups b xs e),fun b o xs e=>frzs b o xs (I.base.frzs b o xs e),fun b ps e=>?_⟩,?_,fun x c e=>?_,?_,fun x c e=>?_,fun p hp=>?_,hok,I.len⟩
  . exact keep b o (neL b o e) hb (neC b o e hx) (I.base.keep b o e n hb hx) (I.base.free b o e n hx)
  . obtain ⟨sl,e1⟩:=I.base.slot b o e n hb hx
    obtain ⟨sl',e2⟩:=slot b _ (neL b o e) hb (neC b o e hx) e1 (I.base.free b o e n hx)
    exact ⟨sl',e2⟩
  . obtain ⟨o',e1⟩:=I.base.there b o e hx
    exact free b o' (neC b o e hx) e1 (I.base.free b o e n hx)
  . obtain ⟨o',e1⟩:=I.base.there b o e hx
    exact there b o' (neC b o e hx) e1
  . obtain ⟨m1,e1⟩:=I.base.tbls b ps e
    obtain ⟨m2,e2⟩:=tbls b _ e1
    exact ⟨m1++m2,by rw [e2,Array.append_assoc]⟩
  . obtain ⟨m,hn,hl⟩:=I.loc
    refine ⟨m,ns m hn,fun i x v e1 e2 e3=>?_⟩
    obtain ⟨u,r,l⟩:=hl i x v e1 e2 e3
    refine ⟨u,r,?_⟩
    rcases l with l | ⟨k,c,e,z⟩
    . exact .inl l
    . exact .inr ⟨k,c,e,cellK x c e _ z⟩
  . obtain ⟨v,z⟩:=I.cell x c e
    exact ⟨v,cellK x c e v z⟩
  . obtain ⟨m,⟨o,_,_,ho,_⟩,_⟩:=I.loc
    exact free _ o (fun z=>(hch _ z).2.1 rfl) ho I.free
  . obtain ⟨v,o,ho,hd⟩:=I.cell x c e
    exact free c o (fun z=>(hch c z).2.2.1 x c e rfl) ho (I.freeC x c e)
  . obtain ⟨e,n,ne,nf,d⟩:=I.pin p hp
    have nch:p.1 ∉ ch:=fun z=>(hch p.1 z).2.2.2 p hp rfl
    exact ⟨keep p.1 p.2 ne nf nch e n,free p.1 p.2 nch e n,ne,nf,d⟩
theorem Inv.un {t':Nat} (I:Inv X pins σ H s) (u:Un X.fs [] H H' s.heap h') (hok:HOk X.prog X.w H' h'):Inv X pins σ H' { s with heap:=h',toks:=t' }:=by
  obtain ⟨m,⟨o,es,ep,ho,r⟩,_⟩:=id I.loc
  obtain ⟨sl,hL⟩:=u.any ho I.free (by simp)
  exact I.step (g':=s.gens) (d':=s.drawn) (ch:=[]) (fun _ z=>nomatch z) (fun b o _ hb _ e n=>u.keep b o e n hb (by simp)) (fun b o _ hb _ e n=>u.slot b o e n hb (by simp)) (fun b o _ e n=>u.free b o e n (by simp)) (fun b o _ e=>u.there b o e (by simp)) u.tups u.frzs u.tbls (fun m' hm=>by
    obtain ⟨o',es',ep',ho',r'⟩:=hm
    rw [ho] at ho';cases ho'
    exact ⟨_,es',ep',hL,r'⟩) hok I.bare
theorem Inv.call {g':Array GenState} {t':Nat} {d':Drawn} {ch:List Addr} (I:Inv X pins σ H s) (u:Un (frs X.stack) ch H H' s.heap h') (hok:HOk X.prog X.w H' h') (hg:AllBare g')
    (hch:∀ b∈ch,(b∈X.ex\/X.s₀.heap.objs.size<=b)/\b≠X.env.locals/\(∀ x c,X.env.cells.lookup x=some c->c≠b)/\∀ p∈X.pn++pins,p.1≠b) :
    Inv X pins σ H' { s with heap:=h',gens:=g',drawn:=d',toks:=t' }:=by
  obtain ⟨m,⟨o,es,ep,ho,r⟩,_⟩:=id I.loc
  obtain ⟨sl,hL⟩:=u.any ho I.free fun z=>(hch _ z).2.1 rfl
  exact I.step (ch:=ch) hch (fun b o hL hb hc e n=>u.keep b o e n (fun z=>(List.mem_cons.mp (I.stkSub b z)).elim hL hb) hc) (fun b o _ _ hc e n=>u.any e n hc) (fun b o hc e n=>u.free b o e n hc) (fun b o hc e=>u.there b o e hc) u.tups u.frzs u.tbls (fun m' hm=>by
    obtain ⟨o',es',ep',ho',r'⟩:=hm
    rw [ho] at ho';cases ho'
    exact ⟨_,es',ep',hL,r'⟩) hok hg
theorem Inv.turned {t':Nat} {it:Addr} (I:Inv X pins σ H s) (k:∀ b o,b≠it->s.heap.get? b=some o->h'.get? b=some o) (hn:H it=none) (hL:it≠X.env.locals)
    (h1:it∈X.ex\/X.s₀.heap.objs.size<=it) (h2:∀ x c,X.env.cells.lookup x=some c->c≠it) (h3:∀ p∈X.pn++pins,p.1≠it):Inv X pins σ H { s with heap:=h',toks:=t' }:=by
  have nit:∀ b u,H b=some u->b≠it:=fun b u e z=>by rw [z,hn] at e;cases e
  refine I.step (g':=s.gens) (d':=s.drawn) (ch:=[it]) (fun b hb=>?_) (fun b o _ _ hc e _=>k b o (fun z=>hc (by simp [z])) e) (fun b o _ _ hc e _=>⟨o.slots,k b o (fun z=>hc (by simp [z])) e⟩) (fun _ _ _ _ n=>n)
    (fun b o hc e=>⟨o,k b o (fun z=>hc (by simp [z])) e⟩) (fun _ _ e=>e) (fun _ _ _ e=>e) (fun b ps e=>⟨#[],by rw [e];simp⟩) (fun m hm=>?_) (fun b u e=>?_) I.bare
  . have e:b=it:=by simpa using hb
    subst e
    exact ⟨h1,hL,h2,h3⟩
  . obtain ⟨o,es,ep,ho,r⟩:=hm
    exact ⟨o,es,ep,k _ o (Ne.symm hL) ho,r⟩
  . refine (I.hok b u e).stay (fun c v hc q=>k c v ?_ q) (fun _ q=>q) fun _ _ q=>q
    rcases hc with z | z
    . rw [z];exact nit b u e
    . exact nit c _ z
theorem Inv.tok (I:Inv X pins σ H s) (t:Nat):Inv X pins σ H { s with toks:=t }:=I.un (h':=s.heap) (t':=t) Un.refl I.hok
theorem Inv.kept {t':Nat} (I:Inv X pins σ H s) (k:∀ b u,s.heap.get? b=some u->h'.get? b=some u):Inv X pins σ H { s with heap:=h',toks:=t' }:=I.un (Un.kept k) (I.hok.kept k)
theorem Inv.laid {a:Addr} {o:HO} {t':Nat} (I:Inv X pins σ H s) (k:∀ b u,s.heap.get? b=some u->h'.get? b=some u) (hp:s.heap.objs.size<=a) (new:ObjOk X.prog X.w (upd H a o) h' a o) :
    Inv X pins σ (upd H a o) { s with heap:=h',toks:=t' }:=I.un (Un.laid k hp (I.hok.fresh hp)) (I.hok.laid k hp new)
theorem Inv.write {x e:Addr} {o:HO} {t':Nat} (I:Inv X pins σ H s) (mu:Mut (H x)) (he:e=x\/H e=some (.own x)) (k:∀ b u,b≠e->s.heap.get? b=some u->h'.get? b=some u) (heo:∃ u,h'.get? e=some u)
    (new:ObjOk X.prog X.w (upd H x o) h' x o):Inv X pins σ (upd H x o) { s with heap:=h',toks:=t' }:=I.un (Un.write mu he k heo) (I.hok.write mu he k heo new)
theorem Inv.pins_of {pins':List (Addr × Obj)} (I:Inv X pins σ H s) (h:∀ p∈pins',s.heap.get? p.1=some p.2/\H p.1=none/\p.1≠X.env.locals/\p.1 ∉ X.fs/\∀ v,p.2.data≠.cell v):Inv X pins' σ H s :=
  ⟨I.ok,I.os,I.bare,I.base,I.loc,I.cell,I.free,I.freeC,fun p hp=>(List.mem_append.mp hp).elim (fun z=>I.pin p (List.mem_append_left _ z)) (h p),I.hok,I.len⟩
theorem nodup_ix {N:List Str} (hN:N.Nodup) {i j:Nat} {x:Str} (a:N[i]? = some x) (b:N[j]? = some x):i=j:=by
  obtain ⟨h1,e1⟩:=List.getElem?_eq_some_iff.mp a
  obtain ⟨h2,e2⟩:=List.getElem?_eq_some_iff.mp b
  exact (List.getElem_inj hN).mp (e1.trans e2.symm)
theorem store_ok2 {M:Model} {A:Around} {E:Value->Shared->Prop} {i:Nat} {x:Str} {v:V} {u:Value} {Q:Unit->Shared->Prop} (I:Inv X pins σ H s) (hN:X.N.Nodup) (hi:X.N[i]? = some x) (hx:Loc X.env.scope x) (r:RelV v u)
    (h:∀ s',Inv X pins (σ.set i (some v)) H s'->(∃ a,Heap.SameBut a s.heap s'.heap/\(a=X.env.locals\/X.env.cells.lookup x=some a))->Q () s') (hf:X.fn x=true\/X.env.scope.names.lookup x=some .local:=by first | exact .inl rfl | exact .inr rfl | assumption):wpAny M A (storeName X.env x u) Q E s:=by
  obtain ⟨m,hn,hl⟩:=id I.loc
  have hcls:(X.env.scope.kind == .class || (X.env.scope.kind == .module && X.env.locals != X.env.globals))=false:=by rw [I.ok.kind];rfl
  have hiσ:i < σ.length:=by rw [I.len];exact (List.getElem?_eq_some_iff.mp hi).1
  have cne:=I.cne
  have tracked:∀ {a:Addr} {h':Heap},(∃ o,s.heap.get? a=some o/\H a=none)->Heap.SameBut a s.heap h'->HOk X.prog X.w H h':=fun {a h'} ha hs b ob e=>by
    obtain ⟨_,_,hfree⟩:=ha
    refine (I.hok b ob e).stay (fun c w' hc q=>(hs.2 c ?_).trans q) (fun _ q=>q) fun _ _ q=>q
    rintro rfl
    rcases hc with rfl | hc
    . rw [hfree] at e;cases e
    . rw [hfree] at hc;cases hc
  rcases hx with hk | hk
  . refine wpAny_storeName_local hk hn (fun h' hn' hs=>?_) hcls
    obtain ⟨oL,_,_,hoL,_⟩:=id hn
    refine h _ ⟨I.ok,I.os,I.bare,⟨fun b o e n hb hx=>?_,fun b o e n hb hx=>?_,I.base.free,fun b o e hx=>?_,I.base.tups,I.base.frzs,I.base.tbls⟩,⟨_,hn',fun j y v' e1 e2 e3=>?_⟩,fun y c e=>?_,I.free,I.freeC,fun p hp=>?_,tracked ⟨oL,hoL,I.free⟩ hs,by simpa using I.len⟩ ⟨_,hs,.inl rfl⟩
    . exact (hs.2 b (Nat.ne_of_lt (Nat.lt_of_lt_of_le (Heap.lt_size e) I.ok.above))).trans (I.base.keep b o e n hb hx)
    . obtain ⟨sl,e1⟩:=I.base.slot b o e n hb hx
      exact ⟨sl,(hs.2 b (Nat.ne_of_lt (Nat.lt_of_lt_of_le (Heap.lt_size e) I.ok.above))).trans e1⟩
    . obtain ⟨o',e1⟩:=I.base.there b o e hx
      exact ⟨o',(hs.2 b (Nat.ne_of_lt (Nat.lt_of_lt_of_le (Heap.lt_size e) I.ok.above))).trans e1⟩
    . by_cases hj:j=i
      . subst hj
        rw [hi] at e1;cases e1
        rw [List.getElem?_set_self hiσ] at e2
        cases e2
        exact ⟨u,r,.inl ⟨hk,by simp⟩⟩
      . rw [List.getElem?_set_ne (Ne.symm hj)] at e2
        obtain ⟨u',r',q⟩:=hl j y v' e1 e2 e3
        refine ⟨u',r',?_⟩
        rcases q with ⟨k,e⟩ | ⟨k,c,e,z⟩
        . refine .inl ⟨k,?_⟩
          have:y≠x:=fun e=>hj (nodup_ix hN e1 (e ▸ hi))
          simp [this,e]
        . exact .inr ⟨k,c,e,z.sameBut hs (cne y c e)⟩
    . obtain ⟨w',z⟩:=I.cell y c e
      exact ⟨w',z.sameBut hs (cne y c e)⟩
    . obtain ⟨e,n,ne,nf,d⟩:=I.pin p hp
      exact ⟨(hs.2 p.1 ne).trans e,n,ne,nf,d⟩
  . have hfn:X.fn x=true:=by
      rcases hf with z | z
      . exact z
      . rw [z] at hk;cases hk
    obtain ⟨c,hc⟩:=I.ok.has x (.inl hk)
    obtain ⟨w',z⟩:=I.cell x c hc
    refine wpAny_storeName_cell I.ok.kind hk hc z (fun h' hc' hs=>?_)
    obtain ⟨oc,hoc,hocd⟩:=id z
    refine h { s with heap:=h' } ⟨I.ok,I.os,I.bare,⟨fun b o e n hb hx=>?_,fun b o e n hb hx=>?_,I.base.free,fun b o e hx=>?_,I.base.tups,I.base.frzs,I.base.tbls⟩,⟨m,hn.sameBut hs (Ne.symm (cne x c hc)),fun j y v' e1 e2 e3=>?_⟩,fun y c' e=>?_,I.free,I.freeC,fun p hp=>?_,tracked ⟨oc,hoc,I.freeC x c hc⟩ hs,by simpa using I.len⟩ ⟨c,hs,.inr hc⟩
    . exact (hs.2 b (Nat.ne_of_lt (Nat.lt_of_lt_of_le (Heap.lt_size e) (I.ok.cab x c hfn hc)))).trans (I.base.keep b o e n hb hx)
    . obtain ⟨sl,e1⟩:=I.base.slot b o e n hb hx
      exact ⟨sl,(hs.2 b (Nat.ne_of_lt (Nat.lt_of_lt_of_le (Heap.lt_size e) (I.ok.cab x c hfn hc)))).trans e1⟩
    . obtain ⟨o',e1⟩:=I.base.there b o e hx
      exact ⟨o',(hs.2 b (Nat.ne_of_lt (Nat.lt_of_lt_of_le (Heap.lt_size e) (I.ok.cab x c hfn hc)))).trans e1⟩
    . by_cases hj:j=i
      . subst hj
        rw [hi] at e1;cases e1
        rw [List.getElem?_set_self hiσ] at e2
        cases e2
        exact ⟨u,r,.inr ⟨.inl hk,c,hc,hc'⟩⟩
      . rw [List.getElem?_set_ne (Ne.symm hj)] at e2
        obtain ⟨u',r',q⟩:=hl j y v' e1 e2 e3
        refine ⟨u',r',?_⟩
        rcases q with q | ⟨k,c',e,z'⟩
        . exact .inl q
        . refine .inr ⟨k,c',e,z'.sameBut hs ?_⟩
          rintro rfl
          exact hj (nodup_ix hN e1 (I.ok.inj _ _ _ e hc ▸ hi))
    . by_cases hcc:c'=c
      . subst hcc;exact ⟨_,hc'⟩
      . obtain ⟨w2,z2⟩:=I.cell y c' e
        exact ⟨w2,z2.sameBut hs hcc⟩
    . obtain ⟨e,n,ne,nf,d⟩:=I.pin p hp
      refine ⟨(hs.2 p.1 ?_).trans e,n,ne,nf,d⟩
      intro q
      rw [q,hoc] at e
      have q':oc=p.2:=Option.some.inj e
      exact d w' (by rw [<- q'];exact hocd)
theorem store_ok {M:Model} {A:Around} {E:Value->Shared->Prop} {i:Nat} {x:Str} {v:V} {u:Value} {Q:Unit->Shared->Prop} (I:Inv X pins σ H s) (hN:X.N.Nodup) (hi:X.N[i]? = some x) (hx:Loc X.env.scope x) (r:RelV v u)
    (h:∀ s',Inv X pins (σ.set i (some v)) H s'->Q () s') (hf:X.fn x=true\/X.env.scope.names.lookup x=some .local:=by first | exact .inl rfl | exact .inr rfl | assumption):wpAny M A (storeName X.env x u) Q E s :=
  store_ok2 I hN hi hx r (fun s' I' _=>h s' I') hf
theorem Inv.call' {s':Shared} {ch:List Addr} (I:Inv X pins σ H s) (ho:s'.os=s.os) (u:Un (frs X.stack) ch H H' s.heap s'.heap) (hok:HOk X.prog X.w H' s'.heap) (hg:AllBare s'.gens)
    (hch:∀ b∈ch,(b∈X.ex\/X.s₀.heap.objs.size<=b)/\b≠X.env.locals/\(∀ x c,X.env.cells.lookup x=some c->c≠b)/\∀ p∈X.pn++pins,p.1≠b):Inv X pins σ H' s':=by
  obtain ⟨h',g',d',t',o'⟩:=s'
  have e:o'=s.os:=ho
  subst e
  exact I.call (g':=g') (t':=t') (d':=d') u hok hg hch
end
noncomputable abbrev XK:=Value->Option Addr->Hp->Prop
noncomputable abbrev St:=List (Option V)
noncomputable abbrev VK:=V->Hp->Prop
noncomputable abbrev TE:=St->Hp->VK->Prop
noncomputable abbrev TT:=St->Hp->(Bool->Hp->Prop)->Prop
noncomputable abbrev TA:=St->Hp->(List V->Hp->Prop)->Prop
structure Ends where
  nx:St->Hp->Prop
  rt:VK
  bk:St->Hp->Prop:=fun _ _=>False
  ct:St->Hp->Prop:=fun _ _=>False
noncomputable abbrev TS:=Ends->St->Hp->Prop
noncomputable def EP (X:Cx) (pins:List (Addr × Obj)) (σ:St) (Q:VK) (u:Value) (s':Shared):Prop:=∃ v H',Inv X pins σ H' s'/\RelV v u/\Q v H'
noncomputable def TP (X:Cx) (pins:List (Addr × Obj)) (σ:St) (Q:Bool->Hp->Prop) (b:Bool) (s':Shared):Prop:=∃ H',Inv X pins σ H' s'/\Q b H'
noncomputable def AP (X:Cx) (pins:List (Addr × Obj)) (σ:St) (Q:List V->Hp->Prop) (us:List Value) (s':Shared):Prop:=∃ vs H',Inv X pins σ H' s'/\Vals vs us/\Q vs H'
noncomputable def SP (X:Cx) (pins:List (Addr × Obj)) (D:Ends) (f:Flow) (s':Shared):Prop :=
  match f with
  | .next=>∃ σ' H',Inv X pins σ' H' s'/\D.nx σ' H'
  | .brk=>∃ σ' H',Inv X pins σ' H' s'/\D.bk σ' H'
  | .cont=>∃ σ' H',Inv X pins σ' H' s'/\D.ct σ' H'
  | .ret u=>∃ v σ' H',Inv X pins σ' H' s'/\RelV v u/\D.rt v H'
noncomputable def PE (X:Cx) (e:Expr) (t:TE):Prop :=
  ∀ (pins:List (Addr × Obj)) (s:Shared) (σ:St) (H:Hp) (Q:VK),Inv X pins σ H s->t σ H Q->wpAny (model X.prog X.w) X.A (eval e X.env) (EP X pins σ Q) X.xe s
noncomputable def PT (X:Cx) (e:Expr) (t:TT):Prop :=
  ∀ (pins:List (Addr × Obj)) (s:Shared) (σ:St) (H:Hp) (Q:Bool->Hp->Prop),Inv X pins σ H s->t σ H Q->wpAny (model X.prog X.w) X.A (isTrue e X.env (eval e X.env)) (TP X pins σ Q) X.xe s
noncomputable def PW (X:Cx) (e:Expr) (t:TT):Prop :=
  ∀ (whole:Sem Value) (pins:List (Addr × Obj)) (s:Shared) (σ:St) (H:Hp) (Q:Bool->Hp->Prop),Inv X pins σ H s->t σ H Q->wpAny (model X.prog X.w) X.A (isTrue e X.env whole) (TP X pins σ Q) X.xe s
theorem PW.pt {X:Cx} {e:Expr} {t:TT} (h:PW X e t):PT X e t:=h _
noncomputable def PA (X:Cx) (es:List Expr) (t:TA):Prop :=
  ∀ (pos:Pos) (pins:List (Addr × Obj)) (s:Shared) (σ:St) (H:Hp) (Q:List V->Hp->Prop),Inv X pins σ H s->t σ H Q->wpAny (model X.prog X.w) X.A (spliced (backTo pos (starEach es X.env))) (AP X pins σ Q) X.xe s
noncomputable def PS (X:Cx) (st:Stmt) (t:TS):Prop :=
  ∀ (pins:List (Addr × Obj)) (s:Shared) (σ:St) (H:Hp) (D:Ends),Inv X pins σ H s->t D σ H->wpAny (model X.prog X.w) X.A (exec st X.env) (SP X pins D) X.xe s
noncomputable def PSs (X:Cx) (st:List Stmt) (t:TS):Prop :=
  ∀ (pins:List (Addr × Obj)) (s:Shared) (σ:St) (H:Hp) (D:Ends),Inv X pins σ H s->t D σ H->wpAny (model X.prog X.w) X.A (execs st X.env) (SP X pins D) X.xe s
theorem thn {α:Type} {t:Sem α} {Q Q':α->Shared->Prop} {M:Model} {A:Around} {E:Value->Shared->Prop} {s:Shared} (h:wpAny M A t Q E s) (hQ:∀ a s,Q a s->Q' a s):wpAny M A t Q' E s:=wpAny_mono h hQ fun _ _ x=>x
end L2
namespace L2
open PySem PySem.Spec PyProof.Rows
section
variable {X:Cx}
theorem bin {a b:Expr} {ta tb:TE} (ha:PE X a ta) (hb:PE X b tb) {pins:List (Addr × Obj)} {s:Shared} {σ:St} {H:Hp} {R:V->V->Hp->Prop} (I:Inv X pins σ H s) (h:ta σ H fun x H1=>tb σ H1 fun y H2=>R x y H2)
    {α:Type} {Q:α->Shared->Prop} {f:Value->Value->Sem α}
    (hf:∀ v u s2 x y H2,Inv X pins σ H2 s2->RelV x v->RelV y u->R x y H2->wpAny (model X.prog X.w) X.A (f v u) Q X.xe s2) :
    wpAny (model X.prog X.w) X.A (eval a X.env) (fun v s₁=>wpAny (model X.prog X.w) X.A (eval b X.env) (fun u s₂=>wpAny (model X.prog X.w) X.A (f v u) Q X.xe s₂) X.xe s₁) X.xe s:=by
  refine thn (ha pins s σ H _ I h) fun v s1 h_q=>?_
  obtain ⟨x,H1,I1,r1,q1⟩:=h_q
  refine thn (hb pins s1 σ H1 _ I1 q1) fun u s2 h_q=>?_
  obtain ⟨y,H2,I2,r2,q2⟩:=h_q
  exact hf v u s2 x y H2 I2 r1 r2 q2
noncomputable def tVar (i:Nat):TE:=fun σ H Q=>∃ v,σ[i]? = some (some v)/\Q v H
noncomputable def tC (v:V):TE:=fun _ H Q=>Q v H
theorem pe_var {i:Nat} {x:Str} {pos:Pos} (hN:X.N[i]? = some x) (hv:Vis X.env.scope x) (hd:(x == ("__debug__":Str))=false:=by decide) (hcd:(x == ("__classdict__":Str))=false:=by decide):PE X (.Name x pos) (tVar i):=by
  intro pins s σ H Q I h
  obtain ⟨v,e,h⟩:=h
  obtain ⟨m,hn,hl⟩:=I.loc
  obtain ⟨u,r,l⟩:=hl i x v hN e hv
  have fin:EP X pins σ Q u s:=⟨v,H,I,r,h⟩
  rcases l with ⟨hk,hm⟩ | ⟨hk,c,hc,hcell⟩
  . exact wpAny_Name (wpAny_loadName_local I.ok.kind hk hn hm fin) hd
  . rcases hk with hk | hk
    . exact wpAny_Name (wpAny_loadName_cell I.ok.kind hk hc hcell fin) hd
    . exact wpAny_Name (wpAny_loadName_free I.ok.kind hk hc hcell fin hcd) hd
theorem pe_int {i j pos}:PE X (.Constant (.int i) j pos) (tC (.int i)):=fun _ _ _ H _ I h=>wpAny_Constant_int ⟨.int i,H,I.tok _,⟨_,rfl⟩,h⟩
theorem pe_bl {b j pos}:PE X (.Constant (.bool b) j pos) (tC (.bl b)):=fun _ _ _ H _ I h=>Constant_bool ⟨.bl b,H,I,rfl,h⟩
theorem pe_non {j pos}:PE X (.Constant .none j pos) (tC .non):=fun _ _ _ H _ I h=>Constant_none ⟨.non,H,I,rfl,h⟩
theorem pe_str {x j pos}:PE X (.Constant (.str x) j pos) (tC (.str x)):=fun _ _ _ H _ I h=>Calls.Constant_str ⟨.str x,H,I.tok _,⟨_,rfl⟩,h⟩
noncomputable def Gl (X:Cx) (x:Str):Prop:=X.env.kindOf x=some .globalImplicit
theorem ld_glob {E:Value->Shared->Prop} {pins:List (Addr × Obj)} {s:Shared} {σ:St} {H:Hp} {x:Str} {u:Value} {pos:Pos} {Q:Value->Shared->Prop} (I:Inv X pins σ H s) (hg:Gl X x) (hm:X.mg x=some u) (h:Q u s)
    (hd:(x == ("__debug__":Str))=false:=by decide):wpAny (model X.prog X.w) X.A (eval (.Name x pos) X.env) Q E s :=
  Calls.Name_function_global I.ok.kind hg (Calls.loadGlobal_global (by rw [I.ok.glob];exact I.mod.glob.keeps I.bk) hm h) hd
theorem ld_blt {E:Value->Shared->Prop} {pins:List (Addr × Obj)} {s:Shared} {σ:St} {H:Hp} {x:Str} {u:Value} {pos:Pos} {Q:Value->Shared->Prop} (I:Inv X pins σ H s) (hg:Gl X x) (hm:X.mg x=none) (hv:bootBuiltins x=some u) (h:Q u s)
    (hn:x≠"__name__":=by decide) (hd:(x == ("__debug__":Str))=false:=by decide):wpAny (model X.prog X.w) X.A (eval (.Name x pos) X.env) Q E s:=by
  obtain ⟨mb,h1,h2⟩:=I.mod.blt
  exact Calls.Name_function_global I.ok.kind hg (Calls.loadGlobal_builtin (by rw [I.ok.glob];exact I.mod.glob.keeps I.bk) hm (by rw [I.ok.blt];exact h1.keeps I.bk) ((h2 x hn).trans hv) h) hd
theorem pe_glob {x:Str} {v:V} {u:Value} {pos:Pos} (hg:Gl X x) (hm:X.mg x=some u) (r:RelV v u) (hd:(x == ("__debug__":Str))=false:=by decide):PE X (.Name x pos) (tC v) :=
  fun _ _ _ H _ I h=>ld_glob I hg hm ⟨v,H,I,r,h⟩ hd
theorem pe_bltn {x:Str} {v:V} {u:Value} {pos:Pos} (hg:Gl X x) (hm:X.mg x=none) (hv:bootBuiltins x=some u) (r:RelV v u) (hn:x≠"__name__":=by decide) (hd:(x == ("__debug__":Str))=false:=by decide):PE X (.Name x pos) (tC v) :=
  fun _ _ _ H _ I h=>ld_blt I hg hm hv ⟨v,H,I,r,h⟩ hn hd
variable {a b:Expr} {ta tb:TE} {pos:Pos}
noncomputable def PC (X:Cx) (op:CmpOp) (a b:Expr) (t:TE):Prop :=
  ∀ (pins:List (Addr × Obj)) (s:Shared) (σ:St) (H:Hp) (Q:VK),Inv X pins σ H s->t σ H Q ->
    wpAny (model X.prog X.w) X.A (eval a X.env) (fun v s₁=>wpAny (model X.prog X.w) X.A (eval b X.env) (fun u s₂=>wpAny (model X.prog X.w) X.A (compareOp op v u) (EP X pins σ Q) X.xe s₂) X.xe s₁) X.xe s
theorem nobehind (b:Expr) {op:CmpOp} (h:op≠.In) (h2:op≠.NotIn):behindInMarks op b=false:=by
  have e1:(op == CmpOp.In)=false:=by cases op <;> first | rfl | exact absurd rfl h
  have e2:(op == CmpOp.NotIn)=false:=by cases op <;> first | rfl | exact absurd rfl h2
  cases b <;> simp [behindInMarks,e1,e2]
noncomputable def tB (t:TE):TT:=fun σ H Q=>t σ H fun x H1=>∃ c,x=.bl c/\Q c H1
theorem pt_cmp {op:CmpOp} {t:TE} (h:PC X op a b t) (h1:behindInMarks op b=false:=by first | exact nobehind _ (by decide) (by decide) | rfl):PT X (.Compare a [op] [b] pos) (tB t):=by
  intro pins s σ H Q I hw
  refine wpAny_isTrue_Compare1 (thn (h pins s σ H _ I hw) fun v s1 h1=>thn h1 fun u s2 h2=>thn h2 fun c s3 ⟨x,H1,I1,r1,q1⟩=>?_) h1
  obtain ⟨d,rfl,q⟩:=q1
  cases r1
  exact wpAny_truthy_bool ⟨H1,I1,q⟩
theorem pt_val {e:Expr} {t:TE} (h:PE X e t) (he:∀ whole,isTrue e X.env whole=(do let v <- whole;standAt e.pos;holding [v] (truthy v)):=by intro _;rfl):PT X e (tB t):=by
  intro pins s σ H Q I hw
  refine isTrue_plain (thn (h pins s σ H _ I hw) fun v s1 ⟨x,H1,I1,r1,q1⟩=>?_) (he _)
  obtain ⟨d,rfl,q⟩:=q1
  cases r1
  exact wpAny_truthy_bool ⟨H1,I1,q⟩
variable {tA tB':TT} {rest:List Expr}
noncomputable def tAnd (t u:TT):TT:=fun σ H Q=>t σ H fun c H1=>if c=true then u σ H1 Q else Q false H1
noncomputable def tOr (t u:TT):TT:=fun σ H Q=>t σ H fun c H1=>if c=true then Q true H1 else u σ H1 Q
noncomputable def tNot (t:TT):TT:=fun σ H Q=>t σ H fun c H1=>Q (!c) H1
theorem pw_and1 (ha:PT X a tA):PW X (.BoolOp .And [a] pos) tA:=by
  intro wh pins s σ H Q I h
  refine isTrue_and (thn (ha pins s σ H Q I h) fun c s1 e=>?_)
  cases c with
  | true=>exact isTrue_and_nil e
  | false=>exact e
theorem pw_or1 (ha:PT X a tA):PW X (.BoolOp .Or [a] pos) tA:=by
  intro wh pins s σ H Q I h
  refine isTrue_or (thn (ha pins s σ H Q I h) fun c s1 e=>?_)
  cases c with
  | false=>exact isTrue_or_nil e
  | true=>exact e
theorem pw_and (ha:PT X a tA) (hb:PW X (.BoolOp .And (b::rest) pos) tB'):PW X (.BoolOp .And (a::b::rest) pos) (tAnd tA tB'):=by
  intro wh pins s σ H Q I h
  refine isTrue_and (thn (ha pins s σ H _ I h) fun c s1 h_q=>?_)
  obtain ⟨H1,I1,q1⟩:=h_q
  cases c with
  | true=>exact hb wh pins s1 σ H1 Q I1 q1
  | false=>exact ⟨H1,I1,q1⟩
theorem pw_or (ha:PT X a tA) (hb:PW X (.BoolOp .Or (b::rest) pos) tB'):PW X (.BoolOp .Or (a::b::rest) pos) (tOr tA tB'):=by
  intro wh pins s σ H Q I h
  refine isTrue_or (thn (ha pins s σ H _ I h) fun c s1 h_q=>?_)
  obtain ⟨H1,I1,q1⟩:=h_q
  cases c with
  | true=>exact ⟨H1,I1,q1⟩
  | false=>exact hb wh pins s1 σ H1 Q I1 q1
theorem pt_not (ha:PT X a tA):PT X (.UnaryOp .Not a pos) (tNot tA):=by
  intro pins s σ H Q I h
  exact isTrue_not (ha pins s σ H (fun c H1=>Q (!c) H1) I h)
noncomputable def tAndV (ta tb:TE):TE:=fun σ H Q=>ta σ H fun x H1=>∃ c,x=.bl c/\if c=true then tb σ H1 Q else Q (.bl false) H1
theorem pe_one {op} {t:TE} (h:PE X a t):PE X (.BoolOp op [a] pos) t:=fun pins s σ H Q I hw=>BoolOp_one (h pins s σ H Q I hw)
theorem pe_and (ha:PE X a ta) (hb:PE X (.BoolOp .And (b::rest) pos) tb):PE X (.BoolOp .And (a::b::rest) pos) (tAndV ta tb):=by
  intro pins s σ H Q I h
  refine BoolOp_and (thn (ha pins s σ H _ I h) fun v s1 h_q=>?_)
  obtain ⟨x,H1,I1,r1,q1⟩:=h_q
  obtain ⟨c,rfl,q1⟩:=q1
  cases r1
  refine wpAny_truthy_bool ?_
  cases c with
  | true=>exact hb pins s1 σ H1 Q I1 q1
  | false=>exact ⟨.bl false,H1,I1,rfl,q1⟩
end
end L2
namespace L2
open PySem PySem.Spec PyProof.Rows
noncomputable def SqL (K:PySem.W.Frag) (H:Hp) (a:Addr) (xs:List V):Prop :=
  Rd H a (.lst xs) \/
    ∃ (o:Obj) (its:Array Value) (n:Nat),K.lookup a=some o/\o.cls=.type "list"/\o.dict=none/\o.data=.seq its n/\its.size<=sizeLine/\Vals xs its.toList
noncomputable def SqT (K:PySem.W.Frag) (H:Hp) (a:Addr) (xs:List V):Prop :=
  Rd H a (.tup xs) \/
    ∃ (o:Obj) (its:Array Value) (n:Nat),K.lookup a=some o/\o.cls=.type "tuple"/\o.data=.seq its n/\its.size<=sizeLine/\Vals xs its.toList
noncomputable def absV:Value->Option V
  | .none=>some .non
  | .bool b=>some (.bl b)
  | .int i _=>some (.int i)
  | .str x _=>some (.str x)
  | .bytes b _=>some (.byt b)
  | .float b _=>some (.flt b)
  | .ref a=>some (.ref a)
  | .type n=>some (.ty n)
  | _=>none
theorem RelV.abs {x:V} {u:Value} (r:RelV x u):absV u=some x:=by
  cases x with
  | non=>cases r;rfl
  | bl _=>cases r;rfl
  | int _=>obtain ⟨t,rfl⟩:=r;rfl
  | str _=>obtain ⟨t,rfl⟩:=r;rfl
  | byt _=>obtain ⟨t,rfl⟩:=r;rfl
  | flt _=>obtain ⟨t,rfl⟩:=r;rfl
  | ref _=>cases r;rfl
  | ty _=>cases r;rfl
theorem RelV.inj {x y:V} {u:Value} (r:RelV x u) (q:RelV y u):x=y:=Option.some.inj (r.abs.symm.trans q.abs)
theorem Vals.inj:∀ {xs ys:List V} {us:List Value},Vals xs us->Vals ys us->xs=ys
  | _,_,_,.nil,.nil=>rfl
  | _,_,_,.cons r t,.cons r' t'=>by rw [r.inj r',Vals.inj t t']
section
variable {X:Cx} {pins:List (Addr × Obj)} {σ:St} {H:Hp} {s:Shared} {a:Addr} {xs ys:List V}
theorem SqL.of {K:PySem.W.Frag} (h:H a=some (.lst xs)):SqL K H a xs:=.inl (.inl h)
theorem SqT.of {K:PySem.W.Frag} (h:H a=some (.tup xs)):SqT K H a xs:=.inl (.inl h)
theorem Inv.list (I:Inv X pins σ H s) (h:SqL X.K H a xs):∃ its:List Value,Vals xs its/\PlainL s.heap a its.toArray/\xs.length<=sizeLine:=by
  rcases h with h | ⟨o,its,n,hk,hc,hd,hs,hz,r⟩
  . obtain ⟨z,its,n,r,e⟩:=h.ok I.hok
    exact ⟨its,r,⟨_,n,e,rfl,rfl,rfl⟩,z⟩
  . refine ⟨its.toList,r,⟨o,n,I.kIn a o hk,hc,hd,by simpa using hs⟩,?_⟩
    have e:=r.length
    simp only [Array.length_toList] at e
    lia
theorem Inv.tuple (I:Inv X pins σ H s) (h:SqT X.K H a xs):∃ its:List Value,Vals xs its/\IsTup s.heap a its.toArray/\xs.length<=sizeLine:=by
  rcases h with h | ⟨o,its,n,hk,hc,hs,hz,r⟩
  . obtain ⟨z,its,r,p⟩:=h.ok I.hok
    exact ⟨its,r,p,z⟩
  . refine ⟨its.toList,r,⟨o,I.kIn a o hk,hc,n,by simpa using hs⟩,?_⟩
    have e:=r.length
    simp only [Array.length_toList] at e
    lia
theorem Inv.list_inj (I:Inv X pins σ H s) (h:SqL X.K H a xs) (h':SqL X.K H a ys):xs=ys:=by
  obtain ⟨its,r,⟨o,n,e,_,_,d⟩,_⟩:=I.list h
  obtain ⟨its',r',⟨o',n',e',_,_,d'⟩,_⟩:=I.list h'
  rw [e] at e';cases e'
  rw [d] at d'
  injection d' with d1 _
  have:its=its':=by simpa using congrArg Array.toList d1
  subst this
  exact r.inj r'
theorem Inv.tuple_inj (I:Inv X pins σ H s) (h:SqT X.K H a xs) (h':SqT X.K H a ys):xs=ys:=by
  obtain ⟨its,r,⟨o,e,_,n,d⟩,_⟩:=I.tuple h
  obtain ⟨its',r',⟨o',e',_,n',d'⟩,_⟩:=I.tuple h'
  rw [e] at e';cases e'
  rw [d] at d'
  injection d' with d1 _
  have:its=its':=by simpa using congrArg Array.toList d1
  subst this
  exact r.inj r'
end
noncomputable abbrev Cx.wish (X:Cx) (E:Value->Shared->Prop):Cx:={ X with xe:=E }
noncomputable abbrev Cx.nox (X:Cx):Cx:=X.wish fun _ _=>False
theorem Cx.Ok.wish {X:Cx} (ok:X.Ok) (E:Value->Shared->Prop):(X.wish E).Ok :=
  ⟨ok.mod,ok.kind,ok.glob,ok.blt,ok.above,ok.inj,ok.has,ok.cab,ok.hd,ok.frames,ok.stk,ok.exf,ok.bs,ok.bsz,ok.noex,ok.exfs,ok.funs,ok.frf⟩
theorem Cx.Ok.unwish {X:Cx} {E:Value->Shared->Prop} (ok:(X.wish E).Ok):X.Ok :=
  ⟨ok.mod,ok.kind,ok.glob,ok.blt,ok.above,ok.inj,ok.has,ok.cab,ok.hd,ok.frames,ok.stk,ok.exf,ok.bs,ok.bsz,ok.noex,ok.exfs,ok.funs,ok.frf⟩
section
variable {X:Cx} {pins:List (Addr × Obj)} {σ:St} {H:Hp} {s:Shared} {E:Value->Shared->Prop}
theorem Inv.wish (I:Inv X pins σ H s) (E:Value->Shared->Prop):Inv (X.wish E) pins σ H s:=⟨I.ok.wish E,I.os,I.bare,I.base,I.loc,I.cell,I.free,I.freeC,I.pin,I.hok,I.len⟩
theorem Inv.unwish (I:Inv (X.wish E) pins σ H s):Inv X pins σ H s:=⟨I.ok.unwish,I.os,I.bare,I.base,I.loc,I.cell,I.free,I.freeC,I.pin,I.hok,I.len⟩
theorem SP.unwish {D:Ends} {f:Flow} {s':Shared} (h:SP (X.wish E) pins D f s'):SP X pins D f s':=by
  cases f with
  | next=>obtain ⟨σ',H',I,q⟩:=h;exact ⟨σ',H',I.unwish,q⟩
  | brk=>obtain ⟨σ',H',I,q⟩:=h;exact ⟨σ',H',I.unwish,q⟩
  | cont=>obtain ⟨σ',H',I,q⟩:=h;exact ⟨σ',H',I.unwish,q⟩
  | ret u=>obtain ⟨v,σ',H',I,r,q⟩:=h;exact ⟨v,σ',H',I.unwish,r,q⟩
theorem PSs.nox {st:List Stmt} {t:TS} (h:PSs X.nox st t):PSs X st t:=fun pins s σ H D I hw =>
  wpAny_mono (h pins s σ H D (I.wish _) hw) (fun _ _ q=>q.unwish) fun _ _ z=>False.elim z
end
section
variable {X:Cx} {st:Stmt} {rest:List Stmt} {t u:TS} {e:Expr} {te:TE} {pos:Pos}
noncomputable def tNext:TS:=fun D σ H=>D.nx σ H
noncomputable def tSeq (t u:TS):TS:=fun D σ H=>t { D with nx:=u D } σ H
theorem pss_nil:PSs X [] tNext:=fun _ _ σ H _ I h=>wpAny_execs_nil ⟨σ,H,I,h⟩
theorem pss_cons (h1:PS X st t) (h2:PSs X rest u):PSs X (st::rest) (tSeq t u):=by
  intro pins s σ H D I h
  refine wpAny_execs_cons (thn (h1 pins s σ H { D with nx:=u D } I h) fun f s1 q=>?_)
  cases f with
  | next =>
    obtain ⟨σ',H',I',q⟩:=q
    exact h2 pins s1 σ' H' D I' q
  | ret v=>exact q
  | brk=>exact q
  | cont=>exact q
theorem pss_one (h1:PS X st t):PSs X [st] t:=by
  intro pins s σ H D I h
  refine wpAny_execs_cons (thn (h1 pins s σ H D I h) fun f s1 q=>?_)
  cases f with
  | next=>exact wpAny_execs_nil q
  | ret v=>exact q
  | brk=>exact q
  | cont=>exact q
theorem Inv.quiet {pins:List (Addr × Obj)} {σ:St} {H:Hp} {s:Shared} (I:Inv X pins σ H s):interactive X.env=false:=by simp [interactive,I.ok.kind]
noncomputable def tDrop (te:TE):TS:=fun D σ H=>te σ H fun _ H1=>D.nx σ H1
theorem ps_expr (he:PE X e te) (hs:swapsWith e none pos.line X.env=pure false:=by rfl):PS X (.Expr e pos) (tDrop te):=by
  intro pins s σ H D I h
  exact wpAny_Expr_any (thn (he pins s σ H _ I h) fun v s1 ⟨x,H1,I1,r1,q1⟩=>⟨σ,H1,I1,q1⟩) I.quiet hs
noncomputable def tRet (te:TE):TS:=fun D σ H=>te σ H D.rt
theorem ps_ret (he:PE X e te):PS X (.Return (some e) pos) (tRet te):=by
  intro pins s σ H D I h
  exact wpAny_Return_some (thn (he pins s σ H _ I h) fun v s1 ⟨x,H1,I1,r1,q1⟩=>⟨x,σ,H1,I1,r1,q1⟩)
noncomputable def tIfS (c:TT) (t u:TS):TS:=fun D σ H=>c σ H fun b H1=>if b=true then t D σ H1 else u D σ H1
theorem ps_if {c:Expr} {a b:List Stmt} {tc:TT} (hc:PT X c tc) (ha:PSs X a t) (hb:PSs X b u):PS X (.If c a b pos) (tIfS tc t u):=by
  intro pins s σ H D I h
  refine wpAny_If (thn (hc pins s σ H _ I h) fun d s1 h_q=>?_)
  obtain ⟨H1,I1,q1⟩:=h_q
  cases d with
  | true=>exact ha pins s1 σ H1 D I1 q1
  | false=>exact hb pins s1 σ H1 D I1 q1
end
noncomputable abbrev TG:=V->St->Hp->(St->Hp->Prop)->Prop
noncomputable abbrev TGs:=List V->St->Hp->(St->Hp->Prop)->Prop
noncomputable def PG (X:Cx) (target:Expr) (t:TG):Prop :=
  ∀ (pins:List (Addr × Obj)) (s:Shared) (σ:St) (H:Hp) (v:V) (u:Value) (Q:St->Hp->Prop),Inv X pins σ H s->RelV v u->t v σ H Q ->
    wpAny (model X.prog X.w) X.A (assign target X.env u) (fun _ s'=>∃ σ' H',Inv X pins σ' H' s'/\Q σ' H') X.xe s
noncomputable def PGs (X:Cx) (ts:List Expr) (t:TGs):Prop :=
  ∀ (pins:List (Addr × Obj)) (s:Shared) (σ:St) (H:Hp) (vs:List V) (us:List Value) (Q:St->Hp->Prop),Inv X pins σ H s->Vals vs us->t vs σ H Q ->
    wpAny (model X.prog X.w) X.A (assignInOrder ((assignEach ts X.env).map (·.2)) us) (fun _ s'=>∃ σ' H',Inv X pins σ' H' s'/\Q σ' H') X.xe s
section
variable {X:Cx} {pos:Pos}
noncomputable def gName (i:Nat):TG:=fun v σ H Q=>Q (σ.set i (some v)) H
theorem pg_name {i:Nat} {x:Str} (hN:X.N.Nodup) (hi:X.N[i]? = some x) (hx:Loc X.env.scope x) (hf:X.fn x=true\/X.env.scope.names.lookup x=some .local:=by first | exact .inl rfl | exact .inr rfl | assumption):PG X (.Name x pos) (gName i):=by
  intro pins s σ H v u Q I r h
  exact wpAny_assign_Name (store_ok I hN hi hx r (fun s' I'=>⟨_,H,I',h⟩) hf)
noncomputable def gNil:TGs:=fun vs σ H Q=>vs=[]/\Q σ H
noncomputable def gCons (t:TG) (u:TGs):TGs:=fun vs σ H Q=>∃ v r,vs=v::r/\t v σ H fun σ' H'=>u r σ' H' Q
theorem pgs_nil:PGs X [] gNil:=by
  intro pins s σ H vs us Q I r h
  obtain ⟨e,h⟩:=h
  subst e
  cases r
  exact assignInOrder_nil ⟨σ,H,I,h⟩
theorem pgs_cons {e:Expr} {es:List Expr} {t:TG} {u:TGs} (h1:PG X e t) (h2:PGs X es u)
    (hs:(assignEach (e::es) X.env).map (·.2)=assign e X.env::(assignEach es X.env).map (·.2):=by rfl):PGs X (e::es) (gCons t u):=by
  intro pins s σ H vs us Q I r h
  obtain ⟨v,vr,e1,h⟩:=h
  subst e1
  cases r with
  | cons r rr =>
    rw [hs]
    refine assignInOrder_cons (thn (h1 pins s σ H _ _ _ I r h) fun _ s1 h_q=>?_)
    obtain ⟨σ1,H1,I1,q1⟩:=h_q
    exact h2 pins s1 σ1 H1 _ _ Q I1 rr q1
noncomputable def gTup (K:PySem.W.Frag) (n:Nat) (t:TGs):TG:=fun v σ H Q=>∃ a xs,v=.ref a/\SqT K H a xs/\xs.length=n/\t xs σ H Q
theorem pg_tup {es:List Expr} {k:Nat} {t:TGs} {n:Nat} (hc:X.calm=true) (h:PGs X es t)
    (hn:(assignEach es X.env).length=n:=by rfl) (hst:(assignEach es X.env).findIdx? (·.1)=none:=by rfl):PG X (.Tuple es k pos) (gTup X.K n t):=by
  intro pins s σ H v u Q I r hw
  obtain ⟨a,xs,e1,hq,hl,hw⟩:=hw
  subst e1
  cases r
  obtain ⟨its,rv,ht,hz⟩:=I.tuple hq
  refine assign_Tuple_tuple (I.ok.hd hc) ht (by simp [hn,<- hl,rv.length]) hst fun h' hx=>?_
  have I1:Inv X pins σ H { s with heap:=h' }:=I.kept (t':=s.toks) fun b o e=>hx b o (Nat.ne_of_lt (Heap.lt_size e)) e
  exact h pins _ σ H xs _ Q I1 (by simpa using rv) hw
noncomputable def tAsg (te:TE) (g:TG):TS:=fun D σ H=>te σ H fun x H1=>g x σ H1 D.nx
theorem ps_set {i:Nat} {x:Str} {e:Expr} {te:TE} {pos':Pos} (hN:X.N.Nodup) (hi:X.N[i]? = some x) (hx:Loc X.env.scope x) (he:PE X e te) (hs:swapsWith e (some (.Name x pos')) pos.line X.env=pure false:=by rfl) (hf:X.fn x=true\/X.env.scope.names.lookup x=some .local:=by first | exact .inl rfl | exact .inr rfl | assumption) :
    PS X (.Assign [.Name x pos'] e pos) (tAsg te (gName i)):=by
  intro pins s σ H D I h
  refine wpAny_Assign_Name (thn (he pins s σ H _ I h) fun v s1 ⟨y,H1,I1,r1,q1⟩=>?_) hs
  exact store_ok I1 hN hi hx r1 (fun s2 I2=>⟨_,H1,I2,q1⟩) hf
end
section
variable {X:Cx} {pos:Pos}
noncomputable def tWhile (c:TT) (tb:TS):TS:=fun D σ H=>∃ W:Nat->St->Hp->Prop,(∃ m,W m σ H)/\∀ m σ H,W m σ H ->
  c σ H fun b H1=>if b=true then ∃ N:St->Hp->Prop,(∀ σ' H',N σ' H'->∃ m',m' < m/\W m' σ' H')/\tb { D with nx:=N,ct:=N,bk:=D.nx } σ H1 else D.nx σ H1
theorem ps_while {c:Expr} {body:List Stmt} {tc:TT} {tb:TS} (hp:PassesOwn (model X.prog X.w) X.A X.env X.xe) (hc:PT X c tc) (hb:PSs X body tb):PS X (.While c body [] pos) (tWhile tc tb):=by
  intro pins s σ H D I h
  obtain ⟨W,⟨m0,w0⟩,turn⟩:=h
  refine wpAny_While (codeAny_whileLoop (fun n s'=>∃ σ' H',Inv X pins σ' H' s'/\W n σ' H') ?_ m0 ⟨σ,H,I,w0⟩)
  rintro n s1 ⟨σ1,H1,I1,w1⟩
  refine wpAny_passesOwn hp (thn (hc pins s1 σ1 H1 _ I1 (turn n σ1 H1 w1)) fun b s2 h_q=>?_)
  obtain ⟨H2,I2,q2⟩:=h_q
  cases b with
  | true =>
    obtain ⟨N,hN,q2⟩:=q2
    rw [if_pos rfl]
    refine wpAny_passesOwn hp (thn (hb pins s2 σ1 H2 _ I2 q2) fun f s3 q3=>?_)
    cases f with
    | next =>
      obtain ⟨σ3,H3,I3,n3⟩:=q3
      obtain ⟨m',hm,w3⟩:=hN σ3 H3 n3
      exact ⟨m',hm,σ3,H3,I3,w3⟩
    | cont =>
      obtain ⟨σ3,H3,I3,n3⟩:=q3
      obtain ⟨m',hm,w3⟩:=hN σ3 H3 n3
      exact ⟨m',hm,σ3,H3,I3,w3⟩
    | brk=>exact q3
    | ret v=>exact q3
  | false =>
    rw [if_neg Bool.false_ne_true]
    exact wpAny_execs_nil ⟨σ1,H2,I2,q2⟩
end
structure It where
  go:Nat->Hp->Prop
  yld:Nat->Hp->V->Hp->Prop
  stop:Nat->Hp->Prop
noncomputable def FpOk (X:Cx) (pins:List (Addr × Obj)) (H:Hp) (b:Addr):Prop :=
  H b=none/\b≠X.env.locals/\b ∉ X.fs/\(b∈X.ex\/X.s₀.heap.objs.size<=b)/\(∀ x c,X.env.cells.lookup x=some c->c≠b)/\∀ p∈X.pn++pins,p.1≠b
theorem Inv.fpOk {X:Cx} {pins:List (Addr × Obj)} {σ:St} {H H':Hp} {s:Shared} {b:Addr} (I:Inv X pins σ H s) (hb:s.heap.objs.size<=b) (hn:H' b=none):FpOk X pins H' b:=by
  refine ⟨hn,Nat.ne_of_gt (Nat.lt_of_lt_of_le I.lt hb),I.nofs hb,.inr (Nat.le_trans I.sz hb),fun x c e z=>?_,fun p hp z=>?_⟩
  . obtain ⟨v,q⟩:=I.cell x c e
    exact absurd (Nat.lt_of_lt_of_le q.lt (by rw [z];exact hb)) (Nat.lt_irrefl _)
  . exact absurd (Nat.lt_of_lt_of_le (Heap.lt_size (I.pin p hp).1) (by rw [z];exact hb)) (Nat.lt_irrefl _)
structure Turn (P:Program) (w:World) (K:PySem.W.Frag) (tg:Expr) (J:It) (fp:List Addr) (it:Addr) (tn:Nat->Heap->Prop):Prop where
  mem:it∈fp
  obj:∀ i h,tn i h->∀ b∈fp,∃ o,h.get? b=some o/\∀ v,o.data≠.cell v
  keep:∀ i h h',tn i h->(∀ b∈fp,∀ o,h.get? b=some o->h'.get? b=some o)->tn i h'
  item : ∀ (X:Cx),X.prog=P->X.w=w->X.K=K->X.calm=true->∀ (i:Nat) (pins:List (Addr × Obj)) (s:Shared) (σ:St) (H:Hp) (E:Value->Shared->Prop),Inv X pins σ H s->(∀ b∈fp,FpOk X pins H b)->tn i s.heap->J.go i H ->
    wpAny (model P w) X.A (pyNext (.ref it)) (fun r s1=>∃ u,r=some u /\
      wpAny (model P w) X.A (letOwnedTupleGo tg (.ref it) u) (fun _ s2=>∃ x H',Inv X pins σ H' s2/\RelV x u/\J.yld i H x H'/\tn (i + 1) s2.heap/\∀ b∈fp,H' b=none) E s1) E s
  done:∀ (X:Cx),X.prog=P->X.w=w->X.K=K->X.calm=true->∀ (i:Nat) (pins:List (Addr × Obj)) (s:Shared) (σ:St) (H:Hp) (E:Value->Shared->Prop),Inv X pins σ H s->(∀ b∈fp,FpOk X pins H b)->tn i s.heap->J.stop i H ->
    wpAny (model P w) X.A (pyNext (.ref it)) (fun r s1=>r=none/\Inv X pins σ H s1) E s
  self:∀ (A:Around) (i:Nat) (s:Shared) (Q:Value->Shared->Prop) (E:Value->Shared->Prop),tn i s.heap->Q (.ref it) s->wpAny (model P w) A (pyIter (.ref it)) Q E s
noncomputable abbrev TI:=St->Hp->(It->Hp->Prop)->Prop
noncomputable def PIE (X:Cx) (pins:List (Addr × Obj)) (σ:St) (tg:Expr) (R:It->Hp->Prop) (itv:Value) (s2:Shared):Prop :=
  ∃ (it:Addr) (fp:List Addr) (tn:Nat->Heap->Prop) (J:It) (H':Hp),itv=.ref it/\Inv X pins σ H' s2/\Turn X.prog X.w X.K tg J fp it tn/\tn 0 s2.heap/\(∀ b∈fp,FpOk X pins H' b)/\R J H'
noncomputable def PI (X:Cx) (tg iter:Expr) (wi:TI):Prop :=
  ∀ (pins:List (Addr × Obj)) (s:Shared) (σ:St) (H:Hp) (R:It->Hp->Prop),Inv X pins σ H s->wi σ H R ->
    wpAny (model X.prog X.w) X.A (eval iter X.env) (fun v s1=>wpAny (model X.prog X.w) X.A (pyIter v) (PIE X pins σ tg R) X.xe s1) X.xe s
theorem go_of {M:Model} {A:Around} {E:Value->Shared->Prop} {s:Shared} {tg:Expr} {it:Addr} {u:Value} {o:Obj} {n:String} {vs:Array Value} {Q:Unit->Shared->Prop} (ho:s.heap.get? it=some o) (hc:o.cls=.type n) (hd:o.data=.fields vs)
    (hn:["enumerate","zip","dict_itemiterator","dict_reverseitemiterator","odict_iterator","itertools.zip_longest","itertools.pairwise"].contains n=false) (hQ:Q () s):wpAny M A (letOwnedTupleGo tg (.ref it) u) Q E s:=by
  unfold letOwnedTupleGo
  cases tg <;> first
    | exact wpAny_pure hQ
    | (cases u <;> first
        | exact wpAny_pure hQ
        | (refine wpAny_bind (wpAny_load ho ?_)
           rw [hc,hd]
           show wpAny M A (if (["enumerate","zip","dict_itemiterator","dict_reverseitemiterator","odict_iterator","itertools.zip_longest","itertools.pairwise"].contains n && vs[0]? == some (rawInt _))=true then _ else _) Q E s
           rw [if_neg (by intro h;rw [hn,Bool.false_and] at h;cases h)]
           exact wpAny_pure hQ))
noncomputable def Itl (K:PySem.W.Frag) (a:Addr):It :=
  ⟨fun i H=>∃ xs x,SqL K H a xs/\xs[i]? = some x,fun i H x H'=>H'=H/\∀ xs,SqL K H a xs->xs[i]? = some x,fun i H=>∃ xs,SqL K H a xs/\xs.length<=i⟩
noncomputable def Itt (K:PySem.W.Frag) (a:Addr):It :=
  ⟨fun i H=>∃ xs x,SqT K H a xs/\xs[i]? = some x,fun i H x H'=>H'=H/\∀ xs,SqT K H a xs->xs[i]? = some x,fun i H=>∃ xs,SqT K H a xs/\xs.length<=i⟩
noncomputable def Itr (lo:Int) (n:Nat):It:=⟨fun i _=>i < n,fun i H x H'=>H'=H/\x=.int (lo + i),fun i _=>n<=i⟩
theorem turn_list {P:Program} {w:World} {K:PySem.W.Frag} {tg:Expr} (a it:Addr):Turn P w K tg (Itl K a) [it] it (fun i h=>h.IsListIter it a i) where
  mem:=by simp
  obj := fun i h st b hb=>by
    have e:b=it:=by simpa using hb
    subst e
    obtain ⟨o,e,c,d⟩:=st
    exact ⟨o,e,fun v z=>by rw [d] at z;cases z⟩
  keep:=fun i h h' st k=>st.at fun o e=>k it (by simp) o e
  item:=by
    intro X hP hw hK hc i pins s σ H E I hf st hg
    subst hP hw hK
    obtain ⟨xs,x,hq,hx⟩:=hg
    obtain ⟨its,rv,p,hz⟩:=I.list hq
    obtain ⟨u,hu,ru⟩:=rv.get hx
    obtain ⟨f0,f1,f2,f3,f4,f5⟩:=hf it (by simp)
    refine wpAny_pyNext_list_item st p.isList (x:=u) (by simpa using hu) fun h' st' sb=>?_
    have I1:Inv X pins σ H { s with heap:=h' }:=I.turned (t':=s.toks) (fun b o hb e=>(sb.2 b hb).trans e) f0 f1 f3 f4 f5
    obtain ⟨o,e,c,d⟩:=id st'
    exact ⟨u,rfl,go_of (s:={ s with heap:=h' }) e c d (by decide) ⟨x,H,I1,ru,⟨rfl,fun ys hy=>by rw [I.list_inj hy hq];exact hx⟩,st',fun b hb=>(hf b hb).1⟩⟩
  done:=by
    intro X hP hw hK hc i pins s σ H E I hf st hg
    subst hP hw hK
    obtain ⟨xs,hq,hx⟩:=hg
    obtain ⟨its,rv,p,hz⟩:=I.list hq
    obtain ⟨f0,f1,f2,f3,f4,f5⟩:=hf it (by simp)
    have hl:=rv.length
    exact wpAny_pyNext_list_end (I.ok.hd hc) st p.isList (by simp;lia) fun h' eb=>⟨rfl,I.turned (t':=s.toks) (fun b o hb e=>eb b o hb e) f0 f1 f3 f4 f5⟩
  self:=fun _ _ _ _ _ st h=>wpAny_pyIter_listiter st h
theorem turn_tuple {P:Program} {w:World} {K:PySem.W.Frag} {tg:Expr} (a it:Addr):Turn P w K tg (Itt K a) [it] it (fun i h=>h.IsTupleIter it a i) where
  mem:=by simp
  obj := fun i h st b hb=>by
    have e:b=it:=by simpa using hb
    subst e
    obtain ⟨o,e,c,d⟩:=st
    exact ⟨o,e,fun v z=>by rw [d] at z;cases z⟩
  keep:=fun i h h' st k=>st.at fun o e=>k it (by simp) o e
  item:=by
    intro X hP hw hK hc i pins s σ H E I hf st hg
    subst hP hw hK
    obtain ⟨xs,x,hq,hx⟩:=hg
    obtain ⟨its,rv,p,hz⟩:=I.tuple hq
    obtain ⟨u,hu,ru⟩:=rv.get hx
    obtain ⟨f0,f1,f2,f3,f4,f5⟩:=hf it (by simp)
    refine wpAny_pyNext_tuple_item st (show s.heap.IsTuple a its.toArray from p) (x:=u) (by simpa using hu) fun h' st' sb=>?_
    have I1:Inv X pins σ H { s with heap:=h' }:=I.turned (t':=s.toks) (fun b o hb e=>(sb.2 b hb).trans e) f0 f1 f3 f4 f5
    obtain ⟨o,e,c,d⟩:=id st'
    exact ⟨u,rfl,go_of (s:={ s with heap:=h' }) e c d (by decide) ⟨x,H,I1,ru,⟨rfl,fun ys hy=>by rw [I.tuple_inj hy hq];exact hx⟩,st',fun b hb=>(hf b hb).1⟩⟩
  done:=by
    intro X hP hw hK hc i pins s σ H E I hf st hg
    subst hP hw hK
    obtain ⟨xs,hq,hx⟩:=hg
    obtain ⟨its,rv,p,hz⟩:=I.tuple hq
    obtain ⟨f0,f1,f2,f3,f4,f5⟩:=hf it (by simp)
    have hl:=rv.length
    exact wpAny_pyNext_tuple_end (I.ok.hd hc) st (show s.heap.IsTuple a its.toArray from p) (by simp;lia) fun h' eb=>⟨rfl,I.turned (t':=s.toks) (fun b o hb e=>eb b o hb e) f0 f1 f3 f4 f5⟩
  self:=fun _ _ _ _ _ st h=>wpAny_pyIter_tupleiter st h
theorem turn_range {P:Program} {w:World} {K:PySem.W.Frag} {tg:Expr} (it:Addr) (lo:Int) (n:Nat):Turn P w K tg (Itr lo n) [it] it (fun i h=>IsRangeIter h it (lo + (i:Nat) * 1) ((n:Int) - (i:Nat)) 1) where
  mem:=by simp
  obj := fun i h st b hb=>by
    have e:b=it:=by simpa using hb
    subst e
    exact ⟨_,st,fun v z=>by
      have z':Data.fields _=Data.cell v:=z
      cases z'⟩
  keep:=fun i h h' st k=>k it (by simp) _ st
  item:=by
    intro X hP hw hK hc i pins s σ H E I hf st hg
    subst hP hw hK
    obtain ⟨f0,f1,f2,f3,f4,f5⟩:=hf it (by simp)
    have W:=Walks.range (prog:=X.prog) (w:=X.w) (I.ok.hd hc) it lo 1 n
    refine W.item i s _ _ hg st fun v h' tk hv st' kk=>?_
    obtain ⟨t,rfl⟩:=hv
    have I1:Inv X pins σ H { s with heap:=h',toks:=tk }:=I.turned (fun b o hb e=>kk b o (by simpa using hb) e) f0 f1 f3 f4 f5
    refine ⟨_,rfl,go_of (s:={ s with heap:=h',toks:=tk }) (n:="range_iterator") st' rfl rfl (by decide) ⟨.int (lo + i),H,I1,⟨t,?_⟩,⟨rfl,rfl⟩,st',fun b hb=>(hf b hb).1⟩⟩
    rw [Int.mul_one]
  done:=by
    intro X hP hw hK hc i pins s σ H E I hf st hg
    subst hP hw hK
    obtain ⟨f0,f1,f2,f3,f4,f5⟩:=hf it (by simp)
    exact wpAny_pyNext_range_end (I.ok.hd hc) st (by have:n<=i:=hg;lia) fun h' eb=>⟨rfl,I.turned (t':=s.toks) (fun b o hb e=>eb b o hb e) f0 f1 f3 f4 f5⟩
  self:=fun _ _ _ _ _ st h=>wpAny_pyIter_rangeiter st h
end L2
namespace L2
open PySem PySem.Spec PyProof.Rows
section
variable {X:Cx} {tg:Expr}
theorem range_it {pins:List (Addr × Obj)} {σ:St} {H:Hp} {s:Shared} {R:It->Hp->Prop} {E:Value->Shared->Prop} {lo hi:Int} {t u v:Tok} {tk:Nat} (I:Inv X pins σ H s) (h1:-(2 ^ 62)<=lo) (h2:lo < 2 ^ 62) (h3:-(2 ^ 62)<=hi) (h4:hi < 2 ^ 62)
    (q:R (Itr lo (hi - lo).toNat) H):wpAny (model X.prog X.w) X.A (pyIter (.ref s.heap.objs.size)) (PIE X pins σ tg R) E { s with heap:=s.heap.push { cls:=.type "range",data:=.fields #[.int lo t,.int hi u,.int 1 v] },toks:=tk }:=by
  refine wpAny_pyIter_range (IsRange.new ..) (small_one h1 h2 h3 h4) ?_
  have I1:Inv X pins σ H { s with heap:=s.heap.push { cls:=.type "range",data:=.fields #[.int lo t,.int hi u,.int 1 v] },toks:=tk }:=I.kept fun b o e=>Heap.get?_push_of_some _ e
  refine ⟨(s.heap.push { cls:=.type "range",data:=.fields #[.int lo t,.int hi u,.int 1 v] }).objs.size,[(s.heap.push { cls:=.type "range",data:=.fields #[.int lo t,.int hi u,.int 1 v] }).objs.size],_,_,H,rfl,
    I1.kept (t':=tk) fun b o e=>Heap.get?_push_of_some _ e,turn_range _ lo (hi - lo).toNat,?_,fun b hb=>?_,q⟩
  . have e1:lo + ((0:Nat):Int) * 1=lo:=by simp
    have e2:(((hi - lo).toNat:Nat):Int) - ((0:Nat):Int)=Builtin.Range.rangeSize lo hi 1:=by rw [rangeSize_one];split <;> lia
    show IsRangeIter _ _ (lo + ((0:Nat):Int) * 1) ((((hi - lo).toNat:Nat):Int) - ((0:Nat):Int)) 1
    rw [e1,e2]
    exact Heap.get?_push_size _ rfl
  . have e:b=(s.heap.push { cls:=.type "range",data:=.fields #[.int lo t,.int hi u,.int 1 v] }).objs.size:=by simpa using hb
    subst e
    exact I1.fpOk (Nat.le_refl _) (I1.hok.fresh (Nat.le_refl _))
noncomputable def tFor (wi:TI) (g:TG) (tb:TS):TS:=fun D σ H=>wi σ H fun J H1=>∃ W:Nat->Nat->St->Hp->Prop,(∃ m,W 0 m σ H1)/\∀ i m σ H,W i m σ H ->
  (J.stop i H/\D.nx σ H)\/(J.go i H/\∃ N:St->Hp->Prop,(∀ σ' H',N σ' H'->∃ m',m' < m/\W (i + 1) m' σ' H')/\∀ x H',J.yld i H x H'->g x σ H' fun σ2 H2=>tb { D with nx:=N,ct:=N,bk:=D.nx } σ2 H2)
noncomputable def pinsAt (fp:List Addr) (h:Heap):List (Addr × Obj):=fp.filterMap fun b=>(h.get? b).map fun o=>(b,o)
theorem mem_pinsAt {fp:List Addr} {h:Heap} {b:Addr} {o:Obj} (hb:b∈fp) (e:h.get? b=some o):(b,o)∈pinsAt fp h:=List.mem_filterMap.mpr ⟨b,hb,by rw [e];rfl⟩
theorem of_pinsAt {fp:List Addr} {h:Heap} {p:Addr × Obj} (hp:p∈pinsAt fp h):p.1∈fp/\h.get? p.1=some p.2:=by
  obtain ⟨b,hb,e⟩:=List.mem_filterMap.mp hp
  cases q:h.get? b with
  | none=>rw [q] at e;cases e
  | some o =>
    rw [q] at e
    have e':(b,o)=p:=Option.some.inj e
    subst e'
    exact ⟨hb,q⟩
theorem Inv.pinned {pins:List (Addr × Obj)} {σ:St} {H:Hp} {s:Shared} {fp:List Addr} (I:Inv X pins σ H s) (hf:∀ b∈fp,FpOk X pins H b) (ho:∀ b∈fp,∃ o,s.heap.get? b=some o/\∀ v,o.data≠.cell v):Inv X (pins++pinsAt fp s.heap) σ H s :=
  I.pins_of fun p hp=>(List.mem_append.mp hp).elim (fun z=>I.pin p (List.mem_append_right _ z)) fun z=>by
    obtain ⟨hb,e⟩:=of_pinsAt z
    obtain ⟨f0,f1,f2,_⟩:=hf p.1 hb
    obtain ⟨o,e',d⟩:=ho p.1 hb
    rw [e] at e';cases e'
    exact ⟨e,f0,f1,f2,d⟩
theorem Inv.unpinned {pins pl:List (Addr × Obj)} {σ:St} {H:Hp} {s:Shared} (I:Inv X (pins++pl) σ H s):Inv X pins σ H s:=I.pins_of fun p hp=>I.pin p (List.mem_append_right _ (List.mem_append_left _ hp))
theorem ps_for {iter:Expr} {body:List Stmt} {wi:TI} {g:TG} {tb:TS} {pos:Pos} (hp:PassesOwn (model X.prog X.w) X.A X.env X.xe) (hc:X.calm=true) (hi:PI X tg iter wi) (hg:PG X tg g) (hb:PSs X body tb)
    (hs:∀ x,foldedSetIterable iter X.env x=pure x:=by intro _;rfl):PS X (.For tg iter body [] pos) (tFor wi g tb):=by
  intro pins s σ H D I h
  refine wpAny_For (thn (hi pins s σ H _ I h) fun v s1 h1=>thn h1 fun itv s2 h2=>?_) hs
  obtain ⟨it,fp,tn,J,H2,e,I2,T,st2,f2,W,⟨m0,w0⟩,turn⟩:=h2
  subst e
  have stat:∀ {H':Hp},(∀ b∈fp,H' b=none)->∀ b∈fp,FpOk X pins H' b:=fun hn b hb=>⟨hn b hb,(f2 b hb).2⟩
  refine codeAny_forLoop_any (fun n s'=>∃ i σ' H',Inv X pins σ' H' s'/\tn i s'.heap/\(∀ b∈fp,H' b=none)/\W i n σ' H') ?_ m0 ⟨0,σ,H2,I2,st2,fun b hb=>(f2 b hb).1,w0⟩
  rintro n s3 ⟨i,σ3,H3,I3,st3,fr3,w3⟩
  rcases turn i n σ3 H3 w3 with ⟨stop,qn⟩ | ⟨go,N,hN,step⟩
  . refine wpAny_passesOwn hp (thn (T.done X rfl rfl rfl hc i pins s3 σ3 H3 X.xe I3 (stat fr3) st3 stop) fun r s4 h_q=>?_)
    obtain ⟨hr,I4⟩:=h_q
    subst hr
    exact wpAny_execs_nil ⟨σ3,H3,I4,qn⟩
  . refine wpAny_passesOwn hp (thn (T.item X rfl rfl rfl hc i pins s3 σ3 H3 X.xe I3 (stat fr3) st3 go) fun r s4 h_q=>?_)
    obtain ⟨u,hr,h4⟩:=h_q
    subst hr
    refine wpAny_passesOwn hp (thn h4 fun _ s5 h_q=>?_)
    obtain ⟨x,H5,I5,r5,y5,st5,fr5⟩:=h_q
    have I5':=I5.pinned (stat fr5) (T.obj _ _ st5)
    refine wpAny_passesOwn hp (thn (hg _ s5 σ3 H5 x u _ I5' r5 (step x H5 y5)) fun _ s6 h_q=>?_)
    obtain ⟨σ6,H6,I6,q6⟩:=h_q
    refine wpAny_passesOwn hp (thn (hb _ s6 σ6 H6 _ I6 q6) fun f s7 q7=>?_)
    have again:∀ {σ7:St} {H7:Hp},Inv X (pins++pinsAt fp s5.heap) σ7 H7 s7->N σ7 H7->∃ m,m < n/\∃ i σ' H',Inv X pins σ' H' s7/\tn i s7.heap/\(∀ b∈fp,H' b=none)/\W i m σ' H':=fun {σ7 H7} I7 n7=>by
      obtain ⟨m',hm,w7⟩:=hN σ7 H7 n7
      refine ⟨m',hm,i + 1,σ7,H7,I7.unpinned,T.keep _ _ _ st5 fun b hb o e=>(I7.pin (b,o) (List.mem_append_right _ (List.mem_append_right _ (mem_pinsAt hb e)))).1,fun b hb=>?_,w7⟩
      obtain ⟨o,e,d⟩:=T.obj _ _ st5 b hb
      exact (I7.pin (b,o) (List.mem_append_right _ (List.mem_append_right _ (mem_pinsAt hb e)))).2.1
    cases f with
    | next=>obtain ⟨σ7,H7,I7,n7⟩:=q7;exact again I7 n7
    | cont=>obtain ⟨σ7,H7,I7,n7⟩:=q7;exact again I7 n7
    | brk=>obtain ⟨σ7,H7,I7,q7⟩:=q7;exact ⟨σ7,H7,I7.unpinned,q7⟩
    | ret v=>obtain ⟨x7,σ7,H7,I7,r7,q7⟩:=q7;exact ⟨x7,σ7,H7,I7.unpinned,r7,q7⟩
end
end L2
namespace L2
open PySem PySem.Spec PyProof.Rows
noncomputable abbrev R2:=V->V->Hp->VK->Prop
noncomputable def OpR (X:Cx) (f:Value->Value->Sem Value) (r:R2):Prop :=
  ∀ (pins:List (Addr × Obj)) (s:Shared) (σ:St) (H:Hp) (x y:V) (v u:Value) (Q:VK),Inv X pins σ H s->RelV x v->RelV y u->r x y H Q ->
    wpAny (model X.prog X.w) X.A (f v u) (EP X pins σ Q) X.xe s
noncomputable def UnR (X:Cx) (f:Value->Sem Value) (r:V->Hp->VK->Prop):Prop :=
  ∀ (pins:List (Addr × Obj)) (s:Shared) (σ:St) (H:Hp) (x:V) (v:Value) (Q:VK),Inv X pins σ H s->RelV x v->r x H Q ->
    wpAny (model X.prog X.w) X.A (f v) (EP X pins σ Q) X.xe s
noncomputable def CallR (X:Cx) (f:Value) (r:List V->Hp->VK->Prop):Prop :=
  ∀ (pins:List (Addr × Obj)) (s:Shared) (σ:St) (H:Hp) (xs:List V) (us:List Value) (Q:VK),Inv X pins σ H s->Vals xs us->r xs H Q ->
    wpAny (model X.prog X.w) X.A (call f us) (EP X pins σ Q) X.xe s
noncomputable def tOp (r:R2) (ta tb:TE):TE:=fun σ H Q=>ta σ H fun x H1=>tb σ H1 fun y H2=>r x y H2 Q
noncomputable def tUn (r:V->Hp->VK->Prop) (ta:TE):TE:=fun σ H Q=>ta σ H fun x H1=>r x H1 Q
noncomputable def rI (C:Int->Int->Prop) (g:Int->Int->V):R2:=fun x y H Q=>∃ i j,x=.int i/\y=.int j/\C i j/\Q (g i j) H
noncomputable def rI0 (g:Int->Int->V):R2:=fun x y H Q=>∃ i j,x=.int i/\y=.int j/\Q (g i j) H
noncomputable def rU (g:Int->V):V->Hp->VK->Prop:=fun x H Q=>∃ i,x=.int i/\Q (g i) H
section
variable {X:Cx} {a b c:Expr} {ta tb tc:TE} {pos:Pos}
theorem binT (ha:PE X a ta) (hb:PE X b tb) {pins:List (Addr × Obj)} {s:Shared} {σ:St} {H:Hp} {R:V->V->Hp->Prop} (I:Inv X pins σ H s)
    (h:ta σ H fun x H1=>tb σ H1 fun y H2=>R x y H2) {Q:Value->Shared->Prop} {f:Value->Value->Sem Value}
    (hf:∀ v u s2 x y H2,Inv X pins σ H2 s2->RelV x v->RelV y u->R x y H2->wpAny (model X.prog X.w) X.A (f v u) Q X.xe s2) :
    wpAny (model X.prog X.w) X.A (eval a X.env) (fun v s₁=>wpAny (model X.prog X.w) X.A (eval b X.env) (fun u s₂=>wpAny (model X.prog X.w) X.A (f v u) Q X.xe s₂) X.xe s₁) X.xe s:=by
  refine thn (ha pins s σ H _ I h) fun v s1 h_q=>?_
  obtain ⟨x,H1,I1,r1,q1⟩:=h_q
  refine thn (hb pins s1 σ H1 _ I1 q1) fun u s2 h_q=>?_
  obtain ⟨y,H2,I2,r2,q2⟩:=h_q
  exact hf v u s2 x y H2 I2 r1 r2 q2
theorem pe_op {op:Operator} {r:R2} (ho:OpR X (binaryOp op) r) (ha:PE X a ta) (hb:PE X b tb):PE X (.BinOp a op b pos) (tOp r ta tb):=by
  intro pins s σ H Q I h
  exact wpAny_BinOp (binT ha hb I h fun v u s2 x y H2 I2 rx ry q=>ho pins s2 σ H2 x y v u Q I2 rx ry q)
theorem pe_un {op:UnaryOp} {r:V->Hp->VK->Prop} (ho:UnR X (unaryOp op) r) (ha:PE X a ta):PE X (.UnaryOp op a pos) (tUn r ta):=by
  intro pins s σ H Q I h
  exact UnaryOp_ (thn (ha pins s σ H _ I h) fun v s1 ⟨x,H1,I1,r1,q1⟩=>ho pins s1 σ H1 x v Q I1 r1 q1)
theorem opI {f:Value->Value->Sem Value} {C:Int->Int->Prop} {g:Int->Int->Int}
    (rule:∀ (i j:Int) (t u:Tok) (s:Shared) (Q:Value->Shared->Prop) (E:Value->Shared->Prop),C i j->Q (.int (g i j) s.toks) { s with toks:=s.toks + 1 }->wpAny (model X.prog X.w) X.A (f (.int i t) (.int j u)) Q E s) :
    OpR X f (rI C fun i j=>.int (g i j)):=by
  intro pins s σ H x y v u Q I rx ry h
  obtain ⟨i,j,rfl,rfl,hc,q⟩:=h
  obtain ⟨t,rfl⟩:=rx
  obtain ⟨t',rfl⟩:=ry
  exact rule i j t t' s _ _ hc ⟨.int (g i j),H,I.tok _,⟨_,rfl⟩,q⟩
theorem opI0 {f:Value->Value->Sem Value} {g:Int->Int->Int}
    (rule:∀ (i j:Int) (t u:Tok) (s:Shared) (Q:Value->Shared->Prop) (E:Value->Shared->Prop),Q (.int (g i j) s.toks) { s with toks:=s.toks + 1 }->wpAny (model X.prog X.w) X.A (f (.int i t) (.int j u)) Q E s) :
    OpR X f (rI0 fun i j=>.int (g i j)):=by
  intro pins s σ H x y v u Q I rx ry h
  obtain ⟨i,j,rfl,rfl,q⟩:=h
  obtain ⟨t,rfl⟩:=rx
  obtain ⟨t',rfl⟩:=ry
  exact rule i j t t' s _ _ ⟨.int (g i j),H,I.tok _,⟨_,rfl⟩,q⟩
theorem opB0 {f:Value->Value->Sem Value} {g:Int->Int->Bool}
    (rule:∀ (i j:Int) (t u:Tok) (s:Shared) (Q:Value->Shared->Prop) (E:Value->Shared->Prop),Q (.bool (g i j)) s->wpAny (model X.prog X.w) X.A (f (.int i t) (.int j u)) Q E s) :
    OpR X f (rI0 fun i j=>.bl (g i j)):=by
  intro pins s σ H x y v u Q I rx ry h
  obtain ⟨i,j,rfl,rfl,q⟩:=h
  obtain ⟨t,rfl⟩:=rx
  obtain ⟨t',rfl⟩:=ry
  exact rule i j t t' s _ _ ⟨.bl (g i j),H,I,rfl,q⟩
noncomputable def CDiv (i j:Int):Prop:=0 < j/\j < 1073741824
noncomputable def CPow (i j:Int):Prop:=0<=j/\j<=1000000/\i.natAbs < 2 ^ 64
noncomputable def CMul (i j:Int):Prop:=(-(2 ^ 64) < i/\i < 2 ^ 64)\/(-(2 ^ 64) < j/\j < 2 ^ 64)
theorem CMul.ok {i j:Int} (h:CMul i j):IntMulOk i j:=by
  rcases h with ⟨h1,h2⟩ | ⟨h1,h2⟩
  . exact .of_left (intBits_le_64 h1 h2)
  . exact .of_right (intBits_le_64 h1 h2)
theorem op_add:OpR X (binaryOp .Add) (rI0 fun i j=>.int (i + j)):=opI0 fun _ _ _ _ _ _ _ q=>add_int q
theorem op_sub:OpR X (binaryOp .Sub) (rI0 fun i j=>.int (i - j)):=opI0 fun _ _ _ _ _ _ _ q=>sub_int q
theorem op_fdiv:OpR X (binaryOp .FloorDiv) (rI CDiv fun i j=>.int (i / j)):=opI fun i j _ _ _ _ _ hc q=>by
  have h1:(0:Int) < j:=hc.1
  have h2:j < 1073741824:=hc.2
  exact floordiv_int (by lia) (by rw [Int.fdiv_eq_ediv_of_nonneg i (by lia)];exact q) (.inl (PyProof.noPylong_small (by lia)))
theorem op_mod:OpR X (binaryOp .Mod) (rI (fun _ j=>0 < j) fun i j=>.int (i % j)):=opI fun i j _ _ _ _ _ hc q=>by
  have h1:(0:Int) < j:=hc
  exact mod_int' (by lia) (by rw [Int.fmod_eq_emod_of_nonneg i (by lia)];exact q)
theorem op_pow:OpR X (binaryOp .Pow) (rI CPow fun i j=>.int (i ^ j.toNat)):=opI fun _ _ _ _ _ _ _ hc q=>pow_int_small hc.1 hc.2.1 hc.2.2 q
theorem unI {f:Value->Sem Value} {g:Int->Int}
    (rule:∀ (i:Int) (t:Tok) (s:Shared) (Q:Value->Shared->Prop) (E:Value->Shared->Prop),Q (.int (g i) s.toks) { s with toks:=s.toks + 1 }->wpAny (model X.prog X.w) X.A (f (.int i t)) Q E s) :
    UnR X f (rU fun i=>.int (g i)):=by
  intro pins s σ H x v Q I rx h
  obtain ⟨i,rfl,q⟩:=h
  obtain ⟨t,rfl⟩:=rx
  exact rule i t s _ _ ⟨.int (g i),H,I.tok _,⟨_,rfl⟩,q⟩
theorem un_neg:UnR X (unaryOp .USub) (rU fun i=>.int (-i)):=unI fun _ _ _ _ _ q=>neg_int q
end
noncomputable def scal:V->V->Bool
  | .non,.non=>true | .non,.int _=>true | .int _,.non=>true | .non,.bl _=>true | .bl _,.non=>true | .non,.str _=>true | .str _,.non=>true
  | .int _,.int _=>true | .bl _,.bl _=>true | .str _,.str _=>true | .byt _,.byt _=>true
  | .int _,.str _=>true | .str _,.int _=>true | .bl _,.str _=>true | .str _,.bl _=>true
  | _,_=>false
noncomputable def rEq:R2:=fun x y H Q=>scal x y=true/\Q (.bl (decide (x=y))) H
noncomputable def rNe:R2:=fun x y H Q=>scal x y=true/\Q (.bl (!decide (x=y))) H
theorem dec_int {i j:Int}:decide (V.int i=V.int j)=(i == j):=by
  rw [Bool.eq_iff_iff]
  simp
theorem dec_bl {i j:Bool}:decide (V.bl i=V.bl j)=(i == j):=by
  rw [Bool.eq_iff_iff]
  simp
theorem dec_str {i j:Str}:decide (V.str i=V.str j)=(i == j):=by
  rw [Bool.eq_iff_iff]
  simp
theorem dec_byt {i j:Array UInt8}:decide (V.byt i=V.byt j)=(i.toList == j.toList):=by
  rw [Bool.eq_iff_iff]
  cases i
  cases j
  simp
section
variable {X:Cx} {a b c:Expr} {ta tb tc:TE} {pos:Pos}
theorem fin_bl {pins:List (Addr × Obj)} {σ:St} {H:Hp} {s:Shared} {Q:VK} {k k':Bool} (I:Inv X pins σ H s) (q:Q (.bl k) H) (e:k=k'):EP X pins σ Q (.bool k') s:=by
  subst e
  exact ⟨.bl k,H,I,rfl,q⟩
theorem op_eq:OpR X (compareOp .Eq) rEq:=by
  intro pins s σ H x y v u Q I rx ry h
  obtain ⟨hs,q⟩:=h
  cases x with
  | non =>
    cases rx
    cases y with
    | non=>cases ry;exact PySem.EqNone.eq_none_none (fin_bl I q (by simp))
    | bl j=>cases ry;exact PySem.EqNone.eq_none_bool (fin_bl I q (by simp))
    | int j=>obtain ⟨t',rfl⟩:=ry;exact PySem.EqNone.eq_none_int (fin_bl I q (by simp))
    | str j=>obtain ⟨t',rfl⟩:=ry;exact PySem.EqNone.eq_none_str (fin_bl I q (by simp))
    | _=>exact absurd (show false=true from hs) Bool.false_ne_true
  | bl i =>
    cases rx
    cases y with
    | non=>cases ry;exact PySem.EqNone.eq_bool_none (fin_bl I q (by simp))
    | bl j=>cases ry;exact eq_bool (fin_bl I q dec_bl)
    | str j=>obtain ⟨t',rfl⟩:=ry;exact PySem.EqMixed.eq_bool_str (fin_bl I q (by simp))
    | _=>exact absurd (show false=true from hs) Bool.false_ne_true
  | int i =>
    obtain ⟨t,rfl⟩:=rx
    cases y with
    | non=>cases ry;exact PySem.EqNone.eq_int_none (fin_bl I q (by simp))
    | int j=>obtain ⟨t',rfl⟩:=ry;exact eq_int (fin_bl I q dec_int)
    | str j=>obtain ⟨t',rfl⟩:=ry;exact PySem.EqMixed.eq_int_str (fin_bl I q (by simp))
    | _=>exact absurd (show false=true from hs) Bool.false_ne_true
  | str i =>
    obtain ⟨t,rfl⟩:=rx
    cases y with
    | non=>cases ry;exact PySem.EqNone.eq_str_none (fin_bl I q (by simp))
    | bl j=>cases ry;exact PySem.EqMixed.eq_str_bool (fin_bl I q (by simp))
    | int j=>obtain ⟨t',rfl⟩:=ry;exact PySem.EqMixed.eq_str_int (fin_bl I q (by simp))
    | str j=>obtain ⟨t',rfl⟩:=ry;exact eq_str (fin_bl I q dec_str)
    | _=>exact absurd (show false=true from hs) Bool.false_ne_true
  | byt i =>
    obtain ⟨t,rfl⟩:=rx
    cases y with
    | byt j=>obtain ⟨t',rfl⟩:=ry;exact PySem.W.eq_bytes (fin_bl I q dec_byt)
    | _=>exact absurd (show false=true from hs) Bool.false_ne_true
  | _=>cases y <;> exact absurd (show false=true from hs) Bool.false_ne_true
theorem op_ne:OpR X (compareOp .NotEq) rNe:=by
  intro pins s σ H x y v u Q I rx ry h
  obtain ⟨hs,q⟩:=h
  cases x with
  | non =>
    cases rx
    cases y with
    | non=>cases ry;exact PySem.EqNone.ne_none_none (fin_bl I q (by simp))
    | bl j=>cases ry;exact PySem.EqNone.ne_none_bool (fin_bl I q (by simp))
    | int j=>obtain ⟨t',rfl⟩:=ry;exact PySem.EqNone.ne_none_int (fin_bl I q (by simp))
    | str j=>obtain ⟨t',rfl⟩:=ry;exact PySem.EqNone.ne_none_str (fin_bl I q (by simp))
    | _=>exact absurd (show false=true from hs) Bool.false_ne_true
  | bl i =>
    cases rx
    cases y with
    | non=>cases ry;exact PySem.EqNone.ne_bool_none (fin_bl I q (by simp))
    | bl j=>cases ry;exact ne_bool (fin_bl I q (congrArg not dec_bl))
    | str j=>obtain ⟨t',rfl⟩:=ry;exact PySem.EqMixed.ne_bool_str (fin_bl I q (by simp))
    | _=>exact absurd (show false=true from hs) Bool.false_ne_true
  | int i =>
    obtain ⟨t,rfl⟩:=rx
    cases y with
    | non=>cases ry;exact PySem.EqNone.ne_int_none (fin_bl I q (by simp))
    | int j=>obtain ⟨t',rfl⟩:=ry;exact ne_int (fin_bl I q (congrArg not dec_int))
    | str j=>obtain ⟨t',rfl⟩:=ry;exact PySem.EqMixed.ne_int_str (fin_bl I q (by simp))
    | _=>exact absurd (show false=true from hs) Bool.false_ne_true
  | str i =>
    obtain ⟨t,rfl⟩:=rx
    cases y with
    | non=>cases ry;exact PySem.EqNone.ne_str_none (fin_bl I q (by simp))
    | bl j=>cases ry;exact PySem.EqMixed.ne_str_bool (fin_bl I q (by simp))
    | int j=>obtain ⟨t',rfl⟩:=ry;exact PySem.EqMixed.ne_str_int (fin_bl I q (by simp))
    | str j=>obtain ⟨t',rfl⟩:=ry;exact ne_str (fin_bl I q (congrArg not dec_str))
    | _=>exact absurd (show false=true from hs) Bool.false_ne_true
  | byt i =>
    obtain ⟨t,rfl⟩:=rx
    cases y with
    | byt j=>obtain ⟨t',rfl⟩:=ry;exact PySem.W.ne_bytes (fin_bl I q (congrArg not dec_byt))
    | _=>exact absurd (show false=true from hs) Bool.false_ne_true
  | _=>cases y <;> exact absurd (show false=true from hs) Bool.false_ne_true
theorem op_lt:OpR X (compareOp .Lt) (rI0 fun i j=>.bl (decide (i < j))):=opB0 fun _ _ _ _ _ _ _ q=>lt_int q
theorem op_le:OpR X (compareOp .LtE) (rI0 fun i j=>.bl (decide (i<=j))):=opB0 fun _ _ _ _ _ _ _ q=>le_int q
theorem op_gt:OpR X (compareOp .Gt) (rI0 fun i j=>.bl (decide (j < i))):=opB0 fun _ _ _ _ _ _ _ q=>gt_int q
theorem op_ge:OpR X (compareOp .GtE) (rI0 fun i j=>.bl (decide (j<=i))):=opB0 fun _ _ _ _ _ _ _ q=>ge_int q
theorem op_lt_str:OpR X (compareOp .Lt) (fun x y H Q=>∃ i j,x=.str i/\y=.str j/\Q (.bl (decide (i.cps.toList < j.cps.toList))) H):=by
  intro pins s σ H x y v u Q I rx ry h
  obtain ⟨i,j,rfl,rfl,q⟩:=h
  obtain ⟨t,rfl⟩:=rx
  obtain ⟨t',rfl⟩:=ry
  exact lt_str (fin_bl I q rfl)
theorem op_in_str:OpR X (compareOp .In) (fun x y H Q=>∃ i j,x=.str i/\y=.str j/\Q (.bl (!(Builtin.Str.occurrences j i 0 j.length 1).isEmpty)) H):=by
  intro pins s σ H x y v u Q I rx ry h
  obtain ⟨i,j,rfl,rfl,q⟩:=h
  obtain ⟨t,rfl⟩:=rx
  obtain ⟨t',rfl⟩:=ry
  exact in_str (fin_bl I q rfl)
theorem op_isN:OpR X (compareOp .Is) (fun x y H Q=>y=.non/\Q (.bl (decide (x=.non))) H):=by
  intro pins s σ H x y v u Q I rx ry h
  obtain ⟨rfl,q⟩:=h
  cases ry
  refine is_none_gen (fin_bl I q ?_)
  cases x <;> first
    | (cases rx;rfl)
    | (obtain ⟨t,rfl⟩:=rx;rfl)
theorem op_notN:OpR X (compareOp .IsNot) (fun x y H Q=>y=.non/\Q (.bl (!decide (x=.non))) H):=by
  intro pins s σ H x y v u Q I rx ry h
  obtain ⟨rfl,q⟩:=h
  cases ry
  refine isnot_none_gen (fin_bl I q ?_)
  cases x <;> first
    | (cases rx;rfl)
    | (obtain ⟨t,rfl⟩:=rx;rfl)
theorem OpR.or {f:Value->Value->Sem Value} {r r':R2} (h:OpR X f r) (h':OpR X f r'):OpR X f (fun x y H Q=>r x y H Q\/r' x y H Q):=by
  intro pins s σ H x y v u Q I rx ry q
  rcases q with q | q
  . exact h pins s σ H x y v u Q I rx ry q
  . exact h' pins s σ H x y v u Q I rx ry q
theorem nomark (b:Expr) {op:CmpOp} (h:op≠.In:=by decide) (h2:op≠.NotIn:=by decide):behindInMarks op b=false:=by
  have e1:(op == CmpOp.In)=false:=by cases op <;> first | rfl | exact absurd rfl h
  have e2:(op == CmpOp.NotIn)=false:=by cases op <;> first | rfl | exact absurd rfl h2
  cases b <;> simp [behindInMarks,e1,e2]
theorem pe_cmpR {op:CmpOp} {r:R2} (ho:OpR X (compareOp op) r) (ha:PE X a ta) (hb:PE X b tb) (hm:behindInMarks op b=false):PE X (.Compare a [op] [b] pos) (tOp r ta tb):=by
  intro pins s σ H Q I h
  exact wpAny_Compare1 (binT ha hb I h fun v u s2 x y H2 I2 rx ry q=>ho pins s2 σ H2 x y v u Q I2 rx ry q) hm
noncomputable def tTest (t:TE):TT:=fun σ H Q=>t σ H fun x H'=>∃ k,x=.bl k/\Q k H'
theorem pt_cmpR {op:CmpOp} {r:R2} (ho:OpR X (compareOp op) r) (ha:PE X a ta) (hb:PE X b tb) (hm:behindInMarks op b=false):PT X (.Compare a [op] [b] pos) (tTest (tOp r ta tb)):=by
  intro pins s σ H Q I h
  refine wpAny_isTrue_Compare1 (thn (ha pins s σ H _ I h) fun v s1 ⟨x,H1,I1,r1,q1⟩=>thn (hb pins s1 σ H1 _ I1 q1) fun u s2 ⟨y,H2,I2,r2,q2⟩ =>
    thn (ho pins s2 σ H2 x y v u _ I2 r1 r2 q2) fun c s3 ⟨z,H3,I3,r3,k,e,q3⟩=>?_) hm
  subst e
  cases r3
  exact wpAny_truthy_bool ⟨H3,I3,q3⟩
theorem line63:(sizeLine:Nat) < 2 ^ 63:=by rw [sizeLine_eq];decide
theorem op_add_str:OpR X (binaryOp .Add) (fun x y H Q=>∃ i j,x=.str i/\y=.str j/\i.length + j.length<=sizeLine/\Q (.str (i++j)) H):=by
  intro pins s σ H x y v u Q I rx ry h
  obtain ⟨i,j,rfl,rfl,hz,q⟩:=h
  obtain ⟨t,rfl⟩:=rx
  obtain ⟨t',rfl⟩:=ry
  exact add_str (fun t' tk=>⟨.str (i++j),H,I.tok _,⟨_,rfl⟩,q⟩) hz
theorem vals1 {x:V} {us:List Value} (r:Vals [x] us):∃ u,us=[u]/\RelV x u:=by
  cases r with
  | cons r1 r2=>cases r2;exact ⟨_,rfl,r1⟩
theorem vals2 {x y:V} {us:List Value} (r:Vals [x,y] us):∃ u w',us=[u,w']/\RelV x u/\RelV y w':=by
  cases r with
  | cons r1 r2 =>
    cases r2 with
    | cons r3 r4=>cases r4;exact ⟨_,_,rfl,r1,r3⟩
theorem call_max2 (hc:X.calm=true):CallR X (.builtin "max") (fun xs H Q=>∃ i j,xs=[.int i,.int j]/\Q (.int (if j > i then j else i)) H):=by
  intro pins s σ H xs us Q I r h
  obtain ⟨i,j,rfl,q⟩:=h
  obtain ⟨u,w',rfl,⟨t,rfl⟩,⟨t',rfl⟩⟩:=vals2 r
  refine max_two_ints (I.ok.hd hc) fun h' tk k=>⟨_,H,I.kept k,?_,q⟩
  by_cases hj:j > i
  . rw [if_pos hj,if_pos hj];exact ⟨_,rfl⟩
  . rw [if_neg hj,if_neg hj];exact ⟨_,rfl⟩
theorem call_min2 (hc:X.calm=true):CallR X (.builtin "min") (fun xs H Q=>∃ i j,xs=[.int i,.int j]/\Q (.int (if j < i then j else i)) H):=by
  intro pins s σ H xs us Q I r h
  obtain ⟨i,j,rfl,q⟩:=h
  obtain ⟨u,w',rfl,⟨t,rfl⟩,⟨t',rfl⟩⟩:=vals2 r
  refine min_two_ints (I.ok.hd hc) fun h' tk k=>⟨_,H,I.kept k,?_,q⟩
  by_cases hj:j < i
  . rw [if_pos hj,if_pos hj];exact ⟨_,rfl⟩
  . rw [if_neg hj,if_neg hj];exact ⟨_,rfl⟩
theorem call_int1:CallR X (.type "int") (fun xs H Q=>(∃ i,xs=[.int i]/\Q (.int i) H)\/∃ k,xs=[.bl k]/\Q (.int (if k then 1 else 0)) H):=by
  intro pins s σ H xs us Q I r h
  rcases h with ⟨i,rfl,q⟩ | ⟨k,rfl,q⟩
  . obtain ⟨u,rfl,t,rfl⟩:=vals1 r
    exact call_int_int ⟨.int i,H,I,⟨_,rfl⟩,q⟩
  . obtain ⟨u,rfl,r1⟩:=vals1 r
    cases r1
    exact call_int_bool ⟨.int (if k then 1 else 0),H,I.tok _,⟨_,rfl⟩,q⟩
end
end L2
namespace L2
open PySem PySem.Spec PyProof.Rows
structure ObjM (h:Heap) (x dx C:Addr) (mA:Str->Option Value):Prop where
  obj:h.get? x=some (PySem.W.instObj C dx)
  ns:h.Ns1 dx mA
  ne:dx≠x
theorem lookIn_ns {h:Heap} {dx:Addr} {mA:Str->Option Value} (n:h.Ns1 dx mA):∃ od,h.get? dx=some od/\∀ name,PySem.W.lookIn name od=some (mA name):=by
  obtain ⟨o,es,ep,ho,hd,hk,_,hm⟩:=n
  refine ⟨o,ho,fun name=>?_⟩
  have e:=hm name
  unfold nsFind findBy at e
  rw [<- Array.find?_toList] at e
  unfold PySem.W.lookIn
  rw [hd]
  dsimp only
  split
  . rename_i y q
    rw [q] at e
    exact congrArg some e
  . rename_i q
    rw [q] at e
    have a:es.toList.any (·.refKey)=false:=by
      rw [List.any_eq_false]
      intro y hy
      obtain ⟨z,t,hkey⟩:=hk y (Array.mem_toList_iff.mp hy)
      simp [DictEntry.refKey,hkey]
    have a':¬ es.toList.any (·.refKey)=true:=by rw [a];exact Bool.false_ne_true
    rw [if_neg a']
    exact congrArg some e
theorem ObjM.look {h:Heap} {x dx C:Addr} {mA:Str->Option Value} (I:ObjM h x dx C mA):∃ od,PySem.W.InstAt h x (PySem.W.instObj C dx) C (some od)/\∀ name,PySem.W.lookIn name od=some (mA name) :=
  let ⟨od,ho,hl⟩:=lookIn_ns I.ns
  ⟨od,⟨I.obj,rfl,rfl,ho⟩,hl⟩
section
variable {prog:Program} {w:World} {A:Around} {E:Value->Shared->Prop} {s:Shared} {K:PySem.W.Frag} {x dx C f:Addr} {mA:Str->Option Value} {name:Str} {v:Value}
theorem get_map {expr:Bool} {Q:Value->Shared->Prop} (X:K.In s.heap) (I:ObjM s.heap x dx C mA) (hg:PySem.W.plainGet K C name=true) (hh:PySem.W.hasDictIn K C=true)
    (ha:PySem.W.findIn K (.ref C) name=some none) (hv:mA name=some v) (hv':PySem.W.handedIn v=true) (h:Q v { s with toks:=s.toks + 1 }) :
    wpAny (model prog w) A (getAttr (.ref x) name expr) Q E s:=by
  obtain ⟨od,J,hl⟩:=I.look
  exact PySem.W.get_value X J (PySem.W.plainGet_of hg).1 (PySem.W.findObj_own hh ha rfl (by rw [hl,hv])) hv' h
theorem get_meth {pl:Sem Bool} {Q:Value × List Value->Shared->Prop} (X:K.In s.heap) (I:ObjM s.heap x dx C mA) (hg:PySem.W.plainGet K C name=true)
    (hf:PySem.W.findIn K (.ref C) name=some (some (.ref f))) (ht:PySem.W.isFn K (.ref f)=true) (hv:mA name=none) (h:Q (.ref f,[.ref x]) s) :
    wpAny (model prog w) A (getMethod (.ref x) name pl) Q E s:=by
  obtain ⟨od,J,hl⟩:=I.look
  exact PySem.W.method_fn X J (PySem.W.plainGet_of hg).1 (PySem.W.plainGet_of hg).2 hf (beq_iff_eq.mp ht) (by show (PySem.W.lookIn name od).map (·.isSome)=some false;rw [hl,hv];rfl) h
theorem set_map {ns:List Str} {Q:Unit->Shared->Prop} (X:K.In s.heap) (I:ObjM s.heap x dx C mA)
    (hs:PySem.W.findIn K (.ref C) "__setattr__"=some (some (.builtin "object.__setattr__"))) (hp:PySem.W.plainOver K C=true) (ht:PySem.W.takerIn K C name=some none) (hh:PySem.W.hasDictIn K C=true)
    (hw:PySem.Within mA ns) (hsz:ns.length<=sizeLine)
    (h:∀ h',ObjM h' x dx C (fun y=>if y=name then some v else mA y)->Heap.SameBut dx s.heap h'->Q () { s with heap:=h',toks:=s.toks + 2 }) :
    wpAny (model prog w) A (setAttr (.ref x) name v) Q E s:=by
  obtain ⟨od,J,hl⟩:=I.look
  refine PySem.W.set_plain X J hs (PySem.W.osa_open (s:={ s with toks:=s.toks + 1 }) (r:=none) X J hp ht fun b=>?_)
  obtain ⟨cd,hc,hd'⟩:=PySem.W.any_some hh
  have hx:s.heap.get? x=some ⟨.ref C,some dx,.plain,#[]⟩:=I.obj
  refine wpAny_bind (wpAny_pure (wpAny_bind (wpAny_bind (wpAny_loadPart hx (wpAny_bind (PySem.W.Looks.here (s:={ s with toks:=s.toks + 1 }) (PySem.W.looks_clsIn X hc) ?_))))))
  rw [hd']
  refine wpAny_pure (a:=some dx) (wpAny_bind (wpAny_pure (wpAny_bind ?_)))
  refine wpAny_nsSet1 (s:={ s with toks:=s.toks + 1 }) I.ns fun h' hn2 hs2=>?_
  obtain ⟨oD,esD,epD,hoD,hdD,hcD⟩:=hn2.count (PySem.Within.cons name v hw)
  refine wpAny_bind (wpAny_lookBehind hoD (by rw [hdD];exact pastItsLine_dict (Nat.le_trans hcD (by rw [List.length_cons];lia))) ?_)
  exact wpAny_pure (h _ ⟨(hs2.2 _ (Ne.symm I.ne)).trans I.obj,hn2,I.ne⟩ hs2)
theorem make_map {R:Result->Shared->Prop} {vs:List Value} {kw:List (Str × Value)} (X:K.In s.heap) (hm:PySem.W.makesIn K C=true)
    (hi:PySem.W.findIn K (.ref C) "__init__"=some (some (.ref f))) (hf:PySem.W.typeIn K (.ref f)=some (.type "function"))
    (h : codeAny (model prog w) (A.under (.builtin "type.__call__" ⟨.ref C::vs,kw⟩)) (.call (.ref f) ⟨.ref (s.heap.objs.size + 1)::vs,kw⟩) (PySem.W.InitBack (s.heap.objs.size + 1) R)
      { s with heap:=(s.heap.push PySem.W.emptyDict).push (PySem.W.instObj C s.heap.objs.size) }) :
    codeAny (model prog w) A (.call (.ref C) ⟨vs,kw⟩) R s:=by
  obtain ⟨hh,g,d,t,os⟩:=s
  exact PySem.W.make_core (PySem.W.makes_of X hm) (PySem.W.looks_findIn X hi) (fun self=>PySem.W.bind_fn X self hf) (.inl rfl) h
theorem make_map0 {R:Result->Shared->Prop} (X:K.In s.heap) (hm:PySem.W.makesIn K C=true)
    (hi:PySem.W.findIn K (.ref C) "__init__"=some (some (.builtin "object.__init__")))
    (hb:∀ self,PySem.W.Looks (model prog w) s.heap (bindSpecial (.builtin "object.__init__") self) (.builtin "object.__init__",[self]))
    (h : codeAny (model prog w) (A.under (.builtin "type.__call__" ⟨[.ref C],[]⟩)) (.call (.builtin "object.__init__") ⟨[.ref (s.heap.objs.size + 1)],[]⟩) (PySem.W.InitBack (s.heap.objs.size + 1) R)
      { s with heap:=(s.heap.push PySem.W.emptyDict).push (PySem.W.instObj C s.heap.objs.size) }) :
    codeAny (model prog w) A (.call (.ref C) ⟨[],[]⟩) R s:=by
  obtain ⟨hh,g,d,t,os⟩:=s
  exact PySem.W.make_core (PySem.W.makes_of X hm) (PySem.W.looks_findIn X hi) hb (.inr ⟨rfl,rfl⟩) h
end
noncomputable def putF (f:Str) (v:V):List (Str × V)->List (Str × V)
  | []=>[(f,v)]
  | (g,x)::r=>if g=f then (g,v)::r else (g,x)::putF f v r
theorem lookup_putF (f g:Str) (v:V):∀ fs:List (Str × V),(putF f v fs).lookup g=if g=f then some v else fs.lookup g
  | [] => by
    show List.lookup g [(f,v)]=_
    by_cases h:g=f
    . have hb:(g == f)=true:=beq_iff_eq.mpr h
      simp only [List.lookup,hb,if_pos h]
    . have hb:(g == f)=false:=beq_eq_false_iff_ne.mpr h
      simp only [List.lookup,hb,if_neg h]
  | (k, x)::r=>by
    have ih:=lookup_putF f g v r
    rw [show putF f v ((k,x)::r)=(if k=f then (k,v)::r else (k,x)::putF f v r) from rfl]
    by_cases hk:k=f
    . rw [if_pos hk]
      by_cases h:g=k
      . have hb:(g == k)=true:=beq_iff_eq.mpr h
        simp only [List.lookup,hb,if_pos (h.trans hk)]
      . have hb:(g == k)=false:=beq_eq_false_iff_ne.mpr h
        simp only [List.lookup,hb,if_neg (fun e:g=f=>h (e.trans hk.symm))]
    . rw [if_neg hk]
      by_cases h:g=k
      . have hb:(g == k)=true:=beq_iff_eq.mpr h
        simp only [List.lookup,hb,if_neg (fun e:g=f=>hk (h.symm.trans e))]
      . have hb:(g == k)=false:=beq_eq_false_iff_ne.mpr h
        simp only [List.lookup,hb]
        exact ih
theorem keys_putF (f:Str) (v:V):∀ fs:List (Str × V),f∈(putF f v fs).map (·.1)/\∀ g,g∈fs.map (·.1)->g∈(putF f v fs).map (·.1)
  | []=>⟨by simp [putF],fun g h=>by simp at h⟩
  | (k, x)::r=>by
    obtain ⟨i1,i2⟩:=keys_putF f v r
    rw [show putF f v ((k,x)::r)=(if k=f then (k,v)::r else (k,x)::putF f v r) from rfl]
    by_cases hk:k=f
    . rw [if_pos hk]
      subst hk
      exact ⟨by simp,fun g h=>by simpa using h⟩
    . rw [if_neg hk]
      refine ⟨?_,fun g h=>?_⟩
      . rw [List.map_cons]
        exact List.mem_cons_of_mem _ i1
      . rw [List.map_cons] at h ⊢
        rcases List.mem_cons.mp h with e | e
        . exact List.mem_cons.mpr (.inl e)
        . exact List.mem_cons_of_mem _ (i2 g e)
theorem length_putF (f:Str) (v:V):∀ fs:List (Str × V),(putF f v fs).length<=fs.length + 1
  | []=>by simp [putF]
  | (k,x)::r=>by
    have ih:=length_putF f v r
    rw [show putF f v ((k,x)::r)=(if k=f then (k,v)::r else (k,x)::putF f v r) from rfl]
    by_cases hk:k=f
    . rw [if_pos hk,List.length_cons,List.length_cons];lia
    . rw [if_neg hk,List.length_cons,List.length_cons];lia
theorem RelO.some_of {v:V} {o:Option Value} (r:RelO (some v) o):∃ u,o=some u/\RelV v u:=by
  cases o with
  | none=>exact (show False from r).elim
  | some u=>exact ⟨u,rfl,r⟩
theorem RelO.none_of {o:Option Value} (r:RelO none o):o=none:=by
  cases o with
  | none=>rfl
  | some u=>exact (show False from r).elim
theorem handed_of {v:V} {u:Value} (r:RelV v u):PySem.W.handedIn u=true:=by
  cases v with
  | non=>cases (show u=Value.none from r);rfl
  | bl b=>cases (show u=Value.bool b from r);rfl
  | int i=>obtain ⟨t,e⟩:=(show ∃ t,u=Value.int i t from r);cases e;rfl
  | str x=>obtain ⟨t,e⟩:=(show ∃ t,u=Value.str x t from r);cases e;rfl
  | byt b=>obtain ⟨t,e⟩:=(show ∃ t,u=Value.bytes b t from r);cases e;rfl
  | flt b=>obtain ⟨t,e⟩:=(show ∃ t,u=Value.float b t from r);cases e;rfl
  | ref a=>cases (show u=Value.ref a from r);rfl
  | ty n=>cases (show u=Value.type n from r);rfl
section
variable {P:Program} {w:World} {H H':Hp} {h h':Heap} {a C dx:Addr} {fs fs':List (Str × V)}
theorem ins_get (hok:HOk P w H h) (e:H a=some (.ins C dx fs)):∃ mA,ObjM h a dx C mA/\(∀ f,RelO (fs.lookup f) (mA f))/\PySem.Within mA (fs.map (·.1))/\fs.length<=1000/\H dx=some (.own a):=by
  obtain ⟨d,z,ne,ob,mA,n,r,q⟩:=(show ObjOk P w H h a (.ins C dx fs) from hok a _ e)
  exact ⟨mA,⟨ob,n,ne⟩,r,q,z,d⟩
end
structure Cls (K:PySem.W.Frag) (C:Addr):Prop where
  pg:PySem.W.plainGet K C Str.empty=true
  hd:PySem.W.hasDictIn K C=true
  po:PySem.W.plainOver K C=true
  sa:PySem.W.findIn K (.ref C) "__setattr__"=some (some (.builtin "object.__setattr__"))
theorem Cls.get {K:PySem.W.Frag} {C:Addr} (c:Cls K C) (f:Str):PySem.W.plainGet K C f=true:=c.pg
noncomputable def NoAttr (K:PySem.W.Frag) (C:Addr) (f:Str):Prop:=PySem.W.findIn K (.ref C) f=some none
theorem NoAttr.taker {K:PySem.W.Frag} {C:Addr} {f:Str} (n:NoAttr K C f):PySem.W.takerIn K C f=some none:=by
  unfold PySem.W.takerIn
  rw [show PySem.W.findIn K (.ref C) f=some none from n]
  rfl
structure Meth (K:PySem.W.Frag) (C:Addr) (m:Str) (f:Addr):Prop where
  at_:PySem.W.findIn K (.ref C) m=some (some (.ref f))
  fn:PySem.W.isFn K (.ref f)=true
  kp:PySem.W.keepIn K (.ref f)=true
section
variable {X:Cx} {pins:List (Addr × Obj)} {σ:St} {H:Hp} {s:Shared} {a C dx:Addr} {fs:List (Str × V)} {f:Str} {v:V} {A:Around} {E:Value->Shared->Prop}
theorem getattr_ok {b:Bool} {Q:Value->Shared->Prop} (I:Inv X pins σ H s) (e:H a=some (.ins C dx fs)) (c:Cls X.K C) (n:NoAttr X.K C f) (l:fs.lookup f=some v)
    (h:∀ u s',Inv X pins σ H s'->RelV v u->Q u s'):wpAny (model X.prog X.w) A (getAttr (.ref a) f b) Q E s:=by
  obtain ⟨mA,O,r,_,_,_⟩:=ins_get I.hok e
  obtain ⟨u,hu,ru⟩:=RelO.some_of (v:=v) (o:=mA f) (by rw [<- l];exact r f)
  exact get_map I.kIn O (c.get f) c.hd n hu (handed_of ru) (h u _ (I.tok _) ru)
theorem getmeth_ok {m:Str} {g:Addr} {pl:Sem Bool} {Q:Value × List Value->Shared->Prop} (I:Inv X pins σ H s) (e:H a=some (.ins C dx fs)) (c:Cls X.K C) (k:Meth X.K C m g) (l:fs.lookup m=none)
    (h:Q (.ref g,[.ref a]) s):wpAny (model X.prog X.w) A (getMethod (.ref a) m pl) Q E s:=by
  obtain ⟨mA,O,r,_,_,_⟩:=ins_get I.hok e
  have hn:mA m=none:=RelO.none_of (by rw [<- l];exact r m)
  exact get_meth I.kIn O (c.get m) k.at_ k.fn hn h
theorem setattr_ok {y:V} {u:Value} {Q:Unit->Shared->Prop} (I:Inv X pins σ H s) (e:H a=some (.ins C dx fs)) (c:Cls X.K C) (n:NoAttr X.K C f) (hl:fs.length < 1000) (ry:RelV y u)
    (h:∀ s',Inv X pins σ (upd H a (.ins C dx (putF f y fs))) s'->Q () s'):wpAny (model X.prog X.w) A (setAttr (.ref a) f u) Q E s:=by
  obtain ⟨mA,O,r,wi,_,ho⟩:=ins_get I.hok e
  have hz:(fs.map (·.1)).length<=sizeLine:=by rw [List.length_map,sizeLine_eq];lia
  refine set_map I.kIn O c.sa c.po n.taker c.hd wi hz fun h' O' sb=>h _ ?_
  have hd:∃ o,h'.get? dx=some o:=let ⟨o,_,_,e',_⟩:=O'.ns;⟨o,e'⟩
  refine I.write (x:=a) (e:=dx) (by rw [e];exact True.intro) (.inr ho) (fun b q hb z=>(sb.2 b hb).trans z) hd ?_
  refine ⟨by rw [upd_ne O.ne];exact ho,?_,O.ne,O'.obj,_,O'.ns,fun g=>?_,fun g hg=>?_⟩
  . have:=length_putF f y fs;lia
  . show RelO ((putF f y fs).lookup g) (if g=f then some u else mA g)
    rw [lookup_putF]
    by_cases q:g=f
    . rw [if_pos q,if_pos q];exact ry
    . rw [if_neg q,if_neg q];exact r g
  . by_cases q:g=f
    . rw [q];exact (keys_putF f y fs).1
    . refine (keys_putF f y fs).2 g (wi g fun z=>hg ?_)
      show (if g=f then some u else mA g)=none
      rw [if_neg q];exact z
theorem Inv.made (I:Inv X pins σ H s):Inv X pins σ (upd (upd H s.heap.objs.size (.own (s.heap.objs.size + 1))) (s.heap.objs.size + 1) (.ins C s.heap.objs.size []))
    { s with heap:=(s.heap.push PySem.W.emptyDict).push (PySem.W.instObj C s.heap.objs.size) }:=by
  have e1:(s.heap.push PySem.W.emptyDict).get? s.heap.objs.size=some PySem.W.emptyDict:=Heap.get?_push_size s.heap rfl
  have e2:((s.heap.push PySem.W.emptyDict).push (PySem.W.instObj C s.heap.objs.size)).get? (s.heap.objs.size + 1)=some (PySem.W.instObj C s.heap.objs.size):=by
    have:=Heap.get?_push_size (s.heap.push PySem.W.emptyDict) (o:=PySem.W.instObj C s.heap.objs.size) rfl
    rwa [Heap.size_push] at this
  have e3:(s.heap.push PySem.W.emptyDict).Ns s.heap.objs.size (fun _=>none):=⟨PySem.W.emptyDict,#[],_,e1,rfl,(fun e he=>absurd he (by simp)),fun _=>rfl⟩
  have I1:=I.laid (a:=s.heap.objs.size) (o:=.own (s.heap.objs.size + 1)) (h':=s.heap.push PySem.W.emptyDict) (t':=s.toks) (fun b u q=>Heap.get?_push_of_some _ q) (Nat.le_refl _) ⟨_,e1⟩
  refine I1.laid (a:=s.heap.objs.size + 1) (o:=.ins C s.heap.objs.size []) (t':=s.toks) (fun b u q=>Heap.get?_push_of_some _ q) (Nat.le_of_eq (Heap.size_push _ _)) ?_
  have ne:s.heap.objs.size≠s.heap.objs.size + 1:=Nat.ne_of_lt (Nat.lt_succ_self _)
  refine ⟨by rw [upd_ne ne,upd_same],Nat.zero_le _,ne,e2,fun _=>none,(Heap.Ns1.of_empty e3).at fun o q=>Heap.get?_push_of_some _ q,fun _=>True.intro,fun y hy=>absurd rfl hy⟩
theorem attr_of {prog:Program} {w:World} {env:Env} {e:Expr} {f:Str} {pos:Pos} {s:Shared} {Q:Value->Shared->Prop} (hb:attributeBase e f env (eval e env)=eval e env)
    (h:wpAny (model prog w) A (eval e env) (fun o s₁=>wpAny (model prog w) A (getAttr o f true) Q E s₁) E s):wpAny (model prog w) A (eval (.Attribute e f pos) env) Q E s :=
  Attribute_any_ h (by rw [arm_eval_Attribute,hb])
end
noncomputable def tFld (K:PySem.W.Frag) (ta:TE) (f:Str):TE:=fun σ H Q=>ta σ H fun x H1=>∃ a C dx fs v,x=.ref a/\H1 a=some (.ins C dx fs)/\Cls K C/\NoAttr K C f/\fs.lookup f=some v/\Q v H1
noncomputable def sFld (K:PySem.W.Frag) (ta tv:TE) (f:Str):TS:=fun D σ H=>tv σ H fun y H1=>ta σ H1 fun x H2=>∃ a C dx fs,x=.ref a/\H2 a=some (.ins C dx fs)/\Cls K C/\NoAttr K C f/\fs.length < 1000 /\
  D.nx σ (upd H2 a (.ins C dx (putF f y fs)))
noncomputable def InOp (X:Cx) (op:Operator) (rd:V->V->Hp->VK->Prop):Prop :=
  ∀ (pins:List (Addr × Obj)) (s:Shared) (σ:St) (H:Hp) (x y:V) (u v:Value) (Q:VK),Inv X pins σ H s->RelV x u->RelV y v->rd x y H Q->wpAny (model X.prog X.w) X.A (inplaceOp op u v) (EP X pins σ Q) X.xe s
noncomputable def sFldAug (K:PySem.W.Frag) (ta tv:TE) (rd:V->V->Hp->VK->Prop) (f:Str):TS:=fun D σ H=>ta σ H fun x H1=>∃ a C dx fs v,x=.ref a/\H1 a=some (.ins C dx fs)/\Cls K C/\NoAttr K C f/\fs.lookup f=some v /\
  tv σ H1 fun y H2=>rd v y H2 fun z H3=>∃ dx' fs',H3 a=some (.ins C dx' fs')/\fs'.length < 1000/\D.nx σ (upd H3 a (.ins C dx' (putF f z fs')))
section
variable {X:Cx} {o e value:Expr} {f:Str} {pos pos' tpos:Pos} {ta tv:TE}
theorem pe_fld (he:PE X e ta) (hb:attributeBase e f X.env (eval e X.env)=eval e X.env):PE X (.Attribute e f pos) (tFld X.K ta f):=by
  intro pins s σ H Q I h
  refine attr_of hb (thn (he pins s σ H _ I h) fun u s1 h_q=>?_)
  obtain ⟨x,H1,I1,rx,a,C,dx,fs,v,ex,ea,c,n,l,q⟩:=h_q
  subst ex
  obtain rfl:u=Value.ref a:=rx
  exact getattr_ok I1 ea c n l fun u' s2 I2 ru=>⟨v,H1,I2,ru,q⟩
theorem ps_fld (ha:PE X o ta) (hv:PE X value tv) (hs:swapsWith value (some (.Attribute o f pos')) pos.line X.env=pure false):PS X (.Assign [.Attribute o f pos'] value pos) (sFld X.K ta tv f):=by
  intro pins s σ H D I h
  refine plainObj_wpAny_Assign_Attribute (thn (hv pins s σ H _ I h) fun u s1 ⟨y,H1,I1,ry,q⟩=>thn (ha pins s1 σ H1 _ I1 q) fun ov s2 ⟨x,H2,I2,rx,a,C,dx,fs,ex,ea,c,n,l,q2⟩=>?_) hs
  subst ex
  obtain rfl:ov=Value.ref a:=rx
  exact setattr_ok I2 ea c n l ry fun s3 I3=>⟨σ,_,I3,q2⟩
theorem ps_fldaug {op:Operator} {rd:V->V->Hp->VK->Prop} (ha:PE X o ta) (hv:PE X value tv) (hop:InOp X op rd):PS X (.AugAssign (.Attribute o f tpos) op value pos) (sFldAug X.K ta tv rd f):=by
  intro pins s σ H D I h
  refine wpAny_AugAssign_AttributeAny (thn (ha pins s σ H _ I h) fun ov s1 h_q=>?_)
  obtain ⟨x,H1,I1,rx,a,C,dx,fs,v,ex,ea,c,n,l,q⟩:=h_q
  subst ex
  obtain rfl:ov=Value.ref a:=rx
  refine getattr_ok I1 ea c n l fun u s2 I2 ru=>thn (hv pins s2 σ H1 _ I2 q) fun w3 s3 ⟨y,H2,I3,ry,q3⟩=>thn (hop pins s3 σ H2 v y u w3 _ I3 ru ry q3) fun w4 s4 h_q=>?_
  obtain ⟨z,H3,I4,rz,dx',fs',ea',l',q4⟩:=h_q
  exact setattr_ok I4 ea' c n l' rz fun s5 I5=>⟨σ,_,I5,q4⟩
noncomputable def rAdd:V->V->Hp->VK->Prop:=fun x y H Q=>∃ i j,x=.int i/\y=.int j/\Q (.int (i + j)) H
theorem in_add:InOp X .Add rAdd:=by
  rintro pins s σ H x y u v Q I rx ry ⟨i,j,rfl,rfl,q⟩
  obtain ⟨t,rfl⟩:=(show ∃ t,u=Value.int i t from rx)
  obtain ⟨t',rfl⟩:=(show ∃ t',v=Value.int j t' from ry)
  exact PyProof.Rows.iadd_int ⟨.int (i + j),H,I.tok _,⟨_,rfl⟩,q⟩
theorem methcall_of {pl:Sem Bool} {m:Str} {apos:Pos} {args:List Expr} {pins:List (Addr × Obj)} {s:Shared} {σ:St} {H:Hp} {Q:Value->Shared->Prop} {te:TE} (he:PE X e te) (I:Inv X pins σ H s)
    (h : te σ H fun x H1=>∃ a C dx fs g,x=.ref a/\H1 a=some (.ins C dx fs)/\Cls X.K C/\Meth X.K C m g/\fs.lookup m=none /\
      ∀ s1,Inv X pins σ H1 s1->wpAny (model X.prog X.w) X.A (callWith pos (.ref g) [.ref a] (backTo pos (starEach args X.env)) (backToKw pos (keywordEach [] X.env))) Q X.xe s1)
    (ht : eval (.Call (.Attribute e m apos) args [] pos) X.env=(do
      let ov <- eval e X.env
      standAt apos.atName
      let (f,first) <- holding [ov] (getMethod ov m pl)
      callWith pos f first (backTo pos (starEach args X.env)) (backToKw pos (keywordEach [] X.env)))) :
    wpAny (model X.prog X.w) X.A (eval (.Call (.Attribute e m apos) args [] pos) X.env) Q X.xe s:=by
  refine PySem.W.methodCall_KW (pl:=pl) (thn (he pins s σ H _ I h) fun u s1 ⟨x,H1,I1,rx,a,C,dx,fs,g,ex,ea,c,k,l,q⟩=>?_) ht
  subst ex
  obtain rfl:u=Value.ref a:=rx
  exact getmeth_ok I1 ea c k l (q s1 I1)
end
section
variable {X:Cx} {pins:List (Addr × Obj)} {σ:St} {H:Hp} {s:Shared} {A:Around} {E:Value->Shared->Prop} {Q:Value->Shared->Prop} {c:Value} {b:Bool}
inductive TyOf (K:PySem.W.Frag) (H:Hp):V->Value->Prop where
  | non:TyOf K H .non (.type "NoneType")
  | bl (x:Bool):TyOf K H (.bl x) (.type "bool")
  | int (i:Int):TyOf K H (.int i) (.type "int")
  | str (x:Str):TyOf K H (.str x) (.type "str")
  | flt (x:UInt64):TyOf K H (.flt x) (.type "float")
  | lst {a:Addr} {xs:List V} (e:H a=some (.lst xs)):TyOf K H (.ref a) (.type "list")
  | frz {a:Addr} {o:Obj} {xs:List V} (e:H a=some (.frz o (.lst xs))):TyOf K H (.ref a) (.type "list")
  | tup {a:Addr} {xs:List V} (e:H a=some (.tup xs)):TyOf K H (.ref a) (.type "tuple")
  | dK {a:Addr} {kvs:List (Key × V)} (e:H a=some (.dK kvs)):TyOf K H (.ref a) (.type "dict")
  | dT {a:Addr} {kvs:List (List Key × V)} (e:H a=some (.dT kvs)):TyOf K H (.ref a) (.type "dict")
  | ins {a C dx:Addr} {fs:List (Str × V)} (e:H a=some (.ins C dx fs)) (cl:Cls K C) (ha:PySem.W.findIn K (.ref C) "__class__"=some (some (.builtin "object.__class__")))
      (hn:PySem.W.specialIn K (.builtin "object.__class__") "__get__"=some (some (.builtin "getset_descriptor.__get__"))) (htk:PySem.W.takesIn K (.builtin "object.__class__")=some true)
      (hm:PySem.W.mroIn K C (.type "object")=some true):TyOf K H (.ref a) (.ref C)
theorem isinst_ok {x:V} {u t:Value} (I:Inv X pins σ H s) (rx:RelV x u) (ty:TyOf X.K H x t) (e:PySem.W.kitOne X.K t c=some b) (h:∀ tk,Q (.bool b) { s with toks:=tk }) :
    wpAny (model X.prog X.w) A (call (.builtin "isinstance") [u,c]) Q E s:=by
  cases ty with
  | non=>cases (show u=Value.none from rx);exact PySem.W.kia_one PySem.W.kitx_none I.kIn True.intro e (fun z=>nomatch z) h
  | bl y=>cases (show u=Value.bool y from rx);exact PySem.W.kia_one PySem.W.kitx_bool I.kIn True.intro e (fun z=>nomatch z) h
  | int i=>obtain ⟨t,q⟩:=(show ∃ t,u=Value.int i t from rx);cases q;exact PySem.W.kia_one PySem.W.kitx_int I.kIn True.intro e (fun z=>nomatch z) h
  | str y=>obtain ⟨t,q⟩:=(show ∃ t,u=Value.str y t from rx);cases q;exact PySem.W.kia_one PySem.W.kitx_str I.kIn True.intro e (fun z=>nomatch z) h
  | flt y=>obtain ⟨t,q⟩:=(show ∃ t,u=Value.float y t from rx);cases q;exact PySem.W.kia_one PySem.W.kitx_float I.kIn True.intro e (fun z=>nomatch z) h
  | @lst a xs ea =>
    cases (show u=Value.ref a from rx)
    obtain ⟨_,_,n,_,h1⟩:=(show ObjOk X.prog X.w H s.heap a (.lst xs) from I.hok a _ ea)
    exact PySem.W.kia_one PySem.W.kitx_list I.kIn ⟨_,h1,rfl⟩ e (fun z=>nomatch z) h
  | @frz a ob xs ea =>
    cases (show u=Value.ref a from rx)
    obtain ⟨_,_,_,n,_,h1⟩:=(show ObjOk X.prog X.w H s.heap a (.frz ob (.lst xs)) from I.hok a _ ea)
    exact PySem.W.kia_one PySem.W.kitx_list I.kIn ⟨_,h1,rfl⟩ e (fun z=>nomatch z) h
  | @tup a xs ea =>
    cases (show u=Value.ref a from rx)
    obtain ⟨_,_,_,p⟩:=(show ObjOk X.prog X.w H s.heap a (.tup xs) from I.hok a _ ea)
    obtain ⟨o,h1,h2,_⟩:=p
    exact PySem.W.kia_one PySem.W.kitx_tuple I.kIn ⟨o,h1,h2⟩ e (fun z=>nomatch z) h
  | @dK a kvs ea =>
    cases (show u=Value.ref a from rx)
    obtain ⟨_,_,vs,_,p⟩:=(show ObjOk X.prog X.w H s.heap a (.dK kvs) from I.hok a _ ea)
    obtain ⟨o,es,ep,h1,h2,_⟩:=p
    exact PySem.W.kia_one PySem.W.kitx_dict I.kIn ⟨o,h1,h2.1⟩ e (fun z=>nomatch z) h
  | @dT a kvs ea =>
    cases (show u=Value.ref a from rx)
    obtain ⟨_,_,xs,_,o,es,ep,h1,h2,_⟩:=(show ObjOk X.prog X.w H s.heap a (.dT kvs) from I.hok a _ ea)
    exact PySem.W.kia_one PySem.W.kitx_dict I.kIn ⟨o,h1,h2.1⟩ e (fun z=>nomatch z) h
  | @ins a C dx fs ea cl ha hn htk hm =>
    cases (show u=Value.ref a from rx)
    obtain ⟨mA,O,_⟩:=ins_get I.hok ea
    obtain ⟨od,J,_⟩:=O.look
    exact PySem.W.kia_one (PySem.W.kitx_own (cl.get _) cl.hd ha hn htk hm) I.kIn J e (fun z=>nomatch z) h
end
end L2
namespace L2
open PySem PySem.Spec PyProof.Rows
structure Room (k:Nat) (A:Around):Prop where
  hd:A.handled=none
  dp:A.depth + 3 * k + 5 < recursionLimit
  un:A.units + 16 * k + 200 < cLine
theorem Room.mono {j k:Nat} {A:Around} (r:Room k A) (h:j<=k):Room j A:=⟨r.hd,by have:=r.dp;lia,by have:=r.un;lia⟩
theorem Room.deeper {k:Nat} {A:Around} (r:Room (k + 1) A) (env:Env):Room k (A.deeper env) :=
  ⟨r.hd,by have:=r.dp;show A.depth + 1 + 3 * k + 5 < _;lia,by have:=r.un;show A.units + 3 + 16 * k + 200 < _;lia⟩
theorem make_depth {A:Around} {C:Addr} {us:List Value} {kw:List (Str × Value)}:(A.under (.builtin "type.__call__" ⟨.ref C::us,kw⟩)).depth=A.depth + 1:=by
  first | rfl | simp [Around.under,Code.weight,Code.isCreation,Code.isGuard,Code.isCaller,Code.frames,Code.isFrame,guardIds]
theorem make_units {A:Around} {C:Addr} {us:List Value} {kw:List (Str × Value)}:(A.under (.builtin "type.__call__" ⟨.ref C::us,kw⟩)).units=A.units + 1:=by
  first | rfl | simp [Around.under,Code.cUnits,Code.frames,Code.isFrame]
theorem Room.make {k:Nat} {A:Around} (r:Room (k + 1) A) (C:Addr) (us:List Value) (kw:List (Str × Value)):Room k (A.under (.builtin "type.__call__" ⟨.ref C::us,kw⟩)) :=
  ⟨r.hd,by have:=r.dp;rw [make_depth];lia,by have:=r.un;rw [make_units];lia⟩
theorem Room.depth {k:Nat} {A:Around} (r:Room k A):A.depth < recursionLimit:=by have:=r.dp;lia
noncomputable def tNil:TA:=fun _ H Q=>Q [] H
noncomputable def tCons (ta:TE) (tr:TA):TA:=fun σ H Q=>ta σ H fun x H1=>tr σ H1 fun xs H2=>Q (x::xs) H2
section
variable {X:Cx} {e:Expr} {es:List Expr} {te:TE} {t:TA} {pos:Pos}
theorem pa_nil:PA X [] tNil:=fun _ _ _ _ H Q I h=>Calls.spliced_nil ⟨[],H,I,.nil,h⟩
theorem pa_cons (ha:PE X e te) (hr:PA X es t) (hs:starEach (e::es) X.env=(false,eval e X.env)::starEach es X.env:=by rfl):PA X (e::es) (tCons te t):=by
  intro pos pins s σ H Q I h
  rw [hs]
  show wpAny _ _ (spliced ((false,eval e X.env)::backTo pos (starEach es X.env))) _ _ s
  refine Calls.spliced_cons (thn (ha pins s σ H _ I h) fun u s1 h_q=>?_)
  obtain ⟨x,H1,I1,r1,q1⟩:=h_q
  exact thn (hr pos pins s1 σ H1 _ I1 q1) fun us s2 ⟨xs,H2,I2,r2,q2⟩=>⟨x::xs,H2,I2,.cons r1 r2,q2⟩
noncomputable def tTup (t:TA):TE:=fun σ H Q=>t σ H fun xs H1=>xs.length<=sizeLine/\∀ p,H1 p=none->Q (.ref p) (upd H1 p (.tup xs))
noncomputable def tLst (t:TA):TE:=fun σ H Q=>t σ H fun xs H1=>xs.length<=sizeLine/\∀ p,H1 p=none->Q (.ref p) (upd H1 p (.lst xs))
theorem pe_tup {x1} (h:PA X es t):PE X (.Tuple es x1 pos) (tTup t):=by
  intro pins s σ H Q I hq
  refine wpAny_Tuple_spliced (thn (h pos pins s σ H _ I hq) fun us s1 ⟨xs,H1,I1,r,z,q⟩=>⟨by rw [<- r.length];exact z,?_⟩)
  have hf:H1 s1.heap.objs.size=none:=I1.hok.fresh (Nat.le_refl _)
  refine ⟨.ref s1.heap.objs.size,upd H1 s1.heap.objs.size (.tup xs),I1.laid (t':=s1.toks) (fun b u e=>Heap.get?_push_of_some _ e) (Nat.le_refl _) ?_,rfl,q _ hf⟩
  exact ⟨z,us,r,⟨_,Heap.get?_push_size _ rfl,rfl,_,rfl⟩⟩
theorem pe_lst (h:PA X es t):PE X (.List es pos) (tLst t):=by
  intro pins s σ H Q I hq
  refine wpAny_List_spliced (thn (h pos pins s σ H _ I hq) fun us s1 ⟨xs,H1,I1,r,z,q⟩=>⟨by rw [<- r.length];exact z,?_⟩)
  have hf:H1 s1.heap.objs.size=none:=I1.hok.fresh (Nat.le_refl _)
  refine ⟨.ref s1.heap.objs.size,upd H1 s1.heap.objs.size (.lst xs),I1.laid (t':=s1.toks) (fun b u e=>Heap.get?_push_of_some _ e) (Nat.le_refl _) ?_,rfl,q _ hf⟩
  exact ⟨z,us,0,r,Heap.get?_push_size _ rfl⟩
end
noncomputable abbrev Sp:=List V->Hp->VK->XK->Prop
noncomputable abbrev CXT:=List Env->Hp->Shared->XK->Value->Shared->Prop
structure Env0 (P:Program) (w:World) (K:PySem.W.Frag) (mg:Str->Option Value) (base:Heap) (A:Around) (outer:List Env) (s:Shared) (H:Hp):Prop where
  frames:A.frames=some outer
  mod:Mod K mg base
  bs:∀ b o,base.get? b=some o->s.heap.get? b=some o/\H b=none
  bsz:base.objs.size<=s.heap.objs.size
  funs:s.heap.FunFrames base outer
  frf:∀ b∈frs outer,H b=none
  hok:HOk P w H s.heap
  bare:AllBare s.gens
noncomputable def CE (outer:List Env) (P:Program) (w:World) (H:Hp) (s:Shared) (Q:VK) (u:Value) (s':Shared):Prop :=
  ∃ v H',s'.os=s.os/\AllBare s'.gens/\Un (frs outer) [] H H' s.heap s'.heap/\HOk P w H' s'.heap/\RelV v u/\Q v H'
noncomputable def CR (CX:CXT) (outer:List Env) (P:Program) (w:World) (H:Hp) (s:Shared) (Q:VK) (E:XK) (r:Result) (s':Shared):Prop :=
  match r with
  | .ok (.ret u)=>CE outer P w H s Q u s'
  | .ok _=>False
  | .error e=>CX outer H s E e s'
structure FnOk (P:Program) (w:World) (K:PySem.W.Frag) (mg:Str->Option Value) (base:Heap) (CX:CXT) (k:Nat) (f:Addr) (fd:FuncData) (ps:List Str) (sp:Sp):Prop where
  len:∀ vs H Q E,sp vs H Q E->vs.length=ps.length
  run : ∀ (A:Around) (outer:List Env) (s:Shared) (H:Hp) (args:Args) (us:List Value) (vs:List V) (Q:VK) (E:XK),Room k A->Env0 P w K mg base A outer s H->BindsTo s fd args (ps.zip us)->Vals vs us->sp vs H Q E ->
    codeAny (model P w) A (.call (.ref f) args) (CR CX outer P w H s Q E) s
theorem FnOk.mono {P:Program} {w:World} {K:PySem.W.Frag} {mg:Str->Option Value} {base:Heap} {CX:CXT} {j k:Nat} {f:Addr} {fd:FuncData} {ps:List Str} {sp:Sp} (F:FnOk P w K mg base CX j f fd ps sp) (h:j<=k) :
    FnOk P w K mg base CX k f fd ps sp:=⟨F.len,fun A outer s H args us vs Q E hr=>F.run A outer s H args us vs Q E (hr.mono h)⟩
theorem FnOk.imp {P:Program} {w:World} {K:PySem.W.Frag} {mg:Str->Option Value} {base:Heap} {CX:CXT} {k:Nat} {f:Addr} {fd:FuncData} {ps:List Str} {sp sp':Sp} (F:FnOk P w K mg base CX k f fd ps sp)
    (h:∀ vs H Q E,sp' vs H Q E->sp vs H Q E):FnOk P w K mg base CX k f fd ps sp' :=
  ⟨fun vs H Q E q=>F.len vs H Q E (h _ _ _ _ q),fun A outer s H args us vs Q E hr he hb hv hs=>F.run A outer s H args us vs Q E hr he hb hv (h _ _ _ _ hs)⟩
theorem Env0.make {P:Program} {w:World} {K:PySem.W.Frag} {mg:Str->Option Value} {base:Heap} {A:Around} {outer:List Env} {s:Shared} {H:Hp} (e:Env0 P w K mg base A outer s H) (C:Addr) (us:List Value) (kw:List (Str × Value)) :
    Env0 P w K mg base (A.under (.builtin "type.__call__" ⟨.ref C::us,kw⟩)) outer s H:=⟨by first | exact e.frames | (simpa [Around.under,Code.envs,Code.isFrame,pushEnvs] using e.frames),e.mod,e.bs,e.bsz,e.funs,e.frf,e.hok,e.bare⟩
section
variable {X:Cx} {pins:List (Addr × Obj)} {σ:St} {H:Hp} {s s':Shared}
theorem Inv.env0 (I:Inv X pins σ H s):Env0 X.prog X.w X.K X.mg X.base X.A X.stack s H :=
  ⟨I.ok.frames,I.ok.mod,I.bs,Nat.le_trans I.ok.bsz I.sz,I.stack,I.stkFree,I.hok,I.bare⟩
theorem Inv.after {Q:VK} {u:Value} (I:Inv X pins σ H s) (h:CE X.stack X.prog X.w H s Q u s'):EP X pins σ Q u s':=by
  obtain ⟨v,H',os,bare,un,hok,r,q⟩:=h
  obtain ⟨hh,g,d,t,os'⟩:=s'
  obtain rfl:os'=s.os:=os
  exact ⟨v,H',I.call (h':=hh) (g':=g) (d':=d) (t':=t) (ch:=[]) un hok bare (fun b z=>absurd z (by simp)),r,q⟩
end
noncomputable def tCall (sp:Sp) (dvs:List V) (E:XK) (t:TA):TE:=fun σ H Q=>t σ H fun vs H1=>sp (vs++dvs) H1 Q E
noncomputable def tMeth (C:Addr) (m:Str) (sp:Sp) (dvs:List V) (E:XK) (ta:TE) (t:TA):TE:=fun σ H Q=>ta σ H fun x H1=>∃ a dx fs,x=.ref a/\H1 a=some (.ins C dx fs)/\fs.lookup m=none /\
  t σ H1 fun vs H2=>sp (x::(vs++dvs)) H2 Q E
noncomputable def tMake (C:Addr) (sp:Sp) (dvs:List V) (E:XK) (t:TA):TE:=fun σ H Q=>t σ H fun vs H1=>∀ x dx,H1 x=none->H1 dx=none->dx≠x ->
  sp (.ref x::(vs++dvs)) (upd (upd H1 dx (.own x)) x (.ins C dx [])) (fun v H2=>v=.non/\Q (.ref x) H2) E
noncomputable def Binds (K:PySem.W.Frag) (fd:FuncData) (ps:List Str) (ds:List Value):Prop :=
  ∀ (s:Shared) (us:List Value),K.In s.heap->(us++ds).length=ps.length->BindsTo s fd ⟨us,[]⟩ (ps.zip (us++ds))
theorem Binds.all {K:PySem.W.Frag} {fd:FuncData} {ps:List Str} (h:∀ us:List Value,us.length=ps.length->bindArgs fd ⟨us,[]⟩=pure (ps.zip us)):Binds K fd ps []:=fun s us _ hl=>by
  rw [List.append_nil] at hl ⊢
  exact .of_eq (h us hl)
noncomputable def Passes (CX:CXT) (X:Cx) (E:XK):Prop:=∀ (pins:List (Addr × Obj)) (σ:St) (H:Hp) (s:Shared) (e:Value) (s':Shared),Inv X pins σ H s->CX X.stack H s E e s'->X.xe e s'
section
variable {X:Cx} {CX:CXT} {k:Nat} {f C:Addr} {fd:FuncData} {ps:List Str} {sp:Sp} {dvs:List V} {ds:List Value} {E:XK} {x m:Str} {p pos apos:Pos} {e o:Expr} {es:List Expr} {ta:TE} {t:TA}
theorem run_fn {pins:List (Addr × Obj)} {σ:St} {H:Hp} {s:Shared} {Q:VK} {us:List Value} {vs:List V} (F:FnOk X.prog X.w X.K X.mg X.base CX k f fd ps sp) (hr:Room k X.A) (hb:Binds X.K fd ps ds) (hd:Vals dvs ds) (hx:Passes CX X E)
    (I:Inv X pins σ H s) (r:Vals vs us) (h:sp (vs++dvs) H Q E):wpAny (model X.prog X.w) X.A (call (.ref f) us) (EP X pins σ Q) X.xe s:=by
  have r2:Vals (vs++dvs) (us++ds):=r.append hd
  have hl:(us++ds).length=ps.length:=by rw [<- r2.length];exact F.len _ _ _ _ h
  refine wpAny_call (codeAny_mono (F.run X.A X.stack s H ⟨us,[]⟩ (us++ds) (vs++dvs) Q E hr I.env0 (hb s us I.kIn hl) r2 h) fun r s' hq=>?_)
  cases r with
  | error e=>exact hx pins σ H s e s' I hq
  | ok fl =>
    cases fl with
    | ret u=>exact I.after hq
    | next=>exact False.elim hq
    | brk=>exact False.elim hq
    | cont=>exact False.elim hq
theorem pe_call (F:FnOk X.prog X.w X.K X.mg X.base CX k f fd ps sp) (hr:Room k X.A) (hg:Gl X x) (hm:X.mg x=some (.ref f)) (hk:PySem.W.keepIn X.K (.ref f)=true) (hb:Binds X.K fd ps ds) (hd:Vals dvs ds) (hx:Passes CX X E)
    (ha:PA X (e::es) t) (hdb:(x == ("__debug__":Str))=false:=by decide) (he:starEach (e::es) X.env=(false,eval e X.env)::starEach es X.env:=by rfl) (hpl:(backTo pos (starEach es X.env)).any (·.1)=false:=by rfl) :
    PE X (.Call (.Name x p) (e::es) [] pos) (tCall sp dvs E t):=by
  intro pins s σ H Q I h
  refine wpAny_Call_Name_kw (ld_glob I hg hm ?_ hdb)
  refine PySem.W.callWith_K (h₀:=X.base) I.ok.mod.kin hk (thn (ha pos pins s σ H _ I h) fun us s1 ⟨vs,H1,I1,r,q⟩=>⟨I1.kIn,?_⟩) he hpl
  exact run_fn F hr hb hd hx I1 r q
theorem pe_call0 (F:FnOk X.prog X.w X.K X.mg X.base CX k f fd ps sp) (hr:Room k X.A) (hg:Gl X x) (hm:X.mg x=some (.ref f)) (hk:PySem.W.keepIn X.K (.ref f)=true) (hb:Binds X.K fd ps ds) (hd:Vals dvs ds) (hx:Passes CX X E)
    (hdb:(x == ("__debug__":Str))=false:=by decide):PE X (.Call (.Name x p) [] [] pos) (tCall sp dvs E tNil):=by
  intro pins s σ H Q I h
  refine wpAny_Call_Name_kw (ld_glob I hg hm ?_ hdb)
  exact PySem.W.callWith_K0 I.kIn hk (run_fn (us:=[]) F hr hb hd hx I .nil h)
theorem pe_meth {pl:Sem Bool} (he:PE X o ta) (c:Cls X.K C) (hm:Meth X.K C m f) (F:FnOk X.prog X.w X.K X.mg X.base CX k f fd ps sp) (hr:Room k X.A) (hb:Binds X.K fd ps ds) (hd:Vals dvs ds) (hx:Passes CX X E) (ha:PA X (e::es) t)
    (hst:starEach (e::es) X.env=(false,eval e X.env)::starEach es X.env:=by rfl) (hpl:(backTo pos (starEach es X.env)).any (·.1)=false:=by rfl)
    (ht : eval (.Call (.Attribute o m apos) (e::es) [] pos) X.env=(do
      let ov <- eval o X.env
      standAt apos.atName
      let (f,first) <- holding [ov] (getMethod ov m pl)
      callWith pos f first (backTo pos (starEach (e::es) X.env)) (backToKw pos (keywordEach [] X.env))):=by rfl) :
    PE X (.Call (.Attribute o m apos) (e::es) [] pos) (tMeth C m sp dvs E ta t):=by
  intro pins s σ H Q I h
  refine PySem.W.methodCall_KW (pl:=pl) (thn (he pins s σ H _ I h) fun u s1 ⟨x,H1,I1,rx,a,dx,fs,ex,ea,l,q⟩=>?_) ht
  subst ex
  obtain rfl:u=Value.ref a:=rx
  refine getmeth_ok I1 ea c hm l ?_
  refine PySem.W.callWith_K (first:=[.ref a]) (h₀:=X.base) I.ok.mod.kin hm.kp (thn (ha pos pins s1 σ H1 _ I1 q) fun us s2 ⟨vs,H2,I2,r,q2⟩=>⟨I2.kIn,?_⟩) hst hpl
  exact run_fn (us:=.ref a::us) (vs:=.ref a::vs) F hr hb hd hx I2 (.cons rfl r) q2
theorem pe_meth0 {pl:Sem Bool} (he:PE X o ta) (c:Cls X.K C) (hm:Meth X.K C m f) (F:FnOk X.prog X.w X.K X.mg X.base CX k f fd ps sp) (hr:Room k X.A) (hb:Binds X.K fd ps ds) (hd:Vals dvs ds) (hx:Passes CX X E)
    (ht : eval (.Call (.Attribute o m apos) [] [] pos) X.env=(do
      let ov <- eval o X.env
      standAt apos.atName
      let (f,first) <- holding [ov] (getMethod ov m pl)
      callWith pos f first (backTo pos (starEach [] X.env)) (backToKw pos (keywordEach [] X.env))):=by rfl) :
    PE X (.Call (.Attribute o m apos) [] [] pos) (tMeth C m sp dvs E ta tNil):=by
  intro pins s σ H Q I h
  refine PySem.W.methodCall_KW (pl:=pl) (thn (he pins s σ H _ I h) fun u s1 ⟨x,H1,I1,rx,a,dx,fs,ex,ea,l,q⟩=>?_) ht
  subst ex
  obtain rfl:u=Value.ref a:=rx
  refine getmeth_ok I1 ea c hm l ?_
  exact PySem.W.callWith_K0 (first:=[.ref a]) I1.kIn hm.kp (run_fn (us:=[.ref a]) (vs:=[.ref a]) F hr hb hd hx I1 (.cons rfl .nil) q)
structure Mk (K:PySem.W.Frag) (C f:Addr):Prop where
  makes:PySem.W.makesIn K C=true
  init:PySem.W.findIn K (.ref C) "__init__"=some (some (.ref f))
  fn:PySem.W.isFn K (.ref f)=true
  kp:PySem.W.keepIn K (.ref C)=true
theorem run_make {pins:List (Addr × Obj)} {σ:St} {H:Hp} {s:Shared} {Q:VK} {us:List Value} {vs:List V} (M:Mk X.K C f) (F:FnOk X.prog X.w X.K X.mg X.base CX k f fd ps sp) (hr:Room (k + 1) X.A) (hb:Binds X.K fd ps ds) (hd:Vals dvs ds)
    (hx:Passes CX X E) (I:Inv X pins σ H s) (r:Vals vs us)
    (h:∀ x dx,H x=none->H dx=none->dx≠x->sp (.ref x::(vs++dvs)) (upd (upd H dx (.own x)) x (.ins C dx [])) (fun v H2=>v=.non/\Q (.ref x) H2) E) :
    wpAny (model X.prog X.w) X.A (call (.ref C) us) (EP X pins σ Q) X.xe s:=by
  have hq:=h (s.heap.objs.size + 1) s.heap.objs.size (I.hok.fresh (Nat.le_succ _)) (I.hok.fresh (Nat.le_refl _)) (Nat.ne_of_lt (Nat.lt_succ_self _))
  have I2:=Inv.made (C:=C) I
  have r2:Vals (V.ref (s.heap.objs.size + 1)::(vs++dvs)) (Value.ref (s.heap.objs.size + 1)::(us++ds)):=.cons rfl (r.append hd)
  have hl:(Value.ref (s.heap.objs.size + 1)::us++ds).length=ps.length:=by
    have e:=r2.length
    rw [F.len _ _ _ _ hq] at e
    exact e.symm
  refine wpAny_call (make_map (f:=f) I.kIn M.makes M.init (beq_iff_eq.mp M.fn) (codeAny_mono (F.run _ X.stack _ _ ⟨Value.ref (s.heap.objs.size + 1)::us,[]⟩ (Value.ref (s.heap.objs.size + 1)::(us++ds)) _ _ E (hr.make C us [])
    (I2.env0.make C us []) (hb _ (Value.ref (s.heap.objs.size + 1)::us) I2.kIn hl) r2 hq) fun r s' hq'=>?_))
  cases r with
  | error e=>exact hx pins σ _ _ e s' I2 hq'
  | ok fl =>
    cases fl with
    | ret u =>
      obtain ⟨v,H',I3,rv,ev,q3⟩:=I2.after hq'
      subst ev
      exact ⟨rv,⟨V.ref (s.heap.objs.size + 1),H',I3,rfl,q3⟩⟩
    | next=>exact False.elim hq'
    | brk=>exact False.elim hq'
    | cont=>exact False.elim hq'
theorem pe_make (M:Mk X.K C f) (F:FnOk X.prog X.w X.K X.mg X.base CX k f fd ps sp) (hr:Room (k + 1) X.A) (hg:Gl X x) (hm:X.mg x=some (.ref C)) (hb:Binds X.K fd ps ds) (hd:Vals dvs ds) (hx:Passes CX X E)
    (ha:PA X (e::es) t) (hdb:(x == ("__debug__":Str))=false:=by decide) (he:starEach (e::es) X.env=(false,eval e X.env)::starEach es X.env:=by rfl) (hpl:(backTo pos (starEach es X.env)).any (·.1)=false:=by rfl) :
    PE X (.Call (.Name x p) (e::es) [] pos) (tMake C sp dvs E t):=by
  intro pins s σ H Q I h
  refine wpAny_Call_Name_kw (ld_glob I hg hm ?_ hdb)
  refine PySem.W.callWith_K (h₀:=X.base) I.ok.mod.kin M.kp (thn (ha pos pins s σ H _ I h) fun us s1 ⟨vs,H1,I1,r,q⟩=>⟨I1.kIn,?_⟩) he hpl
  exact run_make M F hr hb hd hx I1 r q
end
structure FnScope (N P:List Str) (sc:Scope):Prop where
  kind:sc.kind=.function
  co:sc.isCoroutine=false
  gen:sc.isGenerator=false
  nd:N.Nodup
  pre:N.take P.length=P
  par:∀ x∈P,sc.names.lookup x=some .local\/sc.names.lookup x=some .cell
  nofree:∀ y∈sc.names,y.2≠.free
theorem bindL_out {kindOf:Str->Option NameKind} {x:Str}:∀ {binds:List (Str × Value)} {m:Str->Option Value},(∀ v,(x,v) ∉ binds)->bindL kindOf binds m x=m x
  | [],_,_=>rfl
  | (n, v)::r,m,h=>by
    unfold bindL
    rw [bindL_out fun w hw=>h w (List.mem_cons_of_mem _ hw)]
    split
    . have:x≠n:=by rintro rfl;exact h v List.mem_cons_self
      simp [this]
    . rfl
theorem bindC_out {kindOf:Str->Option NameKind} {x:Str}:∀ {binds:List (Str × Value)} {m:Str->Option Value},(∀ v,(x,v) ∉ binds)->bindC kindOf binds m x=m x
  | [],_,_=>rfl
  | (n, v)::r,m,h=>by
    unfold bindC
    rw [bindC_out fun w hw=>h w (List.mem_cons_of_mem _ hw)]
    split
    . rfl
    . have:x≠n:=by rintro rfl;exact h v List.mem_cons_self
      simp [this]
theorem bindL_get {kindOf:Str->Option NameKind} {x:Str} {v:Value}:∀ {P:List Str} {vs:List Value} {i:Nat} {m:Str->Option Value},P.Nodup->P[i]? = some x->vs[i]? = some v->kindOf x=some .local ->
    bindL kindOf (P.zip vs) m x=some v
  | [],_,_,_,_,h,_,_=>by simp at h
  | _::_,[],_,_,_,_,h,_=>by simp at h
  | p :: P,w::vs,0,m,nd,h1,h2,hk=>by
    simp at h1 h2;subst h1;subst h2
    show bindL kindOf ((p,w)::P.zip vs) m p=_
    unfold bindL
    rw [bindL_out fun v hv=>(List.nodup_cons.mp nd).1 (List.of_mem_zip hv).1,if_pos hk]
    simp
  | p :: P,w::vs,i + 1,m,nd,h1,h2,hk=>by
    show bindL kindOf ((p,w)::P.zip vs) m x=_
    unfold bindL
    exact bindL_get (i:=i) (List.nodup_cons.mp nd).2 (by simpa using h1) (by simpa using h2) hk
theorem bindC_get {kindOf:Str->Option NameKind} {x:Str} {v:Value}:∀ {P:List Str} {vs:List Value} {i:Nat} {m:Str->Option Value},P.Nodup->P[i]? = some x->vs[i]? = some v->kindOf x≠some .local ->
    bindC kindOf (P.zip vs) m x=some v
  | [],_,_,_,_,h,_,_=>by simp at h
  | _::_,[],_,_,_,_,h,_=>by simp at h
  | p :: P,w::vs,0,m,nd,h1,h2,hk=>by
    simp at h1 h2;subst h1;subst h2
    show bindC kindOf ((p,w)::P.zip vs) m p=_
    unfold bindC
    rw [bindC_out fun v hv=>(List.nodup_cons.mp nd).1 (List.of_mem_zip hv).1,if_neg hk]
    simp
  | p :: P,w::vs,i + 1,m,nd,h1,h2,hk=>by
    show bindC kindOf ((p,w)::P.zip vs) m x=_
    unfold bindC
    exact bindC_get (i:=i) (List.nodup_cons.mp nd).2 (by simpa using h1) (by simpa using h2) hk
noncomputable def start (N:List Str) (vs:List V):St:=vs.map some++List.replicate (N.length - vs.length) none
noncomputable def cxOf (CX:CXT) (P:Program) (w:World) (K:PySem.W.Frag) (mg:Str->Option Value) (base:Heap) (N:List Str) (qual:Str) (scope:Scope) (f:Addr) (cd:Value) (A:Around) (outer:List Env) (s:Shared) (H:Hp) (E:XK):Cx where
  prog:=P
  w := w
  K := K
  mg:=mg
  base:=base
  A := A.deeper (envOfC qual scope s.heap.objs.size f cd)
  N := N
  s₀:=s
  H₀:=H
  env:=envOfC qual scope s.heap.objs.size f cd
  outer:=outer
  stack:=envOfC qual scope s.heap.objs.size f cd::outer
  ex:=[]
  calm:=true
  fn:=fun _=>true
  pn:=[]
  xe:=fun e s'=>wpAny (model P w) (A.deeper (envOfC qual scope s.heap.objs.size f cd)) (leaving (envOfC qual scope s.heap.objs.size f cd) e) (fun _ s''=>CX outer H s E e s'') (fun e' s''=>CX outer H s E e' s'') s'
theorem cell_has {sc:Scope} {n:Nat} {x:Str} (h:sc.names.lookup x=some .cell):∃ c,(cellsFrom n sc.names []).lookup x=some c:=by
  have q:=PySem.W.cellsFrom_some sc.names n [] (.inl h)
  exact Option.isSome_iff_exists.mp q
theorem inv_start {CX:CXT} {P:Program} {w:World} {K:PySem.W.Frag} {mg:Str->Option Value} {base:Heap} {N ps:List Str} {qual:Str} {scope:Scope} {f:Addr} {cd:Value} {A:Around} {outer:List Env} {s s1:Shared} {H:Hp} {E:XK} {us:List Value} {vs:List V}
    (S:FnScope N ps scope) (hd:A.handled=none) (e0:Env0 P w K mg base A outer s H) (hl:vs.length=ps.length) (r:Vals vs us)
    (x:InCallC s s.heap.objs.size (bindL (envOfC qual scope s.heap.objs.size f cd).kindOf (ps.zip us) fun _=>none) (cellsFrom (s.heap.objs.size + 1) scope.names []) (bindC (envOfC qual scope s.heap.objs.size f cd).kindOf (ps.zip us) fun _=>none) s1) :
    Inv (cxOf CX P w K mg base N qual scope f cd A outer s H E) [] (start N vs) H s1:=by
  have hpl:ps.length<=N.length:=by have:=congrArg List.length S.pre;rw [List.length_take] at this;lia
  obtain ⟨h1,tk,rfl,hk⟩:=x.done
  have noA:∀ b:Addr,b ∉ (cxOf CX P w K mg base N qual scope f cd A outer s H E).ex:=fun b z=>absurd (show b∈([]:List Addr) from z) (by simp)
  refine ⟨⟨e0.mod,S.kind,rfl,rfl,Nat.le_refl _,fun y z c h1 h2=>?_,fun y hy=>?_,fun y c _ h=>?_,fun _=>hd,Around.frames_deeper e0.frames,.inr ⟨rfl,rfl⟩,fun b z=>absurd z (noA b),e0.bs,e0.bsz,fun b _ _=>noA b,fun b z=>absurd z (noA b),e0.funs,e0.frf⟩,
    rfl,e0.bare,Un.kept hk,⟨_,x.toInCall.ns,fun i y v h1 h2 h3=>?_⟩,fun y c h=>⟨_,x.cell y c h⟩,e0.hok.fresh (Nat.le_refl _),fun y c h=>?_,fun p hp=>absurd (show p∈([]:List (Addr × Obj)) from hp) (by simp),e0.hok.kept hk,?_⟩
  . exact name_of_addr x.apart (PySem.mem_of_lookup h1) (PySem.mem_of_lookup h2)
  . have hy:scope.names.lookup y=some .cell\/scope.names.lookup y=some .free:=hy
    rcases hy with hy | hy
    . exact cell_has hy
    . exact absurd rfl (S.nofree _ (PySem.mem_of_lookup hy))
  . exact Nat.le_of_lt (x.above y c (PySem.mem_of_lookup h))
  . have hi:i < vs.length:=by
      unfold start at h2
      by_cases hi:i < vs.length
      . exact hi
      . rw [List.getElem?_append_right (by simpa using hi)] at h2
        rw [List.getElem?_replicate] at h2
        split at h2 <;> cases h2
    have ha:vs[i]? = some v:=by
      unfold start at h2
      rw [List.getElem?_append_left (by simpa using hi),List.getElem?_map] at h2
      cases e:vs[i]? with
      | none=>rw [e] at h2;cases h2
      | some a=>rw [e] at h2;cases h2;rfl
    obtain ⟨u,hu,rv⟩:=r.get ha
    have hp:ps[i]? = some y:=by
      rw [<- S.pre,List.getElem?_take_of_lt (by lia)];exact h1
    have ndP:ps.Nodup:=by rw [<- S.pre];exact S.nd.sublist (List.take_sublist _ _)
    refine ⟨u,rv,?_⟩
    rcases S.par y (List.mem_of_getElem? hp) with k | k
    . exact .inl ⟨k,bindL_get ndP hp hu k⟩
    . obtain ⟨c,e⟩:=cell_has (n:=s.heap.objs.size + 1) k
      refine .inr ⟨.inl k,c,e,?_⟩
      have q:=x.cell y c e
      rw [bindC_get ndP hp hu (by show scope.names.lookup y≠_;rw [k];decide)] at q
      exact q
  . exact e0.hok.fresh (Nat.le_of_lt (x.above y c (PySem.mem_of_lookup h)))
  . unfold start
    show _=N.length
    rw [List.length_append,List.length_map,List.length_replicate]
    lia
theorem fn_of {CX:CXT} {P:Program} {w:World} {K:PySem.W.Frag} {mg:Str->Option Value} {base:Heap} {k:Nat} {f:Addr} {name qual:Str} {params:Arguments} {body:List Stmt} {scope:Scope} {dV kV doc pm cdv ct oc:Value} {an od:Option Addr}
    {osl:Array (Option Value)} {N ps:List Str} {sp:Sp} (lk:K.lookup f=some ⟨oc,od,.func (PySem.W.fnOf name qual params body scope dV kV doc pm an cdv ct),osl⟩) (hcd:PySem.W.codeIn K cdv qual=true) (S:FnScope N ps scope)
    (len:∀ vs H Q E,sp vs H Q E->vs.length=ps.length)
    (hbody:∀ (A:Around) (outer:List Env) (s:Shared) (H:Hp) (vs:List V) (Q:VK) (E:XK),Room k (A.deeper (envOfC qual scope s.heap.objs.size f cdv))->sp vs H Q E ->
      ∃ t,PSs (cxOf CX P w K mg base N qual scope f cdv A outer s H E) body t/\t { nx:=fun _ H'=>Q .non H',rt:=Q } (start N vs) H) :
    FnOk P w K mg base CX (k + 1) f (PySem.W.fnOf name qual params body scope dV kV doc pm an cdv ct) ps sp:=by
  refine ⟨len,fun A outer s H args us vs Q E hr e0 hb r hsp=>?_⟩
  have hl:=len _ _ _ _ hsp
  have KX:K.In s.heap:=e0.mod.kin.keeps fun b o e=>(e0.bs b o e).1
  have lim:s.heap.NoLimit:=e0.mod.nolimit.keeps fun b o e=>(e0.bs b o e).1
  have hkind:∀ y∈ps.zip us,scope.names.lookup y.1=some .local\/(scope.names.lookup y.1=some .cell/\((cellsFrom (s.heap.objs.size + 1) scope.names []).lookup y.1).isSome=true):=fun hq0 hy=>by
    obtain ⟨n,v⟩:=hq0
    rcases S.par n (List.of_mem_zip hy).1 with q | q
    . exact .inl q
    . exact .inr ⟨q,PySem.W.cellsFrom_some _ _ _ (.inl q)⟩
  refine codeAny_call_function hr.depth (KX _ _ lk) rfl S.co S.gen rfl (PySem.W.codeRec_of KX hcd) (hb _ _ _ _ ?_)
  refine wpAny_newFunctionEnv_cells S.kind hkind fun env he s1 x=>?_
  subst he
  refine ⟨lim.keeps x.toInCall.keep,codeAny_func ?_⟩
  obtain ⟨t,ht,hq⟩:=hbody A outer s H vs Q E (hr.deeper _) hsp
  have I:Inv (cxOf CX P w K mg base N qual scope f cdv A outer s H E) [] (start N vs) H s1:=inv_start S hr.hd e0 hl r x
  refine wpAny_mono (ht [] s1 (start N vs) H _ I hq) (fun fl s' hs=>?_) fun e s' hs=>hs
  have fin:∀ {σ':St} {H':Hp} {v:V} {u:Value},Inv (cxOf CX P w K mg base N qual scope f cdv A outer s H E) [] σ' H' s'->RelV v u->Q v H'->CE outer P w H s Q u s' :=
    fun {σ' H' v u} J rv q=>⟨v,H',J.os,J.bare,J.base,J.hok,rv,q⟩
  cases fl with
  | ret u =>
    obtain ⟨v,σ',H',J,rv,q⟩:=hs
    exact fin J rv q
  | next =>
    obtain ⟨σ',H',J,q⟩:=hs
    exact fin (v:=V.non) (u:=Value.none) J rfl q
  | brk =>
    obtain ⟨_,_,_,q⟩:=hs
    exact False.elim q
  | cont =>
    obtain ⟨_,_,_,q⟩:=hs
    exact False.elim q
end L2
namespace L2
open PySem PySem.Spec PyProof.Rows
section
variable {X:Cx} {x:Str} {p pos:Pos} {e:Expr} {es:List Expr} {t:TA} {id T:String} {r:List V->Hp->VK->Prop}
noncomputable def tCB (r:List V->Hp->VK->Prop) (t:TA):TE:=fun σ H Q=>t σ H fun vs H1=>r vs H1 Q
theorem pe_callB (hc:CallR X (.builtin id) r) (hg:Gl X x) (hm:X.mg x=none) (hv:bootBuiltins x=some (.builtin id)) (ha:PA X (e::es) t) (hn:x≠"__name__":=by decide) (hdb:(x == ("__debug__":Str))=false:=by decide)
    (he:starEach (e::es) X.env=(false,eval e X.env)::starEach es X.env:=by rfl) (hpl:(backTo pos (starEach es X.env)).any (·.1)=false:=by rfl):PE X (.Call (.Name x p) (e::es) [] pos) (tCB r t):=by
  intro pins s σ H Q I h
  refine wpAny_Call_Name_kw (ld_blt I hg hm hv ?_ hn hdb)
  exact PyProof.Rows.callWith_builtin1 (thn (ha pos pins s σ H _ I h) fun us s1 ⟨vs,H1,I1,r1,q1⟩=>hc pins s1 σ H1 vs us Q I1 r1 q1) he hpl
theorem pe_callTy (hc:CallR X (.type T) r) (hg:Gl X x) (hm:X.mg x=none) (hv:bootBuiltins x=some (.type T)) (ha:PA X (e::es) t) (hn:x≠"__name__":=by decide) (hdb:(x == ("__debug__":Str))=false:=by decide)
    (he:starEach (e::es) X.env=(false,eval e X.env)::starEach es X.env:=by rfl) (hpl:(backTo pos (starEach es X.env)).any (·.1)=false:=by rfl):PE X (.Call (.Name x p) (e::es) [] pos) (tCB r t):=by
  intro pins s σ H Q I h
  refine wpAny_Call_Name_kw (ld_blt I hg hm hv ?_ hn hdb)
  exact PyProof.Rows.callWith_type1 (thn (ha pos pins s σ H _ I h) fun us s1 ⟨vs,H1,I1,r1,q1⟩=>hc pins s1 σ H1 vs us Q I1 r1 q1) he hpl
end
end L2
namespace HT
open PySem PyProof.Rows
theorem rcLt_int (A:Around) (s:Shared) (a:Int) (t:Tok) (c:Int) (u:Tok) (prog:Program) (w:World) (E:Value->Shared->Prop) (Q:Value->Shared->Prop) (h:Q (.bool (decide (a < c))) s) :
    wpAny (model prog w) A (richCompare .Lt (.int a t) (.int c u)) Q E s :=
  (PyProof.Rows.lt_int h:wpAny (model prog w) A (compareOp .Lt (.int a t) (.int c u)) Q E s)
section
variable {prog:Program} {w:World} {A:Around} {E:Value->Shared->Prop} {s:Shared}
theorem cat_tup {t b:Addr} {vs ws:List Value} {Q:Value->Shared->Prop} (ht:IsTup s.heap t vs.toArray) (hb:IsTup s.heap b ws.toArray) (hv:vs≠[])
    (h1:ws=[]->Q (.ref t) s) (h2:ws≠[]->Q (.ref s.heap.objs.size) { s with heap:=s.heap.push { cls:=.type "tuple",data:=.seq (vs++ws).toArray } })
    (hsz:vs.length + ws.length<=sizeLine):wpAny (model prog w) A (binaryOp .Add (.ref t) (.ref b)) Q E s:=by
  obtain ⟨⟨cls,dd,data,sl⟩,ho,hc,n,hd⟩:=id ht
  obtain ⟨⟨cls2,dd2,data2,sl2⟩,ho2,hc2,n2,hd2⟩:=id hb
  simp only at hc hd hc2 hd2
  subst hc hd hc2 hd2
  have e:vs.toArray++ws.toArray=(vs++ws).toArray:=by simp
  by_cases hw:ws=[]
  . exact concat_meets ⟨_,ho,rfl⟩ ⟨_,ho2,rfl⟩ noFill_tuple_add seq_tuple_add PySem.F.slot_tuple_add PySem.F.entry_tuple_add (PySem.F.args_tuple_add_2 _ _)
      (tuple_addW1 t b vs.toArray ws.toArray n n2 dd dd2 sl sl2 (by simpa using hv) (by simp [hw])) ⟨ho,ho2,h1 hw⟩
  . refine concat_meets ⟨_,ho,rfl⟩ ⟨_,ho2,rfl⟩ noFill_tuple_add seq_tuple_add PySem.F.slot_tuple_add PySem.F.entry_tuple_add (PySem.F.args_tuple_add_2 _ _)
      (tuple_addW2 t b vs.toArray ws.toArray n n2 dd dd2 sl sl2 (by simpa using hv) (by simpa using hw) (by rw [List.size_toArray,List.size_toArray];exact hsz)) ⟨ho,ho2,?_⟩
    rw [e]
    exact h2 hw
noncomputable def sIx (n d:Nat):Option Int->Nat
  | none=>d
  | some v=>if v < 0 then (v + (n:Int)).toNat else min v.toNat n
theorem sIx_none (n d:Nat):sIx n d none=d:=rfl
theorem sIx_nat (n d k:Nat):sIx n d (some (k:Int))=min k n:=by
  show (if (k:Int) < 0 then ((k:Int) + (n:Int)).toNat else min (k:Int).toNat n)=min k n
  rw [if_neg (by lia),Int.toNat_natCast]
theorem sIx_le (n d:Nat) (hd:d<=n) (o:Option Int):sIx n d o<=n:=by
  cases o with
  | none=>exact hd
  | some v =>
    show (if v < 0 then (v + (n:Int)).toNat else min v.toNat n)<=n
    by_cases hv:v < 0
    . rw [if_pos hv];lia
    . rw [if_neg hv];exact Nat.min_le_right _ _
theorem clip_eq (v:Int) (n d:Nat):(if v < 0 then max (v + (n:Int)) 0 else min v (n:Int))=((sIx n d (some v):Nat):Int):=by
  show (if v < 0 then max (v + (n:Int)) 0 else min v (n:Int))=(((if v < 0 then (v + (n:Int)).toNat else min v.toNat n):Nat):Int)
  by_cases hv:v < 0
  . simp only [if_pos hv];lia
  . simp only [if_neg hv];lia
theorem adjust_gen (lo hi:Option Int) (n:Nat):Builtin.Slice.sliceAdjust lo hi 1 (n:Int)=(((sIx n 0 lo:Nat):Int),((sIx n n hi:Nat):Int)):=by
  have h1:¬ ((1:Int) < 0):=by lia
  unfold Builtin.Slice.sliceAdjust
  simp only [h1,if_false]
  refine Prod.ext ?_ ?_
  . cases lo with
    | none=>rfl
    | some v=>exact clip_eq v n 0
  . cases hi with
    | none=>rfl
    | some v=>exact clip_eq v n n
theorem places_gen (i j:Nat):Builtin.Slice.slicePlaces (i:Int) (j:Int) 1=j - i:=by
  unfold Builtin.Slice.slicePlaces
  have h1:(1:Int) > 0:=by lia
  simp only [h1,if_true,Int.ediv_one]
  split <;> lia
theorem slicePart_ {v:Value} {o:Option Int} {Q:Option Int->Shared->Prop} (p:IsPart v o) (h:Q o s):wpAny (model prog w) A (Builtin.Slice.slicePartIndex v) Q E s:=by
  cases p with
  | none=>exact slicePart_none h
  | int i t=>exact slicePart_int h
theorem sliceApplied_gen {sl:Addr} {vl vu:Value} {lo hi:Option Int} {n:Nat} {Q:Int × Int × Nat->Shared->Prop} (hs:s.heap.IsSliceOf sl vl vu .none) (pl:IsPart vl lo) (pu:IsPart vu hi)
    (h:Q (((sIx n 0 lo:Nat):Int),1,sIx n n hi - sIx n 0 lo) s):wpAny (model prog w) A (Builtin.Slice.sliceApplied (.ref sl) (pure (n:Int))) Q E s:=by
  obtain ⟨os,hos,hcs,hds⟩:=id hs
  unfold Builtin.Slice.sliceApplied Builtin.Slice.sliceFields
  refine wpAny_bind (wpAny_bind (wpAny_field hos hds (x:=vl) rfl (wpAny_bind (wpAny_field hos hds (x:=vu) rfl (wpAny_bind (wpAny_field hos hds (x:=.none) rfl (wpAny_pure ?_)))))))
  refine wpAny_bind (slicePart_none ?_)
  show wpAny _ _ (if ((1:Int) == 0)=true then _ else _) _ _ s
  rw [if_neg (by decide)]
  refine wpAny_bind (slicePart_ pl (wpAny_bind (slicePart_ pu (wpAny_bind (wpAny_pure ?_)))))
  show wpAny _ _ (match Builtin.Slice.sliceAdjust lo hi 1 (n:Int) with | (lo,hi)=>pure (lo,(1:Int),Builtin.Slice.slicePlaces lo hi 1)) _ _ s
  rw [adjust_gen lo hi n]
  show wpAny _ _ (pure (((sIx n 0 lo:Nat):Int),(1:Int),Builtin.Slice.slicePlaces ((sIx n 0 lo:Nat):Int) ((sIx n n hi:Nat):Int) 1)) _ _ s
  rw [places_gen]
  exact wpAny_pure h
theorem pick_gen (xs:Array Value) (i k:Nat):((List.range k).filterMap fun (m:Nat)=>xs[((i:Int) + (m:Int) * 1).toNat]?).toArray=((xs.toList.drop i).take k).toArray:=by
  have e:(fun (m:Nat)=>xs[((i:Int) + (m:Int) * 1).toNat]?)=fun m=>xs[i + m]?:=by
    funext m
    have:((i:Int) + (m:Int) * 1).toNat=i + m:=by lia
    rw [this]
  rw [e]
  have:=pick_run xs i k
  rw [List.filterMap_map] at this
  have e2:((fun x=>xs[x]?) ∘ fun x=>i + x)=fun m=>xs[i + m]?:=rfl
  rw [e2] at this
  rw [this]
theorem getItem_tuple_cut {t sl:Addr} {items:Array Value} {vl vu:Value} {lo hi:Option Int} {Q:Value->Shared->Prop} (ht:IsTup s.heap t items) (hs:s.heap.IsSliceOf sl vl vu .none) (pl:IsPart vl lo) (pu:IsPart vu hi)
    (hw:¬ (sIx items.size 0 lo=0/\sIx items.size items.size hi=items.size))
    (h:Q (.ref s.heap.objs.size) { s with heap:=s.heap.push { cls:=.type "tuple",data:=.seq ((items.toList.drop (sIx items.size 0 lo)).take (sIx items.size items.size hi - sIx items.size 0 lo)).toArray } })
    (hsz:items.size<=sizeLine):wpAny (model prog w) A (getItem (.ref t) (.ref sl)) Q E s:=by
  have htake:sizeOk (.seq ((items.toList.drop (sIx items.size 0 lo)).take (sIx items.size items.size hi - sIx items.size 0 lo)).toArray):=by
    show ((items.toList.drop (sIx items.size 0 lo)).take (sIx items.size items.size hi - sIx items.size 0 lo)).toArray.size<=sizeLine
    rw [List.size_toArray,List.length_take,List.length_drop,Array.length_toList]
    lia
  have hj:sIx items.size items.size hi<=items.size:=sIx_le _ _ (Nat.le_refl _) hi
  obtain ⟨os,hos,hcs,hds⟩:=id hs
  have hTs:s.TypeIs (.ref sl) "slice":=⟨os,hos,hcs⟩
  unfold getItem
  try with_reducible refine wpAny_holding ?_
  first | refine wpAny_bind (wpAny_pure ?_) | skip
  refine wpAny_bind (wpAny_sequenceKey ht.typeIs (by decide) ?_)
  refine wpAny_bind (wpAny_callSpecial?_slot (name:=Str.ofString "__getitem__") ht.typeIs PyProof.Rows.slot_tuple_getitem
    (wpAny_call_entry PyProof.Rows.slot_tuple_getitem ht.typeIs entry_tuple_getitem ?_ (args_tuple_getitem _ _)))
  show wpAny _ _ (Builtin.Tuple.tupleItemsOf (.ref t) >>= _) _ _ s
  refine wpAny_bind (tupleItemsOf_ ht ?_)
  refine wpAny_bind (wpAny_typeOf hTs ?_)
  rw [if_pos (by decide)]
  refine wpAny_bind (sliceApplied_gen hs pl pu ?_)
  have hno:¬ ((((sIx items.size 0 lo:Nat):Int) == 0 && (1:Int) == 1 && (sIx items.size items.size hi - sIx items.size 0 lo) == items.size)=true):=by
    intro q
    rw [Bool.and_eq_true,Bool.and_eq_true] at q
    have q1:((sIx items.size 0 lo:Nat):Int)=0:=eq_of_beq q.1.1
    have q2:sIx items.size items.size hi - sIx items.size 0 lo=items.size:=eq_of_beq q.2
    exact hw ⟨by lia,by lia⟩
  show wpAny _ _ (if (((sIx items.size 0 lo:Nat):Int) == 0 && (1:Int) == 1 && (sIx items.size items.size hi - sIx items.size 0 lo) == items.size)=true then _ else _) _ _ s
  rw [if_neg hno,pick_gen]
  first
    | exact wpAny_bind (m:=Builtin.Tuple.tupleExact _) (wpAny_newObj_type (wpAny_pure ⟨_,rfl,wpAny_pure h⟩) htake)
    | exact wpAny_bind (m:=Builtin.Tuple.tupleExact _) (wpAny_newObj_type (wpAny_bind (wpAny_pure (wpAny_pure ⟨_,rfl,wpAny_pure h⟩))) htake)
    | exact wpAny_bind (wpAny_bind (m:=Builtin.Tuple.tupleExact _) (wpAny_newObj_type (wpAny_pure (wpAny_pure ⟨_,rfl,wpAny_pure h⟩)) htake))
    | exact wpAny_bind (wpAny_bind (m:=Builtin.Tuple.tupleExact _) (wpAny_newObj_type (wpAny_pure ⟨_,rfl,wpAny_pure h⟩) htake))
end
end HT
namespace L2
open PySem PySem.Spec PyProof.Rows
noncomputable abbrev TO:=St->Hp->(Option Int->Hp->Prop)->Prop
noncomputable def PO (X:Cx) (e:Option Expr) (t:TO):Prop :=
  ∀ (pins:List (Addr × Obj)) (s:Shared) (σ:St) (H:Hp) (Q:Option Int->Hp->Prop),Inv X pins σ H s->t σ H Q ->
    wpAny (model X.prog X.w) X.A (evalPart e X.env) (fun u s'=>∃ o H',Inv X pins σ H' s'/\IsPart u o/\Q o H') X.xe s
noncomputable def tNoPart:TO:=fun _ H Q=>Q none H
noncomputable def tPart (t:TE):TO:=fun σ H Q=>t σ H fun x H1=>∃ i,x=.int i/\Q (some i) H1
section
variable {X:Cx} {e:Expr} {te:TE} {lo hi:Option Expr} {tl th:TO} {pos p2:Pos}
theorem po_none:PO X none tNoPart:=by
  intro pins s σ H Q I h
  rw [evalPart_none]
  exact wpAny_pure ⟨none,H,I,.none,h⟩
theorem po_some (h:PE X e te):PO X (some e) (tPart te):=by
  intro pins s σ H Q I hw
  rw [evalPart_some]
  refine thn (h pins s σ H _ I hw) fun u s1 h_q=>?_
  obtain ⟨x,H1,I1,r1,q1⟩:=h_q
  obtain ⟨i,rfl,q⟩:=q1
  obtain ⟨t,rfl⟩:=r1
  exact ⟨some i,H1,I1,.int i t,q⟩
noncomputable def SlR (X:Cx) (r:V->Option Int->Option Int->Hp->VK->Prop):Prop :=
  ∀ (pins:List (Addr × Obj)) (s:Shared) (σ:St) (H:Hp) (x:V) (v vl vu:Value) (lo hi:Option Int) (sl:Addr) (Q:VK),Inv X pins σ H s->RelV x v->s.heap.IsSliceOf sl vl vu .none->IsPart vl lo->IsPart vu hi->r x lo hi H Q ->
    ∃ T id,typeLookup (.type T) "__getitem__"=pure (some (.builtin id))/\s.TypeIs v T/\wpAny (model X.prog X.w) X.A (getItem v (.ref sl)) (EP X pins σ Q) X.xe s
noncomputable def tSl (r:V->Option Int->Option Int->Hp->VK->Prop) (te:TE) (tl th:TO):TE:=fun σ H Q=>te σ H fun x H1=>tl σ H1 fun l H2=>th σ H2 fun u H3=>r x l u H3 Q
theorem pe_slice {r:V->Option Int->Option Int->Hp->VK->Prop} (hr:SlR X r) (he:PE X e te) (hl:PO X lo tl) (hu:PO X hi th):PE X (.Subscript e (.Slice lo hi none p2) pos) (tSl r te tl th):=by
  intro pins s σ H Q I h
  refine Subscript_ (thn (he pins s σ H _ I h) fun v s1 h_q=>?_)
  obtain ⟨x,H1,I1,r1,q1⟩:=h_q
  refine wpAny_Slice (thn (hl pins s1 σ H1 _ I1 q1) fun vl s2 ⟨l,H2,I2,pl,q2⟩=>thn (hu pins s2 σ H2 _ I2 q2) fun vu s3 h_q=>?_)
  obtain ⟨u,H3,I3,pu,q3⟩:=h_q
  rw [evalPart_none]
  refine wpAny_pure ?_
  have I4:Inv X pins σ H3 { s3 with heap:=s3.heap.push { cls:=.type "slice",data:=.fields #[vl,vu,.none] } }:=I3.kept (t':=s3.toks) fun b ob q=>Heap.get?_push_of_some _ q
  obtain ⟨T,id,hT,ht,hg⟩:=hr pins { s3 with heap:=s3.heap.push { cls:=.type "slice",data:=.fields #[vl,vu,.none] } } σ H3 x v vl vu l u s3.heap.objs.size Q I4 r1 (Heap.IsSliceOf.new ..) pl pu q3
  show wpAny (model X.prog X.w) X.A (subscriptTail e (.Slice lo hi none p2) v (.ref s3.heap.objs.size)) (EP X pins σ Q) X.xe { s3 with heap:=s3.heap.push { cls:=.type "slice",data:=.fields #[vl,vu,.none] } }
  exact tail_any (ops:=[.ref s3.heap.objs.size,v]) ht hT hg (by with_unfolding_all rfl)
noncomputable def cutV (xs:List V) (lo hi:Option Int):List V:=(xs.drop (HT.sIx xs.length 0 lo)).take (HT.sIx xs.length xs.length hi - HT.sIx xs.length 0 lo)
theorem cutV_length (xs:List V) (lo hi:Option Int):(cutV xs lo hi).length<=xs.length:=by
  unfold cutV
  rw [List.length_take,List.length_drop]
  lia
noncomputable def rSlT (K:PySem.W.Frag):V->Option Int->Option Int->Hp->VK->Prop:=fun x lo hi H Q=>∃ a xs,x=.ref a/\SqT K H a xs /\
  ¬ (HT.sIx xs.length 0 lo=0/\HT.sIx xs.length xs.length hi=xs.length)/\∀ p,H p=none->Q (.ref p) (upd H p (.tup (cutV xs lo hi)))
theorem sl_tup:SlR X (rSlT X.K):=by
  intro pins s σ H x v vl vu lo hi sl Q I rx hs pl pu h
  obtain ⟨a,xs,rfl,hx,hw,q⟩:=h
  cases rx
  obtain ⟨its,r,ht,hz⟩:=I.tuple hx
  have hlen:its.toArray.size=xs.length:=by rw [List.size_toArray];exact r.length.symm
  refine ⟨"tuple",_,PyProof.Rows.slot_tuple_getitem.lookup,ht.typeIs,?_⟩
  refine HT.getItem_tuple_cut ht hs pl pu (by rw [hlen];exact hw) ?_ (by rw [hlen];exact hz)
  rw [hlen]
  refine ⟨.ref s.heap.objs.size,_,I.laid (t':=s.toks) (o:=.tup (cutV xs lo hi)) (fun b ob q=>Heap.get?_push_of_some _ q) (Nat.le_refl _) ?_,rfl,q _ (I.hok.fresh (Nat.le_refl _))⟩
  exact ⟨Nat.le_trans (cutV_length xs lo hi) hz,_,(r.drop (HT.sIx xs.length 0 lo)).take (HT.sIx xs.length xs.length hi - HT.sIx xs.length 0 lo),IsTup.new _ _⟩
noncomputable def rCatT (K:PySem.W.Frag):R2:=fun x y H Q=>∃ a b xs ys,x=.ref a/\y=.ref b/\SqT K H a xs/\SqT K H b ys/\xs≠[]/\xs.length + ys.length<=sizeLine /\
  (ys=[]->Q (.ref a) H)/\(ys≠[]->∀ p,H p=none->Q (.ref p) (upd H p (.tup (xs++ys))))
theorem Vals.nil_iff {xs:List V} {us:List Value} (r:Vals xs us):us=[] ↔ xs=[]:=by
  cases r with
  | nil=>simp
  | cons _ _=>simp
theorem op_catT:OpR X (binaryOp .Add) (rCatT X.K):=by
  intro pins s σ H x y v u Q I rx ry h
  obtain ⟨a,b,xs,ys,rfl,rfl,ha,hb,hx,hz,q1,q2⟩:=h
  cases rx
  cases ry
  obtain ⟨its,r1,p1,_⟩:=I.tuple ha
  obtain ⟨its2,r2,p2,_⟩:=I.tuple hb
  refine HT.cat_tup p1 p2 (fun z=>hx (r1.nil_iff.mp z)) (fun z=>⟨.ref a,H,I,rfl,q1 (r2.nil_iff.mp z)⟩) (fun z=>?_) (by rw [<- r1.length,<- r2.length];exact hz)
  refine ⟨.ref s.heap.objs.size,_,I.laid (t':=s.toks) (o:=.tup (xs++ys)) (fun b ob q=>Heap.get?_push_of_some _ q) (Nat.le_refl _) ?_,rfl,q2 (fun w=>z (r2.nil_iff.mpr w)) _ (I.hok.fresh (Nat.le_refl _))⟩
  exact ⟨by rw [List.length_append];exact hz,_,r1.append r2,IsTup.new _ _⟩
end
end L2
namespace L2
open PySem PySem.Spec PyProof.Rows
noncomputable def ixN (n:Nat) (i:Int):Option Nat:=if 0<=i then (if i < n then some i.toNat else none) else if -(n:Int)<=i then some (i + n).toNat else none
noncomputable def atI {α:Type} (xs:List α) (i:Int):Option α:=(ixN xs.length i).bind fun j=>xs[j]?
theorem ixN_seq {n:Nat} {i:Int} {j:Nat} (h:ixN n i=some j):seqIndex? i n=some j/\j < n/\-(n:Int)<=i/\i < n:=by
  unfold ixN at h
  by_cases h0:0<=i
  . rw [if_pos h0] at h
    by_cases h1:i < n
    . rw [if_pos h1] at h
      have e:i.toNat=j:=Option.some.inj h
      exact ⟨by rw [seqIndex_of h0 h1,e],by lia,by lia,h1⟩
    . rw [if_neg h1] at h;cases h
  . rw [if_neg h0] at h
    by_cases h1:-(n:Int)<=i
    . rw [if_pos h1] at h
      have e:(i + n).toNat=j:=Option.some.inj h
      exact ⟨by rw [seqIndex_neg (by lia) h1,e],by lia,h1,by lia⟩
    . rw [if_neg h1] at h;cases h
theorem atI_get {α:Type} {xs:List α} {i:Int} {v:α} (h:atI xs i=some v):∃ j,seqIndex? i xs.length=some j/\xs[j]? = some v/\j < xs.length/\-(xs.length:Int)<=i/\i < xs.length:=by
  unfold atI at h
  cases e:ixN xs.length i with
  | none=>rw [e] at h;cases h
  | some j =>
    rw [e] at h
    obtain ⟨h1,h2,h3,h4⟩:=ixN_seq e
    exact ⟨j,h1,h,h2,h3,h4⟩
theorem atI_nat {α:Type} {xs:List α} {j:Nat} {v:α} (h:xs[j]? = some v):atI xs (j:Int)=some v:=by
  have hj:j < xs.length:=(List.getElem?_eq_some_iff.mp h).1
  have e:ixN xs.length (j:Int)=some j:=by
    unfold ixN
    rw [if_pos (by lia),if_pos (by lia)];simp
  unfold atI;rw [e];exact h
theorem atI_last {α:Type} (xs:List α) (v:α):atI (xs++[v]) (-1)=some v:=by
  have hl:(xs++[v]).length=xs.length + 1:=by simp
  have e:ixN (xs++[v]).length (-1)=some xs.length:=by
    unfold ixN
    rw [hl,if_neg (by decide),if_pos (by lia)]
    congr 1
    lia
  unfold atI
  rw [e]
  show (xs++[v])[xs.length]? = some v
  simp
noncomputable def PlainIx (b:Expr):Prop:=∀ o i,subscripted b false o i=operate [o,i] (getItem o i)
noncomputable def IxR (X:Cx) (r:R2):Prop :=
  ∀ (value slice:Expr) (pins:List (Addr × Obj)) (s:Shared) (σ:St) (H:Hp) (x y:V) (v u:Value) (Q:VK),Inv X pins σ H s->RelV x v->RelV y u->r x y H Q ->
    subscripted slice false v u=operate [v,u] (getItem v u)->wpAny (model X.prog X.w) X.A (subscriptTail value slice v u) (EP X pins σ Q) X.xe s
noncomputable def MtR (X:Cx) (id:String) (r:V->List V->Hp->VK->Prop):Prop :=
  ∀ (pins:List (Addr × Obj)) (s:Shared) (σ:St) (H:Hp) (x:V) (xs:List V) (v:Value) (us:List Value) (Q:VK),Inv X pins σ H s->RelV x v->Vals xs us->r x xs H Q ->
    wpAny (model X.prog X.w) X.A (call (.builtin id) (v::us)) (EP X pins σ Q) X.xe s
section
variable {X:Cx} {a b:Expr} {ta tb:TE} {pos:Pos}
theorem IxR.or {r r':R2} (h:IxR X r) (h':IxR X r'):IxR X (fun x y H Q=>r x y H Q\/r' x y H Q):=by
  intro value slice pins s σ H x y v u Q I rx ry q hs
  rcases q with q | q
  . exact h value slice pins s σ H x y v u Q I rx ry q hs
  . exact h' value slice pins s σ H x y v u Q I rx ry q hs
theorem pe_ix {r:R2} (hr:IxR X r) (ha:PE X a ta) (hb:PE X b tb) (hs:PlainIx b):PE X (.Subscript a b pos) (tOp r ta tb):=by
  intro pins s σ H Q I h
  exact Subscript_ (binT ha hb I h fun v u s2 x y H2 I2 rx ry q=>hr a b pins s2 σ H2 x y v u Q I2 rx ry q (hs _ _))
noncomputable def rIxL (K:PySem.W.Frag):R2:=fun x y H Q=>∃ p xs i v,x=.ref p/\y=.int i/\SqL K H p xs/\atI xs i=some v/\Q v H
noncomputable def rIxT (K:PySem.W.Frag):R2:=fun x y H Q=>∃ p xs i v,x=.ref p/\y=.int i/\SqT K H p xs/\atI xs i=some v/\Q v H
noncomputable def rIxS:R2:=fun x y H Q=>∃ z i c,x=.str z/\y=.int i/\z.length<=sizeLine/\atI z.cps.toList i=some c/\Q (.str ⟨#[c]⟩) H
theorem ix_list:IxR X (rIxL X.K):=by
  intro value slice pins s σ H x y v u Q I rx ry h hs
  obtain ⟨p,xs,i,z,rfl,rfl,hq,he,q⟩:=h
  cases rx
  obtain ⟨t,rfl⟩:=ry
  obtain ⟨its,r,pl,hz⟩:=I.list hq
  obtain ⟨j,h1,h2,h3,h4,h5⟩:=atI_get he
  obtain ⟨w,ew,rw'⟩:=r.get h2
  have hl:=r.length
  have hn:=line63
  have fin:EP X pins σ Q w s:=⟨z,H,I,rw',q⟩
  by_cases h0:0<=i
  . have hj:i.toNat=j:=by
      rw [seqIndex_of h0 h5] at h1
      exact Option.some.inj h1
    exact item_listR pl.isList h0 (by lia) (by rw [hj];simpa using ew) fin hs
  . have hj:(i + (its.toArray.size:Int)).toNat=j:=by
      rw [seqIndex_neg (by lia) h4] at h1
      rw [List.size_toArray,<- hl]
      exact Option.some.inj h1
    exact subscriptTail_builtinR (x:=w) pl.isList.typeIs slot_list_getitem.lookup
      (wpAny_getItem_list_neg (Q:=fun r s'=>r=w/\EP X pins σ Q r s') pl.isList (by lia) (by rw [List.size_toArray] <;> lia) (by lia) (by rw [hj];simpa using ew) ⟨rfl,fin⟩) hs
theorem ix_tup:IxR X (rIxT X.K):=by
  intro value slice pins s σ H x y v u Q I rx ry h hs
  obtain ⟨p,xs,i,z,rfl,rfl,hq,he,q⟩:=h
  cases rx
  obtain ⟨t,rfl⟩:=ry
  obtain ⟨its,r,pl,hz⟩:=I.tuple hq
  obtain ⟨j,h1,h2,h3,h4,h5⟩:=atI_get he
  obtain ⟨w,ew,rw'⟩:=r.get h2
  have hl:=r.length
  have hn:=line63
  have fin:EP X pins σ Q w s:=⟨z,H,I,rw',q⟩
  exact subscriptTail_builtinR (x:=w) pl.typeIs slot_tuple_getitem.lookup
    (getItem_tuple (j:=j) (Q:=fun r s'=>r=w/\EP X pins σ Q r s') pl (by lia) (by lia) (by rw [List.size_toArray,<- hl];exact h1) (by simpa using ew) ⟨rfl,fin⟩) hs
theorem ix_str:IxR X rIxS:=by
  intro value slice pins s σ H x y v u Q I rx ry h hs
  obtain ⟨z,i,c,rfl,rfl,hz,he,q⟩:=h
  obtain ⟨t,rfl⟩:=rx
  obtain ⟨t',rfl⟩:=ry
  obtain ⟨j,h1,h2,h3,h4,h5⟩:=atI_get he
  have hl:z.cps.toList.length=z.length:=by simp [Str.length]
  rw [hl] at h1 h4 h5
  have hn:=line63
  exact tail_any (typeIs_str s z t) slot_str_getitem.lookup (getItem_str (c:=c) (by
    have e1:decide (i < -(2 ^ 63:Int))=false:=decide_eq_false (by lia)
    have e2:decide (i ≥ 2 ^ 63)=false:=decide_eq_false (by lia)
    rw [e1,e2,Bool.or_false]) (by rw [h1];simpa using h2) ⟨.str ⟨#[c]⟩,H,I.tok _,⟨_,rfl⟩,q⟩) hs
noncomputable def rIx (K:PySem.W.Frag):R2:=fun x y H Q=>rIxL K x y H Q\/rIxT K x y H Q\/rIxS x y H Q
theorem ix_seq:IxR X (rIx X.K):=ix_list.or (ix_tup.or ix_str)
theorem slice_bounds (lo hi:Option Int) (n:Nat):(sliceBounds lo hi none n).1=((HT.sIx n 0 lo:Nat):Int)/\(sliceBounds lo hi none n).2.1=((HT.sIx n n hi:Nat):Int)/\(sliceBounds lo hi none n).2.2=1:=by
  refine ⟨?_,?_,rfl⟩
  . cases lo with
    | none=>simp [sliceBounds,HT.sIx]
    | some i =>
      simp only [sliceBounds,HT.sIx,Option.getD_none,show (1:Int) > 0 by decide,if_true]
      by_cases h:i < 0
      . simp only [h,if_true] <;> lia
      . simp only [h,if_false] <;> lia
  . cases hi with
    | none=>simp [sliceBounds,HT.sIx]
    | some i =>
      simp only [sliceBounds,HT.sIx,Option.getD_none,show (1:Int) > 0 by decide,if_true]
      by_cases h:i < 0
      . simp only [h,if_true] <;> lia
      . simp only [h,if_false] <;> lia
theorem slicePick_cut (its:List Value) (lo hi:Option Int):slicePick its.toArray lo hi none=((its.drop (HT.sIx its.length 0 lo)).take (HT.sIx its.length its.length hi - HT.sIx its.length 0 lo)).toArray:=by
  obtain ⟨h1,h2,h3⟩:=slice_bounds lo hi its.toArray.size
  unfold slicePick
  rw [h1,h2,h3]
  simp only [sliceRange_one,pick_run,List.size_toArray] <;> rfl
noncomputable def rSlL (K:PySem.W.Frag):V->Option Int->Option Int->Hp->VK->Prop:=fun x lo hi H Q=>∃ a xs,x=.ref a/\SqL K H a xs/\∀ p,H p=none->Q (.ref p) (upd H p (.lst (cutV xs lo hi)))
theorem sl_list:SlR X (rSlL X.K):=by
  intro pins s σ H x v vl vu lo hi sl Q I rx hs pl pu h
  obtain ⟨a,xs,rfl,hx,q⟩:=h
  cases rx
  obtain ⟨its,r,ht,hz⟩:=I.list hx
  have hlen:=r.length
  refine ⟨"list",_,slot_list_getitem.lookup,ht.isList.typeIs,?_⟩
  refine wpAny_getItem_list_slice ht.isList hs pl pu .none (by simp) ?_ (by rw [List.size_toArray] <;> lia)
  rw [slicePick_cut,<- hlen]
  refine ⟨.ref s.heap.objs.size,_,I.laid (t':=s.toks) (o:=.lst (cutV xs lo hi)) (fun b ob q=>Heap.get?_push_of_some _ q) (Nat.le_refl _) ?_,rfl,q _ (I.hok.fresh (Nat.le_refl _))⟩
  exact ⟨Nat.le_trans (cutV_length xs lo hi) hz,_,0,(r.drop (HT.sIx xs.length 0 lo)).take (HT.sIx xs.length xs.length hi - HT.sIx xs.length 0 lo),Heap.get?_push_size _ rfl⟩
noncomputable def flatV:V->Bool
  | .non=>true
  | .bl _=>true
  | .int _=>true
  | .str _=>true
  | _=>false
noncomputable def eqV:V->V->Bool
  | .non,.non=>true
  | .bl a,.bl b=>a == b
  | .bl a,.int b=>(if a then 1 else 0) == b
  | .int a,.bl b=>a == (if b then 1 else 0)
  | .int a,.int b=>a == b
  | .str a,.str b=>a == b
  | _,_=>false
theorem eqAt_V {A:Around} {s:Shared} {y x:V} {u v:Value} (ry:RelV y u) (rx:RelV x v) (fy:flatV y=true) (fx:flatV x=true):SeqAt.EqAt A s u v (eqV y x):=by
  cases y with
  | non =>
    cases ry
    cases x with
    | non=>cases rx;exact SeqAt.EqAt.same _
    | bl b=>cases rx;exact SeqAt.EqAt.none_bool b
    | int b=>obtain ⟨t,rfl⟩:=rx;exact SeqAt.EqAt.none_int b t
    | str b=>obtain ⟨t,rfl⟩:=rx;exact SeqAt.EqAt.none_str b t
    | _=>exact absurd (show false=true from fx) Bool.false_ne_true
  | bl a =>
    cases ry
    cases x with
    | non=>cases rx;exact SeqAt.EqAt.bool_none a
    | bl b=>cases rx;exact SeqAt.EqAt.bool_bool a b
    | int b=>obtain ⟨t,rfl⟩:=rx;exact SeqAt.EqAt.bool_int a b t
    | str b=>obtain ⟨t,rfl⟩:=rx;exact SeqAt.EqAt.bool_str a b t
    | _=>exact absurd (show false=true from fx) Bool.false_ne_true
  | int a =>
    obtain ⟨t',rfl⟩:=ry
    cases x with
    | non=>cases rx;exact SeqAt.EqAt.int_none a t'
    | bl b=>cases rx;exact SeqAt.EqAt.int_bool a t' b
    | int b=>obtain ⟨t,rfl⟩:=rx;exact SeqAt.EqAt.int_int a t' b t
    | str b=>obtain ⟨t,rfl⟩:=rx;exact SeqAt.EqAt.int_str a t' b t
    | _=>exact absurd (show false=true from fx) Bool.false_ne_true
  | str a =>
    obtain ⟨t',rfl⟩:=ry
    cases x with
    | non=>cases rx;exact SeqAt.EqAt.str_none a t'
    | bl b=>cases rx;exact SeqAt.EqAt.str_bool a t' b
    | int b=>obtain ⟨t,rfl⟩:=rx;exact SeqAt.EqAt.str_int a t' b t
    | str b=>obtain ⟨t,rfl⟩:=rx;exact SeqAt.EqAt.str_str a t' b t
    | _=>exact absurd (show false=true from fx) Bool.false_ne_true
  | _=>exact absurd (show false=true from fy) Bool.false_ne_true
noncomputable def eqU (x:V) (u:Value):Bool:=match u with
  | .none=>eqV .non x
  | .bool b=>eqV (.bl b) x
  | .int i _=>eqV (.int i) x
  | .str z _=>eqV (.str z) x
  | _=>false
theorem eqU_of {x y:V} {u:Value} (r:RelV y u) (f:flatV y=true):eqU x u=eqV y x:=by
  cases y with
  | non=>cases r;rfl
  | bl b=>cases r;rfl
  | int i=>obtain ⟨t,rfl⟩:=r;rfl
  | str z=>obtain ⟨t,rfl⟩:=r;rfl
  | _=>exact absurd (show false=true from f) Bool.false_ne_true
theorem any_eqU {x:V}:∀ {xs:List V} {us:List Value},Vals xs us->xs.all flatV=true->us.any (eqU x)=xs.any fun y=>eqV y x
  | _,_,.nil,_=>rfl
  | y :: xs,u::us,.cons r t,f=>by
    rw [List.all_cons,Bool.and_eq_true] at f
    rw [List.any_cons,List.any_cons,eqU_of r f.1,any_eqU t f.2]
theorem mem_eqAt {A:Around} {s:Shared} {x:V} {v:Value} (rx:RelV x v) (fx:flatV x=true):∀ {xs:List V} {us:List Value},Vals xs us->xs.all flatV=true->∀ u∈us,SeqAt.EqAt A s u v (eqU x u)
  | _,_,.nil,_=>fun u hu=>by cases hu
  | y :: xs,u::us,.cons r t,f=>fun u' hu=>by
    rw [List.all_cons,Bool.and_eq_true] at f
    rcases List.mem_cons.mp hu with rfl | hu
    . rw [eqU_of r f.1];exact eqAt_V r rx f.1 fx
    . exact mem_eqAt rx fx t f.2 u' hu
noncomputable def inV (x:V) (xs:List V):Bool:=xs.any fun y=>eqV y x
noncomputable def rIn (K:PySem.W.Frag) (neg:Bool):R2:=fun x y H Q=>∃ p xs,y=.ref p/\(SqL K H p xs\/SqT K H p xs)/\flatV x=true/\xs.all flatV=true/\Q (.bl (if neg then !inV x xs else inV x xs)) H
theorem op_in_seq:OpR X (compareOp .In) (rIn X.K false):=by
  intro pins s σ H x y v u Q I rx ry h
  obtain ⟨p,xs,rfl,hq,fx,fs,q⟩:=h
  cases ry
  rcases hq with hq | hq
  . obtain ⟨its,r,pl,hz⟩:=I.list hq
    refine SeqAt.in_listAt (eqU x) pl.isList (fun w hw=>mem_eqAt rx fx r fs w (by simpa using hw)) ⟨.bl _,H,I,rfl,?_⟩
    rw [show its.toArray.any (eqU x)=its.any (eqU x) by simp,any_eqU r fs]
    exact q
  . obtain ⟨its,r,pl,hz⟩:=I.tuple hq
    refine SeqAt.in_tupleAt (eqU x) pl (fun w hw=>mem_eqAt rx fx r fs w (by simpa using hw)) ⟨.bl _,H,I,rfl,?_⟩
    rw [show its.toArray.any (eqU x)=its.any (eqU x) by simp,any_eqU r fs]
    exact q
theorem call_len_seq:CallR X (.builtin "len") (fun xs H Q=>∃ p ys,xs=[.ref p]/\(SqL X.K H p ys\/SqT X.K H p ys)/\Q (.int ys.length) H):=by
  intro pins s σ H xs us Q I r h
  obtain ⟨p,ys,rfl,hq,q⟩:=h
  obtain ⟨u,rfl,rx⟩:=vals1 r
  cases rx
  have hn:=line63
  rcases hq with hq | hq
  . obtain ⟨its,r',pl,hz⟩:=I.list hq
    have hlen:=r'.length
    exact Calls.call_len_list pl.isList (by simp only [List.size_toArray] <;> lia) ⟨.int ys.length,H,I.tok _,⟨s.toks + 1,by rw [List.size_toArray,hlen]⟩,q⟩
  . obtain ⟨its,r',pl,hz⟩:=I.tuple hq
    have hlen:=r'.length
    exact len_tuple pl (by simp only [List.size_toArray] <;> lia) ⟨.int ys.length,H,I.tok _,⟨s.toks + 1,by rw [List.size_toArray,hlen]⟩,q⟩
theorem call_len_str:CallR X (.builtin "len") (fun xs H Q=>∃ z,xs=[.str z]/\z.length<=sizeLine/\Q (.int z.length) H):=by
  intro pins s σ H xs us Q I r h
  obtain ⟨z,rfl,hz,q⟩:=h
  obtain ⟨u,rfl,t,rfl⟩:=vals1 r
  have hn:=line63
  exact len_str (by lia) ⟨.int z.length,H,I.tok _,⟨_,rfl⟩,q⟩
theorem CallR.or {f:Value} {r r':List V->Hp->VK->Prop} (h:CallR X f r) (h':CallR X f r'):CallR X f (fun xs H Q=>r xs H Q\/r' xs H Q):=by
  intro pins s σ H xs us Q I rs q
  rcases q with q | q
  . exact h pins s σ H xs us Q I rs q
  . exact h' pins s σ H xs us Q I rs q
theorem call_list_of:CallR X (.type "list") (fun xs H Q=>∃ p ys,xs=[.ref p]/\(SqL X.K H p ys\/SqT X.K H p ys)/\∀ l,H l=none->Q (.ref l) (upd H l (.lst ys))):=by
  intro pins s σ H xs us Q I r h
  obtain ⟨p,ys,rfl,hq,q⟩:=h
  obtain ⟨u,rfl,rx⟩:=vals1 r
  cases rx
  have fin:∀ (its:List Value),Vals ys its->ys.length<=sizeLine->∀ (h':Heap) (c':Nat),(∀ b o',s.heap.get? b=some o'->h'.get? b=some o') ->
      h'.get? s.heap.objs.size=some { cls:=.type "list",dict:=none,data:=.seq its.toArray c',slots:=#[] }->EP X pins σ Q (.ref s.heap.objs.size) { s with heap:=h' }:=fun its r' hz h' c' kp e =>
    ⟨.ref s.heap.objs.size,_,I.laid (t':=s.toks) kp (Nat.le_refl _) (show ObjOk X.prog X.w _ h' _ (.lst ys) from ⟨hz,its,c',r',e⟩),rfl,q _ (I.hok.fresh (Nat.le_refl _))⟩
  rcases hq with hq | hq
  . obtain ⟨its,r',pl,hz⟩:=I.list hq
    have hlen:=r'.length
    obtain ⟨o,ho,hc,n,hd⟩:=pl.isList
    exact call_list_seq p (.inl rfl) ho hc hd (fun h' c' kp e=>fin its r' hz h' c' kp e) (by simp only [List.size_toArray] <;> lia)
  . obtain ⟨its,r',pl,hz⟩:=I.tuple hq
    have hlen:=r'.length
    obtain ⟨o,ho,hc,n,hd⟩:=pl
    exact call_list_seq p (.inr rfl) ho hc hd (fun h' c' kp e=>fin its r' hz h' c' kp e) (by simp only [List.size_toArray] <;> lia)
noncomputable def tyV (K:PySem.W.Frag) (T:String) (x:V) (H:Hp):Prop:=match x with
  | .str _=>T="str"
  | .int _=>T="int"
  | .ref p=>(T="list"/\∃ xs,SqL K H p xs)\/(T="tuple"/\∃ o,K.lookup p=some o/\o.cls=.type "tuple"/\o.dict=none) \/
      (T="dict"/\((∃ kvs,H p=some (.dK kvs))\/∃ kvs,H p=some (.dT kvs)))\/(T="set"/\∃ S n,H p=some (.set S n))
  | _=>False
theorem tyV_is {pins:List (Addr × Obj)} {σ:St} {H:Hp} {s:Shared} {T:String} {x:V} {v:Value} (I:Inv X pins σ H s) (r:RelV x v) (ty:tyV X.K T x H) :
    s.TypeIs v T/\∀ a,v=.ref a->∃ ob,s.heap.get? a=some ob/\ob.dict=none:=by
  cases x with
  | str z =>
    obtain ⟨t,rfl⟩:=r
    cases (show T="str" from ty)
    exact ⟨typeIs_str s z t,fun _ e=>nomatch e⟩
  | int i =>
    obtain ⟨t,rfl⟩:=r
    cases (show T="int" from ty)
    exact ⟨typeIs_int s i t,fun _ e=>nomatch e⟩
  | ref p =>
    cases r
    rcases ty with ⟨rfl,xs,hq⟩ | ⟨rfl,o,hk,hc,hd⟩ | ⟨rfl,hk⟩ | ⟨rfl,S,n,hk⟩
    . obtain ⟨its,_,pl,_⟩:=I.list hq
      refine ⟨pl.isList.typeIs,fun a e=>?_⟩
      cases e
      obtain ⟨o,n,e,c,hd,_⟩:=pl
      exact ⟨o,e,hd⟩
    . refine ⟨⟨o,I.kIn p o hk,hc⟩,fun a e=>?_⟩
      cases e
      exact ⟨o,I.kIn _ o hk,hd⟩
    . have z:∃ o,s.heap.get? p=some o/\o.ExactDict:=by
        rcases hk with ⟨kvs,hk⟩ | ⟨kvs,hk⟩
        . obtain ⟨_,_,_,_,o,_,_,e,ex,_⟩:=I.hok p _ hk
          exact ⟨o,e,ex⟩
        . obtain ⟨_,_,_,_,o,_,_,e,ex,_⟩:=I.hok p _ hk
          exact ⟨o,e,ex⟩
      obtain ⟨o,e,ex⟩:=z
      refine ⟨⟨o,e,ex.1⟩,fun a e2=>?_⟩
      cases e2
      exact ⟨o,e,ex.2.1⟩
    . obtain ⟨o,_,_,_,e,ex,_⟩:=I.hok p _ hk
      refine ⟨⟨o,e,ex.1⟩,fun a e2=>?_⟩
      cases e2
      exact ⟨o,e,ex.2.1⟩
  | _=>exact False.elim ty
noncomputable def tBM0 (K:PySem.W.Frag) (T:String) (r:V->List V->Hp->VK->Prop) (to:TE):TE:=fun σ H Q=>to σ H fun x H1=>tyV K T x H1/\r x [] H1 Q
noncomputable def tBM (K:PySem.W.Frag) (T:String) (r:V->List V->Hp->VK->Prop) (to:TE) (t:TA):TE:=fun σ H Q=>to σ H fun x H1=>tyV K T x H1/\t σ H1 fun xs H2=>r x xs H2 Q
variable {o e:Expr} {es:List Expr} {to:TE} {t:TA} {name:Str} {apos cpos:Pos} {T id:String} {r:V->List V->Hp->VK->Prop}
theorem pe_bm0 (pa:PlainAttrs T) (slot:Slot T name id) (hty:typeOf (.builtin id)=pure (.type "method_descriptor")) (hm:MtR X id r) (ho:PE X o to)
    (hbase:attributeBase o name X.env (eval o X.env)=eval o X.env:=by rfl) (hline:(apos.endLine == cpos.line)=true:=by rfl):PE X (.Call (.Attribute o name apos) [] [] cpos) (tBM0 X.K T r to):=by
  intro pins s σ H Q I h
  refine wpAny_Call_method0_late hbase hline (thn (ho pins s σ H _ I h) fun v s1 h_q=>?_)
  obtain ⟨x,H1,I1,r1,ty,q1⟩:=h_q
  obtain ⟨h1,h2⟩:=tyV_is I1 r1 ty
  exact ⟨T,id,pa,slot,hty,h1,h2,Calls.callWith_builtin rfl (PySem.evalArgs_none (hm pins s1 σ H1 x [] v [] Q I1 r1 .nil q1))⟩
theorem pe_bm (pa:PlainAttrs T) (slot:Slot T name id) (hty:typeOf (.builtin id)=pure (.type "method_descriptor")) (hm:MtR X id r) (ho:PE X o to) (ha:PA X (e::es) t)
    (hbase:attributeBase o name X.env (eval o X.env)=eval o X.env:=by rfl)
    (hfew:((backTo cpos (starEach (e::es) X.env)).all (fun x=>!x.1) && (backToKw cpos (keywordEach [] X.env)).all (fun x=>x.1.isSome)
      && decide ((e::es).length + ([]:List Keyword).length + (if ([]:List Keyword).isEmpty then 0 else 1) < 30))=true:=by rfl)
    (hline:(apos.endLine == cpos.line)=true:=by rfl) (hs:starEach (e::es) X.env=(false,eval e X.env)::starEach es X.env:=by rfl) (hplain:(backTo cpos (starEach es X.env)).any (·.1)=false:=by rfl) :
    PE X (.Call (.Attribute o name apos) (e::es) [] cpos) (tBM X.K T r to t):=by
  intro pins s σ H Q I h
  refine wpAny_Call_method_late hbase hfew hline rfl (thn (ho pins s σ H _ I h) fun v s1 h_q=>?_)
  obtain ⟨x,H1,I1,r1,ty,q1⟩:=h_q
  obtain ⟨h1,h2⟩:=tyV_is I1 r1 ty
  refine ⟨T,id,pa,slot,hty,h1,h2,?_⟩
  have hA:=ha cpos pins s1 σ H1 _ I1 q1
  rw [hs] at hA ⊢
  refine Calls.callWith_builtin (by show (false || (backTo cpos (starEach es X.env)).any (·.1))=false;rw [hplain] <;> rfl) (Calls.evalArgs_plain ?_)
  exact thn hA fun us s2 ⟨vs,H2,I2,r2,q2⟩=>hm pins s2 σ H2 x vs v us Q I2 r1 r2 q2
end
end L2
namespace L2
open PySem PySem.Spec PyProof.Rows
noncomputable def MtM (X:Cx) (id:String) (r:V->List V->Hp->VK->Prop):Prop :=
  ∀ (pins:List (Addr × Obj)) (s:Shared) (σ:St) (H:Hp) (x:V) (xs:List V) (v:Value) (us:List Value) (Q:VK),Inv X pins σ H s->RelV x v->Vals xs us->r x xs H Q ->
    wpAny (model X.prog X.w) X.A (call (.builtin id) (v::us)) (EP X pins σ Q) X.xe s
theorem Vals.one:∀ {x:V} {us:List Value},Vals [x] us->∃ u,us=[u]/\RelV x u
  | _,_,.cons r .nil=>⟨_,rfl,r⟩
theorem Vals.two:∀ {x y:V} {us:List Value},Vals [x,y] us->∃ u v,us=[u,v]/\RelV x u/\RelV y v:=by
  intro x y us h
  cases h with
  | cons r h=>cases h with | cons q h=>cases h;exact ⟨_,_,rfl,r,q⟩
theorem Vals.zero:∀ {us:List Value},Vals [] us->us=[]
  | _,.nil=>rfl
theorem Vals.dropLast {xs:List V} {us:List Value} (h:Vals xs us):Vals xs.dropLast us.dropLast:=by
  induction h with
  | nil=>exact .nil
  | cons r t ih =>
    cases t with
    | nil=>exact .nil
    | cons q t'=>exact .cons r ih
theorem Vals.eraseIdx:∀ {xs:List V} {us:List Value} (i:Nat),Vals xs us->Vals (xs.eraseIdx i) (us.eraseIdx i)
  | _,_,_,.nil=>.nil
  | _,_,0,.cons _ t=>t
  | _,_,i + 1,.cons r t=>.cons r (Vals.eraseIdx i t)
theorem Vals.rep {xs:List V} {us:List Value} (h:Vals xs us):∀ k:Nat,Vals (List.replicate k xs).flatten (List.replicate k us).flatten
  | 0=>.nil
  | k + 1=>by
    rw [List.replicate_succ,List.replicate_succ,List.flatten_cons,List.flatten_cons]
    exact Vals.append h (Vals.rep h k)
theorem erase_last {α:Type} (l:List α):l.eraseIdx (l.length - 1)=l.dropLast:=by
  induction l with
  | nil=>rfl
  | cons a r ih =>
    cases r with
    | nil=>rfl
    | cons b r =>
      have e:(a::b::r).length - 1=((b::r).length - 1) + 1:=by
        have h1:(a::b::r).length=r.length + 2:=rfl
        have h2:(b::r).length=r.length + 1:=rfl
        lia
      rw [e,List.eraseIdx_cons_succ,ih]
      all_goals rfl
theorem len_erase {α:Type}:∀ (l:List α) (i:Nat),(l.eraseIdx i).length<=l.length
  | [],_=>Nat.le_refl _
  | _::_,0=>Nat.le_succ _
  | _::r,i + 1=>Nat.succ_le_succ (len_erase r i)
theorem foldl_rep (its:List Value):∀ (k:Nat) (acc:List Value),
    List.foldl (fun x1 x2=>x1++x2) acc.toArray (List.replicate k its.toArray)=(acc++(List.replicate k its).flatten).toArray
  | 0,acc=>by simp
  | k + 1,acc=>by
    have e:acc.toArray++its.toArray=(acc++its).toArray:=by simp
    have e2:(acc++its)++(List.replicate k its).flatten=acc++(List.replicate (k + 1) its).flatten:=by
      rw [List.replicate_succ,List.flatten_cons,List.append_assoc]
    rw [<- e2,<- foldl_rep its k (acc++its),<- e,List.replicate_succ,List.foldl_cons]
section
variable {X:Cx} {pins:List (Addr × Obj)} {σ:St} {H:Hp} {s:Shared} {l b:Addr} {xs ys zs:List V}
theorem Inv.lset {its its':List Value} {n:Nat} {f:Array Value->Array Value} {t':Nat} (I:Inv X pins σ H s) (hH:H l=some (.lst xs))
    (e:s.heap.get? l=some { cls:=.type "list",data:=.seq its.toArray n }) (hf:f its.toArray=its'.toArray) (hv:Vals ys its') (hz:ys.length<=sizeLine) :
    Inv X pins σ (upd H l (.lst ys)) { s with heap:=s.heap.update l (Obj.mapSeq f),toks:=t' }:=by
  have q:=PySem.IsL.update e f
  rw [hf] at q
  refine I.write (x:=l) (e:=l) (by rw [hH];exact trivial) (.inl rfl) (fun b' u hb hu=>(Heap.get?_update_other s.heap (Obj.mapSeq f) (Ne.symm hb)).trans hu) ⟨_,q⟩ ?_
  exact ⟨hz,its',_,hv,q⟩
theorem Inv.lnew {its:List Value} {t':Nat} (I:Inv X pins σ H s) (hv:Vals ys its) (hz:ys.length<=sizeLine) :
    Inv X pins σ (upd H s.heap.objs.size (.lst ys)) { s with heap:=s.heap.push { cls:=.type "list",data:=.seq its.toArray },toks:=t' } :=
  I.laid (fun _ _ q=>Heap.get?_push_of_some _ q) (Nat.le_refl _) ⟨hz,its,0,hv,Heap.get?_push_size _ rfl⟩
theorem Inv.fresh (I:Inv X pins σ H s):H s.heap.objs.size=none:=I.hok.fresh (Nat.le_refl _)
theorem Inv.lstM (I:Inv X pins σ H s) (hH:H l=some (.lst xs)):xs.length<=sizeLine/\∃ (its:List Value) (n:Nat),Vals xs its/\xs.length=its.length/\s.heap.get? l=some { cls:=.type "list",data:=.seq its.toArray n }:=by
  obtain ⟨z,its,n,r,e⟩:=I.hok l _ hH
  exact ⟨z,its,n,r,r.length,e⟩
theorem notLongL {n:Nat} (h:n<=sizeLine):Builtin.List.listTooLong n=false:=by
  unfold Builtin.List.listTooLong
  exact decide_eq_false (by lia)
end
section
variable {X:Cx}
noncomputable def rAppend:V->List V->Hp->VK->Prop:=fun x vs H Q=>∃ l xs y,x=.ref l/\vs=[y]/\H l=some (.lst xs)/\xs.length < sizeLine/\Q .non (upd H l (.lst (xs++[y])))
theorem mt_append:MtM X "list.append" rAppend:=by
  intro pins s σ H x vs v us Q I rx rv h
  obtain ⟨l,xs,y,rfl,rfl,hH,hz,q⟩:=h
  cases rx
  obtain ⟨u,rfl,ru⟩:=rv.one
  obtain ⟨z,its,n,r,hl,e⟩:=I.lstM hH
  refine call_meets F.slot_list_append ⟨_,e,rfl⟩ F.entry_list_append (F.args_list_append_2 _ _) (PySem.list_append l its.toArray n u (by rw [List.size_toArray];lia)) ⟨e,?_⟩
  refine ⟨.non,_,I.lset (its':=its++[u]) hH e (by simp) (r.append (.cons ru .nil)) ?_,rfl,q⟩
  rw [List.length_append,List.length_singleton]
  lia
noncomputable def rPop:V->List V->Hp->VK->Prop:=fun x vs H Q=>∃ l xs y,x=.ref l/\vs=[]/\H l=some (.lst xs)/\xs[xs.length - 1]? = some y/\Q y (upd H l (.lst xs.dropLast))
theorem mt_pop:MtM X "list.pop" rPop:=by
  intro pins s σ H x vs v us Q I rx rv h
  obtain ⟨l,xs,y,rfl,rfl,hH,hy,q⟩:=h
  cases rx
  have hus:=rv.zero
  subst hus
  obtain ⟨z,its,n,r,hl,e⟩:=I.lstM hH
  obtain ⟨u,hu,ru⟩:=r.get hy
  have hy':its.toArray[its.toArray.size - 1]? = some u:=by
    show its.toArray[its.length - 1]? = some u
    rw [<- Array.getElem?_toList,<- hl]
    exact hu
  refine call_meets F.slot_list_pop ⟨_,e,rfl⟩ F.entry_list_pop (F.args_list_pop_1 _) (MeetsSeq.list_pop_last l its.toArray n u hy' (by rw [List.size_toArray];lia)) ⟨e,?_⟩
  refine ⟨y,_,I.lset (its':=its.dropLast) hH e ?_ r.dropLast ?_,ru,q⟩
  . show its.toArray.eraseIdxIfInBounds (its.toArray.size - 1)=its.dropLast.toArray
    rw [List.size_toArray,List.eraseIdxIfInBounds_toArray,erase_last]
  . rw [List.length_dropLast]
    lia
noncomputable def rPopAt:V->List V->Hp->VK->Prop:=fun x vs H Q=>∃ l xs i k y,x=.ref l/\vs=[.int i]/\H l=some (.lst xs)/\-(2 ^ 63)<=i/\i < 2 ^ 63/\seqIndex? i xs.length=some k/\xs[k]? = some y/\Q y (upd H l (.lst (xs.eraseIdx k)))
theorem mt_popAt:MtM X "list.pop" rPopAt:=by
  intro pins s σ H x vs v us Q I rx rv h
  obtain ⟨l,xs,i,k,y,rfl,rfl,hH,h1,h2,hk,hy,q⟩:=h
  cases rx
  obtain ⟨u,rfl,ru⟩:=rv.one
  obtain ⟨t,rfl⟩:=ru
  obtain ⟨z,its,n,r,hl,e⟩:=I.lstM hH
  obtain ⟨w,hw,rw'⟩:=r.get hy
  refine call_meets F.slot_list_pop ⟨_,e,rfl⟩ F.entry_list_pop (F.args_list_pop_2 _ _)
    (MeetsSeq.list_pop_at l its.toArray n i t k w (fitsIndex_both h1 h2) (by rw [List.size_toArray,<- hl];exact hk) (by rw [<- Array.getElem?_toList];exact hw) (by rw [List.size_toArray];lia)) ⟨e,?_⟩
  refine ⟨y,_,I.lset (its':=its.eraseIdx k) hH e ?_ (r.eraseIdx k) ?_,rw',q⟩
  . show its.toArray.eraseIdxIfInBounds k=(its.eraseIdx k).toArray
    rw [List.eraseIdxIfInBounds_toArray]
  . have:=len_erase xs k
    lia
noncomputable def rCat:R2:=fun x y H Q=>∃ l b xs zs,x=.ref l/\y=.ref b/\H l=some (.lst xs)/\H b=some (.lst zs)/\xs.length + zs.length<=sizeLine/\∀ p,H p=none->Q (.ref p) (upd H p (.lst (xs++zs)))
noncomputable def rRep:R2:=fun x y H Q=>∃ l k xs,x=.ref l/\y=.int k/\H l=some (.lst xs)/\-(2 ^ 63)<=k/\k < 2 ^ 63/\xs.length * k.toNat<=sizeLine /\
  ∀ p,H p=none->Q (.ref p) (upd H p (.lst (List.replicate k.toNat xs).flatten))
theorem len_rep {α:Type} (xs:List α) (k:Nat):(List.replicate k xs).flatten.length=k * xs.length:=by
  induction k with
  | zero=>simp
  | succ k ih=>rw [List.replicate_succ,List.flatten_cons,List.length_append,ih,Nat.succ_mul,Nat.add_comm]
theorem op_rep:OpR X (binaryOp .Mult) rRep:=by
  intro pins s σ H x y v u Q I rx ry h
  obtain ⟨l,k,xs,rfl,rfl,hH,h1,h2,hz,q⟩:=h
  cases rx
  obtain ⟨t,rfl⟩:=ry
  obtain ⟨z,its,n,r,hl,e⟩:=I.lstM hH
  have hlen:its.toArray.size * k.toNat<=sizeLine:=by rw [List.size_toArray,<- hl];exact hz
  have hcap:¬ its.toArray.size * k.toNat > (2 ^ 63 - 1) / 8:=by
    have:(sizeLine:Nat)<=(2 ^ 63 - 1) / 8:=by decide
    lia
  have hfit:¬ (!Builtin.List.listFitsIndex k)=true:=by
    rw [fitsIndex_both h1 h2]
    exact Bool.false_ne_true
  have hlong:¬ Builtin.List.listTooLong (its.toArray.size * k.toNat)=true:=by
    rw [notLongL hlen]
    exact Bool.false_ne_true
  have hnew:List.foldl (fun x1 x2=>x1++x2) #[] (List.replicate (if its.toArray.isEmpty=true then 0 else k.toNat) its.toArray)=(List.replicate k.toNat its).flatten.toArray:=by
    have f0:∀ m:Nat,List.foldl (fun x1 x2=>x1++x2) #[] (List.replicate m its.toArray)=(List.replicate m its).flatten.toArray:=fun m=>by
      have:=foldl_rep its m []
      rw [List.nil_append] at this
      exact this
    rw [f0]
    cases its with
    | nil=>simp
    | cons a r'=>rw [if_neg (by simp)]
  refine wpAny_binaryOp_repeat_ref (T:="list") (U:="int") (by decide) ⟨_,e,rfl⟩ (fun s'=>typeIs_int s' k t) noFill_list_mul F.fills_int_mul F.slot_int_rmul repeat_list F.slot_int_index.lookup
    (call_meets F.slot_int_rmul (typeIs_int s k t) F.entry_int_rmul (F.args_int_rmul_2 _ _) (int___rmul___int_list k t l its.toArray n)
      ⟨e,rfl,⟨_,e,rfl⟩,call_meets F.slot_list_mul ⟨_,e,rfl⟩ F.entry_list_mul (F.args_list_mul_2 _ _) (AutoListH.list___mul___list_int_3 l its.toArray n k t hfit hcap hlong) ⟨e,?_⟩⟩)
  rw [hnew]
  exact ⟨.ref _,_,I.lnew (t':=s.toks) (r.rep k.toNat) (by rw [len_rep,Nat.mul_comm];exact hz),rfl,q _ I.fresh⟩
end
end L2
namespace Att
open PySem PySem.W PySem.Calls PyProof.Rows
theorem ints_of_wellAll {P:Params} {h:Heap}:∀ (ns:List Int) (vs:List Value),WellAll P h vs (ns.map WData.int)->IntsAre vs ns:=by
  intro ns
  induction ns with
  | nil =>
    intro vs w
    rw [List.map_nil] at w
    cases w
    exact .nil
  | cons n ns ih =>
    intro vs w
    rw [List.map_cons] at w
    cases w with
    | cons a b =>
      cases a
      exact .cons _ _ (ih _ b)
theorem script_of {l:OpenLaw} {n:Nat} (hn:l.most=some n) {P:Params} {h:Heap} {args:List WData} {vals:List Value}
    (hpre:l.row.toRowW.claim.pre args=true) (hwl:WellAll P h vals args) :
    ∃ a vs ns,vals=[Value.ref a]/\args=[WData.list (ns.map WData.int)]/\h.get? a=some { cls:=.type "list",data:=.seq vs.toArray }/\IntsAre vs ns/\ns.length<=n:=by
  have hsh:WShape.hasAll [] args [.list .int]=true:=(pre_splitW hpre).1
  have hc:l.pre.holds [] { args:=args }=true:=(pre_splitW hpre).2
  obtain ⟨d,r,rfl,h1,h2⟩:=hasAllW_cons hsh
  obtain rfl:=hasAllW_nil h2
  obtain ⟨xs,rfl,h3⟩:=hasW_list h1
  obtain ⟨ns,rfl⟩:=items_int h3
  have hlen:ns.length<=n:=by
    unfold OpenLaw.pre at hc
    have h4:(WTm.not (.lt (.lit (.int (n:Int))) (.len (.arg 0)))).holds [] { args:=[.list (ns.map .int)] }=true:=by
      have h4:=(holds_andW hc).1
      rw [hn] at h4
      exact h4
    have h5:=condW_of h4 (w_not (w_lt w_lit (w_len_list (w_arg rfl))))
    rw [List.length_map] at h5
    refine Nat.le_of_not_lt fun q=>?_
    have q':(n:Int) < ((ns.length:Nat):Int):=by lia
    first
      | (rw [decide_eq_true q'] at h5;exact absurd h5 (by decide))
      | (simp at h5;lia)
  cases hwl with
  | cons w1 w2 =>
    cases w2
    cases w1 with
    | list ho hall=>exact ⟨_,_,ns,rfl,rfl,ho,ints_of_wellAll ns _ hall,hlen⟩
theorem post_true (l:OpenLaw) (args:List WData):l.row.toRowW.claim.post args (.bool true) args=true :=
  postW_of (r:=l.row.toRowW) (X:=(true == true))
    (show WShape.has [] (.bool true) .bool=true by first | rfl | decide | simp [WShape.has,WShape.arms,WShape.armsAll])
    (show (WTm.eq .res (.lit (.bool true))).value [] { args:=args,res:=some (.bool true),after:=args }=some (.bool (true == true)) from w_eq_bool (w_res rfl) w_lit) rfl
theorem attach_call {l:OpenLaw} {n:Nat} {q:Program} {loose:List Str} {XP:(Str->Option Value)->Heap->Prop} {YP:World->Heap->Prop} {d:DefRec}
    (hn:l.most=some n) (hdf:d.params.defaults=[])
    (call:∀ (w:World) (s₀ s₁:Shared) (mg mb:Str->Option Value) (fa:Addr) (o:Obj) (pm cd doc:Value) (a:Addr) (vs:List Value) (ns:List Int),
      Ground q loose [] XP w s₀ mg mb s₁.heap->YP w s₁.heap ->
      s₁.heap.get? fa=some o->o.data=.func (docDef d.name d.params d.body d.scope pm cd doc)->s₁.heap.CodeRec cd d.name->mg d.name=some (.ref fa) ->
      s₁.heap.get? a=some { cls:=.type "list",data:=.seq vs.toArray }->IntsAre vs ns->ns.length<=n->s₁.gens=#[] ->
      codeAny (model l.prog w) callerA (.call (.ref fa) ⟨[.ref a],[]⟩) (fun r s'=>r=.ok (.ret (.bool true))/\OldK s₁.heap s'.heap/\s'.os=s₁.os/\AllBare s'.gens) s₁) :
    WalkO q loose XP YP l.row.toRowW d [] (fun f vs=>PySem.call f vs):=by
  intro w s₀ s₁ mg mb G Y fa o pm cd doc dV kV ho hd hcd hD hmg hg args vals as hpre hlay hrd hwl hlo
  obtain rfl:dV=.none:=Dflts.none hD hdf
  obtain rfl:kV=.none:=Dflts.noKw hD
  obtain ⟨a,vs,ns,rfl,rfl,hobj,hints,hlen⟩:=script_of hn hpre hwl
  refine enter_call (codeAny_mono (call w s₀ s₁ mg mb fa o pm cd doc a vs ns G Y ho (fd_plain hd) hcd hmg hobj hints hlen hg) fun r s' hq=>?_)
  obtain ⟨rfl,h2,h3,h4⟩:=hq
  exact ⟨.inl ⟨.bool true,.bool true,[],rfl,fun _=>rfl,.bool true,post_true l _,fun _=>⟨List.Pairwise.nil,fun _ hm=>(nomatch hm)⟩⟩,h2,h3,h4⟩
end Att
namespace L2
open PySem PySem.Spec PyProof.Rows
theorem vals_ints:∀ {vs:List Value} {ns:List Int},IntsAre vs ns->Vals (ns.map V.int) vs
  | _,_,.nil=>.nil
  | _,_,.cons n t h=>.cons ⟨t,rfl⟩ (vals_ints h)
noncomputable def Only (H:Hp):Prop:=∀ b,H b=none\/∃ o xs,H b=some (.frz o (.lst xs))
theorem law_call {P:Program} {w:World} {K:PySem.W.Frag} {mg mb:Str->Option Value} {CX:CXT} {k:Nat} {fa a:Addr} {fd:FuncData} {x:Str} {sp:Sp} {s₁:Shared} {vs:List Value} {ns:List Int}
    (KX:K.In s₁.heap) (hns:s₁.heap.Ns mainGlobals mg) (hb:s₁.heap.Ns builtinsNs mb) (hbb:∀ x:Str,x≠"__name__"->mb x=bootBuiltins x) (hlim:s₁.heap.NoLimit) (hg:s₁.gens=#[])
    (ha:s₁.heap.get? a=some { cls:=.type "list",data:=.seq vs.toArray }) (hi:IntsAre vs ns) (hl:ns.length<=sizeLine) (hr:Room k callerA)
    (F:∀ base:Heap,K.In base->base.Ns mainGlobals mg->FnOk P w K mg base CX k fa fd [x] sp) (hbind:∀ (s:Shared) (u:Value),BindsTo s fd ⟨[u],[]⟩ [(x,u)])
    (hsp:∀ H:Hp,Only H->SqL K H a (ns.map V.int)->sp [.ref a] H (fun v _=>v=.bl true) fun _ _ _=>False)
    (hCX:∀ H e s',CX [] H s₁ (fun _ _ _=>False) e s'->False) :
    codeAny (model P w) callerA (.call (.ref fa) ⟨[.ref a],[]⟩) (fun r s'=>r=.ok (.ret (.bool true))/\OldK s₁.heap s'.heap/\s'.os=s₁.os/\AllBare s'.gens) s₁:=by
  have rv:=vals_ints hi
  have lenV:=hi.length
  have core : ∀ H:Hp,Only H->SqL K H a (ns.map V.int)->HOk P w H s₁.heap->(∀ b,H b≠none->b=a)->(H a≠none->K.lookup a=none) ->
      codeAny (model P w) callerA (.call (.ref fa) ⟨[.ref a],[]⟩) (fun r s'=>r=.ok (.ret (.bool true))/\OldK s₁.heap s'.heap/\s'.os=s₁.os/\AllBare s'.gens) s₁:=by
    intro H hO hS hok hA hK
    have base_of:∀ {b:Addr} {o:Obj},s₁.heap.get? b=some o->H b=none->(hidT s₁.heap H).get? b=some o:=fun e n=>hidT_get e n
    have noA:∀ {b:Addr} {o:Obj} {es:Array DictEntry} {ep:Nat},s₁.heap.get? b=some o->o.data=.dict es ep->H b=none:=fun {b o es ep} e d=>by
      cases q:H b with
      | none=>rfl
      | some u =>
        have e':b=a:=hA b (by rw [q];simp)
        subst e'
        rw [ha] at e;cases e
        have d':Data.seq vs.toArray _=Data.dict es ep:=d
        cases d'
    have nsK:∀ {b:Addr} {m:Str->Option Value},s₁.heap.Ns b m->(hidT s₁.heap H).Ns b m:=fun {b m} ⟨o,es,ep,e,d,r⟩=>⟨o,es,ep,base_of e (noA e d),d,r⟩
    have hKb:K.In (hidT s₁.heap H):=fun b o e=>base_of (KX b o e) (by
      cases q:H b with
      | none=>rfl
      | some u =>
        have e':b=a:=hA b (by rw [q];simp)
        subst e'
        rw [hK (by rw [q];simp)] at e;cases e)
    have hM:Mod K mg (hidT s₁.heap H):=⟨hKb,nsK hns,⟨mb,nsK hb,hbb⟩,let ⟨mc,h1,h2⟩:=hlim;⟨mc,nsK h1,h2⟩⟩
    have e0:Env0 P w K mg (hidT s₁.heap H) callerA [] s₁ H:=⟨rfl,hM,fun b o e=>of_hidT e,Nat.le_of_eq (hidT_size _ _),trivial,fun b hb=>absurd (show b∈([]:List Addr) from hb) (by simp),hok,.of_eq hg⟩
    refine codeAny_mono ((F _ hKb (nsK hns)).run callerA [] s₁ H ⟨[.ref a],[]⟩ [.ref a] [.ref a] _ _ hr e0 (hbind s₁ (.ref a)) (.cons rfl .nil) (hsp H hO hS)) fun r s' h=>?_
    cases r with
    | error e=>exact (hCX H e s' h).elim
    | ok fl =>
      cases fl with
      | next=>exact False.elim h
      | brk=>exact False.elim h
      | cont=>exact False.elim h
      | ret u =>
        obtain ⟨v,H',os,bare,un,hok',r',q⟩:=h
        have q':v=.bl true:=q
        subst q'
        obtain rfl:u=Value.bool true:=r'
        refine ⟨rfl,OldK.of_keep fun b o e=>?_,os,bare⟩
        cases q:H b with
        | none=>exact un.keep b o e q (by intro z;exact absurd (show b∈([]:List Addr) from z) (by simp)) (by simp)
        | some u =>
          rcases hO b with z | ⟨ob,xs,z⟩
          . rw [q] at z;cases z
          . have z2:=un.frzs b ob _ z
            obtain ⟨e1,_⟩:=hok b _ z
            obtain ⟨e2,_⟩:=hok' b _ z2
            rw [e] at e1;cases e1
            exact e2
  cases hk:K.lookup a with
  | some o =>
    have e:=KX a o hk
    rw [ha] at e
    cases e
    refine core (fun _=>none) (fun _=>.inl rfl) (.inr ⟨_,vs.toArray,_,hk,rfl,rfl,rfl,by rw [List.size_toArray,lenV];exact hl,by simpa using rv⟩) (fun b u z=>by have z':(none:Option HO)=some u:=z;cases z') (fun b z=>absurd rfl z) fun z=>absurd rfl z
  | none =>
    refine core (fun b=>if b=a then some (.frz { cls:=.type "list",data:=.seq vs.toArray } (.lst (ns.map V.int))) else none) (fun b=>?_) (.inl (.inr ⟨{ cls:=.type "list",data:=.seq vs.toArray },if_pos rfl⟩)) (fun b u z=>?_) (fun b z=>?_) fun _=>hk
    . by_cases hb:b=a
      . exact .inr ⟨_,_,if_pos hb⟩
      . exact .inl (if_neg hb)
    . by_cases hb:b=a
      . have z':=(if_pos hb).symm.trans z
        cases z'
        subst hb
        exact ⟨ha,by rw [List.length_map];exact hl,vs,_,rv,ha⟩
      . have z':=(if_neg hb).symm.trans z
        cases z'
    . by_cases hb:b=a
      . exact hb
      . exact absurd (if_neg hb) z
end L2
namespace L2
open PySem PySem.Spec PyProof.Rows
theorem walk_of {l:PySem.W.OpenLaw} {n k:Nat} {q:Program} {loose:List Str} {XP:(Str->Option Value)->Heap->Prop} {YP:World->Heap->Prop} {d:DefRec} {K:Params->PySem.W.Frag} {CX:World->CXT} {sp:World->Sp} {x:Str}
    (hn:l.most=some n) (hn2:n<=sizeLine) (hdf:d.params.defaults=[]) (hr:Room k callerA)
    (hY:∀ (w:World) (h:Heap),YP w h->(K w.params).In h)
    (F : ∀ (w:World) (mg:Str->Option Value) (fa:Addr) (h:Heap),(K w.params).In h->h.Ns mainGlobals mg->mg d.name=some (.ref fa) ->
      ∃ fd:FuncData,(∀ (s:Shared) (u:Value),BindsTo s fd ⟨[u],[]⟩ [(x,u)]) /\
        ∀ base:Heap,(K w.params).In base->base.Ns mainGlobals mg->FnOk l.prog w (K w.params) mg base (CX w) k fa fd [x] (sp w))
    (hsp:∀ (w:World) (H:Hp) (a:Addr) (ns:List Int),ns.length<=n->Only H->SqL (K w.params) H a (ns.map V.int)->sp w [.ref a] H (fun v _=>v=.bl true) fun _ _ _=>False)
    (hCX:∀ (w:World) (H:Hp) (s:Shared) (e:Value) (s':Shared),CX w [] H s (fun _ _ _=>False) e s'->False) :
    PySem.W.WalkO q loose XP YP l.row.toRowW d [] (fun f vs=>PySem.call f vs):=by
  refine Att.attach_call hn hdf fun w s₀ s₁ mg mb fa o pm cd doc a vs ns G Y ho hd hcd hmg hobj hints hlen hg=>?_
  have KX:=hY w _ Y
  obtain ⟨fd,hb,hF⟩:=F w mg fa _ KX G.T.g hmg
  exact law_call KX G.T.g G.T.b G.T.builtins G.T.nolimit hg hobj hints (Nat.le_trans hlen hn2) hr hF hb (fun H hO hS=>hsp w H a ns hlen hO hS) fun H e s'=>hCX w H s₁ e s'
end L2
namespace L2
open PySem PySem.Spec PyProof.Rows
noncomputable def inClass (s:Stmt) (j:Nat):Stmt:=match s with
  | .ClassDef _ _ _ body _ _ _ _ _ _ _=>body.getD j (.Pass ⟨0,0,0,0⟩)
  | _=>.Pass ⟨0,0,0,0⟩
noncomputable def defArgs (s:Stmt):Arguments:=match s with
  | .FunctionDef _ a _ _ _ _ _ _ _ _=>a
  | _=>{ posonlyargs:=[],args:=[],vararg:=none,kwonlyargs:=[],kw_defaults:=[],kwarg:=none,defaults:=[] }
noncomputable def defBody (s:Stmt):List Stmt:=match s with
  | .FunctionDef _ _ b _ _ _ _ _ _ _=>b
  | _=>[]
noncomputable def defScope (s:Stmt):Scope:=match s with
  | .FunctionDef _ _ _ _ _ _ sc _ _ _=>sc
  | _=>{ kind:=.function,names:=[],isGenerator:=false,isCoroutine:=false }
noncomputable abbrev CX0:CXT:=fun _ _ _ _ _ _=>False
noncomputable abbrev E0:XK:=fun _ _ _=>False
theorem pass0 {X:Cx}:Passes CX0 X E0:=fun _ _ _ _ _ _ _ h=>h.elim
structure Fun (K:PySem.W.Frag) (x qual:Str) (st:Stmt) (f:Addr) (fd:FuncData):Prop where
  ex : ∃ (oc:Value) (od:Option Addr) (kV doc pm:Value) (an:Option Addr) (cdv ct:Value) (osl:Array (Option Value)),
    fd=PySem.W.fnOf x qual (defArgs st) (defBody st) (defScope st) .none kV doc pm an cdv ct/\K.lookup f=some ⟨oc,od,.func fd,osl⟩/\PySem.W.codeIn K cdv qual=true
  kp:PySem.W.keepIn K (.ref f)=true
section
variable {P:Program} {w:World} {K:PySem.W.Frag} {mg:Str->Option Value} {base:Heap}
theorem Fun.ok {x qual:Str} {st:Stmt} {f:Addr} {fd:FuncData} {N ps:List Str} {k:Nat} {sp:Sp} (F:Fun K x qual st f fd) (S:FnScope N ps (defScope st)) (len:∀ vs H Q E,sp vs H Q E->vs.length=ps.length)
    (hbody:∀ (cdv:Value) (A:Around) (outer:List Env) (s:Shared) (H:Hp) (vs:List V) (Q:VK) (E:XK),Room k (A.deeper (envOfC qual (defScope st) s.heap.objs.size f cdv))->sp vs H Q E ->
      ∃ t,PSs (cxOf CX0 P w K mg base N qual (defScope st) f cdv A outer s H E).nox (defBody st) t/\t { nx:=fun _ H'=>Q .non H',rt:=Q } (start N vs) H):FnOk P w K mg base CX0 (k + 1) f fd ps sp:=by
  obtain ⟨oc,od,kV,doc,pm,an,cdv,ct,osl,rfl,lk,hcd⟩:=F.ex
  refine fn_of lk hcd S len fun A outer s H vs Q E hr hsp=>?_
  obtain ⟨t,h,q⟩:=hbody cdv A outer s H vs Q E hr hsp
  exact ⟨t,h.nox,q⟩
theorem Fun.binds {x qual:Str} {st:Stmt} {f:Addr} {fd:FuncData} {ps:List Str} (F:Fun K x qual st f fd)
    (h:∀ (kV doc pm:Value) (an:Option Addr) (cdv ct:Value) (us:List Value),us.length=ps.length->bindArgs (PySem.W.fnOf x qual (defArgs st) (defBody st) (defScope st) .none kV doc pm an cdv ct) ⟨us,[]⟩=pure (ps.zip us)):Binds K fd ps []:=by
  obtain ⟨oc,od,kV,doc,pm,an,cdv,ct,osl,rfl,lk,hcd⟩:=F.ex
  exact .all (h kV doc pm an cdv ct)
theorem fun_mk {x qual:Str} {st:Stmt} {f:Addr} {oc:Value} {od an:Option Addr} {osl:Array (Option Value)} {kV doc pm cdv ct:Value} (l:K.lookup f=some ⟨oc,od,.func (PySem.W.fnOf x qual (defArgs st) (defBody st) (defScope st) .none kV doc pm an cdv ct),osl⟩)
    (c:PySem.W.codeIn K cdv qual=true) (k:PySem.W.keepIn K (.ref f)=true):Fun K x qual st f (PySem.W.fnOf x qual (defArgs st) (defBody st) (defScope st) .none kV doc pm an cdv ct):=⟨⟨oc,od,kV,doc,pm,an,cdv,ct,osl,rfl,l,c⟩,k⟩
end
theorem small1000 {n:Nat} (h:n<=1000):n < sizeLine:=Nat.lt_of_le_of_lt h (by decide)
section
variable {X:Cx}
theorem pv (i:Nat) {x:Str} {pos:Pos} (hN:X.N[i]? = some x:=by rfl) (hv:Vis X.env.scope x:=by first | exact Or.inl rfl | exact Or.inr (Or.inl rfl) | exact Or.inr (Or.inr rfl)) (hd:(x == ("__debug__":Str))=false:=by decide)
    (hcd:(x == ("__classdict__":Str))=false:=by decide):PE X (.Name x pos) (tVar i):=pe_var hN hv hd hcd
end
noncomputable def Same (H H':Hp):Prop:=∀ b o,H b=some o->H' b=some o
theorem Same.refl (H:Hp):Same H H:=fun _ _ h=>h
end L2
namespace L2
open PySem PySem.W
noncomputable def topRunT (tb:String->Option Builtin) (p:Program) (w:World) (n₀:Nat) (ann:Option Value):Nat->SharedT->Thread->Option SharedT
  | 0,_,_=>none
  | n + 1, s,t=>match through t with
    | true=>some s
    | false=>match stepOk n₀ ann t with
      | false=>none
      | true=>match stepT (denote tb) p w s t with
        | some (s',t')=>topRunT tb p w n₀ ann n s' t'
        | none=>none
theorem topRun_of {tb:String->Option Builtin} {p:Program} {w:World} {n₀:Nat} {ann:Option Value}:∀ {n:Nat} {s s':SharedT} {t:Thread},topRunT tb p w n₀ ann n s t=some s'->topRun tb p w n₀ ann n s.abs t=some s'.abs
  | 0,_,_,_,h=>by cases h
  | n + 1, s,s',t,h=>by
    unfold topRunT at h
    unfold topRun
    cases ht:through t with
    | true=>rw [ht] at h;cases h;rfl
    | false =>
      rw [ht] at h
      cases hk:stepOk n₀ ann t with
      | false=>rw [hk] at h;cases h
      | true =>
        rw [hk] at h
        cases hs:stepT (denote tb) p w s t with
        | none=>rw [hs] at h;cases h
        | some r=>obtain ⟨s₂,t₂⟩:=r;rw [hs] at h;rw [stepT_spec hs];exact topRun_of h
noncomputable def pushT (x:Option (BT × Nat)) (o:Obj):Option (BT × Nat):=match x with
  | none=>none
  | some (t,n)=>match ((t.ins n o).get n).isSome with
    | true=>some (t.ins n o,n + 1)
    | false=>none
noncomputable def buildT (l:List Obj):Option (BT × Nat):=l.foldl pushT (some (.nil,0))
theorem push_none:∀ l:List Obj,l.foldl pushT none=none
  | []=>rfl
  | o::l=>push_none l
theorem build_go:∀ (l pre:List Obj) (t:BT) (n:Nat) (T:BT) (m:Nat) (life:Life),n=pre.length->absHeap t n life=⟨pre.toArray,life⟩->l.foldl pushT (some (t,n))=some (T,m)->m=(pre++l).length/\absHeap T m life=⟨(pre++l).toArray,life⟩
  | [],pre,t,n,T,m,life,hn,h,e=>by
    cases e
    rw [List.append_nil]
    exact ⟨hn,h⟩
  | o :: l,pre,t,n,T,m,life,hn,h,e=>by
    rw [List.foldl_cons] at e
    cases hs:((t.ins n o).get n).isSome with
    | false =>
      have:pushT (some (t,n)) o=none:=by unfold pushT;simp only [hs]
      rw [this,push_none] at e;cases e
    | true =>
      have hp:pushT (some (t,n)) o=some (t.ins n o,n + 1):=by unfold pushT;simp only [hs]
      rw [hp] at e
      have:=build_go l (pre++[o]) (t.ins n o) (n + 1) T m life (by rw [List.length_append,hn];rfl) (by
        rw [absHeap_ins hs,h]
        show Heap.mk _ _=Heap.mk _ _
        simp) e
      rw [List.append_assoc] at this
      exact this
theorem build_abs {l:List Obj} {T:BT} {m:Nat} {life:Life} (h:buildT l=some (T,m)):m=l.length/\absHeap T m life=⟨l.toArray,life⟩:=by
  have:=build_go l [] .nil 0 T m life rfl rfl h
  simpa using this
noncomputable def forceL {β:Type}:List Obj->(List Obj->β)->β
  | [],k=>k []
  | ⟨a,b,c,d⟩::l,k=>forceL l fun l'=>k (⟨a,b,c,d⟩::l')
theorem forceL_eq {β:Type}:∀ (l:List Obj) (k:List Obj->β),forceL l k=k l
  | [],k=>rfl
  | ⟨a,b,c,d⟩::l,k=>by rw [forceL,forceL_eq l]
noncomputable def headT {β:Type} (p:Program) (w:World) (os:OsState) (m:Nat) (ann:Option Value) (M:Nat) (k:Shared->β):Option β :=
  match buildT (boot_heap w.params).objs.toList with
  | none=>none
  | some (T,n)=>match topRunT treeTable p w m ann M ⟨T,n,(boot_heap w.params).life,#[],boot_drawn,boot_toks,os⟩ (topStub p) with
    | none=>none
    | some s=>some (forceL (s.tree.list s.n) fun l=>k ⟨⟨l.toArray,s.life⟩,s.gens,s.drawn,s.toks,s.os⟩)
theorem headT_run {β:Type} {p:Program} {w:World} {os:OsState} {m:Nat} {ann:Option Value} {M:Nat} {k:Shared->β} {r:β} (h:headT p w os m ann M k=some r):∃ s,topRun treeTable p w m ann M ⟨boot_heap w.params,#[],boot_drawn,boot_toks,os⟩ (topStub p)=some s/\k s=r:=by
  unfold headT at h
  cases hb:buildT (boot_heap w.params).objs.toList with
  | none=>rw [hb] at h;cases h
  | some x =>
    obtain ⟨T,n⟩:=x
    rw [hb] at h
    obtain ⟨hn,ha⟩:=build_abs (life:=(boot_heap w.params).life) hb
    have ha:absHeap T n (boot_heap w.params).life=boot_heap w.params:=by rw [ha]
    simp only at h
    cases ht:topRunT treeTable p w m ann M ⟨T,n,(boot_heap w.params).life,#[],boot_drawn,boot_toks,os⟩ (topStub p) with
    | none=>rw [ht] at h;cases h
    | some s =>
      rw [ht] at h
      simp only [forceL_eq,Option.some.injEq] at h
      have:=topRun_of ht
      rw [show (SharedT.mk T n (boot_heap w.params).life #[] boot_drawn boot_toks os).abs=⟨boot_heap w.params,#[],boot_drawn,boot_toks,os⟩ from by unfold SharedT.abs;simp only;rw [ha]] at this
      exact ⟨s.abs,this,h⟩
theorem left_whole {p q:Program} {loose:List Str} {Xt:Shared->Bool} {α:Type} {Yf:Shared->α} {Ya:World->α} {N:Nat} {g0:Bool} {m:Nat} {ann:Option Value}
    (e:opening p=plainProg p.main.scope.names) (hN:Nat.ble 600 N=true) (f:∀ s,fenceModules? p s=some s)
    (size:∀ w:World,((boot_heap w.params).isNs mainGlobals,(boot_heap w.params).objs.size,(boot_heap w.params).nsMap mainGlobals "__annotations__")=(true,m,ann))
    (run:∀ (w:World) (os:OsState),headT p w os m ann N (fun s=>(staticsOk (importedModules p.main.body) (boot_heap w.params) s.heap && namesBound p s.heap && gensDone s && laidKept (boot_heap w.params) s.heap,openSeen q loose (importedModules p.main.body) Xt g0 s,Yf s))=some (true,openGood q loose,Ya w)) :
    LeftO p q loose Xt Yf Ya N g0:=fun w=>by
  obtain ⟨⟨h,gs,d,k,os⟩,eo,e'⟩:=Option.map_eq_some_iff.mp (boot_open e hN f w)
  obtain ⟨rfl,rfl,rfl,rfl⟩:h=boot_heap w.params/\gs=#[]/\d=boot_drawn/\k=boot_toks:=by simpa using e'
  obtain ⟨z1,z2,z3⟩:_/\_/\_:=by simpa only [Prod.mk.injEq] using size w
  obtain ⟨s,r,l⟩:=headT_run (run w os)
  obtain ⟨l1,l2,l3⟩:_/\_/\_:=by simpa only [Prod.mk.injEq] using l
  have t:topFrom treeTable p w N ⟨boot_heap w.params,#[],boot_drawn,boot_toks,os⟩=some s:=by
    unfold topFrom
    dsimp only
    rw [z1,z2,z3,r]
    show (match staticsOk (importedModules p.main.body) (boot_heap w.params) s.heap && namesBound p s.heap && gensDone s && laidKept (boot_heap w.params) s.heap with | true=>_ | false=>_)=_
    rw [l1]
  unfold openEnds
  rw [eo]
  show (topFrom treeTable p w N _).map _=_
  rw [t]
  exact congrArg some (Prod.ext l2 l3)
noncomputable def hEnt (P:Params) (x:Str) (t:Nat) (v:Value):DictEntry:=⟨PyData.keyHash P x,.str x t,v⟩
noncomputable def hNs (n:Nat) (es:List DictEntry):Obj:=⟨.type "dict",none,.dict es.toArray n,#[]⟩
noncomputable def hTup (vs:List Value):Obj:=⟨.type "tuple",none,.seq vs.toArray 0,#[]⟩
noncomputable def hRf:Option Nat->Value
  | some a=>.ref a
  | none=>.none
noncomputable def hCode (x q:Str) (t ln ac fl a b:Nat) (d e:Option Nat) (f m n:Nat):Obj :=
  ⟨.type "code",none,.fields #[.str x t,.str q (t + 1),.str "/claim/cut.py" (t + 2),.int ln 0,.int ac 0,.int 0 0,.int 0 0,.int fl 0,.ref a,.bool true,.int 181 0,.ref b,.none,hRf d,hRf e,.ref f,.int m 0,.int ln 0,.str "/claim/cut.py" n],#[]⟩
noncomputable def hFun (st:Stmt) (x q:Str) (pm:Value) (c:Nat):Obj:=⟨.type "function",none,.func (fnOf x q (defArgs st) (defBody st) (defScope st) .none .none .none pm none (.ref c) .none),#[]⟩
noncomputable def hBoot (w:World):Bool × Nat × Option Value:=((boot_heap w.params).isNs mainGlobals,(boot_heap w.params).objs.size,(boot_heap w.params).nsMap mainGlobals "__annotations__")
end L2
set_option maxHeartbeats 4000000
namespace L2
open PySem PySem.Spec PyProof.Rows
noncomputable def Its (x:Str):It:=⟨fun i _=>i < x.cps.size,fun i H v H'=>H'=H/\∃ c,x.cps[i]? = some c/\v=.str ⟨#[c]⟩,fun i _=>x.cps.size<=i⟩
theorem turn_str {P:Program} {w:World} {K:PySem.W.Frag} {tg:Expr} (x:Str) (t:Tok) (it:Addr) (ty:String) (hty:ty="str_ascii_iterator"\/ty="str_iterator"):Turn P w K tg (Its x) [it] it (fun i h=>h.IsStrIter it ty x t i) where
  mem:=by simp
  obj := fun i h st b hb=>by
    have e:b=it:=by simpa using hb
    subst e
    obtain ⟨o,e,c,d⟩:=st
    exact ⟨o,e,fun v z=>by rw [d] at z;cases z⟩
  keep:=fun i h h' st k=>by
    obtain ⟨o,e,c,d⟩:=st
    exact ⟨o,k it (by simp) o e,c,d⟩
  item := by
    intro X hP hw hK hc i pins s σ H E I hf st hg
    subst hP hw hK
    obtain ⟨f0,f1,f2,f3,f4,f5⟩:=hf it (by simp)
    have hlt:i < x.cps.size:=hg
    have hx:x.cps[i]? = some x.cps[i]:=by simp [hlt]
    have fin:∀ h',h'.IsStrIter it ty x t (i + 1)->Heap.SameBut it s.heap h'->∃ u,some (Value.str ⟨#[x.cps[i]]⟩ s.toks)=some u /\
        wpAny (model X.prog X.w) X.A (letOwnedTupleGo tg (.ref it) u) (fun _ s2=>∃ y H',Inv X pins σ H' s2/\RelV y u/\(Its x).yld i H y H'/\s2.heap.IsStrIter it ty x t (i + 1)/\∀ b∈[it],H' b=none) E { s with heap:=h',toks:=s.toks + 1 }:=by
      intro h' st' sb
      have I1:Inv X pins σ H { s with heap:=h',toks:=s.toks + 1 }:=I.turned (t':=s.toks + 1) (fun b o hb e=>(sb.2 b hb).trans e) f0 f1 f3 f4 f5
      obtain ⟨o,e,c,d⟩:=id st'
      refine ⟨_,rfl,go_of (s:={ s with heap:=h',toks:=s.toks + 1 }) e c d (by rcases hty with rfl | rfl <;> decide) ⟨.str ⟨#[x.cps[i]]⟩,H,I1,⟨_,rfl⟩,⟨rfl,_,hx,rfl⟩,st',fun b hb=>(hf b hb).1⟩⟩
    rcases hty with rfl | rfl
    . exact wpAny_pyNext_ascii_item st hx fin
    . exact wpAny_pyNext_wide_item st hx fin
  done:=by
    intro X hP hw hK hc i pins s σ H E I hf st hg
    subst hP hw hK
    obtain ⟨f0,f1,f2,f3,f4,f5⟩:=hf it (by simp)
    have hge:x.cps.size<=i:=hg
    have hx:x.cps[i]? = none:=by simp [hge]
    rcases hty with rfl | rfl
    . exact wpAny_pyNext_ascii_end (I.ok.hd hc) st hx fun h' eb=>⟨rfl,I.turned (t':=s.toks) (fun b o hb e=>eb b o hb e) f0 f1 f3 f4 f5⟩
    . exact wpAny_pyNext_wide_end (I.ok.hd hc) st hx fun h' eb=>⟨rfl,I.turned (t':=s.toks) (fun b o hb e=>eb b o hb e) f0 f1 f3 f4 f5⟩
  self:=fun _ _ _ _ _ st h=>by
    rcases hty with rfl | rfl
    . exact wpAny_pyIter_striter_ascii st h
    . exact wpAny_pyIter_striter_wide st h
end L2
namespace L2
open PySem PySem.Spec PyProof.Rows
theorem compLoop_any {prog:Program} {w:World} {A:Around} {R:Result->Shared->Prop} {s:Shared} {elt target iter:Expr} {ifs:List Expr} {scope:Scope} {pos:Pos} {it acc:Value} {env:Env} (I:Nat->Shared->Prop)
    (turn : ∀ n s,I n s->wpAny (model prog w) A (pyNext it) (fun r s₁=>match r with
      | none=>R (.ok .next) s₁
      | some v => wpAny (model prog w) A (letOwnedTupleGo target it v) (fun _ s₁'=>wpAny (model prog w) A (assign target env v) (fun _ s₂ =>
          wpAny (model prog w) A (forIn ifs true fun c r=>if r=true then do let ok <- isTrue c env (eval c env);pure (ForInStep.yield ok) else pure (ForInStep.yield r)) (fun ok s₃ =>
            if ok=true then wpAny (model prog w) A (eval elt env) (fun x s₄ =>
              wpAny (model prog w) A (call (.builtin "list.append") [acc,x]) (fun _ s₅=>∃ m,m < n/\I m s₅) (fun _ _=>False) s₄) (fun _ _=>False) s₃
            else ∃ m,m < n/\I m s₃) (fun _ _=>False) s₂) (fun _ _=>False) s₁') (fun _ _=>False) s₁) (fun _ _=>False) s)
    (n:Nat) (h:I n s) :
    codeAny (model prog w) A (.compLoop (.ListComp elt [⟨target,iter,ifs,0⟩] scope pos) 0 it acc env) R s:=by
  refine codeAny_loop rfl I (fun n s hI=>?_) n h
  show wpAny _ A ((compTurn (.ListComp elt [⟨target,iter,ifs,0⟩] scope pos) 0 it acc env).onRaise (fun x=>do noteFrame x env;theTreesLotGoes x)) _ _ s
  refine wpAny_noted ?_
  rw [compTurn_list]
  refine wpAny_bind (wpAny_standAt (wpAny_bind (wpAny_mono (turn n s hI) (fun r s₁ h₁=>?_) fun _ _ h'=>h'.elim)))
  cases r with
  | none=>exact wpAny_pure h₁
  | some v =>
    refine wpAny_bind (wpAny_mono h₁ (fun _ s₁' h₁'=>?_) fun _ _ h'=>h'.elim)
    refine wpAny_bind (wpAny_mono h₁' (fun _ s₂ h₂=>wpAny_bind (wpAny_mono h₂ (fun ok s₃ h₃=>?_) fun _ _ h'=>h'.elim)) fun _ _ h'=>h'.elim)
    cases ok with
    | false=>exact wpAny_pure ⟨rfl,h₃⟩
    | true =>
      exact wpAny_bind (wpAny_bind (wpAny_mono h₃ (fun x s₄ h₄=>wpAny_bind (wpAny_mono h₄ (fun _ s₅ h₅=>wpAny_pure (wpAny_pure ⟨rfl,h₅⟩)) fun _ _ h'=>h'.elim)) fun _ _ h'=>h'.elim))
noncomputable def Cx.comp (X:Cx) (scope:Scope) (cl:List (Str × Addr)) (N:List Str) (pins:List (Addr × Obj)) (s:Shared) (H:Hp) (fp:List Addr):Cx where
  prog:=X.prog
  w := X.w
  K := X.K
  mg:=X.mg
  base:=X.base
  A := X.A
  N := N
  s₀:=s
  H₀:=H
  env:=compEnvC scope cl s.heap.objs.size X.env
  outer:=X.stack
  stack:=X.stack
  ex:=fp
  fn:=fun _=>false
  calm:=X.calm
  pn:=X.pn++pins
  xe:=fun _ _=>False
noncomputable def compStart (nt:Nat) (frs:List (Str × Nat)) (σ:St):St:=List.replicate nt none++frs.map fun p=>(σ[p.2]?).join
structure CompScope (X:Cx) (scope:Scope) (cl:List (Str × Addr)) (ts:List Str) (frs:List (Str × Nat)):Prop where
  clos:closureFor scope X.env=pure cl
  kind:scope.kind=.function
  nocell:∀ y∈scope.names,y.2≠.cell
  names:∀ y∈scope.names,y.2=.local->scope.names.lookup y.1=some .local
  sub:∀ p∈cl,X.env.cells.lookup p.1=some p.2
  has:∀ p∈(relabel scope X.env).names,p.2=.cell\/p.2=.free->(cl.lookup p.1).isSome=true
  out:∀ p∈frs,X.N[p.2]? = some p.1/\(X.env.kindOf p.1=some .cell\/X.env.kindOf p.1=some .free)/\((relabel scope X.env).names.lookup p.1=some .cell\/(relabel scope X.env).names.lookup p.1=some .free)/\(cl.lookup p.1).isSome=true
section
variable {X:Cx} {scope:Scope} {cl:List (Str × Addr)} {ts:List Str} {frs':List (Str × Nat)} {pins:List (Addr × Obj)} {σ:St} {H:Hp} {s:Shared} {fp:List Addr}
theorem CompScope.subL (S:CompScope X scope cl ts frs') {x:Str} {c:Addr} (h:cl.lookup x=some c):X.env.cells.lookup x=some c:=S.sub (x,c) (PySem.mem_of_lookup h)
theorem CompScope.inv (S:CompScope X scope cl ts frs') (I:Inv X pins σ H s) (hf:∀ b∈fp,FpOk X pins H b) (hlt:∀ b∈fp,b < s.heap.objs.size) {h₁:Heap} {tk:Nat} {m:Str->Option Value} (hns:h₁.Ns s.heap.objs.size m)
    (hk:∀ b o,s.heap.get? b=some o->h₁.get? b=some o):Inv (X.comp scope cl (ts++frs'.map (·.1)) pins s H fp) [] (compStart ts.length frs' σ) H { s with heap:=h₁,toks:=tk }:=by
  have hC:∀ b o,s.heap.get? b=some o->b≠s.heap.objs.size:=fun b o e=>Nat.ne_of_lt (Heap.lt_size e)
  have hcell:∀ x c,cl.lookup x=some c->∃ v,h₁.IsCell c v:=fun x c e=>by
    obtain ⟨v,o,ho,hd⟩:=I.cell x c (S.subL e)
    exact ⟨v,o,hk c o ho,hd⟩
  refine ⟨⟨I.ok.mod,?_,I.ok.glob,I.ok.blt,Nat.le_refl _,fun x y c h1 h2=>I.ok.inj x y c (S.subL h1) (S.subL h2),fun x hx=>?_,fun x c z=>(by cases z),I.ok.hd,I.ok.frames,.inl rfl,fun b hb=>⟨Nat.ne_of_lt (hlt b hb),fun x c e=>?_⟩,I.bs,Nat.le_trans I.ok.bsz I.sz,fun b o e hb=>?_,fun b hb z=>?_,I.stack,I.stkFree⟩,
    rfl,I.bare,Un.kept hk,⟨m,hns,fun i x v h1 h2 h3=>?_⟩,hcell,I.hok.fresh (Nat.le_refl _),fun x c e=>I.freeC x c (S.subL e),fun p hp=>?_,I.hok.kept hk,?_⟩
  . exact S.kind
  . have hx':(relabel scope X.env).names.lookup x=some .cell\/(relabel scope X.env).names.lookup x=some .free:=hx
    have:(cl.lookup x).isSome=true:=by
      rcases hx' with e | e
      . exact S.has (x,.cell) (PySem.mem_of_lookup e) (.inl rfl)
      . exact S.has (x,.free) (PySem.mem_of_lookup e) (.inr rfl)
    exact Option.isSome_iff_exists.mp this
  . exact (hf b hb).2.2.2.2.1 x c (S.subL e)
  . obtain ⟨_,_,_,h4,_⟩:=hf b hb
    rcases h4 with h4 | h4
    . exact I.ok.noex b o e h4
    . exact absurd (Nat.lt_of_lt_of_le (Heap.lt_size e) (Nat.le_trans I.ok.bsz h4)) (Nat.lt_irrefl _)
  . obtain ⟨_,h2,h3,_⟩:=hf b hb
    rcases List.mem_cons.mp (I.stkSub b z) with e | e
    . exact h2 e
    . exact h3 e
  . have hi : ts.length<=i:=by
      by_cases hi:ts.length<=i
      . exact hi
      . have:(compStart ts.length frs' σ)[i]? = some none:=by
          unfold compStart
          rw [List.getElem?_append_left (by simp;lia),List.getElem?_replicate,if_pos (by lia)]
        rw [this] at h2;cases h2
    obtain ⟨p,hp,e1,e2⟩:∃ p∈frs',p.1=x/\(σ[p.2]?).join=some v:=by
      have h1':(ts++frs'.map (·.1))[i]? = some x:=h1
      have h2':(compStart ts.length frs' σ)[i]? = some (some v):=h2
      unfold compStart at h2'
      rw [List.getElem?_append_right hi,List.getElem?_map] at h1'
      rw [List.getElem?_append_right (by simpa using hi),List.getElem?_map,List.length_replicate] at h2'
      cases e:frs'[i - ts.length]? with
      | none=>rw [e] at h1';cases h1'
      | some p =>
        rw [e] at h1' h2'
        exact ⟨p,List.mem_of_getElem? e,Option.some.inj h1',Option.some.inj h2'⟩
    obtain ⟨o1,o2,o3,o4⟩:=S.out p hp
    rw [e1] at o1 o2 o3 o4
    have e3:σ[p.2]? = some (some v):=by
      cases e:σ[p.2]? with
      | none=>rw [e] at e2;cases e2
      | some q=>rw [e] at e2;exact congrArg some e2
    obtain ⟨m',_,hl⟩:=I.loc
    have hv:Vis X.env.scope x:=by
      rcases o2 with o2 | o2
      . exact .inr (.inl o2)
      . exact .inr (.inr o2)
    obtain ⟨u,r,l⟩:=hl p.2 x v o1 e3 hv
    refine ⟨u,r,.inr ⟨o3,?_⟩⟩
    obtain ⟨c,hc⟩:=Option.isSome_iff_exists.mp o4
    rcases l with ⟨k,_⟩ | ⟨_,c',e,ob,ho,hd⟩
    . rcases o2 with o2 | o2 <;> (rw [o2] at k;cases k)
    . have:c'=c:=by have:=S.subL hc;rw [this] at e;exact (Option.some.inj e).symm
      subst this
      exact ⟨c',hc,ob,hk c' ob ho,hd⟩
  . have hp':p∈X.pn++pins:=by
      have:p∈(X.pn++pins)++[]:=hp
      rwa [List.append_nil] at this
    obtain ⟨e,n,ne,nf,d⟩:=I.pin p hp'
    refine ⟨hk _ _ e,n,hC _ _ e,fun z=>?_,d⟩
    rcases List.mem_cons.mp (I.stkSub _ z) with e' | e'
    . exact ne e'
    . exact nf e'
  . show (compStart ts.length frs' σ).length=(ts++frs'.map (·.1)).length
    unfold compStart
    simp
theorem CompScope.after (I:Inv X pins σ H s) (hf:∀ b∈fp,FpOk X pins H b) {N:List Str} {σ':St} {H':Hp} {s':Shared} (J:Inv (X.comp scope cl N pins s H fp) [] σ' H' s') {h':Heap} (hs:Heap.SameBut s.heap.objs.size s'.heap h') :
    Inv X pins σ H' { s' with heap:=h' }:=by
  have hC:∀ b o,s.heap.get? b=some o->b≠s.heap.objs.size:=fun b o e=>Nat.ne_of_lt (Heap.lt_size e)
  have fr:H' s.heap.objs.size=none:=J.free
  refine I.call' (s':={ s' with heap:=h' }) (ch:=fp) J.os ?_ ?_ J.bare fun b hb=>?_
  . have u:=J.base
    exact ⟨fun b o e n h1 h2=>(hs.2 b (hC b o e)).trans (u.keep b o e n h1 h2),fun b o e n h1 h2=>by
        obtain ⟨sl,q⟩:=u.slot b o e n h1 h2
        exact ⟨sl,(hs.2 b (hC b o e)).trans q⟩,u.free,fun b o e h2=>by
        obtain ⟨o',q⟩:=u.there b o e h2
        exact ⟨o',(hs.2 b (hC b o e)).trans q⟩,u.tups,u.frzs,u.tbls⟩
  . intro b ob e
    refine (J.hok b ob e).stay (fun c w' hc q=>(hs.2 c ?_).trans q) (fun _ q=>q) fun _ _ q=>q
    rintro rfl
    rcases hc with hc | hc
    . rw [<- hc,fr] at e;cases e
    . rw [fr] at hc;cases hc
  . obtain ⟨h1,h2,h3,h4,h5,h6⟩:=hf b hb
    exact ⟨h4,h2,h5,h6⟩
end
noncomputable def PIfs (X:Cx) (ifs:List Expr) (t:TT):Prop :=
  ∀ (pins:List (Addr × Obj)) (s:Shared) (σ:St) (H:Hp) (Q:Bool->Hp->Prop),Inv X pins σ H s->t σ H Q ->
    wpAny (model X.prog X.w) X.A (forIn ifs true fun c r=>if r=true then do let ok <- isTrue c X.env (eval c X.env);pure (ForInStep.yield ok) else pure (ForInStep.yield r)) (TP X pins σ Q) X.xe s
noncomputable def tTrue:TT:=fun _ H Q=>Q true H
theorem pifs_nil {X:Cx}:PIfs X [] tTrue:=fun _ _ _ H _ I h=>wpAny_tests_nil ⟨H,I,h⟩
theorem pifs_one {X:Cx} {c:Expr} {t:TT} (h:PT X c t):PIfs X [c] t:=fun pins s σ H Q I q=>wpAny_tests_one (h pins s σ H Q I q)
noncomputable def tComp (nt:Nat) (frs:List (Str × Nat)) (wi:TI) (g:TG) (tt:TT) (te:TE):TE:=fun σ H Q=>wi σ H fun J H1=>∀ l,H1 l=none->∃ W:Nat->Nat->St->Hp->Prop,(∃ m,W 0 m (compStart nt frs σ) (upd H1 l (.lst []))) /\
  ∀ i m τ H,W i m τ H->(J.stop i H/\Q (.ref l) H)\/(J.go i H/\∀ x H',J.yld i H x H'->g x τ H' fun τ2 H2=>tt τ2 H2 fun ok H3 =>
    if ok=true then te τ2 H3 fun y H4=>∃ ys,H4 l=some (.lst ys)/\ys.length < sizeLine/\∃ m',m' < m/\W (i + 1) m' τ2 (upd H4 l (.lst (ys++[y]))) else ∃ m',m' < m/\W (i + 1) m' τ2 H3)
end L2
namespace L2
open PySem PySem.Spec PyProof.Rows PySem.Builtin.Str
noncomputable def cutS (z:Str) (lo hi:Option Int):Str:=⟨((z.cps.toList.drop (HT.sIx z.cps.toList.length 0 lo)).take (HT.sIx z.cps.toList.length z.cps.toList.length hi - HT.sIx z.cps.toList.length 0 lo)).toArray⟩
theorem clipS_eq (v:Int) (n d:Nat):max 0 (min (if v < 0 then v + (n:Int) else v) (n:Int))=((HT.sIx n d (some v):Nat):Int):=by
  rw [<- HT.clip_eq v n d]
  split <;> lia
theorem indices_eq (lo hi:Option Int) (n:Nat):strSliceIndices lo hi 1 n=(List.range (HT.sIx n n hi - HT.sIx n 0 lo)).map fun k=>HT.sIx n 0 lo + k:=by
  have h1:∀ (a b:Nat),sliceRange (a:Int) (b:Int) 1=(List.range (b - a)).map fun k=>a + k:=by
    intro a b
    unfold sliceRange
    simp only [show (1:Int) > 0 by decide,if_true]
    have e:(if (a:Int) < (b:Int) then ((b:Int) - (a:Int) + 1 - 1) / 1 else 0).toNat=b - a:=by
      rw [Int.ediv_one]
      split <;> lia
    rw [e]
    refine List.map_congr_left fun k _=>?_
    lia
  unfold strSliceIndices
  simp only [show (1:Int) > 0 by decide,if_true]
  cases lo with
  | none =>
    cases hi with
    | none=>exact h1 0 n
    | some v =>
      dsimp only
      rw [clipS_eq v n n]
      exact h1 0 _
  | some u =>
    cases hi with
    | none =>
      dsimp only
      rw [clipS_eq u n 0]
      exact h1 _ n
    | some v =>
      dsimp only
      rw [clipS_eq u n 0,clipS_eq v n n]
      exact h1 _ _
theorem pick_range (l:List Nat) (a k:Nat) (h:a + k<=l.length):((List.range k).map fun i=>a + i).filterMap (fun i=>l[i]?)=(l.drop a).take k:=by
  induction k generalizing a with
  | zero=>simp
  | succ k ih =>
    rw [List.range_succ_eq_map,List.map_cons,List.filterMap_cons]
    have ha:a < l.length:=by lia
    simp only [Nat.add_zero]
    rw [List.getElem?_eq_getElem ha]
    dsimp only
    rw [List.drop_eq_getElem_cons ha,List.take_succ_cons]
    congr 1
    rw [List.map_map,<- ih (a + 1) (by lia)]
    congr 1
    refine List.map_congr_left fun i _=>?_
    show a + (i + 1)=a + 1 + i
    lia
theorem slice_eq (x:Str) (lo hi:Option Int):Txt.slice x lo hi=cutS x lo hi:=by
  unfold Txt.slice cutS
  have hn:x.length=x.cps.toList.length:=by show x.cps.size=_;simp
  have ha:=HT.sIx_le x.cps.toList.length 0 (Nat.zero_le _) lo
  have hb:=HT.sIx_le x.cps.toList.length x.cps.toList.length (Nat.le_refl _) hi
  rw [hn,indices_eq]
  generalize HT.sIx x.cps.toList.length 0 lo=a at ha ⊢
  generalize HT.sIx x.cps.toList.length x.cps.toList.length hi=b at hb ⊢
  have hp:=pick_range x.cps.toList a (b - a)
  split
  . rename_i h
    simp only [List.length_map,List.length_range,Bool.and_eq_true,beq_iff_eq] at h
    have h2:b - a=x.cps.toList.length:=h.2
    by_cases h0:x.cps.toList.length=0
    . have:x.cps=#[]:=by
        apply Array.eq_empty_of_size_eq_zero;simpa using h0
      cases x;simp_all
    . have ea:a=0:=by lia
      subst ea
      rw [List.drop_zero,List.take_of_length_le (by lia)]
  . congr 1
    by_cases hab:a<=b
    . rw [<- hp (by lia)]
      congr 1
      simp only [Array.getElem?_toList]
    . have:b - a=0:=by lia
      rw [this];simp
section
variable {X:Cx}
noncomputable def rSlS:V->Option Int->Option Int->Hp->VK->Prop:=fun x lo hi H Q=>∃ z,x=.str z/\z.length<=sizeLine/\Q (.str (cutS z lo hi)) H
theorem sl_str:SlR X rSlS:=by
  intro pins s σ H x v vl vu lo hi sl Q I rx hs pl pu h
  obtain ⟨z,rfl,hz,q⟩:=h
  obtain ⟨t,rfl⟩:=rx
  rw [<- slice_eq] at q
  refine ⟨"str",_,F.slot_str_getitem.lookup,typeIs_str _ _ _,?_⟩
  obtain ⟨o,ho,hc,hd⟩:=hs
  have key:∀ (l u:Option (Int × Tok)),vl=partValue l->vu=partValue u->lo=l.map (·.1)->hi=u.map (·.1)->wpAny (model X.prog X.w) X.A (getItem (.str z t) (.ref sl)) (EP X pins σ Q) X.xe s:=by
    intro l u e1 e2 e3 e4
    subst e1 e2 e3 e4
    refine wpAny_getItem_str_slice (l:=l) (u:=u) (st:=none) ⟨o,ho,hc,hd⟩ rfl (post_val_or_str ⟨Nat.le_trans (Txt.slice_le z _ _) hz,fun t' k=>?_⟩)
    exact ⟨.str _,H,I.tok k,⟨_,rfl⟩,q⟩
  cases pl with
  | none =>
    cases pu with
    | none=>exact key none none rfl rfl rfl rfl
    | int j u=>exact key none (some (j,u)) rfl rfl rfl rfl
  | int i t =>
    cases pu with
    | none=>exact key (some (i,t)) none rfl rfl rfl rfl
    | int j u=>exact key (some (i,t)) (some (j,u)) rfl rfl rfl rfl
theorem call_all (hc:X.calm=true):CallR X (.builtin "all") (fun xs H Q=>∃ (p:Addr) (bs:List Bool),xs=[.ref p]/\SqL X.K H p (bs.map V.bl)/\Q (.bl (bs.all id)) H):=by
  intro pins s σ H xs us Q I r h
  obtain ⟨p,bs,rfl,hl,q⟩:=h
  obtain ⟨u,rfl,ru⟩:=r.one
  cases ru
  obtain ⟨its,rv,pl,hz⟩:=I.list hl
  refine call_all_walk (wpAny_pyIter_list pl.isList ?_)
  have hne:p≠s.heap.objs.size:=Nat.ne_of_lt (by obtain ⟨o,n,e,_⟩:=pl;exact Heap.lt_size e)
  refine ⟨s.heap.objs.size,_,_,_,_,_,fun i=>bs.getD i true,rfl,Walks.list (show X.A.in1.handled=none from I.ok.hd hc) s.heap.objs.size p hne its.toArray,⟨⟨_,Heap.get?_push_size _ rfl,rfl,rfl⟩,pl.isList.at fun o e=>Heap.get?_push_of_some _ e⟩,?_,fun h' tk hk=>?_⟩
  . intro i v s' Q' E' hv hQ'
    have hv':its[i]? = some v:=by simpa using hv
    cases e:(bs.map V.bl)[i]? with
    | none =>
      have:=rv.none_of e
      rw [this] at hv';cases hv'
    | some y =>
      obtain ⟨u,hu,ru⟩:=rv.get e
      rw [hv'] at hu;cases hu
      rw [List.getElem?_map] at e
      cases eb:bs[i]? with
      | none=>rw [eb] at e;cases e
      | some b =>
        rw [eb] at e
        cases e
        cases ru
        have e9:bs.getD i true=b:=by rw [List.getD_eq_getElem?_getD,eb];rfl
        dsimp only at hQ'
        rw [e9] at hQ'
        exact wpAny_truthy_bool hQ'
  . have e:(List.range its.toArray.size).all (fun i=>bs.getD i true)=bs.all id:=by
      have hlen:its.toArray.size=bs.length:=by have:=rv.length;simp at this;simp;lia
      rw [hlen,Bool.eq_iff_iff,List.all_eq_true,List.all_eq_true]
      constructor
      . intro h b hb
        obtain ⟨i,hi,rfl⟩:=List.mem_iff_getElem.mp hb
        have:=h i (List.mem_range.mpr hi)
        rw [List.getD_eq_getElem?_getD,List.getElem?_eq_getElem hi] at this
        exact this
      . intro h i hi
        have hi:=List.mem_range.mp hi
        rw [List.getD_eq_getElem?_getD,List.getElem?_eq_getElem hi]
        exact h _ (List.getElem_mem hi)
    rw [e]
    exact ⟨.bl _,H,I.kept (t':=tk) fun b o e=>hk b o (by simp;exact Nat.ne_of_lt (Heap.lt_size e)) (Heap.get?_push_of_some _ e),rfl,q⟩
end
end L2
namespace L2
open PySem PySem.Spec PyProof.Rows PySem.Builtin.Str
noncomputable def Sq (K:PySem.W.Frag) (H:Hp) (a:Addr) (xs:List V):Prop:=SqL K H a xs\/SqT K H a xs
noncomputable def occ (y x:Str):Bool:=!(occurrences y x 0 y.length 1).isEmpty
noncomputable def uAdd (K:PySem.W.Frag):R2:=fun x y H Q=>match x,y with
  | .int i,.int j=>Q (.int (i + j)) H
  | .str i,.str j=>i.length + j.length<=sizeLine/\Q (.str (i++j)) H
  | .ref a,.ref b=>rCat (.ref a) (.ref b) H Q\/rCatT K (.ref a) (.ref b) H Q
  | _,_=>False
noncomputable def uSub:R2:=fun x y H Q=>match x,y with
  | .int i,.int j=>Q (.int (i - j)) H
  | _,_=>False
noncomputable def uDiv:R2:=fun x y H Q=>match x,y with
  | .int i,.int j=>CDiv i j/\Q (.int (i / j)) H
  | _,_=>False
noncomputable def uMod:R2:=fun x y H Q=>match x,y with
  | .int i,.int j=>0 < j/\Q (.int (i % j)) H
  | _,_=>False
noncomputable def uPow:R2:=fun x y H Q=>match x,y with
  | .int i,.int j=>CPow i j/\Q (.int (i ^ j.toNat)) H
  | _,_=>False
noncomputable def uLt:R2:=fun x y H Q=>match x,y with
  | .int i,.int j=>Q (.bl (decide (i < j))) H
  | .str i,.str j=>Q (.bl (decide (i.cps.toList < j.cps.toList))) H
  | _,_=>False
noncomputable def uLe:R2:=fun x y H Q=>match x,y with
  | .int i,.int j=>Q (.bl (decide (i<=j))) H
  | _,_=>False
noncomputable def uGt:R2:=fun x y H Q=>match x,y with
  | .int i,.int j=>Q (.bl (decide (j < i))) H
  | _,_=>False
noncomputable def uGe:R2:=fun x y H Q=>match x,y with
  | .int i,.int j=>Q (.bl (decide (j<=i))) H
  | _,_=>False
noncomputable def uEq:R2:=fun x y H Q=>match x,y with
  | .int i,.int j=>Q (.bl (decide (i=j))) H
  | .str i,.str j=>Q (.bl (decide (i=j))) H
  | .bl i,.bl j=>Q (.bl (decide (i=j))) H
  | .non,.non=>Q (.bl true) H
  | .non,.str _=>Q (.bl false) H
  | .str _,.non=>Q (.bl false) H
  | _,_=>False
noncomputable def uNe:R2:=fun x y H Q=>match x,y with
  | .int i,.int j=>Q (.bl (!decide (i=j))) H
  | .str i,.str j=>Q (.bl (!decide (i=j))) H
  | .bl i,.bl j=>Q (.bl (!decide (i=j))) H
  | .non,.non=>Q (.bl false) H
  | .non,.str _=>Q (.bl true) H
  | .str _,.non=>Q (.bl true) H
  | _,_=>False
noncomputable def uIn (K:PySem.W.Frag):R2:=fun x y H Q=>match x,y with
  | .str i,.str j=>Q (.bl (occ j i)) H
  | x,.ref p=>∃ xs,Sq K H p xs/\flatV x=true/\xs.all flatV=true/\Q (.bl (inV x xs)) H
  | _,_=>False
noncomputable def uIx (K:PySem.W.Frag):R2:=fun x y H Q=>match x,y with
  | .str z,.int i=>z.length<=sizeLine/\∃ c,atI z.cps.toList i=some c/\Q (.str ⟨#[c]⟩) H
  | .ref p,.int i=>∃ xs v,Sq K H p xs/\atI xs i=some v/\Q v H
  | _,_=>False
noncomputable def uLen (K:PySem.W.Frag):List V->Hp->VK->Prop:=fun xs H Q=>match xs with
  | [.str z]=>z.length<=sizeLine/\Q (.int z.length) H
  | [.ref p]=>∃ ys,Sq K H p ys/\Q (.int ys.length) H
  | _=>False
noncomputable def uMax:List V->Hp->VK->Prop:=fun xs H Q=>match xs with
  | [.int i,.int j]=>Q (.int (max i j)) H
  | _=>False
noncomputable def uMin:List V->Hp->VK->Prop:=fun xs H Q=>match xs with
  | [.int i,.int j]=>Q (.int (min i j)) H
  | _=>False
noncomputable def uInt:List V->Hp->VK->Prop:=fun xs H Q=>match xs with
  | [.int i]=>Q (.int i) H
  | [.bl k]=>Q (.int (if k then 1 else 0)) H
  | _=>False
section
variable {X:Cx}
theorem OpR.imp {f:Value->Value->Sem Value} {r r':R2} (h:OpR X f r) (hi:∀ x y H Q,r' x y H Q->r x y H Q):OpR X f r':=fun pins s σ H x y v u Q I rx ry q=>h pins s σ H x y v u Q I rx ry (hi _ _ _ _ q)
theorem CallR.imp {f:Value} {r r':List V->Hp->VK->Prop} (h:CallR X f r) (hi:∀ xs H Q,r' xs H Q->r xs H Q):CallR X f r':=fun pins s σ H xs us Q I rx q=>h pins s σ H xs us Q I rx (hi _ _ _ q)
theorem o_sub:OpR X (binaryOp .Sub) uSub:=op_sub.imp fun x y H Q q=>by
  unfold uSub at q
  split at q
  . exact ⟨_,_,rfl,rfl,q⟩
  . exact q.elim
theorem o_fdiv:OpR X (binaryOp .FloorDiv) uDiv:=op_fdiv.imp fun x y H Q q=>by
  unfold uDiv at q
  split at q
  . exact ⟨_,_,rfl,rfl,q.1,q.2⟩
  . exact q.elim
theorem o_mod:OpR X (binaryOp .Mod) uMod:=op_mod.imp fun x y H Q q=>by
  unfold uMod at q
  split at q
  . exact ⟨_,_,rfl,rfl,q.1,q.2⟩
  . exact q.elim
theorem o_pow:OpR X (binaryOp .Pow) uPow:=op_pow.imp fun x y H Q q=>by
  unfold uPow at q
  split at q
  . exact ⟨_,_,rfl,rfl,q.1,q.2⟩
  . exact q.elim
theorem o_lt:OpR X (compareOp .Lt) uLt:=(op_lt.or op_lt_str).imp fun x y H Q q=>by
  unfold uLt at q
  split at q
  . exact .inl ⟨_,_,rfl,rfl,q⟩
  . exact .inr ⟨_,_,rfl,rfl,q⟩
  . exact q.elim
theorem o_le:OpR X (compareOp .LtE) uLe:=op_le.imp fun x y H Q q=>by
  unfold uLe at q
  split at q
  . exact ⟨_,_,rfl,rfl,q⟩
  . exact q.elim
theorem o_gt:OpR X (compareOp .Gt) uGt:=op_gt.imp fun x y H Q q=>by
  unfold uGt at q
  split at q
  . exact ⟨_,_,rfl,rfl,q⟩
  . exact q.elim
theorem o_ge:OpR X (compareOp .GtE) uGe:=op_ge.imp fun x y H Q q=>by
  unfold uGe at q
  split at q
  . exact ⟨_,_,rfl,rfl,q⟩
  . exact q.elim
theorem o_eq:OpR X (compareOp .Eq) uEq:=op_eq.imp fun x y H Q q=>by
  unfold uEq at q
  split at q <;> first | exact q.elim | (refine ⟨rfl,?_⟩;simpa using q)
theorem o_ne:OpR X (compareOp .NotEq) uNe:=op_ne.imp fun x y H Q q=>by
  unfold uNe at q
  split at q <;> first | exact q.elim | (refine ⟨rfl,?_⟩;simpa using q)
theorem o_in:OpR X (compareOp .In) (uIn X.K):=(op_in_str.or op_in_seq).imp fun x y H Q q=>by
  unfold uIn at q
  split at q
  . exact .inl ⟨_,_,rfl,rfl,q⟩
  . obtain ⟨xs,h1,h2,h3,h4⟩:=q
    exact .inr ⟨_,xs,rfl,h1,h2,h3,h4⟩
  . exact q.elim
theorem o_ix:IxR X (uIx X.K):=by
  intro value slice pins s σ H x y v u Q I rx ry q hs
  refine ix_seq value slice pins s σ H x y v u Q I rx ry ?_ hs
  unfold uIx at q
  split at q
  . obtain ⟨h1,c,h2,h3⟩:=q
    exact .inr (.inr ⟨_,_,c,rfl,rfl,h1,h2,h3⟩)
  . obtain ⟨xs,v,h1 | h1,h2,h3⟩:=q
    . exact .inl ⟨_,xs,_,v,rfl,rfl,h1,h2,h3⟩
    . exact .inr (.inl ⟨_,xs,_,v,rfl,rfl,h1,h2,h3⟩)
  . exact q.elim
theorem c_len:CallR X (.builtin "len") (uLen X.K):=(call_len_str.or call_len_seq).imp fun xs H Q q=>by
  unfold uLen at q
  split at q
  . exact .inl ⟨_,rfl,q.1,q.2⟩
  . obtain ⟨ys,h1,h2⟩:=q
    exact .inr ⟨_,ys,rfl,h1,h2⟩
  . exact q.elim
theorem c_max (hc:X.calm=true):CallR X (.builtin "max") uMax:=(call_max2 hc).imp fun xs H Q q=>by
  unfold uMax at q
  split at q
  . rename_i i j
    refine ⟨i,j,rfl,?_⟩
    have e:(if j > i then j else i)=max i j:=by split <;> lia
    rw [e];exact q
  . exact q.elim
theorem c_min (hc:X.calm=true):CallR X (.builtin "min") uMin:=(call_min2 hc).imp fun xs H Q q=>by
  unfold uMin at q
  split at q
  . rename_i i j
    refine ⟨i,j,rfl,?_⟩
    have e:(if j < i then j else i)=min i j:=by split <;> lia
    rw [e];exact q
  . exact q.elim
theorem c_int:CallR X (.type "int") uInt:=call_int1.imp fun xs H Q q=>by
  unfold uInt at q
  split at q
  . exact .inl ⟨_,rfl,q⟩
  . exact .inr ⟨_,rfl,q⟩
  . exact q.elim
theorem pe_gv {x:Str} {v:V} {pos:Pos} (hg:Gl X x) (h:∃ u,X.mg x=some u/\RelV v u) (hd:(x == ("__debug__":Str))=false:=by decide):PE X (.Name x pos) (tC v):=by
  obtain ⟨u,h1,h2⟩:=h
  exact pe_glob hg h1 h2 hd
theorem pe_ty {x:Str} {T:String} {pos:Pos} (hg:Gl X x) (hm:X.mg x=none) (hv:bootBuiltins x=some (.type T)) (hn:x≠"__name__":=by decide) (hd:(x == ("__debug__":Str))=false:=by decide):PE X (.Name x pos) (tC (.ty T)):=pe_bltn hg hm hv rfl hn hd
end
end L2
namespace L2
open PySem PySem.Spec PyProof.Rows
end L2
namespace L2
open PySem PySem.Spec PyProof.Rows
noncomputable def uRng1:List V->Hp->(It->Hp->Prop)->Prop:=fun vs H R=>match vs with
  | [.int j]=>-(2 ^ 62)<=j/\j < 2 ^ 62/\R (Itr 0 j.toNat) H
  | _=>False
noncomputable def jRng1 (ta:TA):TI:=fun σ H R=>ta σ H fun vs H1=>uRng1 vs H1 R
noncomputable def uList (K:PySem.W.Frag):V->Hp->(It->Hp->Prop)->Prop:=fun x H R=>match x with
  | .ref a=>(∃ xs,SqL K H a xs)/\R (Itl K a) H
  | _=>False
noncomputable def uTupI (K:PySem.W.Frag):V->Hp->(It->Hp->Prop)->Prop:=fun x H R=>match x with
  | .ref a=>(∃ xs,SqT K H a xs)/\R (Itt K a) H
  | _=>False
noncomputable def uStrI:V->Hp->(It->Hp->Prop)->Prop:=fun x H R=>match x with
  | .str z=>R (Its z) H
  | _=>False
noncomputable def jOf (u:V->Hp->(It->Hp->Prop)->Prop) (te:TE):TI:=fun σ H R=>te σ H fun x H1=>u x H1 R
section
variable {X:Cx} {tg:Expr} {a b:Expr} {p pos:Pos} {ta:TA} {te:TE}
theorem pj_range1 (hg:Gl X "range") (hm:X.mg "range"=none) (ha:PA X [a] ta) (hs:starEach [a] X.env=[(false,eval a X.env)]:=by rfl):PI X tg (.Call (.Name "range" p) [a] [] pos) (jRng1 ta):=by
  intro pins s σ H R I h
  refine Call_ (ld_blt I hg hm boot_range (PyProof.Rows.callWith_type1 (thn (ha pos pins s σ H _ I h) fun us s1 ⟨vs,H1,I1,r1,q1⟩=>?_) hs rfl))
  unfold uRng1 at q1
  dsimp only at q1
  split at q1
  . obtain ⟨q1,q2,q⟩:=q1
    cases r1 with
    | cons r rr =>
      cases rr
      obtain ⟨t,rfl⟩:=r
      exact call_range_1 (range_it I1 (by lia) (by lia) q1 q2 (by simpa using q))
  . exact q1.elim
theorem pj_str (hl:PE X a te):PI X tg a (jOf uStrI te):=by
  intro pins s σ H R I h
  refine thn (hl pins s σ H _ I h) fun v s1 h_q=>?_
  obtain ⟨x,H1,I1,r1,q1⟩:=h_q
  cases x with
  | str z =>
    have q:R (Its z) H1:=q1
    obtain ⟨t,rfl⟩:=r1
    have fp:∀ b∈[s1.heap.objs.size],FpOk X pins H1 b:=fun b hb=>by
      have e:b=s1.heap.objs.size:=by simpa using hb
      subst e
      exact I1.fpOk (Nat.le_refl _) (I1.hok.fresh (Nat.le_refl _))
    cases ha:z.cps.all (· < 128)
    . refine wpAny_pyIter_wide ha ?_
      exact ⟨s1.heap.objs.size,[s1.heap.objs.size],_,_,H1,rfl,I1.kept (t':=s1.toks) fun b o e=>Heap.get?_push_of_some _ e,turn_str z t _ _ (.inr rfl),⟨_,Heap.get?_push_size _ rfl,rfl,rfl⟩,fp,q⟩
    . refine wpAny_pyIter_ascii ha ?_
      exact ⟨s1.heap.objs.size,[s1.heap.objs.size],_,_,H1,rfl,I1.kept (t':=s1.toks) fun b o e=>Heap.get?_push_of_some _ e,turn_str z t _ _ (.inl rfl),⟨_,Heap.get?_push_size _ rfl,rfl,rfl⟩,fp,q⟩
  | _=>exact q1.elim
end
noncomputable def strsIn:List Expr->Option (List Str)
  | []=>some []
  | .Constant (.str x) _ _::r=>(strsIn r).map (x::·)
  | _=>none
noncomputable def tConst (vs:List V):TA:=fun _ H L=>L vs H
theorem pa_strs {X:Cx}:∀ {es:List Expr} {xs:List Str},strsIn es=some xs->PA X es (tConst (xs.map V.str))
  | [],xs,h=>by
    cases h
    exact fun pos pins s σ H Q I q=>pa_nil pos pins s σ H Q I q
  | e :: es, xs,h=>by
    cases e with
    | Constant c k p =>
      cases c with
      | str x =>
        cases h1:strsIn es with
        | none=>simp [strsIn,h1] at h
        | some ys =>
          have h2:x::ys=xs:=by simpa [strsIn,h1] using h
          subst h2
          have ih:=pa_strs (X:=X) h1
          exact fun pos pins s σ H Q I q=>(pa_cons (te:=tC (.str x)) pe_str ih) pos pins s σ H Q I q
      | _=>simp [strsIn] at h
    | _=>simp [strsIn] at h
theorem Same.upd_new {H:Hp} {l:Addr} {o:HO} (h:H l=none):Same H (upd H l o):=fun b u e=>by rw [upd_ne (ne_of_none e h)];exact e
theorem Same.sq {K:PySem.W.Frag} {H H':Hp} {a:Addr} {xs:List V} (e:Same H H') (h:SqT K H a xs):SqT K H' a xs:=by
  rcases h with (h | ⟨o,h⟩) | h
  . exact .inl (.inl (e _ _ h))
  . exact .inl (.inr ⟨o,e _ _ h⟩)
  . exact .inr h
theorem atI_lt {α:Type} {xs:List α} {i:Int} (h0:0<=i) (h:i < xs.length):∃ v,atI xs i=some v/\xs[i.toNat]? = some v:=by
  have hlt:i.toNat < xs.length:=by lia
  refine ⟨xs[i.toNat],?_,List.getElem?_eq_getElem hlt⟩
  have e:(i.toNat:Int)=i:=by lia
  have h:=atI_nat (List.getElem?_eq_getElem hlt)
  rw [e] at h
  exact h
theorem small_line {n:Nat} (h:n<=1000):n<=sizeLine:=Nat.le_of_lt (small1000 h)
theorem vals_of_abs:∀ {us:List Value} {xs:List V},us.map absV=xs.map some->Vals xs us
  | [],[],_=>.nil
  | [],_::_,h=>by cases h
  | _::_,[],h=>by cases h
  | u :: us,x::xs,h=>by
    rw [List.map_cons,List.map_cons] at h
    injection h with h1 h2
    refine .cons ?_ (vals_of_abs h2)
    cases u <;> cases h1 <;> first | rfl | exact ⟨_,rfl⟩
theorem sqT_const {K:PySem.W.Frag} {a:Addr} {oc:Value} {od:Option Addr} {its:Array Value} {n:Nat} {sl:Array (Option Value)} {xs:List V} (h:K.lookup a=some ⟨oc,od,.seq its n,sl⟩) (ht:(oc == .type "tuple")=true/\(od == none)=true)
    (hi:its.toList.map absV=xs.map some) (hz:xs.length<=1000:=by decide):∀ H,SqT K H a xs:=fun H=>by
  have r:=vals_of_abs hi
  have e:oc=.type "tuple":=by
    have:=ht.1
    exact eq_of_beq this
  refine .inr ⟨_,its,n,h,e,rfl,?_,r⟩
  have h9:=r.length
  have h8:its.toList.length=its.size:=by simp
  rw [<- h8,<- h9];exact small_line hz
end L2
namespace L2
open PySem PySem.Spec PyProof.Rows
section
variable {P:Program} {w:World} {K:PySem.W.Frag} {mg:Str->Option Value} {base:Heap}
theorem Fun.ok2 {x qual:Str} {st:Stmt} {f:Addr} {fd:FuncData} {N ps:List Str} {k:Nat} {sp:Sp} {sc:Scope} {body:List Stmt} (F:Fun K x qual st f fd) (hs:defScope st=sc) (hb:defBody st=body) (S:FnScope N ps (defScope st)) (len:∀ vs H Q E,sp vs H Q E->vs.length=ps.length)
    (hbody:FnScope N ps sc->∀ (cdv:Value) (A:Around) (outer:List Env) (s:Shared) (H:Hp) (vs:List V) (Q:VK) (E:XK),Room k (A.deeper (envOfC qual sc s.heap.objs.size f cdv))->sp vs H Q E ->
      ∃ t,PSs (cxOf CX0 P w K mg base N qual sc f cdv A outer s H E).nox body t/\t { nx:=fun _ H'=>Q .non H',rt:=Q } (L2.start N vs) H):FnOk P w K mg base CX0 (k + 1) f fd ps sp:=by
  subst hs hb
  exact F.ok S len (hbody S)
end
end L2
namespace L2
open PySem PySem.Spec PyProof.Rows
section
variable {P:Program} {w:World} {K:PySem.W.Frag} {mg:Str->Option Value} {base:Heap}
noncomputable def spStrs (xs:List Str):Sp:=fun vs H Q _=>vs=[]/\∀ l,H l=none->Q (.ref l) (upd H l (.lst (xs.map V.str)))
theorem ok_strs {x qual:Str} {st:Stmt} {f:Addr} {fd:FuncData} (F:Fun K x qual st f fd) {es:List Expr} {pos p:Pos} (xs:List Str) (hb:defBody st=[.Return (some (.List es pos)) p]) (h:strsIn es=some xs) (hz:xs.length<=1000)
    (S:FnScope [] [] (defScope st)):FnOk P w K mg base CX0 1 f fd [] (spStrs xs):=by
  refine F.ok2 rfl hb S (fun vs H Q E h=>?_) (fun S cdv A outer s H vs Q E hr hq=>?_)
  . obtain ⟨rfl,_⟩:=h
    rfl
  . obtain ⟨rfl,q⟩:=hq
    refine ⟨_,pss_one (ps_ret (pe_lst (pa_strs h))),?_⟩
    exact ⟨by rw [List.length_map];exact small_line hz,q⟩
end
end L2
namespace L2
open PySem
theorem noFree_has {scope:Scope} {env:Env} {names:List (Str × NameKind)} {cl:List (Str × Addr)} (h:(relabel scope env).names=names) (h2:(names.all fun p=>p.2 != .cell && p.2 != .free)=true) :
    ∀ p∈(relabel scope env).names,p.2=.cell\/p.2=.free->(cl.lookup p.1).isSome=true:=by
  intro p hp hk
  rw [h] at hp
  have:=List.all_eq_true.mp h2 p hp
  rcases hk with e | e
  . rw [e] at this;exact absurd this (by decide)
  . rw [e] at this;exact absurd this (by decide)
theorem nd1 {x:Str}:[x].Nodup:=by simp
section
variable {X:Cx} (K:PySem.W.Frag) (h:X.K=K)
include h
theorem k_in:OpR X (compareOp .In) (uIn K):=h ▸ o_in
theorem k_ix:IxR X (uIx K):=h ▸ o_ix
end
end L2
namespace L2
open PySem PySem.Spec PyProof.Rows
mutual
inductive Rep (K:PySem.W.Frag) (H:Hp):PyData->V->Prop
  | non:Rep K H .none .non
  | bl (b:Bool):Rep K H (.bool b) (.bl b)
  | int (i:Int):Rep K H (.int i) (.int i)
  | str (x:Str):Rep K H (.str x) (.str x)
  | tup {a:Addr} {xs:List V} {ds:List PyData}:SqT K H a xs->Reps K H ds xs->Rep K H (.tuple ds) (.ref a)
  | lst {a:Addr} {xs:List V} {ds:List PyData}:SqL K H a xs->Reps K H ds xs->Rep K H (.list ds) (.ref a)
inductive Reps (K:PySem.W.Frag) (H:Hp):List PyData->List V->Prop
  | nil:Reps K H [] []
  | cons {d:PyData} {v:V} {ds:List PyData} {vs:List V}:Rep K H d v->Reps K H ds vs->Reps K H (d::ds) (v::vs)
end
section
variable {X:Cx} {pins:List (Addr × Obj)} {σ:St} {H:Hp} {s:Shared}
mutual
theorem Rep.reads (I:Inv X pins σ H s):∀ {d:PyData} {v:V} {u:Value},Rep X.K H d v->RelV v u->∃ as,Reads s.heap u d as
  | _,_,_,.non,r=>by cases r;exact ⟨_,.none⟩
  | _,_,_,.bl b,r=>by cases r;exact ⟨_,.bool b⟩
  | _,_,_,.int i,r=>by obtain ⟨t,rfl⟩:=r;exact ⟨_,.int i t⟩
  | _,_,_,.str x,r=>by obtain ⟨t,rfl⟩:=r;exact ⟨_,.str x t⟩
  | _, _,_,.tup h q,r=>by
    cases r
    obtain ⟨its,rv,⟨o,e,c,n,d⟩,hz⟩:=I.tuple h
    obtain ⟨as,ra⟩:=Reps.reads I q rv
    exact ⟨_,.tuple e c d (by simpa using ra)⟩
  | _, _,_,.lst h q,r=>by
    cases r
    obtain ⟨its,rv,⟨o,n,e,c,_,d⟩,hz⟩:=I.list h
    obtain ⟨as,ra⟩:=Reps.reads I q rv
    exact ⟨_,.list e c d (by simpa using ra)⟩
theorem Reps.reads (I:Inv X pins σ H s):∀ {ds:List PyData} {vs:List V} {us:List Value},Reps X.K H ds vs->Vals vs us->∃ as,ReadsAll s.heap us ds as
  | _,_,_,.nil,r=>by cases r;exact ⟨_,.nil⟩
  | _, _,_,.cons h q,r=>by
    cases r with
    | cons r0 r1 =>
      obtain ⟨as,ra⟩:=Rep.reads I h r0
      obtain ⟨bs,rb⟩:=Reps.reads I q r1
      exact ⟨_,.cons ra rb⟩
end
noncomputable def rEqD (K:PySem.W.Frag) (ne:Bool):R2:=fun x y H Q=>∃ d e,Rep K H d x/\Rep K H e y/\d.canLay0=true/\e.canLay0=true/\d.depth<=190/\Q (.bl (if ne then !PyData.eqv d e else PyData.eqv d e)) H
theorem op_eqD (hu:X.A.units + 200 < cLine):OpR X (compareOp .Eq) (rEqD X.K false):=by
  intro pins s σ H x y v u Q I rx ry h
  obtain ⟨d,e,h1,h2,c1,c2,dp,q⟩:=h
  obtain ⟨as,ra⟩:=Rep.reads I h1 rx
  obtain ⟨bs,rb⟩:=Rep.reads I h2 ry
  refine SeqAt.compareEq_reads ra rb c1 c2 ?_ ⟨.bl _,H,I,rfl,q⟩
  have:min d.depth e.depth<=d.depth:=Nat.min_le_left _ _
  lia
theorem op_neD (hu:X.A.units + 200 < cLine):OpR X (compareOp .NotEq) (rEqD X.K true):=by
  intro pins s σ H x y v u Q I rx ry h
  obtain ⟨d,e,h1,h2,c1,c2,dp,q⟩:=h
  obtain ⟨as,ra⟩:=Rep.reads I h1 rx
  obtain ⟨bs,rb⟩:=Rep.reads I h2 ry
  refine SeqAt.compareNe_reads ra rb c1 c2 ?_ ⟨.bl _,H,I,rfl,q⟩
  have:min d.depth e.depth<=d.depth:=Nat.min_le_left _ _
  lia
noncomputable def uEqD (K:PySem.W.Frag):R2:=fun x y H Q=>match x,y with
  | .ref a,y=>rEqD K false (.ref a) y H Q
  | x,.ref b=>rEqD K false x (.ref b) H Q
  | x,y=>uEq x y H Q
noncomputable def uNeD (K:PySem.W.Frag):R2:=fun x y H Q=>match x,y with
  | .ref a,y=>rEqD K true (.ref a) y H Q
  | x,.ref b=>rEqD K true x (.ref b) H Q
  | x,y=>uNe x y H Q
theorem o_eqD {k:Nat} (hr:Room k X.A):OpR X (compareOp .Eq) (uEqD X.K):=((op_eqD (by have:=hr.un;lia)).or o_eq).imp fun x y H Q q=>by
  unfold uEqD at q
  split at q
  . exact .inl q
  . exact .inl q
  . exact .inr q
theorem o_neD {k:Nat} (hr:Room k X.A):OpR X (compareOp .NotEq) (uNeD X.K):=((op_neD (by have:=hr.un;lia)).or o_ne).imp fun x y H Q q=>by
  unfold uNeD at q
  split at q
  . exact .inl q
  . exact .inl q
  . exact .inr q
end
noncomputable def uSum (K:PySem.W.Frag):List V->Hp->VK->Prop:=fun xs H Q=>match xs with
  | [.ref p]=>∃ ns:List Int,SqL K H p (ns.map V.int)/\Q (.int ns.sum) H
  | _=>False
theorem preSum_eq (ns:List Int):∀ n,n<=ns.length->preSum (fun i=>ns.getD i 0) n=(ns.take n).sum
  | 0,_=>by simp [preSum]
  | n + 1,h=>by
    rw [preSum,preSum_eq ns n (by lia),List.take_add_one,List.getElem?_eq_getElem (by lia),List.sum_append]
    simp [List.getD_eq_getElem?_getD,List.getElem?_eq_getElem (show n < ns.length by lia)]
theorem c_sum {X:Cx} (hc:X.calm=true):CallR X (.builtin "sum") (uSum X.K):=by
  intro pins s σ H xs us Q I r h
  unfold uSum at h
  split at h
  . rename_i p
    obtain ⟨ns,hl,q⟩:=h
    obtain ⟨u,rfl,ru⟩:=r.one
    cases ru
    obtain ⟨its,rv,pl,hz⟩:=I.list hl
    refine call_sum_walkAnyS (wpAny_pyIter_list pl.isList ?_)
    have hne:p≠s.heap.objs.size:=Nat.ne_of_lt (by obtain ⟨o,n,e,_⟩:=pl;exact Heap.lt_size e)
    have hlen:its.toArray.size=ns.length:=by have:=rv.length;simp at this;simp;lia
    refine ⟨s.heap.objs.size,_,_,_,_,_,_,fun i=>ns.getD i 0,rfl,(Walks.list (show X.A.in1.handled=none from I.ok.hd hc) s.heap.objs.size p hne its.toArray).toS,⟨⟨_,Heap.get?_push_size _ rfl,rfl,rfl⟩,pl.isList.at fun o e=>Heap.get?_push_of_some _ e⟩,?_,?_,fun s' t' hm=>?_⟩
    . intro b hb
      have hp:p < s.heap.objs.size:=by obtain ⟨o,n,e,_⟩:=pl;exact Heap.lt_size e
      rw [Heap.size_push]
      rcases List.mem_cons.mp hb with rfl | hb
      . exact Nat.lt_succ_self _
      . have:b=p:=by simpa using hb
        subst this
        exact Nat.lt_succ_of_lt hp
    . intro i v hv
      have hv':its[i]? = some v:=by simpa using hv
      cases e:(ns.map V.int)[i]? with
      | none =>
        have:=rv.none_of e
        rw [this] at hv';cases hv'
      | some y =>
        obtain ⟨u,hu,ru⟩:=rv.get e
        rw [hv'] at hu;cases hu
        rw [List.getElem?_map] at e
        cases eb:ns[i]? with
        | none=>rw [eb] at e;cases e
        | some b =>
          rw [eb] at e
          cases e
          obtain ⟨t,rfl⟩:=ru
          exact ⟨t,by dsimp only;rw [List.getD_eq_getElem?_getD,eb];rfl⟩
    . have e:preSum (fun i=>ns.getD i 0) its.toArray.size=ns.sum:=by
        rw [hlen,preSum_eq ns _ (Nat.le_refl _),List.take_length]
      rw [e]
      have hI:Inv X pins σ H { s with heap:=s'.heap,toks:=s'.toks }:=I.kept (t':=s'.toks) fun b o e=>hm.heap b o (by simp;exact Nat.ne_of_lt (Heap.lt_size e)) (Heap.get?_push_of_some _ e)
      have es:({ s with heap:=s'.heap,toks:=s'.toks }:Shared)=s':=by
        have h1:=hm.gens
        have h2:=hm.drawn
        have h3:=hm.os
        cases s'
        simp only at h1 h2 h3
        subst h1 h2 h3
        rfl
      rw [es] at hI
      exact ⟨.int _,H,hI,⟨_,rfl⟩,q⟩
  . exact h.elim
noncomputable def uMulB:R2:=fun x y H Q=>match x,y with
  | .int i,.int j=>IntMulOk i j/\Q (.int (i * j)) H
  | .ref a,.int k=>rRep (.ref a) (.int k) H Q
  | _,_=>False
theorem op_mulB {X:Cx}:OpR X (binaryOp .Mult) (fun x y H Q=>∃ i j,x=.int i/\y=.int j/\IntMulOk i j/\Q (.int (i * j)) H):=by
  intro pins s σ H x y v u Q I rx ry h
  obtain ⟨i,j,rfl,rfl,hm,q⟩:=h
  obtain ⟨t,rfl⟩:=rx
  obtain ⟨t',rfl⟩:=ry
  exact PyProof.Rows.mul_int ⟨.int _,H,I.tok _,⟨_,rfl⟩,q⟩ hm
theorem o_mulB {X:Cx}:OpR X (binaryOp .Mult) uMulB:=(op_mulB.or op_rep).imp fun x y H Q q=>by
  unfold uMulB at q
  split at q
  . exact .inl ⟨_,_,rfl,rfl,q.1,q.2⟩
  . exact .inr q
  . exact q.elim
theorem mul_small {i j:Int} (h:CMul i j):IntMulOk i j:=h.ok
section
variable {X:Cx}
noncomputable def rCatL (K:PySem.W.Frag):R2:=fun x y H Q=>∃ l b xs zs,x=.ref l/\y=.ref b/\SqL K H l xs/\SqL K H b zs/\xs.length + zs.length<=sizeLine/\∀ p,H p=none->Q (.ref p) (upd H p (.lst (xs++zs)))
theorem op_catL:OpR X (binaryOp .Add) (rCatL X.K):=by
  intro pins s σ H x y v u Q I rx ry h
  obtain ⟨l,b,xs,zs,rfl,rfl,hH,hB,hz,q⟩:=h
  cases rx
  cases ry
  obtain ⟨its,r,pl,z1⟩:=I.list hH
  obtain ⟨its2,r2,pl2,z2⟩:=I.list hB
  have hl:=r.length
  have hl2:=r2.length
  obtain ⟨⟨cls,dd,data,sl⟩,ho,hc,n,hd⟩:=id pl.isList
  obtain ⟨⟨cls2,dd2,data2,sl2⟩,ho2,hc2,n2,hd2⟩:=id pl2.isList
  simp only at hc hd hc2 hd2
  subst hc hd hc2 hd2
  have e:its.toArray++its2.toArray=(its++its2).toArray:=by simp
  refine concat_meets ⟨_,ho,rfl⟩ ⟨_,ho2,rfl⟩ noFill_list_add seq_list_add PySem.F.slot_list_add PySem.F.entry_list_add (PySem.F.args_list_add_2 _ _) (PyProof.Rows.list_addW l b its.toArray its2.toArray n n2 dd dd2 sl sl2 (by rw [List.size_toArray,List.size_toArray];lia)) ⟨ho,ho2,?_⟩
  rw [e]
  exact ⟨.ref _,_,I.lnew (t':=s.toks) (r.append r2) (by rw [List.length_append];lia),rfl,q _ I.fresh⟩
end
theorem comp_go {X:Cx} {elt tg iter:Expr} {ifs:List Expr} {scope:Scope} {cl:List (Str × Addr)} {ts:List Str} {frs':List (Str × Nat)} {pos pos0:Pos} {wi:TI} {g:TG} {tt:TT} {te:TE} (hc:X.calm=true) (S:CompScope X scope cl ts frs')
    (hi:PI X tg iter wi) (hg:∀ pins s H fp,PG (X.comp scope cl (ts++frs'.map (·.1)) pins s H fp) tg g) (ht:∀ pins s H fp,PIfs (X.comp scope cl (ts++frs'.map (·.1)) pins s H fp) ifs tt)
    (he:∀ pins s H fp,PE (X.comp scope cl (ts++frs'.map (·.1)) pins s H fp) elt te) (hs:∀ x,foldedSetIterable iter X.env x=pure x)
    {use:Option (Value->Sem Unit)} {Qv:Value->Shared->Prop} {pins:List (Addr × Obj)} {s:Shared} {σ:St} {H:Hp} {Q:VK} (I:Inv X pins σ H s) (h:tComp ts.length frs' wi g tt te σ H Q)
    (hfin:∀ (C D:Addr) (H5:Hp) (s6:Shared) (m6:Str->Option Value),Inv X pins σ H5 s6->s6.heap.Ns C m6->FpOk X pins H5 C->(∀ h',Heap.SameBut C s6.heap h'->Inv X pins σ H5 { s6 with heap:=h' })->Q (.ref D) H5 ->
      compPost (model X.prog X.w) X.A X.xe use Qv (.ref D) C (.ok .next) s6) :
    wpAny (model X.prog X.w) X.A (comprehension (.ListComp elt [⟨tg,iter,ifs,0⟩] scope pos) scope X.env pos0 (newList []) false (eval iter X.env) use) Qv X.xe s:=by
  refine wpAny_comprehension_free (use:=use) (cl:=cl) rfl hs S.clos S.kind S.names (thn (hi pins s σ H _ I h) fun v s1 h1=>thn h1 fun itv s2 h2=>?_)
  obtain ⟨it,fp,tn,J,H2,e,I2,T,st2,f2,q2⟩:=h2
  subst e
  have fr2:H2 s2.heap.objs.size=none:=I2.hok.fresh (Nat.le_refl _)
  obtain ⟨W,⟨m0,w0⟩,turn⟩:=q2 _ fr2
  refine wpAny_newObj_type ?_
  have hlt2:∀ b∈fp,b < s2.heap.objs.size:=fun b hb=>by
    obtain ⟨o,e,_⟩:=T.obj _ _ st2 b hb
    exact Heap.lt_size e
  have I3:Inv X pins σ (upd H2 s2.heap.objs.size (.lst [])) { s2 with heap:=s2.heap.push { cls:=.type "list",data:=.seq ([]:List Value).toArray } } :=
    I2.laid (t':=s2.toks) (fun b u e=>Heap.get?_push_of_some _ e) (Nat.le_refl _) ⟨Nat.zero_le _,[],0,.nil,Heap.get?_push_size _ rfl⟩
  have f3:∀ b∈fp,FpOk X pins (upd H2 s2.heap.objs.size (.lst [])) b:=fun b hb=>⟨by rw [upd_ne (Nat.ne_of_lt (hlt2 b hb))];exact (f2 b hb).1,(f2 b hb).2⟩
  have hk3:∀ b o,s2.heap.get? b=some o->(s2.heap.push { cls:=.type "list",data:=.seq ([]:List Value).toArray }).get? b=some o:=fun b o e=>Heap.get?_push_of_some _ e
  have hsz3:(s2.heap.push { cls:=.type "list",data:=.seq ([]:List Value).toArray }).objs.size=s2.heap.objs.size + 1:=Heap.size_push ..
  refine wpAny_newFunctionEnv S.nocell (by intro y hy;simp at hy) (fun h₁ hns₁ hsb₁=>?_) S.kind
  dsimp only at hns₁ hsb₁ ⊢
  generalize hs3:({ s2 with heap:=s2.heap.push { cls:=.type "list",data:=.seq ([]:List Value).toArray } }:Shared)=s3 at I3 hns₁ hsb₁ ⊢
  have es3:s3.heap=s2.heap.push { cls:=.type "list",data:=.seq ([]:List Value).toArray }:=by rw [<- hs3]
  have hk4:∀ b o,s3.heap.get? b=some o->h₁.get? b=some o:=fun b o e=>by
    have:=hsb₁.2 b (by rw [<- es3];exact Nat.ne_of_lt (Heap.lt_size e))
    rw [<- es3] at this
    exact this.trans (Heap.get?_push_of_some _ e)
  have hlt3:∀ b∈fp,b < s3.heap.objs.size:=fun b hb=>by
    rw [es3,hsz3]
    exact Nat.lt_succ_of_lt (hlt2 b hb)
  rw [<- es3] at hns₁
  have I4:=S.inv I3 f3 hlt3 (tk:=s2.toks + ([]:List (Str × Value)).length) hns₁ hk4
  have st4:tn 0 h₁:=T.keep _ _ _ st2 fun b hb o e=>hk4 b o (by rw [es3];exact hk3 b o e)
  have estart:({ s2 with heap:=h₁,toks:=s2.toks + ([]:List (Str × Value)).length }:Shared)={ s3 with heap:=h₁,toks:=s2.toks + ([]:List (Str × Value)).length }:=by rw [<- hs3]
  rw [estart]
  have stat:∀ {H':Hp},(∀ b∈fp,H' b=none)->∀ b∈fp,FpOk (X.comp scope cl (ts++frs'.map (·.1)) pins s3 (upd H2 s2.heap.objs.size (.lst [])) fp) [] H' b:=fun hn b hb=>by
    obtain ⟨h1,h2,h3,h4,h5,h6⟩:=f3 b hb
    refine ⟨hn b hb,Nat.ne_of_lt (hlt3 b hb),fun z=>?_,.inl hb,fun x c e=>h5 x c (S.subL e),fun p hp=>h6 p (by
      have:p∈(X.pn++pins)++[]:=hp
      rwa [List.append_nil] at this)⟩
    rcases List.mem_cons.mp (I3.stkSub _ z) with e' | e'
    . exact h2 e'
    . exact h3 e'
  have loop : codeAny (model X.prog X.w) X.A (.compLoop (.ListComp elt [⟨tg,iter,ifs,0⟩] scope pos) 0 (.ref it) (.ref s2.heap.objs.size) (compEnvC scope cl s3.heap.objs.size X.env))
      (compPost (model X.prog X.w) X.A X.xe use Qv (.ref s2.heap.objs.size) s3.heap.objs.size) { s3 with heap:=h₁,toks:=s2.toks + ([]:List (Str × Value)).length }:=by
    refine compLoop_any (fun n s'=>∃ i τ H',Inv (X.comp scope cl (ts++frs'.map (·.1)) pins s3 (upd H2 s2.heap.objs.size (.lst [])) fp) [] τ H' s'/\tn i s'.heap/\(∀ b∈fp,H' b=none)/\W i n τ H') ?_ m0
      ⟨0,_,_,I4,st4,fun b hb=>(f3 b hb).1,w0⟩
    rintro n s5 ⟨i,τ,H5,I5,st5,fr5,w5⟩
    rcases turn i n τ H5 w5 with ⟨stop,qn⟩ | ⟨go,step⟩
    . refine wpAny_mono (T.done (X.comp scope cl (ts++frs'.map (·.1)) pins s3 (upd H2 s2.heap.objs.size (.lst [])) fp) rfl rfl rfl hc i [] s5 τ H5 (fun _ _=>False) I5 (stat fr5) st5 stop) (fun r s6 ⟨hr,I6⟩=>?_) fun _ _ z=>z
      subst hr
      obtain ⟨m6,hn6,_⟩:=id I6.loc
      have hA:∀ h',Heap.SameBut s3.heap.objs.size s6.heap h'->Inv X pins σ H5 { s6 with heap:=h' }:=fun h' hs'=>CompScope.after I3 f3 I6 hs'
      have hC0:=I3.fpOk (b:=s3.heap.objs.size) (Nat.le_refl _) (I3.hok.fresh (Nat.le_refl _))
      exact hfin _ _ H5 s6 m6 (hA s6.heap ⟨rfl,fun _ _=>rfl⟩) hn6 ⟨I6.free,hC0.2⟩ hA qn
    . refine wpAny_mono (T.item (X.comp scope cl (ts++frs'.map (·.1)) pins s3 (upd H2 s2.heap.objs.size (.lst [])) fp) rfl rfl rfl hc i [] s5 τ H5 (fun _ _=>False) I5 (stat fr5) st5 go) (fun r s6 ⟨u,hr,h6⟩=>?_) fun _ _ z=>z
      subst hr
      refine thn h6 fun _ s7 h_q=>?_
      obtain ⟨x,H7,I7,r7,y7,st7,fr7⟩:=h_q
      have I7':=I7.pinned (stat fr7) (T.obj _ _ st7)
      refine thn (hg _ _ _ _ _ s7 τ H7 x u _ I7' r7 (step x H7 y7)) fun _ s8 h_q=>?_
      obtain ⟨τ8,H8,I8,q8⟩:=h_q
      refine thn (ht _ _ _ _ _ s8 τ8 H8 _ I8 q8) fun ok s9 h_q=>?_
      obtain ⟨H9,I9,q9⟩:=h_q
      have again:∀ {m':Nat} {H':Hp} {s':Shared},Inv (X.comp scope cl (ts++frs'.map (·.1)) pins s3 (upd H2 s2.heap.objs.size (.lst [])) fp) ([]++pinsAt fp s7.heap) τ8 H' s'->m' < n->W (i + 1) m' τ8 H' ->
          ∃ m,m < n/\∃ i τ H',Inv (X.comp scope cl (ts++frs'.map (·.1)) pins s3 (upd H2 s2.heap.objs.size (.lst [])) fp) [] τ H' s'/\tn i s'.heap/\(∀ b∈fp,H' b=none)/\W i m τ H':=fun {m' H' s'} I' hm w'=>by
        refine ⟨m',hm,i + 1,τ8,H',I'.unpinned,T.keep _ _ _ st7 fun b hb o e=>(I'.pin (b,o) (List.mem_append_right _ (List.mem_append_right _ (mem_pinsAt hb e)))).1,fun b hb=>?_,w'⟩
        obtain ⟨o,e,d⟩:=T.obj _ _ st7 b hb
        exact (I'.pin (b,o) (List.mem_append_right _ (List.mem_append_right _ (mem_pinsAt hb e)))).2.1
      cases ok with
      | false =>
        rw [if_neg Bool.false_ne_true]
        rw [if_neg Bool.false_ne_true] at q9
        obtain ⟨m',hm,w'⟩:=q9
        exact again I9 hm w'
      | true =>
        rw [if_pos rfl]
        rw [if_pos rfl] at q9
        refine thn (he _ _ _ _ _ s9 τ8 H9 _ I9 q9) fun yv s10 h_q=>?_
        obtain ⟨y,H10,I10,r10,ys,hl,hz,m',hm,w'⟩:=h_q
        refine thn (mt_append _ s10 τ8 H10 (.ref s2.heap.objs.size) [y] (.ref s2.heap.objs.size) [yv] (fun _ H'=>W (i + 1) m' τ8 H') I10 rfl (.cons r10 .nil) ⟨_,ys,y,rfl,rfl,hl,hz,w'⟩) fun _ s11 h_q=>?_
        obtain ⟨_,H11,I11,_,w11⟩:=h_q
        exact again I11 hm w11
  have es:(s2.heap.push { cls:=.type "list",data:=.seq ([]:List Value).toArray }).objs.size=s3.heap.objs.size:=by rw [es3]
  rw [es]
  exact codeAny_compStart_list loop (T.self _ 0 _ _ _ st4 loop)
theorem pe_comp {X:Cx} {elt tg iter:Expr} {ifs:List Expr} {scope:Scope} {cl:List (Str × Addr)} {ts:List Str} {frs':List (Str × Nat)} {pos:Pos} {wi:TI} {g:TG} {tt:TT} {te:TE} (hc:X.calm=true) (S:CompScope X scope cl ts frs')
    (hi:PI X tg iter wi) (hg:∀ pins s H fp,PG (X.comp scope cl (ts++frs'.map (·.1)) pins s H fp) tg g) (ht:∀ pins s H fp,PIfs (X.comp scope cl (ts++frs'.map (·.1)) pins s H fp) ifs tt)
    (he:∀ pins s H fp,PE (X.comp scope cl (ts++frs'.map (·.1)) pins s H fp) elt te) (hs:∀ x,foldedSetIterable iter X.env x=pure x:=by intro _;rfl) :
    PE X (.ListComp elt [⟨tg,iter,ifs,0⟩] scope pos) (tComp ts.length frs' wi g tt te):=by
  intro pins s σ H Q I h
  rw [eval_ListComp]
  exact comp_go hc S hi hg ht he hs (use:=none) (Qv:=EP X pins σ Q) I h fun C D H5 s6 m6 I6 hn fpc hA q=>⟨m6,hn,fun h' hs'=>⟨.ref D,H5,hA h' hs',rfl,q⟩⟩
noncomputable def uListOf (K:PySem.W.Frag):List V->Hp->VK->Prop:=fun xs H Q=>match xs with
  | [.ref p]=>∃ ys,Sq K H p ys/\∀ l,H l=none->Q (.ref l) (upd H l (.lst ys))
  | _=>False
theorem c_list {X:Cx}:CallR X (.type "list") (uListOf X.K):=call_list_of.imp fun xs H Q q=>by
  unfold uListOf at q
  split at q
  . obtain ⟨ys,h1,h2⟩:=q
    exact ⟨_,ys,rfl,h1,h2⟩
  . exact q.elim
end L2
namespace MM
noncomputable def sm (n:Nat) (f:Nat->Int):Int:=((List.range n).map f).sum
noncomputable abbrev at0 (l:List Int) (i:Nat):Int:=l.getD i 0
end MM
namespace MM
noncomputable def mc:Nat->Nat->Nat
  | _,0=>1
  | 0,_ + 1=>0
  | m + 1,j + 1=>mc m (j + 1) + mc (m + 1) j
noncomputable def ch:Nat->Nat->Nat
  | _,0=>1
  | 0,_ + 1=>0
  | n + 1,k + 1=>ch n k + ch n (k + 1)
noncomputable def part (w:Nat->Int) (s:Nat) (bs:List Int) (m n:Nat):Int:=sm (m + 1) fun j=>if j * s<=n then w j * at0 bs (n - j * s) else 0
end MM
namespace L2
open PySem PySem.Spec PyProof.Rows
theorem iteP {c A B:Prop} [Decidable c] (hc:c) (h:A):if c then A else B:=by rw [if_pos hc];exact h
theorem iteN {c A B:Prop} [Decidable c] (hc:¬ c) (h:B):if c then A else B:=by rw [if_neg hc];exact h
end L2
namespace L2
open PySem PySem.Spec PyProof.Rows
section
variable {X:Cx} {pins:List (Addr × Obj)} {σ:St} {H:Hp} {s:Shared}
theorem Inv.turnedL {h':Heap} {ch:List Addr} {T:Addr} {o:HO} {t':Nat} (I:Inv X pins σ H s) (hch:∀ b∈ch,FpOk X pins H b) (k:∀ b u,b ∉ ch->s.heap.get? b=some u->h'.get? b=some u) (hT:s.heap.objs.size<=T)
    (new:ObjOk X.prog X.w (upd H T o) h' T o):Inv X pins σ (upd H T o) { s with heap:=h',toks:=t' }:=by
  have hn:H T=none:=I.hok.fresh hT
  have nT:∀ b u,s.heap.get? b=some u->b≠T:=fun b u e=>Nat.ne_of_lt (Nat.lt_of_lt_of_le (Heap.lt_size e) hT)
  have nch:∀ b u,H b=some u->b ∉ ch:=fun b u e z=>by rw [(hch b z).1] at e;cases e
  refine I.step (g':=s.gens) (d':=s.drawn) (ch:=ch) (fun b hb=>?_) (fun b u _ _ hc e _=>k b u hc e) (fun b u _ _ hc e _=>⟨u.slots,k b u hc e⟩) (fun b u _ e n=>by rw [upd_ne (nT b u e)];exact n)
    (fun b u hc e=>⟨u,k b u hc e⟩) (fun b xs e=>by rw [upd_ne (ne_of_none e hn)];exact e) (fun b u v e=>by rw [upd_ne (ne_of_none e hn)];exact e) (fun b ps e=>⟨#[],by rw [upd_ne (ne_of_none e hn),e];simp⟩) (fun m hm=>?_) (fun b u e=>?_) I.bare
  . obtain ⟨h0,h1,h2,h3,h4,h5⟩:=hch b hb
    exact ⟨h3,h1,h4,h5⟩
  . obtain ⟨ob,es,ep,ho,r⟩:=hm
    exact ⟨ob,es,ep,k _ ob (fun z=>(hch _ z).2.1 rfl) ho,r⟩
  . by_cases hb:b=T
    . subst hb;rw [upd_same] at e;cases e;exact new
    . rw [upd_ne hb] at e
      refine (I.hok b u e).stay (fun c v hc q=>k c v ?_ q) (fun c q=>by rw [upd_ne (ne_of_none q hn)];exact q) fun c xs q=>by rw [upd_ne (ne_of_none q hn)];exact q
      rcases hc with z | z
      . rw [z];exact nch b u e
      . exact nch c _ z
theorem Inv.turnedM {h':Heap} {ch:List Addr} {t':Nat} (I:Inv X pins σ H s) (hch:∀ b∈ch,FpOk X pins H b) (k:∀ b u,b ∉ ch->s.heap.get? b=some u->h'.get? b=some u):Inv X pins σ H { s with heap:=h',toks:=t' }:=by
  have nch:∀ b u,H b=some u->b ∉ ch:=fun b u e z=>by rw [(hch b z).1] at e;cases e
  refine I.step (g':=s.gens) (d':=s.drawn) (ch:=ch) (fun b hb=>?_) (fun b u _ _ hc e _=>k b u hc e) (fun b u _ _ hc e _=>⟨u.slots,k b u hc e⟩) (fun _ _ _ _ n=>n)
    (fun b u hc e=>⟨u,k b u hc e⟩) (fun _ _ e=>e) (fun _ _ _ e=>e) (fun b ps e=>⟨#[],by rw [e];simp⟩) (fun m hm=>?_) (fun b u e=>?_) I.bare
  . obtain ⟨h0,h1,h2,h3,h4,h5⟩:=hch b hb
    exact ⟨h3,h1,h4,h5⟩
  . obtain ⟨ob,es,ep,ho,r⟩:=hm
    exact ⟨ob,es,ep,k _ ob (fun z=>(hch _ z).2.1 rfl) ho,r⟩
  . refine (I.hok b u e).stay (fun c v hc q=>k c v ?_ q) (fun _ q=>q) fun _ _ q=>q
    rcases hc with z | z
    . rw [z];exact nch b u e
    . exact nch c _ z
end
noncomputable def Itz (K:PySem.W.Frag) (a b:Addr):It :=
  ⟨fun i H=>∃ xs ys x y,SqL K H a xs/\SqL K H b ys/\xs[i]? = some x/\ys[i]? = some y,
   fun i H v H'=>∃ T x y,v=.ref T/\H T=none/\H'=upd H T (.tup [x,y])/\(∀ xs,SqL K H a xs->xs[i]? = some x)/\(∀ ys,SqL K H b ys->ys[i]? = some y),
   fun i H=>∃ xs ys,SqL K H a xs/\SqL K H b ys/\(xs.length<=i\/ys.length<=i)⟩
noncomputable def Ite (K:PySem.W.Frag) (a:Addr):It :=
  ⟨fun i H=>∃ xs x,SqL K H a xs/\xs[i]? = some x,
   fun i H v H'=>∃ T x,v=.ref T/\H T=none/\H'=upd H T (.tup [.int i,x])/\(∀ xs,SqL K H a xs->xs[i]? = some x),
   fun i H=>∃ xs,SqL K H a xs/\xs.length<=i⟩
theorem turn_zip {P:Program} {w:World} {K:PySem.W.Frag} {elts:List Expr} {k0} {pos:Pos} {z TI TO i1 i2 l1 l2:Addr} (D:ZipApart z TI TO i1 i2 l1 l2):Turn P w K (.Tuple elts k0 pos) (Itz K l1 l2) [z,TI,TO,i1,i2] z
    (fun i h=>IsZip h z TI TO .none/\IsPair h TI (.ref i1) (.ref i2)/\(∃ a b,IsPair h TO a b)/\h.IsListIter i1 l1 i/\h.IsListIter i2 l2 i) where
  mem:=by simp
  obj := fun i h st b hb=>by
    obtain ⟨hz,hTI,⟨a,c,hTO⟩,h1,h2⟩:=st
    simp only [List.mem_cons,List.not_mem_nil,or_false] at hb
    rcases hb with rfl | rfl | rfl | rfl | rfl
    . exact ⟨_,hz,fun v q=>nomatch q⟩
    . exact ⟨_,hTI,fun v q=>nomatch q⟩
    . exact ⟨_,hTO,fun v q=>nomatch q⟩
    . obtain ⟨o,e,c,d⟩:=h1
      exact ⟨o,e,fun v q=>by rw [d] at q;cases q⟩
    . obtain ⟨o,e,c,d⟩:=h2
      exact ⟨o,e,fun v q=>by rw [d] at q;cases q⟩
  keep:=fun i h h' st k=>by
    obtain ⟨hz,hTI,⟨a,c,hTO⟩,h1,h2⟩:=st
    exact ⟨k z (by simp) _ hz,k TI (by simp) _ hTI,⟨a,c,k TO (by simp) _ hTO⟩,h1.at fun o e=>k i1 (by simp) o e,h2.at fun o e=>k i2 (by simp) o e⟩
  item := by
    intro X hP hw hK hc i pins s σ H E I hf st hg
    subst hP hw hK
    obtain ⟨hz,hTI,⟨a,c,hTO⟩,h1,h2⟩:=st
    obtain ⟨xs,ys,x,y,hx,hy,hxi,hyi⟩:=hg
    obtain ⟨its,rv,p,_⟩:=I.list hx
    obtain ⟨its2,rv2,p2,_⟩:=I.list hy
    obtain ⟨u,hu,ru⟩:=rv.get hxi
    obtain ⟨u2,hu2,ru2⟩:=rv2.get hyi
    refine wpAny_pyNext_zip_item D hz hTI hTO h1 h2 p.isList p2.isList (x:=u) (y:=u2) (by simpa using hu) (by simpa using hu2) fun h' a1 a2 a3 a4 a5 a6 hk=>?_
    refine ⟨_,rfl,wpAny_letOwnedTupleGo_zip a1 fun h'' hz' sb=>?_⟩
    have nz:s.heap.objs.size≠z:=Nat.ne_of_gt (Heap.lt_size hz)
    have hT':IsTup h'' s.heap.objs.size [u,u2].toArray:=⟨_,sb.extBut _ _ nz a5,rfl,_,rfl⟩
    have I':Inv X pins σ (upd H s.heap.objs.size (.tup [x,y])) { s with heap:=h'',toks:=s.toks }:=I.turnedL (ch:=[z,TI,TO,i1,i2]) hf (fun b o hb e=>by
      simp only [List.mem_cons,List.not_mem_nil,or_false,not_or] at hb
      exact sb.extBut _ _ hb.1 (hk b o hb.1 hb.2.2.1 hb.2.2.2.1 hb.2.2.2.2 e)) (Nat.le_refl _) ⟨by show 2<=sizeLine;decide,[u,u2],.cons ru (.cons ru2 .nil),hT'⟩
    have hn:H s.heap.objs.size=none:=I.hok.fresh (Nat.le_refl _)
    refine ⟨.ref s.heap.objs.size,_,I',rfl,⟨_,x,y,rfl,hn,rfl,fun zs hzs=>by rw [I.list_inj hzs hx];exact hxi,fun zs hzs=>by rw [I.list_inj hzs hy];exact hyi⟩,
      ⟨hz',sb.extBut _ _ D.TIz (hk _ _ D.TIz D.TITO D.TIi1 D.TIi2 hTI),⟨_,_,sb.extBut _ _ D.TOz a2⟩,a3.extBut sb.extBut D.i1z,a4.extBut sb.extBut D.i2z⟩,fun b hb=>?_⟩
    have hfb:=(hf b hb).1
    have : b≠s.heap.objs.size:=by
      obtain ⟨o,e⟩:∃ o,s.heap.get? b=some o:=by
        simp only [List.mem_cons,List.not_mem_nil,or_false] at hb
        rcases hb with rfl | rfl | rfl | rfl | rfl
        . exact ⟨_,hz⟩
        . exact ⟨_,hTI⟩
        . exact ⟨_,hTO⟩
        . obtain ⟨o,e,_⟩:=h1;exact ⟨o,e⟩
        . obtain ⟨o,e,_⟩:=h2;exact ⟨o,e⟩
      exact Nat.ne_of_lt (Heap.lt_size e)
    rw [upd_ne this];exact hfb
  done := by
    intro X hP hw hK hc i pins s σ H E I hf st hg
    subst hP hw hK
    obtain ⟨hz,hTI,⟨a,c,hTO⟩,h1,h2⟩:=st
    obtain ⟨xs,ys,hx,hy,hend⟩:=hg
    obtain ⟨its,rv,p,_⟩:=I.list hx
    obtain ⟨its2,rv2,p2,_⟩:=I.list hy
    have hl:=rv.length
    have hl2:=rv2.length
    refine wpAny_pyNext_zip_end (I.ok.hd hc) D hz hTI hTO h1 h2 p.isList p2.isList ?_ fun h' hk=>⟨rfl,I.turnedM (t':=s.toks) (ch:=[z,TI,TO,i1,i2]) hf (fun b o hb e=>by
      simp only [List.mem_cons,List.not_mem_nil,or_false,not_or] at hb
      exact hk b o hb.1 hb.2.2.1 hb.2.2.2.1 hb.2.2.2.2 e)⟩
    rcases hend with h | h
    . exact .inl (by simp;lia)
    . exact .inr (by simp;lia)
  self:=fun _ _ _ _ _ st h=>wpAny_pyIter_zip st.1 h
theorem turn_enum {P:Program} {w:World} {K:PySem.W.Frag} {elts:List Expr} {k0} {pos:Pos} {e it l:Addr} (hne:e≠it):Turn P w K (.Tuple elts k0 pos) (Ite K l) [e,it] e
    (fun i h=>(∃ old,IsEnum h e it i old)/\h.IsListIter it l i) where
  mem:=by simp
  obj := fun i h st b hb=>by
    obtain ⟨⟨old,he⟩,h1⟩:=st
    simp only [List.mem_cons,List.not_mem_nil,or_false] at hb
    rcases hb with rfl | rfl
    . exact ⟨_,he,fun v q=>nomatch q⟩
    . obtain ⟨o,e,c,d⟩:=h1
      exact ⟨o,e,fun v q=>by rw [d] at q;cases q⟩
  keep:=fun i h h' st k=>by
    obtain ⟨⟨old,he⟩,h1⟩:=st
    exact ⟨⟨old,k e (by simp) _ he⟩,h1.at fun o q=>k it (by simp) o q⟩
  item := by
    intro X hP hw hK hc i pins s σ H E I hf st hg
    subst hP hw hK
    obtain ⟨⟨old,he⟩,h1⟩:=st
    obtain ⟨xs,x,hx,hxi⟩:=hg
    obtain ⟨its,rv,p,_⟩:=I.list hx
    obtain ⟨u,hu,ru⟩:=rv.get hxi
    refine wpAny_pyNext_enum_item he h1 p.isList (x:=u) (by simpa using hu) hne fun h' a1 a2 a3 a4 hk=>?_
    refine ⟨_,rfl,wpAny_letOwnedTupleGo_enum a1 fun h'' he' sb=>?_⟩
    have nz:s.heap.objs.size≠e:=Nat.ne_of_gt (Heap.lt_size he)
    have hT':IsTup h'' s.heap.objs.size [Value.int i s.toks,u].toArray:=⟨_,sb.extBut _ _ nz a3,rfl,_,rfl⟩
    have I':Inv X pins σ (upd H s.heap.objs.size (.tup [.int i,x])) { s with heap:=h'',toks:=s.toks + 1 }:=I.turnedL (ch:=[e,it]) hf (fun b o hb q=>by
      simp only [List.mem_cons,List.not_mem_nil,or_false,not_or] at hb
      exact sb.extBut _ _ hb.1 (hk b o hb.1 hb.2 q)) (Nat.le_refl _) ⟨by show 2<=sizeLine;decide,[Value.int i s.toks,u],.cons ⟨_,rfl⟩ (.cons ru .nil),hT'⟩
    have hn:H s.heap.objs.size=none:=I.hok.fresh (Nat.le_refl _)
    refine ⟨.ref s.heap.objs.size,_,I',rfl,⟨_,x,rfl,hn,rfl,fun zs hzs=>by rw [I.list_inj hzs hx];exact hxi⟩,⟨⟨_,by push_cast;exact he'⟩,a2.extBut sb.extBut (Ne.symm hne)⟩,fun b hb=>?_⟩
    have hfb:=(hf b hb).1
    have : b≠s.heap.objs.size:=by
      obtain ⟨o,q⟩:∃ o,s.heap.get? b=some o:=by
        simp only [List.mem_cons,List.not_mem_nil,or_false] at hb
        rcases hb with rfl | rfl
        . exact ⟨_,he⟩
        . obtain ⟨o,q,_⟩:=h1;exact ⟨o,q⟩
      exact Nat.ne_of_lt (Heap.lt_size q)
    rw [upd_ne this];exact hfb
  done := by
    intro X hP hw hK hc i pins s σ H E I hf st hg
    subst hP hw hK
    obtain ⟨⟨old,he⟩,h1⟩:=st
    obtain ⟨xs,hx,hend⟩:=hg
    obtain ⟨its,rv,p,_⟩:=I.list hx
    have hl:=rv.length
    exact wpAny_pyNext_enum_end (I.ok.hd hc) he h1 p.isList (by simp;lia) fun h' hk=>⟨rfl,I.turnedM (t':=s.toks) (ch:=[e,it]) hf (fun b o hb q=>by
      simp only [List.mem_cons,List.not_mem_nil,or_false,not_or] at hb
      exact hk b o hb.2 q)⟩
  self:=fun _ _ _ _ _ st h=>by
    obtain ⟨⟨old,he⟩,h1⟩:=st
    exact wpAny_pyIter_enum he h
noncomputable def uZip (K:PySem.W.Frag):List V->Hp->(It->Hp->Prop)->Prop:=fun vs H R=>match vs with
  | [.ref a,.ref b]=>(∃ xs ys,SqL K H a xs/\SqL K H b ys)/\R (Itz K a b) H
  | _=>False
noncomputable def uEnum (K:PySem.W.Frag):List V->Hp->(It->Hp->Prop)->Prop:=fun vs H R=>match vs with
  | [.ref a]=>(∃ xs,SqL K H a xs)/\R (Ite K a) H
  | _=>False
noncomputable def jArgs (u:List V->Hp->(It->Hp->Prop)->Prop) (ta:TA):TI:=fun σ H R=>ta σ H fun vs H1=>u vs H1 R
theorem boot_enumerate:bootBuiltins "enumerate"=some (.type "enumerate"):=by decide +kernel
theorem g2 {K:PySem.W.Frag} {T:Addr} {x y:V} {k0 k1:Option V} {fr:St} {H:Hp} {Q:St->Hp->Prop} (h:SqT K H T [x,y]) (q:Q (some x::some y::fr) H):gTup K 2 (gCons (gName 0) (gCons (gName 1) gNil)) (.ref T) (k0::k1::fr) H Q :=
  ⟨T,_,rfl,h,rfl,_,_,rfl,_,_,rfl,rfl,q⟩
end L2
namespace L2
open PySem PySem.Spec PyProof.Rows
end L2
namespace L2
open PySem PySem.Spec PyProof.Rows
theorem argBest_min (ns:List Int):∀ k i,i<=k->MM.at0 ns (argBest (fun i j=>decide (MM.at0 ns i < MM.at0 ns j)) k)<=MM.at0 ns i
  | 0, i,h=>by
    have:i=0:=by lia
    subst this
    exact Int.le_refl _
  | k + 1, i,h=>by
    rw [argBest]
    have ih:=argBest_min ns k
    split
    . rename_i hb
      have hb:=of_decide_eq_true hb
      by_cases e:i=k + 1
      . rw [e];exact Int.le_refl _
      . have:=ih i (by lia)
        lia
    . rename_i hb
      have hb:¬ (MM.at0 ns (k + 1) < MM.at0 ns (argBest (fun i j=>decide (MM.at0 ns i < MM.at0 ns j)) k)):=fun z=>hb (decide_eq_true z)
      by_cases e:i=k + 1
      . rw [e];lia
      . exact ih i (by lia)
theorem argBest_max (ns:List Int):∀ k i,i<=k->MM.at0 ns i<=MM.at0 ns (argBest (fun i j=>decide (MM.at0 ns j < MM.at0 ns i)) k)
  | 0, i,h=>by
    have:i=0:=by lia
    subst this
    exact Int.le_refl _
  | k + 1, i,h=>by
    rw [argBest]
    have ih:=argBest_max ns k
    split
    . rename_i hb
      have hb:=of_decide_eq_true hb
      by_cases e:i=k + 1
      . rw [e];exact Int.le_refl _
      . have:=ih i (by lia)
        lia
    . rename_i hb
      have hb:¬ (MM.at0 ns (argBest (fun i j=>decide (MM.at0 ns j < MM.at0 ns i)) k) < MM.at0 ns (k + 1)):=fun z=>hb (decide_eq_true z)
      by_cases e:i=k + 1
      . rw [e];lia
      . exact ih i (by lia)
theorem at0_mem {ns:List Int} {i:Nat} (h:i < ns.length):MM.at0 ns i∈ns:=by
  unfold MM.at0
  rw [List.getD_eq_getElem?_getD,List.getElem?_eq_getElem h]
  exact List.getElem_mem h
theorem mem_at0 {ns:List Int} {x:Int} (h:x∈ns):∃ i,i < ns.length/\MM.at0 ns i=x:=by
  obtain ⟨i,hi,e⟩:=List.mem_iff_getElem.mp h
  refine ⟨i,hi,?_⟩
  unfold MM.at0
  rw [List.getD_eq_getElem?_getD,List.getElem?_eq_getElem hi]
  exact e
theorem vals_at0 {ns:List Int} {its:List Value} (rv:Vals (ns.map V.int) its) {i:Nat} {v:Value} (h:its.toArray[i]? = some v):i < ns.length/\∃ t,v=.int (MM.at0 ns i) t:=by
  have hv':its[i]? = some v:=by simpa using h
  have hlen:=rv.length
  have hi:i < ns.length:=by
    have:=(List.getElem?_eq_some_iff.mp hv').1
    rw [List.length_map] at hlen
    lia
  refine ⟨hi,?_⟩
  have e:(ns.map V.int)[i]? = some (.int (MM.at0 ns i)):=by
    rw [List.getElem?_map,List.getElem?_eq_getElem hi]
    unfold MM.at0
    rw [List.getD_eq_getElem?_getD,List.getElem?_eq_getElem hi]
    rfl
  obtain ⟨u,hu,ru⟩:=rv.get e
  rw [hv'] at hu
  cases hu
  exact ru
section
variable {X:Cx}
noncomputable def uMinA (K:PySem.W.Frag):List V->Hp->VK->Prop:=fun xs H Q=>match xs with
  | [.int i,.int j]=>Q (.int (min i j)) H
  | [.ref p]=>∃ ns:List Int,SqL K H p (ns.map V.int)/\1<=ns.length/\∀ m,m∈ns->(∀ x∈ns,m<=x)->Q (.int m) H
  | _=>False
noncomputable def uMaxA (K:PySem.W.Frag):List V->Hp->VK->Prop:=fun xs H Q=>match xs with
  | [.int i,.int j]=>Q (.int (max i j)) H
  | [.ref p]=>∃ ns:List Int,SqL K H p (ns.map V.int)/\1<=ns.length/\∀ m,m∈ns->(∀ x∈ns,x<=m)->Q (.int m) H
  | _=>False
theorem c_minL (hc:X.calm=true):CallR X (.builtin "min") (fun xs H Q=>∃ (p:Addr) (ns:List Int),xs=[.ref p]/\SqL X.K H p (ns.map V.int)/\1<=ns.length/\∀ m,m∈ns->(∀ x∈ns,m<=x)->Q (.int m) H):=by
  intro pins s σ H xs us Q I r h
  obtain ⟨p,ns,rfl,hl,h1,q⟩:=h
  obtain ⟨u,rfl,ru⟩:=r.one
  cases ru
  obtain ⟨its,rv,pl,hz⟩:=I.list hl
  have hlen:its.toArray.size=ns.length:=by have:=rv.length;simp at this;simp;lia
  have hp:p < s.heap.objs.size:=by obtain ⟨o,n,e,_⟩:=pl;exact Heap.lt_size e
  refine call_min_walk (wpAny_pyIter_list pl.isList ?_)
  refine ⟨s.heap.objs.size,_,_,_,_,_,fun i j=>decide (MM.at0 ns i < MM.at0 ns j),rfl,Walks.list (show X.A.in1.handled=none from I.ok.hd hc) s.heap.objs.size p (Nat.ne_of_lt hp) its.toArray,⟨⟨_,Heap.get?_push_size _ rfl,rfl,rfl⟩,pl.isList.at fun o e=>Heap.get?_push_of_some _ e⟩,?_,by rw [hlen];exact h1,?_,?_⟩
  . intro b hb
    rw [Heap.size_push]
    rcases List.mem_cons.mp hb with rfl | hb
    . exact Nat.lt_succ_self _
    . have:b=p:=by simpa using hb
      subst this
      exact Nat.lt_succ_of_lt hp
  . intro i j vi vj s' Q' E' hi hj hq
    obtain ⟨_,t,rfl⟩:=vals_at0 rv hi
    obtain ⟨_,t',rfl⟩:=vals_at0 rv hj
    exact HT.rcLt_int _ _ _ _ _ _ _ _ _ _ hq
  . intro v h' tk hv hk
    obtain ⟨hi,t,rfl⟩:=vals_at0 rv hv
    rw [hlen] at hi ⊢
    refine ⟨.int _,H,I.kept (t':=tk) fun b o e=>hk b o (by simp;exact Nat.ne_of_lt (Heap.lt_size e)) (Heap.get?_push_of_some _ e),⟨_,rfl⟩,q _ (at0_mem hi) fun x hx=>?_⟩
    obtain ⟨j,hj,rfl⟩:=mem_at0 hx
    exact argBest_min ns (ns.length - 1) j (by lia)
theorem c_maxL (hc:X.calm=true):CallR X (.builtin "max") (fun xs H Q=>∃ (p:Addr) (ns:List Int),xs=[.ref p]/\SqL X.K H p (ns.map V.int)/\1<=ns.length/\∀ m,m∈ns->(∀ x∈ns,x<=m)->Q (.int m) H):=by
  intro pins s σ H xs us Q I r h
  obtain ⟨p,ns,rfl,hl,h1,q⟩:=h
  obtain ⟨u,rfl,ru⟩:=r.one
  cases ru
  obtain ⟨its,rv,pl,hz⟩:=I.list hl
  have hlen:its.toArray.size=ns.length:=by have:=rv.length;simp at this;simp;lia
  have hp:p < s.heap.objs.size:=by obtain ⟨o,n,e,_⟩:=pl;exact Heap.lt_size e
  refine call_max_walk (wpAny_pyIter_list pl.isList ?_)
  refine ⟨s.heap.objs.size,_,_,_,_,_,fun i j=>decide (MM.at0 ns j < MM.at0 ns i),rfl,Walks.list (show X.A.in1.handled=none from I.ok.hd hc) s.heap.objs.size p (Nat.ne_of_lt hp) its.toArray,⟨⟨_,Heap.get?_push_size _ rfl,rfl,rfl⟩,pl.isList.at fun o e=>Heap.get?_push_of_some _ e⟩,?_,by rw [hlen];exact h1,?_,?_⟩
  . intro b hb
    rw [Heap.size_push]
    rcases List.mem_cons.mp hb with rfl | hb
    . exact Nat.lt_succ_self _
    . have:b=p:=by simpa using hb
      subst this
      exact Nat.lt_succ_of_lt hp
  . intro i j vi vj s' Q' E' hi hj hq
    obtain ⟨_,t,rfl⟩:=vals_at0 rv hi
    obtain ⟨_,t',rfl⟩:=vals_at0 rv hj
    have hq':Q' (.bool (decide (MM.at0 ns i > MM.at0 ns j))) s':=hq
    exact (PyProof.Rows.gt_int hq':wpAny _ _ (compareOp .Gt _ _) _ _ _)
  . intro v h' tk hv hk
    obtain ⟨hi,t,rfl⟩:=vals_at0 rv hv
    rw [hlen] at hi ⊢
    refine ⟨.int _,H,I.kept (t':=tk) fun b o e=>hk b o (by simp;exact Nat.ne_of_lt (Heap.lt_size e)) (Heap.get?_push_of_some _ e),⟨_,rfl⟩,q _ (at0_mem hi) fun x hx=>?_⟩
    obtain ⟨j,hj,rfl⟩:=mem_at0 hx
    exact argBest_max ns (ns.length - 1) j (by lia)
theorem c_minA (hc:X.calm=true):CallR X (.builtin "min") (uMinA X.K):=((c_min hc).or (c_minL hc)).imp fun xs H Q q=>by
  unfold uMinA at q
  split at q
  . exact .inl q
  . obtain ⟨ns,h1,h2,h3⟩:=q
    exact .inr ⟨_,ns,rfl,h1,h2,h3⟩
  . exact q.elim
theorem c_maxA (hc:X.calm=true):CallR X (.builtin "max") (uMaxA X.K):=((c_max hc).or (c_maxL hc)).imp fun xs H Q q=>by
  unfold uMaxA at q
  split at q
  . exact .inl q
  . obtain ⟨ns,h1,h2,h3⟩:=q
    exact .inr ⟨_,ns,rfl,h1,h2,h3⟩
  . exact q.elim
end
end L2
namespace L2
open PySem PySem.Spec PyProof.Rows
section
variable {prog:Program} {w:World} {A:Around} {E:Value->Shared->Prop} {s:Shared}
theorem cat_tup0 {t b:Addr} {ws:List Value} {Q:Value->Shared->Prop} (ht:IsTup s.heap t #[]) (hb:IsTup s.heap b ws.toArray) (h:Q (.ref b) s):wpAny (model prog w) A (binaryOp .Add (.ref t) (.ref b)) Q E s:=by
  obtain ⟨⟨c1,d1,x1,l1⟩,g1,k1,n1,z1⟩:=id ht
  obtain ⟨⟨c2,d2,x2,l2⟩,g2,k2,n2,z2⟩:=id hb
  simp only at k1 z1 k2 z2
  subst k1 z1 k2 z2
  exact concat_meets ⟨_,g1,rfl⟩ ⟨_,g2,rfl⟩ PySem.noFill_tuple_add PySem.seq_tuple_add PySem.F.slot_tuple_add PySem.F.entry_tuple_add (PySem.F.args_tuple_add_2 _ _) (tuple_addW0 t b #[] ws.toArray n1 n2 d1 d2 l1 l2 rfl) ⟨g1,g2,h⟩
end
section
variable {X:Cx}
noncomputable def rCatU (K:PySem.W.Frag):R2:=fun x y H Q=>∃ a b xs ys,x=.ref a/\y=.ref b/\SqT K H a xs/\SqT K H b ys/\xs.length + ys.length<=sizeLine/\∀ p H',Same H H'->SqT K H' p (xs++ys)->Q (.ref p) H'
theorem op_catU:OpR X (binaryOp .Add) (rCatU X.K):=by
  intro pins s σ H x y v u Q I rx ry h
  obtain ⟨a,b,xs,ys,rfl,rfl,ha,hb,hz,q⟩:=h
  by_cases hx:xs=[]
  . subst hx
    cases rx
    cases ry
    obtain ⟨its,r1,p1,_⟩:=I.tuple ha
    obtain ⟨its2,r2,p2,_⟩:=I.tuple hb
    cases r1
    exact cat_tup0 p1 p2 ⟨.ref b,H,I,rfl,q b H (Same.refl _) hb⟩
  . refine op_catT pins s σ H (.ref a) (.ref b) v u Q I rx ry ⟨a,b,xs,ys,rfl,rfl,ha,hb,hx,hz,fun e=>?_,fun _ p hp=>?_⟩
    . subst e
      exact q a H (Same.refl _) (by rw [List.append_nil];exact ha)
    . exact q p _ (Same.upd_new hp) (SqT.of upd_same)
noncomputable def rSlU (K:PySem.W.Frag):V->Option Int->Option Int->Hp->VK->Prop:=fun x lo hi H Q=>∃ a xs,x=.ref a/\SqT K H a xs/\∀ p H',Same H H'->SqT K H' p (cutV xs lo hi)->Q (.ref p) H'
end
section
variable {prog:Program} {w:World} {A:Around} {E:Value->Shared->Prop} {s:Shared}
theorem cut_whole {t sl:Addr} {items:Array Value} {vl vu:Value} {lo hi:Option Int} {Q:Value->Shared->Prop} (ht:IsTup s.heap t items) (hs:s.heap.IsSliceOf sl vl vu .none) (pl:IsPart vl lo) (pu:IsPart vu hi)
    (h1:HT.sIx items.size 0 lo=0) (h2:HT.sIx items.size items.size hi=items.size) (h:Q (.ref t) s):wpAny (model prog w) A (getItem (.ref t) (.ref sl)) Q E s:=by
  obtain ⟨ob,g1,g2,g3⟩:=id hs
  have hT:s.TypeIs (.ref sl) "slice":=⟨ob,g1,g2⟩
  unfold getItem
  try with_reducible refine wpAny_holding ?_
  first | refine wpAny_bind (wpAny_pure ?_) | skip
  refine wpAny_bind (wpAny_sequenceKey ht.typeIs (by decide) ?_)
  have key:wpAny (model prog w) A.in1 (Builtin.«tuple.__getitem__» ⟨[.ref t,.ref sl],[]⟩) (fun fin s'=>∃ v,fin=.done (.ret v)/\Q v s') E s:=by
    show wpAny _ _ (Builtin.Tuple.tupleItemsOf (.ref t) >>= _) _ _ s
    refine wpAny_bind (PyProof.Rows.tupleItemsOf_ ht (wpAny_bind (wpAny_typeOf hT ?_)))
    rw [if_pos (by decide)]
    refine wpAny_bind (HT.sliceApplied_gen hs pl pu ?_)
    rw [h1,h2]
    show wpAny _ _ (if ((((0:Nat):Int) == 0 && (1:Int) == 1 && (items.size - 0) == items.size))=true then _ else _) _ _ s
    rw [if_pos (by simp)]
    refine wpAny_bind (wpAny_bind (wpAny_typeOf ht.typeIs (wpAny_pure ?_)))
    rw [if_pos (by decide)]
    exact wpAny_bind (wpAny_rule (wpAny_pure ⟨_,rfl,h⟩))
  exact wpAny_bind (wpAny_callSpecial?_slot (name:=Str.ofString "__getitem__") ht.typeIs PyProof.Rows.slot_tuple_getitem (wpAny_call_entry PyProof.Rows.slot_tuple_getitem ht.typeIs PyProof.Rows.entry_tuple_getitem (wpAny_mono key (fun fin s' ⟨v,e,q⟩=>⟨v,e,wpAny_pure q⟩) fun _ _ z=>z) (PyProof.Rows.args_tuple_getitem _ _)))
end
section
variable {X:Cx}
theorem cutV_whole {xs:List V} {lo hi:Option Int} (h1:HT.sIx xs.length 0 lo=0) (h2:HT.sIx xs.length xs.length hi=xs.length):cutV xs lo hi=xs:=by
  unfold cutV
  rw [h1,h2,List.drop_zero,Nat.sub_zero,List.take_length]
theorem sl_tupU:SlR X (rSlU X.K):=by
  intro pins s σ H x v vl vu lo hi sl Q I rx hs pl pu h
  obtain ⟨a,xs,rfl,hx,q⟩:=h
  by_cases hw:HT.sIx xs.length 0 lo=0/\HT.sIx xs.length xs.length hi=xs.length
  . cases rx
    obtain ⟨its,r,ht,hz⟩:=I.tuple hx
    have hlen:its.toArray.size=xs.length:=by rw [List.size_toArray];exact r.length.symm
    refine ⟨"tuple",_,PyProof.Rows.slot_tuple_getitem.lookup,ht.typeIs,cut_whole ht hs pl pu (by rw [hlen];exact hw.1) (by rw [hlen];exact hw.2) ⟨.ref a,H,I,rfl,q a H (Same.refl _) ?_⟩⟩
    rw [cutV_whole hw.1 hw.2]
    exact hx
  . exact sl_tup pins s σ H (.ref a) v vl vu lo hi sl Q I rx hs pl pu ⟨a,xs,rfl,hx,hw,fun p hp=>q p _ (Same.upd_new hp) (SqT.of upd_same)⟩
noncomputable def uAddW (K:PySem.W.Frag):R2:=fun x y H Q=>match x,y with
  | .int i,.int j=>Q (.int (i + j)) H
  | .str i,.str j=>i.length + j.length<=sizeLine/\Q (.str (i++j)) H
  | .ref a,.ref b=>(∃ xs zs,SqL K H a xs/\SqL K H b zs/\xs.length + zs.length<=sizeLine/\∀ p,H p=none->Q (.ref p) (upd H p (.lst (xs++zs)))) \/
      (∃ xs zs,SqT K H a xs/\SqT K H b zs/\xs.length + zs.length<=sizeLine/\∀ p H',Same H H'->SqT K H' p (xs++zs)->Q (.ref p) H')
  | _,_=>False
theorem o_addW:OpR X (binaryOp .Add) (uAddW X.K):=((op_add.or op_add_str).or (op_catL.or op_catU)).imp fun x y H Q q=>by
  unfold uAddW at q
  split at q
  . exact .inl (.inl ⟨_,_,rfl,rfl,q⟩)
  . exact .inl (.inr ⟨_,_,rfl,rfl,q.1,q.2⟩)
  . rcases q with ⟨xs,zs,h1,h2,h3,h4⟩ | ⟨xs,zs,h1,h2,h3,h4⟩
    . exact .inr (.inl ⟨_,_,xs,zs,rfl,rfl,h1,h2,h3,h4⟩)
    . exact .inr (.inr ⟨_,_,xs,zs,rfl,rfl,h1,h2,h3,h4⟩)
  . exact q.elim
noncomputable def uSlW (K:PySem.W.Frag):V->Option Int->Option Int->Hp->VK->Prop:=fun x lo hi H Q=>match x with
  | .str z=>z.length<=sizeLine/\Q (.str (cutS z lo hi)) H
  | .ref a=>(∃ xs,SqL K H a xs/\∀ p,H p=none->Q (.ref p) (upd H p (.lst (cutV xs lo hi))))\/(∃ xs,SqT K H a xs/\∀ p H',Same H H'->SqT K H' p (cutV xs lo hi)->Q (.ref p) H')
  | _=>False
theorem o_slW:SlR X (uSlW X.K):=by
  intro pins s σ H x v vl vu lo hi sl Q I rx hs pl pu q
  unfold uSlW at q
  split at q
  . exact sl_str pins s σ H _ v vl vu lo hi sl Q I rx hs pl pu ⟨_,rfl,q.1,q.2⟩
  . rcases q with ⟨xs,h1,h2⟩ | ⟨xs,h1,h2⟩
    . exact sl_list pins s σ H _ v vl vu lo hi sl Q I rx hs pl pu ⟨_,xs,rfl,h1,h2⟩
    . exact sl_tupU pins s σ H _ v vl vu lo hi sl Q I rx hs pl pu ⟨_,xs,rfl,h1,h2⟩
  . exact q.elim
end
section
open PySem.AutoSeq1 (wpAny_loadPart')
variable {prog:Program} {w:World} {A:Around} {E:Value->Shared->Prop} {s:Shared}
theorem enum_new_tup (t:Addr) (items:Array Value) (n:Nat) (dd:Option Addr) (sl:Array (Option Value)) :
    Meets (Builtin.«enumerate.__new__» ⟨[.type "enumerate",.ref t],[]⟩) (fun _ R s=>s.heap.get? t=some { cls:=.type "tuple",dict:=dd,data:=.seq items n,slots:=sl } /\
      R (.ok (.ret (.ref (s.heap.push { cls:=.type "tuple_iterator",data:=.fields #[.ref t,.int 0 0] }).objs.size)))
        { s with heap:=(s.heap.push { cls:=.type "tuple_iterator",data:=.fields #[.ref t,.int 0 0] }).push { cls:=.type "enumerate",data:=.fields #[.none,.bool false,.ref s.heap.objs.size,rawInt 0,.none,.none] } }) :=
  .of_wp fun prog w A R s hq0=>by
    obtain ⟨g1,g2⟩:=hq0
    obtain ⟨hp,ge,dr,tk,os⟩:=s
    have es:=sub_enumerate
    have hL:Heap.IsTuple (Shared.heap ⟨hp,ge,dr,tk,os⟩) t items:=⟨_,g1,rfl,n,rfl⟩
    wp_walk using wpAny_loadPart' g1
    refine wpAny_stack_any fun st=>wpAny_pure ?_
    split
    . rename_i cc _ _ _ _ _
      cases (cc == Value.type "enumerate") <;> (wp_walk using wpAny_loadPart' g1,wpAny_pyIter_tuple hL;exact ⟨_,rfl,g2⟩)
    . wp_walk using wpAny_loadPart' g1,wpAny_pyIter_tuple hL
      exact ⟨_,rfl,g2⟩
end
section
variable {prog:Program} {w:World} {A:Around} {E:Value->Shared->Prop} {s:Shared}
theorem call_enum_tup {t:Addr} {items:Array Value} {Q:Value->Shared->Prop} (ht:s.heap.IsTuple t items)
    (h:∀ h',IsEnum h' (s.heap.objs.size + 1) s.heap.objs.size 0 .none->h'.IsTupleIter s.heap.objs.size t 0->(∀ b o,s.heap.get? b=some o->h'.get? b=some o)->Q (.ref (s.heap.objs.size + 1)) { s with heap:=h' }) :
    wpAny (model prog w) A (call (.type "enumerate") [.ref t]) Q E s:=by
  obtain ⟨⟨c,dd,dt,sl⟩,g1,k1,n,k2⟩:=ht
  simp only at k1 k2
  subst k1 k2
  have e1:(s.heap.push { cls:=.type "tuple_iterator",data:=.fields #[.ref t,.int 0 0] }).objs.size=s.heap.objs.size + 1:=Heap.size_push ..
  have e2:IsEnum ((s.heap.push { cls:=.type "tuple_iterator",data:=.fields #[.ref t,.int 0 0] }).push { cls:=.type "enumerate",data:=.fields #[.none,.bool false,.ref s.heap.objs.size,rawInt 0,.none,.none] }) (s.heap.objs.size + 1) s.heap.objs.size 0 .none:=by
    rw [<- e1]
    exact Heap.get?_push_size _ rfl
  refine callType_new F.called_enumerate (by decide) (F.typeCall_enumerate_1 _) (F.newCall_enumerate_1 _) (fun ob=>F.args_object_init_2 ob _) F.entry_enumerate_new (enum_new_tup t items n dd sl) ⟨g1,?_⟩
  show _/\_
  rw [e1]
  exact ⟨⟨_,e2,rfl⟩,h _ e2 ⟨_,Heap.get?_push_of_some _ (Heap.get?_push_size _ rfl),rfl,rfl⟩ fun b o z=>Heap.get?_push_of_some _ (Heap.get?_push_of_some _ z)⟩
theorem next_tup_item {it t:Addr} {i:Nat} {items:Array Value} {x:Value} {Q:Value->Shared->Prop} (st:s.heap.IsTupleIter it t i) (ht:s.heap.IsTuple t items) (hx:items[i]? = some x)
    (hQ:∀ h',h'.IsTupleIter it t (i + 1)->Heap.SameBut it s.heap h'->Q x { s with heap:=h' }):wpAny (model prog w) A (Builtin.SmallTypes.nextOf (.ref it)) Q E s:=by
  obtain ⟨ob,g1,g2,g3⟩:=id st
  obtain ⟨ol,k1,k2,n,k3⟩:=ht
  have no:¬ ((Value.ref t == Value.none)=true):=Bool.false_ne_true
  unfold Builtin.SmallTypes.nextOf
  refine wpAny_bind (wpAny_callSpecial?_slot (name:=Str.ofString "__next__") st.typeIs F.slot_tuple_iterator_next (wpAny_call_entry F.slot_tuple_iterator_next st.typeIs F.entry_tuple_iterator_next ?_ (F.args_tuple_iterator_next_1 _)))
  refine (show wpAny _ _ (field (.ref it) 0 >>= _) _ _ s from wpAny_bind (wpAny_field g1 g3 (x:=.ref t) rfl ?_))
  refine (show wpAny _ _ (if (Value.ref t == Value.none)=true then _ else _) _ _ s from ?_)
  rw [if_neg no]
  refine (show wpAny _ _ (field (.ref it) 1 >>= _) _ _ s from wpAny_bind (wpAny_field g1 g3 (x:=.int i 0) rfl ?_))
  refine (show wpAny _ _ (seqItems? (.ref t) >>= _) _ _ s from wpAny_bind (wpAny_seqItems k1 k3 ?_))
  simp only [hx,Int.toNat_natCast]
  refine wpAny_bind (wpAny_setField g1 g3 (by simp) (wpAny_pure ⟨x,rfl,wpAny_pure (hQ _ ⟨_,Heap.get?_update_self _ g1 (Obj.isFreed_of_fields (Obj.data_mapFields g3 _)),(Obj.cls_mapFields ..).trans g2,?_⟩ (Heap.SameBut.update ..))⟩))
  rw [Obj.data_mapFields g3]
  simp [rawInt]
theorem enum_item {e it:Addr} {i:Nat} {x old:Value} {Q:Option Value->Shared->Prop} {T1:Heap->Prop} (he:IsEnum s.heap e it i old) (hne:e≠it)
    (hk:∀ h h',T1 h->(∀ o,h.get? it=some o->h'.get? it=some o)->T1 h')
    (hn:∀ (A':Around) (E':Value->Shared->Prop) (Q':Value->Shared->Prop),(∀ h',T1 h'->Heap.SameBut it s.heap h'->Q' x { s with heap:=h' })->wpAny (model prog w) A' (Builtin.SmallTypes.nextOf (.ref it)) Q' E' s)
    (hQ : ∀ h',IsEnumOut h' e it ((i:Int) + 1) x s.heap.objs.size->T1 h'->h'.get? s.heap.objs.size=some { cls:=.type "tuple",data:=.seq #[.int i s.toks,x] } ->
      (∀ b o,b≠e->b≠it->s.heap.get? b=some o->h'.get? b=some o)->Q (some (.ref s.heap.objs.size)) { s with heap:=h',toks:=s.toks + 1 }) :
    wpAny (model prog w) A (pyNext (.ref e)) Q E s:=by
  have hT:s.TypeIs (.ref e) "enumerate":=⟨_,he,rfl⟩
  have lt:e < s.heap.objs.size:=Heap.lt_size he
  have core:wpAny (model prog w) A.in1 (Builtin.«enumerate.__next__» ⟨[.ref e],[]⟩) (fun fin s'=>∃ v,fin=.done (.ret v)/\wpAny (model prog w) A (pure (some v)) Q E s') (fun _ _=>False) s:=by
    obtain ⟨hp,ge,dr,tk,os⟩:=s
    refine (show wpAny _ _ (field (.ref e) 2 >>= _) _ _ _ from wpAny_bind (wpAny_field he rfl (x:=.ref it) rfl (wpAny_bind (hn _ _ _ fun h1 t1 b1=>?_))))
    have b1:Heap.SameBut it hp h1:=b1
    have g1:IsEnum h1 e it i old:=(b1.2 e hne).trans he
    refine (show wpAny _ _ (field (.ref e) 3 >>= _) _ _ ⟨h1,ge,dr,tk,os⟩ from wpAny_bind (wpAny_field g1 rfl (x:=rawInt i) rfl ?_))
    refine (show wpAny _ _ (field (.ref e) 4 >>= _) _ _ ⟨h1,ge,dr,tk,os⟩ from wpAny_bind (wpAny_field g1 rfl (x:=.none) rfl ?_))
    refine (show wpAny _ _ (mkInt i >>= _) _ _ ⟨h1,ge,dr,tk,os⟩ from wpAny_bind (wpAny_mkInt ?_))
    refine (show wpAny _ _ (setField (.ref e) 3 (rawInt ((i:Int) + 1)) >>= _) _ _ ⟨h1,ge,dr,tk + 1,os⟩ from wpAny_bind (wpAny_setField_rec g1 (by simp) fun h2 g2 b2=>?_))
    have b2:Heap.SameBut e h1 h2:=b2
    have g2:IsEnum h2 e it ((i:Int) + 1) old:=g2
    refine (show wpAny _ _ (setField (.ref e) 4 .none >>= _) _ _ ⟨h2,ge,dr,tk + 1,os⟩ from wpAny_bind (wpAny_setField_rec g2 (by simp) fun h3 g3 b3=>?_))
    have b3:Heap.SameBut e h2 h3:=b3
    have g3:IsEnum h3 e it ((i:Int) + 1) old:=g3
    have z3:h3.objs.size=hp.objs.size:=by rw [b3.1,b2.1,b1.1]
    refine (show wpAny _ _ (newTuple [.int i tk,x] >>= _) _ _ ⟨h3,ge,dr,tk + 1,os⟩ from wpAny_bind (wpAny_newTuple ?_))
    have g4:IsEnum (h3.push { cls:=.type "tuple",data:=.seq #[.int i tk,x] }) e it ((i:Int) + 1) old:=Heap.get?_push_of_some _ g3
    have u4:(h3.push { cls:=.type "tuple",data:=.seq #[.int i tk,x] }).get? hp.objs.size=some { cls:=.type "tuple",data:=.seq #[.int i tk,x] }:=by
      rw [<- z3]
      exact Heap.get?_push_size _ rfl
    have v4:∀ b o,b≠e->b≠it->hp.get? b=some o->(h3.push { cls:=.type "tuple",data:=.seq #[.int i tk,x] }).get? b=some o:=fun b o q1 q2 q3=>Heap.get?_push_of_some _ (b3.extBut b o q1 (b2.extBut b o q1 (b1.extBut b o q2 q3)))
    have w4:T1 (h3.push { cls:=.type "tuple",data:=.seq #[.int i tk,x] }):=hk h1 _ t1 fun o q=>Heap.get?_push_of_some _ (b3.extBut it o (Ne.symm hne) (b2.extBut it o (Ne.symm hne) q))
    generalize h3.push { cls:=.type "tuple",data:=.seq #[.int i tk,x] }=h4 at g4 u4 v4 w4 ⊢
    rw [z3]
    refine (show wpAny _ _ (Builtin.SmallTypes.ownedTupleIsFree (.ref e) >>= _) _ _ ⟨h4,ge,dr,tk + 1,os⟩ from wpAny_bind ?_)
    unfold Builtin.SmallTypes.ownedTupleIsFree
    refine wpAny_bind (wpAny_field g4 rfl (x:=.none) rfl (wpAny_pure ?_))
    simp only [if_true]
    refine wpAny_bind (wpAny_rule (wpAny_bind (wpAny_field g4 rfl (x:=old) rfl (wpAny_bind (wpAny_setField_rec g4 (by simp) fun h5 g5 b5=>?_)))))
    have b5:Heap.SameBut e h4 h5:=b5
    have g5:IsEnum h5 e it ((i:Int) + 1) x:=g5
    refine (show wpAny _ _ (Builtin.SmallTypes.ownedTupleHandOut (.ref e) (.ref hp.objs.size) >>= _) _ _ ⟨h5,ge,dr,tk + 1,os⟩ from wpAny_bind ?_)
    unfold Builtin.SmallTypes.ownedTupleHandOut
    refine wpAny_bind (wpAny_setField_rec g5 (by simp) fun h6 g6 b6=>?_)
    have b6:Heap.SameBut e h5 h6:=b6
    have g6:IsEnumOut h6 e it ((i:Int) + 1) x hp.objs.size:=g6
    refine wpAny_setField_rec g6 (by simp) fun h7 g7 b7=>?_
    have b7:Heap.SameBut e h6 h7:=b7
    have g7:IsEnumOut h7 e it ((i:Int) + 1) x hp.objs.size:=g7
    have on:∀ b o,b≠e->h4.get? b=some o->h7.get? b=some o:=fun b o q1 q2=>b7.extBut b o q1 (b6.extBut b o q1 (b5.extBut b o q1 q2))
    exact wpAny_bind (wpAny_letGo (wpAny_pure ⟨_,rfl,wpAny_pure (hQ h7 g7 (hk h4 h7 w4 fun o q=>on it o (Ne.symm hne) q) (on _ _ (Nat.ne_of_gt lt) u4) fun b o q1 q2 q3=>on b o q1 (v4 b o q1 q2 q3))⟩))
  unfold pyNext
  exact wpAny_bind (wpAny_attempt (wpAny_callSpecial?_slot (name:=Str.ofString "__next__") hT F.slot_enumerate_next (wpAny_call_entry F.slot_enumerate_next hT F.entry_enumerate_next (wpAny_mono core (fun fin s' ⟨v,q1,q2⟩=>⟨v,q1,q2⟩) fun _ _ z=>z.elim) (F.args_enumerate_next_1 _))))
end
section
variable {prog:Program} {w:World} {A:Around} {E:Value->Shared->Prop} {s:Shared}
theorem next_tup_end {it t:Addr} {i:Nat} {items:Array Value} {Q:Value->Shared->Prop} (hh:A.handled=none) (st:s.heap.IsTupleIter it t i) (ht:s.heap.IsTuple t items) (hx:items[i]? = none)
    (hE:∀ h' e,Heap.ExtBut it s.heap h'->(∃ o,h'.get? e=some o/\o.cls=.type "StopIteration")->E (.ref e) { s with heap:=h' }):wpAny (model prog w) A (Builtin.SmallTypes.nextOf (.ref it)) Q E s:=by
  obtain ⟨ob,g1,g2,g3⟩:=id st
  obtain ⟨ol,k1,k2,n,k3⟩:=ht
  have no:¬ ((Value.ref t == Value.none)=true):=Bool.false_ne_true
  unfold Builtin.SmallTypes.nextOf
  refine wpAny_bind (wpAny_callSpecial?_slot (name:=Str.ofString "__next__") st.typeIs F.slot_tuple_iterator_next (wpAny_call_entry F.slot_tuple_iterator_next st.typeIs F.entry_tuple_iterator_next ?_ (F.args_tuple_iterator_next_1 _)))
  refine (show wpAny _ _ (field (.ref it) 0 >>= _) _ _ s from wpAny_bind (wpAny_field g1 g3 (x:=.ref t) rfl ?_))
  refine (show wpAny _ _ (if (Value.ref t == Value.none)=true then _ else _) _ _ s from ?_)
  rw [if_neg no]
  refine (show wpAny _ _ (field (.ref it) 1 >>= _) _ _ s from wpAny_bind (wpAny_field g1 g3 (x:=.int i 0) rfl ?_))
  refine (show wpAny _ _ (seqItems? (.ref t) >>= _) _ _ s from wpAny_bind (wpAny_seqItems k1 k3 ?_))
  simp only [hx,Int.toNat_natCast]
  refine wpAny_bind (wpAny_rule (wpAny_bind (wpAny_setField g1 g3 (by simp) (show wpAny _ _ (newExc (.type "StopIteration") [] >>= _) _ _ _ from wpAny_bind ?_))))
  simp only [newTuple,newExc]
  refine wpAny_bind (wpAny_newObj_type (wpAny_bind (m:=firstArgMember _ _) (wpAny_of_eq (a:=Value.none) (by first | rfl | (simp only [firstArgMember];rfl)) (wpAny_newObj_type ?_ (by size_fits)))) (by size_fits))
  simp only [raiseNew]
  refine wpAny_bind (wpAny_handled ?_)
  first | rw [hh] | rw [show A.in1.handled=none from hh]
  exact wpAny_bind (wpAny_pure (wpAny_throw (hE _ _ (((Heap.SameBut.update ..).extBut.push _).push _) ⟨_,Heap.get?_push_size _ rfl,rfl⟩)))
theorem enum_end {e it:Addr} {i:Int} {old:Value} {Q:Option Value->Shared->Prop} (he:IsEnum s.heap e it i old)
    (hn:∀ (E':Value->Shared->Prop) (Q':Value->Shared->Prop),(∀ h' x,Heap.ExtBut it s.heap h'->(∃ o,h'.get? x=some o/\o.cls=.type "StopIteration")->E' (.ref x) { s with heap:=h' })->wpAny (model prog w) A.in1 (Builtin.SmallTypes.nextOf (.ref it)) Q' E' s)
    (hQ:∀ h',Heap.ExtBut it s.heap h'->Q none { s with heap:=h' }):wpAny (model prog w) A (pyNext (.ref e)) Q E s:=by
  have hT:s.TypeIs (.ref e) "enumerate":=⟨_,he,rfl⟩
  unfold pyNext
  refine wpAny_bind (wpAny_attempt (wpAny_callSpecial?_slot (name:=Str.ofString "__next__") hT F.slot_enumerate_next (wpAny_call_entry F.slot_enumerate_next hT F.entry_enumerate_next ?_ (F.args_enumerate_next_1 _))))
  refine (show wpAny _ _ (field (.ref e) 2 >>= _) _ _ _ from wpAny_bind (wpAny_field he rfl (x:=.ref it) rfl (wpAny_bind (hn _ _ fun h' x q1 q2=>?_))))
  obtain ⟨o,ho,hc⟩:=q2
  exact wpAny_bind (wpAny_isInstance (T:="StopIteration") (b:=true) ⟨o,ho,hc⟩ isSubtype_stop (wpAny_pure (hQ _ q1)))
end
noncomputable def Iteu (K:PySem.W.Frag) (a:Addr):It :=
  ⟨fun i H=>∃ xs x,SqT K H a xs/\xs[i]? = some x,
   fun i H v H'=>∃ T x,v=.ref T/\H T=none/\H'=upd H T (.tup [.int i,x])/\(∀ xs,SqT K H a xs->xs[i]? = some x),
   fun i H=>∃ xs,SqT K H a xs/\xs.length<=i⟩
theorem turn_enumT {P:Program} {w:World} {K:PySem.W.Frag} {elts:List Expr} {k0} {pos:Pos} {e it l:Addr} (hne:e≠it):Turn P w K (.Tuple elts k0 pos) (Iteu K l) [e,it] e
    (fun i h=>(∃ old,IsEnum h e it i old)/\h.IsTupleIter it l i) where
  mem:=by simp
  obj := fun i h st b hb=>by
    obtain ⟨⟨old,he⟩,h1⟩:=st
    simp only [List.mem_cons,List.not_mem_nil,or_false] at hb
    rcases hb with rfl | rfl
    . exact ⟨_,he,fun v q=>nomatch q⟩
    . obtain ⟨o,e,c,d⟩:=h1
      exact ⟨o,e,fun v q=>by rw [d] at q;cases q⟩
  keep:=fun i h h' st k=>by
    obtain ⟨⟨old,he⟩,h1⟩:=st
    exact ⟨⟨old,k e (by simp) _ he⟩,h1.at fun o q=>k it (by simp) o q⟩
  item := by
    intro X hP hw hK hc i pins s σ H E I hf st hg
    subst hP hw hK
    obtain ⟨⟨old,he⟩,h1⟩:=st
    obtain ⟨xs,x,hx,hxi⟩:=hg
    obtain ⟨its,rv,p,_⟩:=I.tuple hx
    obtain ⟨u,hu,ru⟩:=rv.get hxi
    refine enum_item (x:=u) (T1:=fun h=>h.IsTupleIter it l (i + 1)) he hne (fun h h' a b=>a.at b) (fun A' E' Q' q=>next_tup_item h1 p (by simpa using hu) q) fun h' a1 a2 a3 hk=>?_
    refine ⟨_,rfl,wpAny_letOwnedTupleGo_enum a1 fun h'' he' sb=>?_⟩
    have nz:s.heap.objs.size≠e:=Nat.ne_of_gt (Heap.lt_size he)
    have hT':IsTup h'' s.heap.objs.size [Value.int i s.toks,u].toArray:=⟨_,sb.extBut _ _ nz a3,rfl,_,rfl⟩
    have I':Inv X pins σ (upd H s.heap.objs.size (.tup [.int i,x])) { s with heap:=h'',toks:=s.toks + 1 }:=I.turnedL (ch:=[e,it]) hf (fun b o hb q=>by
      simp only [List.mem_cons,List.not_mem_nil,or_false,not_or] at hb
      exact sb.extBut _ _ hb.1 (hk b o hb.1 hb.2 q)) (Nat.le_refl _) ⟨by show 2<=sizeLine;decide,[Value.int i s.toks,u],.cons ⟨_,rfl⟩ (.cons ru .nil),hT'⟩
    have hn:H s.heap.objs.size=none:=I.hok.fresh (Nat.le_refl _)
    refine ⟨.ref s.heap.objs.size,_,I',rfl,⟨_,x,rfl,hn,rfl,fun zs hzs=>by rw [I.tuple_inj hzs hx];exact hxi⟩,⟨⟨_,by push_cast;exact he'⟩,a2.at fun o q=>sb.extBut it o (Ne.symm hne) q⟩,fun b hb=>?_⟩
    have hfb:=(hf b hb).1
    have : b≠s.heap.objs.size:=by
      obtain ⟨o,q⟩:∃ o,s.heap.get? b=some o:=by
        simp only [List.mem_cons,List.not_mem_nil,or_false] at hb
        rcases hb with rfl | rfl
        . exact ⟨_,he⟩
        . obtain ⟨o,q,_⟩:=h1;exact ⟨o,q⟩
      exact Nat.ne_of_lt (Heap.lt_size q)
    rw [upd_ne this];exact hfb
  done := by
    intro X hP hw hK hc i pins s σ H E I hf st hg
    subst hP hw hK
    obtain ⟨⟨old,he⟩,h1⟩:=st
    obtain ⟨xs,hx,hend⟩:=hg
    obtain ⟨its,rv,p,_⟩:=I.tuple hx
    have hl:=rv.length
    exact enum_end he (fun E' Q' q=>next_tup_end (show X.A.in1.handled=none from I.ok.hd hc) h1 p (by simp;lia) q) fun h' hk=>⟨rfl,I.turnedM (t':=s.toks) (ch:=[e,it]) hf (fun b o hb q=>by
      simp only [List.mem_cons,List.not_mem_nil,or_false,not_or] at hb
      exact hk b o hb.2 q)⟩
  self:=fun _ _ _ _ _ st h=>by
    obtain ⟨⟨old,he⟩,h1⟩:=st
    exact wpAny_pyIter_enum he h
noncomputable def uEnumT (K:PySem.W.Frag):List V->Hp->(It->Hp->Prop)->Prop:=fun vs H R=>match vs with
  | [.ref a]=>(∃ xs,SqT K H a xs)/\R (Iteu K a) H
  | _=>False
end L2
namespace L2
open PySem PySem.Spec PyProof.Rows
theorem boot_reversed:bootBuiltins "reversed"=some (.type "reversed"):=by decide +kernel
section
variable {X:Cx} {e:Expr} {te:TE} {p1 p2 pos1 pos2:Pos}
theorem rev_made (hc:X.calm=true) (hg2:Gl X "reversed") (hm2:X.mg "reversed"=none) (he:PE X e te) (hs2:starEach [e] X.env=[(false,eval e X.env)]) {pins:List (Addr × Obj)} {s:Shared} {σ:St} {H:Hp} {R:Addr->List V->Hp->Prop} {Q:Value->Shared->Prop} (I:Inv X pins σ H s)
    (h:te σ H fun x H1=>∃ a xs,x=.ref a/\SqL X.K H1 a xs/\R a xs H1)
    (k:∀ a xs H1 s1 its,Inv X pins σ H1 s1->SqL X.K H1 a xs->Vals xs its->s1.heap.IsList a its.toArray->xs.length<=sizeLine->R a xs H1->Q (.ref s1.heap.objs.size) { s1 with heap:=s1.heap.push (revObj a ((its.toArray.size:Int) - 1)) }) :
    wpAny (model X.prog X.w) X.A (eval (.Call (.Name "reversed" p2) [e] [] pos2) X.env) Q X.xe s:=by
  refine wpAny_Call_Name_kw (ld_blt I hg2 hm2 boot_reversed ?_ (by decide) (by decide))
  refine PyProof.Rows.callWith_type1 (T:="reversed") ?_ hs2 rfl
  rw [hs2]
  refine (show wpAny _ _ (spliced ((false,eval e X.env)::[])) _ _ s from Calls.spliced_cons (thn (he pins s σ H _ I h) fun v s1 ⟨x,H1,I1,r1,a,xs,e1,hx,q⟩=>Calls.spliced_nil ?_))
  subst e1
  cases r1
  obtain ⟨its,rv,pl,hz⟩:=I1.list hx
  exact call_reversed_list pl.isList (k a xs H1 s1 its I1 hx rv pl.isList hz q)
end
end L2
namespace L2
open PySem PySem.Spec PyProof.Rows
inductive Wr where
  | nothing
  | bead (c:Str)
  | side (b:Bool) (f:Wr)
  | pair (f g:Wr)
  | many (k:Nat) (ps:List Wr)
noncomputable def mname:Nat->Str
  | 0=>"row"
  | 1=>"bag"
  | 2=>"choice"
  | _=>"ring"
noncomputable def sname:Bool->Str
  | true=>"right"
  | false=>"left"
noncomputable def Wr.name:Wr->Str
  | .nothing=>"nothing"
  | .bead _=>"bead"
  | .side b _=>sname b
  | .pair _ _=>"pair"
  | .many k _=>mname k
mutual
noncomputable def Wr.tups:Wr->Nat
  | .nothing=>1
  | .bead _=>1
  | .side _ f=>1 + f.tups
  | .pair f g=>1 + (f.tups + (g.tups + 0))
  | .many _ ps=>1 + tupsL ps
noncomputable def tupsL:List Wr->Nat
  | []=>0
  | w::ws=>w.tups + tupsL ws
end
noncomputable def SameT (K:PySem.W.Frag) (H H':Hp):Prop:=∀ a xs,SqT K H a xs->SqT K H' a xs
theorem SameT.trans {K:PySem.W.Frag} {H H1 H2:Hp} (h:SameT K H H1) (k:SameT K H1 H2):SameT K H H2:=fun a xs q=>k a xs (h a xs q)
theorem Same.tups {K:PySem.W.Frag} {H H':Hp} (e:Same H H'):SameT K H H':=fun _ _ h=>e.sq h
theorem SameT.lst {K:PySem.W.Frag} {H:Hp} {l:Addr} {ys zs:List V} (h:H l=some (.lst ys)):SameT K H (upd H l (.lst zs)):=fun a xs q=>by
  rcases q with (q | ⟨o,q⟩) | q
  . refine .inl (.inl ?_)
    rw [upd_ne (ne_of q h (by intro z;cases z))];exact q
  . refine .inl (.inr ⟨o,?_⟩)
    rw [upd_ne (ne_of q h (by intro z;cases z))];exact q
  . exact .inr q
noncomputable def tn (ps:List Wr) (i:Nat):Int:=((ps.map Wr.tups).getD i 0:Nat)
end L2
namespace L2
open PySem PySem.Spec PyProof.Rows
noncomputable def Itv (K:PySem.W.Frag) (a:Addr) (n:Nat):It :=
  ⟨fun i H=>i < n/\∃ xs x,SqL K H a xs/\xs[n - 1 - i]? = some x,fun i H x H'=>H'=H/\∀ xs,SqL K H a xs->xs[n - 1 - i]? = some x,fun i _=>i=n⟩
theorem turn_rev {P:Program} {w:World} {K:PySem.W.Frag} {tg:Expr} (a it:Addr) (n:Nat):Turn P w K tg (Itv K a n) [it] it (fun i h=>h.IsRevIter it a ((n:Int) - 1 - (i:Int))):=by
  refine ⟨by simp,fun i h st b hb=>?_,fun i h h' st k=>st.at fun o e=>k it (by simp) o e,?_,?_,fun _ _ _ _ _ st h=>wpAny_pyIter_revIter st h⟩
  . obtain rfl:b=it:=by simpa using hb
    obtain ⟨o,e1,_,d⟩:=st
    exact ⟨o,e1,fun v z=>by rw [d] at z;cases z⟩
  . intro X e1 e2 e3 hc i pins s σ H E I hf st ⟨hi,xs,x,hq,hx⟩
    subst e1 e2 e3
    obtain ⟨its,rv,pl,hz⟩:=I.list hq
    obtain ⟨u,hu,ru⟩:=rv.get hx
    obtain ⟨f0,f1,_,f3,f4,f5⟩:=hf it (by simp)
    have st2:s.heap.IsRevIter it a ((n - 1 - i:Nat):Int):=by
      have:((n - 1 - i:Nat):Int)=(n:Int) - 1 - (i:Int):=by lia
      rw [this];exact st
    refine wpAny_pyNext_rev_item st2 pl.isList (x:=u) (by simpa using hu) fun h' st' sb=>?_
    have J1:Inv X pins σ H { s with heap:=h' }:=I.turned (t':=s.toks) (fun b o hb z=>(sb.2 b hb).trans z) f0 f1 f3 f4 f5
    have st3:h'.IsRevIter it a ((n:Int) - 1 - ((i + 1:Nat):Int)):=by
      have:(n:Int) - 1 - ((i + 1:Nat):Int)=((n - 1 - i:Nat):Int) - 1:=by lia
      rw [this];exact st'
    obtain ⟨o,z1,z2,z3⟩:=id st'
    refine ⟨u,rfl,go_of (s:={ s with heap:=h' }) z1 z2 z3 (by decide) ⟨x,H,J1,ru,⟨rfl,fun ys hy=>?_⟩,st3,fun b hb=>(hf b hb).1⟩⟩
    rw [I.list_inj hy hq];exact hx
  . intro X e1 e2 e3 hc i pins s σ H E I hf st hi
    subst e1 e2 e3
    have hi:i=n:=hi
    subst hi
    obtain ⟨f0,f1,_,f3,f4,f5⟩:=hf it (by simp)
    have st2:s.heap.IsRevIter it a (-1):=by
      have:(-1:Int)=(i:Int) - 1 - (i:Int):=by lia
      rw [this];exact st
    exact wpAny_pyNext_rev_end (I.ok.hd hc) st2 fun h' eb=>⟨rfl,I.turned (t':=s.toks) (fun b o hb z=>eb b o hb z) f0 f1 f3 f4 f5⟩
section
variable {X:Cx} {tg e:Expr} {te:TE} {p2 pos2:Pos}
noncomputable def jRev (K:PySem.W.Frag) (te:TE):TI:=fun σ H R=>te σ H fun x H1=>∃ a xs,x=.ref a/\SqL K H1 a xs/\R (Itv K a xs.length) H1
theorem pj_rev (hc:X.calm=true) (hg:Gl X "reversed") (hm:X.mg "reversed"=none) (he:PE X e te) (hs:starEach [e] X.env=[(false,eval e X.env)]:=by rfl):PI X tg (.Call (.Name "reversed" p2) [e] [] pos2) (jRev X.K te):=by
  intro pins s σ H R I h
  refine rev_made hc hg hm he hs I h fun a xs H1 s1 its I1 hx rv pl hz q=>?_
  have hlen:its.toArray.size=xs.length:=by rw [List.size_toArray];exact rv.length.symm
  have hit:(s1.heap.push (revObj a ((its.toArray.size:Int) - 1))).IsRevIter s1.heap.objs.size a ((its.toArray.size:Int) - 1):=⟨_,Heap.get?_push_size _ rfl,rfl,rfl⟩
  refine wpAny_pyIter_revIter (s:={ s1 with heap:=s1.heap.push (revObj a ((its.toArray.size:Int) - 1)) }) hit ⟨_,[s1.heap.objs.size],_,_,H1,rfl,I1.kept (t':=s1.toks) fun b o z=>Heap.get?_push_of_some _ z,turn_rev a s1.heap.objs.size xs.length,?_,fun b hb=>?_,q⟩
  . show Heap.IsRevIter _ _ _ _
    rw [<- hlen,show ((its.toArray.size:Nat):Int) - 1 - ((0:Nat):Int)=(its.toArray.size:Int) - 1 from by lia]
    exact hit
  . obtain rfl:b=s1.heap.objs.size:=by simpa using hb
    exact I1.fpOk (Nat.le_refl _) I1.fresh
end
end L2
namespace L2
open PySem PySem.Spec PyProof.Rows
end L2
namespace L2
open PySem PySem.Spec PyProof.Rows
end L2
namespace L2
open PySem PySem.Spec PyProof.Rows PySem.MeetsSeq
open PySem.AutoSeq1 (wpAny_loadPart')
end L2
namespace L2
open PySem PySem.Spec PyProof.Rows
theorem ty_const {K:PySem.W.Frag} {a:Addr} {oc:Value} {od:Option Addr} {is:Array Value} {sn:Nat} {sl:Array (Option Value)} (o:K.lookup a=some ⟨oc,od,.seq is sn,sl⟩) (t:(oc == .type "tuple")=true/\(od == none)=true):∀ H,tyV K "tuple" (.ref a) H :=
  fun H=>.inr (.inl ⟨rfl,_,o,eq_of_beq t.1,eq_of_beq t.2⟩)
end L2
namespace L2
open PySem PySem.Spec PyProof.Rows
inductive U where
  | non | bl (b:Bool) | int (i:Int) | str (x:Str) | ty (n:String) | tup (xs:List U) | rol (xs:List U) | ref (a:Addr)
noncomputable def SqR (K:PySem.W.Frag) (H:Hp) (a:Addr) (xs:List V):Prop:=(∃ o,H a=some (.frz o (.lst xs))) \/
    ∃ (o:Obj) (its:Array Value) (n:Nat),K.lookup a=some o/\o.cls=.type "list"/\o.dict=none/\o.data=.seq its n/\its.size<=sizeLine/\Vals xs its.toList
theorem SqR.sq {K:PySem.W.Frag} {H:Hp} {a:Addr} {xs:List V} (h:SqR K H a xs):SqL K H a xs:=by
  rcases h with h | h
  . exact .inl (.inr h)
  . exact .inr h
structure Kp (K:PySem.W.Frag) (H H':Hp):Prop where
  t : SameT K H H'
  r : ∀ a xs,SqR K H a xs->SqR K H' a xs
  f : ∀ a o u,H a=some (.frz o u)->H' a=some (.frz o u)
theorem Kp.refl {K:PySem.W.Frag} (H:Hp):Kp K H H:=⟨fun _ _ h=>h,fun _ _ h=>h,fun _ _ _ h=>h⟩
theorem Kp.trans {K:PySem.W.Frag} {H H1 H2:Hp} (h:Kp K H H1) (k:Kp K H1 H2):Kp K H H2:=⟨h.t.trans k.t,fun a xs q=>k.r a xs (h.r a xs q),fun a o u q=>k.f a o u (h.f a o u q)⟩
theorem Same.kp {K:PySem.W.Frag} {H H':Hp} (e:Same H H'):Kp K H H':=⟨e.tups,fun a xs q=>by
  rcases q with ⟨o,q⟩ | q
  . exact .inl ⟨o,e _ _ q⟩
  . exact .inr q,fun a o u q=>e _ _ q⟩
theorem Kp.lst {K:PySem.W.Frag} {H:Hp} {l:Addr} {ys zs:List V} (h:H l=some (.lst ys)):Kp K H (upd H l (.lst zs)):=⟨SameT.lst h,fun a xs q=>by
  rcases q with ⟨o,q⟩ | q
  . exact .inl ⟨o,by rw [upd_ne (ne_of q h (by intro z;cases z))];exact q⟩
  . exact .inr q,fun a o u q=>by rw [upd_ne (ne_of q h (by intro z;cases z))];exact q⟩
theorem Kp.ins {K:PySem.W.Frag} {H:Hp} {l C dx:Addr} {fs:List (Str × V)} {o':HO} (h:H l=some (.ins C dx fs)):Kp K H (upd H l o'):=⟨fun a xs q=>by
  rcases q with (q | ⟨o,q⟩) | q
  . exact .inl (.inl (by rw [upd_ne (ne_of q h (by intro z;cases z))];exact q))
  . exact .inl (.inr ⟨o,by rw [upd_ne (ne_of q h (by intro z;cases z))];exact q⟩)
  . exact .inr q,fun a xs q=>by
  rcases q with ⟨o,q⟩ | q
  . exact .inl ⟨o,by rw [upd_ne (ne_of q h (by intro z;cases z))];exact q⟩
  . exact .inr q,fun a o u q=>by rw [upd_ne (ne_of q h (by intro z;cases z))];exact q⟩
mutual
inductive RU (K:PySem.W.Frag) (H:Hp):U->V->Prop
  | non:RU K H .non .non
  | bl (b:Bool):RU K H (.bl b) (.bl b)
  | int (i:Int):RU K H (.int i) (.int i)
  | str (x:Str):RU K H (.str x) (.str x)
  | ty (n:String):RU K H (.ty n) (.ty n)
  | ref (a:Addr):RU K H (.ref a) (.ref a)
  | tup {a:Addr} {vs:List V} {us:List U}:SqT K H a vs->RUs K H us vs->RU K H (.tup us) (.ref a)
  | rol {a:Addr} {vs:List V} {us:List U}:SqR K H a vs->RUs K H us vs->RU K H (.rol us) (.ref a)
inductive RUs (K:PySem.W.Frag) (H:Hp):List U->List V->Prop
  | nil:RUs K H [] []
  | cons {u:U} {v:V} {us:List U} {vs:List V}:RU K H u v->RUs K H us vs->RUs K H (u::us) (v::vs)
end
section
variable {K:PySem.W.Frag} {H H':Hp}
mutual
theorem RU.same (e:Kp K H H'):∀ {u:U} {v:V},RU K H u v->RU K H' u v
  | _,_,.non=>.non
  | _,_,.bl b=>.bl b
  | _,_,.int i=>.int i
  | _,_,.str x=>.str x
  | _,_,.ty n=>.ty n
  | _,_,.ref a=>.ref a
  | _,_,.tup h r=>.tup (e.t _ _ h) (RUs.same e r)
  | _,_,.rol h r=>.rol (e.r _ _ h) (RUs.same e r)
theorem RUs.same (e:Kp K H H'):∀ {us:List U} {vs:List V},RUs K H us vs->RUs K H' us vs
  | _,_,.nil=>.nil
  | _,_,.cons h r=>.cons (RU.same e h) (RUs.same e r)
end
theorem RUs.length:∀ {us:List U} {vs:List V},RUs K H us vs->us.length=vs.length
  | _,_,.nil=>rfl
  | _,_,.cons _ r=>by rw [List.length_cons,List.length_cons,r.length]
theorem RUs.app:∀ {us ws:List U} {vs xs:List V},RUs K H us vs->RUs K H ws xs->RUs K H (us++ws) (vs++xs)
  | _,_,_,_,.nil,s=>s
  | _,_,_,_,.cons h r,s=>.cons h (RUs.app r s)
theorem RUs.one {u:U} {v:V} (h:RU K H u v):RUs K H [u] [v]:=.cons h .nil
theorem RUs.get':∀ {us:List U} {vs:List V} {i:Nat} {u:U},RUs K H us vs->us[i]? = some u->∃ v,vs[i]? = some v/\RU K H u v
  | _,_,_,_,.nil,e=>by simp at e
  | _,_,0,_,.cons h _,e=>by simp at e;subst e;exact ⟨_,rfl,h⟩
  | _,_,i + 1,_,.cons _ r,e=>by simp at e;simpa using RUs.get' r e
theorem RUs.take:∀ {us:List U} {vs:List V} (n:Nat),RUs K H us vs->RUs K H (us.take n) (vs.take n)
  | _,_,0,_=>.nil
  | _,_,_ + 1,.nil=>.nil
  | _,_,n + 1,.cons r t=>.cons r (RUs.take n t)
theorem RUs.drop:∀ {us:List U} {vs:List V} (n:Nat),RUs K H us vs->RUs K H (us.drop n) (vs.drop n)
  | _,_,0,r=>r
  | _,_,_ + 1,.nil=>.nil
  | _,_,n + 1,.cons _ t=>RUs.drop n t
theorem RUs.dropLast {us:List U} {vs:List V} (h:RUs K H us vs):RUs K H us.dropLast vs.dropLast:=by
  rw [List.dropLast_eq_take,List.dropLast_eq_take,h.length];exact h.take _
theorem RUs.ints:∀ {ns:List Int} {vs:List V},RUs K H (ns.map U.int) vs->vs=ns.map V.int
  | [],_,.nil=>rfl
  | n::ns,_,.cons h r=>by cases h;rw [List.map_cons,RUs.ints r]
theorem RUs.bls:∀ {ns:List Bool} {vs:List V},RUs K H (ns.map U.bl) vs->vs=ns.map V.bl
  | [],_,.nil=>rfl
  | n::ns,_,.cons h r=>by cases h;rw [List.map_cons,RUs.bls r]
theorem RUs.of_strs:∀ {ns:List Str},RUs K H (ns.map U.str) (ns.map V.str)
  | []=>.nil
  | n::ns=>.cons (.str n) RUs.of_strs
theorem RUs.of_ints:∀ {ns:List Int},RUs K H (ns.map U.int) (ns.map V.int)
  | []=>.nil
  | n::ns=>.cons (.int n) RUs.of_ints
end
inductive AO where
  | lst (us:List U) | ins (C dx:Addr) (fs:List (Str × U)) | oth (φ:PySem.W.Frag->Hp->Addr->Prop)
noncomputable abbrev AHp:=Addr->Option AO
noncomputable def updA (A:AHp) (a:Addr) (o:AO):AHp:=fun b=>if b=a then some o else A b
theorem updA_same {A:AHp} {a:Addr} {o:AO}:updA A a o a=some o:=by unfold updA;rw [if_pos rfl]
theorem updA_ne {A:AHp} {a b:Addr} {o:AO} (h:b≠a):updA A a o b=A b:=by unfold updA;rw [if_neg h]
theorem updA_updA {A:AHp} {a:Addr} {o u:AO}:updA (updA A a o) a u=updA A a u:=by funext b;unfold updA;split <;> rfl
noncomputable def RFs (K:PySem.W.Frag) (H:Hp) (fs:List (Str × U)) (gs:List (Str × V)):Prop:=fs.map (·.1)=gs.map (·.1)/\RUs K H (fs.map (·.2)) (gs.map (·.2))
noncomputable def RO (K:PySem.W.Frag) (H:Hp) (a:Addr):AO->Prop
  | .lst us=>∃ vs,H a=some (.lst vs)/\RUs K H us vs
  | .ins C dx fs=>∃ gs,H a=some (.ins C dx gs)/\RFs K H fs gs
  | .oth φ=>(∃ o,H a=some o)/\φ K H a/\∀ H1 H2,φ K H1 a->Kp K H1 H2->H2 a=H1 a->φ K H2 a
noncomputable def HR (K:PySem.W.Frag) (H:Hp) (A:AHp):Prop:=∀ a o,A a=some o->RO K H a o
section
variable {K:PySem.W.Frag} {H H':Hp} {A:AHp} {a:Addr}
theorem RO.keep {b:Addr} {o:AO} (t:Kp K H H') (e:H' b=H b) (h:RO K H b o):RO K H' b o:=by
  cases o with
  | lst us=>obtain ⟨vs,h1,h2⟩:=h;exact ⟨vs,by rw [e];exact h1,h2.same t⟩
  | ins C dx fs=>obtain ⟨gs,h1,h2,h3⟩:=h;exact ⟨gs,by rw [e];exact h1,h2,h3.same t⟩
  | oth φ=>obtain ⟨h0,h1,h2⟩:=h;exact ⟨by rw [e];exact h0,h2 _ _ h1 t e,h2⟩
theorem HR.grow (t:Same H H') (h:HR K H A):HR K H' A:=fun a o e=>by
  have q:=h a o e
  cases o with
  | lst us=>obtain ⟨vs,h1,h2⟩:=q;exact ⟨vs,t _ _ h1,h2.same t.kp⟩
  | ins C dx fs=>obtain ⟨gs,h1,h2,h3⟩:=q;exact ⟨gs,t _ _ h1,h2,h3.same t.kp⟩
  | oth φ=>obtain ⟨⟨o,h0⟩,h1,h2⟩:=q;exact ⟨⟨o,t _ _ h0⟩,h2 _ _ h1 t.kp (by rw [h0];exact t _ _ h0),h2⟩
theorem HR.none (h:HR K H A) (e:H a=none):A a=none:=by
  cases q:A a with
  | none=>rfl
  | some o =>
    have:=h a o q
    cases o with
    | lst us=>obtain ⟨vs,h1,_⟩:=this;rw [e] at h1;cases h1
    | ins C dx fs=>obtain ⟨vs,h1,_⟩:=this;rw [e] at h1;cases h1
    | oth φ=>obtain ⟨⟨_,h1⟩,_⟩:=this;rw [e] at h1;cases h1
theorem HR.newL {us:List U} {vs:List V} (h:HR K H A) (e:H a=Option.none) (r:RUs K H us vs):HR K (upd H a (.lst vs)) (updA A a (.lst us)):=fun b o q=>by
  have s:=Same.upd_new (o:=.lst vs) e
  by_cases hb:b=a
  . subst hb
    rw [updA_same] at q
    cases q
    exact ⟨vs,upd_same,r.same s.kp⟩
  . rw [updA_ne hb] at q
    exact (h b o q).keep s.kp (upd_ne hb)
theorem HR.setL {us:List U} {vs xs:List V} (h:HR K H A) (e:H a=some (.lst xs)) (r:RUs K H us vs):HR K (upd H a (.lst vs)) (updA A a (.lst us)):=fun b o q=>by
  have s:Kp K H (upd H a (.lst vs)):=Kp.lst e
  by_cases hb:b=a
  . subst hb
    rw [updA_same] at q
    cases q
    exact ⟨vs,upd_same,r.same s⟩
  . rw [updA_ne hb] at q
    exact (h b o q).keep s (upd_ne hb)
theorem HR.list {us:List U} (h:HR K H A) (e:A a=some (.lst us)):∃ vs,H a=some (.lst vs)/\RUs K H us vs:=h a _ e
end
noncomputable abbrev ASt:=List (Option U)
inductive RSt (K:PySem.W.Frag) (H:Hp):ASt->St->Prop
  | nil:RSt K H [] []
  | skip {x:Option V} {ρ:ASt} {σ:St}:RSt K H ρ σ->RSt K H (none::ρ) (x::σ)
  | cons {u:U} {v:V} {ρ:ASt} {σ:St}:RU K H u v->RSt K H ρ σ->RSt K H (some u::ρ) (some v::σ)
section
variable {K:PySem.W.Frag} {H H':Hp}
theorem RSt.same (e:Kp K H H'):∀ {ρ:ASt} {σ:St},RSt K H ρ σ->RSt K H' ρ σ
  | _,_,.nil=>.nil
  | _,_,.skip r=>.skip (RSt.same e r)
  | _,_,.cons h r=>.cons (h.same e) (RSt.same e r)
noncomputable def aGetN:Nat->ASt->(U->Prop)->Prop
  | 0, ρ,k=>match ρ with
    | some u::_=>k u
    | _=>False
  | i + 1,ρ,k=>match ρ with
    | _::ρ=>aGetN i ρ k
    | []=>False
noncomputable def aGet (ρ:ASt) (i:Nat) (k:U->Prop):Prop:=aGetN i ρ k
theorem RSt.get:∀ {ρ:ASt} {σ:St} {i:Nat} {k:U->Prop},RSt K H ρ σ->aGet ρ i k->∃ u v,σ[i]? = some (some v)/\RU K H u v/\k u
  | _,_,0,_,.nil,h=>h.elim
  | _,_,_ + 1,_,.nil,h=>h.elim
  | _,_,0,_,.skip _,h=>h.elim
  | _,_,i + 1,_,.skip r,h=>by simpa using RSt.get r h
  | _,_,0,_,.cons q _,h=>⟨_,_,rfl,q,h⟩
  | _,_,i + 1,_,.cons _ r,h=>by simpa using RSt.get r h
theorem RSt.set {u:U} {v:V} (q:RU K H u v):∀ {ρ:ASt} {σ:St} (i:Nat),RSt K H ρ σ->RSt K H (ρ.set i (some u)) (σ.set i (some v))
  | _,_,_,.nil=>.nil
  | _,_,0,.skip r=>.cons q r
  | _,_,i + 1,.skip r=>.skip (RSt.set q i r)
  | _,_,0,.cons _ r=>.cons q r
  | _,_,i + 1,.cons h r=>.cons h (RSt.set q i r)
end
noncomputable abbrev AVK:=U->AHp->Prop
noncomputable abbrev AE:=ASt->AHp->AVK->Prop
noncomputable abbrev AT:=ASt->AHp->(Bool->AHp->Prop)->Prop
noncomputable abbrev AA:=ASt->AHp->(List U->AHp->Prop)->Prop
noncomputable abbrev AP1:=ASt->AHp->(Option Int->AHp->Prop)->Prop
structure AEnds where
  nx:ASt->AHp->Prop
  rt:AVK
  bk:ASt->AHp->Prop:=fun _ _=>False
  ct:ASt->AHp->Prop:=fun _ _=>False
noncomputable abbrev AS:=AEnds->ASt->AHp->Prop
noncomputable abbrev Aft (K:PySem.W.Frag) (H:Hp) (Q':AVK) (Q:VK):Prop:=∀ u A' v H',Kp K H H'->HR K H' A'->RU K H' u v->Q' u A'->Q v H'
noncomputable def AbE (K:PySem.W.Frag) (te:TE) (ae:AE):Prop:=∀ ρ A σ H Q' Q,RSt K H ρ σ->HR K H A->ae ρ A Q'->Aft K H Q' Q->te σ H Q
noncomputable def AbT (K:PySem.W.Frag) (te:TT) (ae:AT):Prop:=∀ ρ A σ H (Q':Bool->AHp->Prop) (Q:Bool->Hp->Prop),RSt K H ρ σ->HR K H A->ae ρ A Q'->(∀ b A' H',Kp K H H'->HR K H' A'->Q' b A'->Q b H')->te σ H Q
noncomputable def AbA (K:PySem.W.Frag) (te:TA) (ae:AA):Prop:=∀ ρ A σ H (Q':List U->AHp->Prop) (Q:List V->Hp->Prop),RSt K H ρ σ->HR K H A->ae ρ A Q'->(∀ us A' vs H',Kp K H H'->HR K H' A'->RUs K H' us vs->Q' us A'->Q vs H')->te σ H Q
noncomputable def AbP (K:PySem.W.Frag) (te:TO) (ae:AP1):Prop:=∀ ρ A σ H (Q':Option Int->AHp->Prop) (Q:Option Int->Hp->Prop),RSt K H ρ σ->HR K H A->ae ρ A Q'->(∀ b A' H',Kp K H H'->HR K H' A'->Q' b A'->Q b H')->te σ H Q
structure AftS (K:PySem.W.Frag) (H:Hp) (D':AEnds) (D:Ends):Prop where
  nx:∀ ρ A σ H',Kp K H H'->HR K H' A->RSt K H' ρ σ->D'.nx ρ A->D.nx σ H'
  rt:Aft K H D'.rt D.rt
  bk:∀ ρ A σ H',Kp K H H'->HR K H' A->RSt K H' ρ σ->D'.bk ρ A->D.bk σ H'
  ct:∀ ρ A σ H',Kp K H H'->HR K H' A->RSt K H' ρ σ->D'.ct ρ A->D.ct σ H'
theorem AftS.same {K:PySem.W.Frag} {H H1:Hp} {D':AEnds} {D:Ends} (h:AftS K H D' D) (k:Kp K H H1):AftS K H1 D' D :=
  ⟨fun ρ A σ H' q=>h.nx ρ A σ H' (k.trans q),fun u A v H' q=>h.rt u A v H' (k.trans q),fun ρ A σ H' q=>h.bk ρ A σ H' (k.trans q),fun ρ A σ H' q=>h.ct ρ A σ H' (k.trans q)⟩
noncomputable def AbS (K:PySem.W.Frag) (ts:TS) (as:AS):Prop:=∀ ρ A σ H D' D,RSt K H ρ σ->HR K H A->as D' ρ A->AftS K H D' D->ts D σ H
end L2
namespace L2
open PySem PySem.Spec PyProof.Rows
section
variable {K:PySem.W.Frag}
noncomputable def aVar (i:Nat):AE:=fun ρ A Q=>aGet ρ i fun u=>Q u A
theorem ab_var {i:Nat}:AbE K (tVar i) (aVar i):=fun ρ A σ H Q' Q hr hh h k=>by
  obtain ⟨u,v,e,r,q⟩:=hr.get h
  exact ⟨v,e,k u A v H (.refl H) hh r q⟩
noncomputable def aC (u:U):AE:=fun _ A Q=>Q u A
theorem ab_c {u:U} {v:V} (h:∀ H,RU K H u v):AbE K (tC v) (aC u):=fun ρ A σ H Q' Q hr hh q k=>k u A v H (.refl H) hh (h H) q
theorem ab_int {i:Int}:AbE K (tC (.int i)) (aC (.int i)):=ab_c fun _=>.int i
theorem ab_str {i:Str}:AbE K (tC (.str i)) (aC (.str i)):=ab_c fun _=>.str i
theorem ab_bl {i:Bool}:AbE K (tC (.bl i)) (aC (.bl i)):=ab_c fun _=>.bl i
theorem ab_non:AbE K (tC .non) (aC .non):=ab_c fun _=>.non
theorem ab_ty {n:String}:AbE K (tC (.ty n)) (aC (.ty n)):=ab_c fun _=>.ty n
theorem ab_ref {a:Addr}:AbE K (tC (.ref a)) (aC (.ref a)):=ab_c fun _=>.ref a
noncomputable abbrev AR2:=U->U->AHp->AVK->Prop
noncomputable def AbR (K:PySem.W.Frag) (r:R2) (ar:AR2):Prop:=∀ x y u w A H Q' Q,RU K H u x->RU K H w y->HR K H A->ar u w A Q'->Aft K H Q' Q->r x y H Q
noncomputable def aOp (ar:AR2) (a b:AE):AE:=fun ρ A Q=>a ρ A fun x A1=>b ρ A1 fun y A2=>ar x y A2 Q
theorem ab_op {r:R2} {ar:AR2} {ta tb:TE} {aa ab:AE} (hr:AbR K r ar) (ha:AbE K ta aa) (hb:AbE K tb ab):AbE K (tOp r ta tb) (aOp ar aa ab):=fun ρ A σ H Q' Q hs hh h k =>
  ha ρ A σ H _ _ hs hh h fun x A1 v H1 k1 h1 r1 q1=>hb ρ A1 σ H1 _ _ (hs.same k1) h1 q1 fun y A2 v2 H2 k2 h2 r2 q2=>hr _ _ _ _ _ _ _ _ (r1.same k2) r2 h2 q2 fun z A3 v3 H3 k3 h3 r3 q3=>k _ _ _ _ (k1.trans (k2.trans k3)) h3 r3 q3
noncomputable def AbU (K:PySem.W.Frag) (r:V->Hp->VK->Prop) (ar:U->AHp->AVK->Prop):Prop:=∀ x u A H Q' Q,RU K H u x->HR K H A->ar u A Q'->Aft K H Q' Q->r x H Q
noncomputable def aUn (ar:U->AHp->AVK->Prop) (a:AE):AE:=fun ρ A Q=>a ρ A fun x A1=>ar x A1 Q
theorem ab_un {r:V->Hp->VK->Prop} {ar:U->AHp->AVK->Prop} {ta:TE} {aa:AE} (hr:AbU K r ar) (ha:AbE K ta aa):AbE K (tUn r ta) (aUn ar aa):=fun ρ A σ H Q' Q hs hh h k =>
  ha ρ A σ H _ _ hs hh h fun x A1 v H1 k1 h1 r1 q1=>hr _ _ _ _ _ _ r1 h1 q1 fun z A3 v3 H3 k3 h3 r3 q3=>k _ _ _ _ (k1.trans k3) h3 r3 q3
noncomputable def aB (a:AE):AT:=fun ρ A Q=>a ρ A fun x A1=>∃ c,x=.bl c/\Q c A1
theorem ab_tb {ta:TE} {aa:AE} (ha:AbE K ta aa):AbT K (tB ta) (aB aa):=fun ρ A σ H Q' Q hs hh h k =>
  ha ρ A σ H _ _ hs hh h fun x A1 v H1 k1 h1 r1 hq0=>by obtain ⟨c,e,q1⟩:=hq0;subst e;cases r1;exact ⟨c,rfl,k c A1 H1 k1 h1 q1⟩
theorem ab_test {ta:TE} {aa:AE} (ha:AbE K ta aa):AbT K (tTest ta) (aB aa):=ab_tb ha
noncomputable def aAnd (t u:AT):AT:=fun ρ A Q=>t ρ A fun c A1=>if c=true then u ρ A1 Q else Q false A1
noncomputable def aOr (t u:AT):AT:=fun ρ A Q=>t ρ A fun c A1=>if c=true then Q true A1 else u ρ A1 Q
noncomputable def aNot (t:AT):AT:=fun ρ A Q=>t ρ A fun c A1=>Q (!c) A1
theorem ab_and {t u:TT} {a b:AT} (ha:AbT K t a) (hb:AbT K u b):AbT K (tAnd t u) (aAnd a b):=fun ρ A σ H Q' Q hs hh h k =>
  ha ρ A σ H _ _ hs hh h fun c A1 H1 k1 h1 q1=>by
    cases c
    . exact iteN (by decide) (k _ _ _ k1 h1 (by simpa using q1))
    . exact iteP rfl (hb ρ A1 σ H1 _ _ (hs.same k1) h1 (by simpa using q1) fun c A2 H2 k2 h2 q2=>k _ _ _ (k1.trans k2) h2 q2)
theorem ab_or {t u:TT} {a b:AT} (ha:AbT K t a) (hb:AbT K u b):AbT K (tOr t u) (aOr a b):=fun ρ A σ H Q' Q hs hh h k =>
  ha ρ A σ H _ _ hs hh h fun c A1 H1 k1 h1 q1=>by
    cases c
    . exact iteN (by decide) (hb ρ A1 σ H1 _ _ (hs.same k1) h1 (by simpa using q1) fun c A2 H2 k2 h2 q2=>k _ _ _ (k1.trans k2) h2 q2)
    . exact iteP rfl (k _ _ _ k1 h1 (by simpa using q1))
theorem ab_not {t:TT} {a:AT} (ha:AbT K t a):AbT K (tNot t) (aNot a):=fun ρ A σ H Q' Q hs hh h k=>ha ρ A σ H _ _ hs hh h fun c A1 H1 k1 h1 q1=>k _ _ _ k1 h1 q1
noncomputable def aAndV (a b:AE):AE:=fun ρ A Q=>a ρ A fun x A1=>∃ c,x=.bl c/\if c=true then b ρ A1 Q else Q (.bl false) A1
theorem ab_andv {t u:TE} {a b:AE} (ha:AbE K t a) (hb:AbE K u b):AbE K (tAndV t u) (aAndV a b):=fun ρ A σ H Q' Q hs hh h k =>
  ha ρ A σ H _ _ hs hh h fun x A1 v H1 k1 h1 r1 hq0=>by
    obtain ⟨c,e,q1⟩:=hq0
    subst e;cases r1
    refine ⟨c,rfl,?_⟩
    cases c
    . exact iteN (by decide) (k _ _ _ _ k1 h1 (.bl _) (by simpa using q1))
    . exact iteP rfl (hb ρ A1 σ H1 _ _ (hs.same k1) h1 (by simpa using q1) fun z A2 v2 H2 k2 h2 r2 q2=>k _ _ _ _ (k1.trans k2) h2 r2 q2)
noncomputable def aTrue:AT:=fun _ A Q=>Q true A
theorem ab_true:AbT K tTrue aTrue:=fun ρ A σ H Q' Q hs hh h k=>k _ _ _ (.refl H) hh h
noncomputable def aNil:AA:=fun _ A Q=>Q [] A
theorem ab_nil:AbA K tNil aNil:=fun ρ A σ H Q' Q hs hh h k=>k _ _ _ _ (.refl H) hh .nil h
noncomputable def aCons (a:AE) (l:AA):AA:=fun ρ A Q=>a ρ A fun x A1=>l ρ A1 fun xs A2=>Q (x::xs) A2
theorem ab_cons {ta:TE} {tl:TA} {a:AE} {l:AA} (ha:AbE K ta a) (hl:AbA K tl l):AbA K (tCons ta tl) (aCons a l):=fun ρ A σ H Q' Q hs hh h k =>
  ha ρ A σ H _ _ hs hh h fun x A1 v H1 k1 g1 r1 q1=>hl ρ A1 σ H1 _ _ (hs.same k1) g1 q1 fun xs A2 vs H2 k2 g2 r2 q2=>k _ _ _ _ (k1.trans k2) g2 (.cons (r1.same k2) r2) q2
noncomputable def aConst (us:List U):AA:=fun _ A L=>L us A
theorem ab_strs {xs:List Str}:AbA K (tConst (xs.map V.str)) (aConst (xs.map U.str)):=fun ρ A σ H Q' Q hs hh h k=>k _ _ _ _ (.refl H) hh RUs.of_strs h
noncomputable def aTup (l:AA):AE:=fun ρ A Q=>l ρ A fun xs A1=>xs.length<=sizeLine/\Q (.tup xs) A1
theorem ab_tup {tl:TA} {l:AA} (hl:AbA K tl l):AbE K (tTup tl) (aTup l):=fun ρ A σ H Q' Q hs hh h k =>
  hl ρ A σ H _ _ hs hh h fun xs A1 vs H1 k1 g1 r1 ⟨hz,q1⟩=>⟨by rw [<- r1.length];exact hz,fun p hp=>by
    have s:=Same.upd_new (o:=.tup vs) hp
    exact k _ _ _ _ (k1.trans s.kp) (g1.grow s) (.tup (SqT.of upd_same) (r1.same s.kp)) q1⟩
noncomputable def aLst (l:AA):AE:=fun ρ A Q=>l ρ A fun xs A1=>xs.length<=sizeLine/\∀ p,A1 p=none->Q (.ref p) (updA A1 p (.lst xs))
theorem ab_lst {tl:TA} {l:AA} (hl:AbA K tl l):AbE K (tLst tl) (aLst l):=fun ρ A σ H Q' Q hs hh h k =>
  hl ρ A σ H _ _ hs hh h fun xs A1 vs H1 k1 g1 r1 ⟨hz,q1⟩=>⟨by rw [<- r1.length];exact hz,fun p hp=>k _ _ _ _ (k1.trans (Same.upd_new hp).kp) (g1.newL hp r1) (.ref p) (q1 p (g1.none hp))⟩
noncomputable def AbL (K:PySem.W.Frag) (r:List V->Hp->VK->Prop) (ar:List U->AHp->AVK->Prop):Prop:=∀ xs us A H Q' Q,RUs K H us xs->HR K H A->ar us A Q'->Aft K H Q' Q->r xs H Q
noncomputable def aCB (ar:List U->AHp->AVK->Prop) (l:AA):AE:=fun ρ A Q=>l ρ A fun us A1=>ar us A1 Q
theorem ab_cb {r:List V->Hp->VK->Prop} {ar:List U->AHp->AVK->Prop} {tl:TA} {l:AA} (hr:AbL K r ar) (hl:AbA K tl l):AbE K (tCB r tl) (aCB ar l):=fun ρ A σ H Q' Q hs hh h k =>
  hl ρ A σ H _ _ hs hh h fun xs A1 vs H1 k1 g1 r1 q1=>hr _ _ _ _ _ _ r1 g1 q1 fun z A3 v3 H3 k3 h3 r3 q3=>k _ _ _ _ (k1.trans k3) h3 r3 q3
noncomputable abbrev ASp:=List U->AHp->AVK->Prop
noncomputable def spOf (K:PySem.W.Frag) (asp:ASp):Sp:=fun vs H Q _=>∃ us A Q',RUs K H us vs/\HR K H A/\asp us A Q'/\Aft K H Q' Q
noncomputable def aCall (asp:ASp) (l:AA):AE:=fun ρ A Q=>l ρ A fun us A1=>asp us A1 Q
theorem ab_call {asp:ASp} {E:XK} {tl:TA} {l:AA} (hl:AbA K tl l):AbE K (tCall (spOf K asp) [] E tl) (aCall asp l):=fun ρ A σ H Q' Q hs hh h k =>
  hl ρ A σ H _ _ hs hh h fun us A1 vs H1 k1 g1 r1 q1=>⟨us,A1,Q',by rw [List.append_nil];exact r1,g1,q1,fun z A3 v3 H3 k3 h3 r3 q3=>k _ _ _ _ (k1.trans k3) h3 r3 q3⟩
noncomputable def aNoPart:AP1:=fun _ A Q=>Q none A
theorem ab_nopart:AbP K tNoPart aNoPart:=fun ρ A σ H Q' Q hs hh h k=>k _ _ _ (.refl H) hh h
noncomputable def aPart (a:AE):AP1:=fun ρ A Q=>a ρ A fun x A1=>∃ i,x=.int i/\Q (some i) A1
theorem ab_part {t:TE} {a:AE} (ha:AbE K t a):AbP K (tPart t) (aPart a):=fun ρ A σ H Q' Q hs hh h k =>
  ha ρ A σ H _ _ hs hh h fun x A1 v H1 k1 h1 r1 hq0=>by obtain ⟨i,e,q1⟩:=hq0;subst e;cases r1;exact ⟨i,rfl,k _ _ _ k1 h1 q1⟩
noncomputable def AbSl (K:PySem.W.Frag) (r:V->Option Int->Option Int->Hp->VK->Prop) (ar:U->Option Int->Option Int->AHp->AVK->Prop):Prop:=∀ x u lo hi A H Q' Q,RU K H u x->HR K H A->ar u lo hi A Q'->Aft K H Q' Q->r x lo hi H Q
noncomputable def aSl (ar:U->Option Int->Option Int->AHp->AVK->Prop) (a:AE) (l h:AP1):AE:=fun ρ A Q=>a ρ A fun x A1=>l ρ A1 fun i A2=>h ρ A2 fun j A3=>ar x i j A3 Q
theorem ab_sl {r:V->Option Int->Option Int->Hp->VK->Prop} {ar:U->Option Int->Option Int->AHp->AVK->Prop} {t:TE} {tl th:TO} {a:AE} {l h:AP1} (hr:AbSl K r ar) (ha:AbE K t a) (hl:AbP K tl l) (hh:AbP K th h):AbE K (tSl r t tl th) (aSl ar a l h):=fun ρ A σ H Q' Q hs g w k =>
  ha ρ A σ H _ _ hs g w fun x A1 v H1 k1 g1 r1 q1=>hl ρ A1 σ H1 _ _ (hs.same k1) g1 q1 fun i A2 H2 k2 g2 q2=>hh ρ A2 σ H2 _ _ (hs.same (k1.trans k2)) g2 q2 fun j A3 H3 k3 g3 q3 =>
    hr _ _ _ _ _ _ _ _ (r1.same (k2.trans k3)) g3 q3 fun z A4 v4 H4 k4 g4 r4 q4=>k _ _ _ _ (k1.trans (k2.trans (k3.trans k4))) g4 r4 q4
noncomputable def AbY (K:PySem.W.Frag) (T:String) (y:U->AHp->Prop):Prop:=∀ x u A H,RU K H u x->HR K H A->y u A->tyV K T x H
noncomputable def aBM0 (y:U->AHp->Prop) (ar:U->List U->AHp->AVK->Prop) (a:AE):AE:=fun ρ A Q=>a ρ A fun x A1=>y x A1/\ar x [] A1 Q
noncomputable def aBM (y:U->AHp->Prop) (ar:U->List U->AHp->AVK->Prop) (a:AE) (l:AA):AE:=fun ρ A Q=>a ρ A fun x A1=>y x A1/\l ρ A1 fun us A2=>ar x us A2 Q
noncomputable def AbMt (K:PySem.W.Frag) (r:V->List V->Hp->VK->Prop) (ar:U->List U->AHp->AVK->Prop):Prop:=∀ x u xs us A H Q' Q,RU K H u x->RUs K H us xs->HR K H A->ar u us A Q'->Aft K H Q' Q->r x xs H Q
theorem ab_bm0 {T:String} {r:V->List V->Hp->VK->Prop} {y:U->AHp->Prop} {ar:U->List U->AHp->AVK->Prop} {t:TE} {a:AE} (hy:AbY K T y) (hr:AbMt K r ar) (ha:AbE K t a):AbE K (tBM0 K T r t) (aBM0 y ar a):=fun ρ A σ H Q' Q hs g w k =>
  ha ρ A σ H _ _ hs g w fun x A1 v H1 k1 g1 r1 ⟨q0,q1⟩=>⟨hy _ _ _ _ r1 g1 q0,hr _ _ _ _ _ _ _ _ r1 .nil g1 q1 fun z A4 v4 H4 k4 g4 r4 q4=>k _ _ _ _ (k1.trans k4) g4 r4 q4⟩
theorem ab_bm {T:String} {r:V->List V->Hp->VK->Prop} {y:U->AHp->Prop} {ar:U->List U->AHp->AVK->Prop} {t:TE} {a:AE} {tl:TA} {l:AA} (hy:AbY K T y) (hr:AbMt K r ar) (ha:AbE K t a) (hl:AbA K tl l):AbE K (tBM K T r t tl) (aBM y ar a l):=fun ρ A σ H Q' Q hs g w k =>
  ha ρ A σ H _ _ hs g w fun x A1 v H1 k1 g1 r1 ⟨q0,q1⟩=>⟨hy _ _ _ _ r1 g1 q0,hl ρ A1 σ H1 _ _ (hs.same k1) g1 q1 fun us A2 vs H2 k2 g2 r2 q2=>hr _ _ _ _ _ _ _ _ (r1.same k2) r2 g2 q2 fun z A4 v4 H4 k4 g4 r4 q4=>k _ _ _ _ (k1.trans (k2.trans k4)) g4 r4 q4⟩
noncomputable def aNext:AS:=fun D ρ A=>D.nx ρ A
theorem ab_next:AbS K tNext aNext:=fun ρ A σ H D' D hs g w k=>k.nx _ _ _ _ (.refl H) g hs w
noncomputable def aSeq (t u:AS):AS:=fun D ρ A=>t { D with nx:=u D } ρ A
theorem ab_seq {t u:TS} {a b:AS} (ha:AbS K t a) (hb:AbS K u b):AbS K (tSeq t u) (aSeq a b):=fun ρ A σ H D' D hs g w k =>
  ha ρ A σ H _ _ hs g w ⟨fun ρ1 A1 σ1 H1 k1 g1 r1 q1=>hb ρ1 A1 σ1 H1 _ _ r1 g1 q1 (k.same k1),k.rt,k.bk,k.ct⟩
noncomputable def aDrop (a:AE):AS:=fun D ρ A=>a ρ A fun _ A1=>D.nx ρ A1
theorem ab_drop {t:TE} {a:AE} (ha:AbE K t a):AbS K (tDrop t) (aDrop a):=fun ρ A σ H D' D hs g w k=>ha ρ A σ H _ _ hs g w fun x A1 v H1 k1 g1 r1 q1=>k.nx _ _ _ _ k1 g1 (hs.same k1) q1
noncomputable def aRet (a:AE):AS:=fun D ρ A=>a ρ A D.rt
theorem ab_ret {t:TE} {a:AE} (ha:AbE K t a):AbS K (tRet t) (aRet a):=fun ρ A σ H D' D hs g w k=>ha ρ A σ H _ _ hs g w k.rt
noncomputable def aIfS (c:AT) (t u:AS):AS:=fun D ρ A=>c ρ A fun b A1=>if b=true then t D ρ A1 else u D ρ A1
theorem ab_ifs {c:TT} {t u:TS} {ac:AT} {a b:AS} (hc:AbT K c ac) (ha:AbS K t a) (hb:AbS K u b):AbS K (tIfS c t u) (aIfS ac a b):=fun ρ A σ H D' D hs g w k =>
  hc ρ A σ H _ _ hs g w fun c A1 H1 k1 g1 q1=>by
    cases c
    . exact iteN (by decide) (hb ρ A1 σ H1 _ _ (hs.same k1) g1 (by simpa using q1) (k.same k1))
    . exact iteP rfl (ha ρ A1 σ H1 _ _ (hs.same k1) g1 (by simpa using q1) (k.same k1))
noncomputable abbrev AG:=U->ASt->AHp->(ASt->AHp->Prop)->Prop
noncomputable abbrev AGs:=List U->ASt->AHp->(ASt->AHp->Prop)->Prop
noncomputable abbrev AftG (K:PySem.W.Frag) (H:Hp) (Q':ASt->AHp->Prop) (Q:St->Hp->Prop):Prop:=∀ ρ A σ H',Kp K H H'->HR K H' A->RSt K H' ρ σ->Q' ρ A->Q σ H'
noncomputable def AbG (K:PySem.W.Frag) (t:TG) (a:AG):Prop:=∀ u v ρ A σ H Q' Q,RU K H u v->RSt K H ρ σ->HR K H A->a u ρ A Q'->AftG K H Q' Q->t v σ H Q
noncomputable def AbGs (K:PySem.W.Frag) (t:TGs) (a:AGs):Prop:=∀ u v ρ A σ H Q' Q,RUs K H u v->RSt K H ρ σ->HR K H A->a u ρ A Q'->AftG K H Q' Q->t v σ H Q
noncomputable def bName (i:Nat):AG:=fun u ρ A Q=>Q (ρ.set i (some u)) A
theorem ab_name {i:Nat}:AbG K (gName i) (bName i):=fun u v ρ A σ H Q' Q r hs g w k=>k _ _ _ _ (.refl H) g (hs.set r i) w
noncomputable def bNil:AGs:=fun us ρ A Q=>us=[]/\Q ρ A
theorem ab_gnil:AbGs K gNil bNil:=fun u v ρ A σ H Q' Q r hs g hq0 k=>by obtain ⟨e,w⟩:=hq0;subst e;cases r;exact ⟨rfl,k _ _ _ _ (.refl H) g hs w⟩
noncomputable def bCons (t:AG) (u:AGs):AGs:=fun us ρ A Q=>∃ v r,us=v::r/\t v ρ A fun ρ' A'=>u r ρ' A' Q
theorem ab_gcons {t:TG} {u:TGs} {a:AG} {b:AGs} (ha:AbG K t a) (hb:AbGs K u b):AbGs K (gCons t u) (bCons a b):=fun us vs ρ A σ H Q' Q r hs g hq0 k=>by
  obtain ⟨x,xs,e,w⟩:=hq0
  subst e
  cases r with
  | cons r rr=>exact ⟨_,_,rfl,ha _ _ _ _ _ _ _ _ r hs g w fun ρ1 A1 σ1 H1 k1 g1 s1 q1=>hb _ _ _ _ _ _ _ _ (rr.same k1) s1 g1 q1 fun ρ2 A2 σ2 H2 k2 g2 s2 q2=>k _ _ _ _ (k1.trans k2) g2 s2 q2⟩
noncomputable def bTup (n:Nat) (t:AGs):AG:=fun u ρ A Q=>∃ us,u=.tup us/\us.length=n/\t us ρ A Q
theorem ab_gtup {n:Nat} {t:TGs} {a:AGs} (ha:AbGs K t a):AbG K (gTup K n t) (bTup n a):=fun u v ρ A σ H Q' Q r hs g hq0 k=>by
  obtain ⟨us,e,hn,w⟩:=hq0
  subst e
  cases r with
  | tup h rr=>exact ⟨_,_,rfl,h,by rw [<- rr.length];exact hn,ha _ _ _ _ _ _ _ _ rr hs g w k⟩
noncomputable def aAsg (a:AE) (b:AG):AS:=fun D ρ A=>a ρ A fun x A1=>b x ρ A1 D.nx
theorem ab_asg {t:TE} {a:AE} {tg:TG} {b:AG} (ha:AbE K t a) (hb:AbG K tg b):AbS K (tAsg t tg) (aAsg a b):=fun ρ A σ H D' D hs g w k =>
  ha ρ A σ H _ _ hs g w fun x A1 v H1 k1 g1 r1 q1=>hb _ _ _ _ _ _ _ _ r1 (hs.same k1) g1 q1 fun ρ2 A2 σ2 H2 k2 g2 s2 q2=>k.nx _ _ _ _ (k1.trans k2) g2 s2 q2
noncomputable def aPar (i j:Nat) (l:AA):AS:=fun D ρ A=>l ρ A fun us A1=>∃ v w,us=[v,w]/\D.nx ((ρ.set i (some v)).set j (some w)) A1
noncomputable def aWhile (c:AT) (b:AS):AS:=fun D ρ A=>∃ W:Nat->ASt->AHp->Prop,(∃ m,W m ρ A)/\∀ m ρ A,W m ρ A ->
  c ρ A fun k A1=>if k=true then ∃ N:ASt->AHp->Prop,(∀ ρ' A',N ρ' A'->∃ m',m' < m/\W m' ρ' A')/\b { D with nx:=N,ct:=N,bk:=D.nx } ρ A1 else D.nx ρ A1
theorem ab_while {c:TT} {t:TS} {ac:AT} {a:AS} (hc:AbT K c ac) (ha:AbS K t a):AbS K (tWhile c t) (aWhile ac a):=fun ρ A σ H D' D hs g hq0 k=>by
  obtain ⟨W,⟨m0,w0⟩,turn⟩:=hq0
  refine ⟨fun m σ1 H1=>∃ ρ1 A1,Kp K H H1/\HR K H1 A1/\RSt K H1 ρ1 σ1/\W m ρ1 A1,⟨m0,ρ,A,.refl H,g,hs,w0⟩,?_⟩
  rintro m σ1 H1 ⟨ρ1,A1,k1,g1,s1,w1⟩
  refine hc ρ1 A1 σ1 H1 _ _ s1 g1 (turn m ρ1 A1 w1) fun b A2 H2 k2 g2 q2=>?_
  cases b
  . exact iteN (by decide) (k.nx _ _ _ _ (k1.trans k2) g2 (s1.same k2) (by simpa using q2))
  . refine iteP rfl ?_
    obtain ⟨N,hN,q2⟩:=(by simpa using q2:∃ N:ASt->AHp->Prop,(∀ ρ' A',N ρ' A'->∃ m',m' < m/\W m' ρ' A')/\a { D' with nx:=N,ct:=N,bk:=D'.nx } ρ1 A2)
    refine ⟨fun σ' H'=>∃ ρ' A',Kp K H H'/\HR K H' A'/\RSt K H' ρ' σ'/\N ρ' A',?_,?_⟩
    . rintro σ' H' ⟨ρ',A',k',g',s',n'⟩
      obtain ⟨m',hm,w'⟩:=hN ρ' A' n'
      exact ⟨m',hm,ρ',A',k',g',s',w'⟩
    . have k12:=k1.trans k2
      exact ha ρ1 A2 σ1 H2 _ _ (s1.same k2) g2 q2 ⟨fun ρ A σ H' k3 g3 s3 n3=>⟨ρ,A,k12.trans k3,g3,s3,n3⟩,(k.same k12).rt,fun ρ A σ H' k3 g3 s3 n3=>k.nx _ _ _ _ (k12.trans k3) g3 s3 n3,fun ρ A σ H' k3 g3 s3 n3=>⟨ρ,A,k12.trans k3,g3,s3,n3⟩⟩
end
end L2
namespace L2
open PySem PySem.Spec PyProof.Rows
noncomputable abbrev AIt:=Nat->AHp->Option U->Prop
noncomputable def AbJ (K:PySem.W.Frag) (H0:Hp) (J:It) (aj:AIt):Prop:=∀ i A H r,Kp K H0 H->HR K H A->aj i A r->match r with
  | none=>J.stop i H
  | some u=>J.go i H/\∀ x H',J.yld i H x H'->Kp K H H'/\HR K H' A/\RU K H' u x
noncomputable abbrev AI:=ASt->AHp->(AIt->AHp->Prop)->Prop
noncomputable def AbI (K:PySem.W.Frag) (wi:TI) (ai:AI):Prop:=∀ ρ A σ H R' R,RSt K H ρ σ->HR K H A->ai ρ A R'->(∀ aj A' J H',Kp K H H'->HR K H' A'->AbJ K H' J aj->R' aj A'->R J H')->wi σ H R
noncomputable def aLoop (J:AIt) (g:AG) (b:AS) (D:AEnds) (ρ:ASt) (A:AHp):Prop:=∃ W:Nat->Nat->ASt->AHp->Prop,(∃ m,W 0 m ρ A)/\∀ i m ρ A,W i m ρ A ->
  (J i A none/\D.nx ρ A)\/∃ u,J i A (some u)/\∃ N:ASt->AHp->Prop,(∀ ρ' A',N ρ' A'->∃ m',m' < m/\W (i + 1) m' ρ' A')/\g u ρ A fun ρ2 A2=>b { D with nx:=N,ct:=N,bk:=D.nx } ρ2 A2
noncomputable def aFor (wi:AI) (g:AG) (b:AS):AS:=fun D ρ A=>wi ρ A fun J A1=>aLoop J g b D ρ A1
section
variable {K:PySem.W.Frag}
theorem ab_for {wi:TI} {g:TG} {t:TS} {ai:AI} {ag:AG} {a:AS} (hi:AbI K wi ai) (hg:AbG K g ag) (ha:AbS K t a):AbS K (tFor wi g t) (aFor ai ag a):=fun ρ A σ H D' D hs g0 w k=>by
  refine hi ρ A σ H _ _ hs g0 w fun aj A1 J H1 k1 g1 hj q=>?_
  obtain ⟨W,⟨m0,w0⟩,turn⟩:=q
  refine ⟨fun i m σ2 H2=>∃ ρ2 A2,Kp K H1 H2/\HR K H2 A2/\RSt K H2 ρ2 σ2/\W i m ρ2 A2,⟨m0,ρ,A1,.refl H1,g1,hs.same k1,w0⟩,?_⟩
  rintro i m σ2 H2 ⟨ρ2,A2,k2,g2,s2,w2⟩
  have k12:=k1.trans k2
  rcases turn i m ρ2 A2 w2 with ⟨hstop,q⟩ | ⟨u,hgo,N,hN,q⟩
  . exact .inl ⟨hj i A2 H2 _ k2 g2 hstop,k.nx _ _ _ _ k12 g2 s2 q⟩
  . obtain ⟨j1,j2⟩:=hj i A2 H2 _ k2 g2 hgo
    refine .inr ⟨j1,fun σ' H'=>∃ ρ' A',Kp K H1 H'/\HR K H' A'/\RSt K H' ρ' σ'/\N ρ' A',?_,fun x H3 hy=>?_⟩
    . rintro σ' H' ⟨ρ',A',k',g',s',n'⟩
      obtain ⟨m',hm,w'⟩:=hN ρ' A' n'
      exact ⟨m',hm,ρ',A',k',g',s',w'⟩
    . obtain ⟨k3,g3,r3⟩:=j2 x H3 hy
      refine hg _ _ _ _ _ _ _ _ r3 (s2.same k3) g3 q fun ρ4 A4 σ4 H4 k4 g4 s4 q4=>?_
      have k24:=k2.trans (k3.trans k4)
      exact ha ρ4 A4 σ4 H4 _ _ s4 g4 q4 ⟨fun ρ5 A5 σ5 H5 k5 g5 s5 n5=>⟨ρ5,A5,k24.trans k5,g5,s5,n5⟩,(k.same (k1.trans k24)).rt,fun ρ5 A5 σ5 H5 k5 g5 s5 n5=>k.nx _ _ _ _ ((k1.trans k24).trans k5) g5 s5 n5,fun ρ5 A5 σ5 H5 k5 g5 s5 n5=>⟨ρ5,A5,k24.trans k5,g5,s5,n5⟩⟩
noncomputable def jFix (us:List U):AIt:=fun i _ r=>r=us[i]?
noncomputable def jLst (a:Addr):AIt:=fun i A r=>∃ us,A a=some (.lst us)/\r=us[i]?
noncomputable def aJof (y:U->AHp->(AIt->AHp->Prop)->Prop) (a:AE):AI:=fun ρ A R=>a ρ A fun x A1=>y x A1 R
noncomputable def AbY1 (K:PySem.W.Frag) (u:V->Hp->(It->Hp->Prop)->Prop) (y:U->AHp->(AIt->AHp->Prop)->Prop):Prop:=∀ x v A H R' R,RU K H x v->HR K H A->y x A R'->(∀ aj A' J H',Kp K H H'->HR K H' A'->AbJ K H' J aj->R' aj A'->R J H')->u v H R
theorem ab_jof {u:V->Hp->(It->Hp->Prop)->Prop} {y:U->AHp->(AIt->AHp->Prop)->Prop} {t:TE} {a:AE} (hy:AbY1 K u y) (ha:AbE K t a):AbI K (jOf u t) (aJof y a):=fun ρ A σ H R' R hs g w k =>
  ha ρ A σ H _ _ hs g w fun x A1 v H1 k1 g1 r1 q1=>hy _ _ _ _ _ _ r1 g1 q1 fun aj A2 J H2 k2 g2 hj q2=>k _ _ _ _ (k1.trans k2) g2 hj q2
theorem itl_fix {H:Hp} {a:Addr} {us:List U} {vs:List V} (h:SqR K H a vs) (r:RUs K H us vs):AbJ K H (Itl K a) (jFix us):=fun i A H1 x k g e=>by
  have e:x=us[i]?:=e
  have h1:=(k.r _ _ h).sq
  have r1:=r.same k
  subst e
  cases hu:us[i]? with
  | none=>exact ⟨vs,h1,by rw [<- r1.length];exact List.getElem?_eq_none_iff.mp hu⟩
  | some u =>
    obtain ⟨v,hv,rv⟩:=r1.get' hu
    refine ⟨⟨vs,v,h1,hv⟩,?_⟩
    rintro x H' ⟨rfl,hx⟩
    have:=hx vs h1
    rw [hv] at this;cases this
    exact ⟨.refl _,g,rv⟩
theorem itl_lst {H:Hp} {a:Addr}:AbJ K H (Itl K a) (jLst a):=fun i A H1 x k g hq0=>by
  obtain ⟨us,hA,e⟩:=hq0
  subst e
  obtain ⟨vs,h1,r1⟩:=g.list hA
  have h1:SqL K H1 a vs:=SqL.of h1
  cases hu:us[i]? with
  | none=>exact ⟨vs,h1,by rw [<- r1.length];exact List.getElem?_eq_none_iff.mp hu⟩
  | some u =>
    obtain ⟨v,hv,rv⟩:=r1.get' hu
    refine ⟨⟨vs,v,h1,hv⟩,?_⟩
    rintro x H' ⟨rfl,hx⟩
    have:=hx vs h1
    rw [hv] at this;cases this
    exact ⟨.refl _,g,rv⟩
theorem itt_fix {H:Hp} {a:Addr} {us:List U} {vs:List V} (h:SqT K H a vs) (r:RUs K H us vs):AbJ K H (Itt K a) (jFix us):=fun i A H1 x k g e=>by
  have e:x=us[i]?:=e
  have h1:=k.t _ _ h
  have r1:=r.same k
  subst e
  cases hu:us[i]? with
  | none=>exact ⟨vs,h1,by rw [<- r1.length];exact List.getElem?_eq_none_iff.mp hu⟩
  | some u =>
    obtain ⟨v,hv,rv⟩:=r1.get' hu
    refine ⟨⟨vs,v,h1,hv⟩,?_⟩
    rintro x H' ⟨rfl,hx⟩
    have:=hx vs h1
    rw [hv] at this;cases this
    exact ⟨.refl _,g,rv⟩
noncomputable def yList:U->AHp->(AIt->AHp->Prop)->Prop:=fun u A R=>match u with
  | .ref a=>(∃ us,A a=some (.lst us))/\R (jLst a) A
  | .rol us=>R (jFix us) A
  | _=>False
theorem ab_ylist:AbY1 K (uList K) yList:=fun x v A H R' R r g w k=>by
  cases r with
  | ref a =>
    obtain ⟨⟨us,hA⟩,w⟩:=w
    obtain ⟨vs,h1,r1⟩:=g.list hA
    exact ⟨⟨vs,SqL.of h1⟩,k _ _ _ _ (.refl H) g itl_lst w⟩
  | rol h1 r1=>exact ⟨⟨_,h1.sq⟩,k _ _ _ _ (.refl H) g (itl_fix h1 r1) w⟩
  | _=>exact w.elim
noncomputable def yTup:U->AHp->(AIt->AHp->Prop)->Prop:=fun u A R=>match u with
  | .tup us=>R (jFix us) A
  | _=>False
theorem ab_ytup:AbY1 K (uTupI K) yTup:=fun x v A H R' R r g w k=>by
  cases r with
  | tup h1 r1=>exact ⟨⟨_,h1⟩,k _ _ _ _ (.refl H) g (itt_fix h1 r1) w⟩
  | _=>exact w.elim
noncomputable def yStr:U->AHp->(AIt->AHp->Prop)->Prop:=fun u A R=>match u with
  | .str z=>R (jFix (z.cps.toList.map fun c=>.str ⟨#[c]⟩)) A
  | _=>False
theorem ab_ystr:AbY1 K uStrI yStr:=fun x v A H R' R r g w k=>by
  cases r with
  | str z =>
    refine k _ _ _ _ (.refl H) g (fun i A H1 r k g e=>?_) w
    have e:r=(z.cps.toList.map fun c=>U.str ⟨#[c]⟩)[i]?:=e
    subst e
    cases hu:(z.cps.toList.map fun c=>U.str ⟨#[c]⟩)[i]? with
    | none =>
      have:=List.getElem?_eq_none_iff.mp hu
      show z.cps.size<=i
      simpa using this
    | some u =>
      rw [List.getElem?_map] at hu
      obtain ⟨c,hc,rfl⟩:=Option.map_eq_some_iff.mp hu
      refine ⟨?_,?_⟩
      . have:=(List.getElem?_eq_some_iff.mp hc).1
        show i < z.cps.size
        simpa using this
      . rintro x H' ⟨rfl,c',hc',rfl⟩
        have:z.cps[i]? = some c:=by rw [<- Array.getElem?_toList];exact hc
        rw [this] at hc';cases hc'
        exact ⟨.refl _,g,.str _⟩
  | _=>exact w.elim
noncomputable def rngU (lo:Int) (n:Nat):List U:=(List.range n).map fun (i:Nat)=>.int (lo + (i:Int))
theorem rngU_get (lo:Int) (n i:Nat):(rngU lo n)[i]? = if i < n then some (.int (lo + (i:Int))) else none:=by
  unfold rngU
  rw [List.getElem?_map]
  by_cases h:i < n
  . rw [if_pos h,List.getElem?_range h];rfl
  . rw [if_neg h,List.getElem?_eq_none (by rw [List.length_range];lia)];rfl
theorem rngU_len (lo:Int) (n:Nat):(rngU lo n).length=n:=by simp [rngU]
theorem itr_fix {H:Hp} {lo:Int} {n:Nat}:AbJ K H (Itr lo n) (jFix (rngU lo n)):=fun i A H1 x k g e=>by
  have e:x=(rngU lo n)[i]?:=e
  rw [rngU_get] at e
  subst e
  by_cases h:i < n
  . rw [if_pos h]
    refine ⟨h,?_⟩
    rintro x H' ⟨rfl,rfl⟩
    exact ⟨.refl _,g,.int _⟩
  . rw [if_neg h]
    exact Nat.le_of_not_lt h
noncomputable def yRng1:List U->AHp->(AIt->AHp->Prop)->Prop:=fun us A R=>match us with
  | [.int j]=>-(2 ^ 62)<=j/\j < 2 ^ 62/\R (jFix (rngU 0 j.toNat)) A
  | _=>False
noncomputable def AbYs (K:PySem.W.Frag) (u:List V->Hp->(It->Hp->Prop)->Prop) (y:List U->AHp->(AIt->AHp->Prop)->Prop):Prop:=∀ x v A H R' R,RUs K H x v->HR K H A->y x A R'->(∀ aj A' J H',Kp K H H'->HR K H' A'->AbJ K H' J aj->R' aj A'->R J H')->u v H R
noncomputable def aJargs (y:List U->AHp->(AIt->AHp->Prop)->Prop) (l:AA):AI:=fun ρ A R=>l ρ A fun us A1=>y us A1 R
theorem ab_jargs {u:List V->Hp->(It->Hp->Prop)->Prop} {y:List U->AHp->(AIt->AHp->Prop)->Prop} {t:TA} {l:AA} (hy:AbYs K u y) (hl:AbA K t l):AbI K (jArgs u t) (aJargs y l):=fun ρ A σ H R' R hs g w k =>
  hl ρ A σ H _ _ hs g w fun x A1 v H1 k1 g1 r1 q1=>hy _ _ _ _ _ _ r1 g1 q1 fun aj A2 J H2 k2 g2 hj q2=>k _ _ _ _ (k1.trans k2) g2 hj q2
theorem ab_yrng1:AbYs K uRng1 yRng1:=fun x v A H R' R r g w k=>by
  unfold yRng1 at w
  split at w
  . cases r with
    | cons r rr =>
      cases rr;cases r
      exact ⟨w.1,w.2.1,k _ _ _ _ (.refl H) g itr_fix w.2.2⟩
  . exact w.elim
theorem ab_jrng1 {t:TA} {l:AA} (hl:AbA K t l):AbI K (jRng1 t) (aJargs yRng1 l):=ab_jargs (u:=uRng1) ab_yrng1 hl
noncomputable def enU (us:List U):List U:=us.zipIdx.map fun p=>.tup [.int (p.2:Nat),p.1]
theorem enU_get (us:List U) (i:Nat):(enU us)[i]? = (us[i]?).map fun u=>.tup [.int (i:Nat),u]:=by
  unfold enU
  rw [List.getElem?_map,List.getElem?_zipIdx]
  cases us[i]? <;> simp
theorem enU_len (us:List U):(enU us).length=us.length:=by simp [enU]
noncomputable def jEnum (a:Addr):AIt:=fun i A r=>∃ us,A a=some (.lst us)/\r=(enU us)[i]?
noncomputable def yEnum:List U->AHp->(AIt->AHp->Prop)->Prop:=fun us A R=>match us with
  | [.ref a]=>(∃ us,A a=some (.lst us))/\R (jEnum a) A
  | [.rol us]=>R (jFix (enU us)) A
  | _=>False
theorem ite_of {H:Hp} {a:Addr} {us:List U} {vs:List V} {i:Nat} {A:AHp} (h1:SqL K H a vs) (r1:RUs K H us vs) (g:HR K H A):match (enU us)[i]? with
    | none=>(Ite K a).stop i H
    | some u=>(Ite K a).go i H/\∀ x H',(Ite K a).yld i H x H'->Kp K H H'/\HR K H' A/\RU K H' u x:=by
  rw [enU_get]
  cases hu:us[i]? with
  | none=>exact ⟨vs,h1,by rw [<- r1.length];exact List.getElem?_eq_none_iff.mp hu⟩
  | some u =>
    obtain ⟨v,hv,rv⟩:=r1.get' hu
    refine ⟨⟨vs,v,h1,hv⟩,?_⟩
    rintro x H' ⟨T,x0,rfl,hT,rfl,hx⟩
    have:=hx vs h1
    rw [hv] at this;cases this
    have s:=Same.upd_new (o:=.tup [.int i,v]) hT
    exact ⟨s.kp,g.grow s,.tup (SqT.of upd_same) (.cons (.int _) (.one (rv.same s.kp)))⟩
theorem iteu_of {H:Hp} {a:Addr} {us:List U} {vs:List V} {i:Nat} {A:AHp} (h1:SqT K H a vs) (r1:RUs K H us vs) (g:HR K H A):match (enU us)[i]? with
    | none=>(Iteu K a).stop i H
    | some u=>(Iteu K a).go i H/\∀ x H',(Iteu K a).yld i H x H'->Kp K H H'/\HR K H' A/\RU K H' u x:=by
  rw [enU_get]
  cases hu:us[i]? with
  | none=>exact ⟨vs,h1,by rw [<- r1.length];exact List.getElem?_eq_none_iff.mp hu⟩
  | some u =>
    obtain ⟨v,hv,rv⟩:=r1.get' hu
    refine ⟨⟨vs,v,h1,hv⟩,?_⟩
    rintro x H' ⟨T,x0,rfl,hT,rfl,hx⟩
    have:=hx vs h1
    rw [hv] at this;cases this
    have s:=Same.upd_new (o:=.tup [.int i,v]) hT
    exact ⟨s.kp,g.grow s,.tup (SqT.of upd_same) (.cons (.int _) (.one (rv.same s.kp)))⟩
theorem ab_yenum:AbYs K (uEnum K) yEnum:=fun x v A H R' R r g w k=>by
  unfold yEnum at w
  split at w
  . cases r with
    | cons r rr =>
      cases rr;cases r
      obtain ⟨⟨us,hA⟩,w⟩:=w
      obtain ⟨vs,h1,r1⟩:=g.list hA
      refine ⟨⟨vs,SqL.of h1⟩,k _ _ _ _ (.refl H) g (fun i A1 H1 r k1 g1 ⟨us,hA,e⟩=>?_) w⟩
      subst e
      obtain ⟨vs,h1,r1⟩:=g1.list hA
      exact ite_of (SqL.of h1) r1 g1
  . cases r with
    | cons r rr =>
      cases rr
      cases r with
      | rol h1 r1 =>
        refine ⟨⟨_,h1.sq⟩,k _ _ _ _ (.refl H) g (fun i A1 H1 r k1 g1 e=>?_) w⟩
        have e:r=(enU _)[i]?:=e
        subst e
        exact ite_of (k1.r _ _ h1).sq (r1.same k1) g1
  . exact w.elim
noncomputable def yEnumT:List U->AHp->(AIt->AHp->Prop)->Prop:=fun us A R=>match us with
  | [.tup us]=>R (jFix (enU us)) A
  | _=>False
theorem ab_yenumT:AbYs K (uEnumT K) yEnumT:=fun x v A H R' R r g w k=>by
  unfold yEnumT at w
  split at w
  . cases r with
    | cons r rr =>
      cases rr
      cases r with
      | tup h1 r1 =>
        refine ⟨⟨_,h1⟩,k _ _ _ _ (.refl H) g (fun i A1 H1 r k1 g1 e=>?_) w⟩
        have e:r=(enU _)[i]?:=e
        subst e
        exact iteu_of (k1.t _ _ h1) (r1.same k1) g1
  . exact w.elim
noncomputable def jRevA (a:Addr) (n:Nat):AIt:=fun i A r=>(i=n/\r=none)\/(i < n/\∃ us u,A a=some (.lst us)/\us[n - 1 - i]? = some u/\r=some u)
noncomputable def aJrev (a:AE):AI:=fun ρ A R=>a ρ A fun x A1=>∃ p us,x=.ref p/\A1 p=some (.lst us)/\R (jRevA p us.length) A1
theorem ab_jrev {t:TE} {a:AE} (ha:AbE K t a):AbI K (jRev K t) (aJrev a):=fun ρ A σ H R' R hs g w k =>
  ha ρ A σ H _ _ hs g w fun x A1 v H1 k1 g1 r1 hq0=>by
    obtain ⟨p,us,e,hA,q1⟩:=hq0
    subst e;cases r1
    obtain ⟨vs,h1,r1⟩:=g1.list hA
    refine ⟨p,vs,rfl,SqL.of h1,?_⟩
    rw [<- r1.length]
    refine k _ _ _ _ k1 g1 (fun i A2 H2 r k2 g2 e=>?_) q1
    rcases e with ⟨rfl,rfl⟩ | ⟨hi,us2,u,hA2,hu,rfl⟩
    . rfl
    . obtain ⟨vs2,h2,r2⟩:=g2.list hA2
      obtain ⟨v,hv,rv⟩:=r2.get' hu
      refine ⟨⟨hi,vs2,v,SqL.of h2,hv⟩,?_⟩
      rintro x H' ⟨rfl,hx⟩
      have:=hx vs2 (SqL.of h2)
      rw [hv] at this;cases this
      exact ⟨.refl _,g2,rv⟩
noncomputable def aCompStart (nt:Nat) (frs:List (Str × Nat)) (ρ:ASt):ASt:=List.replicate nt none++frs.map fun p=>(ρ[p.2]?).join
theorem RSt.join {H:Hp}:∀ {ρ:ASt} {σ:St} (i:Nat) {ρ2:ASt} {σ2:St},RSt K H ρ σ->RSt K H ρ2 σ2->RSt K H ((ρ[i]?).join::ρ2) ((σ[i]?).join::σ2)
  | _,_,_,_,_,.nil,q=>by simpa using .skip q
  | _,_,0,_,_,.skip _,q=>by simpa using .skip q
  | _,_,i + 1,_,_,.skip r,q=>by simpa using RSt.join i r q
  | _,_,0,_,_,.cons h _,q=>by simpa using .cons h q
  | _,_,i + 1,_,_,.cons _ r,q=>by simpa using RSt.join i r q
theorem RSt.comp {H:Hp} {ρ:ASt} {σ:St} (h:RSt K H ρ σ) (nt:Nat) (frs:List (Str × Nat)):RSt K H (aCompStart nt frs ρ) (compStart nt frs σ):=by
  unfold aCompStart compStart
  induction nt with
  | zero =>
    simp only [List.replicate_zero,List.nil_append]
    induction frs with
    | nil=>exact .nil
    | cons p frs ih=>simp only [List.map_cons];exact h.join p.2 ih
  | succ n ih=>simp only [List.replicate_succ,List.cons_append];exact .skip ih
noncomputable def aCL (J:AIt) (g:AG) (tt:AT) (te:AE) (l:Addr) (Q:AVK) (τ:ASt) (A:AHp):Prop:=∃ W:Nat->Nat->ASt->AHp->Prop,(∃ m,W 0 m τ A) /\
  ∀ i m τ A,W i m τ A->(J i A none/\Q (.ref l) A)\/∃ u,J i A (some u)/\g u τ A fun τ2 A2=>tt τ2 A2 fun ok A3 =>
    if ok=true then te τ2 A3 fun y A4=>∃ ys,A4 l=some (.lst ys)/\ys.length < sizeLine/\∃ m',m' < m/\W (i + 1) m' τ2 (updA A4 l (.lst (ys++[y]))) else ∃ m',m' < m/\W (i + 1) m' τ2 A3
noncomputable def aComp (nt:Nat) (frs:List (Str × Nat)) (wi:AI) (g:AG) (tt:AT) (te:AE):AE:=fun ρ A Q=>wi ρ A fun J A1=>∀ l,A1 l=none->aCL J g tt te l Q (aCompStart nt frs ρ) (updA A1 l (.lst []))
theorem ab_comp {nt:Nat} {frs:List (Str × Nat)} {wi:TI} {g:TG} {tt:TT} {te:TE} {ai:AI} {ag:AG} {at':AT} {ae:AE} (hi:AbI K wi ai) (hg:AbG K g ag) (ht:AbT K tt at') (he:AbE K te ae):AbE K (tComp nt frs wi g tt te) (aComp nt frs ai ag at' ae):=fun ρ A σ H Q' Q hs g0 w k=>by
  refine hi ρ A σ H _ _ hs g0 w fun aj A1 J H1 k1 g1 hj q=>?_
  intro l hl
  obtain ⟨W,⟨m0,w0⟩,turn⟩:=q l (g1.none hl)
  have kl:Kp K H1 (upd H1 l (.lst [])):=(Same.upd_new hl).kp
  refine ⟨fun i m τ H2=>∃ τ' A2,Kp K H1 H2/\HR K H2 A2/\RSt K H2 τ' τ/\W i m τ' A2,⟨m0,_,_,kl,g1.newL hl .nil,(hs.same (k1.trans kl)).comp nt frs,w0⟩,?_⟩
  rintro i m τ H2 ⟨τ',A2,k2,g2,s2,w2⟩
  have k12:=k1.trans k2
  rcases turn i m τ' A2 w2 with ⟨hstop,q⟩ | ⟨u,hgo,q⟩
  . exact .inl ⟨hj i A2 H2 _ k2 g2 hstop,k _ _ _ _ k12 g2 (.ref l) q⟩
  . obtain ⟨j1,j2⟩:=hj i A2 H2 _ k2 g2 hgo
    refine .inr ⟨j1,fun x H3 hy=>?_⟩
    obtain ⟨k3,g3,r3⟩:=j2 x H3 hy
    refine hg _ _ _ _ _ _ _ _ r3 (s2.same k3) g3 q fun ρ4 A4 σ4 H4 k4 g4 s4 q4=>ht ρ4 A4 σ4 H4 _ _ s4 g4 q4 fun b A5 H5 k5 g5 q5=>?_
    have k25:=k2.trans (k3.trans (k4.trans k5))
    cases b
    . refine iteN (by decide) ?_
      obtain ⟨m',hm,w'⟩:=(by simpa using q5:∃ m',m' < m/\W (i + 1) m' ρ4 A5)
      exact ⟨m',hm,_,_,k25,g5,s4.same k5,w'⟩
    . refine iteP rfl (he ρ4 A5 σ4 H5 _ _ (s4.same k5) g5 (by simpa using q5) fun y A6 v6 H6 k6 g6 r6 q6=>?_)
      obtain ⟨ys,hA,hz,m',hm,w'⟩:=q6
      obtain ⟨vs,h6,r7⟩:=g6.list hA
      exact ⟨vs,h6,by rw [<- r7.length];exact hz,m',hm,_,_,k25.trans (k6.trans (Kp.lst h6)),g6.setL h6 (r7.app (.one r6)),(s4.same (k5.trans (k6.trans (Kp.lst h6)))),w'⟩
end
end L2
namespace L2
open PySem PySem.Spec PyProof.Rows
section
variable {K:PySem.W.Frag}
noncomputable def xAdd:AR2:=fun u w A Q=>match u,w with
  | .int i,.int j=>Q (.int (i + j)) A
  | .str i,.str j=>i.length + j.length<=sizeLine/\Q (.str (i++j)) A
  | .tup xs,.tup ys=>xs.length + ys.length<=sizeLine/\Q (.tup (xs++ys)) A
  | .ref a,.ref b=>∃ xs ys,A a=some (.lst xs)/\A b=some (.lst ys)/\xs.length + ys.length<=sizeLine/\∀ p,A p=none->Q (.ref p) (updA A p (.lst (xs++ys)))
  | _,_=>False
theorem ab_add:AbR K (uAddW K) xAdd:=fun x y u w A H Q' Q hu hw g h k=>by
  unfold xAdd at h
  split at h
  . cases hu;cases hw;exact k _ _ _ _ (.refl H) g (.int _) h
  . cases hu;cases hw;exact ⟨h.1,k _ _ _ _ (.refl H) g (.str _) h.2⟩
  . cases hu with
    | tup h1 r1 =>
      cases hw with
      | tup h2 r2 =>
        refine .inr ⟨_,_,h1,h2,by rw [<- r1.length,<- r2.length];exact h.1,fun p H' s hp=>k _ _ _ _ s.kp (g.grow s) (.tup hp ((r1.app r2).same s.kp)) h.2⟩
  . cases hu;cases hw
    obtain ⟨xs,ys,e1,e2,hz,q⟩:=h
    obtain ⟨vs,h1,r1⟩:=g.list e1
    obtain ⟨zs,h2,r2⟩:=g.list e2
    exact .inl ⟨vs,zs,SqL.of h1,SqL.of h2,by rw [<- r1.length,<- r2.length];exact hz,fun p hp=>k _ _ _ _ (Same.upd_new hp).kp (g.newL hp (r1.app r2)) (.ref p) (q p (g.none hp))⟩
  . exact h.elim
noncomputable def xI2 (C:Int->Int->Prop) (f:Int->Int->U):AR2:=fun u w A Q=>match u,w with
  | .int i,.int j=>C i j/\Q (f i j) A
  | _,_=>False
noncomputable def xI (f:Int->Int->U):AR2:=fun u w A Q=>match u,w with
  | .int i,.int j=>Q (f i j) A
  | _,_=>False
theorem ab_sub:AbR K uSub (xI fun i j=>.int (i - j)):=fun x y u w A H Q' Q hu hw g h k=>by
  unfold xI at h
  split at h
  . cases hu;cases hw;exact k _ _ _ _ (.refl H) g (.int _) h
  . exact h.elim
noncomputable def xMul:AR2:=fun u w A Q=>match u,w with
  | .int i,.int j=>IntMulOk i j/\Q (.int (i * j)) A
  | .ref a,.int m=>∃ xs,A a=some (.lst xs)/\-(2 ^ 63)<=m/\m < 2 ^ 63/\xs.length * m.toNat<=sizeLine/\∀ p,A p=none->Q (.ref p) (updA A p (.lst (List.replicate m.toNat xs).flatten))
  | _,_=>False
theorem RUs.flat {H:Hp} {us:List U} {vs:List V} (r:RUs K H us vs):∀ n,RUs K H (List.replicate n us).flatten (List.replicate n vs).flatten
  | 0=>.nil
  | n + 1=>by rw [List.replicate_succ,List.replicate_succ,List.flatten_cons,List.flatten_cons];exact r.app (r.flat n)
theorem ab_mul:AbR K uMulB xMul:=fun x y u w A H Q' Q hu hw g h k=>by
  unfold xMul at h
  split at h
  . cases hu;cases hw;exact ⟨h.1,k _ _ _ _ (.refl H) g (.int _) h.2⟩
  . cases hu;cases hw
    obtain ⟨xs,e1,b1,b2,hz,q⟩:=h
    obtain ⟨vs,h1,r1⟩:=g.list e1
    exact ⟨_,_,vs,rfl,rfl,h1,b1,b2,by rw [<- r1.length];exact hz,fun p hp=>k _ _ _ _ (Same.upd_new hp).kp (g.newL hp (r1.flat _)) (.ref p) (q p (g.none hp))⟩
  . exact h.elim
theorem ab_div:AbR K uDiv (xI2 CDiv fun i j=>.int (i / j)):=fun x y u w A H Q' Q hu hw g h k=>by
  unfold xI2 at h
  split at h
  . cases hu;cases hw;exact ⟨h.1,k _ _ _ _ (.refl H) g (.int _) h.2⟩
  . exact h.elim
theorem ab_mod:AbR K uMod (xI2 (fun _ j=>0 < j) fun i j=>.int (i % j)):=fun x y u w A H Q' Q hu hw g h k=>by
  unfold xI2 at h
  split at h
  . cases hu;cases hw;exact ⟨h.1,k _ _ _ _ (.refl H) g (.int _) h.2⟩
  . exact h.elim
theorem ab_pow:AbR K uPow (xI2 CPow fun i j=>.int (i ^ j.toNat)):=fun x y u w A H Q' Q hu hw g h k=>by
  unfold xI2 at h
  split at h
  . cases hu;cases hw;exact ⟨h.1,k _ _ _ _ (.refl H) g (.int _) h.2⟩
  . exact h.elim
noncomputable def xLt:AR2:=fun u w A Q=>match u,w with
  | .int i,.int j=>Q (.bl (decide (i < j))) A
  | .str i,.str j=>Q (.bl (decide (i.cps.toList < j.cps.toList))) A
  | _,_=>False
theorem ab_lt:AbR K uLt xLt:=fun x y u w A H Q' Q hu hw g h k=>by
  unfold xLt at h
  split at h
  . cases hu;cases hw;exact k _ _ _ _ (.refl H) g (.bl _) h
  . cases hu;cases hw;exact k _ _ _ _ (.refl H) g (.bl _) h
  . exact h.elim
theorem ab_le:AbR K uLe (xI fun i j=>.bl (decide (i<=j))):=fun x y u w A H Q' Q hu hw g h k=>by
  unfold xI at h
  split at h
  . cases hu;cases hw;exact k _ _ _ _ (.refl H) g (.bl _) h
  . exact h.elim
theorem ab_gt:AbR K uGt (xI fun i j=>.bl (decide (j < i))):=fun x y u w A H Q' Q hu hw g h k=>by
  unfold xI at h
  split at h
  . cases hu;cases hw;exact k _ _ _ _ (.refl H) g (.bl _) h
  . exact h.elim
theorem ab_ge:AbR K uGe (xI fun i j=>.bl (decide (j<=i))):=fun x y u w A H Q' Q hu hw g h k=>by
  unfold xI at h
  split at h
  . cases hu;cases hw;exact k _ _ _ _ (.refl H) g (.bl _) h
  . exact h.elim
mutual
inductive DU (A:AHp):U->PyData->Prop
  | non:DU A .non .none
  | bl (b:Bool):DU A (.bl b) (.bool b)
  | int (i:Int):DU A (.int i) (.int i)
  | str (x:Str):DU A (.str x) (.str x)
  | tup {us:List U} {ds:List PyData}:DUs A us ds->DU A (.tup us) (.tuple ds)
  | rol {us:List U} {ds:List PyData}:DUs A us ds->DU A (.rol us) (.list ds)
  | lst {a:Addr} {us:List U} {ds:List PyData}:A a=some (.lst us)->DUs A us ds->DU A (.ref a) (.list ds)
inductive DUs (A:AHp):List U->List PyData->Prop
  | nil:DUs A [] []
  | cons {u:U} {d:PyData} {us:List U} {ds:List PyData}:DU A u d->DUs A us ds->DUs A (u::us) (d::ds)
end
mutual
theorem DU.rep {A:AHp} {H:Hp} (g:HR K H A):∀ {u:U} {v:V} {d:PyData},DU A u d->RU K H u v->Rep K H d v:=by
  intro u v d h r
  cases h with
  | non=>cases r;exact .non
  | bl b=>cases r;exact .bl b
  | int b=>cases r;exact .int b
  | str b=>cases r;exact .str b
  | tup q=>cases r with | tup h r=>exact .tup h (DUs.reps g q r)
  | rol q=>cases r with | rol h r=>exact .lst h.sq (DUs.reps g q r)
  | lst e q =>
    cases r
    obtain ⟨vs,h,r⟩:=g.list e
    exact .lst (SqL.of h) (DUs.reps g q r)
theorem DUs.reps {A:AHp} {H:Hp} (g:HR K H A):∀ {us:List U} {vs:List V} {ds:List PyData},DUs A us ds->RUs K H us vs->Reps K H ds vs
  | _,_,_,.nil,.nil=>.nil
  | _,_,_,.cons h r,.cons q s=>.cons (DU.rep g h q) (DUs.reps g r s)
end
noncomputable def xDeep (ne:Bool) (u w:U) (A:AHp) (Q:AVK):Prop:=∃ d e,DU A u d/\DU A w e/\d.canLay0=true/\e.canLay0=true/\d.depth<=190/\Q (.bl (if ne then !PyData.eqv d e else PyData.eqv d e)) A
noncomputable def xEq:AR2:=fun u w A Q=>match u,w with
  | .int i,.int j=>Q (.bl (decide (i=j))) A
  | .str i,.str j=>Q (.bl (decide (i=j))) A
  | .bl i,.bl j=>Q (.bl (decide (i=j))) A
  | .tup us,.tup ws=>xDeep false (.tup us) (.tup ws) A Q
  | .ref a,.ref b=>xDeep false (.ref a) (.ref b) A Q
  | .rol a,.ref b=>xDeep false (.rol a) (.ref b) A Q
  | .tup us,.non=>xDeep false (.tup us) .non A Q
  | .non,.tup us=>xDeep false .non (.tup us) A Q
  | .non,.non=>Q (.bl true) A
  | .non,.str _=>Q (.bl false) A
  | .str _,.non=>Q (.bl false) A
  | _,_=>False
theorem deep_eq {x y:V} {u w:U} {A:AHp} {H:Hp} {Q':AVK} {Q:VK} {ne:Bool} (hu:RU K H u x) (hw:RU K H w y) (g:HR K H A) (h:xDeep ne u w A Q') (k:Aft K H Q' Q):rEqD K ne x y H Q:=by
  obtain ⟨d,e,h1,h2,c1,c2,dp,q⟩:=h
  exact ⟨d,e,h1.rep g hu,h2.rep g hw,c1,c2,dp,k _ _ _ _ (.refl H) g (.bl _) q⟩
theorem ab_eq:AbR K (uEqD K) xEq:=fun x y u w A H Q' Q hu hw g h k=>by
  unfold xEq at h
  split at h
  . cases hu;cases hw;exact k _ _ _ _ (.refl H) g (.bl _) h
  . cases hu;cases hw;exact k _ _ _ _ (.refl H) g (.bl _) h
  . cases hu;cases hw;exact k _ _ _ _ (.refl H) g (.bl _) h
  . have:=deep_eq hu hw g h k;cases hu;exact this
  . have:=deep_eq hu hw g h k;cases hu;exact this
  . have:=deep_eq hu hw g h k;cases hu;exact this
  . have:=deep_eq hu hw g h k;cases hu;exact this
  . have:=deep_eq hu hw g h k;cases hu;cases hw;exact this
  . cases hu;cases hw;exact k _ _ _ _ (.refl H) g (.bl _) h
  . cases hu;cases hw;exact k _ _ _ _ (.refl H) g (.bl _) h
  . cases hu;cases hw;exact k _ _ _ _ (.refl H) g (.bl _) h
  . exact h.elim
noncomputable def xNe:AR2:=fun u w A Q=>match u,w with
  | .int i,.int j=>Q (.bl (!decide (i=j))) A
  | .str i,.str j=>Q (.bl (!decide (i=j))) A
  | .bl i,.bl j=>Q (.bl (!decide (i=j))) A
  | .tup us,.tup ws=>xDeep true (.tup us) (.tup ws) A Q
  | .ref a,.ref b=>xDeep true (.ref a) (.ref b) A Q
  | .rol a,.ref b=>xDeep true (.rol a) (.ref b) A Q
  | .tup us,.non=>xDeep true (.tup us) .non A Q
  | .non,.tup us=>xDeep true .non (.tup us) A Q
  | .non,.non=>Q (.bl false) A
  | .non,.str _=>Q (.bl true) A
  | .str _,.non=>Q (.bl true) A
  | _,_=>False
theorem ab_ne:AbR K (uNeD K) xNe:=fun x y u w A H Q' Q hu hw g h k=>by
  unfold xNe at h
  split at h
  . cases hu;cases hw;exact k _ _ _ _ (.refl H) g (.bl _) h
  . cases hu;cases hw;exact k _ _ _ _ (.refl H) g (.bl _) h
  . cases hu;cases hw;exact k _ _ _ _ (.refl H) g (.bl _) h
  . have:=deep_eq hu hw g h k;cases hu;exact this
  . have:=deep_eq hu hw g h k;cases hu;exact this
  . have:=deep_eq hu hw g h k;cases hu;exact this
  . have:=deep_eq hu hw g h k;cases hu;exact this
  . have:=deep_eq hu hw g h k;cases hu;cases hw;exact this
  . cases hu;cases hw;exact k _ _ _ _ (.refl H) g (.bl _) h
  . cases hu;cases hw;exact k _ _ _ _ (.refl H) g (.bl _) h
  . cases hu;cases hw;exact k _ _ _ _ (.refl H) g (.bl _) h
  . exact h.elim
noncomputable def U.isNon:U->Bool
  | .non=>true
  | _=>false
noncomputable def xIsN:AR2:=fun u w A Q=>w=.non/\Q (.bl u.isNon) A
noncomputable def xNotN:AR2:=fun u w A Q=>w=.non/\Q (.bl (!u.isNon)) A
theorem ab_isN:AbR K (fun x y H Q=>y=.non/\Q (.bl (decide (x=.non))) H) xIsN:=fun x y u w A H Q' Q hu hw g hq0 k=>by
  obtain ⟨e,h⟩:=hq0
  subst e;cases hw
  refine ⟨rfl,?_⟩
  have:decide (x=V.non)=u.isNon:=by cases hu <;> simp [U.isNon]
  rw [this]
  exact k _ _ _ _ (.refl H) g (.bl _) h
theorem ab_notN:AbR K (fun x y H Q=>y=.non/\Q (.bl (!decide (x=.non))) H) xNotN:=fun x y u w A H Q' Q hu hw g hq0 k=>by
  obtain ⟨e,h⟩:=hq0
  subst e;cases hw
  refine ⟨rfl,?_⟩
  have:decide (x=V.non)=u.isNon:=by cases hu <;> simp [U.isNon]
  rw [this]
  exact k _ _ _ _ (.refl H) g (.bl _) h
noncomputable def U.flat:U->Bool
  | .non=>true
  | .bl _=>true
  | .int _=>true
  | .str _=>true
  | _=>false
noncomputable def U.toV:U->V
  | .bl b=>.bl b
  | .int i=>.int i
  | .str x=>.str x
  | _=>.non
theorem RU.flat {H:Hp} {u:U} {v:V} (h:RU K H u v) (f:u.flat=true):v=u.toV/\flatV v=true:=by
  cases h <;> first | exact ⟨rfl,rfl⟩ | cases f
theorem RUs.flats {H:Hp}:∀ {us:List U} {vs:List V},RUs K H us vs->us.all U.flat=true->vs=us.map U.toV/\vs.all flatV=true
  | _,_,.nil,_=>⟨rfl,rfl⟩
  | _, _,.cons h r,f=>by
    rw [List.all_cons,Bool.and_eq_true] at f
    obtain ⟨e1,f1⟩:=h.flat f.1
    obtain ⟨e2,f2⟩:=RUs.flats r f.2
    exact ⟨by rw [List.map_cons,e1,e2],by rw [List.all_cons,f1,f2];rfl⟩
noncomputable def inU (u:U) (us:List U):Bool:=inV u.toV (us.map U.toV)
noncomputable def xInB (neg:Bool):AR2:=fun u w A Q=>match w with
  | .str j=>∃ i,u=.str i/\Q (.bl (if neg then !occ j i else occ j i)) A
  | .tup us=>u.flat=true/\us.all U.flat=true/\Q (.bl (if neg then !inU u us else inU u us)) A
  | .rol us=>u.flat=true/\us.all U.flat=true/\Q (.bl (if neg then !inU u us else inU u us)) A
  | .ref a=>∃ us,A a=some (.lst us)/\u.flat=true/\us.all U.flat=true/\Q (.bl (if neg then !inU u us else inU u us)) A
  | _=>False
noncomputable abbrev xIn:=xInB false
theorem in_ref {x:V} {p:Addr} {H:Hp} {Q:VK} {xs:List V} (fx:flatV x=true) (h:∃ xs,Sq K H p xs/\flatV x=true/\xs.all flatV=true/\Q (.bl (inV x xs)) H):uIn K x (.ref p) H Q:=by
  cases x <;> exact h
theorem in_go {x:V} {u:U} {us:List U} {vs:List V} {p:Addr} {H:Hp} {A:AHp} {Q':AVK} {Q:VK} (hu:RU K H u x) (hs:Sq K H p vs) (r:RUs K H us vs) (g:HR K H A) (f:u.flat=true) (fs:us.all U.flat=true) (h:Q' (.bl (inU u us)) A) (k:Aft K H Q' Q):uIn K x (.ref p) H Q:=by
  obtain ⟨e1,f1⟩:=hu.flat f
  obtain ⟨e2,f2⟩:=r.flats fs
  refine in_ref (xs:=vs) f1 ⟨vs,hs,f1,f2,k _ _ _ _ (.refl H) g (.bl _) ?_⟩
  rw [e1,e2];exact h
theorem ab_in:AbR K (uIn K) xIn:=fun x y u w A H Q' Q hu hw g h k=>by
  unfold xIn xInB at h
  split at h
  . obtain ⟨i,rfl,h⟩:=h
    cases hw;cases hu;exact k _ _ _ _ (.refl H) g (.bl _) h
  . cases hw with
    | tup h1 r1=>exact in_go hu (.inr h1) r1 g h.1 h.2.1 h.2.2 k
  . cases hw with
    | rol h1 r1=>exact in_go hu (.inl h1.sq) r1 g h.1 h.2.1 h.2.2 k
  . cases hw
    obtain ⟨us,e,h⟩:=h
    obtain ⟨vs,h1,r1⟩:=g.list e
    exact in_go hu (.inl (SqL.of h1)) r1 g h.1 h.2.1 h.2.2 k
  . exact h.elim
theorem RUs.at {H:Hp} {us:List U} {vs:List V} {i:Int} {u:U} (r:RUs K H us vs) (h:atI us i=some u):∃ v,atI vs i=some v/\RU K H u v:=by
  unfold atI at h ⊢
  rw [<- r.length]
  cases e:ixN us.length i with
  | none=>rw [e] at h;cases h
  | some j=>rw [e] at h;exact r.get' h
noncomputable def xIx:AR2:=fun u w A Q=>match u,w with
  | .str z,.int i=>z.length<=sizeLine/\∃ c,atI z.cps.toList i=some c/\Q (.str ⟨#[c]⟩) A
  | .tup us,.int i=>∃ x,atI us i=some x/\Q x A
  | .rol us,.int i=>∃ x,atI us i=some x/\Q x A
  | .ref a,.int i=>∃ us x,A a=some (.lst us)/\atI us i=some x/\Q x A
  | _,_=>False
theorem ab_ix:AbR K (uIx K) xIx:=fun x y u w A H Q' Q hu hw g h k=>by
  unfold xIx at h
  split at h
  . cases hu;cases hw
    obtain ⟨hz,c,e,h⟩:=h
    exact ⟨hz,c,e,k _ _ _ _ (.refl H) g (.str _) h⟩
  . cases hw
    obtain ⟨x,e,h⟩:=h
    cases hu with
    | tup h1 r1 =>
      obtain ⟨v,e2,rv⟩:=r1.at e
      exact ⟨_,v,.inr h1,e2,k _ _ _ _ (.refl H) g rv h⟩
  . cases hw
    obtain ⟨x,e,h⟩:=h
    cases hu with
    | rol h1 r1 =>
      obtain ⟨v,e2,rv⟩:=r1.at e
      exact ⟨_,v,.inl h1.sq,e2,k _ _ _ _ (.refl H) g rv h⟩
  . cases hw;cases hu
    obtain ⟨us,x,e0,e,h⟩:=h
    obtain ⟨vs,h1,r1⟩:=g.list e0
    obtain ⟨v,e2,rv⟩:=r1.at e
    exact ⟨_,v,.inl (SqL.of h1),e2,k _ _ _ _ (.refl H) g rv h⟩
  . exact h.elim
noncomputable def cutU (xs:List U) (lo hi:Option Int):List U:=(xs.drop (HT.sIx xs.length 0 lo)).take (HT.sIx xs.length xs.length hi - HT.sIx xs.length 0 lo)
theorem RUs.cut {H:Hp} {us:List U} {vs:List V} (r:RUs K H us vs) (lo hi:Option Int):RUs K H (cutU us lo hi) (cutV vs lo hi):=by
  unfold cutU cutV
  rw [r.length]
  exact (r.drop _).take _
noncomputable def xSl:U->Option Int->Option Int->AHp->AVK->Prop:=fun u lo hi A Q=>match u with
  | .str z=>z.length<=sizeLine/\Q (.str (cutS z lo hi)) A
  | .tup us=>Q (.tup (cutU us lo hi)) A
  | .rol us=>∀ p,A p=none->Q (.ref p) (updA A p (.lst (cutU us lo hi)))
  | .ref a=>∃ us,A a=some (.lst us)/\∀ p,A p=none->Q (.ref p) (updA A p (.lst (cutU us lo hi)))
  | _=>False
theorem ab_xsl:AbSl K (uSlW K) xSl:=fun x u lo hi A H Q' Q hu g h k=>by
  unfold xSl at h
  split at h
  . cases hu;exact ⟨h.1,k _ _ _ _ (.refl H) g (.str _) h.2⟩
  . cases hu with
    | tup h1 r1=>exact .inr ⟨_,h1,fun p H' s hp=>k _ _ _ _ s.kp (g.grow s) (.tup hp ((r1.cut lo hi).same s.kp)) h⟩
  . cases hu with
    | rol h1 r1=>exact .inl ⟨_,h1.sq,fun p hp=>k _ _ _ _ (Same.upd_new hp).kp (g.newL hp (r1.cut lo hi)) (.ref p) (h p (g.none hp))⟩
  . cases hu
    obtain ⟨us,e,h⟩:=h
    obtain ⟨vs,h1,r1⟩:=g.list e
    exact .inl ⟨_,SqL.of h1,fun p hp=>k _ _ _ _ (Same.upd_new hp).kp (g.newL hp (r1.cut lo hi)) (.ref p) (h p (g.none hp))⟩
  . exact h.elim
noncomputable def xLen:List U->AHp->AVK->Prop:=fun us A Q=>match us with
  | [.str z]=>z.length<=sizeLine/\Q (.int z.length) A
  | [.tup us]=>Q (.int us.length) A
  | [.rol us]=>Q (.int us.length) A
  | [.ref a]=>∃ us,A a=some (.lst us)/\Q (.int us.length) A
  | _=>False
theorem RUs.inv1 {H:Hp} {u:U} {vs:List V} (h:RUs K H [u] vs):∃ v,vs=[v]/\RU K H u v:=by
  cases h with
  | cons h r=>cases r;exact ⟨_,rfl,h⟩
theorem RUs.inv2 {H:Hp} {u w:U} {vs:List V} (h:RUs K H [u,w] vs):∃ v x,vs=[v,x]/\RU K H u v/\RU K H w x:=by
  cases h with
  | cons h r=>obtain ⟨x,rfl,r'⟩:=r.inv1;exact ⟨_,x,rfl,h,r'⟩
theorem ab_len:AbL K (uLen K) xLen:=fun xs us A H Q' Q r g h k=>by
  unfold xLen at h
  split at h
  . obtain ⟨v,rfl,r'⟩:=r.inv1;cases r';exact ⟨h.1,k _ _ _ _ (.refl H) g (.int _) h.2⟩
  . obtain ⟨v,rfl,r'⟩:=r.inv1
    cases r' with
    | tup h1 r1=>exact ⟨_,.inr h1,k _ _ _ _ (.refl H) g (.int _) (by rw [<- r1.length];exact h)⟩
  . obtain ⟨v,rfl,r'⟩:=r.inv1
    cases r' with
    | rol h1 r1=>exact ⟨_,.inl h1.sq,k _ _ _ _ (.refl H) g (.int _) (by rw [<- r1.length];exact h)⟩
  . obtain ⟨v,rfl,r'⟩:=r.inv1
    cases r'
    obtain ⟨us,e,h⟩:=h
    obtain ⟨vs,h1,r1⟩:=g.list e
    exact ⟨_,.inl (SqL.of h1),k _ _ _ _ (.refl H) g (.int _) (by rw [<- r1.length];exact h)⟩
  . exact h.elim
noncomputable def xMin:List U->AHp->AVK->Prop:=fun us A Q=>match us with
  | [.int i,.int j]=>Q (.int (min i j)) A
  | [.ref a]=>∃ ns:List Int,A a=some (.lst (ns.map U.int))/\1<=ns.length/\∀ m,m∈ns->(∀ x∈ns,m<=x)->Q (.int m) A
  | _=>False
noncomputable def xMax:List U->AHp->AVK->Prop:=fun us A Q=>match us with
  | [.int i,.int j]=>Q (.int (max i j)) A
  | [.ref a]=>∃ ns:List Int,A a=some (.lst (ns.map U.int))/\1<=ns.length/\∀ m,m∈ns->(∀ x∈ns,x<=m)->Q (.int m) A
  | _=>False
theorem ab_min:AbL K (uMinA K) xMin:=fun xs us A H Q' Q r g h k=>by
  unfold xMin at h
  split at h
  . obtain ⟨v,x,rfl,r1,r2⟩:=r.inv2;cases r1;cases r2;exact k _ _ _ _ (.refl H) g (.int _) h
  . obtain ⟨v,rfl,r'⟩:=r.inv1;cases r'
    obtain ⟨ns,e,hn,h⟩:=h
    obtain ⟨vs,h1,r1⟩:=g.list e
    exact ⟨ns,SqL.of (by rw [h1,r1.ints]),hn,fun m hm hx=>k _ _ _ _ (.refl H) g (.int _) (h m hm hx)⟩
  . exact h.elim
theorem ab_max:AbL K (uMaxA K) xMax:=fun xs us A H Q' Q r g h k=>by
  unfold xMax at h
  split at h
  . obtain ⟨v,x,rfl,r1,r2⟩:=r.inv2;cases r1;cases r2;exact k _ _ _ _ (.refl H) g (.int _) h
  . obtain ⟨v,rfl,r'⟩:=r.inv1;cases r'
    obtain ⟨ns,e,hn,h⟩:=h
    obtain ⟨vs,h1,r1⟩:=g.list e
    exact ⟨ns,SqL.of (by rw [h1,r1.ints]),hn,fun m hm hx=>k _ _ _ _ (.refl H) g (.int _) (h m hm hx)⟩
  . exact h.elim
noncomputable def xSum:List U->AHp->AVK->Prop:=fun us A Q=>match us with
  | [.ref a]=>∃ ns:List Int,A a=some (.lst (ns.map U.int))/\Q (.int ns.sum) A
  | _=>False
theorem ab_sum:AbL K (uSum K) xSum:=fun xs us A H Q' Q r g h k=>by
  unfold xSum at h
  split at h
  . obtain ⟨v,rfl,r'⟩:=r.inv1;cases r'
    obtain ⟨ns,e,h⟩:=h
    obtain ⟨vs,h1,r1⟩:=g.list e
    exact ⟨ns,SqL.of (by rw [h1,r1.ints]),k _ _ _ _ (.refl H) g (.int _) h⟩
  . exact h.elim
noncomputable def xAll:List U->AHp->AVK->Prop:=fun us A Q=>match us with
  | [.ref a]=>∃ bs:List Bool,A a=some (.lst (bs.map U.bl))/\Q (.bl (bs.all id)) A
  | _=>False
theorem ab_all:AbL K (fun xs H Q=>∃ (p:Addr) (bs:List Bool),xs=[.ref p]/\SqL K H p (bs.map V.bl)/\Q (.bl (bs.all id)) H) xAll:=fun xs us A H Q' Q r g h k=>by
  unfold xAll at h
  split at h
  . obtain ⟨v,rfl,r'⟩:=r.inv1;cases r'
    obtain ⟨bs,e,h⟩:=h
    obtain ⟨vs,h1,r1⟩:=g.list e
    exact ⟨_,bs,rfl,SqL.of (by rw [h1,r1.bls]),k _ _ _ _ (.refl H) g (.bl _) h⟩
  . exact h.elim
noncomputable def xListOf:List U->AHp->AVK->Prop:=fun us A Q=>match us with
  | [.tup us]=>∀ p,A p=none->Q (.ref p) (updA A p (.lst us))
  | [.rol us]=>∀ p,A p=none->Q (.ref p) (updA A p (.lst us))
  | [.ref a]=>∃ us,A a=some (.lst us)/\∀ p,A p=none->Q (.ref p) (updA A p (.lst us))
  | _=>False
theorem ab_listof:AbL K (uListOf K) xListOf:=fun xs us A H Q' Q r g h k=>by
  unfold xListOf at h
  split at h
  . obtain ⟨v,rfl,r'⟩:=r.inv1
    cases r' with
    | tup h1 r1=>exact ⟨_,.inr h1,fun p hp=>k _ _ _ _ (Same.upd_new hp).kp (g.newL hp r1) (.ref p) (h p (g.none hp))⟩
  . obtain ⟨v,rfl,r'⟩:=r.inv1
    cases r' with
    | rol h1 r1=>exact ⟨_,.inl h1.sq,fun p hp=>k _ _ _ _ (Same.upd_new hp).kp (g.newL hp r1) (.ref p) (h p (g.none hp))⟩
  . obtain ⟨v,rfl,r'⟩:=r.inv1
    cases r'
    obtain ⟨us,e,h⟩:=h
    obtain ⟨vs,h1,r1⟩:=g.list e
    exact ⟨_,.inl (SqL.of h1),fun p hp=>k _ _ _ _ (Same.upd_new hp).kp (g.newL hp r1) (.ref p) (h p (g.none hp))⟩
  . exact h.elim
noncomputable def xTupOf:List U->AHp->AVK->Prop:=fun us A Q=>match us with
  | [.tup us]=>Q (.tup us) A
  | [.rol us]=>Q (.tup us) A
  | [.ref a]=>∃ us,A a=some (.lst us)/\Q (.tup us) A
  | _=>False
noncomputable def xInt:List U->AHp->AVK->Prop:=fun us A Q=>match us with
  | [.int i]=>Q (.int i) A
  | [.bl k]=>Q (.int (if k then 1 else 0)) A
  | _=>False
theorem ab_xint:AbL K uInt xInt:=fun xs us A H Q' Q r g h k=>by
  unfold xInt at h
  split at h
  . obtain ⟨v,rfl,r'⟩:=r.inv1;cases r';exact k _ _ _ _ (.refl H) g (.int _) h
  . obtain ⟨v,rfl,r'⟩:=r.inv1;cases r';exact k _ _ _ _ (.refl H) g (.int _) h
  . exact h.elim
theorem ab_neg:AbU K (rU fun i=>.int (-i)) (fun u A Q=>∃ i,u=.int i/\Q (.int (-i)) A):=fun x u A H Q' Q r g hq0 k=>by
  obtain ⟨i,e,h⟩:=hq0
  subst e;cases r;exact ⟨i,rfl,k _ _ _ _ (.refl H) g (.int _) h⟩
noncomputable def isLst:U->AHp->Prop:=fun u A=>match u with
  | .ref a=>∃ us,A a=some (.lst us)
  | _=>False
theorem ab_isLst:AbY K "list" isLst:=fun x u A H r g h=>by
  unfold isLst at h
  split at h
  . cases r
    obtain ⟨us,e⟩:=h
    obtain ⟨vs,h1,r1⟩:=g.list e
    exact .inl ⟨rfl,vs,SqL.of h1⟩
  . exact h.elim
noncomputable def isTupU:U->AHp->Prop:=fun u _=>match u with
  | .tup _=>True
  | _=>False
noncomputable def mApp:U->List U->AHp->AVK->Prop:=fun u us A Q=>match u,us with
  | .ref a,[w]=>∃ xs,A a=some (.lst xs)/\xs.length < sizeLine/\Q .non (updA A a (.lst (xs++[w])))
  | _,_=>False
theorem ab_mapp:AbMt K rAppend mApp:=fun x u xs us A H Q' Q r rs g h k=>by
  unfold mApp at h
  split at h
  . cases r
    obtain ⟨v,rfl,rv⟩:=rs.inv1
    obtain ⟨zs,e,hz,h⟩:=h
    obtain ⟨vs,h1,r1⟩:=g.list e
    exact ⟨_,vs,_,rfl,rfl,h1,by rw [<- r1.length];exact hz,k _ _ _ _ (Kp.lst h1) (g.setL h1 (r1.app (.one rv))) .non h⟩
  . exact h.elim
noncomputable def mPop:U->List U->AHp->AVK->Prop:=fun u us A Q=>match u,us with
  | .ref a,[]=>∃ xs y,A a=some (.lst (xs++[y]))/\Q y (updA A a (.lst xs))
  | _,_=>False
theorem ab_mpop:AbMt K rPop mPop:=fun x u xs us A H Q' Q r rs g h k=>by
  unfold mPop at h
  split at h
  . cases r;cases rs
    obtain ⟨zs,y,e,h⟩:=h
    obtain ⟨vs,h1,r1⟩:=g.list e
    have hl:=r1.length
    rw [List.length_append,List.length_singleton] at hl
    obtain ⟨v,hv,rv⟩:=r1.get' (i:=zs.length) (u:=y) (by simp)
    refine ⟨_,vs,v,rfl,rfl,h1,by rw [<- hl];exact hv,k _ _ _ _ (Kp.lst h1) (g.setL h1 ?_) (rv.same (Kp.lst h1)) h⟩
    have:=r1.dropLast
    rw [List.dropLast_concat] at this
    exact this
  . exact h.elim
end
end L2
namespace L2
open PySem PySem.Spec PyProof.Rows
theorem cutU_tail (x:U) (xs:List U):cutU (x::xs) (some 1) none=xs:=by
  unfold cutU
  have:HT.sIx (x::xs).length 0 (some 1)=1:=by
    have:=HT.sIx_nat (x::xs).length 0 1
    rw [show ((1:Nat):Int)=1 from rfl] at this
    rw [this,List.length_cons];lia
  rw [this,HT.sIx_none,List.drop_succ_cons,List.drop_zero,List.length_cons,Nat.add_sub_cancel,List.take_length]
section
variable {u:U} {ρ:ASt} {A:AHp} {Q:AVK} {a b:AE} {c d:AT} {B:Bool->AHp->Prop} {l:AA} {L:List U->AHp->Prop} {D:AEnds}
theorem q_var0 :(aVar 0 (some u::ρ) A Q)=(Q u A):=rfl
theorem q_nm0 {a0:Option U} {g:ASt->AHp->Prop} :(bName 0 u (a0::ρ) A g)=(g (some u::ρ) A):=rfl
theorem q_get0 {k:U->Prop} :(aGet (some u::ρ) 0 k)=(k u):=rfl
theorem q_varS {i:Nat} {a0:Option U}:(aVar (i + 1) (a0::ρ) A Q)=(aVar i ρ A Q):=rfl
theorem q_nmS {i:Nat} {a0:Option U} {g:ASt->AHp->Prop}:(bName (i + 1) u (a0::ρ) A g)=(bName i u ρ A fun ρ2 A2=>g (a0::ρ2) A2):=rfl
theorem q_getS {i:Nat} {a0:Option U} {k:U->Prop}:(aGet (a0::ρ) (i + 1) k)=(aGet ρ i k):=rfl
theorem q_c :(aC u ρ A Q)=(Q u A):=rfl
theorem q_op {r:AR2}:(aOp r a b ρ A Q)=(a ρ A fun x A1=>b ρ A1 fun y A2=>r x y A2 Q):=rfl
theorem q_un {r:U->AHp->AVK->Prop}:(aUn r a ρ A Q)=(a ρ A fun x A1=>r x A1 Q):=rfl
theorem q_tb :(aB a ρ A B)=(a ρ A fun x A1=>∃ c,x=.bl c/\B c A1):=rfl
theorem q_bl {k:Bool} {F:Bool->Prop}:(∃ c,U.bl k=.bl c/\F c)=(F k):=by simp
theorem q_int {i:Int} {F:Int->Prop}:(∃ c,U.int i=.int c/\F c)=(F i):=by simp
theorem q_and :(aAnd c d ρ A B)=(c ρ A fun k A1=>if k=true then d ρ A1 B else B false A1):=rfl
theorem q_or :(aOr c d ρ A B)=(c ρ A fun k A1=>if k=true then B true A1 else d ρ A1 B):=rfl
theorem q_not :(aNot c ρ A B)=(c ρ A fun k A1=>B (!k) A1):=rfl
theorem q_andv :(aAndV a b ρ A Q)=(a ρ A fun x A1=>∃ k,x=.bl k/\if k=true then b ρ A1 Q else Q (.bl false) A1):=rfl
theorem q_true :(aTrue ρ A B)=(B true A):=rfl
theorem q_nil :(aNil ρ A L)=(L [] A):=rfl
theorem q_cons :(aCons a l ρ A L)=(a ρ A fun x A1=>l ρ A1 fun xs A2=>L (x::xs) A2):=rfl
theorem q_const {us:List U}:(aConst us ρ A L)=(L us A):=rfl
theorem q_tup :(aTup l ρ A Q)=(l ρ A fun xs A1=>xs.length<=sizeLine/\Q (.tup xs) A1):=rfl
theorem q_lst :(aLst l ρ A Q)=(l ρ A fun xs A1=>xs.length<=sizeLine/\∀ p,A1 p=none->Q (.ref p) (updA A1 p (.lst xs))):=rfl
theorem q_cb {r:List U->AHp->AVK->Prop}:(aCB r l ρ A Q)=(l ρ A fun us A1=>r us A1 Q):=rfl
theorem q_call {sp:ASp}:(aCall sp l ρ A Q)=(l ρ A fun us A1=>sp us A1 Q):=rfl
theorem q_nopart {O:Option Int->AHp->Prop}:(aNoPart ρ A O)=(O none A):=rfl
theorem q_part {O:Option Int->AHp->Prop}:(aPart a ρ A O)=(a ρ A fun x A1=>∃ i,x=.int i/\O (some i) A1):=rfl
theorem q_sl {r:U->Option Int->Option Int->AHp->AVK->Prop} {lo hi:AP1}:(aSl r a lo hi ρ A Q)=(a ρ A fun x A1=>lo ρ A1 fun i A2=>hi ρ A2 fun j A3=>r x i j A3 Q):=rfl
theorem q_bm0 {y:U->AHp->Prop} {r:U->List U->AHp->AVK->Prop}:(aBM0 y r a ρ A Q)=(a ρ A fun x A1=>y x A1/\r x [] A1 Q):=rfl
theorem q_bm {y:U->AHp->Prop} {r:U->List U->AHp->AVK->Prop}:(aBM y r a l ρ A Q)=(a ρ A fun x A1=>y x A1/\l ρ A1 fun us A2=>r x us A2 Q):=rfl
theorem q_next :(aNext D ρ A)=(D.nx ρ A):=rfl
theorem q_seq {t t2:AS}:(aSeq t t2 D ρ A)=(t { D with nx:=t2 D } ρ A):=rfl
theorem q_drop :(aDrop a D ρ A)=(a ρ A fun _ A1=>D.nx ρ A1):=rfl
theorem q_ret :(aRet a D ρ A)=(a ρ A D.rt):=rfl
theorem q_ifs {t t2:AS}:(aIfS c t t2 D ρ A)=(c ρ A fun k A1=>if k=true then t D ρ A1 else t2 D ρ A1):=rfl
theorem q_asg {g:AG}:(aAsg a g D ρ A)=(a ρ A fun x A1=>g x ρ A1 D.nx):=rfl
theorem q_par {i j:Nat}:(aPar i j l D ρ A)=(l ρ A fun us A1=>∃ v w,us=[v,w]/\D.nx ((ρ.set i (some v)).set j (some w)) A1):=rfl
theorem q_two {v w:U} {F:U->U->Prop}:(∃ a b,[v,w]=[a,b]/\F a b)=(F v w):=propext ⟨fun hq0=>by obtain ⟨a,b,e,h⟩:=hq0;injection e with e1 e2;injection e2 with e2 _;subst e1 e2;exact h,fun h=>⟨_,_,rfl,h⟩⟩
theorem q_for {wi:AI} {g:AG} {t:AS}:(aFor wi g t D ρ A)=(wi ρ A fun J A1=>aLoop J g t D ρ A1):=rfl
theorem q_jof {y:U->AHp->(AIt->AHp->Prop)->Prop} {R:AIt->AHp->Prop}:(aJof y a ρ A R)=(a ρ A fun x A1=>y x A1 R):=rfl
theorem q_jargs {y:List U->AHp->(AIt->AHp->Prop)->Prop} {R:AIt->AHp->Prop}:(aJargs y l ρ A R)=(l ρ A fun us A1=>y us A1 R):=rfl
theorem q_ylr {R:AIt->AHp->Prop} {p:Addr}:(yList (.ref p) A R)=((∃ us,A p=some (.lst us))/\R (jLst p) A):=rfl
theorem q_ylo {R:AIt->AHp->Prop} {us:List U}:(yList (.rol us) A R)=(R (jFix us) A):=rfl
theorem q_yt {R:AIt->AHp->Prop} {us:List U}:(yTup (.tup us) A R)=(R (jFix us) A):=rfl
theorem q_ys {R:AIt->AHp->Prop} {z:Str}:(yStr (.str z) A R)=(R (jFix (z.cps.toList.map fun c=>.str ⟨#[c]⟩)) A):=rfl
theorem q_yr1 {R:AIt->AHp->Prop} {j:Int}:(yRng1 [.int j] A R)=(-(2 ^ 62)<=j/\j < 2 ^ 62/\R (jFix (rngU 0 j.toNat)) A):=rfl
theorem q_yer {R:AIt->AHp->Prop} {p:Addr}:(yEnum [.ref p] A R)=((∃ us,A p=some (.lst us))/\R (jEnum p) A):=rfl
theorem q_yeo {R:AIt->AHp->Prop} {us:List U}:(yEnum [.rol us] A R)=(R (jFix (enU us)) A):=rfl
theorem q_yet {R:AIt->AHp->Prop} {us:List U}:(yEnumT [.tup us] A R)=(R (jFix (enU us)) A):=rfl
theorem q_jrev {R:AIt->AHp->Prop}:(aJrev a ρ A R)=(a ρ A fun x A1=>∃ p us,x=.ref p/\A1 p=some (.lst us)/\R (jRevA p us.length) A1):=rfl
theorem q_comp {nt:Nat} {frs:List (Str × Nat)} {wi:AI} {g:AG} {tt:AT} {te:AE}:(aComp nt frs wi g tt te ρ A Q)=(wi ρ A fun J A1=>∀ l,A1 l=none->aCL J g tt te l Q (aCompStart nt frs ρ) (updA A1 l (.lst []))):=rfl
theorem q_gtup {n:Nat} {t:AGs} {N:ASt->AHp->Prop} {us:List U}:(bTup n t (.tup us) ρ A N)=(us.length=n/\t us ρ A N):=propext ⟨fun hq0=>by obtain ⟨vs,e,h⟩:=hq0;cases e;exact h,fun h=>⟨_,rfl,h⟩⟩
theorem q_gcons {t:AG} {ts:AGs} {N:ASt->AHp->Prop} {us:List U}:(bCons t ts (u::us) ρ A N)=(t u ρ A fun ρ2 A2=>ts us ρ2 A2 N):=propext ⟨fun hq0=>by obtain ⟨v,r,e,h⟩:=hq0;cases e;exact h,fun h=>⟨_,_,rfl,h⟩⟩
theorem q_gnil {N:ASt->AHp->Prop}:(bNil [] ρ A N)=(N ρ A):=propext ⟨fun h=>h.2,fun h=>⟨rfl,h⟩⟩
theorem q_addi {i j:Int}:(xAdd (.int i) (.int j) A Q)=(Q (.int (i + j)) A):=rfl
theorem q_adds {x y:Str}:(xAdd (.str x) (.str y) A Q)=(x.length + y.length<=sizeLine/\Q (.str (x++y)) A):=rfl
theorem q_addt {us ws:List U}:(xAdd (.tup us) (.tup ws) A Q)=(us.length + ws.length<=sizeLine/\Q (.tup (us++ws)) A):=rfl
theorem q_addr {p q:Addr}:(xAdd (.ref p) (.ref q) A Q)=(∃ xs ys,A p=some (.lst xs)/\A q=some (.lst ys)/\xs.length + ys.length<=sizeLine/\∀ p,A p=none->Q (.ref p) (updA A p (.lst (xs++ys)))):=rfl
theorem q_xi {i j:Int} {f:Int->Int->U}:(xI f (.int i) (.int j) A Q)=(Q (f i j) A):=rfl
theorem q_xi2 {i j:Int} {f:Int->Int->U} {C:Int->Int->Prop}:(xI2 C f (.int i) (.int j) A Q)=(C i j/\Q (f i j) A):=rfl
theorem q_mul {i j:Int}:(xMul (.int i) (.int j) A Q)=(IntMulOk i j/\Q (.int (i * j)) A):=rfl
theorem q_rep {p:Addr} {m:Int}:(xMul (.ref p) (.int m) A Q)=(∃ xs,A p=some (.lst xs)/\-(2 ^ 63)<=m/\m < 2 ^ 63/\xs.length * m.toNat<=sizeLine/\∀ p,A p=none->Q (.ref p) (updA A p (.lst (List.replicate m.toNat xs).flatten))):=rfl
theorem q_lti {i j:Int}:(xLt (.int i) (.int j) A Q)=(Q (.bl (decide (i < j))) A):=rfl
theorem q_lts {x y:Str}:(xLt (.str x) (.str y) A Q)=(Q (.bl (decide (x.cps.toList < y.cps.toList))) A):=rfl
theorem q_eqi {i j:Int}:(xEq (.int i) (.int j) A Q)=(Q (.bl (decide (i=j))) A):=rfl
theorem q_eqs {x y:Str}:(xEq (.str x) (.str y) A Q)=(Q (.bl (decide (x=y))) A):=rfl
theorem q_eqb {k m:Bool}:(xEq (.bl k) (.bl m) A Q)=(Q (.bl (decide (k=m))) A):=rfl
theorem q_eqt {us ws:List U}:(xEq (.tup us) (.tup ws) A Q)=(xDeep false (.tup us) (.tup ws) A Q):=rfl
theorem q_eqr {p q:Addr}:(xEq (.ref p) (.ref q) A Q)=(xDeep false (.ref p) (.ref q) A Q):=rfl
theorem q_eqtn {us:List U}:(xEq (.tup us) .non A Q)=(xDeep false (.tup us) .non A Q):=rfl
theorem q_eqnt {us:List U}:(xEq .non (.tup us) A Q)=(xDeep false .non (.tup us) A Q):=rfl
theorem q_eqnn :(xEq .non .non A Q)=(Q (.bl true) A):=rfl
theorem q_eqns {x:Str}:(xEq .non (.str x) A Q)=(Q (.bl false) A):=rfl
theorem q_eqsn {x:Str}:(xEq (.str x) .non A Q)=(Q (.bl false) A):=rfl
theorem q_nei {i j:Int}:(xNe (.int i) (.int j) A Q)=(Q (.bl (!decide (i=j))) A):=rfl
theorem q_nes {x y:Str}:(xNe (.str x) (.str y) A Q)=(Q (.bl (!decide (x=y))) A):=rfl
theorem q_neb {k m:Bool}:(xNe (.bl k) (.bl m) A Q)=(Q (.bl (!decide (k=m))) A):=rfl
theorem q_net {us ws:List U}:(xNe (.tup us) (.tup ws) A Q)=(xDeep true (.tup us) (.tup ws) A Q):=rfl
theorem q_ner {p q:Addr}:(xNe (.ref p) (.ref q) A Q)=(xDeep true (.ref p) (.ref q) A Q):=rfl
theorem q_netn {us:List U}:(xNe (.tup us) .non A Q)=(xDeep true (.tup us) .non A Q):=rfl
theorem q_nent {us:List U}:(xNe .non (.tup us) A Q)=(xDeep true .non (.tup us) A Q):=rfl
theorem q_nenn :(xNe .non .non A Q)=(Q (.bl false) A):=rfl
theorem q_nens {x:Str}:(xNe .non (.str x) A Q)=(Q (.bl true) A):=rfl
theorem q_nesn {x:Str}:(xNe (.str x) .non A Q)=(Q (.bl true) A):=rfl
theorem q_isn :(xIsN u .non A Q)=(Q (.bl u.isNon) A):=propext ⟨fun h=>h.2,fun h=>⟨rfl,h⟩⟩
theorem q_notn :(xNotN u .non A Q)=(Q (.bl (!u.isNon)) A):=propext ⟨fun h=>h.2,fun h=>⟨rfl,h⟩⟩
theorem q_int_ {us:List U}:(xInB false u (.tup us) A Q)=(u.flat=true/\us.all U.flat=true/\Q (.bl (inU u us)) A):=rfl
theorem q_inr_ {p:Addr}:(xInB false u (.ref p) A Q)=(∃ us,A p=some (.lst us)/\u.flat=true/\us.all U.flat=true/\Q (.bl (inU u us)) A):=rfl
theorem q_ins_ {x y:Str}:(xInB false (.str x) (.str y) A Q)=(Q (.bl (occ y x)) A):=propext ⟨fun hq0=>by obtain ⟨i,e,h⟩:=hq0;cases e;exact h,fun h=>⟨_,rfl,h⟩⟩
theorem q_ixs {z:Str} {i:Int}:(xIx (.str z) (.int i) A Q)=(z.length<=sizeLine/\∃ c,atI z.cps.toList i=some c/\Q (.str ⟨#[c]⟩) A):=rfl
theorem q_ix0 {us:List U}:(xIx (.tup (u::us)) (.int 0) A Q)=(Q u A):=propext ⟨fun hq0=>by obtain ⟨x,e,h⟩:=hq0;rw [show atI (u::us) 0=some u from atI_nat (j:=0) rfl] at e;cases e;exact h,fun h=>⟨_,atI_nat (j:=0) rfl,h⟩⟩
theorem q_ix1 {w:U} {us:List U}:(xIx (.tup (u::w::us)) (.int 1) A Q)=(Q w A):=propext ⟨fun hq0=>by obtain ⟨x,e,h⟩:=hq0;rw [show atI (u::w::us) 1=some w from atI_nat (j:=1) rfl] at e;cases e;exact h,fun h=>⟨_,atI_nat (j:=1) rfl,h⟩⟩
theorem q_ix2 {w x:U} {us:List U}:(xIx (.tup (u::w::x::us)) (.int 2) A Q)=(Q x A):=propext ⟨fun hq0=>by obtain ⟨z,e,h⟩:=hq0;rw [show atI (u::w::x::us) 2=some x from atI_nat (j:=2) rfl] at e;cases e;exact h,fun h=>⟨_,atI_nat (j:=2) rfl,h⟩⟩
theorem q_ixt {us:List U} {i:Int}:(xIx (.tup us) (.int i) A Q)=(∃ x,atI us i=some x/\Q x A):=rfl
theorem q_ixo {us:List U} {i:Int}:(xIx (.rol us) (.int i) A Q)=(∃ x,atI us i=some x/\Q x A):=rfl
theorem q_ixr {p:Addr} {i:Int}:(xIx (.ref p) (.int i) A Q)=(∃ us x,A p=some (.lst us)/\atI us i=some x/\Q x A):=rfl
theorem q_sls {lo hi:Option Int} {z:Str}:(xSl (.str z) lo hi A Q)=(z.length<=sizeLine/\Q (.str (cutS z lo hi)) A):=rfl
theorem q_slt1 {us:List U}:(xSl (.tup (u::us)) (some 1) none A Q)=(Q (.tup us) A):=by show Q (.tup (cutU (u::us) (some 1) none)) A=_;rw [cutU_tail]
theorem q_slt {lo hi:Option Int} {us:List U}:(xSl (.tup us) lo hi A Q)=(Q (.tup (cutU us lo hi)) A):=rfl
theorem q_slo {lo hi:Option Int} {us:List U}:(xSl (.rol us) lo hi A Q)=(∀ p,A p=none->Q (.ref p) (updA A p (.lst (cutU us lo hi)))):=rfl
theorem q_slr {lo hi:Option Int} {p:Addr}:(xSl (.ref p) lo hi A Q)=(∃ us,A p=some (.lst us)/\∀ p,A p=none->Q (.ref p) (updA A p (.lst (cutU us lo hi)))):=rfl
theorem q_lens {z:Str}:(xLen [.str z] A Q)=(z.length<=sizeLine/\Q (.int z.length) A):=rfl
theorem q_lent {us:List U}:(xLen [.tup us] A Q)=(Q (.int us.length) A):=rfl
theorem q_leno {us:List U}:(xLen [.rol us] A Q)=(Q (.int us.length) A):=rfl
theorem q_lenr {p:Addr}:(xLen [.ref p] A Q)=(∃ us,A p=some (.lst us)/\Q (.int us.length) A):=rfl
theorem q_min2 {i j:Int}:(xMin [.int i,.int j] A Q)=(Q (.int (min i j)) A):=rfl
theorem q_max2 {i j:Int}:(xMax [.int i,.int j] A Q)=(Q (.int (max i j)) A):=rfl
theorem q_minl {p:Addr}:(xMin [.ref p] A Q)=(∃ ns:List Int,A p=some (.lst (ns.map U.int))/\1<=ns.length/\∀ m,m∈ns->(∀ x∈ns,m<=x)->Q (.int m) A):=rfl
theorem q_maxl {p:Addr}:(xMax [.ref p] A Q)=(∃ ns:List Int,A p=some (.lst (ns.map U.int))/\1<=ns.length/\∀ m,m∈ns->(∀ x∈ns,x<=m)->Q (.int m) A):=rfl
theorem q_sum {p:Addr}:(xSum [.ref p] A Q)=(∃ ns:List Int,A p=some (.lst (ns.map U.int))/\Q (.int ns.sum) A):=rfl
theorem q_all {p:Addr}:(xAll [.ref p] A Q)=(∃ bs:List Bool,A p=some (.lst (bs.map U.bl))/\Q (.bl (bs.all id)) A):=rfl
theorem q_lot {us:List U}:(xListOf [.tup us] A Q)=(∀ p,A p=none->Q (.ref p) (updA A p (.lst us))):=rfl
theorem q_loo {us:List U}:(xListOf [.rol us] A Q)=(∀ p,A p=none->Q (.ref p) (updA A p (.lst us))):=rfl
theorem q_lor {p:Addr}:(xListOf [.ref p] A Q)=(∃ us,A p=some (.lst us)/\∀ p,A p=none->Q (.ref p) (updA A p (.lst us))):=rfl
theorem q_tot {us:List U}:(xTupOf [.tup us] A Q)=(Q (.tup us) A):=rfl
theorem q_tor {p:Addr}:(xTupOf [.ref p] A Q)=(∃ us,A p=some (.lst us)/\Q (.tup us) A):=rfl
theorem q_xint {i:Int}:(xInt [.int i] A Q)=(Q (.int i) A):=rfl
theorem q_isl {p:Addr}:(isLst (.ref p) A)=(∃ us,A p=some (.lst us)):=rfl
theorem q_ist {us:List U}:(isTupU (.tup us) A)=(True):=rfl
theorem q_app {p:Addr}:(mApp (.ref p) [u] A Q)=(∃ xs,A p=some (.lst xs)/\xs.length < sizeLine/\Q .non (updA A p (.lst (xs++[u])))):=rfl
theorem q_pop {p:Addr}:(mPop (.ref p) [] A Q)=(∃ xs y,A p=some (.lst (xs++[y]))/\Q y (updA A p (.lst xs))):=rfl
theorem q_neg {i:Int}:((fun (u:U) (A:AHp) (Q:AVK)=>∃ i,u=.int i/\Q (.int (-i)) A) (.int i) A Q)=(Q (.int (-i)) A):=by simp
end
end L2
namespace L2
open PySem PySem.Spec PyProof.Rows
noncomputable def Ext (A A':AHp):Prop:=∀ a o,A a=some o->A' a=some o
theorem Ext.refl (A:AHp):Ext A A:=fun _ _ h=>h
theorem Ext.trans {A B C:AHp} (h:Ext A B) (k:Ext B C):Ext A C:=fun a o e=>k a o (h a o e)
theorem Ext.new {A:AHp} {l:Addr} {o:AO} (h:A l=none):Ext A (updA A l o):=fun b u e=>by
  rw [updA_ne (fun z=>by rw [z,h] at e;cases e)];exact e
theorem HR.ext {K:PySem.W.Frag} {H:Hp} {A A':AHp} (e:Ext A A') (h:HR K H A'):HR K H A:=fun a o q=>h a o (e a o q)
noncomputable def Fg (Q:AVK):AVK:=fun u A=>∃ A',Ext A' A/\Q u A'
noncomputable def aStart (N:List Str) (us:List U):ASt:=us.map some++List.replicate (N.length - us.length) none
section
variable {P:Program} {w:World} {K:PySem.W.Frag} {mg:Str->Option Value} {base:Heap}
theorem RSt.nones {H:Hp}:∀ n,RSt K H (List.replicate n none) (List.replicate n none)
  | 0=>.nil
  | n + 1=>.skip (RSt.nones n)
theorem RSt.start {H:Hp} (N:List Str) {us:List U} {vs:List V} (r:RUs K H us vs):RSt K H (aStart N us) (L2.start N vs):=by
  unfold aStart L2.start
  rw [r.length]
  generalize N.length - vs.length=n
  induction us generalizing vs with
  | nil=>cases r;exact RSt.nones n
  | cons u us ih =>
    cases r with
    | cons h r=>exact .cons h (ih r)
theorem Fun.okA {x qual:Str} {st:Stmt} {f:Addr} {fd:FuncData} {N ps:List Str} {k:Nat} {asp:ASp} {sc:Scope} {body:List Stmt} {as:AS} (F:Fun K x qual st f fd) (hs:defScope st=sc) (hb:defBody st=body) (S:FnScope N ps (defScope st))
    (hbody:FnScope N ps sc->∀ (cdv:Value) (A:Around) (outer:List Env) (s:Shared) (H:Hp) (E:XK),Room k (A.deeper (envOfC qual sc s.heap.objs.size f cdv)) ->
      ∃ t,PSs (cxOf CX0 P w K mg base N qual sc f cdv A outer s H E).nox body t/\AbS K t as)
    (hsp:∀ us A Q,asp us A Q->us.length=ps.length/\as { nx:=fun _ A'=>Fg Q .non A',rt:=Fg Q } (aStart N us) A):FnOk P w K mg base CX0 (k + 1) f fd ps (spOf K asp):=by
  refine F.ok2 hs hb S (fun vs H Q E ⟨us,A,Q',r,g,h,_⟩=>?_) fun S cdv A outer s H vs Q E hr ⟨us,A',Q',r,g,h,k⟩=>?_
  . rw [<- r.length];exact (hsp us A Q' h).1
  . obtain ⟨t,ht,ha⟩:=hbody S cdv A outer s H E hr
    exact ⟨t,ht,ha _ _ _ _ _ _ (RSt.start N r) g (hsp us A' Q' h).2 ⟨fun ρ A σ H' k' g' s' ⟨A3,e,q'⟩=>k _ _ _ _ k' (g'.ext e) .non q',fun u A v H' k' g' r' ⟨A3,e,q'⟩=>k _ _ _ _ k' (g'.ext e) r' q',fun _ _ _ _ _ _ _ q=>q.elim,fun _ _ _ _ _ _ _ q=>q.elim⟩⟩
noncomputable def aspLaw:ASp:=fun us A Q=>∃ ns:List Int,us=[.rol (ns.map U.int)]/\ns.length<=63/\∀ A',Q (.bl true) A'
theorem law_in {H:Hp} {a:Addr} {ns:List Int} {E:XK} (hl:ns.length<=63) (hO:Only H) (hS:SqL K H a (ns.map V.int)):spOf K aspLaw [.ref a] H (fun v _=>v=.bl true) E:=by
  have hR:SqR K H a (ns.map V.int):=by
    rcases hS with (h | h) | h
    . rcases hO a with e | ⟨o,xs,e⟩ <;> rw [e] at h <;> cases h
    . exact .inl h
    . exact .inr h
  exact ⟨[.rol (ns.map U.int)],fun _=>none,fun u _=>u=.bl true,.one (.rol hR RUs.of_ints),(fun a o e=>by cases e),⟨ns,rfl,hl,fun _=>rfl⟩,fun u A v H' _ _ r e=>by subst e;cases r;rfl⟩
end
noncomputable def truU:U->AHp->(Bool->AHp->Prop)->Prop:=fun x A1 Q=>match x with
  | .ref p=>∃ us,A1 p=some (.lst us)/\Q (!us.isEmpty) A1
  | .tup us=>Q (!us.isEmpty) A1
  | .bl b=>Q b A1
  | .int i=>Q (i != 0) A1
  | .non=>Q false A1
  | _=>False
noncomputable def aTru (a:AE):AT:=fun ρ A Q=>a ρ A fun x A1=>truU x A1 Q
theorem q_tru {a:AE} {ρ:ASt} {A:AHp} {B:Bool->AHp->Prop}:(aTru a ρ A B)=(a ρ A fun x A1=>truU x A1 B):=rfl
theorem q_trul {A:AHp} {B:Bool->AHp->Prop} {p:Addr}:(truU (.ref p) A B)=(∃ us,A p=some (.lst us)/\B (!us.isEmpty) A):=rfl
theorem q_trut {A:AHp} {B:Bool->AHp->Prop} {us:List U}:(truU (.tup us) A B)=(B (!us.isEmpty) A):=rfl
theorem q_trub {A:AHp} {B:Bool->AHp->Prop} {k:Bool}:(truU (.bl k) A B)=(B k A):=rfl
section
variable {J:AIt} {g:AG} {b:AS} {D:AEnds} {ρ:ASt} {A:AHp}
theorem for_J (items:List U) (Pv:Nat->ASt->AHp->Prop) (h0:Pv 0 ρ A) (hJ:∀ k ρ A,k<=items.length->Pv k ρ A->J k A items[k]?)
    (hs:∀ k u ρ A,items[k]? = some u->Pv k ρ A->g u ρ A fun ρ2 A2=>b { D with nx:=Pv (k + 1),ct:=Pv (k + 1),bk:=D.nx } ρ2 A2) (hd:∀ ρ A,Pv items.length ρ A->D.nx ρ A):aLoop J g b D ρ A:=by
  refine ⟨fun k m ρ A=>m=items.length - k/\k<=items.length/\Pv k ρ A,⟨_,rfl,Nat.zero_le _,h0⟩,?_⟩
  rintro k m ρ A ⟨rfl,hk,p⟩
  have j:=hJ k ρ A hk p
  by_cases hlt:k < items.length
  . rw [List.getElem?_eq_getElem hlt] at j
    exact .inr ⟨_,j,Pv (k + 1),fun ρ' A' p'=>⟨items.length - (k + 1),by lia,rfl,hlt,p'⟩,hs k _ ρ A (List.getElem?_eq_getElem hlt) p⟩
  . have e:k=items.length:=by lia
    subst e
    rw [List.getElem?_eq_none (Nat.le_refl _)] at j
    exact .inl ⟨j,hd ρ A p⟩
theorem for_lst {a:Addr} (us:List U) (Pv:Nat->ASt->AHp->Prop) (h0:Pv 0 ρ A) (hl:∀ k ρ A,k<=us.length->Pv k ρ A->A a=some (.lst us))
    (hs:∀ k u ρ A,us[k]? = some u->Pv k ρ A->g u ρ A fun ρ2 A2=>b { D with nx:=Pv (k + 1),ct:=Pv (k + 1),bk:=D.nx } ρ2 A2) (hd:∀ ρ A,Pv us.length ρ A->D.nx ρ A):aLoop (jLst a) g b D ρ A :=
  for_J us Pv h0 (fun k ρ A hk p=>⟨us,hl k ρ A hk p,rfl⟩) hs hd
theorem for_enumA {a:Addr} (us:List U) (Pv:Nat->ASt->AHp->Prop) (h0:Pv 0 ρ A) (hl:∀ k ρ A,k<=us.length->Pv k ρ A->A a=some (.lst us))
    (hs:∀ (k:Nat) u ρ A,us[k]? = some u->Pv k ρ A->g (.tup [.int k,u]) ρ A fun ρ2 A2=>b { D with nx:=Pv (k + 1),ct:=Pv (k + 1),bk:=D.nx } ρ2 A2) (hd:∀ ρ A,Pv us.length ρ A->D.nx ρ A):aLoop (jEnum a) g b D ρ A :=
  for_J (enU us) Pv h0 (fun k ρ A hk p=>⟨us,hl k ρ A (by rw [enU_len] at hk;exact hk) p,rfl⟩) (fun k u ρ A hu p=>by
    rw [enU_get] at hu
    obtain ⟨x,hx,rfl⟩:=Option.map_eq_some_iff.mp hu
    exact hs k x ρ A hx p) (by rw [enU_len];exact hd)
theorem for_rng {lo:Int} {n:Nat} (Pv:Nat->ASt->AHp->Prop) (h0:Pv 0 ρ A)
    (hs:∀ (k:Nat) ρ A,k < n->Pv k ρ A->g (.int (lo + k)) ρ A fun ρ2 A2=>b { D with nx:=Pv (k + 1),ct:=Pv (k + 1),bk:=D.nx } ρ2 A2) (hd:∀ ρ A,Pv n ρ A->D.nx ρ A):aLoop (jFix (rngU lo n)) g b D ρ A :=
  for_J (rngU lo n) Pv h0 (fun k ρ A hk p=>rfl) (fun k u ρ A hu p=>by
    rw [rngU_get] at hu
    by_cases h:k < n
    . rw [if_pos h] at hu;cases hu;exact hs k ρ A h p
    . rw [if_neg h] at hu;cases hu) (by rw [rngU_len];exact hd)
theorem for_revA {a:Addr} (us:List U) (Pv:Nat->ASt->AHp->Prop) (h0:Pv 0 ρ A) (hl:∀ k ρ A,k<=us.length->Pv k ρ A->A a=some (.lst us))
    (hs:∀ k u ρ A,us.reverse[k]? = some u->Pv k ρ A->g u ρ A fun ρ2 A2=>b { D with nx:=Pv (k + 1),ct:=Pv (k + 1),bk:=D.nx } ρ2 A2) (hd:∀ ρ A,Pv us.length ρ A->D.nx ρ A):aLoop (jRevA a us.length) g b D ρ A :=
  for_J us.reverse Pv h0 (fun k ρ A hk p=>by
    rw [List.length_reverse] at hk
    by_cases h:k < us.length
    . rw [List.getElem?_reverse h]
      exact .inr ⟨h,us,us[us.length - 1 - k]'(by lia),hl k ρ A hk p,List.getElem?_eq_getElem (by lia),List.getElem?_eq_getElem (by lia)⟩
    . have e:k=us.length:=by lia
      subst e
      exact .inl ⟨rfl,List.getElem?_eq_none (by simp)⟩) hs (by rw [List.length_reverse];exact hd)
noncomputable def whA (Pv:ASt->AHp->Prop) (μ:ASt->AHp->Nat) (b:AS) (D:AEnds) (k:Nat) (ρ:ASt) (A1:AHp):Prop:=∃ N:ASt->AHp->Prop,(∀ ρ' A',N ρ' A'->∃ m',m' < k/\(m'=μ ρ' A'/\Pv ρ' A'))/\b { D with nx:=N,ct:=N,bk:=D.nx } ρ A1
theorem wh_goA {Pv:ASt->AHp->Prop} {μ:ASt->AHp->Nat} {k:Nat} (h:b { D with nx:=fun ρ' A'=>Pv ρ' A'/\μ ρ' A' < k,ct:=fun ρ' A'=>Pv ρ' A'/\μ ρ' A' < k,bk:=D.nx } ρ A):whA Pv μ b D k ρ A :=
  ⟨_,fun ρ' A' ⟨p,l⟩=>⟨_,l,rfl,p⟩,h⟩
theorem while_A {c:AT} (Pv:ASt->AHp->Prop) (μ:ASt->AHp->Nat) (h0:Pv ρ A)
    (hs:∀ ρ A,Pv ρ A->c ρ A fun k A1=>if k=true then whA Pv μ b D (μ ρ A) ρ A1 else D.nx ρ A1):aWhile c b D ρ A:=by
  refine ⟨fun m ρ A=>m=μ ρ A/\Pv ρ A,⟨_,rfl,h0⟩,?_⟩
  rintro m ρ A ⟨rfl,p⟩
  exact hs ρ A p
end
theorem neA {A:AHp} {a b:Addr} {o:AO} (h:A a=some o) (h':A b=none):a≠b:=fun e=>by rw [e,h'] at h;cases h
section
variable {J:AIt} {g:AG} {tt:AT} {te:AE} {l:Addr} {Q:AVK} {τ:ASt} {A:AHp}
theorem cl_gen (items:List U) (p:Nat->Bool) (f:Nat->U) (T:ASt->Prop) (h0:T τ) (hl:A l=none) (hn:items.length<=100000) (hJ:∀ k A2,k<=items.length->Ext A A2->J k A2 items[k]?)
    (hs : ∀ k u τ A2,items[k]? = some u->T τ->Ext A A2->∀ (Cy:ASt->U->AHp->Prop) (Cn:ASt->AHp->Prop),(p k=true->∀ τ2,T τ2->Cy τ2 (f k) A2)->(p k=false->∀ τ2,T τ2->Cn τ2 A2) ->
      g u τ A2 fun τ2 A3=>tt τ2 A3 fun ok A4=>if ok=true then te τ2 A4 (Cy τ2) else Cn τ2 A4)
    (hd:Q (.ref l) (updA A l (.lst (((List.range items.length).filter p).map f)))):aCL J g tt te l Q τ (updA A l (.lst [])):=by
  refine ⟨fun i m τ A2=>m=items.length - i/\i<=items.length/\T τ/\A2=updA A l (.lst (((List.range i).filter p).map f)),⟨_,rfl,Nat.zero_le _,h0,rfl⟩,?_⟩
  rintro i m τ A2 ⟨rfl,hi,ht,rfl⟩
  have j:=hJ i _ hi (Ext.new (o:=.lst (((List.range i).filter p).map f)) hl)
  by_cases hlt:i < items.length
  . have hu:items[i]? = some items[i]:=List.getElem?_eq_getElem hlt
    rw [hu] at j
    refine .inr ⟨_,j,hs i _ τ _ hu ht (Ext.new hl) _ _ (fun hp τ2 ht2=>⟨_,updA_same,?_,_,?_,rfl,hlt,ht2,?_⟩) (fun hp τ2 ht2=>⟨_,?_,rfl,hlt,ht2,?_⟩)⟩
    . have:(((List.range i).filter p).map f).length<=i:=by rw [List.length_map];exact Nat.le_trans (List.length_filter_le ..) (by simp)
      have:(100000:Nat) < sizeLine:=by decide
      lia
    . lia
    . rw [updA_updA,List.range_succ,List.filter_append,List.map_append];simp [hp]
    . lia
    . rw [List.range_succ,List.filter_append,List.map_append];simp [hp]
  . have e:i=items.length:=by lia
    subst e
    rw [List.getElem?_eq_none (Nat.le_refl _)] at j
    exact .inl ⟨j,hd⟩
theorem cl_map {x0:Option U} {fr:ASt} (items ys:List U) (hlen:ys.length=items.length) (hl:A l=none) (hn:items.length<=100000) (hJ:∀ k A2,k<=items.length->Ext A A2->J k A2 items[k]?)
    (hs:∀ (k:Nat) u y A2,items[k]? = some u->ys[k]? = some y->Ext A A2->∀ Cy:U->AHp->Prop,Cy y A2->te (some u::fr) A2 Cy)
    (hd:Q (.ref l) (updA A l (.lst ys))):aCL J (bName 0) aTrue te l Q (x0::fr) (updA A l (.lst [])):=by
  refine cl_gen items (fun _=>true) (fun k=>(ys[k]?).getD .non) (fun τ=>∃ x,τ=x::fr) ⟨_,rfl⟩ hl hn hJ ?_ ?_
  . rintro k u τ A2 hu ⟨x,rfl⟩ he Cy Cn hy hno
    show if true=true then te (some u::fr) A2 (Cy (some u::fr)) else Cn (some u::fr) A2
    rw [if_pos rfl]
    have hk:k < ys.length:=by rw [hlen];exact (List.getElem?_eq_some_iff.mp hu).1
    have hyk:ys[k]? = some ys[k]:=List.getElem?_eq_getElem hk
    refine hs k u _ A2 hu hyk he _ ?_
    have:=hy rfl (some u::fr) ⟨_,rfl⟩
    rw [hyk] at this
    exact this
  . have e:((List.range items.length).filter fun _=>true).map (fun k=>(ys[k]?).getD .non)=ys:=by
      rw [List.filter_eq_self.mpr (fun _ _=>rfl),<- hlen]
      apply List.ext_getElem
      . simp
      . intro i h1 h2;simp [List.getElem?_eq_getElem h2]
    rw [e];exact hd
theorem cl_fil {x0:Option U} {fr:ASt} (items:List U) (p:Nat->Bool) (f:Nat->U) (hl:A l=none) (hn:items.length<=100000) (hJ:∀ k A2,k<=items.length->Ext A A2->J k A2 items[k]?)
    (hs:∀ (k:Nat) u A2,items[k]? = some u->Ext A A2->∀ (Cy:U->AHp->Prop) (Cn:AHp->Prop),(p k=true->Cy (f k) A2)->(p k=false->Cn A2)->tt (some u::fr) A2 fun ok A4=>if ok=true then te (some u::fr) A4 Cy else Cn A4)
    (hd:Q (.ref l) (updA A l (.lst (((List.range items.length).filter p).map f)))):aCL J (bName 0) tt te l Q (x0::fr) (updA A l (.lst [])):=by
  refine cl_gen items p f (fun τ=>∃ x,τ=x::fr) ⟨_,rfl⟩ hl hn hJ ?_ hd
  rintro k u τ A2 hu ⟨x,rfl⟩ he Cy Cn hy hno
  exact hs k u A2 hu he _ _ (fun h=>hy h _ ⟨_,rfl⟩) fun h=>hno h _ ⟨_,rfl⟩
end
section
variable {X:Cx}
noncomputable def U.tyName:U->Option String
  | .non=>some "NoneType"
  | .bl _=>some "bool"
  | .int _=>some "int"
  | .str _=>some "str"
  | .tup _=>some "tuple"
  | _=>none
inductive TyW (K:PySem.W.Frag) (H:Hp):V->Value->Prop
  | of {x:V} {t:Value}:TyOf K H x t->TyW K H x t
  | tup {a:Addr} {xs:List V}:SqT K H a xs->TyW K H (.ref a) (.type "tuple")
noncomputable def uIsW (K:PySem.W.Frag):List V->Hp->VK->Prop:=fun xs H Q=>match xs with
  | [x,.ty n]=>∃ t b,TyW K H x t/\PySem.W.kitOne K t (.type n)=some b/\Q (.bl b) H
  | [x,.ref c]=>∃ t b,TyW K H x t/\PySem.W.kitOne K t (.ref c)=some b/\Q (.bl b) H
  | _=>False
theorem c_isW:CallR X (.builtin "isinstance") (uIsW X.K):=by
  intro pins s σ H xs us Q I r h
  have go:∀ (x:V) (u t:Value) (c:Value) (b:Bool),RelV x u->TyW X.K H x t->PySem.W.kitOne X.K t c=some b->Q (.bl b) H->wpAny (model X.prog X.w) X.A (call (.builtin "isinstance") [u,c]) (EP X pins σ Q) X.xe s:=by
    intro x u t c b rx ty e q
    cases ty with
    | of ty=>exact isinst_ok I rx ty e fun tk=>⟨.bl b,H,I.tok _,rfl,q⟩
    | tup hq =>
      cases rx
      obtain ⟨its,rv,⟨o,h1,h2,h3⟩,hz⟩:=I.tuple hq
      exact PySem.W.kia_one PySem.W.kitx_tuple I.kIn ⟨o,h1,h2⟩ e (fun z=>nomatch z) fun tk=>⟨.bl b,H,I.tok _,rfl,q⟩
  unfold uIsW at h
  split at h
  . obtain ⟨t,b,ty,e,q⟩:=h
    cases r with
    | cons r1 r2 =>
      cases r2 with
      | cons r2 r3 =>
        cases r3;cases r2
        exact go _ _ _ _ _ r1 ty e q
  . obtain ⟨t,b,ty,e,q⟩:=h
    cases r with
    | cons r1 r2 =>
      cases r2 with
      | cons r2 r3 =>
        cases r3;cases r2
        exact go _ _ _ _ _ r1 ty e q
  . exact h.elim
end
section
variable {K:PySem.W.Frag}
noncomputable def isTy (u:U) (n:String):Bool:=match u with
  | .non=>n == "NoneType"
  | .bl _=>n == "bool" || n == "int"
  | .int _=>n == "int"
  | .str _=>n == "str"
  | .tup _=>n == "tuple"
  | _=>false
noncomputable def xIsi:List U->AHp->AVK->Prop:=fun us A Q=>match us with
  | [u,.ty n]=>(n="int"\/n="bool"\/n="str"\/n="tuple")/\(match u with | .rol _=>False | .ref _=>False | .ty _=>False | _=>True)/\Q (.bl (isTy u n)) A
  | _=>False
theorem ab_isi:AbL K (uIsW K) xIsi:=fun xs us A H Q' Q r g h k=>by
  unfold xIsi at h
  split at h
  . rename_i u n
    obtain ⟨hn,hu,h⟩:=h
    obtain ⟨v,x,rfl,r1,r2⟩:=r.inv2
    cases r2
    cases r1 with
    | non=>rcases hn with rfl | rfl | rfl | rfl <;> exact ⟨_,_,.of .non,rfl,k _ _ _ _ (.refl H) g (.bl _) h⟩
    | bl b=>rcases hn with rfl | rfl | rfl | rfl <;> exact ⟨_,_,.of (.bl b),rfl,k _ _ _ _ (.refl H) g (.bl _) h⟩
    | int b=>rcases hn with rfl | rfl | rfl | rfl <;> exact ⟨_,_,.of (.int b),rfl,k _ _ _ _ (.refl H) g (.bl _) h⟩
    | str b=>rcases hn with rfl | rfl | rfl | rfl <;> exact ⟨_,_,.of (.str b),rfl,k _ _ _ _ (.refl H) g (.bl _) h⟩
    | tup h1 r1=>rcases hn with rfl | rfl | rfl | rfl <;> exact ⟨_,_,.tup h1,rfl,k _ _ _ _ (.refl H) g (.bl _) h⟩
    | ty _=>exact hu.elim
    | ref _=>exact hu.elim
    | rol _ _=>exact hu.elim
  . exact h.elim
theorem q_isi {A:AHp} {Q:AVK} {u:U} {n:String}:(xIsi [u,.ty n] A Q)=((n="int"\/n="bool"\/n="str"\/n="tuple")/\(match u with | .rol _=>False | .ref _=>False | .ty _=>False | _=>True)/\Q (.bl (isTy u n)) A):=rfl
end
end L2
namespace L2
open PySem PySem.Spec PyProof.Rows
theorem tup1 {x:U}:[x].length<=sizeLine:=by show 1<=sizeLine;decide
theorem tup2 {x y:U}:[x,y].length<=sizeLine:=by show 2<=sizeLine;decide
theorem tup3 {x y z:U}:[x,y,z].length<=sizeLine:=by show 3<=sizeLine;decide
theorem line1000 {n:Nat} (h:n<=100000):n<=sizeLine:=Nat.le_trans h (by decide)
theorem line1000' {n:Nat} (h:n<=100000):n < sizeLine:=Nat.lt_of_le_of_lt h (by decide)
theorem fg {Q:AVK} {u:U} {A:AHp} (h:Q u A):Fg Q u A:=⟨A,Ext.refl A,h⟩
theorem fgx {Q:AVK} {u:U} {A A':AHp} (e:Ext A A') (h:Q u A):Fg Q u A':=⟨A,e,h⟩
theorem iteB {b:Bool} {X Y:Prop} (h1:b=true->X) (h2:b=false->Y):if b=true then X else Y:=by
  cases b
  . exact iteN (by decide) (h2 rfl)
  . exact iteP rfl (h1 rfl)
theorem iteTt {X Y:Prop} {b:Bool} (hb:b=true) (h:X):if b=true then X else Y:=iteP hb h
theorem iteFf {X Y:Prop} {b:Bool} (hb:b=false) (h:Y):if b=true then X else Y:=iteN (by rw [hb];decide) h
theorem Ext.put {A A2:AHp} {a:Addr} {o:AO} (e:Ext A A2):Ext (updA A a o) (updA A2 a o):=fun b u h=>by
  by_cases hb:b=a
  . subst hb;rw [updA_same] at h ⊢;exact h
  . rw [updA_ne hb] at h ⊢;exact e b u h
theorem updA_swap {A:AHp} {a l:Addr} {x y:AO} (h:a≠l):updA (updA A a x) l y=updA (updA A l y) a x:=by
  funext b
  unfold updA
  by_cases h1:b=l
  . rw [if_pos h1,if_neg (fun e=>h (e.symm.trans h1)),if_pos h1]
  . rw [if_neg h1]
    by_cases h2:b=a
    . rw [if_pos h2,if_pos h2]
    . rw [if_neg h2,if_neg h2,if_neg h1]
theorem updA_self {A:AHp} {a:Addr} {o:AO} (h:A a=some o):updA A a o=A:=by
  funext b
  by_cases hb:b=a
  . subst hb;rw [updA_same,h]
  . rw [updA_ne hb]
theorem atI_intsU {ns:List Int} {i:Int} (h0:0<=i) (h:i < ns.length):∃ z,atI (ns.map U.int) i=some (.int z)/\ns[i.toNat]? = some z:=by
  obtain ⟨v,h1,h2⟩:=atI_lt (xs:=ns.map U.int) (i:=i) h0 (by rw [List.length_map];exact h)
  rw [List.getElem?_map] at h2
  obtain ⟨z,hz,rfl⟩:=Option.map_eq_some_iff.mp h2
  exact ⟨z,h1,hz⟩
theorem map_get {α β:Type} {f:α->β} {xs:List α} {k:Nat} {u:β} (h:(xs.map f)[k]? = some u):∃ x,xs[k]? = some x/\u=f x:=by
  rw [List.getElem?_map] at h
  obtain ⟨x,hx,rfl⟩:=Option.map_eq_some_iff.mp h
  exact ⟨x,hx,rfl⟩
theorem cl_mapW {α:Type} {J:AIt} {te:AE} {l:Addr} {Q:AVK} {A:AHp} {x0:Option U} {fr:ASt} (xs:List α) (f g:α->U) (hl:A l=Option.none) (hn:xs.length<=100000) (hJ:∀ k A2,k<=xs.length->Ext A A2->J k A2 (xs.map f)[k]?)
    (hs:∀ (x:α) A2,x∈xs->Ext A A2->∀ Cy:U->AHp->Prop,Cy (g x) A2->te (some (f x)::fr) A2 Cy)
    (hd:Q (.ref l) (updA A l (.lst (xs.map g)))):aCL J (bName 0) aTrue te l Q (x0::fr) (updA A l (.lst [])):=by
  refine cl_map (xs.map f) (xs.map g) (by simp) hl (by simpa using hn) (fun k A2 hk he=>hJ k A2 (by simpa using hk) he) (fun k u y A2 hu hy he Cy hc=>?_) hd
  obtain ⟨x,hx,rfl⟩:=map_get hu
  obtain ⟨x',hx',rfl⟩:=map_get hy
  rw [hx] at hx';cases hx'
  exact hs x A2 (List.mem_of_getElem? hx) he Cy hc
theorem none_yet {P:Program} {w:World} {K:PySem.W.Frag} {mg:Str->Option Value} {base:Heap} {x qual:Str} {st:Stmt} {f:Addr} {fd:FuncData} {N ps:List Str} {k:Nat} {asp:ASp} (F:Fun K x qual st f fd) (S:FnScope N ps (defScope st)) (h:∀ us A Q,¬ asp us A Q):FnOk P w K mg base CX0 k f fd ps (spOf K asp) :=
  ⟨fun vs H Q E ⟨us,A,Q',_,_,q,_⟩=>(h us A Q' q).elim,fun A outer s H args us vs Q E _ _ _ _ ⟨ws,A',Q',_,_,q,_⟩=>(h ws A' Q' q).elim⟩
end L2
namespace L2
open PySem PySem.Spec PyProof.Rows
end L2
namespace L2
open PySem PySem.Spec PyProof.Rows
theorem ki (i j:Nat):(((i:Nat):Int) == ((j:Nat):Int))=(i == j):=by
  by_cases h:i=j
  . subst h;simp
  . rw [beq_eq_false_iff_ne.mpr h,beq_eq_false_iff_ne.mpr (by lia)]
end L2
namespace L2
open PySem PySem.Spec PyProof.Rows
noncomputable def uSeqI (K:PySem.W.Frag):V->Hp->(It->Hp->Prop)->Prop:=fun x H R=>uList K x H R\/uTupI K x H R
section
variable {X:Cx} {tg a:Expr} {te:TE} {ta:TA} {p pos tp:Pos} {elts:List Expr} {k0:Nat}
theorem pj_seq (hl:PE X a te):PI X tg a (jOf (uSeqI X.K) te):=by
  intro pins s σ H R I h
  refine thn (hl pins s σ H _ I h) fun v s1 h_q=>?_
  obtain ⟨x,H1,I1,r1,q1⟩:=h_q
  have fp:∀ b∈[s1.heap.objs.size],FpOk X pins H1 b:=fun b hb=>by
    obtain rfl:b=s1.heap.objs.size:=by simpa using hb
    exact I1.fpOk (Nat.le_refl _) (I1.hok.fresh (Nat.le_refl _))
  have J1:∀ o,Inv X pins σ H1 { s1 with heap:=s1.heap.push o }:=fun o=>I1.kept (t':=s1.toks) fun b u e=>Heap.get?_push_of_some _ e
  cases x with
  | ref l =>
    cases r1
    rcases q1 with ⟨⟨xs,hq⟩,q⟩ | ⟨⟨xs,hq⟩,q⟩
    . obtain ⟨its,rv,pl,hz⟩:=I1.list hq
      exact wpAny_pyIter_list pl.isList ⟨s1.heap.objs.size,[s1.heap.objs.size],_,_,H1,rfl,J1 _,turn_list l _,⟨_,Heap.get?_push_size _ rfl,rfl,rfl⟩,fp,q⟩
    . obtain ⟨its,rv,pl,hz⟩:=I1.tuple hq
      exact wpAny_pyIter_tuple (show s1.heap.IsTuple l its.toArray from pl) ⟨s1.heap.objs.size,[s1.heap.objs.size],_,_,H1,rfl,J1 _,turn_tuple l _,⟨_,Heap.get?_push_size _ rfl,rfl,rfl⟩,fp,q⟩
  | _=>rcases q1 with q | q <;> exact q.elim
noncomputable def uEnumS (K:PySem.W.Frag):List V->Hp->(It->Hp->Prop)->Prop:=fun vs H R=>uEnum K vs H R\/uEnumT K vs H R
theorem pj_enumS (hg:Gl X "enumerate") (hm:X.mg "enumerate"=none) (ha:PA X [a] ta) (hs:starEach [a] X.env=[(false,eval a X.env)]:=by rfl) :
    PI X (.Tuple elts k0 tp) (.Call (.Name "enumerate" p) [a] [] pos) (jArgs (uEnumS X.K) ta):=by
  intro pins s σ H R I h
  refine Call_ (ld_blt I hg hm boot_enumerate (PyProof.Rows.callWith_type1 (thn (ha pos pins s σ H _ I h) fun us s1 ⟨vs,H1,I1,r1,q1⟩=>?_) hs rfl))
  have fp:∀ b∈[s1.heap.objs.size + 1,s1.heap.objs.size],FpOk X pins H1 b:=fun b hb=>by
    have hb':s1.heap.objs.size<=b:=by
      simp only [List.mem_cons,List.not_mem_nil,or_false] at hb
      rcases hb with e | e <;> subst e <;> first | exact Nat.le_add_right _ _ | exact Nat.le_refl _
    exact I1.fpOk hb' (I1.hok.fresh hb')
  rcases q1 with q1 | q1
  . unfold uEnum at q1
    split at q1
    . obtain ⟨⟨xs,hx⟩,q⟩:=q1
      cases r1 with
      | cons r rr =>
        cases rr;cases r
        obtain ⟨its,rv,pl,_⟩:=I1.list hx
        exact call_enumerate_list pl.isList fun h' a1 a2 a3 hk=>wpAny_pyIter_enum a1 ⟨s1.heap.objs.size + 1,_,_,_,H1,rfl,I1.kept (t':=s1.toks) hk,turn_enum (Nat.succ_ne_self _),⟨⟨_,a1⟩,a2⟩,fp,q⟩
    . exact q1.elim
  . unfold uEnumT at q1
    split at q1
    . obtain ⟨⟨xs,hx⟩,q⟩:=q1
      cases r1 with
      | cons r rr =>
        cases rr;cases r
        obtain ⟨its,rv,pl,_⟩:=I1.tuple hx
        exact call_enum_tup pl fun h' a1 a2 hk=>wpAny_pyIter_enum a1 ⟨s1.heap.objs.size + 1,_,_,_,H1,rfl,I1.kept (t':=s1.toks) hk,turn_enumT (Nat.succ_ne_self _),⟨⟨_,a1⟩,a2⟩,fp,q⟩
    . exact q1.elim
end
section
variable {K:PySem.W.Frag}
noncomputable def ySeq:U->AHp->(AIt->AHp->Prop)->Prop:=fun u A R=>match u with
  | .ref a=>(∃ us,A a=some (.lst us))/\R (jLst a) A
  | .rol us=>R (jFix us) A
  | .tup us=>R (jFix us) A
  | _=>False
theorem ab_yseq:AbY1 K (uSeqI K) ySeq:=fun x v A H R' R r g w k=>by
  cases r with
  | ref a=>exact .inl (ab_ylist (.ref a) _ A H R' R (.ref a) g w k)
  | rol h1 r1=>exact .inl (ab_ylist _ _ A H R' R (.rol h1 r1) g w k)
  | tup h1 r1=>exact .inr (ab_ytup _ _ A H R' R (.tup h1 r1) g w k)
  | _=>exact w.elim
noncomputable def yEnumS:List U->AHp->(AIt->AHp->Prop)->Prop:=fun us A R=>match us with
  | [.ref a]=>(∃ us,A a=some (.lst us))/\R (jEnum a) A
  | [.rol us]=>R (jFix (enU us)) A
  | [.tup us]=>R (jFix (enU us)) A
  | _=>False
theorem ab_yenumS:AbYs K (uEnumS K) yEnumS:=fun x v A H R' R r g w k=>by
  unfold yEnumS at w
  split at w
  . exact .inl (ab_yenum _ _ A H R' R r g w k)
  . exact .inl (ab_yenum _ _ A H R' R r g w k)
  . exact .inr (ab_yenumT _ _ A H R' R r g w k)
  . exact w.elim
variable {A:AHp} {R:AIt->AHp->Prop} {p:Addr} {us:List U}
theorem q_ysr:(ySeq (.ref p) A R)=((∃ us,A p=some (.lst us))/\R (jLst p) A):=rfl
theorem q_yso:(ySeq (.rol us) A R)=(R (jFix us) A):=rfl
theorem q_yst:(ySeq (.tup us) A R)=(R (jFix us) A):=rfl
theorem q_yesr:(yEnumS [.ref p] A R)=((∃ us,A p=some (.lst us))/\R (jEnum p) A):=rfl
theorem q_yeso:(yEnumS [.rol us] A R)=(R (jFix (enU us)) A):=rfl
theorem q_yest:(yEnumS [.tup us] A R)=(R (jFix (enU us)) A):=rfl
end
noncomputable def cutL {α:Type} (xs:List α) (lo hi:Option Int):List α:=(xs.drop (HT.sIx xs.length 0 lo)).take (HT.sIx xs.length xs.length hi - HT.sIx xs.length 0 lo)
theorem cutU_map {α:Type} (f:α->U) (xs:List α) (lo hi:Option Int):cutU (xs.map f) lo hi=(cutL xs lo hi).map f:=by
  unfold cutU cutL
  rw [List.length_map,List.map_take,List.map_drop]
end L2
namespace L2
open PySem PySem.Spec PyProof.Rows
end L2
set_option maxHeartbeats 1000000
namespace SortA
open PySem PySem.W PyProof.Rows
end SortA
namespace N2
open PySem PyProof.Rows
section
variable {prog:Program} {w:World} {K:Type} [DecidableEq K] (kk:KeyKind prog w K)
inductive Its (h:Heap):List (List K)->List Value->Prop
  | nil:Its h [] []
  | cons {k:List K} {a:Addr} {ks:List (List K)} {vs:List Value} (one:IsTupleKey kk h k a) (more:Its h ks vs):Its h (k::ks) (.ref a::vs)
variable {kk}
variable {A:Around} {E:Value->Shared->Prop} {s:Shared}
end
end N2
namespace N2
open PySem PyProof.Rows PySem.F
end N2
namespace L2
open PySem PySem.Spec PyProof.Rows N2
theorem HR.putO {K:PySem.W.Frag} {H:Hp} {A:AHp} {a:Addr} {ob:HO} {o:AO} (h:HR K H A) (kp:Kp K H (upd H a ob)) (new:RO K (upd H a ob) a o):HR K (upd H a ob) (updA A a o):=fun b u q=>by
  by_cases hb:b=a
  . subst hb
    rw [updA_same] at q
    cases q
    exact new
  . rw [updA_ne hb] at q
    exact (h b u q).keep kp (upd_ne hb)
theorem big {X:Cx} {pins:List (Addr × Obj)} {σ:St} {H:Hp} {s:Shared} (I:Inv X pins σ H s):sysModules < s.heap.objs.size :=
  Nat.lt_trans (by decide) (show mainGlobals < s.heap.objs.size from (I.mod.glob.keeps I.bk).lt)
end L2
namespace L2
open PySem PySem.Spec PySem.W PyProof.Rows
end L2
namespace L2
open PySem PySem.Spec PyProof.Rows
section
variable {K:PySem.W.Frag} {H H':Hp} {A:AHp}
theorem RFs.cons_inv {x:Str × U} {fs:List (Str × U)} {gs:List (Str × V)} (h:RFs K H (x::fs) gs):∃ v gs',gs=(x.1,v)::gs'/\RU K H x.2 v/\RFs K H fs gs':=by
  obtain ⟨h1,h2⟩:=h
  cases gs with
  | nil=>simp at h1
  | cons y gs =>
    obtain ⟨n,v⟩:=y
    simp only [List.map_cons,List.cons.injEq] at h1
    cases h2 with
    | cons p q=>exact ⟨v,gs,by rw [h1.1],p,h1.2,q⟩
theorem RFs.look {f:Str} {u:U}:∀ {fs:List (Str × U)} {gs:List (Str × V)},RFs K H fs gs->fs.lookup f=some u->∃ v,gs.lookup f=some v/\RU K H u v
  | [],_,_,e=>by simp at e
  | (n, w)::fs,gs,h,e=>by
    obtain ⟨v,gs',rfl,r,t⟩:=h.cons_inv
    by_cases c:f == n
    . rw [List.lookup_cons,c] at e;cases e
      exact ⟨v,by rw [List.lookup_cons,c],r⟩
    . have c':(f == n)=false:=by simpa using c
      rw [List.lookup_cons,c'] at e
      obtain ⟨v',h1,h2⟩:=RFs.look t e
      exact ⟨v',by rw [List.lookup_cons,c'];exact h1,h2⟩
theorem RFs.miss {f:Str}:∀ {fs:List (Str × U)} {gs:List (Str × V)},RFs K H fs gs->fs.lookup f=none->gs.lookup f=none
  | [],_,⟨h1,_⟩,_=>by
    cases ‹List (Str × V)› with
    | nil=>rfl
    | cons y gs=>simp at h1
  | (n, w)::fs,gs,h,e=>by
    obtain ⟨v,gs',rfl,r,t⟩:=h.cons_inv
    by_cases c:f == n
    . rw [List.lookup_cons,c] at e;cases e
    . have c':(f == n)=false:=by simpa using c
      rw [List.lookup_cons,c'] at e ⊢
      exact RFs.miss t e
theorem RFs.len {fs:List (Str × U)} {gs:List (Str × V)} (h:RFs K H fs gs):fs.length=gs.length:=by
  have:=congrArg List.length h.1
  simpa using this
theorem RFs.same {fs:List (Str × U)} {gs:List (Str × V)} (e:Kp K H H') (h:RFs K H fs gs):RFs K H' fs gs:=⟨h.1,h.2.same e⟩
noncomputable def putU (f:Str) (u:U):List (Str × U)->List (Str × U)
  | []=>[(f,u)]
  | (g,x)::r=>if g=f then (g,u)::r else (g,x)::putU f u r
theorem RFs.put {f:Str} {u:U} {v:V} (hu:RU K H u v):∀ {fs:List (Str × U)} {gs:List (Str × V)},RFs K H fs gs->RFs K H (putU f u fs) (putF f v gs)
  | [],gs,h=>by
    cases gs with
    | nil=>exact ⟨rfl,.one hu⟩
    | cons y gs=>have:=h.1;simp at this
  | (n, w)::fs,gs,h=>by
    obtain ⟨x,gs',rfl,r,t⟩:=h.cons_inv
    by_cases c:n=f
    . simp only [putU,putF,if_pos c]
      exact ⟨by simp [t.1],.cons hu t.2⟩
    . simp only [putU,putF,if_neg c]
      have:=RFs.put (f:=f) hu t
      exact ⟨by simp [this.1],.cons r this.2⟩
theorem HR.ins {a C dx:Addr} {fs:List (Str × U)} (g:HR K H A) (e:A a=some (.ins C dx fs)):∃ gs,H a=some (.ins C dx gs)/\RFs K H fs gs:=g a _ e
theorem HR.setI {a C dx:Addr} {fs:List (Str × U)} {gs gs0:List (Str × V)} (g:HR K H A) (e:H a=some (.ins C dx gs0)) (r:RFs K H fs gs):HR K (upd H a (.ins C dx gs)) (updA A a (.ins C dx fs)) :=
  g.putO (Kp.ins e) ⟨gs,upd_same,r.same (Kp.ins e)⟩
noncomputable def aFld (K:PySem.W.Frag) (aa:AE) (f:Str):AE:=fun ρ A Q=>aa ρ A fun x A1=>∃ a C dx fs u,x=.ref a/\A1 a=some (.ins C dx fs)/\Cls K C/\NoAttr K C f/\fs.lookup f=some u/\Q u A1
theorem ab_fld {ta:TE} {aa:AE} {f:Str} (h:AbE K ta aa):AbE K (tFld K ta f) (aFld K aa f):=fun ρ A σ H Q' Q hs g w k =>
  h ρ A σ H _ _ hs g w fun x A1 v H1 k1 g1 r1 hq0=>by
    obtain ⟨a,C,dx,fs,u,e1,e2,c,n,l,q⟩:=hq0
    subst e1
    cases r1
    obtain ⟨gs,h1,h2⟩:=g1.ins e2
    obtain ⟨v,h3,h4⟩:=h2.look l
    exact ⟨a,C,dx,gs,v,rfl,h1,c,n,h3,k _ _ _ _ k1 g1 h4 q⟩
noncomputable def asFld (K:PySem.W.Frag) (aa av:AE) (f:Str):AS:=fun D ρ A=>av ρ A fun y A1=>aa ρ A1 fun x A2=>∃ a C dx fs,x=.ref a/\A2 a=some (.ins C dx fs)/\Cls K C/\NoAttr K C f/\fs.length < 1000/\D.nx ρ (updA A2 a (.ins C dx (putU f y fs)))
theorem ab_sfld {ta tv:TE} {aa av:AE} {f:Str} (ha:AbE K ta aa) (hv:AbE K tv av):AbS K (sFld K ta tv f) (asFld K aa av f):=fun ρ A σ H D' D hs g w k =>
  hv ρ A σ H _ _ hs g w fun y A1 v1 H1 k1 g1 r1 q1=>ha ρ A1 σ H1 _ _ (hs.same k1) g1 q1 fun x A2 v2 H2 k2 g2 r2 hq0=>by
    obtain ⟨a,C,dx,fs,e1,e2,c,n,l,q⟩:=hq0
    subst e1
    cases r2
    obtain ⟨gs,h1,h2⟩:=g2.ins e2
    have kp:Kp K H2 (upd H2 a (.ins C dx (putF f v1 gs))):=Kp.ins h1
    exact ⟨a,C,dx,gs,rfl,h1,c,n,by rw [<- h2.len];exact l,k.nx _ _ _ _ (k1.trans (k2.trans kp)) (g2.setI h1 (h2.put (r1.same k2))) (hs.same (k1.trans (k2.trans kp))) q⟩
noncomputable def asAug (K:PySem.W.Frag) (aa av:AE) (ar:AR2) (f:Str):AS:=fun D ρ A=>aa ρ A fun x A1=>∃ a C dx fs u,x=.ref a/\A1 a=some (.ins C dx fs)/\Cls K C/\NoAttr K C f/\fs.lookup f=some u /\
  av ρ A1 fun y A2=>ar u y A2 fun z A3=>∃ dx' fs',A3 a=some (.ins C dx' fs')/\fs'.length < 1000/\D.nx ρ (updA A3 a (.ins C dx' (putU f z fs')))
theorem ab_saug {ta tv:TE} {aa av:AE} {rd:V->V->Hp->VK->Prop} {ar:AR2} {f:Str} (ha:AbE K ta aa) (hv:AbE K tv av) (hr:AbR K rd ar):AbS K (sFldAug K ta tv rd f) (asAug K aa av ar f):=fun ρ A σ H D' D hs g w k =>
  ha ρ A σ H _ _ hs g w fun x A1 v1 H1 k1 g1 r1 hq0=>by
    obtain ⟨a,C,dx,fs,u,e1,e2,c,n,l,q⟩:=hq0
    subst e1
    cases r1
    obtain ⟨gs,h1,h2⟩:=g1.ins e2
    obtain ⟨v,h3,h4⟩:=h2.look l
    refine ⟨a,C,dx,gs,v,rfl,h1,c,n,h3,hv ρ A1 σ H1 _ _ (hs.same k1) g1 q fun y A2 v2 H2 k2 g2 r2 q2=>hr _ _ _ _ _ _ _ _ (h4.same k2) r2 g2 q2 fun z A3 v3 H3 k3 g3 r3 h_q=>?_⟩
    obtain ⟨dx',fs',e3,l',q3⟩:=h_q
    obtain ⟨gs3,h5,h6⟩:=g3.ins e3
    have kp:Kp K H3 (upd H3 a (.ins C dx' (putF f v3 gs3))):=Kp.ins h5
    exact ⟨dx',gs3,h5,by rw [<- h6.len];exact l',k.nx _ _ _ _ (k1.trans (k2.trans (k3.trans kp))) (g3.setI h5 (h6.put r3)) (hs.same (k1.trans (k2.trans (k3.trans kp)))) q3⟩
noncomputable def aMeth (C:Addr) (m:Str) (asp:ASp) (aa:AE) (l:AA):AE:=fun ρ A Q=>aa ρ A fun x A1=>∃ a dx fs,x=.ref a/\A1 a=some (.ins C dx fs)/\fs.lookup m=none/\l ρ A1 fun us A2=>asp (x::us) A2 Q
theorem ab_meth {C:Addr} {m:Str} {asp:ASp} {E:XK} {ta:TE} {aa:AE} {t:TA} {l:AA} (ha:AbE K ta aa) (hl:AbA K t l):AbE K (tMeth C m (spOf K asp) [] E ta t) (aMeth C m asp aa l):=fun ρ A σ H Q' Q hs g w k =>
  ha ρ A σ H _ _ hs g w fun x A1 v1 H1 k1 g1 r1 hq0=>by
    obtain ⟨a,dx,fs,e1,e2,e3,q⟩:=hq0
    subst e1
    cases r1
    obtain ⟨gs,h1,h2⟩:=g1.ins e2
    refine ⟨a,dx,gs,rfl,h1,h2.miss e3,hl ρ A1 σ H1 _ _ (hs.same k1) g1 q fun us A2 vs H2 k2 g2 r2 q2=>⟨.ref a::us,A2,Q',.cons (.ref a) (by rw [List.append_nil];exact r2),g2,q2,fun z A3 v3 H3 k3 h3 r3 q3=>k _ _ _ _ (k1.trans (k2.trans k3)) h3 r3 q3⟩⟩
noncomputable def aMake (C:Addr) (asp:ASp) (l:AA):AE:=fun ρ A Q=>l ρ A fun us A1=>∀ x dx,A1 x=none->asp (.ref x::us) (updA A1 x (.ins C dx [])) (fun u A2=>u=.non/\Q (.ref x) A2)
theorem ab_make {C:Addr} {asp:ASp} {E:XK} {t:TA} {l:AA} (hl:AbA K t l):AbE K (tMake C (spOf K asp) [] E t) (aMake C asp l):=fun ρ A σ H Q' Q hs g w k =>
  hl ρ A σ H _ _ hs g w fun us A1 vs H1 k1 g1 r1 q1 x dx hx hdx hne=>by
    have s1:Same H1 (upd H1 dx (.own x)):=Same.upd_new hdx
    have hx':upd H1 dx (.own x) x=none:=by rw [upd_ne (Ne.symm hne)];exact hx
    have s2:Same (upd H1 dx (.own x)) (upd (upd H1 dx (.own x)) x (.ins C dx [])):=Same.upd_new hx'
    have g2:HR K (upd (upd H1 dx (.own x)) x (.ins C dx [])) (updA A1 x (.ins C dx [])):=(g1.grow s1).putO s2.kp ⟨[],upd_same,rfl,.nil⟩
    refine ⟨.ref x::us,_,_,.cons (.ref x) (by rw [List.append_nil];exact r1.same (s1.kp.trans s2.kp)),g2,q1 x dx (g1.none hx),fun u A3 v3 H3 k3 g3 r3 h_q=>?_⟩
    obtain ⟨e,q3⟩:=h_q
    subst e
    cases r3
    exact ⟨rfl,k _ _ _ _ (k1.trans ((s1.kp.trans s2.kp).trans k3)) g3 (.ref x) q3⟩
end
end L2
namespace L2
open PySem PySem.Spec PyProof.Rows
section
variable {X:Cx}
theorem vals_of:∀ (l:List (Str × Tok)),Vals ((l.map (·.1)).map V.str) (strValues l)
  | []=>.nil
  | (z,t)::l=>.cons ⟨t,rfl⟩ (vals_of l)
noncomputable def rSplit:V->List V->Hp->VK->Prop:=fun x vs H Q=>∃ z y,x=.str z/\vs=[.str y]/\(y.length == 0)=false/\z.length<=sizeLine/\(Builtin.Str.partsBetween z (Builtin.Str.occurrences z y 0 z.length (z.length + 1)) y.length).length<=sizeLine/\(Txt.split z y).length<=sizeLine /\
  ∀ p,H p=none->Q (.ref p) (upd H p (.lst ((Txt.split z y).map V.str)))
theorem mt_split:MtR X "str.split" rSplit:=by
  intro pins s σ H x vs v us Q I rx rv h
  obtain ⟨z,y,rfl,rfl,hy,hz,hn,hs,q⟩:=h
  obtain ⟨t,rfl⟩:=rx
  obtain ⟨w,rfl,rw_⟩:=rv.one
  obtain ⟨u,rfl⟩:=rw_
  have key:∀ (l:List (Str × Tok)) (t':Nat),l.map (·.1)=Txt.split z y->EP X pins σ Q (.ref s.heap.objs.size) { s with heap:=s.heap.push { cls:=.type "list",data:=.seq (strValues l).toArray },toks:=t' }:=fun l t' e=>by
    have hv:=vals_of l
    rw [e] at hv
    exact ⟨.ref s.heap.objs.size,_,I.lnew hv (by rw [List.length_map];exact hs),rfl,q _ I.fresh⟩
  cases h1:(decide (z.length < y.length) || decide (PySem.Builtin.Str.strKind z < PySem.Builtin.Str.strKind y))
  . cases hf:(Builtin.Str.occurrences z y 0 z.length (z.length + 1)).isEmpty
    . refine call_meets F.slot_str_split (typeIs_str _ _ _) F.entry_str_split (F.args_str_split_2 _ _) (meets_str_split_sep z y t u h1 hy hf hz hn) ?_
      show wants _ _ _ { s with toks:=_,heap:=s.heap.push { cls:=.type "list",data:=.seq (strsFrom s.toks (Builtin.Str.partsBetween z (Builtin.Str.occurrences z y 0 z.length (z.length + 1)) y.length)).toArray } }
      rw [strsFrom_eq]
      exact key (numbered s.toks _) _ ((numbered_texts _ _).trans ((if_neg (ne_true_of_eq_false h1)).trans (if_neg (ne_true_of_eq_false hf))).symm)
    . exact call_meets F.slot_str_split (typeIs_str _ _ _) F.entry_str_split (F.args_str_split_2 _ _) (meets_str_split_not_found z y t u h1 hy hf)
        (key [(z,t)] s.toks ((if_neg (ne_true_of_eq_false h1)).trans (if_pos hf)).symm)
  . exact call_meets F.slot_str_split (typeIs_str _ _ _) F.entry_str_split (F.args_str_split_2 _ _) (meets_str_split_cannot_occur z y t u h1)
      (key [(z,t)] s.toks (if_pos h1).symm)
noncomputable def tNo:TS:=fun _ _ _=>False
theorem ps_no {st:Stmt}:PS X st tNo:=fun _ _ _ _ _ _ h=>h.elim
end
section
variable {K:PySem.W.Frag} {H H':Hp} {A:AHp}
noncomputable def aNo:AS:=fun _ _ _=>False
theorem ab_no:AbS K tNo aNo:=fun _ _ _ _ _ _ _ _ h _=>h.elim
noncomputable def isStrU:U->AHp->Prop:=fun u _=>match u with
  | .str _=>True
  | _=>False
theorem ab_isStr:AbY K "str" isStrU:=fun x u A H r g h=>by
  unfold isStrU at h
  split at h
  . cases r;exact (rfl:"str"="str")
  . exact h.elim
noncomputable def mJoin:U->List U->AHp->AVK->Prop:=fun u us A Q=>match u,us with
  | .str z,[.ref p]=>∃ ts,A p=some (.lst (ts.map U.str))/\JoinOk z ts=true/\Q (.str (Txt.join z ts)) A
  | _,_=>False
noncomputable def mSplit:U->List U->AHp->AVK->Prop:=fun u us A Q=>match u,us with
  | .str z,[.str y]=>(y.length == 0)=false/\z.length<=sizeLine/\(Builtin.Str.partsBetween z (Builtin.Str.occurrences z y 0 z.length (z.length + 1)) y.length).length<=sizeLine/\(Txt.split z y).length<=sizeLine/\∀ p,A p=none->Q (.ref p) (updA A p (.lst ((Txt.split z y).map U.str)))
  | _,_=>False
theorem ab_msplit:AbMt K rSplit mSplit:=fun x u xs us A H Q' Q r rs g h k=>by
  unfold mSplit at h
  split at h
  . cases r
    obtain ⟨v,rfl,rv⟩:=rs.inv1
    cases rv
    obtain ⟨h1,h2,h3,h4,h⟩:=h
    exact ⟨_,_,rfl,rfl,h1,h2,h3,h4,fun p hp=>k _ _ _ _ (Same.upd_new hp).kp (g.newL hp RUs.of_strs) (.ref p) (h p (g.none hp))⟩
  . exact h.elim
end
section
variable {K:PySem.W.Frag} {a:Addr} {kus:List (Str × U)}
noncomputable def xInDC (a:Addr) (kus:List (Str × U)):AR2:=fun x y A Q=>∃ z,x=.str z/\y=.ref a/\Q (.bl (kus.lookup z).isSome) A
noncomputable def xIxDC (a:Addr) (kus:List (Str × U)):AR2:=fun x y A Q=>∃ z u,x=.ref a/\y=.str z/\kus.lookup z=some u/\Q u A
noncomputable def xRadd:AR2:=fun x y A Q=>∃ i j,x=.int i/\y=.int j/\Q (.int (i + j)) A
theorem ab_radd:AbR K rAdd xRadd:=fun x y u w A H Q' Q hu hw g h k=>by
  obtain ⟨i,j,rfl,rfl,q⟩:=h
  cases hu;cases hw
  exact ⟨i,j,rfl,rfl,k _ _ _ _ (.refl H) g (.int _) q⟩
variable {u:U} {ρ:ASt} {A:AHp} {Q:AVK} {aa av:AE} {l:AA} {D:AEnds} {f m:Str} {C:Addr} {asp:ASp} {ar:AR2}
theorem q_join {z:Str} {p:Addr}:mJoin (.str z) [.ref p] A Q=∃ ts,A p=some (.lst (ts.map U.str))/\JoinOk z ts=true/\Q (.str (Txt.join z ts)) A:=rfl
theorem q_split {z y:Str}:mSplit (.str z) [.str y] A Q=((y.length == 0)=false/\z.length<=sizeLine/\(Builtin.Str.partsBetween z (Builtin.Str.occurrences z y 0 z.length (z.length + 1)) y.length).length<=sizeLine/\(Txt.split z y).length<=sizeLine/\∀ p,A p=none->Q (.ref p) (updA A p (.lst ((Txt.split z y).map U.str)))):=rfl
theorem q_isStr {z:Str}:isStrU (.str z) A=True:=rfl
theorem q_raddi {i j:Int}:xRadd (.int i) (.int j) A Q=Q (.int (i + j)) A:=propext ⟨fun hq0=>by obtain ⟨_,_,e1,e2,h⟩:=hq0;cases e1;cases e2;exact h,fun h=>⟨_,_,rfl,rfl,h⟩⟩
theorem q_no:aNo D ρ A=False:=rfl
theorem q_inDC {z:Str}:xInDC a kus (.str z) (.ref a) A Q=Q (.bl (kus.lookup z).isSome) A:=propext ⟨fun hq0=>by obtain ⟨_,e,_,h⟩:=hq0;cases e;exact h,fun h=>⟨_,rfl,rfl,h⟩⟩
theorem q_ixDC {z:Str}:xIxDC a kus (.ref a) (.str z) A Q=∃ u,kus.lookup z=some u/\Q u A:=propext ⟨fun hq0=>by obtain ⟨_,u,_,e,h⟩:=hq0;cases e;exact ⟨u,h⟩,fun ⟨u,h⟩=>⟨_,u,rfl,rfl,h⟩⟩
theorem q_fld:aFld K aa f ρ A Q=aa ρ A fun x A1=>∃ a C dx fs u,x=.ref a/\A1 a=some (.ins C dx fs)/\Cls K C/\NoAttr K C f/\fs.lookup f=some u/\Q u A1:=rfl
theorem q_sfld:asFld K aa av f D ρ A=av ρ A fun y A1=>aa ρ A1 fun x A2=>∃ a C dx fs,x=.ref a/\A2 a=some (.ins C dx fs)/\Cls K C/\NoAttr K C f/\fs.length < 1000/\D.nx ρ (updA A2 a (.ins C dx (putU f y fs))):=rfl
theorem q_saug:asAug K aa av ar f D ρ A=aa ρ A fun x A1=>∃ a C dx fs u,x=.ref a/\A1 a=some (.ins C dx fs)/\Cls K C/\NoAttr K C f/\fs.lookup f=some u /\
  av ρ A1 fun y A2=>ar u y A2 fun z A3=>∃ dx' fs',A3 a=some (.ins C dx' fs')/\fs'.length < 1000/\D.nx ρ (updA A3 a (.ins C dx' (putU f z fs'))):=rfl
theorem q_meth:aMeth C m asp aa l ρ A Q=aa ρ A fun x A1=>∃ a dx fs,x=.ref a/\A1 a=some (.ins C dx fs)/\fs.lookup m=none/\l ρ A1 fun us A2=>asp (x::us) A2 Q:=rfl
theorem q_make:aMake C asp l ρ A Q=l ρ A fun us A1=>∀ x dx,A1 x=none->asp (.ref x::us) (updA A1 x (.ins C dx [])) (fun u A2=>u=.non/\Q (.ref x) A2):=rfl
end
noncomputable def aIfH (c:AT) (t e:AS):AS:=aIfS c t e
theorem ab_ifH {K:PySem.W.Frag} {tc:TT} {t1 t2:TS} {c:AT} {a1 a2:AS} (hc:AbT K tc c) (h1:AbS K t1 a1) (h2:AbS K t2 a2):AbS K (tIfS tc t1 t2) (aIfH c a1 a2):=ab_ifs hc h1 h2
theorem if_open {c:AT} {t e:AS} {D:AEnds} {ρ:ASt} {A:AHp} (k:Bool) (h1:∀ B:Bool->AHp->Prop,B k A->c ρ A B) (h2:if k=true then t D ρ A else e D ρ A):aIfH c t e D ρ A:=h1 _ h2
theorem q_xintb {A:AHp} {Q:AVK} {k:Bool}:xInt [.bl k] A Q=Q (.int (if k then 1 else 0)) A:=rfl
theorem if_yes {c:AT} {t e:AS} {D:AEnds} {ρ:ASt} {A:AHp} (h1:∀ B:Bool->AHp->Prop,B true A->c ρ A B) (h2:t D ρ A):aIfH c t e D ρ A:=h1 _ (iteP rfl h2)
theorem if_no {c:AT} {t e:AS} {D:AEnds} {ρ:ASt} {A:AHp} (h1:∀ B:Bool->AHp->Prop,B false A->c ρ A B) (h2:e D ρ A):aIfH c t e D ρ A:=h1 _ (iteN Bool.false_ne_true h2)
end L2
namespace L2
open PySem PySem.Spec PyProof.Rows
noncomputable abbrev blk:Str:=" "
theorem blk_eq:(blk:Str)=⟨#[32]⟩:=by decide +kernel
theorem join_cons {x:Str} {r:List Str} (h:r≠[]):Txt.join blk (x::r)=x++blk++Txt.join blk r:=by
  unfold Txt.join
  rw [StrLaws.glued_eq_join,StrLaws.glued_eq_join]
  cases r with
  | nil=>exact absurd rfl h
  | cons y r=>rfl
theorem join_one {x:Str}:Txt.join blk [x]=x:=by unfold Txt.join;rw [StrLaws.glued_eq_join];rfl
theorem Str.app_assoc (x y z:Str):x++y++z=x++(y++z):=by
  apply Str.ext'
  simp only [Str.cps_append,Array.append_assoc]
theorem join_app:∀ {xs ys:List Str},xs≠[]->ys≠[]->Txt.join blk (xs++ys)=Txt.join blk xs++blk++Txt.join blk ys
  | [],_,h,_=>absurd rfl h
  | [x],ys,_,h=>by rw [join_one];exact join_cons h
  | x :: y::r,ys,_,h=>by
    rw [List.cons_append,join_cons (x:=x) (by simp),join_app (by simp) h,join_cons (x:=x) (r:=y::r) (by simp)]
    simp only [Str.app_assoc]
theorem sep_inj {c:Nat}:∀ {x y A B:List Nat},c ∉ x->c ∉ y->x++c::A=y++c::B->x=y/\A=B
  | [],[],A,B,_,_,e=>⟨rfl,by simpa using e⟩
  | [],b::y,A,B,_,h,e=>by
    rw [List.nil_append,List.cons_append] at e
    injection e with e1 _
    exact absurd (by rw [e1];exact .head _) h
  | a :: x,[],A,B,h,_,e=>by
    rw [List.nil_append,List.cons_append] at e
    injection e with e1 _
    exact absurd (by rw [<- e1];exact .head _) h
  | a :: x,b::y,A,B,h1,h2,e=>by
    rw [List.cons_append,List.cons_append] at e
    injection e with e1 e2
    obtain ⟨h3,h4⟩:=sep_inj (fun z=>h1 (.tail _ z)) (fun z=>h2 (.tail _ z)) e2
    exact ⟨by rw [e1,h3],h4⟩
theorem Str.toL_inj {x y:Str} (h:x.cps.toList=y.cps.toList):x=y:=Str.ext' (Array.toList_inj.mp h)
theorem sep_inj' {x y A B:Str} (h1:32 ∉ x.cps.toList) (h2:32 ∉ y.cps.toList) (e:x++blk++A=y++blk++B):x=y/\A=B:=by
  have:=congrArg (·.cps.toList) e
  simp only [Str.cps_append,Array.toList_append,blk_eq,List.append_assoc,List.singleton_append] at this
  obtain ⟨h3,h4⟩:=sep_inj h1 h2 this
  exact ⟨Str.toL_inj h3,Str.toL_inj h4⟩
theorem sep_no {x y A:Str} (h1:32 ∉ x.cps.toList) (e:x=y++blk++A):False:=by
  rw [e] at h1
  simp [Str.cps_append,blk_eq] at h1
theorem join_inj:∀ {xs ys:List Str},xs≠[]->ys≠[]->(∀ t∈xs,32 ∉ t.cps.toList)->(∀ t∈ys,32 ∉ t.cps.toList)->Txt.join blk xs=Txt.join blk ys->xs=ys
  | [],_,h,_,_,_,_=>absurd rfl h
  | _::_,[],_,h,_,_,_=>absurd rfl h
  | [x],[y],_,_,_,_,e=>by rw [join_one,join_one] at e;rw [e]
  | [x],y::z::r,_,_,h1,_,e=>by
    rw [join_one,join_cons (by simp)] at e
    exact (sep_no (h1 x (.head _)) e).elim
  | x :: z::r,[y],_,_,_,h2,e=>by
    rw [join_one,join_cons (by simp)] at e
    exact (sep_no (h2 y (.head _)) e.symm).elim
  | x :: x'::r,y::y'::r',_,_,h1,h2,e=>by
    rw [join_cons (x:=x) (by simp),join_cons (x:=y) (by simp)] at e
    obtain ⟨e1,e2⟩:=sep_inj' (h1 x (.head _)) (h2 y (.head _)) e
    rw [e1,join_inj (by simp) (by simp) (fun t ht=>h1 t (.tail _ ht)) (fun t ht=>h2 t (.tail _ ht)) e2]
theorem split_ne (x y:Str):Txt.split x y≠[]:=by
  unfold Txt.split
  split
  . simp
  . split
    . simp
    . rw [StrLaws.partsBetween_eq]
      obtain ⟨p,r,e⟩:=StrLaws.partsFrom_ne x y.length 0 (Builtin.Str.occurrences x y 0 x.length (x.length + 1))
      rw [e];simp
theorem split_join {ts:List Str} (h0:ts≠[]) (h:∀ t∈ts,32 ∉ t.cps.toList):Txt.split (Txt.join blk ts) blk=ts:=by
  refine join_inj (split_ne _ _) h0 ?_ h ?_
  . rw [blk_eq];exact StrLaws.split_free _ 32
  . show Builtin.Str.glued _ _=_
    rw [StrLaws.glued_eq_join,StrLaws.join_split]
theorem join_len {ts:List Str} {B:Nat} (h:∀ t∈ts,t.length<=B):(Txt.join blk ts).length<=ts.length * (B + 1):=by
  show (Builtin.Str.glued _ _).length<=_
  rw [StrLaws.glued_eq_join]
  have h1:=StrLaws.join_length_le blk ts
  have h2:=StrLaws.sumLen_le ts h
  have h3:(blk:Str).length=1:=by decide +kernel
  rw [h3] at h1
  rw [Nat.mul_add]
  lia
noncomputable def lettersL:Str:="abcdefghijklmnopqrstuvwxyz"
noncomputable def keptsL:List Str:=["nothing","bead","or","by","row","bag","choice","ring","of","left","right"]
noncomputable def wdB (x:Str):Bool:=x.cps.toList.all (fun c=>decide (c∈lettersL.cps.toList)) && (decide (1<=x.length) && decide (x.length<=8)) && !keptsL.contains x
theorem wdB_of {x:Str} (h:wdB x=true):(∀ c∈x.cps.toList,97<=c/\c<=122)/\1<=x.length/\x.length<=8/\x ∉ keptsL:=by
  unfold wdB at h
  simp only [Bool.and_eq_true,List.all_eq_true,decide_eq_true_eq,Bool.not_eq_true',List.contains_eq_mem,decide_eq_false_iff_not] at h
  refine ⟨fun c hc=>?_,h.1.2.1,h.1.2.2,h.2⟩
  have:=h.1.1 c hc
  have key:∀ c∈lettersL.cps.toList,97<=c/\c<=122:=by decide +kernel
  exact key c this
theorem wdB_ok {x:Str} (h:wdB x=true):PyData.strOk x=true:=by
  unfold PyData.strOk
  rw [<- Array.all_toList,List.all_eq_true]
  intro c hc
  have:=(wdB_of h).1 c hc
  simp only [decide_eq_true_eq]
  lia
noncomputable def opn:Nat->Str
  | 0=>"["
  | 1=>"{"
  | 2=>"<"
  | _=>"(("
noncomputable def cls:Nat->Str
  | 0=>"]"
  | 1=>"}"
  | 2=>">"
  | _=>"))"
mutual
noncomputable def Wr.wd:Wr->Bool
  | .nothing=>true
  | .bead c=>wdB c
  | .side _ f=>f.wd
  | .pair f g=>f.wd && g.wd
  | .many k ps=>wdL ps
noncomputable def wdL:List Wr->Bool
  | []=>true
  | w::ws=>w.wd && wdL ws
end
mutual
noncomputable def Wr.toks:Wr->List Str
  | .nothing=>["nothing"]
  | .bead c=>[c]
  | .side b f=>sname b::f.toks
  | .pair f g=>"("::(f.toks++(g.toks++[(")":Str)]))
  | .many k ps=>opn k::(toksL ps++[cls k])
noncomputable def toksL:List Wr->List Str
  | []=>[]
  | w::ws=>w.toks++toksL ws
end
noncomputable def tokOk (t:Str):Prop:=(32 ∉ t.cps.toList)/\t.length<=8
theorem tok_word {c:Str} (h:wdB c=true):tokOk c:=⟨fun hc=>by have:=(wdB_of h).1 _ hc;lia,(wdB_of h).2.2.1⟩
end L2
namespace L2
open PySem PySem.Spec PyProof.Rows
inductive Kd where
  | whole | side (b:Bool) | pair | many (k:Nat)
noncomputable def Kd.name:Kd->Str
  | .whole=>"whole"
  | .side b=>sname b
  | .pair=>"pair"
  | .many k=>mname k
noncomputable def Kd.close:Kd->List Str
  | .whole=>[]
  | .side _=>[]
  | .pair=>[")"]
  | .many k=>[cls k]
noncomputable def Kd.made:Kd->List Wr->Wr
  | .whole,[x]=>x
  | .side b,[x]=>.side b x
  | .pair,[x,y]=>.pair x y
  | .many k,ps=>.many k ps
  | _,_=>.nothing
structure Fr where
  kd:Kd
  dn:List Wr
  td:List Wr
noncomputable def rem:List Fr->List Str
  | []=>[]
  | f::fs=>toksL f.td++(f.kd.close++rem fs)
noncomputable def plug (x:Wr):List Fr->Wr
  | []=>x
  | f::fs=>plug (f.kd.made (f.dn++x::f.td)) fs
noncomputable def fin:List Fr->Wr
  | []=>.nothing
  | f::fs=>plug (f.kd.made (f.dn++f.td)) fs
end L2
namespace L2
open PySem PySem.Spec PyProof.Rows
noncomputable def WdOk (C:Addr) (A:AHp) (a p:Addr) (ts:List Str) (n:Nat):Prop:=(∃ dx,A a=some (.ins C dx [("words",.ref p),("at",.int n)]))/\A p=some (.lst (ts.map U.str))/\n<=ts.length
end L2
namespace L2
open PySem PySem.Spec PyProof.Rows
noncomputable def tMethD (m:Str) (tbl:List (Addr × Sp)) (E:XK) (ta:TE) (t:TA):TE:=fun σ H Q=>ta σ H fun x H1=>∃ a dx fs C sp,x=.ref a/\H1 a=some (.ins C dx fs)/\(C,sp)∈tbl/\fs.lookup m=none/\t σ H1 fun vs H2=>sp (x::vs) H2 Q E
noncomputable def MOk (P:Program) (w:World) (K:PySem.W.Frag) (mg:Str->Option Value) (base:Heap) (CX:CXT) (k:Nat) (m:Str) (tbl:List (Addr × Sp)):Prop:=∀ C sp,(C,sp)∈tbl->∃ f fd ps,Cls K C/\Meth K C m f/\FnOk P w K mg base CX k f fd ps sp/\Binds K fd ps []
theorem MOk.mono {P:Program} {w:World} {K:PySem.W.Frag} {mg:Str->Option Value} {base:Heap} {CX:CXT} {j k:Nat} {m:Str} {tbl:List (Addr × Sp)} (h:MOk P w K mg base CX j m tbl) (l:j<=k):MOk P w K mg base CX k m tbl:=fun C sp hin=>by
  obtain ⟨f,fd,ps,h1,h2,h3,h4⟩:=h C sp hin
  exact ⟨f,fd,ps,h1,h2,h3.mono l,h4⟩
section
variable {X:Cx} {CX:CXT} {k:Nat} {m:Str} {tbl:List (Addr × Sp)} {E:XK} {pos apos:Pos} {e o:Expr} {es:List Expr} {ta:TE} {t:TA}
theorem pe_methD {pl:Sem Bool} (he:PE X o ta) (hT:MOk X.prog X.w X.K X.mg X.base CX k m tbl) (hr:Room k X.A) (hx:Passes CX X E) (ha:PA X (e::es) t)
    (hst:starEach (e::es) X.env=(false,eval e X.env)::starEach es X.env:=by rfl) (hpl:(backTo pos (starEach es X.env)).any (·.1)=false:=by rfl)
    (ht : eval (.Call (.Attribute o m apos) (e::es) [] pos) X.env=(do
      let ov <- eval o X.env
      standAt apos.atName
      let (f,first) <- holding [ov] (getMethod ov m pl)
      callWith pos f first (backTo pos (starEach (e::es) X.env)) (backToKw pos (keywordEach [] X.env))):=by rfl) :
    PE X (.Call (.Attribute o m apos) (e::es) [] pos) (tMethD m tbl E ta t):=by
  intro pins s σ H Q I h
  refine PySem.W.methodCall_KW (pl:=pl) (thn (he pins s σ H _ I h) fun u s1 ⟨x,H1,I1,rx,a,dx,fs,C,sp,ex,ea,hin,l,q⟩=>?_) ht
  subst ex
  obtain rfl:u=Value.ref a:=rx
  obtain ⟨f,fd,ps,c,hm,F,hb⟩:=hT C sp hin
  refine getmeth_ok I1 ea c hm l ?_
  refine PySem.W.callWith_K (first:=[.ref a]) (h₀:=X.base) I.ok.mod.kin hm.kp (thn (ha pos pins s1 σ H1 _ I1 q) fun us s2 ⟨vs,H2,I2,r,q2⟩=>⟨I2.kIn,?_⟩) hst hpl
  exact run_fn (us:=.ref a::us) (vs:=.ref a::vs) (dvs:=[]) (ds:=[]) F hr hb .nil hx I2 (.cons rfl r) (by rw [List.append_nil];exact q2)
theorem pe_methD0 {pl:Sem Bool} (he:PE X o ta) (hT:MOk X.prog X.w X.K X.mg X.base CX k m tbl) (hr:Room k X.A) (hx:Passes CX X E)
    (ht : eval (.Call (.Attribute o m apos) [] [] pos) X.env=(do
      let ov <- eval o X.env
      standAt apos.atName
      let (f,first) <- holding [ov] (getMethod ov m pl)
      callWith pos f first (backTo pos (starEach [] X.env)) (backToKw pos (keywordEach [] X.env))):=by rfl) :
    PE X (.Call (.Attribute o m apos) [] [] pos) (tMethD m tbl E ta tNil):=by
  intro pins s σ H Q I h
  refine PySem.W.methodCall_KW (pl:=pl) (thn (he pins s σ H _ I h) fun u s1 ⟨x,H1,I1,rx,a,dx,fs,C,sp,ex,ea,hin,l,q⟩=>?_) ht
  subst ex
  obtain rfl:u=Value.ref a:=rx
  obtain ⟨f,fd,ps,c,hm,F,hb⟩:=hT C sp hin
  refine getmeth_ok I1 ea c hm l ?_
  exact PySem.W.callWith_K0 (first:=[.ref a]) I1.kIn hm.kp (run_fn (us:=[.ref a]) (vs:=[.ref a]) (dvs:=[]) (ds:=[]) F hr hb .nil hx I1 (.cons rfl .nil) q)
end
section
variable {K:PySem.W.Frag}
noncomputable def aMethD (m:Str) (tbl:List (Addr × ASp)) (aa:AE) (l:AA):AE:=fun ρ A Q=>aa ρ A fun x A1=>∃ a dx fs C asp,x=.ref a/\A1 a=some (.ins C dx fs)/\(C,asp)∈tbl/\fs.lookup m=none/\l ρ A1 fun us A2=>asp (x::us) A2 Q
theorem ab_methD {m:Str} {tbl:List (Addr × ASp)} {E:XK} {ta:TE} {aa:AE} {t:TA} {l:AA} (ha:AbE K ta aa) (hl:AbA K t l):AbE K (tMethD m (tbl.map fun p=>(p.1,spOf K p.2)) E ta t) (aMethD m tbl aa l):=fun ρ A σ H Q' Q hs g w k =>
  ha ρ A σ H _ _ hs g w fun x A1 v1 H1 k1 g1 r1 hq0=>by
    obtain ⟨a,dx,fs,C,asp,e1,e2,hin,e3,q⟩:=hq0
    subst e1
    cases r1
    obtain ⟨gs,h1,h2⟩:=g1.ins e2
    refine ⟨a,dx,gs,C,spOf K asp,rfl,h1,List.mem_map.mpr ⟨(C,asp),hin,rfl⟩,h2.miss e3,hl ρ A1 σ H1 _ _ (hs.same k1) g1 q fun us A2 vs H2 k2 g2 r2 q2=>⟨.ref a::us,A2,Q',.cons (.ref a) r2,g2,q2,fun z A3 v3 H3 k3 h3 r3 q3=>k _ _ _ _ (k1.trans (k2.trans k3)) h3 r3 q3⟩⟩
theorem q_methD {m:Str} {tbl:List (Addr × ASp)} {aa:AE} {l:AA} {ρ:ASt} {A:AHp} {Q:AVK}:aMethD m tbl aa l ρ A Q=aa ρ A fun x A1=>∃ a dx fs C asp,x=.ref a/\A1 a=some (.ins C dx fs)/\(C,asp)∈tbl/\fs.lookup m=none/\l ρ A1 fun us A2=>asp (x::us) A2 Q:=rfl
end
noncomputable def IsC (K:PySem.W.Frag) (C c:Addr) (b:Bool):Prop:=Cls K C/\PySem.W.findIn K (.ref C) "__class__"=some (some (.builtin "object.__class__"))/\PySem.W.specialIn K (.builtin "object.__class__") "__get__"=some (some (.builtin "getset_descriptor.__get__")) /\
  PySem.W.takesIn K (.builtin "object.__class__")=some true/\PySem.W.mroIn K C (.type "object")=some true/\PySem.W.kitOne K (.ref C) (.ref c)=some b
noncomputable def rIsC (K:PySem.W.Frag):List V->Hp->VK->Prop:=fun xs H Q=>∃ a C dx fs c b,xs=[.ref a,.ref c]/\H a=some (.ins C dx fs)/\IsC K C c b/\Q (.bl b) H
theorem c_isC {X:Cx}:CallR X (.builtin "isinstance") (rIsC X.K):=by
  intro pins s σ H xs us Q I r h
  obtain ⟨a,C,dx,fs,c,b,rfl,hH,⟨h1,h2,h3,h4,h5,h6⟩,q⟩:=h
  obtain ⟨u,v,rfl,ru,rv⟩:=r.two
  cases rv
  exact isinst_ok I ru (.ins hH h1 h2 h3 h4 h5) h6 fun tk=>⟨.bl b,H,I.tok tk,rfl,q⟩
section
variable {K:PySem.W.Frag}
noncomputable def xIsC (K:PySem.W.Frag):List U->AHp->AVK->Prop:=fun us A Q=>∃ a C dx fs c b,us=[.ref a,.ref c]/\A a=some (.ins C dx fs)/\IsC K C c b/\Q (.bl b) A
theorem ab_isC:AbL K (rIsC K) (xIsC K):=fun xs us A H Q' Q r g h k=>by
  obtain ⟨a,C,dx,fs,c,b,rfl,e,hi,q⟩:=h
  cases r with
  | cons r1 r=>cases r with
    | cons r2 r =>
      cases r;cases r1;cases r2
      obtain ⟨gs,h1,_⟩:=g.ins e
      exact ⟨a,C,dx,gs,c,b,rfl,h1,hi,k _ _ _ _ (.refl H) g (.bl b) q⟩
theorem q_isC {us:List U} {A:AHp} {Q:AVK}:xIsC K us A Q=∃ a C dx fs c b,us=[.ref a,.ref c]/\A a=some (.ins C dx fs)/\IsC K C c b/\Q (.bl b) A:=rfl
end
end L2
namespace L2
open PySem PySem.Spec PyProof.Rows
noncomputable abbrev TJ:=Str->St->Hp->(Str->Hp->Prop)->Prop
noncomputable def PJ (X:Cx) (es:List Expr) (t:TJ):Prop :=
  ∀ (pins:List (Addr × Obj)) (s:Shared) (σ:St) (H:Hp) (out:Str) (Q:Str->Hp->Prop),Inv X pins σ H s->t out σ H Q->wpAny (model X.prog X.w) X.A (joinParts out (evalEach es X.env)) (EP X pins σ fun v H'=>∃ z,v=.str z/\Q z H') X.xe s
noncomputable def tjNil:TJ:=fun out _ H Q=>out.length<=sizeLine/\Q out H
noncomputable def tjCons (te:TE) (t:TJ):TJ:=fun out σ H Q=>te σ H fun v H1=>∃ y,v=.str y/\(out++y).length<=sizeLine/\t (out++y) σ H1 Q
noncomputable def tFmt (te:TE):TE:=fun σ H Q=>te σ H fun v H1=>∃ y,v=.str y/\y.length<=sizeLine/\Q (.str y) H1
noncomputable def tFs (t:TJ):TE:=fun σ H Q=>t Str.empty σ H fun z H'=>Q (.str z) H'
section
variable {X:Cx} {e v1 v2:Expr} {es:List Expr} {te:TE} {t:TJ} {pos:Pos}
theorem pj_nil:PJ X [] tjNil:=fun pins s σ H out Q I ⟨hz,q⟩=>joinParts_nil (⟨.str out,H,I.tok _,⟨_,rfl⟩,out,rfl,q⟩) hz
theorem pj_cons (he:PE X e te) (ht:PJ X es t):PJ X (e::es) (tjCons te t):=by
  intro pins s σ H out Q I h
  refine joinParts_cons (thn (he pins s σ H _ I h) fun u s1 h_q=>?_)
  obtain ⟨v,H1,I1,rv,y,ev,hz,q⟩:=h_q
  subst ev
  obtain ⟨tk,rfl⟩:=rv
  exact ⟨hz,ht pins s1 σ H1 (out++y) Q I1 q⟩
theorem pe_fmt (he:PE X e te):PE X (.FormattedValue e (-1) none pos) (tFmt te):=by
  intro pins s σ H Q I h
  refine FormattedValue_plain (thn (he pins s σ H _ I h) fun u s1 h_q=>?_)
  obtain ⟨v,H1,I1,rv,y,ev,hz,q⟩:=h_q
  subst ev
  obtain ⟨tk,rfl⟩:=rv
  exact formatField_str (fun t' k=>⟨.str y,H1,I1.tok k,⟨_,rfl⟩,q⟩) hz
theorem pe_fstr (h:PJ X (v1::v2::es) t):PE X (.JoinedStr (v1::v2::es) pos) (tFs t):=by
  intro pins s σ H Q I hq
  refine JoinedStr_many (thn (h pins s σ H Str.empty _ I hq) fun u s1 h_q=>?_)
  obtain ⟨v,H1,I1,rv,z,ev,q⟩:=h_q
  subst ev
  exact ⟨.str z,H1,I1,rv,q⟩
end
section
variable {K:PySem.W.Frag}
noncomputable abbrev AJ:=Str->ASt->AHp->(Str->AHp->Prop)->Prop
noncomputable def AbFs (K:PySem.W.Frag) (t:TJ) (a:AJ):Prop:=∀ out ρ A σ H (Q':Str->AHp->Prop) (Q:Str->Hp->Prop),RSt K H ρ σ->HR K H A->a out ρ A Q'->(∀ z A' H',Kp K H H'->HR K H' A'->Q' z A'->Q z H')->t out σ H Q
noncomputable def ajNil:AJ:=fun out _ A Q=>out.length<=sizeLine/\Q out A
noncomputable def ajCons (ae:AE) (t:AJ):AJ:=fun out ρ A Q=>ae ρ A fun u A1=>∃ y,u=.str y/\(out++y).length<=sizeLine/\t (out++y) ρ A1 Q
noncomputable def aFmt (ae:AE):AE:=fun ρ A Q=>ae ρ A fun u A1=>∃ y,u=.str y/\y.length<=sizeLine/\Q (.str y) A1
noncomputable def aFs (t:AJ):AE:=fun ρ A Q=>t Str.empty ρ A fun z A'=>Q (.str z) A'
theorem ab_jnil:AbFs K tjNil ajNil:=fun out ρ A σ H Q' Q hs g ⟨hz,q⟩ k=>⟨hz,k _ _ _ (.refl H) g q⟩
theorem ab_jcons {te:TE} {ae:AE} {t:TJ} {a:AJ} (he:AbE K te ae) (ht:AbFs K t a):AbFs K (tjCons te t) (ajCons ae a):=fun out ρ A σ H Q' Q hs g w k =>
  he ρ A σ H _ _ hs g w fun u A1 v H1 k1 g1 r1 hq0=>by
    obtain ⟨y,e,hz,q⟩:=hq0
    subst e
    cases r1
    exact ⟨y,rfl,hz,ht _ ρ A1 σ H1 _ _ (hs.same k1) g1 q fun z A' H' k2 g2 q2=>k z A' H' (k1.trans k2) g2 q2⟩
theorem ab_fmt {te:TE} {ae:AE} (he:AbE K te ae):AbE K (tFmt te) (aFmt ae):=fun ρ A σ H Q' Q hs g w k =>
  he ρ A σ H _ _ hs g w fun u A1 v H1 k1 g1 r1 hq0=>by
    obtain ⟨y,e,hz,q⟩:=hq0
    subst e
    cases r1
    exact ⟨y,rfl,hz,k _ _ _ _ k1 g1 (.str y) q⟩
theorem ab_fstr {t:TJ} {a:AJ} (h:AbFs K t a):AbE K (tFs t) (aFs a):=fun ρ A σ H Q' Q hs g w k =>
  h Str.empty ρ A σ H _ _ hs g w fun z A' H' k1 g1 q=>k _ _ _ _ k1 g1 (.str z) q
variable {out:Str} {ρ:ASt} {A:AHp} {Q:AVK} {R:Str->AHp->Prop} {ae:AE} {t:AJ}
theorem q_jnil:ajNil out ρ A R=(out.length<=sizeLine/\R out A):=rfl
theorem q_jcons:ajCons ae t out ρ A R=ae ρ A fun u A1=>∃ y,u=.str y/\(out++y).length<=sizeLine/\t (out++y) ρ A1 R:=rfl
theorem q_fmt:aFmt ae ρ A Q=ae ρ A fun u A1=>∃ y,u=.str y/\y.length<=sizeLine/\Q (.str y) A1:=rfl
theorem q_fs:aFs t ρ A Q=t Str.empty ρ A fun z A'=>Q (.str z) A':=rfl
end
end L2
namespace L2
open PySem PySem.Spec PyProof.Rows
structure Mk0 (K:PySem.W.Frag) (C:Addr):Prop where
  makes:PySem.W.makesIn K C=true
  init:PySem.W.findIn K (.ref C) "__init__"=some (some (.builtin "object.__init__"))
  kp:PySem.W.keepIn K (.ref C)=true
noncomputable def tMake0 (C:Addr):TE:=fun _ H Q=>∀ x dx,H x=none->H dx=none->dx≠x->Q (.ref x) (upd (upd H dx (.own x)) x (.ins C dx []))
section
variable {X:Cx} {C:Addr} {x:Str} {p pos:Pos}
theorem run_make0 {pins:List (Addr × Obj)} {σ:St} {H:Hp} {s:Shared} {Q:VK} (M:Mk0 X.K C) (I:Inv X pins σ H s) (h:∀ x dx,H x=none->H dx=none->dx≠x->Q (.ref x) (upd (upd H dx (.own x)) x (.ins C dx []))) :
    wpAny (model X.prog X.w) X.A (call (.ref C) []) (EP X pins σ Q) X.xe s:=by
  have hq:=h (s.heap.objs.size + 1) s.heap.objs.size (I.hok.fresh (Nat.le_succ _)) (I.hok.fresh (Nat.le_refl _)) (Nat.ne_of_lt (Nat.lt_succ_self _))
  have I2:=Inv.made (C:=C) I
  have Y:=PySem.W.makes_of (M:=model X.prog X.w) I.kIn M.makes
  have e2:((s.heap.push PySem.W.emptyDict).push (PySem.W.instObj C s.heap.objs.size)).get? (s.heap.objs.size + 1)=some (PySem.W.instObj C s.heap.objs.size):=by
    have:=Heap.get?_push_size (s.heap.push PySem.W.emptyDict) (o:=PySem.W.instObj C s.heap.objs.size) rfl
    rwa [Heap.size_push] at this
  refine wpAny_call (make_map0 I.kIn M.makes M.init (fun self=>PySem.W.Looks.of_pure (PySem.W.oi_bind self)) ?_)
  have t1:PySem.W.Looks (model X.prog X.w) ((s.heap.push PySem.W.emptyDict).push (PySem.W.instObj C s.heap.objs.size)) (typeOf (.ref (s.heap.objs.size + 1))) (.ref C):=(PySem.W.Looks.ld e2).andThen .now
  have t2:PySem.W.Looks (model X.prog X.w) ((s.heap.push PySem.W.emptyDict).push (PySem.W.instObj C s.heap.objs.size)) (isInstance (.ref (s.heap.objs.size + 1)) (.type "object")) true:=t1.andThen (Y.top.keeps fun b o e=>Heap.get?_push_of_some _ (Heap.get?_push_of_some _ e))
  refine codeAny_call_builtin PySem.W.oi_plain PySem.W.entry_oi (@PySem.W.check_slot (model X.prog X.w) _ _ _ "object.__init__" "object" "__init__" (.ref (s.heap.objs.size + 1)) [] [] _ PySem.W.oi_kind PySem.W.oi_split t2 (PySem.W.oi_args (.ref (s.heap.objs.size + 1))) ?_)
  rw [PySem.W.oi_run]
  exact wpAny_pure (And.intro rfl ⟨.ref (s.heap.objs.size + 1),_,I2,rfl,hq⟩)
theorem pe_mk0 (M:Mk0 X.K C) (hg:Gl X x) (hm:X.mg x=some (.ref C)) (hdb:(x == ("__debug__":Str))=false:=by decide):PE X (.Call (.Name x p) [] [] pos) (tMake0 C):=by
  intro pins s σ H Q I h
  refine wpAny_Call_Name_kw (ld_glob I hg hm ?_ hdb)
  exact PySem.W.callWith_K0 I.kIn M.kp (run_make0 M I h)
end
section
variable {K:PySem.W.Frag} {C:Addr}
noncomputable def aMake0 (C:Addr):AE:=fun _ A Q=>∀ x dx,A x=none->Q (.ref x) (updA A x (.ins C dx []))
theorem ab_mk0:AbE K (tMake0 C) (aMake0 C):=fun ρ A σ H Q' Q hs g q k x dx hx hdx hne=>by
  have s1:Same H (upd H dx (.own x)):=Same.upd_new hdx
  have hx':upd H dx (.own x) x=none:=by rw [upd_ne (Ne.symm hne)];exact hx
  have s2:Same (upd H dx (.own x)) (upd (upd H dx (.own x)) x (.ins C dx [])):=Same.upd_new hx'
  have g2:HR K (upd (upd H dx (.own x)) x (.ins C dx [])) (updA A x (.ins C dx [])):=(g.grow s1).putO s2.kp ⟨[],upd_same,rfl,.nil⟩
  exact k _ _ _ _ (s1.kp.trans s2.kp) g2 (.ref x) (q x dx (g.none hx))
theorem q_mk0 {ρ:ASt} {A:AHp} {Q:AVK}:aMake0 C ρ A Q=∀ x dx,A x=none->Q (.ref x) (updA A x (.ins C dx [])):=rfl
end
end L2
namespace L2
open PySem PySem.Spec PyProof.Rows
noncomputable def IsCs (K:PySem.W.Frag) (C:Addr) (cs:List Addr) (b:Bool):Prop:=Cls K C/\PySem.W.findIn K (.ref C) "__class__"=some (some (.builtin "object.__class__"))/\PySem.W.specialIn K (.builtin "object.__class__") "__get__"=some (some (.builtin "getset_descriptor.__get__")) /\
  PySem.W.takesIn K (.builtin "object.__class__")=some true/\PySem.W.mroIn K C (.type "object")=some true/\PySem.W.kitAny K (.ref C) (cs.map Value.ref)=some b
noncomputable def rIsCs (K:PySem.W.Frag):List V->Hp->VK->Prop:=fun xs H Q=>∃ a C dx fs p cs b,xs=[.ref a,.ref p]/\H a=some (.ins C dx fs)/\SqT K H p (cs.map V.ref)/\IsCs K C cs b/\Q (.bl b) H
theorem vals_refs:∀ {cs:List Addr} {us:List Value},Vals (cs.map V.ref) us->us=cs.map Value.ref
  | [],_,.nil=>rfl
  | c :: cs,_,.cons r h=>by
    cases (show _=Value.ref c from r)
    rw [vals_refs h];rfl
theorem c_isCs {X:Cx}:CallR X (.builtin "isinstance") (rIsCs X.K):=by
  intro pins s σ H xs us Q I r h
  obtain ⟨a,C,dx,fs,p,cs,b,rfl,hH,ht,⟨h1,h2,h3,h4,h5,h6⟩,q⟩:=h
  obtain ⟨u,v,rfl,ru,rv⟩:=r.two
  cases ru;cases rv
  obtain ⟨its,r',pl,_⟩:=I.tuple ht
  have e:=vals_refs r'
  subst e
  obtain ⟨mA,O,_⟩:=ins_get I.hok hH
  obtain ⟨od,J,_⟩:=O.look
  have hp:∃ dd n sl,s.heap.get? p=some ⟨.type "tuple",dd,.seq (cs.map Value.ref).toArray n,sl⟩:=by
    obtain ⟨⟨oc,od',da,sl⟩,ho,hc,n,hd⟩:=(show IsTup s.heap p (cs.map Value.ref).toArray from by first | exact pl | exact pl.isTup | (obtain ⟨o,n,e,c,_,d,_⟩:=pl;exact ⟨o,e,c,n,d⟩))
    cases hc
    cases hd
    exact ⟨_,n,_,ho⟩
  obtain ⟨dd,n,sl,hp⟩:=hp
  exact PySem.W.kia_tup (PySem.W.kitx_own (h1.get _) h1.hd h2 h3 h4 h5) I.kIn J hp h6 (fun z=>nomatch z) fun tk=>⟨.bl b,H,I.tok tk,rfl,q⟩
section
variable {K:PySem.W.Frag}
theorem RUs.refs {H:Hp}:∀ {cs:List Addr} {vs:List V},RUs K H (cs.map U.ref) vs->vs=cs.map V.ref
  | [],_,.nil=>rfl
  | c::cs,_,.cons h r=>by cases h;rw [List.map_cons,RUs.refs r]
noncomputable def xIsCs (K:PySem.W.Frag):List U->AHp->AVK->Prop:=fun us A Q=>∃ a C dx fs cs b,us=[.ref a,.tup (cs.map U.ref)]/\A a=some (.ins C dx fs)/\IsCs K C cs b/\Q (.bl b) A
theorem ab_isCs:AbL K (rIsCs K) (xIsCs K):=fun xs us A H Q' Q r g h k=>by
  obtain ⟨a,C,dx,fs,cs,b,rfl,e,hi,q⟩:=h
  cases r with
  | cons r1 r=>cases r with
    | cons r2 r =>
      cases r;cases r1
      cases r2 with
      | tup ht hs =>
        have:=hs.refs
        subst this
        obtain ⟨gs,h1,_⟩:=g.ins e
        exact ⟨a,C,dx,gs,_,cs,b,rfl,h1,ht,hi,k _ _ _ _ (.refl H) g (.bl b) q⟩
theorem q_isCs {us:List U} {A:AHp} {Q:AVK}:xIsCs K us A Q=∃ a C dx fs cs b,us=[.ref a,.tup (cs.map U.ref)]/\A a=some (.ins C dx fs)/\IsCs K C cs b/\Q (.bl b) A:=rfl
end
end L2
namespace L2
open PySem PySem.Spec PyProof.Rows
inductive Rl where
  | nothing | bead (c:Str) | named (c:Str) | or (x y:Rl) | by_ (x y:Rl) | hold (k:Nat) (x:Rl)
noncomputable def Rl.toU:Rl->U
  | .nothing=>.tup [.str "nothing"]
  | .bead c=>.tup [.str "bead",.str c]
  | .named c=>.tup [.str "name",.str c]
  | .or x y=>.tup [.str "or",x.toU,y.toU]
  | .by_ x y=>.tup [.str "by",x.toU,y.toU]
  | .hold k x=>.tup [.str (mname k),x.toU]
noncomputable def Rl.lvl:Rl->Nat
  | .or _ _=>0
  | .by_ _ _=>1
  | _=>2
noncomputable def shut (n l:Nat) (ts:List Str):List Str:=if l < n then ("(":Str)::(ts++[(")":Str)]) else ts
noncomputable def Rl.tk:Rl->List Str
  | .nothing=>["nothing"]
  | .bead c=>["bead",c]
  | .named c=>[c]
  | .or x y=>shut 0 x.lvl x.tk++(("or":Str)::shut 1 y.lvl y.tk)
  | .by_ x y=>shut 1 x.lvl x.tk++(("by":Str)::shut 2 y.lvl y.tk)
  | .hold k x=>mname k::"of"::shut 2 x.lvl x.tk
inductive Wd:Nat->Nat->Rl->List Str->Prop
  | nothing {d n:Nat}:Wd d n .nothing ["nothing"]
  | bead {d n:Nat} {c:Str}:Wd d n (.bead c) ["bead",c]
  | named {d n:Nat} {c:Str}:Wd d n (.named c) [c]
  | or {d:Nat} {x y:Rl} {a b:List Str}:Wd d 0 x a->Wd d 1 y b->Wd d 0 (.or x y) (a++(("or":Str)::b))
  | by_ {d n:Nat} {x y:Rl} {a b:List Str}:n<=1->Wd d 1 x a->Wd d 2 y b->Wd d n (.by_ x y) (a++(("by":Str)::b))
  | hold {d n k:Nat} {x:Rl} {a:List Str}:Wd d 2 x a->Wd d n (.hold k x) (mname k::"of"::a)
  | par {d n:Nat} {x:Rl} {a:List Str}:Wd d 0 x a->Wd (d + 1) n x (("(":Str)::(a++[(")":Str)]))
theorem Wd.up {d n:Nat} {x:Rl} {a:List Str} (h:Wd d n x a):∀ {e:Nat},d<=e->Wd e n x a:=by
  induction h with
  | nothing=>intro e _;exact .nothing
  | bead=>intro e _;exact .bead
  | named=>intro e _;exact .named
  | or _ _ h1 h2=>intro e l;exact .or (h1 l) (h2 l)
  | by_ hn _ _ h1 h2=>intro e l;exact .by_ hn (h1 l) (h2 l)
  | hold _ h1=>intro e l;exact .hold (h1 l)
  | par _ h1 =>
    intro e l
    cases e with
    | zero=>lia
    | succ e=>exact .par (h1 (by lia))
noncomputable def Rl.dep:Rl->Nat
  | .nothing=>1
  | .bead _=>1
  | .named _=>1
  | .or x y=>1 + max x.dep y.dep
  | .by_ x y=>1 + max x.dep y.dep
  | .hold _ x=>1 + x.dep
theorem Wd.shut {d:Nat} {x:Rl} {a:List Str} (n:Nat) (h:∀ m,m<=x.lvl->Wd d m x a):Wd (d + 1) n x (L2.shut n x.lvl a):=by
  unfold L2.shut
  split
  . exact .par (h 0 (Nat.zero_le _))
  . exact (h n (by lia)).up (Nat.le_succ d)
theorem Rl.wd_tk:∀ (r:Rl) (n:Nat),n<=r.lvl->Wd r.dep n r r.tk
  | .nothing,n,_=>.nothing
  | .bead c,n,_=>.bead
  | .named c,n,_=>.named
  | .or x y,n,h=>by
    have:n=0:=Nat.le_zero.mp h
    subst this
    refine .or ((Wd.shut 0 (x.wd_tk)).up ?_) ((Wd.shut 1 (y.wd_tk)).up ?_) <;> simp only [Rl.dep] <;> lia
  | .by_ x y,n,h=>by
    refine .by_ h ((Wd.shut 1 (x.wd_tk)).up ?_) ((Wd.shut 2 (y.wd_tk)).up ?_) <;> simp only [Rl.dep] <;> lia
  | .hold k x,n,_=>.hold ((Wd.shut 2 (x.wd_tk)).up (by simp only [Rl.dep];lia))
theorem Wd.term {d n:Nat} {x:Rl} {a:List Str} (h:Wd d n x a):n=1->∃ (x0:Rl) (a0:List Str) (l:List (Rl × List Str)),Wd d 2 x0 a0/\(∀ p∈l,Wd d 2 p.1 p.2)/\a=a0++(l.map fun p:Rl × List Str=>("by":Str)::p.2).flatten/\x=l.foldl (fun r p=>.by_ r p.1) x0:=by
  induction h with
  | nothing=>intro _;exact ⟨_,_,[],.nothing,by simp,by simp,rfl⟩
  | bead=>intro _;exact ⟨_,_,[],.bead,by simp,by simp,rfl⟩
  | named=>intro _;exact ⟨_,_,[],.named,by simp,by simp,rfl⟩
  | or _ _ _ _=>intro e;cases e
  | @by_ d n x y a b hn h1 h2 ih _ =>
    intro _
    obtain ⟨x0,a0,l,g1,g2,g3,g4⟩:=ih rfl
    refine ⟨x0,a0,l++[(y,b)],g1,fun p hp=>?_,?_,?_⟩
    . rcases List.mem_append.mp hp with hp | hp
      . exact g2 p hp
      . rw [List.mem_singleton.mp hp];exact h2
    . rw [g3];simp
    . rw [List.foldl_append,<- g4];rfl
  | hold h1 _=>intro _;exact ⟨_,_,[],.hold h1,by simp,by simp,rfl⟩
  | par h1 _=>intro _;exact ⟨_,_,[],.par h1,by simp,by simp,rfl⟩
theorem Wd.rule {d n:Nat} {x:Rl} {a:List Str} (h:Wd d n x a):n=0->∃ (x0:Rl) (a0:List Str) (l:List (Rl × List Str)),Wd d 1 x0 a0/\(∀ p∈l,Wd d 1 p.1 p.2)/\a=a0++(l.map fun p:Rl × List Str=>("or":Str)::p.2).flatten/\x=l.foldl (fun r p=>.or r p.1) x0:=by
  induction h with
  | nothing=>intro _;exact ⟨_,_,[],.nothing,by simp,by simp,rfl⟩
  | bead=>intro _;exact ⟨_,_,[],.bead,by simp,by simp,rfl⟩
  | named=>intro _;exact ⟨_,_,[],.named,by simp,by simp,rfl⟩
  | @or d x y a b h1 h2 ih _ =>
    intro _
    obtain ⟨x0,a0,l,g1,g2,g3,g4⟩:=ih rfl
    refine ⟨x0,a0,l++[(y,b)],g1,fun p hp=>?_,?_,?_⟩
    . rcases List.mem_append.mp hp with hp | hp
      . exact g2 p hp
      . rw [List.mem_singleton.mp hp];exact h2
    . rw [g3];simp
    . rw [List.foldl_append,<- g4];rfl
  | by_ hn h1 h2 _ _=>intro _;exact ⟨_,_,[],.by_ (Nat.le_refl 1) h1 h2,by simp,by simp,rfl⟩
  | hold h1 _=>intro _;exact ⟨_,_,[],.hold h1,by simp,by simp,rfl⟩
  | par h1 _=>intro _;exact ⟨_,_,[],.par h1,by simp,by simp,rfl⟩
theorem Wd.factor {d n:Nat} {x:Rl} {a:List Str} (h:Wd d n x a):n=2->∃ (ks:List Nat) (x0:Rl) (a0:List Str),a=(ks.map fun k=>[mname k,("of":Str)]).flatten++a0/\x=ks.foldr (fun k r=>.hold k r) x0 /\
    (x0=.nothing/\a0=[("nothing":Str)]\/(∃ c,x0=.bead c/\a0=[("bead":Str),c])\/(∃ c,x0=.named c/\a0=[c])\/∃ e b,d=e + 1/\Wd e 0 x0 b/\a0=("(":Str)::(b++[(")":Str)])):=by
  induction h with
  | nothing=>intro _;exact ⟨[],_,_,rfl,rfl,.inl ⟨rfl,rfl⟩⟩
  | @bead d n c=>intro _;exact ⟨[],_,_,rfl,rfl,.inr (.inl ⟨c,rfl,rfl⟩)⟩
  | @named d n c=>intro _;exact ⟨[],_,_,rfl,rfl,.inr (.inr (.inl ⟨c,rfl,rfl⟩))⟩
  | or _ _ _ _=>intro e;cases e
  | by_ hn _ _ _ _=>intro e;lia
  | @hold d n k x a h1 ih =>
    intro _
    obtain ⟨ks,x0,a0,g1,g2,g3⟩:=ih rfl
    exact ⟨k::ks,x0,a0,by rw [g1];rfl,by rw [g2];rfl,g3⟩
  | @par d n x a h1 _=>intro _;exact ⟨[],_,_,rfl,rfl,.inr (.inr (.inr ⟨d,a,rfl,h1,rfl⟩))⟩
end L2
namespace L2
open PySem PySem.Spec PyProof.Rows
theorem shut_ne {n l:Nat} {ts:List Str} (h:ts≠[]):shut n l ts≠[]:=by
  unfold shut;split
  . simp
  . exact h
theorem Rl.tk_ne (r:Rl):r.tk≠[]:=by cases r <;> simp [Rl.tk]
noncomputable def Rl.txt (r:Rl):Str:=Txt.join blk r.tk
noncomputable def Rl.sh (n:Nat) (r:Rl):Str:=if r.lvl < n then Str.ofString "( "++r.txt++Str.ofString " )" else r.txt
theorem Rl.sh_eq (n:Nat) (r:Rl):Txt.join blk (shut n r.lvl r.tk)=r.sh n:=by
  unfold shut Rl.sh Rl.txt
  split
  . rw [join_cons (by simp),join_app r.tk_ne (by simp),join_one,show Str.ofString "( "=Str.ofString "("++blk from by decide +kernel,show Str.ofString " )"=blk++Str.ofString ")" from by decide +kernel]
    simp only [L2.Str.app_assoc]
  . rfl
theorem txt_mid {a b:List Str} {z:Str} (ha:a≠[]) (hb:b≠[]):Txt.join blk (a++(z::b))=Txt.join blk a++(blk++z++blk)++Txt.join blk b:=by
  rw [join_app ha (by simp),join_cons hb]
  simp only [L2.Str.app_assoc]
theorem Rl.txt_or (x y:Rl):(Rl.or x y).txt=x.sh 0++Str.ofString " or "++y.sh 1:=by
  rw [<- Rl.sh_eq,<- Rl.sh_eq,show Str.ofString " or "=blk++Str.ofString "or"++blk from by decide +kernel]
  exact txt_mid (shut_ne x.tk_ne) (shut_ne y.tk_ne)
theorem Rl.txt_by (x y:Rl):(Rl.by_ x y).txt=x.sh 1++Str.ofString " by "++y.sh 2:=by
  rw [<- Rl.sh_eq,<- Rl.sh_eq,show Str.ofString " by "=blk++Str.ofString "by"++blk from by decide +kernel]
  exact txt_mid (shut_ne x.tk_ne) (shut_ne y.tk_ne)
theorem Rl.txt_hold (k:Nat) (x:Rl):(Rl.hold k x).txt=mname k++Str.ofString " of "++x.sh 2:=by
  rw [<- Rl.sh_eq,show Str.ofString " of "=blk++Str.ofString "of"++blk from by decide +kernel]
  exact (txt_mid (a:=[mname k]) (by simp) (shut_ne x.tk_ne)).trans (by rw [join_one])
theorem Rl.txt_bead (c:Str):(Rl.bead c).txt=Str.ofString "bead "++c:=by
  unfold Rl.txt
  rw [Rl.tk,join_cons (by simp),join_one,show Str.ofString "bead "=Str.ofString "bead"++blk from by decide +kernel]
theorem Rl.txt_named (c:Str):(Rl.named c).txt=c:=join_one
theorem Rl.sh0 (r:Rl):r.sh 0=r.txt:=by unfold Rl.sh;rw [if_neg (Nat.not_lt_zero _)]
noncomputable def RlO (cs:Nat->Addr) (A:AHp):Addr->Rl->Prop
  | a,.nothing=>∃ dx,A a=some (.ins (cs 0) dx [])
  | a,.bead c=>∃ dx,A a=some (.ins (cs 1) dx [("colour",.str c)])
  | a,.named c=>∃ dx,A a=some (.ins (cs 2) dx [("name",.str c)])
  | a,.or x y=>∃ dx p q,A a=some (.ins (cs 3) dx [("one",.ref p),("other",.ref q)])/\RlO cs A p x/\RlO cs A q y
  | a,.by_ x y=>∃ dx p q,A a=some (.ins (cs 4) dx [("one",.ref p),("other",.ref q)])/\RlO cs A p x/\RlO cs A q y
  | a,.hold k x=>∃ dx p,A a=some (.ins (cs (5 + min k 3)) dx [("part",.ref p)])/\RlO cs A p x
theorem RlO.ext {cs:Nat->Addr} {A A':AHp} (e:Ext A A'):∀ {a:Addr} {r:Rl},RlO cs A a r->RlO cs A' a r
  | _,.nothing,⟨dx,h⟩=>⟨dx,e _ _ h⟩
  | _,.bead _,⟨dx,h⟩=>⟨dx,e _ _ h⟩
  | _,.named _,⟨dx,h⟩=>⟨dx,e _ _ h⟩
  | _,.or x y,⟨dx,p,q,h,h1,h2⟩=>⟨dx,p,q,e _ _ h,h1.ext e,h2.ext e⟩
  | _,.by_ x y,⟨dx,p,q,h,h1,h2⟩=>⟨dx,p,q,e _ _ h,h1.ext e,h2.ext e⟩
  | _,.hold k x,⟨dx,p,h,h1⟩=>⟨dx,p,e _ _ h,h1.ext e⟩
noncomputable def Rl.wd:Rl->Bool
  | .nothing=>true
  | .bead c=>wdB c
  | .named c=>wdB c
  | .or x y=>x.wd && y.wd
  | .by_ x y=>x.wd && y.wd
  | .hold _ x=>x.wd
noncomputable def Rl.size:Rl->Nat
  | .nothing=>1
  | .bead _=>1
  | .named _=>1
  | .or x y=>x.size + y.size + 1
  | .by_ x y=>x.size + y.size + 1
  | .hold _ x=>x.size + 1
theorem tok_const2:∀ t∈(["nothing","bead","or","by","of","(",")"]:List Str),tokOk t:=by unfold tokOk;decide +kernel
theorem tok_mname (k:Nat):tokOk (mname k):=by
  have key:∀ t∈(["row","bag","choice","ring"]:List Str),tokOk t:=by unfold tokOk;decide +kernel
  match k with
  | 0=>exact key _ (by decide +kernel)
  | 1=>exact key _ (by decide +kernel)
  | 2=>exact key _ (by decide +kernel)
  | k + 3=>exact key (mname 3) (by decide +kernel)
theorem Wd.toks {d n:Nat} {x:Rl} {a:List Str} (h:Wd d n x a):x.wd=true->∀ t∈a,tokOk t:=by
  induction h with
  | nothing=>intro _ t ht;rw [List.mem_singleton.mp ht];exact tok_const2 _ (by decide +kernel)
  | bead =>
    intro hw t ht
    rcases List.mem_cons.mp ht with rfl | ht
    . exact tok_const2 _ (by decide +kernel)
    . rw [List.mem_singleton.mp ht];exact tok_word hw
  | named=>intro hw t ht;rw [List.mem_singleton.mp ht];exact tok_word hw
  | or _ _ h1 h2 =>
    intro hw t ht
    rw [Rl.wd,Bool.and_eq_true] at hw
    rcases List.mem_append.mp ht with ht | ht
    . exact h1 hw.1 t ht
    . rcases List.mem_cons.mp ht with rfl | ht
      . exact tok_const2 _ (by decide +kernel)
      . exact h2 hw.2 t ht
  | by_ _ _ _ h1 h2 =>
    intro hw t ht
    rw [Rl.wd,Bool.and_eq_true] at hw
    rcases List.mem_append.mp ht with ht | ht
    . exact h1 hw.1 t ht
    . rcases List.mem_cons.mp ht with rfl | ht
      . exact tok_const2 _ (by decide +kernel)
      . exact h2 hw.2 t ht
  | hold _ h1 =>
    intro hw t ht
    rcases List.mem_cons.mp ht with rfl | ht
    . exact tok_mname _
    . rcases List.mem_cons.mp ht with rfl | ht
      . exact tok_const2 _ (by decide +kernel)
      . exact h1 (by simpa [Rl.wd] using hw) t ht
  | par _ h1 =>
    intro hw t ht
    rcases List.mem_cons.mp ht with rfl | ht
    . exact tok_const2 _ (by decide +kernel)
    . rcases List.mem_append.mp ht with ht | ht
      . exact h1 hw t ht
      . rw [List.mem_singleton.mp ht];exact tok_const2 _ (by decide +kernel)
theorem Wd.ne {d n:Nat} {x:Rl} {a:List Str} (h:Wd d n x a):a≠[]:=by cases h <;> simp
theorem Wd.split {d n:Nat} {x:Rl} {a:List Str} (h:Wd d n x a) (hw:x.wd=true):Txt.split (Txt.join blk a) blk=a:=split_join h.ne fun t ht=>(h.toks hw t ht).1
noncomputable def Rl.ci:Rl->Nat
  | .nothing=>0
  | .bead _=>1
  | .named _=>2
  | .or _ _=>3
  | .by_ _ _=>4
  | .hold k _=>5 + min k 3
theorem Rl.ci_lt (r:Rl):r.ci < 9:=by cases r <;> simp only [Rl.ci] <;> lia
theorem RlO.cls {cs:Nat->Addr} {A:AHp} {a:Addr} {r:Rl} {m:Str} (h:RlO cs A a r) (hm:m ∉ (["colour","name","one","other","part"]:List Str)):∃ dx fs,A a=some (.ins (cs r.ci) dx fs)/\fs.lookup m=none:=by
  simp only [List.mem_cons,List.not_mem_nil,or_false,not_or] at hm
  obtain ⟨h1,h2,h3,h4,h5⟩:=hm
  cases r with
  | nothing=>obtain ⟨dx,h⟩:=h;exact ⟨dx,_,h,rfl⟩
  | bead c=>obtain ⟨dx,h⟩:=h;exact ⟨dx,_,h,by simp [List.lookup,beq_eq_false_iff_ne.mpr h1]⟩
  | named c=>obtain ⟨dx,h⟩:=h;exact ⟨dx,_,h,by simp [List.lookup,beq_eq_false_iff_ne.mpr h2]⟩
  | or x y=>obtain ⟨dx,p,q,h,_⟩:=h;exact ⟨dx,_,h,by simp [List.lookup,beq_eq_false_iff_ne.mpr h3,beq_eq_false_iff_ne.mpr h4]⟩
  | by_ x y=>obtain ⟨dx,p,q,h,_⟩:=h;exact ⟨dx,_,h,by simp [List.lookup,beq_eq_false_iff_ne.mpr h3,beq_eq_false_iff_ne.mpr h4]⟩
  | hold k x=>obtain ⟨dx,p,h,_⟩:=h;exact ⟨dx,_,h,by simp [List.lookup,beq_eq_false_iff_ne.mpr h5]⟩
noncomputable def asp_told (cs:Nat->Addr) (n i:Nat):ASp:=fun us A Q=>∃ (a:Addr) (r:Rl),us=[.ref a]/\RlO cs A a r/\r.ci=i/\r.dep<=n/\r.wd=true/\r.size<=100/\Q (.str r.txt) A
noncomputable def tblT (cs:Nat->Addr) (n:Nat):List (Addr × ASp):=(List.range 9).map fun i=>(cs i,asp_told cs n i)
theorem tblT_mem {cs:Nat->Addr} {n:Nat} (r:Rl):(cs r.ci,asp_told cs n r.ci)∈tblT cs n:=List.mem_map.mpr ⟨r.ci,List.mem_range.mpr r.ci_lt,rfl⟩
end L2
namespace L2
open PySem PySem.Spec PySem.W PyProof.Rows
end L2
namespace L2
open PySem PySem.Spec PySem.W PyProof.Rows
end L2
namespace L2
open PySem PySem.Spec PySem.W PyProof.Rows
end L2
namespace L2
open PySem PySem.Spec PySem.W PyProof.Rows
end L2
namespace L2
open PySem
end L2
namespace L2
open PySem PySem.W
end L2
namespace L2
open PySem
end L2
namespace L2
open PySem PySem.Spec PyProof.Rows
section
variable {K:PySem.W.Frag}
noncomputable def mPop0:U->List U->AHp->AVK->Prop:=fun u us A Q=>match u,us with
  | .ref a,[.int i]=>i=0/\∃ y xs,A a=some (.lst (y::xs))/\Q y (updA A a (.lst xs))
  | _,_=>False
theorem ab_mpop0:AbMt K rPopAt mPop0:=fun x u xs us A H Q' Q r rs g h k=>by
  unfold mPop0 at h
  split at h
  . cases r
    obtain ⟨v,rfl,rv⟩:=rs.inv1
    cases rv
    obtain ⟨rfl,y,zs,e,h⟩:=h
    obtain ⟨vs,h1,r1⟩:=g.list e
    cases r1 with
    | cons r2 r3 =>
      rename_i v2 vs2
      refine ⟨_,_,0,0,v2,rfl,rfl,h1,by decide,by decide,?_,rfl,k _ _ _ _ (Kp.lst h1) (g.setL h1 r3) (r2.same (Kp.lst h1)) h⟩
      unfold seqIndex?
      simp
  . exact h.elim
theorem q_pop0 {p:Addr} {A:AHp} {Q:AVK}:(mPop0 (.ref p) [.int 0] A Q)=(∃ y xs,A p=some (.lst (y::xs))/\Q y (updA A p (.lst xs))):=propext ⟨fun h=>h.2,fun h=>⟨rfl,h⟩⟩
end
theorem len0 {α:Type} {P:List α->Prop} (h:P []):∀ us:List α,us.length=0->P us:=fun us e=>by
  cases us with
  | nil=>exact h
  | cons a us=>simp at e
theorem len1 {α:Type} {P:List α->Prop} (h:∀ a,P [a]):∀ us:List α,us.length=1->P us:=fun us e=>by
  cases us with
  | nil=>simp at e
  | cons a us=>exact len0 (P:=fun us=>P (a::us)) (h a) us (by simpa using e)
theorem len2 {α:Type} {P:List α->Prop} (h:∀ a b,P [a,b]):∀ us:List α,us.length=2->P us:=fun us e=>by
  cases us with
  | nil=>simp at e
  | cons a us=>exact len1 (P:=fun us=>P (a::us)) (h a) us (by simpa using e)
theorem len3 {α:Type} {P:List α->Prop} (h:∀ a b c,P [a,b,c]):∀ us:List α,us.length=3->P us:=fun us e=>by
  cases us with
  | nil=>simp at e
  | cons a us=>exact len2 (P:=fun us=>P (a::us)) (h a) us (by simpa using e)
end L2
namespace L2
open PySem PySem.Spec PyProof.Rows
noncomputable def csL (l:List Addr) (i:Nat):Addr:=l.getD i 0
structure IsTab (K:PySem.W.Frag) (l:List Addr) (rt:Addr):Prop where
  sp:PySem.W.specialIn K (.builtin "object.__class__") "__get__"=some (some (.builtin "getset_descriptor.__get__"))
  tk:PySem.W.takesIn K (.builtin "object.__class__")=some true
  fi:l.map (fun c=>PySem.W.findIn K (.ref c) "__class__")=l.map fun _=>some (some (.builtin "object.__class__"))
  mr:l.map (fun c=>PySem.W.mroIn K c (.type "object"))=l.map fun _=>some true
  ki:l.map (fun c=>l.map fun d=>PySem.W.kitOne K (.ref c) (.ref d))=(List.range l.length).map fun i=>(List.range l.length).map fun j=>some (i == j)
  kr:l.map (fun c=>PySem.W.kitOne K (.ref c) (.ref rt))=l.map fun _=>some true
theorem map_at {α β:Type} {f g:α->β} {l:List α} (h:l.map f=l.map g) {x:α} (hx:x∈l):f x=g x:=List.map_inj_left.mp h x hx
theorem csL_mem {l:List Addr} {i:Nat} (h:i < l.length):csL l i∈l:=by
  unfold csL
  rw [List.getD_eq_getElem?_getD,List.getElem?_eq_getElem h]
  exact List.getElem_mem h
variable {K:PySem.W.Frag} {l:List Addr} {rt:Addr}
theorem IsTab.kit (h:IsTab K l rt) {i j:Nat} (hi:i < l.length) (hj:j < l.length):PySem.W.kitOne K (.ref (csL l i)) (.ref (csL l j))=some (i == j):=by
  have e:=congrArg (fun z=>(z.getD i []).getD j none) h.ki
  simpa [csL,List.getD_eq_getElem?_getD,hi,hj] using e
theorem IsTab.isC (h:IsTab K l rt) (hL:∀ c∈l,Cls K c) {i j:Nat} (hi:i < 9) (hj:j < 9) (hn:l.length=9:=by rfl):IsC K (csL l i) (csL l j) (i == j):=by
  rw [<- hn] at hi hj
  exact ⟨hL _ (csL_mem hi),map_at h.fi (csL_mem hi),h.sp,h.tk,map_at h.mr (csL_mem hi),h.kit hi hj⟩
theorem IsTab.isR (h:IsTab K l rt) (hL:∀ c∈l,Cls K c) {i:Nat} (hi:i < 9) (hn:l.length=9:=by rfl):IsC K (csL l i) rt true:=by
  rw [<- hn] at hi
  exact ⟨hL _ (csL_mem hi),map_at h.fi (csL_mem hi),h.sp,h.tk,map_at h.mr (csL_mem hi),map_at h.kr (csL_mem hi)⟩
theorem IsTab.isCs (h:IsTab K l rt) (hL:∀ c∈l,Cls K c) {i j k:Nat} (hi:i < 9) (hj:j < 9) (hk:k < 9) (hn:l.length=9:=by rfl):IsCs K (csL l i) [csL l j,csL l k] (i == j || i == k):=by
  rw [<- hn] at hi hj hk
  refine ⟨hL _ (csL_mem hi),map_at h.fi (csL_mem hi),h.sp,h.tk,map_at h.mr (csL_mem hi),?_⟩
  simp only [List.map_cons,List.map_nil,PySem.W.kitAny,h.kit hi hj,h.kit hi hk]
  cases (i == j) <;> cases (i == k) <;> rfl
end L2
namespace L2
open PySem PySem.Spec PyProof.Rows
theorem shut_len (n l:Nat) (ts:List Str):(shut n l ts).length<=ts.length + 2:=by
  unfold shut;split <;> simp
theorem Rl.tk_len:∀ r:Rl,r.tk.length + 2<=4 * r.size
  | .nothing=>by decide
  | .bead _=>by simp [Rl.tk,Rl.size]
  | .named _=>by simp [Rl.tk,Rl.size]
  | .or x y=>by
    have h1:=x.tk_len;have h2:=y.tk_len;have h3:=shut_len 0 x.lvl x.tk;have h4:=shut_len 1 y.lvl y.tk
    simp only [Rl.tk,Rl.size,List.length_append,List.length_cons];lia
  | .by_ x y=>by
    have h1:=x.tk_len;have h2:=y.tk_len;have h3:=shut_len 1 x.lvl x.tk;have h4:=shut_len 2 y.lvl y.tk
    simp only [Rl.tk,Rl.size,List.length_append,List.length_cons];lia
  | .hold _ x=>by
    have h1:=x.tk_len;have h3:=shut_len 2 x.lvl x.tk
    simp only [Rl.tk,Rl.size,List.length_cons];lia
theorem Wd.len {d n:Nat} {x:Rl} {a:List Str} (h:Wd d n x a) (hw:x.wd=true):(Txt.join blk a).length<=a.length * 9:=join_len fun t ht=>(h.toks hw t ht).2
theorem Rl.txt_len (r:Rl) (hw:r.wd=true):r.txt.length + 18<=36 * r.size:=by
  have h1:=(r.wd_tk 0 (Nat.zero_le _)).len hw
  have h2:=r.tk_len
  unfold Rl.txt;lia
theorem par_len (x:Str):(Str.ofString "( "++x++Str.ofString " )").length=x.length + 4:=by
  rw [Str.length_append,Str.length_append,show (Str.ofString "( ").length=2 from by decide +kernel,show (Str.ofString " )").length=2 from by decide +kernel];lia
theorem Rl.sh_len (r:Rl) (n:Nat) (hw:r.wd=true):(r.sh n).length<=36 * r.size:=by
  have h1:=r.txt_len hw
  unfold Rl.sh
  split
  . rw [par_len];lia
  . lia
theorem Rl.ci3 {r:Rl} (h:r.ci=3):∃ x y,r=.or x y:=by cases r <;> simp only [Rl.ci] at h <;> first | exact ⟨_,_,rfl⟩ | lia
theorem Rl.ci4 {r:Rl} (h:r.ci=4):∃ x y,r=.by_ x y:=by cases r <;> simp only [Rl.ci] at h <;> first | exact ⟨_,_,rfl⟩ | lia
theorem Rl.ci0 {r:Rl} (h:r.ci=0):r=.nothing:=by cases r <;> simp only [Rl.ci] at h <;> first | rfl | lia
theorem Rl.ci1 {r:Rl} (h:r.ci=1):∃ c,r=.bead c:=by cases r <;> simp only [Rl.ci] at h <;> first | exact ⟨_,rfl⟩ | lia
theorem Rl.ci2 {r:Rl} (h:r.ci=2):∃ c,r=.named c:=by cases r <;> simp only [Rl.ci] at h <;> first | exact ⟨_,rfl⟩ | lia
theorem Rl.ci5 {r:Rl} {j:Nat} (hj:j<=3) (h:r.ci=5 + j):∃ k x,r=.hold k x/\min k 3=j:=by cases r <;> simp only [Rl.ci] at h <;> first | exact ⟨_,_,rfl,by lia⟩ | lia
theorem mname_min (k:Nat):mname (min k 3)=mname k:=by
  match k with
  | 0=>rfl
  | 1=>rfl
  | 2=>rfl
  | k + 3=>rw [Nat.min_eq_right (by lia)];rfl
theorem Rl.lvl_or (r:Rl):decide (r.lvl < 1)=(r.ci == 3):=by cases r <;> simp [Rl.lvl,Rl.ci] <;> lia
theorem Rl.lvl_by (r:Rl):decide (r.lvl < 2)=(r.ci == 3 || r.ci == 4):=by cases r <;> simp [Rl.lvl,Rl.ci] <;> lia
noncomputable def asp_sh (cs:Nat->Addr) (n l:Nat):ASp:=fun us A Q=>∃ (a:Addr) (r:Rl),us=[.ref a]/\RlO cs A a r/\r.dep<=n/\r.wd=true/\r.size<=100/\Q (.str (r.sh l)) A
theorem told_nm:(("told":Str)) ∉ (["colour","name","one","other","part"]:List Str):=by decide +kernel
theorem told_go {cs:Nat->Addr} {A:AHp} {a:Addr} {r:Rl} {n:Nat} {Q:AVK} (hr:RlO cs A a r) (hd:r.dep<=n) (hw:r.wd=true) (hs:r.size<=100) (q:Q (.str r.txt) A):∃ b dx fs C asp,U.ref a=.ref b/\A b=some (.ins C dx fs)/\(C,asp)∈tblT cs n/\fs.lookup (Str.ofString "told")=none/\asp [.ref a] A Q:=by
  obtain ⟨dx,fs,ha,hl⟩:=hr.cls told_nm
  exact ⟨a,dx,fs,_,_,rfl,ha,tblT_mem r,hl,a,r,rfl,hr,rfl,hd,hw,hs,q⟩
theorem emp_app (x:Str):Str.empty++x=x:=Str.ext' (by rw [Str.cps_append];exact Array.empty_append)
theorem Rl.sh_yes {r:Rl} {n:Nat} (h:r.lvl < n):Str.ofString "( "++r.txt++Str.ofString " )"=r.sh n:=by unfold Rl.sh;rw [if_pos h]
theorem Rl.sh_no {r:Rl} {n:Nat} (h:¬ r.lvl < n):r.txt=r.sh n:=by unfold Rl.sh;rw [if_neg h]
theorem mok_of {P:Program} {w:World} {K:PySem.W.Frag} {mg:Str->Option Value} {base:Heap} {cs:Nat->Addr} {k n:Nat} {m:Str} (h:∀ i,i < 9->∃ f fd ps,Cls K (cs i)/\Meth K (cs i) m f/\FnOk P w K mg base CX0 k f fd ps (spOf K (asp_told cs n i))/\Binds K fd ps []):MOk P w K mg base CX0 k m ((tblT cs n).map fun p=>(p.1,spOf K p.2)):=fun C sp hin=>by
  obtain ⟨p,hp,e⟩:=List.mem_map.mp hin
  obtain ⟨i,hi,e2⟩:=List.mem_map.mp hp
  subst e2
  cases e
  exact h i (List.mem_range.mp hi)
theorem Rl.dep_pos (r:Rl):1<=r.dep:=by cases r <;> simp only [Rl.dep] <;> lia
theorem told0 {cs:Nat->Addr} {i:Nat}:∀ us A Q,¬ asp_told cs 0 i us A Q:=fun us A Q hq0=>by obtain ⟨_,r,_,_,_,h,_⟩:=hq0;have:=r.dep_pos;lia
end L2
namespace L2
open PySem PySem.Spec PyProof.Rows
noncomputable def Wst (C dx p wa:Addr) (B:AHp) (n:Nat):AHp:=updA B wa (.ins C dx [("words",.ref p),("at",.int n)])
structure Wok (B:AHp) (wa p:Addr) (ts:List Str):Prop where
  no:B wa=none
  ws:B p=some (.lst (ts.map U.str))
  ln:ts.length<=1000
theorem Wok.ext {B B':AHp} {wa p:Addr} {ts:List Str} (h:Wok B wa p ts) (e:Ext B B') (hn:B' wa=none):Wok B' wa p ts:=⟨hn,e _ _ h.ws,h.ln⟩
variable {C dx p wa:Addr} {B:AHp} {ts:List Str} {n:Nat}
theorem Wok.ok (h:Wok B wa p ts) (hn:n<=ts.length):WdOk C (Wst C dx p wa B n) wa p ts n:=⟨⟨dx,updA_same⟩,by unfold Wst;rw [updA_ne (neA h.ws h.no)];exact h.ws,hn⟩
theorem Wst.put {m:Nat}:updA (Wst C dx p wa B n) wa (.ins C dx [("words",.ref p),("at",.int m)])=Wst C dx p wa B m:=updA_updA
theorem Wst.at_:Wst C dx p wa B n wa=some (.ins C dx [("words",.ref p),("at",.int n)]):=updA_same
theorem Wst.new {x:Addr} (h:Wst C dx p wa B n x=none):x≠wa/\B x=none/\∀ o,updA (Wst C dx p wa B n) x o=Wst C dx p wa (updA B x o) n:=by
  have e:x≠wa:=fun e=>by rw [e,Wst.at_] at h;cases h
  refine ⟨e,?_,fun o=>updA_swap (Ne.symm e)⟩
  unfold Wst at h
  rwa [updA_ne e] at h
theorem Wst.mv {x:Addr} {o:AO} (h:x≠wa):updA (Wst C dx p wa B n) x o=Wst C dx p wa (updA B x o) n:=updA_swap (Ne.symm h)
theorem Wst.get {x:Addr} (h:x≠wa):Wst C dx p wa B n x=B x:=updA_ne h
theorem Wst.ext (h:B wa=none):Ext B (Wst C dx p wa B n):=Ext.new h
noncomputable def posA (A:AHp) (wa:Addr):Nat:=match A wa with
  | some (.ins _ _ [_,(_,.int m)])=>m.toNat
  | _=>0
theorem posA_st:posA (Wst C dx p wa B n) wa=n:=by unfold posA;rw [Wst.at_];rfl
theorem dr1 {x:Str} {r:List Str} (h:ts.drop n=x::r):ts[n]? = some x/\ts.drop (n + 1)=r/\n < ts.length:=by
  have hl:n < ts.length:=by
    rcases Nat.lt_or_ge n ts.length with g | g
    . exact g
    . rw [List.drop_eq_nil_of_le g] at h;cases h
  rw [List.drop_eq_getElem_cons hl] at h
  injection h with h1 h2
  exact ⟨by rw [List.getElem?_eq_getElem hl,h1],h2,hl⟩
theorem dr0 {r:List Str} (h:ts.drop n=r) (hn:n<=ts.length):ts[n]? = r.head?:=by
  rw [<- h,List.head?_drop]
theorem drA {a r:List Str} (h:ts.drop n=a++r):ts.drop (n + a.length)=r:=by
  rw [<- List.drop_drop,h,List.drop_left]
theorem drL {a r:List Str} (h:ts.drop n=a++r) (hn:n<=ts.length):n + a.length<=ts.length:=by
  have:=congrArg List.length h
  rw [List.length_drop,List.length_append] at this
  lia
theorem drN {a r:List Str} (h:ts.drop n=a++r) (ha:a≠[]):n<=ts.length:=by
  rcases Nat.lt_or_ge ts.length n with g | g
  . rw [List.drop_eq_nil_of_le (Nat.le_of_lt g)] at h
    exact absurd (List.append_eq_nil_iff.mp h.symm).1 ha
  . exact g
noncomputable def Flw (l:Nat) (r:List Str):Prop:=(l<=1->r.head?≠some ("by":Str))/\(l=0->r.head?≠some ("or":Str))
theorem hd_ne {x y:Str} {r:List Str} (h:x≠y):(x::r).head?≠some y:=fun e=>h (by injection e)
theorem foldBy {l:List (Rl × List Str)}:∀ {x:Rl},(l.foldl (fun r p=>Rl.by_ r p.1) x).wd=true->x.wd=true/\∀ p∈l,p.1.wd=true:=by
  induction l with
  | nil=>exact fun h=>⟨h,by simp⟩
  | cons q l ih =>
    intro x h
    obtain ⟨h1,h2⟩:=ih (x:=.by_ x q.1) h
    simp only [Rl.wd,Bool.and_eq_true] at h1
    exact ⟨h1.1,fun p hp=>(List.mem_cons.mp hp).elim (fun e=>by rw [e];exact h1.2) (h2 p)⟩
theorem foldOr {l:List (Rl × List Str)}:∀ {x:Rl},(l.foldl (fun r p=>Rl.or r p.1) x).wd=true->x.wd=true/\∀ p∈l,p.1.wd=true:=by
  induction l with
  | nil=>exact fun h=>⟨h,by simp⟩
  | cons q l ih =>
    intro x h
    obtain ⟨h1,h2⟩:=ih (x:=.or x q.1) h
    simp only [Rl.wd,Bool.and_eq_true] at h1
    exact ⟨h1.1,fun p hp=>(List.mem_cons.mp hp).elim (fun e=>by rw [e];exact h1.2) (h2 p)⟩
theorem foldHd {x:Rl}:∀ {ks:List Nat},(ks.foldr (fun k r=>Rl.hold k r) x).wd=true->x.wd=true
  | [],h=>h
  | _::ks,h=>foldHd (ks:=ks) h
noncomputable def asp_passB (C:Addr):ASp:=fun us A Q=>∃ (wa dx p:Addr) (B:AHp) (ts:List Str) (n:Nat) (z:Str),us=[.ref wa,.str z]/\A=Wst C dx p wa B n/\Wok B wa p ts/\n<=ts.length/\(ts[n]?≠some z->Q (.bl false) A)/\(ts[n]? = some z->Q (.bl true) (Wst C dx p wa B (n + 1)))
noncomputable def asp_aheadB (C:Addr) (o:Option Str->U):ASp:=fun us A Q=>∃ (wa dx p:Addr) (B:AHp) (ts:List Str) (n:Nat),us=[.ref wa]/\A=Wst C dx p wa B n/\Wok B wa p ts/\n<=ts.length/\Q (o ts[n]?) A
noncomputable def asp_needB (C:Addr):ASp:=fun us A Q=>∃ (wa dx p:Addr) (B:AHp) (ts:List Str) (n:Nat) (z:Str),us=[.ref wa,.str z]/\A=Wst C dx p wa B n/\Wok B wa p ts/\ts[n]? = some z/\Q .non (Wst C dx p wa B (n + 1))
noncomputable def asp_freeB (C:Addr):ASp:=fun us A Q=>∃ (wa dx p:Addr) (B:AHp) (ts:List Str) (n:Nat) (z:Str),us=[.ref wa]/\A=Wst C dx p wa B n/\Wok B wa p ts/\ts[n]? = some z/\wdB z=true/\Q (.str z) (Wst C dx p wa B (n + 1))
noncomputable def asp_rd (cs:Nat->Addr) (C:Addr) (d l:Nat):ASp:=fun us A Q=>∃ (wa dx p:Addr) (B:AHp) (ts:List Str) (n:Nat) (r:Rl) (a rest:List Str) (e:Nat),us=[.ref wa]/\A=Wst C dx p wa B n/\Wok B wa p ts/\ts.drop n=a++rest/\e < d/\Wd e l r a/\r.wd=true/\Flw l rest /\
  ∀ B' b,Ext B B'->B' wa=none->RlO cs B' b r->Q (.ref b) (Wst C dx p wa B' (n + a.length))
noncomputable def Pf (d:Nat) (x:Rl) (a:List Str):Prop:=x=.nothing/\a=[("nothing":Str)]\/(∃ c,x=.bead c/\a=[("bead":Str),c])\/(∃ c,x=.named c/\a=[c])\/∃ e b,e < d/\Wd e 0 x b/\a=("(":Str)::(b++[(")":Str)])
noncomputable def asp_pf (cs:Nat->Addr) (C:Addr) (d:Nat):ASp:=fun us A Q=>∃ (wa dx p:Addr) (B:AHp) (ts:List Str) (n:Nat) (r:Rl) (a rest:List Str),us=[.ref wa]/\A=Wst C dx p wa B n/\Wok B wa p ts/\ts.drop n=a++rest/\Pf d r a/\r.wd=true /\
  ∀ B' b,Ext B B'->B' wa=none->RlO cs B' b r->Q (.ref b) (Wst C dx p wa B' (n + a.length))
noncomputable def asp_held (cs:Nat->Addr):ASp:=fun us A Q=>∃ (k:Nat) (a:Addr),us=[.str (mname k),.ref a]/\∀ b dx,A b=none->Q (.ref b) (updA A b (.ins (cs (5 + min k 3)) dx [("part",.ref a)]))
noncomputable def asp_rr (cs:Nat->Addr) (d:Nat):ASp:=fun us A Q=>∃ (r:Rl) (a:List Str) (e:Nat),us=[.str (Txt.join blk a)]/\e < d/\Wd e 0 r a/\r.wd=true/\a.length<=1000/\∀ B b,Ext A B->RlO cs B b r->Q (.ref b) B
theorem rd0 {cs:Nat->Addr} {C:Addr} {l:Nat}:∀ us A Q,¬ asp_rd cs C 0 l us A Q:=fun us A Q ⟨_,_,_,_,_,_,_,_,_,_,_,_,_,_,h,_⟩=>absurd h (Nat.not_lt_zero _)
theorem spOf_imp {K:PySem.W.Frag} {asp asp':ASp} (h:∀ us A Q,asp' us A Q->asp us A Q):∀ vs H Q E,spOf K asp' vs H Q E->spOf K asp vs H Q E:=fun vs H Q E ⟨us,A,Q',r,g,a,k⟩=>⟨us,A,Q',r,g,h _ _ _ a,k⟩
theorem wd_not {c z:Str} (h:wdB c=true) (hz:z∈(["nothing","bead","or","by","row","bag","choice","ring","of","left","right","(",")"]:List Str)):c≠z:=by
  rintro rfl
  have key:∀ t∈(["nothing","bead","or","by","row","bag","choice","ring","of","left","right","(",")"]:List Str),wdB t=false:=by decide +kernel
  rw [key _ hz] at h
  cases h
theorem inU_mn (k:Nat):inU (.str (mname k)) [.str "row",.str "bag",.str "choice",.str "ring"]=true:=by
  match k with
  | 0=>decide +kernel
  | 1=>decide +kernel
  | 2=>decide +kernel
  | k + 3=>exact (by decide +kernel:inU (.str (mname 3)) [.str "row",.str "bag",.str "choice",.str "ring"]=true)
theorem Pf.first {d:Nat} {x:Rl} {a:List Str} (h:Pf d x a) (hw:x.wd=true):∃ t r,a=t::r/\t ∉ (["row","bag","choice","ring"]:List Str):=by
  rcases h with ⟨_,rfl⟩ | ⟨c,_,rfl⟩ | ⟨c,rfl,rfl⟩ | ⟨e,b,_,_,rfl⟩
  . exact ⟨_,_,rfl,by decide +kernel⟩
  . exact ⟨_,_,rfl,by decide +kernel⟩
  . refine ⟨_,_,rfl,fun m=>wd_not hw ?_ rfl⟩
    have key:∀ t∈(["row","bag","choice","ring"]:List Str),t∈(["nothing","bead","or","by","row","bag","choice","ring","of","left","right","(",")"]:List Str):=by decide +kernel
    exact key _ m
  . exact ⟨_,_,rfl,by decide +kernel⟩
theorem Wd.pf {e d:Nat} {r:Rl} {a:List Str} (h:Wd e 2 r a) (he:e < d + 1):∃ (ks:List Nat) (x:Rl) (a0:List Str),a=(ks.map fun k=>[mname k,("of":Str)]).flatten++a0/\r=ks.foldr (fun k r=>.hold k r) x/\Pf d x a0:=by
  obtain ⟨ks,x,a0,h1,h2,h3⟩:=h.factor rfl
  refine ⟨ks,x,a0,h1,h2,?_⟩
  rcases h3 with h | h | h | ⟨e',b,h,g⟩
  . exact .inl h
  . exact .inr (.inl h)
  . exact .inr (.inr (.inl h))
  . exact .inr (.inr (.inr ⟨e',b,by lia,g⟩))
theorem nm_w {m:Str} (h:m ∉ (["words","at"]:List Str)) {u v:U}:List.lookup m [(("words":Str),u),(("at":Str),v)]=none:=by
  simp only [List.mem_cons,List.not_mem_nil,or_false,not_or] at h
  simp [List.lookup,beq_eq_false_iff_ne.mpr h.1,beq_eq_false_iff_ne.mpr h.2]
section
variable {z:Str} {Q:AVK}
theorem pass_n (hW:Wok B wa p ts) (hn:n<=ts.length) (hne:ts[n]?≠some z) (h:Q (.bl false) (Wst C dx p wa B n)):∃ a dx' fs,U.ref wa=.ref a/\Wst C dx p wa B n a=some (.ins C dx' fs)/\fs.lookup (Str.ofString "passed")=none/\asp_passB C [.ref wa,.str z] (Wst C dx p wa B n) Q :=
  ⟨wa,dx,_,rfl,Wst.at_,nm_w (by decide +kernel),wa,dx,p,B,ts,n,z,rfl,rfl,hW,hn,fun _=>h,fun h=>absurd h hne⟩
theorem pass_y (hW:Wok B wa p ts) (he:ts[n]? = some z) (h:Q (.bl true) (Wst C dx p wa B (n + 1))):∃ a dx' fs,U.ref wa=.ref a/\Wst C dx p wa B n a=some (.ins C dx' fs)/\fs.lookup (Str.ofString "passed")=none/\asp_passB C [.ref wa,.str z] (Wst C dx p wa B n) Q :=
  ⟨wa,dx,_,rfl,Wst.at_,nm_w (by decide +kernel),wa,dx,p,B,ts,n,z,rfl,rfl,hW,Nat.le_of_lt (List.getElem?_eq_some_iff.mp he).1,fun h=>absurd he h,fun _=>h⟩
theorem need_y (hW:Wok B wa p ts) (he:ts[n]? = some z) (h:Q .non (Wst C dx p wa B (n + 1))):∃ a dx' fs,U.ref wa=.ref a/\Wst C dx p wa B n a=some (.ins C dx' fs)/\fs.lookup (Str.ofString "need")=none/\asp_needB C [.ref wa,.str z] (Wst C dx p wa B n) Q :=
  ⟨wa,dx,_,rfl,Wst.at_,nm_w (by decide +kernel),wa,dx,p,B,ts,n,z,rfl,rfl,hW,he,h⟩
theorem free_y (hW:Wok B wa p ts) (he:ts[n]? = some z) (hz:wdB z=true) (h:Q (.str z) (Wst C dx p wa B (n + 1))):∃ a dx' fs,U.ref wa=.ref a/\Wst C dx p wa B n a=some (.ins C dx' fs)/\fs.lookup (Str.ofString "free_word")=none/\asp_freeB C [.ref wa] (Wst C dx p wa B n) Q :=
  ⟨wa,dx,_,rfl,Wst.at_,nm_w (by decide +kernel),wa,dx,p,B,ts,n,z,rfl,rfl,hW,he,hz,h⟩
theorem ahead_y {o:Option Str->U} {x:Option Str} (hW:Wok B wa p ts) (hn:n<=ts.length) (he:ts[n]? = x) (h:Q (o x) (Wst C dx p wa B n)):∃ a dx' fs,U.ref wa=.ref a/\Wst C dx p wa B n a=some (.ins C dx' fs)/\fs.lookup (Str.ofString "ahead")=none/\asp_aheadB C o [.ref wa] (Wst C dx p wa B n) Q :=
  ⟨wa,dx,_,rfl,Wst.at_,nm_w (by decide +kernel),wa,dx,p,B,ts,n,rfl,rfl,hW,hn,he ▸ h⟩
end
end L2
namespace L2
open PySem PySem.Spec PyProof.Rows
theorem mn_ne (k:Nat) {z:Str} (hz:z∈(["nothing","bead","name","or","by"]:List Str)):mname k≠z:=by
  have key:∀ t∈(["row","bag","choice","ring"]:List Str),∀ z∈(["nothing","bead","name","or","by"]:List Str),t≠z:=by decide +kernel
  refine key _ ?_ _ hz
  match k with
  | 0=>decide +kernel
  | 1=>decide +kernel
  | 2=>decide +kernel
  | k + 3=>exact (by decide +kernel:mname 3∈(["row","bag","choice","ring"]:List Str))
theorem xint_sub0 {b:Bool} {A:AHp} {Q:AVK} (hb:b=false) (h:Q (.int 2) A):xInt [.bl b] A fun y A2=>xI (fun i j=>U.int (i - j)) (.int 2) y A2 Q:=by subst hb;exact h
theorem xint_sub1 {b:Bool} {A:AHp} {Q:AVK} (hb:b=true) (h:Q (.int 1) A):xInt [.bl b] A fun y A2=>xI (fun i j=>U.int (i - j)) (.int 2) y A2 Q:=by subst hb;exact h
noncomputable def asp_binds:ASp:=fun us A Q=>∃ r:Rl,us=[r.toU]/\Q (.int r.lvl) A
noncomputable def asp_lshut (n:Nat):ASp:=fun us A Q=>∃ (r:Rl) (l:Nat),us=[r.toU,.int l]/\r.dep<=n/\r.wd=true/\r.size<=100/\Q (.str (r.sh l)) A
noncomputable def asp_ltext (n:Nat):ASp:=fun us A Q=>∃ r:Rl,us=[r.toU]/\r.dep<=n/\r.wd=true/\r.size<=100/\Q (.str r.txt) A
noncomputable def asp_lobj (cs:Nat->Addr) (n:Nat):ASp:=fun us A Q=>∃ r:Rl,us=[r.toU]/\r.dep<=n/\∀ B b,Ext A B->RlO cs B b r->Q (.ref b) B
theorem ltext0:∀ us A Q,¬ asp_ltext 0 us A Q:=fun us A Q hq0=>by obtain ⟨r,_,h,_⟩:=hq0;have:=r.dep_pos;lia
theorem lobj0 {cs:Nat->Addr}:∀ us A Q,¬ asp_lobj cs 0 us A Q:=fun us A Q hq0=>by obtain ⟨r,_,h,_⟩:=hq0;have:=r.dep_pos;lia
end L2
namespace L2
open PySem PySem.Spec PyProof.Rows
noncomputable def bB (z:Bool):Value->Bool
  | .bool b=>b == z
  | _=>false
theorem vals_bl {bs:List Bool} {its:List Value} (r:Vals (bs.map V.bl) its) {i:Nat} {u:Value} (hu:its[i]? = some u):∃ b,bs[i]? = some b/\u=.bool b:=by
  have hl:=r.length
  rw [List.length_map] at hl
  have hi:i < its.length:=(List.getElem?_eq_some_iff.mp hu).1
  obtain ⟨v,hv,rv⟩:=r.get (i:=i) (x:=V.bl (bs[i]'(by lia))) (by rw [List.getElem?_map,List.getElem?_eq_getElem (by lia)];rfl)
  rw [hu] at hv
  cases hv
  exact ⟨_,List.getElem?_eq_getElem (by lia),rv⟩
noncomputable def rIdxB:V->List V->Hp->VK->Prop:=fun x vs H Q=>∃ (a:Addr) (bs:List Bool) (z:Bool) (j:Nat),x=.ref a/\H a=some (.lst (bs.map V.bl))/\vs=[.bl z]/\bs[j]? = some z/\(∀ m,m < j->bs[m]?≠some z)/\Q (.int j) H
theorem mt_idxB {X:Cx}:MtR X "list.index" rIdxB:=by
  intro pins s σ H x vs v us Q I rx rv h
  obtain ⟨a,bs,z,j,rfl,hH,rfl,hj,hno,q⟩:=h
  cases rx
  obtain ⟨u,rfl,ru⟩:=rv.one
  cases ru
  obtain ⟨zz,its,n,r,hl,e⟩:=I.lstM hH
  have hl2:=r.length
  rw [List.length_map] at hl2
  have h0:j < bs.length:=(List.getElem?_eq_some_iff.mp hj).1
  have h1:∀ y,y∈its.toArray->MeetsSeq.EqGives y (.bool z) (bB z y):=fun y hy=>by
    obtain ⟨i,hi⟩:=List.mem_iff_getElem?.mp (show y∈its by simpa using hy)
    obtain ⟨b,_,rfl⟩:=vals_bl r hi
    exact fun prog w A E s Q h=>PySem.SeqAt.EqAt.bool_bool b z prog w E Q h
  have h3:bB z (its.toArray[j]'(by rw [List.size_toArray];lia))=true:=by
    obtain ⟨b,h1,h2⟩:=vals_bl r (i:=j) (u:=its[j]'(by lia)) (List.getElem?_eq_getElem (by lia))
    rw [hj] at h1
    cases h1
    show bB z (its[j]'(by lia))=true
    rw [h2]
    exact beq_self_eq_true z
  have h4:∀ m (hm:m < its.toArray.size),m < j->bB z (its.toArray[m])=false:=fun m hm hlt=>by
    rw [List.size_toArray] at hm
    obtain ⟨b,h1,h2⟩:=vals_bl r (i:=m) (u:=its[m]) (List.getElem?_eq_getElem hm)
    show bB z its[m]=false
    rw [h2]
    refine beq_eq_false_iff_ne.mpr fun e=>hno m hlt ?_
    rw [h1,e]
  have hj2:j < sizeLine:=by rw [<- hl2] at hl;lia
  have big:(sizeLine:Int) < 2 ^ 63 - 1:=by decide
  exact call_meets F.slot_list_index ⟨_,e,rfl⟩ F.entry_list_index (F.args_list_index_2 _ _) (MeetsSeq.list_index a its.toArray n (.bool z) (bB z) h1 j (by rw [List.size_toArray];lia) (by lia) h3 h4) ⟨e,.int j,H,I.tok _,⟨_,rfl⟩,q⟩
section
variable {K:PySem.W.Frag}
noncomputable def mIdxB:U->List U->AHp->AVK->Prop:=fun u us A Q=>∃ (a:Addr) (bs:List Bool) (z:Bool) (j:Nat),u=.ref a/\A a=some (.lst (bs.map U.bl))/\us=[.bl z]/\bs[j]? = some z/\(∀ m,m < j->bs[m]?≠some z)/\Q (.int j) A
theorem ab_idxB:AbMt K rIdxB mIdxB:=fun x u xs us A H Q' Q r rs g h k=>by
  obtain ⟨a,bs,z,j,rfl,hA,rfl,e1,e2,h⟩:=h
  obtain ⟨v,rfl,rv⟩:=rs.inv1
  cases rv
  cases r
  obtain ⟨vs,h1,r1⟩:=g.list hA
  exact ⟨a,bs,z,j,rfl,by rw [h1,r1.bls],rfl,e1,e2,k _ _ _ _ (.refl H) g (.int _) h⟩
theorem q_idxB {A:AHp} {Q:AVK} {p:Addr} {z:Bool}:mIdxB (.ref p) [.bl z] A Q=(∃ (bs:List Bool) (j:Nat),A p=some (.lst (bs.map U.bl))/\bs[j]? = some z/\(∀ m,m < j->bs[m]?≠some z)/\Q (.int j) A):=propext ⟨fun hq0=>by obtain ⟨_,bs,_,j,e1,h1,e2,h⟩:=hq0;cases e1;cases e2;exact ⟨bs,j,h1,h⟩,fun ⟨bs,j,h1,h⟩=>⟨p,bs,z,j,rfl,h1,rfl,h⟩⟩
end
end L2
namespace L2
open PySem PySem.Spec PyProof.Rows
theorem eqS1 {A:AHp} {Q:AVK} {x:Str} (hx:PyData.strOk x=true) (h:Q (.bl true) A):xDeep false (.tup [.str x]) (.tup [.str x]) A Q:=by
  refine ⟨.tuple [.str x],.tuple [.str x],.tup (.cons (.str _) .nil),.tup (.cons (.str _) .nil),?_,?_,?_,?_⟩
  . simp only [PyData.canLay0,PyData.canLayAll0,hx,Bool.and_true]
  . simp only [PyData.canLay0,PyData.canLayAll0,hx,Bool.and_true]
  . simp [PyData.depth,PyData.depthAll]
  . rw [if_neg (by decide)]
    have:PyData.eqv (.tuple [.str x]) (.tuple [.str x])=true:=by simp [PyData.eqv,PyData.eqvAll]
    rw [this];exact h
theorem eqS2 {A:AHp} {Q:AVK} {x y:Str} (hx:PyData.strOk x=true) (hy:PyData.strOk y=true) (h:Q (.bl true) A):xDeep false (.tup [.str x,.str y]) (.tup [.str x,.str y]) A Q:=by
  refine ⟨.tuple [.str x,.str y],.tuple [.str x,.str y],.tup (.cons (.str _) (.cons (.str _) .nil)),.tup (.cons (.str _) (.cons (.str _) .nil)),?_,?_,?_,?_⟩
  . simp only [PyData.canLay0,PyData.canLayAll0,hx,hy,Bool.and_true]
  . simp only [PyData.canLay0,PyData.canLayAll0,hx,hy,Bool.and_true]
  . simp [PyData.depth,PyData.depthAll]
  . rw [if_neg (by decide)]
    have:PyData.eqv (.tuple [.str x,.str y]) (.tuple [.str x,.str y])=true:=by simp [PyData.eqv,PyData.eqvAll]
    rw [this];exact h
theorem if_noE {c:AT} {t e:AS} {D:AEnds} {ρ:ASt} {A:AHp} (h1:∀ B:Bool->AHp->Prop,(∀ A',Ext A A'->B false A')->c ρ A B) (h2:∀ A',Ext A A'->e D ρ A'):aIfH c t e D ρ A:=h1 _ fun A' eA=>iteN Bool.false_ne_true (h2 A' eA)
theorem mn_at {j:Nat} (hj:j<=3):atI [U.str "row",U.str "bag",U.str "choice",U.str "ring"] (j:Int)=some (.str (mname j)):=by
  rcases j with _ | _ | _ | _ | j <;> first | rfl | lia
theorem bs_at {j:Nat} (hj:j<=3):[j == 0,j == 1,j == 2,j == 3][j]? = some true/\∀ m,m < j->[j == 0,j == 1,j == 2,j == 3][m]?≠some true:=by
  rcases j with _ | _ | _ | _ | j
  . exact ⟨rfl,by decide⟩
  . exact ⟨rfl,by decide⟩
  . exact ⟨rfl,by decide⟩
  . exact ⟨rfl,by decide⟩
  . lia
theorem bs_get {j k:Nat} {u:U} (h:[U.bl (j == 0),U.bl (j == 1),U.bl (j == 2),U.bl (j == 3)][k]? = some u):u=.bl (j == k):=by
  rcases k with _ | _ | _ | _ | k <;> first | (injection h with h;exact h.symm) | (simp at h)
theorem one_len {j:Nat} (hj:j<=3):((List.range 4).filter fun i=>j == i).length=1:=by
  rcases j with _ | _ | _ | _ | j <;> first | rfl | lia
noncomputable def asp_like (cs:Nat->Addr) (n:Nat):ASp:=fun us A Q=>∃ (a:Addr) (r:Rl),us=[.ref a,r.toU]/\RlO cs A a r/\r.dep<=n/\r.wd=true/\Q (.bl true) A
noncomputable def asp_shows (cs:Nat->Addr) (n:Nat):ASp:=fun us A Q=>∃ (a:Addr) (r:Rl),us=[.ref a,.str r.txt]/\RlO cs A a r/\r.dep<=n/\r.wd=true/\r.size<=100/\Q (.bl true) A
noncomputable def asp_wide (n:Nat):ASp:=fun us A Q=>∃ (r:Rl) (c:Addr) (ns:List Int) (l:Nat),us=[r.toU,.ref c,.int l]/\A c=some (.lst (ns.map U.int))/\r.dep<=n/\r.wd=true/\r.size<=100/\∀ (ns':List Int) (ts:List Str),Wd r.dep l r ts->ts.length<=4 * r.size->Q (.str (Txt.join blk ts)) (updA A c (.lst (ns'.map U.int)))
theorem wide0:∀ us A Q,¬ asp_wide 0 us A Q:=fun us A Q hq0=>by obtain ⟨r,_,_,_,_,_,h,_⟩:=hq0;have:=r.dep_pos;lia
noncomputable def Bare (r:Rl) (ts:List Str):Prop:=(∀ m,m<=r.lvl->Wd (r.dep - 1) m r ts)/\ts.length + 2<=4 * r.size
theorem Bare.one {r:Rl} (h:r.dep=1):Bare r r.tk:=by
  refine ⟨fun m hm=>?_,r.tk_len⟩
  cases r with
  | nothing=>exact .nothing
  | bead c=>exact .bead
  | named c=>exact .named
  | or x y=>have:=x.dep_pos;simp only [Rl.dep] at h;lia
  | by_ x y=>have:=x.dep_pos;simp only [Rl.dep] at h;lia
  | hold k x=>have:=x.dep_pos;simp only [Rl.dep] at h;lia
theorem Bare.or {x y:Rl} {a b:List Str} (h1:Wd x.dep 0 x a) (h2:Wd y.dep 1 y b) (l1:a.length<=4 * x.size) (l2:b.length<=4 * y.size):Bare (.or x y) (a++(("or":Str)::b)):=by
  refine ⟨fun m hm=>?_,by simp only [Rl.size,List.length_append,List.length_cons];lia⟩
  cases Nat.le_zero.mp hm
  exact .or (h1.up (by simp only [Rl.dep];lia)) (h2.up (by simp only [Rl.dep];lia))
theorem Bare.by {x y:Rl} {a b:List Str} (h1:Wd x.dep 1 x a) (h2:Wd y.dep 2 y b) (l1:a.length<=4 * x.size) (l2:b.length<=4 * y.size):Bare (.by_ x y) (a++(("by":Str)::b)) :=
  ⟨fun m hm=>.by_ hm (h1.up (by simp only [Rl.dep];lia)) (h2.up (by simp only [Rl.dep];lia)),by simp only [Rl.size,List.length_append,List.length_cons];lia⟩
theorem Bare.hold {k:Nat} {x:Rl} {a:List Str} (h1:Wd x.dep 2 x a) (l1:a.length<=4 * x.size):Bare (.hold k x) (mname k::"of"::a) :=
  ⟨fun m hm=>.hold (h1.up (by simp only [Rl.dep];lia)),by simp only [Rl.size,List.length_cons];lia⟩
theorem Bare.shut {r:Rl} {ts:List Str} (h:Bare r ts) (l:Nat):Wd r.dep l r (("(":Str)::(ts++[(")":Str)]))/\(("(":Str)::(ts++[(")":Str)])).length<=4 * r.size:=by
  have hp:=r.dep_pos
  have:=Wd.par (n:=l) (h.1 0 (Nat.zero_le _))
  rw [show r.dep - 1 + 1=r.dep by lia] at this
  exact ⟨this,by have:=h.2;simp only [List.length_cons,List.length_append,List.length_nil];lia⟩
theorem Bare.open {r:Rl} {ts:List Str} (h:Bare r ts) {l:Nat} (hl:¬ r.lvl < l):Wd r.dep l r ts/\ts.length<=4 * r.size:=⟨(h.1 l (by lia)).up (by lia),by have:=h.2;lia⟩
theorem join_par {ts:List Str} (h:ts≠[]):Str.ofString "( "++Txt.join blk ts++Str.ofString " )"=Txt.join blk (("(":Str)::(ts++[(")":Str)])):=by
  rw [join_cons (by simp),join_app h (by simp),join_one,show Str.ofString "( "=Str.ofString "("++blk from by decide +kernel,show Str.ofString " )"=blk++Str.ofString ")" from by decide +kernel]
  simp only [L2.Str.app_assoc]
theorem Bare.ne {r:Rl} {ts:List Str} (h:Bare r ts):ts≠[]:=(h.1 0 (Nat.zero_le _)).ne
theorem Bare.len {r:Rl} {ts:List Str} (h:Bare r ts) (hw:r.wd=true):(Txt.join blk ts).length + 18<=36 * r.size:=by
  have h1:=(h.1 0 (Nat.zero_le _)).len hw
  have:=h.2
  lia
theorem join_or {a b:List Str} (ha:a≠[]) (hb:b≠[]):Txt.join blk a++Str.ofString " or "++Txt.join blk b=Txt.join blk (a++(("or":Str)::b)):=by
  rw [txt_mid ha hb,show Str.ofString " or "=blk++Str.ofString "or"++blk from by decide +kernel]
theorem join_by {a b:List Str} (ha:a≠[]) (hb:b≠[]):Txt.join blk a++Str.ofString " by "++Txt.join blk b=Txt.join blk (a++(("by":Str)::b)):=by
  rw [txt_mid ha hb,show Str.ofString " by "=blk++Str.ofString "by"++blk from by decide +kernel]
theorem join_hold {k:Nat} {b:List Str} (hb:b≠[]):mname k++Str.ofString " of "++Txt.join blk b=Txt.join blk (mname k::"of"::b):=by
  rw [show Str.ofString " of "=blk++Str.ofString "of"++blk from by decide +kernel]
  exact ((txt_mid (a:=[mname k]) (by simp) hb).trans (by rw [join_one])).symm
theorem or_go {v l:Nat} {b:Bool} {A:AHp} {B:Bool->AHp->Prop} (hB:B (decide (v < l) || b) A):if decide ((v:Int) < (l:Int))=true then B true A else (0:Int) < 3/\B b A:=by
  by_cases h:v < l
  . rw [decide_eq_true h] at hB
    exact iteTt (decide_eq_true (by lia)) hB
  . rw [decide_eq_false h] at hB
    exact iteFf (decide_eq_false (by lia)) ⟨by decide,hB⟩
theorem like0 {cs:Nat->Addr}:∀ us A Q,¬ asp_like cs 0 us A Q:=fun us A Q hq0=>by obtain ⟨_,r,_,_,h,_⟩:=hq0;have:=r.dep_pos;lia
end L2
namespace L2
open PySem PySem.Spec PyProof.Rows
noncomputable def stU (r:Rl):U:=.tup [r.toU,.int r.size,.int r.dep]
theorem stU_or {x y:Rl}:U.tup [.tup [.str "or",x.toU,y.toU],.int ((x.size:Int) + (y.size:Int) + 1),.int (1 + max (x.dep:Int) (y.dep:Int))]=stU (.or x y):=by
  have h1:((Rl.or x y).size:Int)=(x.size:Int) + (y.size:Int) + 1:=by simp only [Rl.size];lia
  have h2:((Rl.or x y).dep:Int)=1 + max (x.dep:Int) (y.dep:Int):=by simp only [Rl.dep];lia
  unfold stU
  rw [h1,h2]
  rfl
theorem stU_by {x y:Rl}:U.tup [.tup [.str "by",x.toU,y.toU],.int ((x.size:Int) + (y.size:Int) + 1),.int (1 + max (x.dep:Int) (y.dep:Int))]=stU (.by_ x y):=by
  have h1:((Rl.by_ x y).size:Int)=(x.size:Int) + (y.size:Int) + 1:=by simp only [Rl.size];lia
  have h2:((Rl.by_ x y).dep:Int)=1 + max (x.dep:Int) (y.dep:Int):=by simp only [Rl.dep];lia
  unfold stU
  rw [h1,h2]
  rfl
theorem stU_hold {k:Nat} {x:Rl}:U.tup [.tup [.str (mname k),x.toU],.int ((x.size:Int) + 1),.int ((x.dep:Int) + 1)]=stU (.hold k x):=by
  have h1:((Rl.hold k x).size:Int)=(x.size:Int) + 1:=by simp only [Rl.size];lia
  have h2:((Rl.hold k x).dep:Int)=(x.dep:Int) + 1:=by simp only [Rl.dep];lia
  unfold stU
  rw [h1,h2]
  rfl
theorem q_st0 {r:Rl} {A:AHp} {Q:AVK}:xIx (stU r) (.int 0) A Q=Q r.toU A:=propext ⟨fun hq0=>by obtain ⟨_,e,h⟩:=hq0;cases e;exact h,fun h=>⟨_,rfl,h⟩⟩
theorem q_st1 {r:Rl} {A:AHp} {Q:AVK}:xIx (stU r) (.int 1) A Q=Q (.int r.size) A:=propext ⟨fun hq0=>by obtain ⟨_,e,h⟩:=hq0;cases e;exact h,fun h=>⟨_,rfl,h⟩⟩
theorem q_st2 {r:Rl} {A:AHp} {Q:AVK}:xIx (stU r) (.int 2) A Q=Q (.int r.dep) A:=propext ⟨fun hq0=>by obtain ⟨_,e,h⟩:=hq0;cases e;exact h,fun h=>⟨_,rfl,h⟩⟩
theorem last2 {α:Type} {ws:List α} (h:1 < ws.length):∃ ws0 x y,ws=ws0++[x]++[y]:=by
  rcases List.eq_nil_or_concat ws with rfl | ⟨a,b,rfl⟩
  . exact absurd h (by simp)
  . rcases List.eq_nil_or_concat a with rfl | ⟨c,d,rfl⟩
    . exact absurd h (by simp)
    . exact ⟨c,d,b,by simp⟩
theorem last1 {α:Type} {ws:List α} (h:0 < ws.length):∃ ws0 x,ws=ws0++[x]:=by
  rcases List.eq_nil_or_concat ws with rfl | ⟨a,b,rfl⟩
  . exact absurd h (by simp)
  . exact ⟨a,b,by simp⟩
theorem op_at {k:Int} (h:k=6\/k=7) {x y:Rl}:∃ (z:Str) (r:Rl),atI [U.str "or",U.str "by"] (k - 6)=some (.str z)/\U.tup [.tup [.str z,x.toU,y.toU],.int ((x.size:Int) + (y.size:Int) + 1),.int (1 + max (x.dep:Int) (y.dep:Int))]=stU r/\r.wd=(x.wd && y.wd):=by
  rcases h with rfl | rfl
  . exact ⟨_,_,rfl,stU_or,rfl⟩
  . exact ⟨_,_,rfl,stU_by,rfl⟩
theorem mn_atI {k:Int} (h0:0<=k) (h3:k < 4):∃ j:Nat,atI [U.str "row",U.str "bag",U.str "choice",U.str "ring"] k=some (.str (mname j)):=by
  obtain ⟨j,rfl⟩:∃ j:Nat,k=j:=⟨k.toNat,by lia⟩
  exact ⟨j,mn_at (by lia)⟩
theorem upd_ov {A:AHp} {x p:Addr} {o u v:AO} (h:updA A x o p=none):A p=none/\updA (updA (updA A x o) p u) x v=updA (updA A p u) x v/\updA (updA A x o) p u x=some o:=by
  have hne:p≠x:=fun e=>by rw [e,updA_same] at h;cases h
  refine ⟨by rwa [updA_ne hne] at h,?_,by rw [updA_ne (Ne.symm hne),updA_same]⟩
  funext b
  unfold updA
  by_cases e:b=x
  . rw [if_pos e,if_pos e]
  . rw [if_neg e,if_neg e,if_neg e]
noncomputable def wdR (ws:List Rl):Prop:=∀ r∈ws,r.wd=true
noncomputable def totR (ws:List Rl):Nat:=(ws.map Rl.size).sum + ws.length
theorem totR_app (a b:List Rl):totR (a++b)=totR a + totR b:=by unfold totR;simp only [List.map_append,List.sum_append,List.length_append];lia
theorem totR_one (r:Rl):totR [r]=r.size + 1:=by simp [totR]
theorem len_tot (ws:List Rl):ws.length<=totR ws:=by unfold totR;lia
theorem sum_cast (ws:List Rl):(ws.map fun r=>(r.size:Int)).sum=((ws.map Rl.size).sum:Nat):=by
  induction ws with
  | nil=>rfl
  | cons r ws ih=>simp only [List.map_cons,List.sum_cons,ih];lia
noncomputable def asp_total:ASp:=fun us A Q=>∃ (a:Addr) (ws:List Rl),us=[.ref a]/\A a=some (.lst (ws.map stU))/\ws.length<=100/\Q (.int ((totR ws:Int) - 1)) A
noncomputable def asp_op:ASp:=fun us A Q=>∃ (a:Addr) (z:Int) (ws:List Rl),us=[.ref a,.int z]/\A a=some (.lst (ws.map stU))/\wdR ws/\ws.length<=90/\∀ (ws0:List Rl) (r:Rl),ws0 <+: ws->r.wd=true->(ws=[]->r.size=1/\r.dep=1)->Q .non (updA A a (.lst ((ws0++[r]).map stU)))
noncomputable def asp_tree:ASp:=fun us A Q=>∃ (a:Addr) (ns:List Int),us=[.ref a]/\A a=some (.lst (ns.map U.int))/\1<=ns.length/\ns.length<=60/\∀ r:Rl,r.wd=true->r.dep<=30->r.size<=60->Q r.toU A
end L2
namespace My
open PySem L2
local macro_rules | `(tactic| walk_at "qd") => do
  let ls <- ("q_var0 q_nm0 q_get0 q_varS q_nmS q_getS q_c q_op q_un q_tb q_bl q_int q_and q_or q_not q_andv q_true q_nil q_cons q_const q_tup q_lst q_cb q_call q_nopart q_part q_sl q_bm0 q_bm q_next q_seq q_drop q_ret q_ifs q_asg q_par q_two q_for q_jof q_jargs q_ylr q_ylo q_yt q_ys q_yr1 q_yer q_yeo q_yet q_jrev q_comp q_gtup q_gcons q_gnil q_addi q_adds q_addt q_addr q_xi q_xi2 q_mul q_rep q_lti q_lts q_eqi q_eqs q_eqb q_eqt q_eqr q_eqtn q_eqnt q_eqnn q_eqns q_eqsn q_nei q_nes q_neb q_net q_ner q_netn q_nent q_nenn q_nens q_nesn q_isn q_notn q_int_ q_inr_ q_ins_ q_ixs q_ix0 q_ix1 q_ix2 q_ixo q_ixr q_sls q_slt1 q_slo q_slr q_lens q_lent q_leno q_lenr q_min2 q_max2 q_minl q_maxl q_sum q_all q_lot q_loo q_lor q_tot q_tor q_xint q_isl q_ist q_app q_pop q_neg q_tru q_trul q_trut q_trub q_isi q_ysr q_yso q_yst q_yesr q_yeso q_yest q_pop0 q_join q_split q_isStr q_no q_inDC q_ixDC q_fld q_sfld q_saug q_meth q_make q_raddi q_isCs q_idxB q_mk0 q_methD q_isC q_jnil q_jcons q_fmt q_fs".splitOn " ").toArray.mapM fun s => `(Lean.Parser.Tactic.simpLemma| ↓$(Lean.mkIdent (.mkSimple s)):ident)
  `(tactic| (try simp only [$ls,*,List.set_cons_zero,List.set_cons_succ,List.cons_append,List.nil_append]))
local macro_rules | `(tactic| walk_at "qg") => `(tactic| (walk_at "qd"; (try simp only [↓q_ixt, ↓q_slt]); walk_at "qd"))
local macro_rules | `(tactic| walk_at "qs") => `(tactic| (simp only [L2.aStart, List.map_cons, List.map_nil, List.length_cons, List.length_nil, List.replicate, List.cons_append, List.nil_append, Nat.reduceAdd, Nat.reduceSub]))
local macro_rules | `(tactic| walk_at "qc") => `(tactic| (try simp only [L2.aCompStart, List.replicate, List.map_cons, List.map_nil, List.getElem?_cons_zero, List.getElem?_cons_succ, Option.join_some, List.cons_append, List.nil_append]))
noncomputable def top (i:Nat):Stmt:=PySem.Challenge.pw_figurebook_k02_whole_rules_shown_and_rea.main.body.getD i (.Pass ⟨0,0,0,0⟩)
noncomputable abbrev s__wall:Stmt:=top 0
noncomputable abbrev s_NoText___init__:Stmt:=inClass (top 3) 0
noncomputable abbrev s_Rule_inside:Stmt:=inClass (top 5) 0
noncomputable abbrev s_Rule_names:Stmt:=inClass (top 5) 1
noncomputable abbrev s_Nothing_told:Stmt:=inClass (top 6) 0
noncomputable abbrev s_Bead___init__:Stmt:=inClass (top 7) 0
noncomputable abbrev s_Bead_told:Stmt:=inClass (top 7) 1
noncomputable abbrev s_Or___init__:Stmt:=inClass (top 8) 0
noncomputable abbrev s_Or_inside:Stmt:=inClass (top 8) 1
noncomputable abbrev s_Or_told:Stmt:=inClass (top 8) 2
noncomputable abbrev s_By___init__:Stmt:=inClass (top 9) 0
noncomputable abbrev s_By_inside:Stmt:=inClass (top 9) 1
noncomputable abbrev s_By_told:Stmt:=inClass (top 9) 2
noncomputable abbrev s_Row___init__:Stmt:=inClass (top 10) 0
noncomputable abbrev s_Row_inside:Stmt:=inClass (top 10) 1
noncomputable abbrev s_Row_told:Stmt:=inClass (top 10) 2
noncomputable abbrev s_Bag___init__:Stmt:=inClass (top 11) 0
noncomputable abbrev s_Bag_inside:Stmt:=inClass (top 11) 1
noncomputable abbrev s_Bag_told:Stmt:=inClass (top 11) 2
noncomputable abbrev s_Choice___init__:Stmt:=inClass (top 12) 0
noncomputable abbrev s_Choice_inside:Stmt:=inClass (top 12) 1
noncomputable abbrev s_Choice_told:Stmt:=inClass (top 12) 2
noncomputable abbrev s_Ring___init__:Stmt:=inClass (top 13) 0
noncomputable abbrev s_Ring_inside:Stmt:=inClass (top 13) 1
noncomputable abbrev s_Ring_told:Stmt:=inClass (top 13) 2
noncomputable abbrev s_Named___init__:Stmt:=inClass (top 14) 0
noncomputable abbrev s_Named_names:Stmt:=inClass (top 14) 1
noncomputable abbrev s_Named_told:Stmt:=inClass (top 14) 2
noncomputable abbrev s_term_text:Stmt:=top 15
noncomputable abbrev s_factor_text:Stmt:=top 16
noncomputable abbrev s_is_word:Stmt:=top 22
noncomputable abbrev s_Words___init__:Stmt:=inClass (top 23) 0
noncomputable abbrev s_Words_ahead:Stmt:=inClass (top 23) 1
noncomputable abbrev s_Words_passed:Stmt:=inClass (top 23) 2
noncomputable abbrev s_Words_need:Stmt:=inClass (top 23) 3
noncomputable abbrev s_Words_free_word:Stmt:=inClass (top 23) 4
noncomputable abbrev s_Words_finish:Stmt:=inClass (top 23) 5
noncomputable abbrev s_read_rule:Stmt:=top 24
noncomputable abbrev s_next_rule:Stmt:=top 25
noncomputable abbrev s_next_term:Stmt:=top 26
noncomputable abbrev s_next_factor:Stmt:=top 27
noncomputable abbrev s_next_plain_factor:Stmt:=top 28
noncomputable abbrev s_held:Stmt:=top 29
noncomputable abbrev s_w_cell:Stmt:=top 31
noncomputable abbrev s_w_kept:Stmt:=top 32
noncomputable abbrev s_w_word:Stmt:=top 33
noncomputable abbrev s_w_total:Stmt:=top 34
noncomputable abbrev s_w_op:Stmt:=top 35
noncomputable abbrev s_w_tree:Stmt:=top 36
noncomputable abbrev s_w_binds:Stmt:=top 37
noncomputable abbrev s_w_shut:Stmt:=top 38
noncomputable abbrev s_w_text:Stmt:=top 39
noncomputable abbrev s_w_object:Stmt:=top 40
noncomputable abbrev s_w_wide:Stmt:=top 41
noncomputable abbrev s_w_like:Stmt:=top 42
noncomputable abbrev s_w_shows:Stmt:=top 43
noncomputable abbrev s_w_mixed:Stmt:=top 44
noncomputable abbrev s_law:Stmt:=top 45
theorem sc__wall:FnScope ["k"] ["k"] (defScope s__wall):=⟨rfl,rfl,rfl,by decide +kernel,rfl,by decide +kernel,by decide +kernel⟩
theorem sc_NoText___init__:FnScope ["self","at"] ["self","at"] (defScope s_NoText___init__):=⟨rfl,rfl,rfl,by decide +kernel,rfl,by decide +kernel,by decide +kernel⟩
theorem sc_Rule_inside:FnScope ["self"] ["self"] (defScope s_Rule_inside):=⟨rfl,rfl,rfl,by decide +kernel,rfl,by decide +kernel,by decide +kernel⟩
theorem sc_Rule_names:FnScope ["self"] ["self"] (defScope s_Rule_names):=⟨rfl,rfl,rfl,by decide +kernel,rfl,by decide +kernel,by decide +kernel⟩
theorem sc_Nothing_told:FnScope ["self"] ["self"] (defScope s_Nothing_told):=⟨rfl,rfl,rfl,by decide +kernel,rfl,by decide +kernel,by decide +kernel⟩
theorem sc_Bead___init__:FnScope ["self","colour"] ["self","colour"] (defScope s_Bead___init__):=⟨rfl,rfl,rfl,by decide +kernel,rfl,by decide +kernel,by decide +kernel⟩
theorem sc_Bead_told:FnScope ["self"] ["self"] (defScope s_Bead_told):=⟨rfl,rfl,rfl,by decide +kernel,rfl,by decide +kernel,by decide +kernel⟩
theorem sc_Or___init__:FnScope ["self","one","other"] ["self","one","other"] (defScope s_Or___init__):=⟨rfl,rfl,rfl,by decide +kernel,rfl,by decide +kernel,by decide +kernel⟩
theorem sc_Or_inside:FnScope ["self"] ["self"] (defScope s_Or_inside):=⟨rfl,rfl,rfl,by decide +kernel,rfl,by decide +kernel,by decide +kernel⟩
theorem sc_Or_told:FnScope ["self"] ["self"] (defScope s_Or_told):=⟨rfl,rfl,rfl,by decide +kernel,rfl,by decide +kernel,by decide +kernel⟩
theorem sc_By___init__:FnScope ["self","one","other"] ["self","one","other"] (defScope s_By___init__):=⟨rfl,rfl,rfl,by decide +kernel,rfl,by decide +kernel,by decide +kernel⟩
theorem sc_By_inside:FnScope ["self"] ["self"] (defScope s_By_inside):=⟨rfl,rfl,rfl,by decide +kernel,rfl,by decide +kernel,by decide +kernel⟩
theorem sc_By_told:FnScope ["self"] ["self"] (defScope s_By_told):=⟨rfl,rfl,rfl,by decide +kernel,rfl,by decide +kernel,by decide +kernel⟩
theorem sc_Row___init__:FnScope ["self","part"] ["self","part"] (defScope s_Row___init__):=⟨rfl,rfl,rfl,by decide +kernel,rfl,by decide +kernel,by decide +kernel⟩
theorem sc_Row_inside:FnScope ["self"] ["self"] (defScope s_Row_inside):=⟨rfl,rfl,rfl,by decide +kernel,rfl,by decide +kernel,by decide +kernel⟩
theorem sc_Row_told:FnScope ["self"] ["self"] (defScope s_Row_told):=⟨rfl,rfl,rfl,by decide +kernel,rfl,by decide +kernel,by decide +kernel⟩
theorem sc_Bag___init__:FnScope ["self","part"] ["self","part"] (defScope s_Bag___init__):=⟨rfl,rfl,rfl,by decide +kernel,rfl,by decide +kernel,by decide +kernel⟩
theorem sc_Bag_inside:FnScope ["self"] ["self"] (defScope s_Bag_inside):=⟨rfl,rfl,rfl,by decide +kernel,rfl,by decide +kernel,by decide +kernel⟩
theorem sc_Bag_told:FnScope ["self"] ["self"] (defScope s_Bag_told):=⟨rfl,rfl,rfl,by decide +kernel,rfl,by decide +kernel,by decide +kernel⟩
theorem sc_Choice___init__:FnScope ["self","part"] ["self","part"] (defScope s_Choice___init__):=⟨rfl,rfl,rfl,by decide +kernel,rfl,by decide +kernel,by decide +kernel⟩
theorem sc_Choice_inside:FnScope ["self"] ["self"] (defScope s_Choice_inside):=⟨rfl,rfl,rfl,by decide +kernel,rfl,by decide +kernel,by decide +kernel⟩
theorem sc_Choice_told:FnScope ["self"] ["self"] (defScope s_Choice_told):=⟨rfl,rfl,rfl,by decide +kernel,rfl,by decide +kernel,by decide +kernel⟩
theorem sc_Ring___init__:FnScope ["self","part"] ["self","part"] (defScope s_Ring___init__):=⟨rfl,rfl,rfl,by decide +kernel,rfl,by decide +kernel,by decide +kernel⟩
theorem sc_Ring_inside:FnScope ["self"] ["self"] (defScope s_Ring_inside):=⟨rfl,rfl,rfl,by decide +kernel,rfl,by decide +kernel,by decide +kernel⟩
theorem sc_Ring_told:FnScope ["self"] ["self"] (defScope s_Ring_told):=⟨rfl,rfl,rfl,by decide +kernel,rfl,by decide +kernel,by decide +kernel⟩
theorem sc_Named___init__:FnScope ["self","name"] ["self","name"] (defScope s_Named___init__):=⟨rfl,rfl,rfl,by decide +kernel,rfl,by decide +kernel,by decide +kernel⟩
theorem sc_Named_names:FnScope ["self"] ["self"] (defScope s_Named_names):=⟨rfl,rfl,rfl,by decide +kernel,rfl,by decide +kernel,by decide +kernel⟩
theorem sc_Named_told:FnScope ["self"] ["self"] (defScope s_Named_told):=⟨rfl,rfl,rfl,by decide +kernel,rfl,by decide +kernel,by decide +kernel⟩
theorem sc_term_text:FnScope ["rule"] ["rule"] (defScope s_term_text):=⟨rfl,rfl,rfl,by decide +kernel,rfl,by decide +kernel,by decide +kernel⟩
theorem sc_factor_text:FnScope ["rule"] ["rule"] (defScope s_factor_text):=⟨rfl,rfl,rfl,by decide +kernel,rfl,by decide +kernel,by decide +kernel⟩
theorem sc_is_word:FnScope ["text"] ["text"] (defScope s_is_word):=⟨rfl,rfl,rfl,by decide +kernel,rfl,by decide +kernel,by decide +kernel⟩
theorem sc_Words___init__:FnScope ["self","text"] ["self","text"] (defScope s_Words___init__):=⟨rfl,rfl,rfl,by decide +kernel,rfl,by decide +kernel,by decide +kernel⟩
theorem sc_Words_ahead:FnScope ["self"] ["self"] (defScope s_Words_ahead):=⟨rfl,rfl,rfl,by decide +kernel,rfl,by decide +kernel,by decide +kernel⟩
theorem sc_Words_passed:FnScope ["self","word"] ["self","word"] (defScope s_Words_passed):=⟨rfl,rfl,rfl,by decide +kernel,rfl,by decide +kernel,by decide +kernel⟩
theorem sc_Words_need:FnScope ["self","word"] ["self","word"] (defScope s_Words_need):=⟨rfl,rfl,rfl,by decide +kernel,rfl,by decide +kernel,by decide +kernel⟩
theorem sc_Words_free_word:FnScope ["self","word"] ["self"] (defScope s_Words_free_word):=⟨rfl,rfl,rfl,by decide +kernel,rfl,by decide +kernel,by decide +kernel⟩
theorem sc_Words_finish:FnScope ["self"] ["self"] (defScope s_Words_finish):=⟨rfl,rfl,rfl,by decide +kernel,rfl,by decide +kernel,by decide +kernel⟩
theorem sc_read_rule:FnScope ["text","words","rule"] ["text"] (defScope s_read_rule):=⟨rfl,rfl,rfl,by decide +kernel,rfl,by decide +kernel,by decide +kernel⟩
theorem sc_next_rule:FnScope ["words","rule"] ["words"] (defScope s_next_rule):=⟨rfl,rfl,rfl,by decide +kernel,rfl,by decide +kernel,by decide +kernel⟩
theorem sc_next_term:FnScope ["words","rule"] ["words"] (defScope s_next_term):=⟨rfl,rfl,rfl,by decide +kernel,rfl,by decide +kernel,by decide +kernel⟩
theorem sc_next_factor:FnScope ["words","holders","holder","rule"] ["words"] (defScope s_next_factor):=⟨rfl,rfl,rfl,by decide +kernel,rfl,by decide +kernel,by decide +kernel⟩
theorem sc_next_plain_factor:FnScope ["words","rule"] ["words"] (defScope s_next_plain_factor):=⟨rfl,rfl,rfl,by decide +kernel,rfl,by decide +kernel,by decide +kernel⟩
theorem sc_held:FnScope ["holder","part"] ["holder","part"] (defScope s_held):=⟨rfl,rfl,rfl,by decide +kernel,rfl,by decide +kernel,by decide +kernel⟩
theorem sc_w_cell:FnScope ["_law_script","_law_k"] ["_law_script","_law_k"] (defScope s_w_cell):=⟨rfl,rfl,rfl,by decide +kernel,rfl,by decide +kernel,by decide +kernel⟩
theorem sc_w_kept:FnScope [] [] (defScope s_w_kept):=⟨rfl,rfl,rfl,by decide +kernel,rfl,by decide +kernel,by decide +kernel⟩
theorem sc_w_word:FnScope ["_law_cell_here","_law_word_here","_law_left","_law_k"] ["_law_cell_here"] (defScope s_w_word):=⟨rfl,rfl,rfl,by decide +kernel,rfl,by decide +kernel,by decide +kernel⟩
theorem sc_w_total:FnScope ["_law_stack"] ["_law_stack"] (defScope s_w_total):=⟨rfl,rfl,rfl,by decide +kernel,rfl,by decide +kernel,by decide +kernel⟩
theorem sc_w_op:FnScope ["_law_stack","_law_cell_here","_law_kind","_law_turn","_law_other","_law_one","_law_deep","_law_part"] ["_law_stack","_law_cell_here"] (defScope s_w_op):=⟨rfl,rfl,rfl,by decide +kernel,rfl,by decide +kernel,by decide +kernel⟩
theorem sc_w_tree:FnScope ["_law_cells","_law_stack","_law_cell_here","_law_fresh","_law_whole","_law_k","_law_one","_law_deep"] ["_law_cells"] (defScope s_w_tree):=⟨rfl,rfl,rfl,by decide +kernel,rfl,by decide +kernel,by decide +kernel⟩
theorem sc_w_binds:FnScope ["_law_tree_here"] ["_law_tree_here"] (defScope s_w_binds):=⟨rfl,rfl,rfl,by decide +kernel,rfl,by decide +kernel,by decide +kernel⟩
theorem sc_w_shut:FnScope ["_law_tree_here","_law_least"] ["_law_tree_here","_law_least"] (defScope s_w_shut):=⟨rfl,rfl,rfl,by decide +kernel,rfl,by decide +kernel,by decide +kernel⟩
theorem sc_w_text:FnScope ["_law_tree_here"] ["_law_tree_here"] (defScope s_w_text):=⟨rfl,rfl,rfl,by decide +kernel,rfl,by decide +kernel,by decide +kernel⟩
theorem sc_w_object:FnScope ["_law_rule","_law_one"] ["_law_rule"] (defScope s_w_object):=⟨rfl,rfl,rfl,by decide +kernel,rfl,by decide +kernel,by decide +kernel⟩
theorem sc_w_wide:FnScope ["_law_tree_here","_law_cells","_law_least","_law_text_here","_law_more"] ["_law_tree_here","_law_cells","_law_least"] (defScope s_w_wide):=⟨rfl,rfl,rfl,by decide +kernel,rfl,by decide +kernel,by decide +kernel⟩
theorem sc_w_like:FnScope ["_law_rule","_law_tree_here","_law_kind","_law_marks"] ["_law_rule","_law_tree_here"] (defScope s_w_like):=⟨rfl,rfl,rfl,by decide +kernel,rfl,by decide +kernel,by decide +kernel⟩
theorem sc_w_shows:FnScope ["_law_rule","_law_text_here","_law_found"] ["_law_rule","_law_text_here"] (defScope s_w_shows):=⟨rfl,rfl,rfl,by decide +kernel,rfl,by decide +kernel,by decide +kernel⟩
theorem sc_w_mixed:FnScope ["_law_script","_law_few","_law_many","_law_raw","_law_numbers","_law_k","_law_cell_here"] ["_law_script","_law_few"] (defScope s_w_mixed):=⟨rfl,rfl,rfl,by decide +kernel,rfl,by decide +kernel,by decide +kernel⟩
theorem sc_law:FnScope ["_law_script","_law_tree_here","_law_text_here","_law_rule","_law_wide_here","_law_one","_law_found"] ["_law_script"] (defScope s_law):=⟨rfl,rfl,rfl,by decide +kernel,rfl,by decide +kernel,by decide +kernel⟩
/-- what the top has written: each def of the text,its names;what is not the text's own -/
structure TX (K:PySem.W.Frag) (mg:Str->Option Value) (f_Nothing_told f_Bead___init__ f_Bead_told f_Or___init__ f_Or_told f_By___init__ f_By_told f_Row___init__ f_Row_told f_Bag___init__ f_Bag_told f_Choice___init__ f_Choice_told f_Ring___init__ f_Ring_told f_Named___init__ f_Named_told f_term_text f_factor_text f_is_word f_Words___init__ f_Words_ahead f_Words_passed f_Words_need f_Words_free_word f_Words_finish f_read_rule f_next_rule f_next_term f_next_factor f_next_plain_factor f_held f_w_cell f_w_kept f_w_word f_w_total f_w_op f_w_tree f_w_binds f_w_shut f_w_text f_w_object f_w_wide f_w_like f_w_shows f_w_mixed f_law a_Rule a_Nothing a_Bead a_Or a_By a_Row a_Bag a_Choice a_Ring a_Named a_Words a_HOLDERS a_KEPT:Addr) (d_Nothing_told d_Bead___init__ d_Bead_told d_Or___init__ d_Or_told d_By___init__ d_By_told d_Row___init__ d_Row_told d_Bag___init__ d_Bag_told d_Choice___init__ d_Choice_told d_Ring___init__ d_Ring_told d_Named___init__ d_Named_told d_term_text d_factor_text d_is_word d_Words___init__ d_Words_ahead d_Words_passed d_Words_need d_Words_free_word d_Words_finish d_read_rule d_next_rule d_next_term d_next_factor d_next_plain_factor d_held d_w_cell d_w_kept d_w_word d_w_total d_w_op d_w_tree d_w_binds d_w_shut d_w_text d_w_object d_w_wide d_w_like d_w_shows d_w_mixed d_law:FuncData):Prop where
  F_Nothing_told:Fun K "told" "Nothing.told" s_Nothing_told f_Nothing_told d_Nothing_told
  B_Nothing_told:Binds K d_Nothing_told ["self"] []
  W_Nothing_told:Meth K a_Nothing "told" f_Nothing_told
  F_Bead___init__:Fun K "__init__" "Bead.__init__" s_Bead___init__ f_Bead___init__ d_Bead___init__
  B_Bead___init__:Binds K d_Bead___init__ ["self","colour"] []
  K_Bead:Mk K a_Bead f_Bead___init__
  F_Bead_told:Fun K "told" "Bead.told" s_Bead_told f_Bead_told d_Bead_told
  B_Bead_told:Binds K d_Bead_told ["self"] []
  W_Bead_told:Meth K a_Bead "told" f_Bead_told
  F_Or___init__:Fun K "__init__" "Or.__init__" s_Or___init__ f_Or___init__ d_Or___init__
  B_Or___init__:Binds K d_Or___init__ ["self","one","other"] []
  K_Or:Mk K a_Or f_Or___init__
  F_Or_told:Fun K "told" "Or.told" s_Or_told f_Or_told d_Or_told
  B_Or_told:Binds K d_Or_told ["self"] []
  W_Or_told:Meth K a_Or "told" f_Or_told
  F_By___init__:Fun K "__init__" "By.__init__" s_By___init__ f_By___init__ d_By___init__
  B_By___init__:Binds K d_By___init__ ["self","one","other"] []
  K_By:Mk K a_By f_By___init__
  F_By_told:Fun K "told" "By.told" s_By_told f_By_told d_By_told
  B_By_told:Binds K d_By_told ["self"] []
  W_By_told:Meth K a_By "told" f_By_told
  F_Row___init__:Fun K "__init__" "Row.__init__" s_Row___init__ f_Row___init__ d_Row___init__
  B_Row___init__:Binds K d_Row___init__ ["self","part"] []
  K_Row:Mk K a_Row f_Row___init__
  F_Row_told:Fun K "told" "Row.told" s_Row_told f_Row_told d_Row_told
  B_Row_told:Binds K d_Row_told ["self"] []
  W_Row_told:Meth K a_Row "told" f_Row_told
  F_Bag___init__:Fun K "__init__" "Bag.__init__" s_Bag___init__ f_Bag___init__ d_Bag___init__
  B_Bag___init__:Binds K d_Bag___init__ ["self","part"] []
  K_Bag:Mk K a_Bag f_Bag___init__
  F_Bag_told:Fun K "told" "Bag.told" s_Bag_told f_Bag_told d_Bag_told
  B_Bag_told:Binds K d_Bag_told ["self"] []
  W_Bag_told:Meth K a_Bag "told" f_Bag_told
  F_Choice___init__:Fun K "__init__" "Choice.__init__" s_Choice___init__ f_Choice___init__ d_Choice___init__
  B_Choice___init__:Binds K d_Choice___init__ ["self","part"] []
  K_Choice:Mk K a_Choice f_Choice___init__
  F_Choice_told:Fun K "told" "Choice.told" s_Choice_told f_Choice_told d_Choice_told
  B_Choice_told:Binds K d_Choice_told ["self"] []
  W_Choice_told:Meth K a_Choice "told" f_Choice_told
  F_Ring___init__:Fun K "__init__" "Ring.__init__" s_Ring___init__ f_Ring___init__ d_Ring___init__
  B_Ring___init__:Binds K d_Ring___init__ ["self","part"] []
  K_Ring:Mk K a_Ring f_Ring___init__
  F_Ring_told:Fun K "told" "Ring.told" s_Ring_told f_Ring_told d_Ring_told
  B_Ring_told:Binds K d_Ring_told ["self"] []
  W_Ring_told:Meth K a_Ring "told" f_Ring_told
  F_Named___init__:Fun K "__init__" "Named.__init__" s_Named___init__ f_Named___init__ d_Named___init__
  B_Named___init__:Binds K d_Named___init__ ["self","name"] []
  K_Named:Mk K a_Named f_Named___init__
  F_Named_told:Fun K "told" "Named.told" s_Named_told f_Named_told d_Named_told
  B_Named_told:Binds K d_Named_told ["self"] []
  W_Named_told:Meth K a_Named "told" f_Named_told
  F_term_text:Fun K "term_text" "term_text" s_term_text f_term_text d_term_text
  B_term_text:Binds K d_term_text ["rule"] []
  M_term_text:mg "term_text"=some (.ref f_term_text)
  F_factor_text:Fun K "factor_text" "factor_text" s_factor_text f_factor_text d_factor_text
  B_factor_text:Binds K d_factor_text ["rule"] []
  M_factor_text:mg "factor_text"=some (.ref f_factor_text)
  F_is_word:Fun K "is_word" "is_word" s_is_word f_is_word d_is_word
  B_is_word:Binds K d_is_word ["text"] []
  M_is_word:mg "is_word"=some (.ref f_is_word)
  F_Words___init__:Fun K "__init__" "Words.__init__" s_Words___init__ f_Words___init__ d_Words___init__
  B_Words___init__:Binds K d_Words___init__ ["self","text"] []
  K_Words:Mk K a_Words f_Words___init__
  F_Words_ahead:Fun K "ahead" "Words.ahead" s_Words_ahead f_Words_ahead d_Words_ahead
  B_Words_ahead:Binds K d_Words_ahead ["self"] []
  W_Words_ahead:Meth K a_Words "ahead" f_Words_ahead
  F_Words_passed:Fun K "passed" "Words.passed" s_Words_passed f_Words_passed d_Words_passed
  B_Words_passed:Binds K d_Words_passed ["self","word"] []
  W_Words_passed:Meth K a_Words "passed" f_Words_passed
  F_Words_need:Fun K "need" "Words.need" s_Words_need f_Words_need d_Words_need
  B_Words_need:Binds K d_Words_need ["self","word"] []
  W_Words_need:Meth K a_Words "need" f_Words_need
  F_Words_free_word:Fun K "free_word" "Words.free_word" s_Words_free_word f_Words_free_word d_Words_free_word
  B_Words_free_word:Binds K d_Words_free_word ["self"] []
  W_Words_free_word:Meth K a_Words "free_word" f_Words_free_word
  F_Words_finish:Fun K "finish" "Words.finish" s_Words_finish f_Words_finish d_Words_finish
  B_Words_finish:Binds K d_Words_finish ["self"] []
  W_Words_finish:Meth K a_Words "finish" f_Words_finish
  F_read_rule:Fun K "read_rule" "read_rule" s_read_rule f_read_rule d_read_rule
  B_read_rule:Binds K d_read_rule ["text"] []
  M_read_rule:mg "read_rule"=some (.ref f_read_rule)
  F_next_rule:Fun K "next_rule" "next_rule" s_next_rule f_next_rule d_next_rule
  B_next_rule:Binds K d_next_rule ["words"] []
  M_next_rule:mg "next_rule"=some (.ref f_next_rule)
  F_next_term:Fun K "next_term" "next_term" s_next_term f_next_term d_next_term
  B_next_term:Binds K d_next_term ["words"] []
  M_next_term:mg "next_term"=some (.ref f_next_term)
  F_next_factor:Fun K "next_factor" "next_factor" s_next_factor f_next_factor d_next_factor
  B_next_factor:Binds K d_next_factor ["words"] []
  M_next_factor:mg "next_factor"=some (.ref f_next_factor)
  F_next_plain_factor:Fun K "next_plain_factor" "next_plain_factor" s_next_plain_factor f_next_plain_factor d_next_plain_factor
  B_next_plain_factor:Binds K d_next_plain_factor ["words"] []
  M_next_plain_factor:mg "next_plain_factor"=some (.ref f_next_plain_factor)
  F_held:Fun K "held" "held" s_held f_held d_held
  B_held:Binds K d_held ["holder","part"] []
  M_held:mg "held"=some (.ref f_held)
  F_w_cell:Fun K "_law_cell" "_law_cell" s_w_cell f_w_cell d_w_cell
  B_w_cell:Binds K d_w_cell ["_law_script","_law_k"] []
  M_w_cell:mg "_law_cell"=some (.ref f_w_cell)
  F_w_kept:Fun K "_law_kept" "_law_kept" s_w_kept f_w_kept d_w_kept
  B_w_kept:Binds K d_w_kept [] []
  M_w_kept:mg "_law_kept"=some (.ref f_w_kept)
  F_w_word:Fun K "_law_word" "_law_word" s_w_word f_w_word d_w_word
  B_w_word:Binds K d_w_word ["_law_cell_here"] []
  M_w_word:mg "_law_word"=some (.ref f_w_word)
  F_w_total:Fun K "_law_total" "_law_total" s_w_total f_w_total d_w_total
  B_w_total:Binds K d_w_total ["_law_stack"] []
  M_w_total:mg "_law_total"=some (.ref f_w_total)
  F_w_op:Fun K "_law_op" "_law_op" s_w_op f_w_op d_w_op
  B_w_op:Binds K d_w_op ["_law_stack","_law_cell_here"] []
  M_w_op:mg "_law_op"=some (.ref f_w_op)
  F_w_tree:Fun K "_law_tree" "_law_tree" s_w_tree f_w_tree d_w_tree
  B_w_tree:Binds K d_w_tree ["_law_cells"] []
  M_w_tree:mg "_law_tree"=some (.ref f_w_tree)
  F_w_binds:Fun K "_law_binds" "_law_binds" s_w_binds f_w_binds d_w_binds
  B_w_binds:Binds K d_w_binds ["_law_tree_here"] []
  M_w_binds:mg "_law_binds"=some (.ref f_w_binds)
  F_w_shut:Fun K "_law_shut" "_law_shut" s_w_shut f_w_shut d_w_shut
  B_w_shut:Binds K d_w_shut ["_law_tree_here","_law_least"] []
  M_w_shut:mg "_law_shut"=some (.ref f_w_shut)
  F_w_text:Fun K "_law_text" "_law_text" s_w_text f_w_text d_w_text
  B_w_text:Binds K d_w_text ["_law_tree_here"] []
  M_w_text:mg "_law_text"=some (.ref f_w_text)
  F_w_object:Fun K "_law_object" "_law_object" s_w_object f_w_object d_w_object
  B_w_object:Binds K d_w_object ["_law_rule"] []
  M_w_object:mg "_law_object"=some (.ref f_w_object)
  F_w_wide:Fun K "_law_wide" "_law_wide" s_w_wide f_w_wide d_w_wide
  B_w_wide:Binds K d_w_wide ["_law_tree_here","_law_cells","_law_least"] []
  M_w_wide:mg "_law_wide"=some (.ref f_w_wide)
  F_w_like:Fun K "_law_like" "_law_like" s_w_like f_w_like d_w_like
  B_w_like:Binds K d_w_like ["_law_rule","_law_tree_here"] []
  M_w_like:mg "_law_like"=some (.ref f_w_like)
  F_w_shows:Fun K "_law_shows" "_law_shows" s_w_shows f_w_shows d_w_shows
  B_w_shows:Binds K d_w_shows ["_law_rule","_law_text_here"] []
  M_w_shows:mg "_law_shows"=some (.ref f_w_shows)
  F_w_mixed:Fun K "_law_mixed" "_law_mixed" s_w_mixed f_w_mixed d_w_mixed
  B_w_mixed:Binds K d_w_mixed ["_law_script","_law_few"] []
  M_w_mixed:mg "_law_mixed"=some (.ref f_w_mixed)
  F_law:Fun K "law" "law" s_law f_law d_law
  B_law:Binds K d_law ["_law_script"] []
  M_law:mg "law"=some (.ref f_law)
  m_Rule:mg "Rule"=some (.ref a_Rule)
  L_Rule:Cls K a_Rule
  K_Rule:Mk0 K a_Rule
  m_Nothing:mg "Nothing"=some (.ref a_Nothing)
  L_Nothing:Cls K a_Nothing
  K_Nothing:Mk0 K a_Nothing
  m_Bead:mg "Bead"=some (.ref a_Bead)
  L_Bead:Cls K a_Bead
  N_Bead_colour:NoAttr K a_Bead "colour"
  m_Or:mg "Or"=some (.ref a_Or)
  L_Or:Cls K a_Or
  N_Or_one:NoAttr K a_Or "one"
  N_Or_other:NoAttr K a_Or "other"
  m_By:mg "By"=some (.ref a_By)
  L_By:Cls K a_By
  N_By_one:NoAttr K a_By "one"
  N_By_other:NoAttr K a_By "other"
  m_Row:mg "Row"=some (.ref a_Row)
  L_Row:Cls K a_Row
  N_Row_part:NoAttr K a_Row "part"
  m_Bag:mg "Bag"=some (.ref a_Bag)
  L_Bag:Cls K a_Bag
  N_Bag_part:NoAttr K a_Bag "part"
  m_Choice:mg "Choice"=some (.ref a_Choice)
  L_Choice:Cls K a_Choice
  N_Choice_part:NoAttr K a_Choice "part"
  m_Ring:mg "Ring"=some (.ref a_Ring)
  L_Ring:Cls K a_Ring
  N_Ring_part:NoAttr K a_Ring "part"
  m_Named:mg "Named"=some (.ref a_Named)
  L_Named:Cls K a_Named
  N_Named_name:NoAttr K a_Named "name"
  m_Words:mg "Words"=some (.ref a_Words)
  L_Words:Cls K a_Words
  N_Words_words:NoAttr K a_Words "words"
  N_Words_at:NoAttr K a_Words "at"
  IT:IsTab K [a_Nothing,a_Bead,a_Named,a_Or,a_By,a_Row,a_Bag,a_Choice,a_Ring] a_Rule
  n_all:mg "all"=none
  n_any:mg "any"=none
  n_bool:mg "bool"=none
  n_enumerate:mg "enumerate"=none
  n_int:mg "int"=none
  n_isinstance:mg "isinstance"=none
  n_len:mg "len"=none
  n_list:mg "list"=none
  n_max:mg "max"=none
  n_min:mg "min"=none
  n_range:mg "range"=none
  n_reversed:mg "reversed"=none
  n_sorted:mg "sorted"=none
  n_str:mg "str"=none
  n_sum:mg "sum"=none
  n_tuple:mg "tuple"=none
  n_zip:mg "zip"=none
  c_HOLDERS:∃ u,mg "HOLDERS"=some u/\RelV (.ref a_HOLDERS) u
  q_HOLDERS:∀ H,SqT K H a_HOLDERS [.str "row",.str "bag",.str "choice",.str "ring"]
  y_HOLDERS:∀ H,tyV K "tuple" (.ref a_HOLDERS) H
  c_KEPT:∃ u,mg "KEPT"=some u/\RelV (.ref a_KEPT) u
  q_KEPT:∀ H,SqT K H a_KEPT [.str "nothing",.str "bead",.str "or",.str "by",.str "row",.str "bag",.str "choice",.str "ring",.str "of",.str "left",.str "right"]
  y_KEPT:∀ H,tyV K "tuple" (.ref a_KEPT) H
  c_LETTERS:∃ u,mg "LETTERS"=some u/\RelV (.str "abcdefghijklmnopqrstuvwxyz") u
  c_LONGEST:∃ u,mg "LONGEST"=some u/\RelV (.int 8) u
variable {P:Program} {w:World} {K:PySem.W.Frag} {mg:Str->Option Value} {base:Heap} {f_Nothing_told f_Bead___init__ f_Bead_told f_Or___init__ f_Or_told f_By___init__ f_By_told f_Row___init__ f_Row_told f_Bag___init__ f_Bag_told f_Choice___init__ f_Choice_told f_Ring___init__ f_Ring_told f_Named___init__ f_Named_told f_term_text f_factor_text f_is_word f_Words___init__ f_Words_ahead f_Words_passed f_Words_need f_Words_free_word f_Words_finish f_read_rule f_next_rule f_next_term f_next_factor f_next_plain_factor f_held f_w_cell f_w_kept f_w_word f_w_total f_w_op f_w_tree f_w_binds f_w_shut f_w_text f_w_object f_w_wide f_w_like f_w_shows f_w_mixed f_law a_Rule a_Nothing a_Bead a_Or a_By a_Row a_Bag a_Choice a_Ring a_Named a_Words a_HOLDERS a_KEPT:Addr} {d_Nothing_told d_Bead___init__ d_Bead_told d_Or___init__ d_Or_told d_By___init__ d_By_told d_Row___init__ d_Row_told d_Bag___init__ d_Bag_told d_Choice___init__ d_Choice_told d_Ring___init__ d_Ring_told d_Named___init__ d_Named_told d_term_text d_factor_text d_is_word d_Words___init__ d_Words_ahead d_Words_passed d_Words_need d_Words_free_word d_Words_finish d_read_rule d_next_rule d_next_term d_next_factor d_next_plain_factor d_held d_w_cell d_w_kept d_w_word d_w_total d_w_op d_w_tree d_w_binds d_w_shut d_w_text d_w_object d_w_wide d_w_like d_w_shows d_w_mixed d_law:FuncData} (T:TX K mg f_Nothing_told f_Bead___init__ f_Bead_told f_Or___init__ f_Or_told f_By___init__ f_By_told f_Row___init__ f_Row_told f_Bag___init__ f_Bag_told f_Choice___init__ f_Choice_told f_Ring___init__ f_Ring_told f_Named___init__ f_Named_told f_term_text f_factor_text f_is_word f_Words___init__ f_Words_ahead f_Words_passed f_Words_need f_Words_free_word f_Words_finish f_read_rule f_next_rule f_next_term f_next_factor f_next_plain_factor f_held f_w_cell f_w_kept f_w_word f_w_total f_w_op f_w_tree f_w_binds f_w_shut f_w_text f_w_object f_w_wide f_w_like f_w_shows f_w_mixed f_law a_Rule a_Nothing a_Bead a_Or a_By a_Row a_Bag a_Choice a_Ring a_Named a_Words a_HOLDERS a_KEPT d_Nothing_told d_Bead___init__ d_Bead_told d_Or___init__ d_Or_told d_By___init__ d_By_told d_Row___init__ d_Row_told d_Bag___init__ d_Bag_told d_Choice___init__ d_Choice_told d_Ring___init__ d_Ring_told d_Named___init__ d_Named_told d_term_text d_factor_text d_is_word d_Words___init__ d_Words_ahead d_Words_passed d_Words_need d_Words_free_word d_Words_finish d_read_rule d_next_rule d_next_term d_next_factor d_next_plain_factor d_held d_w_cell d_w_kept d_w_word d_w_total d_w_op d_w_tree d_w_binds d_w_shut d_w_text d_w_object d_w_wide d_w_like d_w_shows d_w_mixed d_law)
noncomputable def asp_init1 (C:Addr) (f:Str):ASp:=fun us A Q=>∃ (x dx:Addr) (u:U),us=[.ref x,u]/\A x=some (.ins C dx [])/\Q .non (updA A x (.ins C dx [(f,u)]))
noncomputable def asp_init2 (C:Addr):ASp:=fun us A Q=>∃ (x dx:Addr) (u v:U),us=[.ref x,u,v]/\A x=some (.ins C dx [])/\Q .non (updA A x (.ins C dx [("one",u),("other",v)]))
theorem rpu0 {a:Str} {u:U}:putU a u []=[(a,u)]:=rfl
theorem rpu1 {u v:U}:putU "other" v [(("one":Str),u)]=[(("one":Str),u),(("other":Str),v)]:=by
  have:("one":Str)≠"other":=by decide +kernel
  simp [putU,this]
section
include T
theorem ok_iBead:FnOk P w K mg base CX0 1 f_Bead___init__ d_Bead___init__ ["self","colour"] (spOf K (asp_init1 a_Bead "colour")):=by
  refine' Fun.okA T.F_Bead___init__ (sc:=?sc) (body:=?bd) ?hs ?hb sc_Bead___init__ ?hB ?hS
  case hs=>conv=>lhs;whnf
  case hb=>conv=>lhs;whnf
  case hB=>exact fun S cdv A outer s H E hr=>⟨_,(pss_one (ps_fld (pv 0) (pv 1) rfl)),(ab_sfld ab_var ab_var)⟩
  rintro us A Q ⟨x,dx,u,rfl,hx,q⟩
  refine ⟨rfl,?_⟩
  walk_at "qs"
  walk_at "qd"
  refine ⟨x,_,dx,_,rfl,hx,T.L_Bead,T.N_Bead_colour,by decide,?_⟩
  rw [rpu0]
  exact fg q
theorem ok_iNamed:FnOk P w K mg base CX0 1 f_Named___init__ d_Named___init__ ["self","name"] (spOf K (asp_init1 a_Named "name")):=by
  refine' Fun.okA T.F_Named___init__ (sc:=?sc2) (body:=?bd2) ?hs2 ?hb2 sc_Named___init__ ?hB2 ?hS2
  case hs2=>conv=>lhs;whnf
  case hb2=>conv=>lhs;whnf
  case hB2=>exact fun S cdv A outer s H E hr=>⟨_,(pss_one (ps_fld (pv 0) (pv 1) rfl)),(ab_sfld ab_var ab_var)⟩
  rintro us A Q ⟨x,dx,u,rfl,hx,q⟩
  refine ⟨rfl,?_⟩
  walk_at "qs"
  walk_at "qd"
  refine ⟨x,_,dx,_,rfl,hx,T.L_Named,T.N_Named_name,by decide,?_⟩
  rw [rpu0]
  exact fg q
theorem ok_iRow:FnOk P w K mg base CX0 1 f_Row___init__ d_Row___init__ ["self","part"] (spOf K (asp_init1 a_Row "part")):=by
  refine' Fun.okA T.F_Row___init__ (sc:=?sc3) (body:=?bd3) ?hs3 ?hb3 sc_Row___init__ ?hB3 ?hS3
  case hs3=>conv=>lhs;whnf
  case hb3=>conv=>lhs;whnf
  case hB3=>exact fun S cdv A outer s H E hr=>⟨_,(pss_one (ps_fld (pv 0) (pv 1) rfl)),(ab_sfld ab_var ab_var)⟩
  rintro us A Q ⟨x,dx,u,rfl,hx,q⟩
  refine ⟨rfl,?_⟩
  walk_at "qs"
  walk_at "qd"
  refine ⟨x,_,dx,_,rfl,hx,T.L_Row,T.N_Row_part,by decide,?_⟩
  rw [rpu0]
  exact fg q
theorem ok_iBag:FnOk P w K mg base CX0 1 f_Bag___init__ d_Bag___init__ ["self","part"] (spOf K (asp_init1 a_Bag "part")):=by
  refine' Fun.okA T.F_Bag___init__ (sc:=?sc4) (body:=?bd4) ?hs4 ?hb4 sc_Bag___init__ ?hB4 ?hS4
  case hs4=>conv=>lhs;whnf
  case hb4=>conv=>lhs;whnf
  case hB4=>exact fun S cdv A outer s H E hr=>⟨_,(pss_one (ps_fld (pv 0) (pv 1) rfl)),(ab_sfld ab_var ab_var)⟩
  rintro us A Q ⟨x,dx,u,rfl,hx,q⟩
  refine ⟨rfl,?_⟩
  walk_at "qs"
  walk_at "qd"
  refine ⟨x,_,dx,_,rfl,hx,T.L_Bag,T.N_Bag_part,by decide,?_⟩
  rw [rpu0]
  exact fg q
theorem ok_iChoice:FnOk P w K mg base CX0 1 f_Choice___init__ d_Choice___init__ ["self","part"] (spOf K (asp_init1 a_Choice "part")):=by
  refine' Fun.okA T.F_Choice___init__ (sc:=?sc5) (body:=?bd5) ?hs5 ?hb5 sc_Choice___init__ ?hB5 ?hS5
  case hs5=>conv=>lhs;whnf
  case hb5=>conv=>lhs;whnf
  case hB5=>exact fun S cdv A outer s H E hr=>⟨_,(pss_one (ps_fld (pv 0) (pv 1) rfl)),(ab_sfld ab_var ab_var)⟩
  rintro us A Q ⟨x,dx,u,rfl,hx,q⟩
  refine ⟨rfl,?_⟩
  walk_at "qs"
  walk_at "qd"
  refine ⟨x,_,dx,_,rfl,hx,T.L_Choice,T.N_Choice_part,by decide,?_⟩
  rw [rpu0]
  exact fg q
theorem ok_iRing:FnOk P w K mg base CX0 1 f_Ring___init__ d_Ring___init__ ["self","part"] (spOf K (asp_init1 a_Ring "part")):=by
  refine' Fun.okA T.F_Ring___init__ (sc:=?sc6) (body:=?bd6) ?hs6 ?hb6 sc_Ring___init__ ?hB6 ?hS6
  case hs6=>conv=>lhs;whnf
  case hb6=>conv=>lhs;whnf
  case hB6=>exact fun S cdv A outer s H E hr=>⟨_,(pss_one (ps_fld (pv 0) (pv 1) rfl)),(ab_sfld ab_var ab_var)⟩
  rintro us A Q ⟨x,dx,u,rfl,hx,q⟩
  refine ⟨rfl,?_⟩
  walk_at "qs"
  walk_at "qd"
  refine ⟨x,_,dx,_,rfl,hx,T.L_Ring,T.N_Ring_part,by decide,?_⟩
  rw [rpu0]
  exact fg q
theorem ok_iOr:FnOk P w K mg base CX0 1 f_Or___init__ d_Or___init__ ["self","one","other"] (spOf K (asp_init2 a_Or)):=by
  refine' Fun.okA T.F_Or___init__ (sc:=?sc7) (body:=?bd7) ?hs7 ?hb7 sc_Or___init__ ?hB7 ?hS7
  case hs7=>conv=>lhs;whnf
  case hb7=>conv=>lhs;whnf
  case hB7=>exact fun S cdv A outer s H E hr=>⟨_,(pss_cons (ps_fld (pv 0) (pv 1) rfl)
      (pss_one (ps_fld (pv 0) (pv 2) rfl))),(ab_seq (ab_sfld ab_var ab_var)
      (ab_sfld ab_var ab_var))⟩
  rintro us A Q ⟨x,dx,u,v,rfl,hx,q⟩
  refine ⟨rfl,?_⟩
  walk_at "qs"
  walk_at "qd"
  refine ⟨x,_,dx,_,rfl,hx,T.L_Or,T.N_Or_one,by decide,x,_,dx,_,rfl,updA_same,T.L_Or,T.N_Or_other,by show (1:Nat) < 1000;decide,?_⟩
  rw [updA_updA,rpu0,rpu1]
  exact fg q
theorem ok_iBy:FnOk P w K mg base CX0 1 f_By___init__ d_By___init__ ["self","one","other"] (spOf K (asp_init2 a_By)):=by
  refine' Fun.okA T.F_By___init__ (sc:=?sc8) (body:=?bd8) ?hs8 ?hb8 sc_By___init__ ?hB8 ?hS8
  case hs8=>conv=>lhs;whnf
  case hb8=>conv=>lhs;whnf
  case hB8=>exact fun S cdv A outer s H E hr=>⟨_,(pss_cons (ps_fld (pv 0) (pv 1) rfl)
      (pss_one (ps_fld (pv 0) (pv 2) rfl))),(ab_seq (ab_sfld ab_var ab_var)
      (ab_sfld ab_var ab_var))⟩
  rintro us A Q ⟨x,dx,u,v,rfl,hx,q⟩
  refine ⟨rfl,?_⟩
  walk_at "qs"
  walk_at "qd"
  refine ⟨x,_,dx,_,rfl,hx,T.L_By,T.N_By_one,by decide,x,_,dx,_,rfl,updA_same,T.L_By,T.N_By_other,by show (1:Nat) < 1000;decide,?_⟩
  rw [updA_updA,rpu0,rpu1]
  exact fg q
end
theorem lk1 {a b:Str} {u v:U}:List.lookup a [(a,u),(b,v)]=some u:=by simp [List.lookup]
theorem lk2 {a b:Str} {u v:U} (h:(b == a)=false):List.lookup b [(a,u),(b,v)]=some v:=by simp [List.lookup,h]
theorem lk0 {m a b:Str} {u v:U} (h1:(m == a)=false) (h2:(m == b)=false):List.lookup m [(a,u),(b,v)]=none:=by simp [List.lookup,h1,h2]
theorem pu0 {a:Str} {u:U}:putU a u []=[(a,u)]:=rfl
theorem pu1 {a b:Str} {u v:U} (h:a≠b):putU b v [(a,u)]=[(a,u),(b,v)]:=by simp [putU,h]
theorem pu2 {a b:Str} {u v x:U} (h:a≠b):putU b x [(a,u),(b,v)]=[(a,u),(b,x)]:=by simp [putU,h]
theorem ne_wa:("words":Str)≠"at":=by decide +kernel
theorem beq_aw:(("at":Str) == "words")=false:=by decide +kernel
theorem inU_strs {x:Str} {ts:List Str} (h:x ∉ ts):inU (.str x) (ts.map U.str)=false:=by
  unfold inU inV
  rw [List.any_eq_false]
  intro y hy
  simp only [List.mem_map] at hy
  obtain ⟨_,⟨z,hz,rfl⟩,rfl⟩:=hy
  simp only [U.toV,eqV]
  intro e
  have:z=x:=by simpa using e
  exact h (this ▸ hz)
noncomputable def optU:Option Str->U
  | none=>.non
  | some t=>.str t
noncomputable def asp_isw:ASp:=fun us A Q=>∃ x:Str,us=[.str x]/\wdB x=true/\Q (.bl true) A
noncomputable def asp_winit (C:Addr):ASp:=fun us A Q=>∃ (x dx:Addr) (z:Str) (ts:List Str),us=[.ref x,.str z]/\A x=some (.ins C dx [])/\z.length<=10000/\Txt.split z blk=ts/\ts.length<=10000/\∀ p,A p=none->Q .non (updA (updA A p (.lst (ts.map U.str))) x (.ins C dx [("words",.ref p),("at",.int 0)]))
noncomputable def asp_ahead (C:Addr):ASp:=fun us A Q=>∃ (a p:Addr) (ts:List Str) (n:Nat),us=[.ref a]/\WdOk C A a p ts n/\Q (optU ts[n]?) A
noncomputable def asp_passed (C:Addr):ASp:=fun us A Q=>∃ (a p:Addr) (ts:List Str) (n:Nat) (z t:Str),us=[.ref a,.str z]/\WdOk C A a p ts n/\ts[n]? = some t/\(t≠z->Q (.bl false) A)/\(t=z->∀ dx,A a=some (.ins C dx [("words",.ref p),("at",.int n)])->Q (.bl true) (updA A a (.ins C dx [("words",.ref p),("at",.int (n + 1:Nat))])))
noncomputable def asp_need (C:Addr):ASp:=fun us A Q=>∃ (a p:Addr) (ts:List Str) (n:Nat) (z:Str),us=[.ref a,.str z]/\WdOk C A a p ts n/\ts[n]? = some z/\∀ dx,A a=some (.ins C dx [("words",.ref p),("at",.int n)])->Q .non (updA A a (.ins C dx [("words",.ref p),("at",.int (n + 1:Nat))]))
noncomputable def asp_free (C:Addr):ASp:=fun us A Q=>∃ (a p:Addr) (ts:List Str) (n:Nat) (z:Str),us=[.ref a]/\WdOk C A a p ts n/\ts[n]? = some z/\wdB z=true/\∀ dx,A a=some (.ins C dx [("words",.ref p),("at",.int n)])->Q (.str z) (updA A a (.ins C dx [("words",.ref p),("at",.int (n + 1:Nat))]))
noncomputable def asp_finish (C:Addr):ASp:=fun us A Q=>∃ (a p:Addr) (ts:List Str),us=[.ref a]/\WdOk C A a p ts ts.length/\Q .non A
section
include T
theorem ok_isw:FnOk P w K mg base CX0 1 f_is_word d_is_word ["text"] (spOf K asp_isw):=by
  refine' Fun.okA T.F_is_word (sc:=?sc9) (body:=?bd9) ?hs9 ?hb9 sc_is_word ?hB9 ?hS9
  case hs9=>conv=>lhs;whnf
  case hb9=>conv=>lhs;whnf
  case hB9=>exact fun S cdv A outer s H E hr=>⟨_,(pss_cons (ps_if ((pw_or (pt_cmpR (o_eqD hr) (pv 0) pe_str (nomark _)) (pw_or (pt_cmpR o_gt (pe_callB c_len (by rfl) T.n_len (by decide +kernel) (pa_cons (pv 0) pa_nil)) (pe_gv (by rfl) T.c_LONGEST) (nomark _)) (pw_or1 (pt_cmpR o_in (pv 0) (pe_gv (by rfl) T.c_KEPT) (by with_unfolding_all rfl)))))).pt (pss_one (ps_ret pe_bl)) pss_nil)
      (pss_one (ps_ret (pe_callB (call_all rfl) (by rfl) T.n_all (by decide +kernel) (pa_cons (pe_comp (ts:=["sign"]) (frs':=[]) (cl:=[]) rfl ⟨rfl,rfl,(by decide +kernel),(by decide +kernel),(fun _ z=>nomatch z),(noFree_has rfl rfl),(fun _ z=>nomatch z)⟩ (pj_str (pv 0)) (fun _ _ _ _=>pg_name (i:=0) nd1 rfl (Or.inl rfl) (.inr rfl)) (fun _ _ _ _=>pifs_nil) (fun _ _ _ _=>by exact (pe_cmpR (k_in K rfl) (pv 0) (pe_gv (by rfl) T.c_LETTERS) (by with_unfolding_all rfl)))) pa_nil))))),(ab_seq (ab_ifs (ab_or (ab_test (ab_op ab_eq ab_var ab_str)) (ab_or (ab_test (ab_op ab_gt (ab_cb ab_len (ab_cons ab_var ab_nil)) ab_int)) (ab_test (ab_op ab_in ab_var (ab_c fun H=>.tup (T.q_KEPT H) (.cons (.str _) (.cons (.str _) (.cons (.str _) (.cons (.str _) (.cons (.str _) (.cons (.str _) (.cons (.str _) (.cons (.str _) (.cons (.str _) (.cons (.str _) (.cons (.str _) .nil)))))))))))))))) (ab_ret ab_bl) ab_next)
      (ab_ret (ab_cb ab_all (ab_cons (ab_comp (ab_jof ab_ystr ab_var) ab_name ab_true (ab_op ab_in ab_var ab_str)) ab_nil))))⟩
  rintro us A Q ⟨x,rfl,hx,q⟩
  obtain ⟨h1,h2,h3,h4⟩:=wdB_of hx
  refine ⟨rfl,?_⟩
  walk_at "qs"
  walk_at "qd"
  refine iteFf (decide_eq_false fun e=>?_) ⟨line1000 (by lia),iteFf (by simp;lia) ⟨rfl,rfl,iteFf (inU_strs (ts:=keptsL) h4) fun l hl=>?_⟩⟩
  . rw [e,show (Str.ofString "").length=0 from by decide +kernel] at h2;lia
  walk_at "qc"
  refine cl_mapW x.cps.toList (fun c=>U.str ⟨#[c]⟩) (fun _=>.bl true) hl (by rw [show x.cps.toList.length=x.length from by simp [Str.length]];lia) (fun k A2 _ he=>rfl) (fun c A2 hc he Cy hy=>?_) ?_
  . walk_at "qd"
    rw [show occ (Str.ofString "abcdefghijklmnopqrstuvwxyz") ⟨#[c]⟩=true from ?_]
    . exact hy
    . unfold occ
      rw [StrLaws.found_one]
      have:=hx
      unfold wdB at this
      simp only [Bool.and_eq_true,List.all_eq_true] at this
      exact this.1.1 c hc
  . walk_at "qd"
    refine ⟨x.cps.toList.map fun _=>true,by rw [updA_same,List.map_map];rfl,?_⟩
    rw [show (x.cps.toList.map fun _=>true).all id=true from by simp]
    exact fgx (Ext.new hl) q
theorem ok_winit:FnOk P w K mg base CX0 1 f_Words___init__ d_Words___init__ ["self","text"] (spOf K (asp_winit a_Words)):=by
  refine' Fun.okA T.F_Words___init__ (sc:=?sc10) (body:=?bd10) ?hs10 ?hb10 sc_Words___init__ ?hB10 ?hS10
  case hs10=>conv=>lhs;whnf
  case hb10=>conv=>lhs;whnf
  case hB10=>exact fun S cdv A outer s H E hr=>⟨_,(pss_cons (ps_fld (pv 0) (pe_bm PySem.F.plainAttrs_str PySem.F.slot_str_split PySem.F.type_str_split mt_split (pv 1) (pa_cons pe_str pa_nil)) rfl)
      (pss_one (ps_fld (pv 0) pe_int rfl))),(ab_seq (ab_sfld ab_var (ab_bm ab_isStr ab_msplit ab_var (ab_cons ab_str ab_nil)))
      (ab_sfld ab_var ab_int))⟩
  rintro us A Q ⟨x,dx,z,ts,rfl,hx,hz,hs,hl,q⟩
  refine ⟨rfl,?_⟩
  walk_at "qs"
  walk_at "qd"
  have hp2:(Builtin.Str.partsBetween z (Builtin.Str.occurrences z (Str.ofString " ") 0 z.length (z.length + 1)) (Str.ofString " ").length).length<=20000:=by
    rw [length_partsBetween]
    have:=StrLaws.occ_length_le z (Str.ofString " ") 0 z.length (z.length + 1)
    lia
  refine ⟨trivial,by decide +kernel,line1000 (by lia),line1000 (by lia),by rw [hs];exact line1000 (by lia),fun p hp=>?_⟩
  rw [hs]
  refine ⟨x,a_Words,dx,[],rfl,by rw [updA_ne (neA hx hp)];exact hx,T.L_Words,T.N_Words_words,by decide,?_⟩
  refine ⟨x,a_Words,dx,_,rfl,updA_same,T.L_Words,T.N_Words_at,by show (1:Nat) < 1000;decide,?_⟩
  rw [updA_updA,pu0,pu1 ne_wa]
  exact fg (q p hp)
theorem ok_ahead:FnOk P w K mg base CX0 1 f_Words_ahead d_Words_ahead ["self"] (spOf K (asp_ahead a_Words)):=by
  refine' Fun.okA T.F_Words_ahead (sc:=?sc11) (body:=?bd11) ?hs11 ?hb11 sc_Words_ahead ?hB11 ?hS11
  case hs11=>conv=>lhs;whnf
  case hb11=>conv=>lhs;whnf
  case hB11=>exact fun S cdv A outer s H E hr=>⟨_,(pss_cons (ps_if (pt_cmpR (o_eqD hr) (pe_fld (pv 0) rfl) (pe_callB c_len (by rfl) T.n_len (by decide +kernel) (pa_cons (pe_fld (pv 0) rfl) pa_nil)) (nomark _)) (pss_one (ps_ret pe_non)) pss_nil)
      (pss_one (ps_ret (pe_ix o_ix (pe_fld (pv 0) rfl) (pe_fld (pv 0) rfl) (fun _ _=>rfl))))),(ab_seq (ab_ifs (ab_test (ab_op ab_eq (ab_fld ab_var) (ab_cb ab_len (ab_cons (ab_fld ab_var) ab_nil)))) (ab_ret ab_non) ab_next)
      (ab_ret (ab_op ab_ix (ab_fld ab_var) (ab_fld ab_var))))⟩
  rintro us A Q ⟨a,p,ts,n,rfl,⟨⟨dx,ha⟩,hp,hn⟩,q⟩
  refine ⟨rfl,?_⟩
  walk_at "qs"
  walk_at "qd"
  refine ⟨a,_,dx,_,_,rfl,ha,T.L_Words,T.N_Words_at,lk2 beq_aw,a,_,dx,_,_,rfl,ha,T.L_Words,T.N_Words_words,lk1,?_⟩
  walk_at "qd"
  refine ⟨_,hp,?_⟩
  rw [List.length_map]
  by_cases h:n=ts.length
  . refine iteTt (by simp [h]) (fg ?_)
    rw [List.getElem?_eq_none (by lia)] at q
    exact q
  . refine iteFf (by simp;lia) ?_
    refine ⟨a,_,dx,_,_,rfl,ha,T.L_Words,T.N_Words_words,lk1,a,_,dx,_,_,rfl,ha,T.L_Words,T.N_Words_at,lk2 beq_aw,?_⟩
    walk_at "qd"
    have hlt:n < ts.length:=by lia
    rw [List.getElem?_eq_getElem hlt] at q
    exact ⟨_,U.str ts[n],hp,atI_nat (by rw [List.getElem?_map,List.getElem?_eq_getElem hlt];rfl),fg q⟩
theorem ok_passed:FnOk P w K mg base CX0 2 f_Words_passed d_Words_passed ["self","word"] (spOf K (asp_passed a_Words)):=by
  have G_Words_ahead:=ok_ahead (P:=P) (w:=w) (base:=base) T
  refine' Fun.okA T.F_Words_passed (sc:=?sc12) (body:=?bd12) ?hs12 ?hb12 sc_Words_passed ?hB12 ?hS12
  case hs12=>conv=>lhs;whnf
  case hb12=>conv=>lhs;whnf
  case hB12=>exact fun S cdv A outer s H E hr=>⟨_,(pss_cons (ps_if (pt_cmpR (o_neD hr) (pe_meth0 (pv 0) T.L_Words T.W_Words_ahead (G_Words_ahead.mono (by first | decide | lia)) hr T.B_Words_ahead .nil pass0) (pv 1) (nomark _)) (pss_one (ps_ret pe_bl)) pss_nil)
      (pss_cons (ps_fldaug (pv 0) pe_int in_add)
      (pss_one (ps_ret pe_bl)))),(ab_seq (ab_ifs (ab_test (ab_op ab_ne (ab_meth ab_var ab_nil) ab_var)) (ab_ret ab_bl) ab_next)
      (ab_seq (ab_saug ab_var ab_int ab_radd)
      (ab_ret ab_bl)))⟩
  rintro us A Q ⟨a,p,ts,n,z,t,rfl,hW,ht,q1,q2⟩
  refine ⟨rfl,?_⟩
  walk_at "qs"
  walk_at "qd"
  obtain ⟨⟨dx,ha⟩,hp,hn⟩:=id hW
  refine ⟨a,dx,_,rfl,ha,lk0 (by decide +kernel) (by decide +kernel),a,p,ts,n,rfl,hW,?_⟩
  rw [ht]
  show xNe (.str t) (.str z) A _
  walk_at "qd"
  by_cases h:t=z
  . refine iteFf (by simp [h]) ?_
    refine ⟨a,_,dx,_,_,rfl,ha,T.L_Words,T.N_Words_at,lk2 beq_aw,?_⟩
    walk_at "qd"
    refine ⟨dx,_,ha,by show (2:Nat) < 1000;decide,?_⟩
    rw [pu2 ne_wa]
    exact fg (q2 h dx ha)
  . exact iteTt (by simp [h]) (fg (q1 h))
theorem ok_need:FnOk P w K mg base CX0 3 f_Words_need d_Words_need ["self","word"] (spOf K (asp_need a_Words)):=by
  have G_Words_passed:=ok_passed (P:=P) (w:=w) (base:=base) T
  refine' Fun.okA T.F_Words_need (sc:=?sc14) (body:=?bd14) ?hs14 ?hb14 sc_Words_need ?hB14 ?hS14
  case hs14=>conv=>lhs;whnf
  case hb14=>conv=>lhs;whnf
  case hB14=>exact fun S cdv A outer s H E hr=>⟨_,(pss_one (ps_if (pt_not (pt_val (pe_meth (pv 0) T.L_Words T.W_Words_passed (G_Words_passed.mono (by first | decide | lia)) hr T.B_Words_passed .nil pass0 (pa_cons (pv 1) pa_nil)))) (pss_one ps_no) pss_nil)),(ab_ifs (ab_not (ab_tb (ab_meth ab_var (ab_cons ab_var ab_nil)))) ab_no ab_next)⟩
  rintro us A Q ⟨a,p,ts,n,z,rfl,hW,ht,q⟩
  refine ⟨rfl,?_⟩
  walk_at "qs"
  walk_at "qd"
  obtain ⟨⟨dx,ha⟩,hp,hn⟩:=id hW
  refine ⟨a,dx,_,rfl,ha,lk0 (by decide +kernel) (by decide +kernel),a,p,ts,n,z,z,rfl,hW,ht,fun h=>absurd rfl h,fun _ dx ha=>⟨_,rfl,iteFf rfl (fg (q dx ha))⟩⟩
theorem ok_free:FnOk P w K mg base CX0 2 f_Words_free_word d_Words_free_word ["self"] (spOf K (asp_free a_Words)):=by
  have G_Words_ahead:=ok_ahead (P:=P) (w:=w) (base:=base) T
  have G_is_word:=ok_isw (P:=P) (w:=w) (base:=base) T
  refine' Fun.okA T.F_Words_free_word (sc:=?sc15) (body:=?bd15) ?hs15 ?hb15 sc_Words_free_word ?hB15 ?hS15
  case hs15=>conv=>lhs;whnf
  case hb15=>conv=>lhs;whnf
  case hB15=>exact fun S cdv A outer s H E hr=>⟨_,(pss_cons (ps_set (i:=1) S.nd rfl (Or.inl rfl) (pe_meth0 (pv 0) T.L_Words T.W_Words_ahead (G_Words_ahead.mono (by first | decide | lia)) hr T.B_Words_ahead .nil pass0))
      (pss_cons (ps_if ((pw_or (pt_cmpR op_isN (pv 1) pe_non (nomark _)) (pw_or1 (pt_not (pt_val (pe_call (G_is_word.mono (by first | decide | lia)) hr (by rfl) T.M_is_word T.F_is_word.kp T.B_is_word .nil pass0 (pa_cons (pv 1) pa_nil))))))).pt (pss_one ps_no) pss_nil)
      (pss_cons (ps_fldaug (pv 0) pe_int in_add)
      (pss_one (ps_ret (pv 1)))))),(ab_seq (ab_asg (ab_meth ab_var ab_nil) ab_name)
      (ab_seq (ab_ifs (ab_or (ab_test (ab_op ab_isN ab_var ab_non)) (ab_not (ab_tb (ab_call (ab_cons ab_var ab_nil))))) ab_no ab_next)
      (ab_seq (ab_saug ab_var ab_int ab_radd)
      (ab_ret ab_var))))⟩
  rintro us A Q ⟨a,p,ts,n,z,rfl,hW,ht,hz,q⟩
  refine ⟨rfl,?_⟩
  walk_at "qs"
  walk_at "qd"
  obtain ⟨⟨dx,ha⟩,hp,hn⟩:=id hW
  refine ⟨a,dx,_,rfl,ha,lk0 (by decide +kernel) (by decide +kernel),a,p,ts,n,rfl,hW,?_⟩
  rw [ht]
  refine iteFf rfl ⟨z,rfl,hz,_,rfl,iteFf rfl ?_⟩
  refine ⟨a,_,dx,_,_,rfl,ha,T.L_Words,T.N_Words_at,lk2 beq_aw,?_⟩
  walk_at "qd"
  refine ⟨dx,_,ha,by show (2:Nat) < 1000;decide,?_⟩
  rw [pu2 ne_wa]
  exact fg (q dx ha)
theorem ok_finish:FnOk P w K mg base CX0 2 f_Words_finish d_Words_finish ["self"] (spOf K (asp_finish a_Words)):=by
  have G_Words_ahead:=ok_ahead (P:=P) (w:=w) (base:=base) T
  refine' Fun.okA T.F_Words_finish (sc:=?sc16) (body:=?bd16) ?hs16 ?hb16 sc_Words_finish ?hB16 ?hS16
  case hs16=>conv=>lhs;whnf
  case hb16=>conv=>lhs;whnf
  case hB16=>exact fun S cdv A outer s H E hr=>⟨_,(pss_one (ps_if (pt_cmpR op_notN (pe_meth0 (pv 0) T.L_Words T.W_Words_ahead (G_Words_ahead.mono (by first | decide | lia)) hr T.B_Words_ahead .nil pass0) pe_non (nomark _)) (pss_one ps_no) pss_nil)),(ab_ifs (ab_test (ab_op ab_notN (ab_meth ab_var ab_nil) ab_non)) ab_no ab_next)⟩
  rintro us A Q ⟨a,p,ts,rfl,hW,q⟩
  refine ⟨rfl,?_⟩
  walk_at "qs"
  walk_at "qd"
  obtain ⟨⟨dx,ha⟩,hp,hn⟩:=id hW
  refine ⟨a,dx,_,rfl,ha,lk0 (by decide +kernel) (by decide +kernel),a,p,ts,_,rfl,hW,?_⟩
  rw [List.getElem?_eq_none (Nat.le_refl _)]
  exact iteFf rfl (fg q)
end
theorem lkp {a:Str} {u:U}:List.lookup a [(a,u)]=some u:=by simp [List.lookup]
section
include T
theorem clss:∀ c∈[a_Nothing,a_Bead,a_Named,a_Or,a_By,a_Row,a_Bag,a_Choice,a_Ring],Cls K c:=by
  simp only [List.mem_cons,List.not_mem_nil,or_false,forall_eq_or_imp,forall_eq]
  exact ⟨T.L_Nothing,T.L_Bead,T.L_Named,T.L_Or,T.L_By,T.L_Row,T.L_Bag,T.L_Choice,T.L_Ring⟩
theorem ok_term {n:Nat} (HD_told:MOk P w K mg base CX0 (2 * n + 1) "told" ((tblT (csL [a_Nothing,a_Bead,a_Named,a_Or,a_By,a_Row,a_Bag,a_Choice,a_Ring]) n).map fun p=>(p.1,spOf K p.2))):FnOk P w K mg base CX0 (2 * n + 2) f_term_text d_term_text ["rule"] (spOf K (asp_sh (csL [a_Nothing,a_Bead,a_Named,a_Or,a_By,a_Row,a_Bag,a_Choice,a_Ring]) n 1)):=by
  refine' Fun.okA T.F_term_text (sc:=?sc17) (body:=?bd17) ?hs17 ?hb17 sc_term_text ?hB17 ?hS17
  case hs17=>conv=>lhs;whnf
  case hb17=>conv=>lhs;whnf
  case hB17=>exact fun S cdv A outer s H E hr=>⟨_,(pss_cons (ps_if (pt_val (pe_callB c_isC (by rfl) T.n_isinstance (by decide +kernel) (pa_cons (pv 0) (pa_cons (pe_glob (v:=.ref _) (by rfl) T.m_Or rfl) pa_nil)))) (pss_one (ps_ret (pe_fstr (pj_cons pe_str (pj_cons (pe_fmt (pe_methD0 (pv 0) (HD_told.mono (by first | decide | lia)) hr pass0)) (pj_cons pe_str pj_nil)))))) pss_nil)
      (pss_one (ps_ret (pe_methD0 (pv 0) (HD_told.mono (by first | decide | lia)) hr pass0)))),(ab_seq (ab_ifs (ab_tb (ab_cb ab_isC (ab_cons ab_var (ab_cons ab_ref ab_nil)))) (ab_ret (ab_fstr (ab_jcons ab_str (ab_jcons (ab_fmt (ab_methD ab_var ab_nil)) (ab_jcons ab_str ab_jnil))))) ab_next)
      (ab_ret (ab_methD ab_var ab_nil)))⟩
  rintro us A Q ⟨a,r,rfl,hr,hd,hw,hs,q⟩
  refine ⟨rfl,?_⟩
  walk_at "qs"
  walk_at "qd"
  obtain ⟨dx,fs,ha,_⟩:=hr.cls told_nm
  have hl:=r.txt_len hw
  have hl2:=r.sh_len 1 hw
  have l0:(Str.ofString "( ").length=2:=by decide +kernel
  refine ⟨a,_,dx,fs,_,_,rfl,ha,T.IT.isC (clss T) (i:=r.ci) (j:=3) r.ci_lt (by decide),?_⟩
  rw [<- r.lvl_or]
  by_cases h:r.lvl < 1
  . refine iteTt (decide_eq_true h) ⟨_,rfl,?_,told_go hr hd hw hs ⟨_,rfl,line1000 (by lia),_,rfl,?_,_,rfl,?_,?_,fg ?_⟩⟩
    all_goals rw [emp_app]
    . exact line1000 (by lia)
    . exact line1000 (by rw [Str.length_append];lia)
    all_goals rw [Rl.sh_yes h]
    . exact line1000 (by lia)
    . exact line1000 (by lia)
    . exact q
  . exact iteFf (decide_eq_false h) (told_go hr hd hw hs (fg (by rw [Rl.sh_no h];exact q)))
theorem ok_factor {n:Nat} (HD_told:MOk P w K mg base CX0 (2 * n + 1) "told" ((tblT (csL [a_Nothing,a_Bead,a_Named,a_Or,a_By,a_Row,a_Bag,a_Choice,a_Ring]) n).map fun p=>(p.1,spOf K p.2))):FnOk P w K mg base CX0 (2 * n + 2) f_factor_text d_factor_text ["rule"] (spOf K (asp_sh (csL [a_Nothing,a_Bead,a_Named,a_Or,a_By,a_Row,a_Bag,a_Choice,a_Ring]) n 2)):=by
  refine' Fun.okA T.F_factor_text (sc:=?sc18) (body:=?bd18) ?hs18 ?hb18 sc_factor_text ?hB18 ?hS18
  case hs18=>conv=>lhs;whnf
  case hb18=>conv=>lhs;whnf
  case hB18=>exact fun S cdv A outer s H E hr=>⟨_,(pss_cons (ps_if (pt_val (pe_callB c_isCs (by rfl) T.n_isinstance (by decide +kernel) (pa_cons (pv 0) (pa_cons (pe_tup (pa_cons (pe_glob (v:=.ref _) (by rfl) T.m_Or rfl) (pa_cons (pe_glob (v:=.ref _) (by rfl) T.m_By rfl) pa_nil))) pa_nil)))) (pss_one (ps_ret (pe_fstr (pj_cons pe_str (pj_cons (pe_fmt (pe_methD0 (pv 0) (HD_told.mono (by first | decide | lia)) hr pass0)) (pj_cons pe_str pj_nil)))))) pss_nil)
      (pss_one (ps_ret (pe_methD0 (pv 0) (HD_told.mono (by first | decide | lia)) hr pass0)))),(ab_seq (ab_ifs (ab_tb (ab_cb ab_isCs (ab_cons ab_var (ab_cons (ab_tup (ab_cons ab_ref (ab_cons ab_ref ab_nil))) ab_nil)))) (ab_ret (ab_fstr (ab_jcons ab_str (ab_jcons (ab_fmt (ab_methD ab_var ab_nil)) (ab_jcons ab_str ab_jnil))))) ab_next)
      (ab_ret (ab_methD ab_var ab_nil)))⟩
  rintro us A Q ⟨a,r,rfl,hr,hd,hw,hs,q⟩
  refine ⟨rfl,?_⟩
  walk_at "qs"
  walk_at "qd"
  obtain ⟨dx,fs,ha,_⟩:=hr.cls told_nm
  have hl:=r.txt_len hw
  have hl2:=r.sh_len 2 hw
  have l0:(Str.ofString "( ").length=2:=by decide +kernel
  refine ⟨tup2,⟨a,_,dx,fs,[a_Or,a_By],_,rfl,ha,T.IT.isCs (clss T) (i:=r.ci) (j:=3) (k:=4) r.ci_lt (by decide) (by decide),?_⟩⟩
  rw [<- r.lvl_by]
  by_cases h:r.lvl < 2
  . refine iteTt (decide_eq_true h) ⟨_,rfl,?_,told_go hr hd hw hs ⟨_,rfl,line1000 (by lia),_,rfl,?_,_,rfl,?_,?_,fg ?_⟩⟩
    all_goals rw [emp_app]
    . exact line1000 (by lia)
    . exact line1000 (by rw [Str.length_append];lia)
    all_goals rw [Rl.sh_yes h]
    . exact line1000 (by lia)
    . exact line1000 (by lia)
    . exact q
  . exact iteFf (decide_eq_false h) (told_go hr hd hw hs (fg (by rw [Rl.sh_no h];exact q)))
theorem ok_tBy {n:Nat} (G_term_text:FnOk P w K mg base CX0 (2 * n + 2) f_term_text d_term_text ["rule"] (spOf K (asp_sh (csL [a_Nothing,a_Bead,a_Named,a_Or,a_By,a_Row,a_Bag,a_Choice,a_Ring]) n 1))) (G_factor_text:FnOk P w K mg base CX0 (2 * n + 2) f_factor_text d_factor_text ["rule"] (spOf K (asp_sh (csL [a_Nothing,a_Bead,a_Named,a_Or,a_By,a_Row,a_Bag,a_Choice,a_Ring]) n 2))):FnOk P w K mg base CX0 (2 * n + 3) f_By_told d_By_told ["self"] (spOf K (asp_told (csL [a_Nothing,a_Bead,a_Named,a_Or,a_By,a_Row,a_Bag,a_Choice,a_Ring]) (n + 1) 4)):=by
  refine' Fun.okA T.F_By_told (sc:=?sc19) (body:=?bd19) ?hs19 ?hb19 sc_By_told ?hB19 ?hS19
  case hs19=>conv=>lhs;whnf
  case hb19=>conv=>lhs;whnf
  case hB19=>exact fun S cdv A outer s H E hr=>⟨_,(pss_one (ps_ret (pe_fstr (pj_cons (pe_fmt (pe_call (G_term_text.mono (by first | decide | lia)) hr (by rfl) T.M_term_text T.F_term_text.kp T.B_term_text .nil pass0 (pa_cons (pe_fld (pv 0) rfl) pa_nil))) (pj_cons pe_str (pj_cons (pe_fmt (pe_call (G_factor_text.mono (by first | decide | lia)) hr (by rfl) T.M_factor_text T.F_factor_text.kp T.B_factor_text .nil pass0 (pa_cons (pe_fld (pv 0) rfl) pa_nil))) pj_nil)))))),(ab_ret (ab_fstr (ab_jcons (ab_fmt (ab_call (ab_cons (ab_fld ab_var) ab_nil))) (ab_jcons ab_str (ab_jcons (ab_fmt (ab_call (ab_cons (ab_fld ab_var) ab_nil))) ab_jnil)))))⟩
  rintro us A Q ⟨a,r,rfl,hr,hc,hd,hw,hs,q⟩
  obtain ⟨x,y,rfl⟩:=Rl.ci4 hc
  obtain ⟨dx,p1,p2,ha,h1,h2⟩:=hr
  rw [Rl.txt_by] at q
  simp only [Rl.dep,Rl.wd,Rl.size,Bool.and_eq_true] at hd hw hs
  have l1:=x.sh_len 1 hw.1
  have l2:=y.sh_len 2 hw.2
  have l0:(Str.ofString " by ").length=4:=by decide +kernel
  refine ⟨rfl,?_⟩
  walk_at "qs"
  walk_at "qd"
  refine ⟨a,_,dx,_,_,rfl,ha,T.L_By,T.N_By_one,lk1,p1,x,rfl,h1,by lia,hw.1,by lia,_,rfl,line1000 (by lia),_,rfl,?_,_,rfl,?_,a,_,dx,_,_,rfl,ha,T.L_By,T.N_By_other,lk2 (by decide +kernel),p2,y,rfl,h2,by lia,hw.2,by lia,_,rfl,line1000 (by lia),_,rfl,?_,?_,fg ?_⟩
  all_goals rw [emp_app]
  . exact line1000 (by lia)
  . exact line1000 (by rw [Str.length_append];lia)
  . exact line1000 (by rw [Str.length_append,Str.length_append];lia)
  . exact line1000 (by rw [Str.length_append,Str.length_append];lia)
  . exact q
theorem ok_tOr {n:Nat} (HD_told:MOk P w K mg base CX0 (2 * n + 1) "told" ((tblT (csL [a_Nothing,a_Bead,a_Named,a_Or,a_By,a_Row,a_Bag,a_Choice,a_Ring]) n).map fun p=>(p.1,spOf K p.2))) (G_term_text:FnOk P w K mg base CX0 (2 * n + 2) f_term_text d_term_text ["rule"] (spOf K (asp_sh (csL [a_Nothing,a_Bead,a_Named,a_Or,a_By,a_Row,a_Bag,a_Choice,a_Ring]) n 1))):FnOk P w K mg base CX0 (2 * n + 3) f_Or_told d_Or_told ["self"] (spOf K (asp_told (csL [a_Nothing,a_Bead,a_Named,a_Or,a_By,a_Row,a_Bag,a_Choice,a_Ring]) (n + 1) 3)):=by
  refine' Fun.okA T.F_Or_told (sc:=?sc20) (body:=?bd20) ?hs20 ?hb20 sc_Or_told ?hB20 ?hS20
  case hs20=>conv=>lhs;whnf
  case hb20=>conv=>lhs;whnf
  case hB20=>exact fun S cdv A outer s H E hr=>⟨_,(pss_one (ps_ret (pe_fstr (pj_cons (pe_fmt (pe_methD0 (pe_fld (pv 0) rfl) (HD_told.mono (by first | decide | lia)) hr pass0)) (pj_cons pe_str (pj_cons (pe_fmt (pe_call (G_term_text.mono (by first | decide | lia)) hr (by rfl) T.M_term_text T.F_term_text.kp T.B_term_text .nil pass0 (pa_cons (pe_fld (pv 0) rfl) pa_nil))) pj_nil)))))),(ab_ret (ab_fstr (ab_jcons (ab_fmt (ab_methD (ab_fld ab_var) ab_nil)) (ab_jcons ab_str (ab_jcons (ab_fmt (ab_call (ab_cons (ab_fld ab_var) ab_nil))) ab_jnil)))))⟩
  rintro us A Q ⟨a,r,rfl,hr,hc,hd,hw,hs,q⟩
  obtain ⟨x,y,rfl⟩:=Rl.ci3 hc
  obtain ⟨dx,p1,p2,ha,h1,h2⟩:=hr
  rw [Rl.txt_or,Rl.sh0] at q
  simp only [Rl.dep,Rl.wd,Rl.size,Bool.and_eq_true] at hd hw hs
  have l1:=x.txt_len hw.1
  have l2:=y.sh_len 1 hw.2
  have l0:(Str.ofString " or ").length=4:=by decide +kernel
  refine ⟨rfl,?_⟩
  walk_at "qs"
  walk_at "qd"
  refine ⟨a,_,dx,_,_,rfl,ha,T.L_Or,T.N_Or_one,lk1,told_go h1 (by lia) hw.1 (by lia) ⟨_,rfl,line1000 (by lia),_,rfl,?_,_,rfl,?_,a,_,dx,_,_,rfl,ha,T.L_Or,T.N_Or_other,lk2 (by decide +kernel),p2,y,rfl,h2,by lia,hw.2,by lia,_,rfl,line1000 (by lia),_,rfl,?_,?_,fg ?_⟩⟩
  all_goals rw [emp_app]
  . exact line1000 (by lia)
  . exact line1000 (by rw [Str.length_append];lia)
  . exact line1000 (by rw [Str.length_append,Str.length_append];lia)
  . exact line1000 (by rw [Str.length_append,Str.length_append];lia)
  . exact q
theorem ok_tRow {n:Nat} (G_factor_text:FnOk P w K mg base CX0 (2 * n + 2) f_factor_text d_factor_text ["rule"] (spOf K (asp_sh (csL [a_Nothing,a_Bead,a_Named,a_Or,a_By,a_Row,a_Bag,a_Choice,a_Ring]) n 2))):FnOk P w K mg base CX0 (2 * n + 3) f_Row_told d_Row_told ["self"] (spOf K (asp_told (csL [a_Nothing,a_Bead,a_Named,a_Or,a_By,a_Row,a_Bag,a_Choice,a_Ring]) (n + 1) 5)):=by
  refine' Fun.okA T.F_Row_told (sc:=?sc21) (body:=?bd21) ?hs21 ?hb21 sc_Row_told ?hB21 ?hS21
  case hs21=>conv=>lhs;whnf
  case hb21=>conv=>lhs;whnf
  case hB21=>exact fun S cdv A outer s H E hr=>⟨_,(pss_one (ps_ret (pe_fstr (pj_cons pe_str (pj_cons (pe_fmt (pe_call (G_factor_text.mono (by first | decide | lia)) hr (by rfl) T.M_factor_text T.F_factor_text.kp T.B_factor_text .nil pass0 (pa_cons (pe_fld (pv 0) rfl) pa_nil))) pj_nil))))),(ab_ret (ab_fstr (ab_jcons ab_str (ab_jcons (ab_fmt (ab_call (ab_cons (ab_fld ab_var) ab_nil))) ab_jnil))))⟩
  rintro us A Q ⟨a,r,rfl,hr,hc,hd,hw,hs,q⟩
  obtain ⟨k,x,rfl,hk⟩:=Rl.ci5 (j:=0) (by decide) hc
  obtain ⟨dx,p1,ha,h1⟩:=hr
  rw [hk] at ha
  rw [Rl.txt_hold,<- mname_min,hk,show mname 0++Str.ofString " of "=Str.ofString "row of " from by decide +kernel] at q
  simp only [Rl.dep,Rl.wd,Rl.size] at hd hw hs
  have l1:=x.sh_len 2 hw
  have l0:(Str.ofString "row of ").length<=10:=by decide +kernel
  refine ⟨rfl,?_⟩
  walk_at "qs"
  walk_at "qd"
  refine ⟨_,rfl,?_,a,_,dx,_,_,rfl,ha,T.L_Row,T.N_Row_part,lkp,p1,x,rfl,h1,by lia,hw,by lia,_,rfl,line1000 (by lia),_,rfl,?_,?_,fg ?_⟩
  all_goals rw [emp_app]
  . exact line1000 (by lia)
  . exact line1000 (by rw [Str.length_append];lia)
  . exact line1000 (by rw [Str.length_append];lia)
  . exact q
theorem ok_tBag {n:Nat} (G_factor_text:FnOk P w K mg base CX0 (2 * n + 2) f_factor_text d_factor_text ["rule"] (spOf K (asp_sh (csL [a_Nothing,a_Bead,a_Named,a_Or,a_By,a_Row,a_Bag,a_Choice,a_Ring]) n 2))):FnOk P w K mg base CX0 (2 * n + 3) f_Bag_told d_Bag_told ["self"] (spOf K (asp_told (csL [a_Nothing,a_Bead,a_Named,a_Or,a_By,a_Row,a_Bag,a_Choice,a_Ring]) (n + 1) 6)):=by
  refine' Fun.okA T.F_Bag_told (sc:=?sc22) (body:=?bd22) ?hs22 ?hb22 sc_Bag_told ?hB22 ?hS22
  case hs22=>conv=>lhs;whnf
  case hb22=>conv=>lhs;whnf
  case hB22=>exact fun S cdv A outer s H E hr=>⟨_,(pss_one (ps_ret (pe_fstr (pj_cons pe_str (pj_cons (pe_fmt (pe_call (G_factor_text.mono (by first | decide | lia)) hr (by rfl) T.M_factor_text T.F_factor_text.kp T.B_factor_text .nil pass0 (pa_cons (pe_fld (pv 0) rfl) pa_nil))) pj_nil))))),(ab_ret (ab_fstr (ab_jcons ab_str (ab_jcons (ab_fmt (ab_call (ab_cons (ab_fld ab_var) ab_nil))) ab_jnil))))⟩
  rintro us A Q ⟨a,r,rfl,hr,hc,hd,hw,hs,q⟩
  obtain ⟨k,x,rfl,hk⟩:=Rl.ci5 (j:=1) (by decide) hc
  obtain ⟨dx,p1,ha,h1⟩:=hr
  rw [hk] at ha
  rw [Rl.txt_hold,<- mname_min,hk,show mname 1++Str.ofString " of "=Str.ofString "bag of " from by decide +kernel] at q
  simp only [Rl.dep,Rl.wd,Rl.size] at hd hw hs
  have l1:=x.sh_len 2 hw
  have l0:(Str.ofString "bag of ").length<=10:=by decide +kernel
  refine ⟨rfl,?_⟩
  walk_at "qs"
  walk_at "qd"
  refine ⟨_,rfl,?_,a,_,dx,_,_,rfl,ha,T.L_Bag,T.N_Bag_part,lkp,p1,x,rfl,h1,by lia,hw,by lia,_,rfl,line1000 (by lia),_,rfl,?_,?_,fg ?_⟩
  all_goals rw [emp_app]
  . exact line1000 (by lia)
  . exact line1000 (by rw [Str.length_append];lia)
  . exact line1000 (by rw [Str.length_append];lia)
  . exact q
theorem ok_tChoice {n:Nat} (G_factor_text:FnOk P w K mg base CX0 (2 * n + 2) f_factor_text d_factor_text ["rule"] (spOf K (asp_sh (csL [a_Nothing,a_Bead,a_Named,a_Or,a_By,a_Row,a_Bag,a_Choice,a_Ring]) n 2))):FnOk P w K mg base CX0 (2 * n + 3) f_Choice_told d_Choice_told ["self"] (spOf K (asp_told (csL [a_Nothing,a_Bead,a_Named,a_Or,a_By,a_Row,a_Bag,a_Choice,a_Ring]) (n + 1) 7)):=by
  refine' Fun.okA T.F_Choice_told (sc:=?sc23) (body:=?bd23) ?hs23 ?hb23 sc_Choice_told ?hB23 ?hS23
  case hs23=>conv=>lhs;whnf
  case hb23=>conv=>lhs;whnf
  case hB23=>exact fun S cdv A outer s H E hr=>⟨_,(pss_one (ps_ret (pe_fstr (pj_cons pe_str (pj_cons (pe_fmt (pe_call (G_factor_text.mono (by first | decide | lia)) hr (by rfl) T.M_factor_text T.F_factor_text.kp T.B_factor_text .nil pass0 (pa_cons (pe_fld (pv 0) rfl) pa_nil))) pj_nil))))),(ab_ret (ab_fstr (ab_jcons ab_str (ab_jcons (ab_fmt (ab_call (ab_cons (ab_fld ab_var) ab_nil))) ab_jnil))))⟩
  rintro us A Q ⟨a,r,rfl,hr,hc,hd,hw,hs,q⟩
  obtain ⟨k,x,rfl,hk⟩:=Rl.ci5 (j:=2) (by decide) hc
  obtain ⟨dx,p1,ha,h1⟩:=hr
  rw [hk] at ha
  rw [Rl.txt_hold,<- mname_min,hk,show mname 2++Str.ofString " of "=Str.ofString "choice of " from by decide +kernel] at q
  simp only [Rl.dep,Rl.wd,Rl.size] at hd hw hs
  have l1:=x.sh_len 2 hw
  have l0:(Str.ofString "choice of ").length<=10:=by decide +kernel
  refine ⟨rfl,?_⟩
  walk_at "qs"
  walk_at "qd"
  refine ⟨_,rfl,?_,a,_,dx,_,_,rfl,ha,T.L_Choice,T.N_Choice_part,lkp,p1,x,rfl,h1,by lia,hw,by lia,_,rfl,line1000 (by lia),_,rfl,?_,?_,fg ?_⟩
  all_goals rw [emp_app]
  . exact line1000 (by lia)
  . exact line1000 (by rw [Str.length_append];lia)
  . exact line1000 (by rw [Str.length_append];lia)
  . exact q
theorem ok_tRing {n:Nat} (G_factor_text:FnOk P w K mg base CX0 (2 * n + 2) f_factor_text d_factor_text ["rule"] (spOf K (asp_sh (csL [a_Nothing,a_Bead,a_Named,a_Or,a_By,a_Row,a_Bag,a_Choice,a_Ring]) n 2))):FnOk P w K mg base CX0 (2 * n + 3) f_Ring_told d_Ring_told ["self"] (spOf K (asp_told (csL [a_Nothing,a_Bead,a_Named,a_Or,a_By,a_Row,a_Bag,a_Choice,a_Ring]) (n + 1) 8)):=by
  refine' Fun.okA T.F_Ring_told (sc:=?sc24) (body:=?bd24) ?hs24 ?hb24 sc_Ring_told ?hB24 ?hS24
  case hs24=>conv=>lhs;whnf
  case hb24=>conv=>lhs;whnf
  case hB24=>exact fun S cdv A outer s H E hr=>⟨_,(pss_one (ps_ret (pe_fstr (pj_cons pe_str (pj_cons (pe_fmt (pe_call (G_factor_text.mono (by first | decide | lia)) hr (by rfl) T.M_factor_text T.F_factor_text.kp T.B_factor_text .nil pass0 (pa_cons (pe_fld (pv 0) rfl) pa_nil))) pj_nil))))),(ab_ret (ab_fstr (ab_jcons ab_str (ab_jcons (ab_fmt (ab_call (ab_cons (ab_fld ab_var) ab_nil))) ab_jnil))))⟩
  rintro us A Q ⟨a,r,rfl,hr,hc,hd,hw,hs,q⟩
  obtain ⟨k,x,rfl,hk⟩:=Rl.ci5 (j:=3) (by decide) hc
  obtain ⟨dx,p1,ha,h1⟩:=hr
  rw [hk] at ha
  rw [Rl.txt_hold,<- mname_min,hk,show mname 3++Str.ofString " of "=Str.ofString "ring of " from by decide +kernel] at q
  simp only [Rl.dep,Rl.wd,Rl.size] at hd hw hs
  have l1:=x.sh_len 2 hw
  have l0:(Str.ofString "ring of ").length<=10:=by decide +kernel
  refine ⟨rfl,?_⟩
  walk_at "qs"
  walk_at "qd"
  refine ⟨_,rfl,?_,a,_,dx,_,_,rfl,ha,T.L_Ring,T.N_Ring_part,lkp,p1,x,rfl,h1,by lia,hw,by lia,_,rfl,line1000 (by lia),_,rfl,?_,?_,fg ?_⟩
  all_goals rw [emp_app]
  . exact line1000 (by lia)
  . exact line1000 (by rw [Str.length_append];lia)
  . exact line1000 (by rw [Str.length_append];lia)
  . exact q
theorem ok_tBead {n:Nat}:FnOk P w K mg base CX0 1 f_Bead_told d_Bead_told ["self"] (spOf K (asp_told (csL [a_Nothing,a_Bead,a_Named,a_Or,a_By,a_Row,a_Bag,a_Choice,a_Ring]) n 1)):=by
  refine' Fun.okA T.F_Bead_told (sc:=?sc25) (body:=?bd25) ?hs25 ?hb25 sc_Bead_told ?hB25 ?hS25
  case hs25=>conv=>lhs;whnf
  case hb25=>conv=>lhs;whnf
  case hB25=>exact fun S cdv A outer s H E hr=>⟨_,(pss_one (ps_ret (pe_fstr (pj_cons pe_str (pj_cons (pe_fmt (pe_fld (pv 0) rfl)) pj_nil))))),(ab_ret (ab_fstr (ab_jcons ab_str (ab_jcons (ab_fmt (ab_fld ab_var)) ab_jnil))))⟩
  rintro us A Q ⟨a,r,rfl,hr,hc,hd,hw,hs,q⟩
  obtain ⟨c,rfl⟩:=Rl.ci1 hc
  obtain ⟨dx,ha⟩:=hr
  rw [Rl.txt_bead] at q
  have l1:=(wdB_of hw).2.2.1
  have l0:(Str.ofString "bead ").length=5:=by decide +kernel
  refine ⟨rfl,?_⟩
  walk_at "qs"
  walk_at "qd"
  refine ⟨_,rfl,?_,a,_,dx,_,_,rfl,ha,T.L_Bead,T.N_Bead_colour,lkp,_,rfl,line1000 (by lia),_,rfl,?_,?_,fg ?_⟩
  all_goals rw [emp_app]
  . exact line1000 (by lia)
  . exact line1000 (by rw [Str.length_append];lia)
  . exact line1000 (by rw [Str.length_append];lia)
  . exact q
theorem ok_tNamed {n:Nat}:FnOk P w K mg base CX0 1 f_Named_told d_Named_told ["self"] (spOf K (asp_told (csL [a_Nothing,a_Bead,a_Named,a_Or,a_By,a_Row,a_Bag,a_Choice,a_Ring]) n 2)):=by
  refine' Fun.okA T.F_Named_told (sc:=?sc26) (body:=?bd26) ?hs26 ?hb26 sc_Named_told ?hB26 ?hS26
  case hs26=>conv=>lhs;whnf
  case hb26=>conv=>lhs;whnf
  case hB26=>exact fun S cdv A outer s H E hr=>⟨_,(pss_one (ps_ret (pe_fld (pv 0) rfl))),(ab_ret (ab_fld ab_var))⟩
  rintro us A Q ⟨a,r,rfl,hr,hc,hd,hw,hs,q⟩
  obtain ⟨c,rfl⟩:=Rl.ci2 hc
  obtain ⟨dx,ha⟩:=hr
  rw [Rl.txt_named] at q
  refine ⟨rfl,?_⟩
  walk_at "qs"
  walk_at "qd"
  exact ⟨a,_,dx,_,_,rfl,ha,T.L_Named,T.N_Named_name,lkp,fg q⟩
theorem ok_tNothing {n:Nat}:FnOk P w K mg base CX0 1 f_Nothing_told d_Nothing_told ["self"] (spOf K (asp_told (csL [a_Nothing,a_Bead,a_Named,a_Or,a_By,a_Row,a_Bag,a_Choice,a_Ring]) n 0)):=by
  refine' Fun.okA T.F_Nothing_told (sc:=?sc27) (body:=?bd27) ?hs27 ?hb27 sc_Nothing_told ?hB27 ?hS27
  case hs27=>conv=>lhs;whnf
  case hb27=>conv=>lhs;whnf
  case hB27=>exact fun S cdv A outer s H E hr=>⟨_,(pss_one (ps_ret pe_str)),(ab_ret ab_str)⟩
  rintro us A Q ⟨a,r,rfl,hr,hc,hd,hw,hs,q⟩
  have:=Rl.ci0 hc
  subst this
  refine ⟨rfl,?_⟩
  walk_at "qs"
  walk_at "qd"
  exact fg q
theorem mok_all {k n:Nat} (h0:FnOk P w K mg base CX0 (k) f_Nothing_told d_Nothing_told ["self"] (spOf K (asp_told (csL [a_Nothing,a_Bead,a_Named,a_Or,a_By,a_Row,a_Bag,a_Choice,a_Ring]) n 0))) (h1:FnOk P w K mg base CX0 (k) f_Bead_told d_Bead_told ["self"] (spOf K (asp_told (csL [a_Nothing,a_Bead,a_Named,a_Or,a_By,a_Row,a_Bag,a_Choice,a_Ring]) n 1))) (h2:FnOk P w K mg base CX0 (k) f_Named_told d_Named_told ["self"] (spOf K (asp_told (csL [a_Nothing,a_Bead,a_Named,a_Or,a_By,a_Row,a_Bag,a_Choice,a_Ring]) n 2))) (h3:FnOk P w K mg base CX0 (k) f_Or_told d_Or_told ["self"] (spOf K (asp_told (csL [a_Nothing,a_Bead,a_Named,a_Or,a_By,a_Row,a_Bag,a_Choice,a_Ring]) n 3))) (h4:FnOk P w K mg base CX0 (k) f_By_told d_By_told ["self"] (spOf K (asp_told (csL [a_Nothing,a_Bead,a_Named,a_Or,a_By,a_Row,a_Bag,a_Choice,a_Ring]) n 4))) (h5:FnOk P w K mg base CX0 (k) f_Row_told d_Row_told ["self"] (spOf K (asp_told (csL [a_Nothing,a_Bead,a_Named,a_Or,a_By,a_Row,a_Bag,a_Choice,a_Ring]) n 5))) (h6:FnOk P w K mg base CX0 (k) f_Bag_told d_Bag_told ["self"] (spOf K (asp_told (csL [a_Nothing,a_Bead,a_Named,a_Or,a_By,a_Row,a_Bag,a_Choice,a_Ring]) n 6))) (h7:FnOk P w K mg base CX0 (k) f_Choice_told d_Choice_told ["self"] (spOf K (asp_told (csL [a_Nothing,a_Bead,a_Named,a_Or,a_By,a_Row,a_Bag,a_Choice,a_Ring]) n 7))) (h8:FnOk P w K mg base CX0 (k) f_Ring_told d_Ring_told ["self"] (spOf K (asp_told (csL [a_Nothing,a_Bead,a_Named,a_Or,a_By,a_Row,a_Bag,a_Choice,a_Ring]) n 8))):MOk P w K mg base CX0 k "told" ((tblT (csL [a_Nothing,a_Bead,a_Named,a_Or,a_By,a_Row,a_Bag,a_Choice,a_Ring]) n).map fun p=>(p.1,spOf K p.2)):=by
  refine mok_of fun i hi=>?_
  rcases i with _ | i
  . exact ⟨_,_,_,T.L_Nothing,T.W_Nothing_told,h0,T.B_Nothing_told⟩
  rcases i with _ | i
  . exact ⟨_,_,_,T.L_Bead,T.W_Bead_told,h1,T.B_Bead_told⟩
  rcases i with _ | i
  . exact ⟨_,_,_,T.L_Named,T.W_Named_told,h2,T.B_Named_told⟩
  rcases i with _ | i
  . exact ⟨_,_,_,T.L_Or,T.W_Or_told,h3,T.B_Or_told⟩
  rcases i with _ | i
  . exact ⟨_,_,_,T.L_By,T.W_By_told,h4,T.B_By_told⟩
  rcases i with _ | i
  . exact ⟨_,_,_,T.L_Row,T.W_Row_told,h5,T.B_Row_told⟩
  rcases i with _ | i
  . exact ⟨_,_,_,T.L_Bag,T.W_Bag_told,h6,T.B_Bag_told⟩
  rcases i with _ | i
  . exact ⟨_,_,_,T.L_Choice,T.W_Choice_told,h7,T.B_Choice_told⟩
  rcases i with _ | i
  . exact ⟨_,_,_,T.L_Ring,T.W_Ring_told,h8,T.B_Ring_told⟩
  lia
theorem ok_told (n:Nat):MOk P w K mg base CX0 (2 * n + 1) "told" ((tblT (csL [a_Nothing,a_Bead,a_Named,a_Or,a_By,a_Row,a_Bag,a_Choice,a_Ring]) n).map fun p=>(p.1,spOf K p.2)):=by
  induction n with
  | zero=>exact mok_all T (ok_tNothing T) (ok_tBead T) (ok_tNamed T) (none_yet T.F_Or_told sc_Or_told told0) (none_yet T.F_By_told sc_By_told told0) (none_yet T.F_Row_told sc_Row_told told0) (none_yet T.F_Bag_told sc_Bag_told told0) (none_yet T.F_Choice_told sc_Choice_told told0) (none_yet T.F_Ring_told sc_Ring_told told0)
  | succ n ih =>
    have gt:=ok_term T ih
    have gf:=ok_factor T ih
    exact mok_all T ((ok_tNothing T).mono (by lia)) ((ok_tBead T).mono (by lia)) ((ok_tNamed T).mono (by lia)) (ok_tOr T ih gt) (ok_tBy T gt gf) (ok_tRow T gf) (ok_tBag T gf) (ok_tChoice T gf) (ok_tRing T gf)
end
section
include T
theorem ok_passB:FnOk P w K mg base CX0 2 f_Words_passed d_Words_passed ["self","word"] (spOf K (asp_passB a_Words)):=by
  have G_Words_ahead:=ok_ahead (P:=P) (w:=w) (base:=base) T
  refine' Fun.okA T.F_Words_passed (sc:=?sc13) (body:=?bd13) ?hs13 ?hb13 sc_Words_passed ?hB13 ?hS13
  case hs13=>conv=>lhs;whnf
  case hb13=>conv=>lhs;whnf
  case hB13=>exact fun S cdv A outer s H E hr=>⟨_,(pss_cons (ps_if (pt_cmpR (o_neD hr) (pe_meth0 (pv 0) T.L_Words T.W_Words_ahead (G_Words_ahead.mono (by first | decide | lia)) hr T.B_Words_ahead .nil pass0) (pv 1) (nomark _)) (pss_one (ps_ret pe_bl)) pss_nil)
      (pss_cons (ps_fldaug (pv 0) pe_int in_add)
      (pss_one (ps_ret pe_bl)))),(ab_seq (ab_ifs (ab_test (ab_op ab_ne (ab_meth ab_var ab_nil) ab_var)) (ab_ret ab_bl) ab_next)
      (ab_seq (ab_saug ab_var ab_int ab_radd)
      (ab_ret ab_bl)))⟩
  rintro us A Q ⟨a,dx,p,B,ts,n,z,rfl,rfl,hW,hn,q1,q2⟩
  refine ⟨rfl,?_⟩
  walk_at "qs"
  walk_at "qd"
  have hO:=hW.ok (C:=a_Words) (dx:=dx) hn
  refine ⟨a,dx,_,rfl,Wst.at_,lk0 (by decide +kernel) (by decide +kernel),a,p,ts,n,rfl,hO,?_⟩
  cases ht:ts[n]? with
  | none =>
    show xNe .non (.str z) _ _
    rw [q_nens]
    exact ⟨_,rfl,iteTt rfl (fg (q1 (by rw [ht];simp)))⟩
  | some t =>
    show xNe (.str t) (.str z) _ _
    walk_at "qd"
    by_cases h:t=z
    . refine iteFf (by simp [h]) ?_
      refine ⟨a,_,dx,_,_,rfl,Wst.at_,T.L_Words,T.N_Words_at,lk2 beq_aw,?_⟩
      walk_at "qd"
      refine ⟨dx,_,Wst.at_,by show (2:Nat) < 1000;decide,?_⟩
      rw [pu2 ne_wa]
      have:=q2 (by rw [ht,h])
      rw [<- Wst.put (n:=n)] at this
      exact fg this
    . exact iteTt (by simp [h]) (fg (q1 (by rw [ht];simpa using h)))
theorem ok_aheadB:FnOk P w K mg base CX0 1 f_Words_ahead d_Words_ahead ["self"] (spOf K (asp_aheadB a_Words optU)):=(ok_ahead T).imp (spOf_imp fun us A Q ⟨a,dx,p,B,ts,n,e1,e2,hW,hn,q⟩=>⟨a,p,ts,n,e1,by rw [e2];exact hW.ok hn,q⟩)
theorem ok_needB:FnOk P w K mg base CX0 3 f_Words_need d_Words_need ["self","word"] (spOf K (asp_needB a_Words)):=(ok_need T).imp (spOf_imp fun us A Q ⟨a,dx,p,B,ts,n,z,e1,e2,hW,ht,q⟩=>⟨a,p,ts,n,z,e1,by rw [e2];exact hW.ok (Nat.le_of_lt (List.getElem?_eq_some_iff.mp ht).1),ht,fun dx2 h2=>by
  rw [e2,Wst.at_] at h2
  cases h2
  rw [e2,Wst.put]
  exact q⟩)
theorem ok_freeB:FnOk P w K mg base CX0 2 f_Words_free_word d_Words_free_word ["self"] (spOf K (asp_freeB a_Words)):=(ok_free T).imp (spOf_imp fun us A Q ⟨a,dx,p,B,ts,n,z,e1,e2,hW,ht,hz,q⟩=>⟨a,p,ts,n,z,e1,by rw [e2];exact hW.ok (Nat.le_of_lt (List.getElem?_eq_some_iff.mp ht).1),ht,hz,fun dx2 h2=>by
  rw [e2,Wst.at_] at h2
  cases h2
  rw [e2,Wst.put]
  exact q⟩)
theorem ok_held:FnOk P w K mg base CX0 3 f_held d_held ["holder","part"] (spOf K (asp_held (csL [a_Nothing,a_Bead,a_Named,a_Or,a_By,a_Row,a_Bag,a_Choice,a_Ring]))):=by
  have G_Row___init__:=ok_iRow (P:=P) (w:=w) (base:=base) T
  have G_Bag___init__:=ok_iBag (P:=P) (w:=w) (base:=base) T
  have G_Choice___init__:=ok_iChoice (P:=P) (w:=w) (base:=base) T
  have G_Ring___init__:=ok_iRing (P:=P) (w:=w) (base:=base) T
  refine' Fun.okA T.F_held (sc:=?sc28) (body:=?bd28) ?hs28 ?hb28 sc_held ?hB28 ?hS28
  case hs28=>conv=>lhs;whnf
  case hb28=>conv=>lhs;whnf
  case hB28=>exact fun S cdv A outer s H E hr=>⟨_,(pss_cons (ps_if (pt_cmpR (o_eqD hr) (pv 0) pe_str (nomark _)) (pss_one (ps_ret (pe_make T.K_Row (G_Row___init__.mono (by first | decide | lia)) hr (by rfl) T.m_Row T.B_Row___init__ .nil pass0 (pa_cons (pv 1) pa_nil)))) pss_nil)
      (pss_cons (ps_if (pt_cmpR (o_eqD hr) (pv 0) pe_str (nomark _)) (pss_one (ps_ret (pe_make T.K_Bag (G_Bag___init__.mono (by first | decide | lia)) hr (by rfl) T.m_Bag T.B_Bag___init__ .nil pass0 (pa_cons (pv 1) pa_nil)))) pss_nil)
      (pss_cons (ps_if (pt_cmpR (o_eqD hr) (pv 0) pe_str (nomark _)) (pss_one (ps_ret (pe_make T.K_Choice (G_Choice___init__.mono (by first | decide | lia)) hr (by rfl) T.m_Choice T.B_Choice___init__ .nil pass0 (pa_cons (pv 1) pa_nil)))) pss_nil)
      (pss_one (ps_ret (pe_make T.K_Ring (G_Ring___init__.mono (by first | decide | lia)) hr (by rfl) T.m_Ring T.B_Ring___init__ .nil pass0 (pa_cons (pv 1) pa_nil))))))),(ab_seq (ab_ifs (ab_test (ab_op ab_eq ab_var ab_str)) (ab_ret (ab_make (ab_cons ab_var ab_nil))) ab_next)
      (ab_seq (ab_ifs (ab_test (ab_op ab_eq ab_var ab_str)) (ab_ret (ab_make (ab_cons ab_var ab_nil))) ab_next)
      (ab_seq (ab_ifs (ab_test (ab_op ab_eq ab_var ab_str)) (ab_ret (ab_make (ab_cons ab_var ab_nil))) ab_next)
      (ab_ret (ab_make (ab_cons ab_var ab_nil))))))⟩
  rintro us A Q ⟨k,a,rfl,q⟩
  refine ⟨rfl,?_⟩
  walk_at "qs"
  walk_at "qd"
  have q':∀ (C:Addr) (b dx:Addr),A b=none->(csL [a_Nothing,a_Bead,a_Named,a_Or,a_By,a_Row,a_Bag,a_Choice,a_Ring]) (5 + min k 3)=C->Fg Q (.ref b) (updA (updA A b (.ins C dx [])) b (.ins C dx [("part",.ref a)])):=fun C b dx hb e=>by
    subst e
    rw [updA_updA]
    exact fg (q b dx hb)
  rcases k with _ | _ | _ | k
  . exact iteTt (by decide +kernel) fun b dx hb=>⟨b,dx,_,rfl,updA_same,rfl,q' _ b dx hb rfl⟩
  . exact iteFf (by decide +kernel) (iteTt (by decide +kernel) fun b dx hb=>⟨b,dx,_,rfl,updA_same,rfl,q' _ b dx hb rfl⟩)
  . exact iteFf (by decide +kernel) (iteFf (by decide +kernel) (iteTt (by decide +kernel) fun b dx hb=>⟨b,dx,_,rfl,updA_same,rfl,q' _ b dx hb rfl⟩))
  . rw [show mname (k + 1 + 1 + 1)=mname 3 from rfl]
    exact iteFf (by decide +kernel) (iteFf (by decide +kernel) (iteFf (by decide +kernel) fun b dx hb=>⟨b,dx,_,rfl,updA_same,rfl,q' _ b dx hb (by rw [Nat.min_eq_right (by lia)];rfl)⟩))
theorem ok_npf {d:Nat} (G_next_rule:FnOk P w K mg base CX0 (4 * d + 4) f_next_rule d_next_rule ["words"] (spOf K (asp_rd (csL [a_Nothing,a_Bead,a_Named,a_Or,a_By,a_Row,a_Bag,a_Choice,a_Ring]) a_Words d 0))):FnOk P w K mg base CX0 (4 * d + 5) f_next_plain_factor d_next_plain_factor ["words"] (spOf K (asp_pf (csL [a_Nothing,a_Bead,a_Named,a_Or,a_By,a_Row,a_Bag,a_Choice,a_Ring]) a_Words d)):=by
  have G_Words_passed:=ok_passB (P:=P) (w:=w) (base:=base) T
  have G_Words_need:=ok_needB (P:=P) (w:=w) (base:=base) T
  have G_Words_free_word:=ok_freeB (P:=P) (w:=w) (base:=base) T
  have G_Bead___init__:=ok_iBead (P:=P) (w:=w) (base:=base) T
  have G_Named___init__:=ok_iNamed (P:=P) (w:=w) (base:=base) T
  refine' Fun.okA T.F_next_plain_factor (sc:=?sc29) (body:=?bd29) ?hs29 ?hb29 sc_next_plain_factor ?hB29 ?hS29
  case hs29=>conv=>lhs;whnf
  case hb29=>conv=>lhs;whnf
  case hB29=>exact fun S cdv A outer s H E hr=>⟨_,(pss_cons (ps_if (pt_val (pe_meth (pv 0) T.L_Words T.W_Words_passed (G_Words_passed.mono (by first | decide | lia)) hr T.B_Words_passed .nil pass0 (pa_cons pe_str pa_nil))) (pss_one (ps_ret (pe_mk0 T.K_Nothing (by rfl) T.m_Nothing))) pss_nil)
      (pss_cons (ps_if (pt_val (pe_meth (pv 0) T.L_Words T.W_Words_passed (G_Words_passed.mono (by first | decide | lia)) hr T.B_Words_passed .nil pass0 (pa_cons pe_str pa_nil))) (pss_one (ps_ret (pe_make T.K_Bead (G_Bead___init__.mono (by first | decide | lia)) hr (by rfl) T.m_Bead T.B_Bead___init__ .nil pass0 (pa_cons (pe_meth0 (pv 0) T.L_Words T.W_Words_free_word (G_Words_free_word.mono (by first | decide | lia)) hr T.B_Words_free_word .nil pass0) pa_nil)))) pss_nil)
      (pss_cons (ps_if (pt_val (pe_meth (pv 0) T.L_Words T.W_Words_passed (G_Words_passed.mono (by first | decide | lia)) hr T.B_Words_passed .nil pass0 (pa_cons pe_str pa_nil))) (pss_cons (ps_set (i:=1) S.nd rfl (Or.inl rfl) (pe_call (G_next_rule.mono (by first | decide | lia)) hr (by rfl) T.M_next_rule T.F_next_rule.kp T.B_next_rule .nil pass0 (pa_cons (pv 0) pa_nil)))
      (pss_cons (ps_expr (pe_meth (pv 0) T.L_Words T.W_Words_need (G_Words_need.mono (by first | decide | lia)) hr T.B_Words_need .nil pass0 (pa_cons pe_str pa_nil)))
      (pss_one (ps_ret (pv 1))))) pss_nil)
      (pss_one (ps_ret (pe_make T.K_Named (G_Named___init__.mono (by first | decide | lia)) hr (by rfl) T.m_Named T.B_Named___init__ .nil pass0 (pa_cons (pe_meth0 (pv 0) T.L_Words T.W_Words_free_word (G_Words_free_word.mono (by first | decide | lia)) hr T.B_Words_free_word .nil pass0) pa_nil))))))),(ab_seq (ab_ifs (ab_tb (ab_meth ab_var (ab_cons ab_str ab_nil))) (ab_ret ab_mk0) ab_next)
      (ab_seq (ab_ifs (ab_tb (ab_meth ab_var (ab_cons ab_str ab_nil))) (ab_ret (ab_make (ab_cons (ab_meth ab_var ab_nil) ab_nil))) ab_next)
      (ab_seq (ab_ifs (ab_tb (ab_meth ab_var (ab_cons ab_str ab_nil))) (ab_seq (ab_asg (ab_call (ab_cons ab_var ab_nil)) ab_name)
      (ab_seq (ab_drop (ab_meth ab_var (ab_cons ab_str ab_nil)))
      (ab_ret ab_var))) ab_next)
      (ab_ret (ab_make (ab_cons (ab_meth ab_var ab_nil) ab_nil))))))⟩
  rintro us A Q ⟨wa,dx,p,B,ts,n,r,a,rest,rfl,rfl,hW,ht,hp,hw,q⟩
  refine ⟨rfl,?_⟩
  walk_at "qs"
  walk_at "qd"
  have new:∀ (B':AHp) (b dx2:Addr) (m:Nat) (C:Addr) (fs:List (Str × U)),Ext B B'->B' wa=none->Wst a_Words dx p wa B' m b=none->m=n + a.length->(∀ B2,B2 b=some (.ins C dx2 fs)->RlO (csL [a_Nothing,a_Bead,a_Named,a_Or,a_By,a_Row,a_Bag,a_Choice,a_Ring]) B2 b r)->Fg Q (.ref b) (updA (Wst a_Words dx p wa B' m) b (.ins C dx2 fs)):=fun B' b dx2 m C fs e hn hb em hr=>by
    obtain ⟨h1,h2,h3⟩:=Wst.new hb
    rw [h3,em]
    exact fg (q _ b (e.trans (Ext.new h2)) (by rw [updA_ne (Ne.symm h1)];exact hn) (hr _ updA_same))
  rcases hp with ⟨rfl,rfl⟩ | ⟨c,rfl,rfl⟩ | ⟨c,rfl,rfl⟩ | ⟨e,b,he,hwd,rfl⟩
  . obtain ⟨h1,h2,h3⟩:=dr1 ht
    exact pass_y hW h1 ⟨_,rfl,iteTt rfl fun x dx2 hx=>new B x dx2 (n + 1) _ [] (Ext.refl B) hW.no hx rfl fun B2 h=>⟨dx2,h⟩⟩
  . obtain ⟨h1,h2,h3⟩:=dr1 ht
    obtain ⟨h4,h5,h6⟩:=dr1 h2
    refine pass_n hW (by lia) (by rw [h1];decide +kernel) ⟨_,rfl,iteFf rfl ?_⟩
    refine pass_y hW h1 ⟨_,rfl,iteTt rfl ?_⟩
    refine free_y hW h4 hw fun x dx2 hx=>⟨x,dx2,_,rfl,updA_same,rfl,?_⟩
    rw [updA_updA]
    exact new B x dx2 (n + 1 + 1) _ _ (Ext.refl B) hW.no hx rfl fun B2 h=>⟨dx2,h⟩
  . obtain ⟨h1,h2,h3⟩:=dr1 ht
    have hc:∀ z∈(["nothing","bead","or","by","row","bag","choice","ring","of","left","right","(",")"]:List Str),ts[n]?≠some z:=fun z hz=>by rw [h1];intro e;injection e with e;exact wd_not hw hz e
    refine pass_n hW (by lia) (hc _ (by decide +kernel)) ⟨_,rfl,iteFf rfl ?_⟩
    refine pass_n hW (by lia) (hc _ (by decide +kernel)) ⟨_,rfl,iteFf rfl ?_⟩
    refine pass_n hW (by lia) (hc _ (by decide +kernel)) ⟨_,rfl,iteFf rfl ?_⟩
    refine free_y hW h1 hw fun x dx2 hx=>⟨x,dx2,_,rfl,updA_same,rfl,?_⟩
    rw [updA_updA]
    exact new B x dx2 (n + 1) _ _ (Ext.refl B) hW.no hx rfl fun B2 h=>⟨dx2,h⟩
  . obtain ⟨h1,h2,h3⟩:=dr1 ht
    replace h2:ts.drop (n + 1)=b++((")":Str)::rest):=h2.trans (by show (b++[(")":Str)])++rest=_;simp)
    refine pass_n hW (by lia) (by rw [h1];decide +kernel) ⟨_,rfl,iteFf rfl ?_⟩
    refine pass_n hW (by lia) (by rw [h1];decide +kernel) ⟨_,rfl,iteFf rfl ?_⟩
    refine pass_y hW h1 ⟨_,rfl,iteTt rfl ?_⟩
    refine ⟨wa,dx,p,B,ts,n + 1,r,b,_,e,rfl,rfl,hW,h2,he,hwd,hw,⟨fun _=>hd_ne (by decide +kernel),fun _=>hd_ne (by decide +kernel)⟩,fun B' c eB hn hr=>?_⟩
    refine need_y (hW.ext eB hn) (dr1 (drA h2)).1 (fg ?_)
    have:=q B' c eB hn hr
    rwa [List.length_cons,List.length_append,show n + (b.length + [(")":Str)].length + 1)=n + 1 + b.length + 1 from by simp only [List.length_cons,List.length_nil];lia] at this
end
section
include T
theorem ok_nf {d:Nat} (G_next_plain_factor:FnOk P w K mg base CX0 (4 * d + 5) f_next_plain_factor d_next_plain_factor ["words"] (spOf K (asp_pf (csL [a_Nothing,a_Bead,a_Named,a_Or,a_By,a_Row,a_Bag,a_Choice,a_Ring]) a_Words d))):FnOk P w K mg base CX0 (4 * d + 6) f_next_factor d_next_factor ["words"] (spOf K (asp_rd (csL [a_Nothing,a_Bead,a_Named,a_Or,a_By,a_Row,a_Bag,a_Choice,a_Ring]) a_Words (d + 1) 2)):=by
  have G_Words_ahead:=ok_aheadB (P:=P) (w:=w) (base:=base) T
  have G_Words_need:=ok_needB (P:=P) (w:=w) (base:=base) T
  have G_held:=ok_held (P:=P) (w:=w) (base:=base) T
  refine' Fun.okA T.F_next_factor (sc:=?sc30) (body:=?bd30) ?hs30 ?hb30 sc_next_factor ?hB30 ?hS30
  case hs30=>conv=>lhs;whnf
  case hb30=>conv=>lhs;whnf
  case hB30=>exact fun S cdv A outer s H E hr=>⟨_,(pss_cons (ps_set (i:=1) S.nd rfl (Or.inl rfl) (pe_lst pa_nil))
      (pss_cons (ps_while PassesOwn.never (pt_cmpR o_in (pe_meth0 (pv 0) T.L_Words T.W_Words_ahead (G_Words_ahead.mono (by first | decide | lia)) hr T.B_Words_ahead .nil pass0) (pe_gv (by rfl) T.c_HOLDERS) (by with_unfolding_all rfl)) (pss_cons (ps_set (i:=2) S.nd rfl (Or.inl rfl) (pe_meth0 (pv 0) T.L_Words T.W_Words_ahead (G_Words_ahead.mono (by first | decide | lia)) hr T.B_Words_ahead .nil pass0))
      (pss_cons (ps_expr (pe_meth (pv 0) T.L_Words T.W_Words_need (G_Words_need.mono (by first | decide | lia)) hr T.B_Words_need .nil pass0 (pa_cons (pv 2) pa_nil)))
      (pss_cons (ps_expr (pe_meth (pv 0) T.L_Words T.W_Words_need (G_Words_need.mono (by first | decide | lia)) hr T.B_Words_need .nil pass0 (pa_cons pe_str pa_nil)))
      (pss_one (ps_expr (pe_bm PySem.F.plainAttrs_list PySem.F.slot_list_append PySem.F.type_list_append mt_append (pv 1) (pa_cons (pv 2) pa_nil))))))))
      (pss_cons (ps_set (i:=3) S.nd rfl (Or.inl rfl) (pe_call (G_next_plain_factor.mono (by first | decide | lia)) hr (by rfl) T.M_next_plain_factor T.F_next_plain_factor.kp T.B_next_plain_factor .nil pass0 (pa_cons (pv 0) pa_nil)))
      (pss_cons (ps_for PassesOwn.never rfl (pj_rev rfl (by rfl) T.n_reversed (pv 1)) (pg_name (i:=2) S.nd rfl (Or.inl rfl))
      (pss_one (ps_set (i:=3) S.nd rfl (Or.inl rfl) (pe_call (G_held.mono (by first | decide | lia)) hr (by rfl) T.M_held T.F_held.kp T.B_held .nil pass0 (pa_cons (pv 2) (pa_cons (pv 3) pa_nil))))))
      (pss_one (ps_ret (pv 3))))))),(ab_seq (ab_asg (ab_lst ab_nil) ab_name)
      (ab_seq (ab_while (ab_test (ab_op ab_in (ab_meth ab_var ab_nil) (ab_c fun H=>.tup (T.q_HOLDERS H) (.cons (.str _) (.cons (.str _) (.cons (.str _) (.cons (.str _) .nil))))))) (ab_seq (ab_asg (ab_meth ab_var ab_nil) ab_name)
      (ab_seq (ab_drop (ab_meth ab_var (ab_cons ab_var ab_nil)))
      (ab_seq (ab_drop (ab_meth ab_var (ab_cons ab_str ab_nil)))
      (ab_drop (ab_bm ab_isLst ab_mapp ab_var (ab_cons ab_var ab_nil)))))))
      (ab_seq (ab_asg (ab_call (ab_cons ab_var ab_nil)) ab_name)
      (ab_seq (ab_for (ab_jrev ab_var) ab_name
      (ab_asg (ab_call (ab_cons ab_var (ab_cons ab_var ab_nil))) ab_name))
      (ab_ret ab_var)))))⟩
  rintro us A Q ⟨wa,dx,p,B,ts,n,r,a,rest,e,rfl,rfl,hW,ht,he,hd,hw,-,q⟩
  refine ⟨rfl,?_⟩
  walk_at "qs"
  walk_at "qd"
  obtain ⟨ks,x0,a0,rfl,rfl,hp⟩:=hd.pf he
  have hw0:=foldHd hw
  obtain ⟨t0,r0,et,ht0⟩:=hp.first hw0
  refine ⟨by decide,fun h hh=>?_⟩
  obtain ⟨h1,h2,h3⟩:=Wst.new hh
  rw [h3]
  have flL:∀ l:List Nat,(l.map fun k=>[mname k,("of":Str)]).flatten.length=2 * l.length:=fun l=>by induction l with
    | nil=>rfl
    | cons k l ih=>simp only [List.map_cons,List.flatten_cons,List.length_append,List.length_cons,List.length_nil,ih];lia
  have hnl:n + ((ks.map fun k=>[mname k,("of":Str)]).flatten++a0).length<=ts.length:=drL ht (drN ht hd.ne)
  rw [List.length_append,flL] at hnl
  have hln:=hW.ln
  refine while_A (fun ρ A=>∃ (k1 k2:List Nat) (u:Option U) (m:Nat),ks=k1++k2/\ρ=[some (.ref wa),some (.ref h),u,none]/\A=Wst a_Words dx p wa (updA B h (.lst (k1.map fun k=>U.str (mname k)))) m/\ts.drop m=(k2.map fun k=>[mname k,("of":Str)]).flatten++(a0++rest)/\m=n + 2 * k1.length) (fun _ A=>ts.length - posA A wa) ⟨[],ks,_,n,rfl,rfl,rfl,by rw [ht,List.append_assoc],rfl⟩ ?_
  rintro ρ A ⟨k1,k2,u,m,hks,rfl,rfl,hm,em⟩
  have hkl:=congrArg List.length hks
  rw [List.length_append] at hkl
  have hW2:Wok (updA B h (.lst (k1.map fun k=>U.str (mname k)))) wa p ts:=hW.ext (Ext.new h2) (by rw [updA_ne (Ne.symm h1)];exact hW.no)
  walk_at "qd"
  rcases k2 with _ | ⟨k,k2⟩
  . have e0:ts[m]? = some t0:=by rw [et] at hm;exact (dr1 hm).1
    obtain rfl:ks=k1:=by rw [hks,List.append_nil]
    refine ahead_y hW2 (by lia) e0 ⟨rfl,rfl,iteFf (inU_strs (ts:=["row","bag","choice","ring"]) ht0) ?_⟩
    refine ⟨wa,dx,p,_,ts,m,x0,a0,rest,rfl,rfl,hW2,hm,hp,hw0,fun B1 b1 e1 hn1 hr1=>?_⟩
    walk_at "qd"
    have hne:h≠wa:=h1
    refine ⟨_,_,rfl,(Wst.get hne).trans (e1 _ _ updA_same),?_⟩
    refine for_revA (ks.map fun k=>U.str (mname k)) (fun j ρ A=>∃ (B2:AHp) (b2:Addr) (u:Option U),ρ=[some (.ref wa),some (.ref h),u,some (.ref b2)]/\A=Wst a_Words dx p wa B2 (m + a0.length)/\Ext B1 B2/\B2 wa=none/\RlO (csL [a_Nothing,a_Bead,a_Named,a_Or,a_By,a_Row,a_Bag,a_Choice,a_Ring]) B2 b2 ((ks.drop (ks.length - j)).foldr (fun k r=>.hold k r) x0)) ⟨B1,b1,_,rfl,rfl,Ext.refl _,hn1,by rw [Nat.sub_zero,List.drop_length];exact hr1⟩ ?_ ?_ ?_
    . rintro j ρ A hj ⟨B2,b2,u2,rfl,rfl,e2,hn2,hr2⟩
      exact (Wst.get hne).trans (e2 _ _ (e1 _ _ updA_same))
    . rintro j u3 ρ A hu ⟨B2,b2,u2,rfl,rfl,e2,hn2,hr2⟩
      have hj:j < ks.length:=by have:=(List.getElem?_eq_some_iff.mp hu).1;rwa [List.length_reverse,List.length_map] at this
      rw [List.getElem?_reverse (by rw [List.length_map];exact hj),List.length_map,List.getElem?_map,List.getElem?_eq_getElem (by lia)] at hu
      injection hu with hu
      subst hu
      walk_at "qd"
      refine ⟨ks[ks.length - 1 - j]'(by lia),b2,rfl,fun c dc hc=>?_⟩
      obtain ⟨c1,c2,c3⟩:=Wst.new hc
      rw [c3]
      refine ⟨_,c,_,rfl,rfl,e2.trans (Ext.new c2),by rw [updA_ne (Ne.symm c1)];exact hn2,?_⟩
      rw [show ks.length - (j + 1)=ks.length - 1 - j by lia,List.drop_eq_getElem_cons (by lia:ks.length - 1 - j < ks.length),show ks.length - 1 - j + 1=ks.length - j by lia]
      exact ⟨dc,b2,updA_same,hr2.ext (Ext.new c2)⟩
    . rintro ρ A ⟨B2,b2,u2,rfl,rfl,e2,hn2,hr2⟩
      rw [List.length_map,Nat.sub_self,List.drop_zero] at hr2
      walk_at "qd"
      have:=q B2 b2 ((Ext.new h2).trans (e1.trans e2)) hn2 hr2
      rw [List.length_append,flL,show n + (2 * ks.length + a0.length)=m + a0.length by lia] at this
      exact fg this
  . obtain ⟨g1,g2,g3⟩:=dr1 hm
    obtain ⟨g4,g5,g6⟩:=dr1 g2
    refine ahead_y hW2 (by lia) g1 ⟨rfl,rfl,iteTt (inU_mn k) (wh_goA ?_)⟩
    walk_at "qd"
    refine ahead_y hW2 (by lia) g1 ?_
    walk_at "qd"
    refine need_y hW2 g1 (need_y hW2 g4 ?_)
    have hne:h≠wa:=h1
    refine ⟨⟨_,(Wst.get hne).trans updA_same⟩,_,(Wst.get hne).trans updA_same,?_,?_⟩
    . exact line1000' (by rw [List.length_map];lia)
    . rw [Wst.mv hne,updA_updA,posA_st,posA_st]
      refine ⟨⟨k1++[k],k2,_,m + 1 + 1,by rw [hks];simp,rfl,by rw [List.map_append];rfl,g5,by rw [List.length_append];simp only [List.length_cons,List.length_nil];lia⟩,by lia⟩
theorem ok_nt {d:Nat} (G_next_factor:FnOk P w K mg base CX0 (4 * d + 6) f_next_factor d_next_factor ["words"] (spOf K (asp_rd (csL [a_Nothing,a_Bead,a_Named,a_Or,a_By,a_Row,a_Bag,a_Choice,a_Ring]) a_Words (d + 1) 2))):FnOk P w K mg base CX0 (4 * d + 7) f_next_term d_next_term ["words"] (spOf K (asp_rd (csL [a_Nothing,a_Bead,a_Named,a_Or,a_By,a_Row,a_Bag,a_Choice,a_Ring]) a_Words (d + 1) 1)):=by
  have G_Words_passed:=ok_passB (P:=P) (w:=w) (base:=base) T
  have G_By___init__:=ok_iBy (P:=P) (w:=w) (base:=base) T
  refine' Fun.okA T.F_next_term (sc:=?sc31) (body:=?bd31) ?hs31 ?hb31 sc_next_term ?hB31 ?hS31
  case hs31=>conv=>lhs;whnf
  case hb31=>conv=>lhs;whnf
  case hB31=>exact fun S cdv A outer s H E hr=>⟨_,(pss_cons (ps_set (i:=1) S.nd rfl (Or.inl rfl) (pe_call (G_next_factor.mono (by first | decide | lia)) hr (by rfl) T.M_next_factor T.F_next_factor.kp T.B_next_factor .nil pass0 (pa_cons (pv 0) pa_nil)))
      (pss_cons (ps_while PassesOwn.never (pt_val (pe_meth (pv 0) T.L_Words T.W_Words_passed (G_Words_passed.mono (by first | decide | lia)) hr T.B_Words_passed .nil pass0 (pa_cons pe_str pa_nil))) (pss_one (ps_set (i:=1) S.nd rfl (Or.inl rfl) (pe_make T.K_By (G_By___init__.mono (by first | decide | lia)) hr (by rfl) T.m_By T.B_By___init__ .nil pass0 (pa_cons (pv 1) (pa_cons (pe_call (G_next_factor.mono (by first | decide | lia)) hr (by rfl) T.M_next_factor T.F_next_factor.kp T.B_next_factor .nil pass0 (pa_cons (pv 0) pa_nil)) pa_nil))))))
      (pss_one (ps_ret (pv 1))))),(ab_seq (ab_asg (ab_call (ab_cons ab_var ab_nil)) ab_name)
      (ab_seq (ab_while (ab_tb (ab_meth ab_var (ab_cons ab_str ab_nil))) (ab_asg (ab_make (ab_cons ab_var (ab_cons (ab_call (ab_cons ab_var ab_nil)) ab_nil))) ab_name))
      (ab_ret ab_var)))⟩
  rintro us A Q ⟨wa,dx,p,B,ts,n,r,a,rest,e,rfl,rfl,hW,ht,he,hd,hw,hf,q⟩
  refine ⟨rfl,?_⟩
  walk_at "qs"
  walk_at "qd"
  obtain ⟨x0,a0,l,hd0,hdl,rfl,rfl⟩:=hd.term rfl
  have hws:=foldBy hw
  rw [List.append_assoc] at ht
  have flw:∀ l':List (Rl × List Str),Flw 2 ((l'.map fun p:Rl × List Str=>("by":Str)::p.2).flatten++rest):=fun l'=>by
    cases l' with
    | nil=>exact ⟨fun z=>absurd z (by decide),fun z=>nomatch z⟩
    | cons p l'=>exact ⟨fun z=>absurd z (by decide),fun z=>nomatch z⟩
  refine ⟨wa,dx,p,B,ts,n,x0,a0,_,e,rfl,rfl,hW,ht,he,hd0,hws.1,flw l,fun B1 b1 e1 hn1 hr1=>?_⟩
  walk_at "qd"
  refine while_A (fun ρ A=>∃ (l':List (Rl × List Str)) (x:Rl) (b:Addr) (B2:AHp) (m:Nat),ρ=[some (.ref wa),some (.ref b)]/\A=Wst a_Words dx p wa B2 m/\Ext B B2/\B2 wa=none/\RlO (csL [a_Nothing,a_Bead,a_Named,a_Or,a_By,a_Row,a_Bag,a_Choice,a_Ring]) B2 b x/\(∀ p∈l',Wd e 2 p.1 p.2/\p.1.wd=true)/\l'.foldl (fun r p=>.by_ r p.1) x=l.foldl (fun r p=>.by_ r p.1) x0/\ts.drop m=(l'.map fun p:Rl × List Str=>("by":Str)::p.2).flatten++rest/\m + (l'.map fun p:Rl × List Str=>("by":Str)::p.2).flatten.length=n + (a0++(l.map fun p:Rl × List Str=>("by":Str)::p.2).flatten).length/\m<=ts.length) (fun _ A=>ts.length - posA A wa) ⟨l,x0,b1,B1,_,rfl,rfl,e1,hn1,hr1,fun p hp=>⟨hdl p hp,hws.2 p hp⟩,rfl,drA ht,by rw [List.length_append];lia,drL ht (drN ht hd0.ne)⟩ ?_
  rintro ρ A ⟨l',x,b,B2,m,rfl,rfl,e2,hn2,hr2,hl',hx,hm,hml,hle⟩
  walk_at "qd"
  have hW2:=hW.ext e2 hn2
  rcases l' with _ | ⟨pr,l'⟩
  . refine pass_n hW2 hle (by rw [dr0 hm hle];exact hf.1 (by decide)) ⟨_,rfl,iteFf rfl (fg ?_)⟩
    have:=q B2 b e2 hn2 (by rw [<- hx];exact hr2)
    rw [<- hml] at this
    exact this
  . obtain ⟨h1,h2,h3⟩:=dr1 hm
    replace h2:ts.drop (m + 1)=pr.2++((l'.map fun p:Rl × List Str=>("by":Str)::p.2).flatten++rest):=h2.trans (List.append_assoc _ _ _)
    obtain ⟨k1,k2⟩:=hl' pr List.mem_cons_self
    refine pass_y hW2 h1 ⟨_,rfl,iteTt rfl (wh_goA ?_)⟩
    walk_at "qd"
    refine ⟨wa,dx,p,B2,ts,m + 1,pr.1,pr.2,_,e,rfl,rfl,hW2,h2,he,k1,k2,flw l',fun B3 b3 e3 hn3 hr3=>fun y dy hy=>⟨y,dy,_,_,rfl,updA_same,rfl,?_⟩⟩
    obtain ⟨y1,y2,y3⟩:=Wst.new hy
    rw [updA_updA,y3,posA_st,posA_st]
    refine ⟨⟨l',.by_ x pr.1,y,_,_,rfl,rfl,(e2.trans e3).trans (Ext.new y2),by rw [updA_ne (Ne.symm y1)];exact hn3,⟨dy,b,b3,updA_same,(hr2.ext e3).ext (Ext.new y2),hr3.ext (Ext.new y2)⟩,fun p hp=>hl' p (List.mem_cons_of_mem _ hp),hx,drA h2,?_,drL h2 h3⟩,by lia⟩
    rw [<- hml]
    simp only [List.map_cons,List.flatten_cons,List.length_append,List.length_cons]
    lia
theorem ok_nr {d:Nat} (G_next_term:FnOk P w K mg base CX0 (4 * d + 7) f_next_term d_next_term ["words"] (spOf K (asp_rd (csL [a_Nothing,a_Bead,a_Named,a_Or,a_By,a_Row,a_Bag,a_Choice,a_Ring]) a_Words (d + 1) 1))):FnOk P w K mg base CX0 (4 * d + 8) f_next_rule d_next_rule ["words"] (spOf K (asp_rd (csL [a_Nothing,a_Bead,a_Named,a_Or,a_By,a_Row,a_Bag,a_Choice,a_Ring]) a_Words (d + 1) 0)):=by
  have G_Words_passed:=ok_passB (P:=P) (w:=w) (base:=base) T
  have G_Or___init__:=ok_iOr (P:=P) (w:=w) (base:=base) T
  refine' Fun.okA T.F_next_rule (sc:=?sc32) (body:=?bd32) ?hs32 ?hb32 sc_next_rule ?hB32 ?hS32
  case hs32=>conv=>lhs;whnf
  case hb32=>conv=>lhs;whnf
  case hB32=>exact fun S cdv A outer s H E hr=>⟨_,(pss_cons (ps_set (i:=1) S.nd rfl (Or.inl rfl) (pe_call (G_next_term.mono (by first | decide | lia)) hr (by rfl) T.M_next_term T.F_next_term.kp T.B_next_term .nil pass0 (pa_cons (pv 0) pa_nil)))
      (pss_cons (ps_while PassesOwn.never (pt_val (pe_meth (pv 0) T.L_Words T.W_Words_passed (G_Words_passed.mono (by first | decide | lia)) hr T.B_Words_passed .nil pass0 (pa_cons pe_str pa_nil))) (pss_one (ps_set (i:=1) S.nd rfl (Or.inl rfl) (pe_make T.K_Or (G_Or___init__.mono (by first | decide | lia)) hr (by rfl) T.m_Or T.B_Or___init__ .nil pass0 (pa_cons (pv 1) (pa_cons (pe_call (G_next_term.mono (by first | decide | lia)) hr (by rfl) T.M_next_term T.F_next_term.kp T.B_next_term .nil pass0 (pa_cons (pv 0) pa_nil)) pa_nil))))))
      (pss_one (ps_ret (pv 1))))),(ab_seq (ab_asg (ab_call (ab_cons ab_var ab_nil)) ab_name)
      (ab_seq (ab_while (ab_tb (ab_meth ab_var (ab_cons ab_str ab_nil))) (ab_asg (ab_make (ab_cons ab_var (ab_cons (ab_call (ab_cons ab_var ab_nil)) ab_nil))) ab_name))
      (ab_ret ab_var)))⟩
  rintro us A Q ⟨wa,dx,p,B,ts,n,r,a,rest,e,rfl,rfl,hW,ht,he,hd,hw,hf,q⟩
  refine ⟨rfl,?_⟩
  walk_at "qs"
  walk_at "qd"
  obtain ⟨x0,a0,l,hd0,hdl,rfl,rfl⟩:=hd.rule rfl
  have hws:=foldOr hw
  rw [List.append_assoc] at ht
  have flw:∀ l':List (Rl × List Str),Flw 1 ((l'.map fun p:Rl × List Str=>("or":Str)::p.2).flatten++rest):=fun l'=>by
    cases l' with
    | nil=>exact ⟨fun _=>hf.1 (by decide),fun z=>nomatch z⟩
    | cons p l'=>exact ⟨fun z=>hd_ne (by decide +kernel),fun z=>nomatch z⟩
  refine ⟨wa,dx,p,B,ts,n,x0,a0,_,e,rfl,rfl,hW,ht,he,hd0,hws.1,flw l,fun B1 b1 e1 hn1 hr1=>?_⟩
  walk_at "qd"
  refine while_A (fun ρ A=>∃ (l':List (Rl × List Str)) (x:Rl) (b:Addr) (B2:AHp) (m:Nat),ρ=[some (.ref wa),some (.ref b)]/\A=Wst a_Words dx p wa B2 m/\Ext B B2/\B2 wa=none/\RlO (csL [a_Nothing,a_Bead,a_Named,a_Or,a_By,a_Row,a_Bag,a_Choice,a_Ring]) B2 b x/\(∀ p∈l',Wd e 1 p.1 p.2/\p.1.wd=true)/\l'.foldl (fun r p=>.or r p.1) x=l.foldl (fun r p=>.or r p.1) x0/\ts.drop m=(l'.map fun p:Rl × List Str=>("or":Str)::p.2).flatten++rest/\m + (l'.map fun p:Rl × List Str=>("or":Str)::p.2).flatten.length=n + (a0++(l.map fun p:Rl × List Str=>("or":Str)::p.2).flatten).length/\m<=ts.length) (fun _ A=>ts.length - posA A wa) ⟨l,x0,b1,B1,_,rfl,rfl,e1,hn1,hr1,fun p hp=>⟨hdl p hp,hws.2 p hp⟩,rfl,drA ht,by rw [List.length_append];lia,drL ht (drN ht hd0.ne)⟩ ?_
  rintro ρ A ⟨l',x,b,B2,m,rfl,rfl,e2,hn2,hr2,hl',hx,hm,hml,hle⟩
  walk_at "qd"
  have hW2:=hW.ext e2 hn2
  rcases l' with _ | ⟨pr,l'⟩
  . refine pass_n hW2 hle (by rw [dr0 hm hle];exact hf.2 rfl) ⟨_,rfl,iteFf rfl (fg ?_)⟩
    have:=q B2 b e2 hn2 (by rw [<- hx];exact hr2)
    rw [<- hml] at this
    exact this
  . obtain ⟨h1,h2,h3⟩:=dr1 hm
    replace h2:ts.drop (m + 1)=pr.2++((l'.map fun p:Rl × List Str=>("or":Str)::p.2).flatten++rest):=h2.trans (List.append_assoc _ _ _)
    obtain ⟨k1,k2⟩:=hl' pr List.mem_cons_self
    refine pass_y hW2 h1 ⟨_,rfl,iteTt rfl (wh_goA ?_)⟩
    walk_at "qd"
    refine ⟨wa,dx,p,B2,ts,m + 1,pr.1,pr.2,_,e,rfl,rfl,hW2,h2,he,k1,k2,flw l',fun B3 b3 e3 hn3 hr3=>fun y dy hy=>⟨y,dy,_,_,rfl,updA_same,rfl,?_⟩⟩
    obtain ⟨y1,y2,y3⟩:=Wst.new hy
    rw [updA_updA,y3,posA_st,posA_st]
    refine ⟨⟨l',.or x pr.1,y,_,_,rfl,rfl,(e2.trans e3).trans (Ext.new y2),by rw [updA_ne (Ne.symm y1)];exact hn3,⟨dy,b,b3,updA_same,(hr2.ext e3).ext (Ext.new y2),hr3.ext (Ext.new y2)⟩,fun p hp=>hl' p (List.mem_cons_of_mem _ hp),hx,drA h2,?_,drL h2 h3⟩,by lia⟩
    rw [<- hml]
    simp only [List.map_cons,List.flatten_cons,List.length_append,List.length_cons]
    lia
theorem ok_nrule (d:Nat):FnOk P w K mg base CX0 (4 * d + 4) f_next_rule d_next_rule ["words"] (spOf K (asp_rd (csL [a_Nothing,a_Bead,a_Named,a_Or,a_By,a_Row,a_Bag,a_Choice,a_Ring]) a_Words d 0)):=by
  induction d with
  | zero=>exact none_yet T.F_next_rule sc_next_rule rd0
  | succ d ih=>exact (ok_nr T (ok_nt T (ok_nf T (ok_npf T ih)))).mono (by lia)
theorem ok_rr {d:Nat}:FnOk P w K mg base CX0 (4 * d + 8) f_read_rule d_read_rule ["text"] (spOf K (asp_rr (csL [a_Nothing,a_Bead,a_Named,a_Or,a_By,a_Row,a_Bag,a_Choice,a_Ring]) d)):=by
  have G_Words___init__:=ok_winit (P:=P) (w:=w) (base:=base) T
  have G_Words_finish:=ok_finish (P:=P) (w:=w) (base:=base) T
  have G_next_rule:=ok_nrule (P:=P) (w:=w) (base:=base) T d
  refine' Fun.okA T.F_read_rule (sc:=?sc33) (body:=?bd33) ?hs33 ?hb33 sc_read_rule ?hB33 ?hS33
  case hs33=>conv=>lhs;whnf
  case hb33=>conv=>lhs;whnf
  case hB33=>exact fun S cdv A outer s H E hr=>⟨_,(pss_cons (ps_set (i:=1) S.nd rfl (Or.inl rfl) (pe_make T.K_Words (G_Words___init__.mono (by first | decide | lia)) hr (by rfl) T.m_Words T.B_Words___init__ .nil pass0 (pa_cons (pv 0) pa_nil)))
      (pss_cons (ps_set (i:=2) S.nd rfl (Or.inl rfl) (pe_call (G_next_rule.mono (by first | decide | lia)) hr (by rfl) T.M_next_rule T.F_next_rule.kp T.B_next_rule .nil pass0 (pa_cons (pv 1) pa_nil)))
      (pss_cons (ps_expr (pe_meth0 (pv 1) T.L_Words T.W_Words_finish (G_Words_finish.mono (by first | decide | lia)) hr T.B_Words_finish .nil pass0))
      (pss_one (ps_ret (pv 2)))))),(ab_seq (ab_asg (ab_make (ab_cons ab_var ab_nil)) ab_name)
      (ab_seq (ab_asg (ab_call (ab_cons ab_var ab_nil)) ab_name)
      (ab_seq (ab_drop (ab_meth ab_var ab_nil))
      (ab_ret ab_var))))⟩
  rintro us A Q ⟨r,a,e,rfl,he,hd,hw,hl,q⟩
  refine ⟨rfl,?_⟩
  walk_at "qs"
  walk_at "qd"
  have hlen:=hd.len hw
  refine fun x dx hx=>⟨x,dx,_,a,rfl,updA_same,by lia,hd.split hw,by lia,fun p hp=>⟨rfl,?_⟩⟩
  have hxp:x≠p:=fun e=>by rw [<- e,updA_same] at hp;cases hp
  have hp0:A p=none:=by rwa [updA_ne (Ne.symm hxp)] at hp
  rw [show updA (updA (updA A x (.ins a_Words dx [])) p (.lst (a.map U.str))) x (.ins a_Words dx [("words",.ref p),("at",.int 0)])=Wst a_Words dx p x (updA A p (.lst (a.map U.str))) 0 from by unfold Wst;rw [updA_swap hxp,updA_updA];rfl]
  have hW:Wok (updA A p (.lst (a.map U.str))) x p a:=⟨by rw [updA_ne hxp];exact hx,updA_same,hl⟩
  walk_at "qd"
  refine ⟨x,dx,p,_,a,0,r,a,[],e,rfl,rfl,hW,by simp,he,hd,hw,⟨fun _=>by simp,fun _=>by simp⟩,fun B b eB hn hr=>?_⟩
  walk_at "qd"
  have hW2:=hW.ext eB hn
  refine ⟨x,dx,_,rfl,Wst.at_,nm_w (by decide +kernel),x,p,a,rfl,by rw [Nat.zero_add];exact hW2.ok (Nat.le_refl _),?_⟩
  exact fgx (Wst.ext hn) (q B b ((Ext.new hp0).trans eB) hr)
end
theorem inU_yes {x:Str} {ts:List Str} (h:x∈ts):inU (.str x) (ts.map U.str)=true:=by
  unfold inU inV
  rw [List.any_eq_true]
  refine ⟨.str x,?_,?_⟩
  . rw [List.map_map];exact List.mem_map.mpr ⟨x,h,rfl⟩
  . exact beq_self_eq_true x
theorem q_inK {u:U} {A:AHp} {Q:AVK} {p:Addr}:xIn u (.ref p) A Q=∃ us,A p=some (.lst us)/\u.flat=true/\us.all U.flat=true/\Q (.bl (inU u us)) A:=rfl
noncomputable def asp_cell:ASp:=fun us A Q=>∃ (ns:List Int) (k:Int),us=[.rol (ns.map U.int),.int k]/\0<=k/\∀ z,Q (.int z) A
noncomputable def asp_mixed:ASp:=fun us A Q=>∃ (ns:List Int) (few:Int),us=[.rol (ns.map U.int),.int few]/\ns.length<=63/\0<=few/\few<=63/\∀ (l:Addr) (ms:List Int),A l=none->ms.length<=63->few<=ms.length->Q (.ref l) (updA A l (.lst (ms.map U.int)))
noncomputable def asp_kept:ASp:=fun us A Q=>us=[]/\∀ l,A l=none->Q (.ref l) (updA A l (.lst (keptsL.map U.str)))
noncomputable def asp_word:ASp:=fun us A Q=>∃ c:Int,us=[.int c]/\∀ x,wdB x=true->Q (.str x) A
section
include T
theorem ok_cell:FnOk P w K mg base CX0 1 f_w_cell d_w_cell ["_law_script","_law_k"] (spOf K asp_cell):=by
  refine' Fun.okA T.F_w_cell (sc:=?sc34) (body:=?bd34) ?hs34 ?hb34 sc_w_cell ?hB34 ?hS34
  case hs34=>conv=>lhs;whnf
  case hb34=>conv=>lhs;whnf
  case hB34=>exact fun S cdv A outer s H E hr=>⟨_,(pss_cons (ps_if (pt_cmpR o_lt (pv 1) (pe_callB c_len (by rfl) T.n_len (by decide +kernel) (pa_cons (pv 0) pa_nil)) (nomark _)) (pss_one (ps_ret (pe_ix o_ix (pv 0) (pv 1) (fun _ _=>rfl)))) pss_nil)
      (pss_one (ps_ret pe_int))),(ab_seq (ab_ifs (ab_test (ab_op ab_lt ab_var (ab_cb ab_len (ab_cons ab_var ab_nil)))) (ab_ret (ab_op ab_ix ab_var ab_var)) ab_next)
      (ab_ret ab_int))⟩
  rintro us A Q ⟨ns,k,rfl,hk,q⟩
  refine ⟨rfl,?_⟩
  walk_at "qs"
  walk_at "qd"
  refine iteB (fun h=>?_) fun _=>fg (q 0)
  have h':k < ns.length:=by simpa using h
  obtain ⟨z,h1,_⟩:=atI_intsU hk h'
  exact ⟨_,h1,fg (q z)⟩
theorem ok_mixed:FnOk P w K mg base CX0 2 f_w_mixed d_w_mixed ["_law_script","_law_few"] (spOf K asp_mixed):=by
  have G_w_cell:=ok_cell (P:=P) (w:=w) (base:=base) T
  refine' Fun.okA T.F_w_mixed (sc:=?sc35) (body:=?bd35) ?hs35 ?hb35 sc_w_mixed ?hB35 ?hS35
  case hs35=>conv=>lhs;whnf
  case hb35=>conv=>lhs;whnf
  case hB35=>exact fun S cdv A outer s H E hr=>⟨_,(pss_cons (ps_set (i:=2) S.nd rfl (Or.inl rfl) (pe_callB (c_maxA rfl) (by rfl) T.n_max (by decide +kernel) (pa_cons (pv 1) (pa_cons (pe_callB (c_minA rfl) (by rfl) T.n_min (by decide +kernel) (pa_cons pe_int (pa_cons (pe_callB c_len (by rfl) T.n_len (by decide +kernel) (pa_cons (pv 0) pa_nil)) pa_nil))) pa_nil))))
      (pss_cons (ps_set (i:=3) S.nd rfl (Or.inl rfl) (pe_cmpR (o_eqD hr) (pe_op o_mod (pe_call (G_w_cell.mono (by first | decide | lia)) hr (by rfl) T.M_w_cell T.F_w_cell.kp T.B_w_cell .nil pass0 (pa_cons (pv 0) (pa_cons pe_int pa_nil))) pe_int) pe_int (nomark _)))
      (pss_cons (ps_set (i:=4) S.nd rfl (Or.inl rfl) (pe_lst pa_nil))
      (pss_cons (ps_for PassesOwn.never rfl (pj_range1 rfl T.n_range (pa_cons (pv 2) pa_nil)) (pg_name (i:=5) S.nd rfl (Or.inl rfl))
      (pss_cons (ps_set (i:=6) S.nd rfl (Or.inl rfl) (pe_op o_fdiv (pe_call (G_w_cell.mono (by first | decide | lia)) hr (by rfl) T.M_w_cell T.F_w_cell.kp T.B_w_cell .nil pass0 (pa_cons (pv 0) (pa_cons (pv 5) pa_nil))) (pe_op o_addW pe_int (pe_callTy c_int (by rfl) T.n_int (by decide +kernel) (pa_cons (pe_cmpR (o_eqD hr) (pv 5) pe_int (nomark _)) pa_nil)))))
      (pss_cons (ps_if ((pw_or (pt_not (pt_val (pv 3))) (pw_or1 (pt_cmpR o_ge (pv 5) (pe_callB c_len (by rfl) T.n_len (by decide +kernel) (pa_cons (pv 0) pa_nil)) (nomark _))))).pt (pss_cons (ps_set (i:=6) S.nd rfl (Or.inl rfl) (pe_op o_mod (pe_op o_mulB (pe_op o_addW (pe_op o_mod (pv 6) (pe_op o_pow pe_int pe_int)) (pe_op o_mulB pe_int (pv 5))) pe_int) pe_int))
      (pss_one (ps_set (i:=6) S.nd rfl (Or.inl rfl) (pe_op o_mod (pe_op o_mulB (pv 6) pe_int) pe_int)))) pss_nil)
      (pss_one (ps_expr (pe_bm PySem.F.plainAttrs_list PySem.F.slot_list_append PySem.F.type_list_append mt_append (pv 4) (pa_cons (pv 6) pa_nil)))))))
      (pss_one (ps_ret (pv 4))))))),(ab_seq (ab_asg (ab_cb ab_max (ab_cons ab_var (ab_cons (ab_cb ab_min (ab_cons ab_int (ab_cons (ab_cb ab_len (ab_cons ab_var ab_nil)) ab_nil))) ab_nil))) ab_name)
      (ab_seq (ab_asg (ab_op ab_eq (ab_op ab_mod (ab_call (ab_cons ab_var (ab_cons ab_int ab_nil))) ab_int) ab_int) ab_name)
      (ab_seq (ab_asg (ab_lst ab_nil) ab_name)
      (ab_seq (ab_for (ab_jrng1 (ab_cons ab_var ab_nil)) ab_name
      (ab_seq (ab_asg (ab_op ab_div (ab_call (ab_cons ab_var (ab_cons ab_var ab_nil))) (ab_op ab_add ab_int (ab_cb ab_xint (ab_cons (ab_op ab_eq ab_var ab_int) ab_nil)))) ab_name)
      (ab_seq (ab_ifH (ab_or (ab_not (ab_tb ab_var)) (ab_test (ab_op ab_ge ab_var (ab_cb ab_len (ab_cons ab_var ab_nil))))) (ab_seq (ab_asg (ab_op ab_mod (ab_op ab_mul (ab_op ab_add (ab_op ab_mod ab_var (ab_op ab_pow ab_int ab_int)) (ab_op ab_mul ab_int ab_var)) ab_int) ab_int) ab_name)
      (ab_asg (ab_op ab_mod (ab_op ab_mul ab_var ab_int) ab_int) ab_name)) ab_next)
      (ab_drop (ab_bm ab_isLst ab_mapp ab_var (ab_cons ab_var ab_nil))))))
      (ab_ret ab_var)))))⟩
  rintro us A Q ⟨ns,few,rfl,hn,h0,h63,q⟩
  refine ⟨rfl,?_⟩
  walk_at "qs"
  walk_at "qd"
  refine ⟨ns,0,rfl,by decide,fun z0=>?_⟩
  walk_at "qd"
  refine ⟨by decide,by decide,fun p hp=>?_⟩
  rw [List.length_map]
  generalize decide (z0 % 2=0)=raw
  walk_at "qd"
  refine ⟨by lia,by lia,?_⟩
  refine for_rng (fun k ρ A2=>∃ (ms:List Int) (x5 x6:Option U),ρ=[some (.rol (ns.map U.int)),some (.int few),some (.int (max few (min 63 ns.length))),some (.bl raw),some (.ref p),x5,x6]/\A2=updA A p (.lst (ms.map U.int))/\ms.length=k) ⟨[],_,_,rfl,rfl,rfl⟩ ?_ ?_
  . rintro k ρ A2 hk ⟨ms,x5,x6,rfl,rfl,hm⟩
    walk_at "qd"
    refine ⟨ns,_,rfl,by lia,fun z=>?_⟩
    walk_at "qd"
    rw [q_xintb]
    walk_at "qd"
    refine ⟨?_,?_⟩
    . split <;> exact ⟨by decide,by decide⟩
    . refine if_open (!raw || decide ((ns.length:Int)<=0 + k)) (fun B hB=>?_) ?_
      . walk_at "qd"
        rw [List.length_map]
        cases raw
        . exact iteTt rfl hB
        . exact iteFf rfl hB
      . generalize (z / (1 + if decide (0 + (k:Int)=0)=true then 1 else 0))=z'
        refine iteB (fun _=>?_) fun _=>?_
        . walk_at "qd"
          exact ⟨⟨by decide,by decide,by decide⟩,(show (0:Int) < 10 ^ Int.toNat 15 by decide),mul_small (.inl ⟨by decide,by decide⟩),mul_small (.inr ⟨by decide,by decide⟩),(show (0:Int) < 2147483647 by decide),mul_small (.inr ⟨by decide,by decide⟩),(show (0:Int) < 2147483629 by decide),
            ⟨_,updA_same⟩,_,updA_same,line1000' (by rw [List.length_map];lia),ms++[_],_,_,rfl,by rw [updA_updA,List.map_append];rfl,by rw [List.length_append,hm];rfl⟩
        . walk_at "qd"
          exact ⟨⟨_,updA_same⟩,_,updA_same,line1000' (by rw [List.length_map];lia),ms++[_],_,_,rfl,by rw [updA_updA,List.map_append];rfl,by rw [List.length_append,hm];rfl⟩
  . rintro ρ A2 ⟨ms,x5,x6,rfl,rfl,hm⟩
    walk_at "qd"
    exact fg (q p ms hp (by lia) (by lia))
theorem ok_kept:FnOk P w K mg base CX0 1 f_w_kept d_w_kept [] (spOf K asp_kept):=(ok_strs T.F_w_kept keptsL rfl rfl (by decide) sc_w_kept).imp fun vs H Q E ⟨us,A,Q',r,g,⟨e,q⟩,k⟩=>⟨by subst e;cases r;rfl,fun l hl=>k _ _ _ _ (Same.upd_new hl).kp (g.newL hl RUs.of_strs) (.ref l) (q l (g.none hl))⟩
theorem ok_word:FnOk P w K mg base CX0 2 f_w_word d_w_word ["_law_cell_here"] (spOf K asp_word):=by
  have G_w_kept:=ok_kept (P:=P) (w:=w) (base:=base) T
  refine' Fun.okA T.F_w_word (sc:=?sc36) (body:=?bd36) ?hs36 ?hb36 sc_w_word ?hB36 ?hS36
  case hs36=>conv=>lhs;whnf
  case hb36=>conv=>lhs;whnf
  case hB36=>exact fun S cdv A outer s H E hr=>⟨_,(pss_cons (ps_set (i:=1) S.nd rfl (Or.inl rfl) pe_str)
      (pss_cons (ps_set (i:=2) S.nd rfl (Or.inl rfl) (pe_op o_fdiv (pv 0) pe_int))
      (pss_cons (ps_for PassesOwn.never rfl (pj_range1 rfl T.n_range (pa_cons (pe_op o_addW pe_int (pe_op o_mod (pv 0) pe_int)) pa_nil)) (pg_name (i:=3) S.nd rfl (Or.inl rfl))
      (pss_cons (ps_set (i:=1) S.nd rfl (Or.inl rfl) (pe_op o_addW (pv 1) (pe_ix o_ix pe_str (pe_op o_mod (pv 2) pe_int) (fun _ _=>rfl))))
      (pss_one (ps_set (i:=2) S.nd rfl (Or.inl rfl) (pe_op o_fdiv (pv 2) pe_int)))))
      (pss_cons (ps_if (pt_cmpR o_in (pv 1) (pe_call0 (G_w_kept.mono (by first | decide | lia)) hr (by rfl) T.M_w_kept T.F_w_kept.kp T.B_w_kept .nil pass0) (by with_unfolding_all rfl)) (pss_one (ps_set (i:=1) S.nd rfl (Or.inl rfl) (pe_op o_addW (pv 1) pe_str))) pss_nil)
      (pss_one (ps_ret (pv 1))))))),(ab_seq (ab_asg ab_str ab_name)
      (ab_seq (ab_asg (ab_op ab_div ab_var ab_int) ab_name)
      (ab_seq (ab_for (ab_jrng1 (ab_cons (ab_op ab_add ab_int (ab_op ab_mod ab_var ab_int)) ab_nil)) ab_name
      (ab_seq (ab_asg (ab_op ab_add ab_var (ab_op ab_ix ab_str (ab_op ab_mod ab_var ab_int))) ab_name)
      (ab_asg (ab_op ab_div ab_var ab_int) ab_name)))
      (ab_seq (ab_ifs (ab_test (ab_op ab_in ab_var (ab_call ab_nil))) (ab_asg (ab_op ab_add ab_var ab_str) ab_name) ab_next)
      (ab_ret ab_var)))))⟩
  rintro us A Q ⟨c,rfl,q⟩
  refine ⟨rfl,?_⟩
  walk_at "qs"
  walk_at "qd"
  refine ⟨⟨by decide,by decide⟩,?_⟩
  walk_at "qd"
  have hc8:0<=c % 8/\c % 8 < 8:=⟨Int.emod_nonneg _ (by decide),Int.emod_lt_of_pos _ (by decide)⟩
  refine ⟨(show (0:Int) < 8 by decide),by lia,by lia,?_⟩
  refine for_rng (fun k ρ A2=>∃ (x:Str) (l:Int) (x3:Option U),ρ=[some (.int c),some (.str x),some (.int l),x3]/\A2=A/\x.length=k/\∀ c∈x.cps.toList,c∈lettersL.cps.toList) ⟨"",_,_,rfl,rfl,by decide +kernel,fun c hc=>absurd hc (by decide +revert +kernel)⟩ ?_ ?_
  . rintro k ρ A2 hk ⟨x,l,x3,rfl,rfl,hx,hc⟩
    walk_at "qd"
    have h26:0<=l % 26/\l % 26 < 26:=⟨Int.emod_nonneg _ (by decide),Int.emod_lt_of_pos _ (by decide)⟩
    obtain ⟨v,hv,hv2⟩:=atI_lt (xs:=(Str.ofString "abcdefghijklmnopqrstuvwxyz").cps.toList) (i:=l % 26) h26.1 (by rw [show (Str.ofString "abcdefghijklmnopqrstuvwxyz").cps.toList.length=26 from by decide +kernel];exact h26.2)
    refine ⟨(show (0:Int) < 26 by decide),by decide +kernel,v,hv,line1000 (by rw [hx];show k + 1<=_;lia),⟨by decide,by decide⟩,x++⟨#[v]⟩,_,_,rfl,trivial,by rw [Str.length_append,hx];rfl,fun d hd=>?_⟩
    rw [Str.cps_append,Array.toList_append,List.mem_append] at hd
    rcases hd with hd | hd
    . exact hc d hd
    . have:d=v:=by simpa using hd
      rw [this]
      exact List.mem_of_getElem? hv2
  . rintro ρ A2 ⟨x,l,x3,rfl,rfl,hx,hc⟩
    walk_at "qd"
    refine ⟨rfl,fun p hp=>?_⟩
    show xIn (.str x) (.ref p) _ _
    rw [q_inK]
    refine ⟨_,updA_same,rfl,rfl,_,rfl,?_⟩
    by_cases h:x∈keptsL
    . refine iteTt (inU_yes h) ⟨line1000 (by rw [hx,show (Str.ofString "x").length=1 from by decide +kernel];lia),fgx (Ext.new hp) (q _ ?_)⟩
      have key:∀ t∈keptsL,wdB (t++Str.ofString "x")=true:=by decide +kernel
      exact key x h
    . refine iteFf (inU_strs h) (fgx (Ext.new hp) (q _ ?_))
      unfold wdB
      rw [Bool.and_eq_true,Bool.and_eq_true,Bool.and_eq_true,List.all_eq_true]
      exact ⟨⟨fun c hcc=>decide_eq_true (hc c hcc),decide_eq_true (by lia),decide_eq_true (by lia)⟩,by simpa using h⟩
end
section
include T
theorem ok_binds:FnOk P w K mg base CX0 1 f_w_binds d_w_binds ["_law_tree_here"] (spOf K asp_binds):=by
  refine' Fun.okA T.F_w_binds (sc:=?sc37) (body:=?bd37) ?hs37 ?hb37 sc_w_binds ?hB37 ?hS37
  case hs37=>conv=>lhs;whnf
  case hb37=>conv=>lhs;whnf
  case hB37=>exact fun S cdv A outer s H E hr=>⟨_,(pss_cons (ps_if (pt_cmpR (o_eqD hr) (pe_ix o_ix (pv 0) pe_int (fun _ _=>rfl)) pe_str (nomark _)) (pss_one (ps_ret pe_int)) pss_nil)
      (pss_one (ps_ret (pe_op o_sub pe_int (pe_callTy c_int (by rfl) T.n_int (by decide +kernel) (pa_cons (pe_cmpR (o_eqD hr) (pe_ix o_ix (pv 0) pe_int (fun _ _=>rfl)) pe_str (nomark _)) pa_nil)))))),(ab_seq (ab_ifs (ab_test (ab_op ab_eq (ab_op ab_ix ab_var ab_int) ab_str)) (ab_ret ab_int) ab_next)
      (ab_ret (ab_op ab_sub ab_int (ab_cb ab_xint (ab_cons (ab_op ab_eq (ab_op ab_ix ab_var ab_int) ab_str) ab_nil)))))⟩
  rintro us A Q ⟨r,rfl,q⟩
  refine ⟨rfl,?_⟩
  walk_at "qs"
  cases r with
  | nothing =>
    unfold Rl.toU
    walk_at "qg"
    exact iteFf (by decide +kernel) (xint_sub0 (by decide +kernel) (fg q))
  | bead c =>
    unfold Rl.toU
    walk_at "qg"
    exact iteFf (by decide +kernel) (xint_sub0 (by decide +kernel) (fg q))
  | named c =>
    unfold Rl.toU
    walk_at "qg"
    exact iteFf (by decide +kernel) (xint_sub0 (by decide +kernel) (fg q))
  | or x y =>
    unfold Rl.toU
    walk_at "qg"
    exact iteTt rfl (fg q)
  | by_ x y =>
    unfold Rl.toU
    walk_at "qg"
    exact iteFf (by decide +kernel) (xint_sub1 (by decide +kernel) (fg q))
  | hold k x =>
    unfold Rl.toU
    walk_at "qg"
    exact iteFf (decide_eq_false (mn_ne k (by decide +kernel))) (xint_sub0 (decide_eq_false (mn_ne k (by decide +kernel))) (fg q))
theorem ok_lshut {n:Nat} (G_w_text:FnOk P w K mg base CX0 (2 * n + 2) f_w_text d_w_text ["_law_tree_here"] (spOf K (asp_ltext n))):FnOk P w K mg base CX0 (2 * n + 3) f_w_shut d_w_shut ["_law_tree_here","_law_least"] (spOf K (asp_lshut n)):=by
  have G_w_binds:=ok_binds (P:=P) (w:=w) (base:=base) T
  refine' Fun.okA T.F_w_shut (sc:=?sc38) (body:=?bd38) ?hs38 ?hb38 sc_w_shut ?hB38 ?hS38
  case hs38=>conv=>lhs;whnf
  case hb38=>conv=>lhs;whnf
  case hB38=>exact fun S cdv A outer s H E hr=>⟨_,(pss_cons (ps_if (pt_cmpR o_lt (pe_call (G_w_binds.mono (by first | decide | lia)) hr (by rfl) T.M_w_binds T.F_w_binds.kp T.B_w_binds .nil pass0 (pa_cons (pv 0) pa_nil)) (pv 1) (nomark _)) (pss_one (ps_ret (pe_op o_addW (pe_op o_addW pe_str (pe_call (G_w_text.mono (by first | decide | lia)) hr (by rfl) T.M_w_text T.F_w_text.kp T.B_w_text .nil pass0 (pa_cons (pv 0) pa_nil))) pe_str))) pss_nil)
      (pss_one (ps_ret (pe_call (G_w_text.mono (by first | decide | lia)) hr (by rfl) T.M_w_text T.F_w_text.kp T.B_w_text .nil pass0 (pa_cons (pv 0) pa_nil))))),(ab_seq (ab_ifs (ab_test (ab_op ab_lt (ab_call (ab_cons ab_var ab_nil)) ab_var)) (ab_ret (ab_op ab_add (ab_op ab_add ab_str (ab_call (ab_cons ab_var ab_nil))) ab_str)) ab_next)
      (ab_ret (ab_call (ab_cons ab_var ab_nil))))⟩
  rintro us A Q ⟨r,l,rfl,hd,hw,hs,q⟩
  refine ⟨rfl,?_⟩
  walk_at "qs"
  walk_at "qd"
  have hl:=r.txt_len hw
  have hl2:=r.sh_len l hw
  refine ⟨r,rfl,?_⟩
  walk_at "qd"
  by_cases h:r.lvl < l
  . refine iteTt (decide_eq_true (by lia)) ⟨r,rfl,hd,hw,hs,?_⟩
    walk_at "qd"
    rw [Rl.sh_yes h]
    refine ⟨line1000 ?_,line1000 ?_,fg q⟩
    . rw [show (Str.ofString "( ").length=2 from by decide +kernel];lia
    . rw [Str.length_append,show (Str.ofString "( ").length=2 from by decide +kernel,show (Str.ofString " )").length=2 from by decide +kernel];lia
  . refine iteFf (decide_eq_false (by lia)) ⟨r,rfl,hd,hw,hs,fg ?_⟩
    rw [Rl.sh_no h]
    exact q
theorem ok_ltext {n:Nat} (G_w_shut:FnOk P w K mg base CX0 (2 * n + 3) f_w_shut d_w_shut ["_law_tree_here","_law_least"] (spOf K (asp_lshut n))):FnOk P w K mg base CX0 (2 * n + 4) f_w_text d_w_text ["_law_tree_here"] (spOf K (asp_ltext (n + 1))):=by
  refine' Fun.okA T.F_w_text (sc:=?sc39) (body:=?bd39) ?hs39 ?hb39 sc_w_text ?hB39 ?hS39
  case hs39=>conv=>lhs;whnf
  case hb39=>conv=>lhs;whnf
  case hB39=>exact fun S cdv A outer s H E hr=>⟨_,(pss_cons (ps_if (pt_cmpR (o_eqD hr) (pe_ix o_ix (pv 0) pe_int (fun _ _=>rfl)) pe_str (nomark _)) (pss_one (ps_ret pe_str)) pss_nil)
      (pss_cons (ps_if (pt_cmpR (o_eqD hr) (pe_ix o_ix (pv 0) pe_int (fun _ _=>rfl)) pe_str (nomark _)) (pss_one (ps_ret (pe_op o_addW pe_str (pe_ix o_ix (pv 0) pe_int (fun _ _=>rfl))))) pss_nil)
      (pss_cons (ps_if (pt_cmpR (o_eqD hr) (pe_ix o_ix (pv 0) pe_int (fun _ _=>rfl)) pe_str (nomark _)) (pss_one (ps_ret (pe_ix o_ix (pv 0) pe_int (fun _ _=>rfl)))) pss_nil)
      (pss_cons (ps_if (pt_cmpR (o_eqD hr) (pe_ix o_ix (pv 0) pe_int (fun _ _=>rfl)) pe_str (nomark _)) (pss_one (ps_ret (pe_op o_addW (pe_op o_addW (pe_call (G_w_shut.mono (by first | decide | lia)) hr (by rfl) T.M_w_shut T.F_w_shut.kp T.B_w_shut .nil pass0 (pa_cons (pe_ix o_ix (pv 0) pe_int (fun _ _=>rfl)) (pa_cons pe_int pa_nil))) pe_str) (pe_call (G_w_shut.mono (by first | decide | lia)) hr (by rfl) T.M_w_shut T.F_w_shut.kp T.B_w_shut .nil pass0 (pa_cons (pe_ix o_ix (pv 0) pe_int (fun _ _=>rfl)) (pa_cons pe_int pa_nil)))))) pss_nil)
      (pss_cons (ps_if (pt_cmpR (o_eqD hr) (pe_ix o_ix (pv 0) pe_int (fun _ _=>rfl)) pe_str (nomark _)) (pss_one (ps_ret (pe_op o_addW (pe_op o_addW (pe_call (G_w_shut.mono (by first | decide | lia)) hr (by rfl) T.M_w_shut T.F_w_shut.kp T.B_w_shut .nil pass0 (pa_cons (pe_ix o_ix (pv 0) pe_int (fun _ _=>rfl)) (pa_cons pe_int pa_nil))) pe_str) (pe_call (G_w_shut.mono (by first | decide | lia)) hr (by rfl) T.M_w_shut T.F_w_shut.kp T.B_w_shut .nil pass0 (pa_cons (pe_ix o_ix (pv 0) pe_int (fun _ _=>rfl)) (pa_cons pe_int pa_nil)))))) pss_nil)
      (pss_one (ps_ret (pe_op o_addW (pe_op o_addW (pe_ix o_ix (pv 0) pe_int (fun _ _=>rfl)) pe_str) (pe_call (G_w_shut.mono (by first | decide | lia)) hr (by rfl) T.M_w_shut T.F_w_shut.kp T.B_w_shut .nil pass0 (pa_cons (pe_ix o_ix (pv 0) pe_int (fun _ _=>rfl)) (pa_cons pe_int pa_nil))))))))))),(ab_seq (ab_ifs (ab_test (ab_op ab_eq (ab_op ab_ix ab_var ab_int) ab_str)) (ab_ret ab_str) ab_next)
      (ab_seq (ab_ifs (ab_test (ab_op ab_eq (ab_op ab_ix ab_var ab_int) ab_str)) (ab_ret (ab_op ab_add ab_str (ab_op ab_ix ab_var ab_int))) ab_next)
      (ab_seq (ab_ifs (ab_test (ab_op ab_eq (ab_op ab_ix ab_var ab_int) ab_str)) (ab_ret (ab_op ab_ix ab_var ab_int)) ab_next)
      (ab_seq (ab_ifs (ab_test (ab_op ab_eq (ab_op ab_ix ab_var ab_int) ab_str)) (ab_ret (ab_op ab_add (ab_op ab_add (ab_call (ab_cons (ab_op ab_ix ab_var ab_int) (ab_cons ab_int ab_nil))) ab_str) (ab_call (ab_cons (ab_op ab_ix ab_var ab_int) (ab_cons ab_int ab_nil))))) ab_next)
      (ab_seq (ab_ifs (ab_test (ab_op ab_eq (ab_op ab_ix ab_var ab_int) ab_str)) (ab_ret (ab_op ab_add (ab_op ab_add (ab_call (ab_cons (ab_op ab_ix ab_var ab_int) (ab_cons ab_int ab_nil))) ab_str) (ab_call (ab_cons (ab_op ab_ix ab_var ab_int) (ab_cons ab_int ab_nil))))) ab_next)
      (ab_ret (ab_op ab_add (ab_op ab_add (ab_op ab_ix ab_var ab_int) ab_str) (ab_call (ab_cons (ab_op ab_ix ab_var ab_int) (ab_cons ab_int ab_nil))))))))))⟩
  rintro us A Q ⟨r,rfl,hd,hw,hs,q⟩
  refine ⟨rfl,?_⟩
  walk_at "qs"
  have l2:(Str.ofString " of ").length=4:=by decide +kernel
  have l3:(Str.ofString " or ").length=4:=by decide +kernel
  have l4:(Str.ofString " by ").length=4:=by decide +kernel
  have l5:(Str.ofString "bead ").length=5:=by decide +kernel
  cases r with
  | nothing =>
    unfold Rl.toU
    walk_at "qg"
    exact iteTt rfl (fg q)
  | bead c =>
    unfold Rl.toU
    walk_at "qg"
    have l1:=(wdB_of hw).2.2.1
    rw [Rl.txt_bead] at q
    exact iteFf (by decide +kernel) (iteTt rfl ⟨line1000 (by lia),fg q⟩)
  | named c =>
    unfold Rl.toU
    walk_at "qg"
    rw [Rl.txt_named] at q
    exact iteFf (by decide +kernel) (iteFf (by decide +kernel) (iteTt rfl (fg q)))
  | or x y =>
    unfold Rl.toU
    walk_at "qg"
    rw [Rl.txt_or] at q
    simp only [Rl.dep,Rl.wd,Rl.size,Bool.and_eq_true] at hd hw hs
    have l1:=x.sh_len 0 hw.1
    have l6:=y.sh_len 1 hw.2
    refine iteFf (by decide +kernel) (iteFf (by decide +kernel) (iteFf (by decide +kernel) (iteTt rfl ⟨x,0,rfl,by lia,hw.1,by lia,?_⟩)))
    walk_at "qd"
    refine ⟨line1000 (by lia),y,1,rfl,by lia,hw.2,by lia,?_⟩
    walk_at "qd"
    exact ⟨line1000 (by rw [Str.length_append];lia),fg q⟩
  | by_ x y =>
    unfold Rl.toU
    walk_at "qg"
    rw [Rl.txt_by] at q
    simp only [Rl.dep,Rl.wd,Rl.size,Bool.and_eq_true] at hd hw hs
    have l1:=x.sh_len 1 hw.1
    have l6:=y.sh_len 2 hw.2
    refine iteFf (by decide +kernel) (iteFf (by decide +kernel) (iteFf (by decide +kernel) (iteFf (by decide +kernel) (iteTt rfl ⟨x,1,rfl,by lia,hw.1,by lia,?_⟩))))
    walk_at "qd"
    refine ⟨line1000 (by lia),y,2,rfl,by lia,hw.2,by lia,?_⟩
    walk_at "qd"
    exact ⟨line1000 (by rw [Str.length_append];lia),fg q⟩
  | hold k x =>
    unfold Rl.toU
    walk_at "qg"
    rw [Rl.txt_hold] at q
    simp only [Rl.dep,Rl.wd,Rl.size] at hd hw hs
    have l1:=x.sh_len 2 hw
    have l6:=(tok_mname k).2
    have hk:∀ z∈(["nothing","bead","name","or","by"]:List Str),decide (mname k=z)=false:=fun z hz=>decide_eq_false (mn_ne k hz)
    refine iteFf (hk _ (by decide +kernel)) (iteFf (hk _ (by decide +kernel)) (iteFf (hk _ (by decide +kernel)) (iteFf (hk _ (by decide +kernel)) (iteFf (hk _ (by decide +kernel)) ⟨line1000 (by lia),x,2,rfl,by lia,hw,by lia,?_⟩))))
    walk_at "qd"
    exact ⟨line1000 (by rw [Str.length_append];lia),fg q⟩
theorem ok_ltx (n:Nat):FnOk P w K mg base CX0 (2 * n + 2) f_w_text d_w_text ["_law_tree_here"] (spOf K (asp_ltext n)):=by
  induction n with
  | zero=>exact none_yet T.F_w_text sc_w_text ltext0
  | succ n ih=>exact (ok_ltext T (ok_lshut T ih)).mono (by lia)
theorem ok_lob (n:Nat):FnOk P w K mg base CX0 (n + 4) f_w_object d_w_object ["_law_rule"] (spOf K (asp_lobj (csL [a_Nothing,a_Bead,a_Named,a_Or,a_By,a_Row,a_Bag,a_Choice,a_Ring]) n)):=by
  induction n with
  | zero=>exact none_yet T.F_w_object sc_w_object lobj0
  | succ n G_w_object =>
    have G_Bead___init__:=ok_iBead (P:=P) (w:=w) (base:=base) T
    have G_Named___init__:=ok_iNamed (P:=P) (w:=w) (base:=base) T
    have G_Or___init__:=ok_iOr (P:=P) (w:=w) (base:=base) T
    have G_By___init__:=ok_iBy (P:=P) (w:=w) (base:=base) T
    have G_Row___init__:=ok_iRow (P:=P) (w:=w) (base:=base) T
    have G_Bag___init__:=ok_iBag (P:=P) (w:=w) (base:=base) T
    have G_Choice___init__:=ok_iChoice (P:=P) (w:=w) (base:=base) T
    have G_Ring___init__:=ok_iRing (P:=P) (w:=w) (base:=base) T
    refine' Fun.okA T.F_w_object (sc:=?sc40) (body:=?bd40) ?hs40 ?hb40 sc_w_object ?hB40 ?hS40
    case hs40=>conv=>lhs;whnf
    case hb40=>conv=>lhs;whnf
    case hB40=>exact fun S cdv A outer s H E hr=>⟨_,(pss_cons (ps_if (pt_cmpR (o_eqD hr) (pe_ix o_ix (pv 0) pe_int (fun _ _=>rfl)) pe_str (nomark _)) (pss_one (ps_ret (pe_mk0 T.K_Nothing (by rfl) T.m_Nothing))) pss_nil)
      (pss_cons (ps_if (pt_cmpR (o_eqD hr) (pe_ix o_ix (pv 0) pe_int (fun _ _=>rfl)) pe_str (nomark _)) (pss_one (ps_ret (pe_make T.K_Bead (G_Bead___init__.mono (by first | decide | lia)) hr (by rfl) T.m_Bead T.B_Bead___init__ .nil pass0 (pa_cons (pe_ix o_ix (pv 0) pe_int (fun _ _=>rfl)) pa_nil)))) pss_nil)
      (pss_cons (ps_if (pt_cmpR (o_eqD hr) (pe_ix o_ix (pv 0) pe_int (fun _ _=>rfl)) pe_str (nomark _)) (pss_one (ps_ret (pe_make T.K_Named (G_Named___init__.mono (by first | decide | lia)) hr (by rfl) T.m_Named T.B_Named___init__ .nil pass0 (pa_cons (pe_ix o_ix (pv 0) pe_int (fun _ _=>rfl)) pa_nil)))) pss_nil)
      (pss_cons (ps_set (i:=1) S.nd rfl (Or.inl rfl) (pe_call (G_w_object.mono (by first | decide | lia)) hr (by rfl) T.M_w_object T.F_w_object.kp T.B_w_object .nil pass0 (pa_cons (pe_ix o_ix (pv 0) pe_int (fun _ _=>rfl)) pa_nil)))
      (pss_cons (ps_if (pt_cmpR (o_eqD hr) (pe_ix o_ix (pv 0) pe_int (fun _ _=>rfl)) pe_str (nomark _)) (pss_one (ps_ret (pe_make T.K_Or (G_Or___init__.mono (by first | decide | lia)) hr (by rfl) T.m_Or T.B_Or___init__ .nil pass0 (pa_cons (pv 1) (pa_cons (pe_call (G_w_object.mono (by first | decide | lia)) hr (by rfl) T.M_w_object T.F_w_object.kp T.B_w_object .nil pass0 (pa_cons (pe_ix o_ix (pv 0) pe_int (fun _ _=>rfl)) pa_nil)) pa_nil))))) pss_nil)
      (pss_cons (ps_if (pt_cmpR (o_eqD hr) (pe_ix o_ix (pv 0) pe_int (fun _ _=>rfl)) pe_str (nomark _)) (pss_one (ps_ret (pe_make T.K_By (G_By___init__.mono (by first | decide | lia)) hr (by rfl) T.m_By T.B_By___init__ .nil pass0 (pa_cons (pv 1) (pa_cons (pe_call (G_w_object.mono (by first | decide | lia)) hr (by rfl) T.M_w_object T.F_w_object.kp T.B_w_object .nil pass0 (pa_cons (pe_ix o_ix (pv 0) pe_int (fun _ _=>rfl)) pa_nil)) pa_nil))))) pss_nil)
      (pss_cons (ps_if (pt_cmpR (o_eqD hr) (pe_ix o_ix (pv 0) pe_int (fun _ _=>rfl)) pe_str (nomark _)) (pss_one (ps_ret (pe_make T.K_Row (G_Row___init__.mono (by first | decide | lia)) hr (by rfl) T.m_Row T.B_Row___init__ .nil pass0 (pa_cons (pv 1) pa_nil)))) pss_nil)
      (pss_cons (ps_if (pt_cmpR (o_eqD hr) (pe_ix o_ix (pv 0) pe_int (fun _ _=>rfl)) pe_str (nomark _)) (pss_one (ps_ret (pe_make T.K_Bag (G_Bag___init__.mono (by first | decide | lia)) hr (by rfl) T.m_Bag T.B_Bag___init__ .nil pass0 (pa_cons (pv 1) pa_nil)))) pss_nil)
      (pss_cons (ps_if (pt_cmpR (o_eqD hr) (pe_ix o_ix (pv 0) pe_int (fun _ _=>rfl)) pe_str (nomark _)) (pss_one (ps_ret (pe_make T.K_Choice (G_Choice___init__.mono (by first | decide | lia)) hr (by rfl) T.m_Choice T.B_Choice___init__ .nil pass0 (pa_cons (pv 1) pa_nil)))) pss_nil)
      (pss_one (ps_ret (pe_make T.K_Ring (G_Ring___init__.mono (by first | decide | lia)) hr (by rfl) T.m_Ring T.B_Ring___init__ .nil pass0 (pa_cons (pv 1) pa_nil))))))))))))),(ab_seq (ab_ifs (ab_test (ab_op ab_eq (ab_op ab_ix ab_var ab_int) ab_str)) (ab_ret ab_mk0) ab_next)
      (ab_seq (ab_ifs (ab_test (ab_op ab_eq (ab_op ab_ix ab_var ab_int) ab_str)) (ab_ret (ab_make (ab_cons (ab_op ab_ix ab_var ab_int) ab_nil))) ab_next)
      (ab_seq (ab_ifs (ab_test (ab_op ab_eq (ab_op ab_ix ab_var ab_int) ab_str)) (ab_ret (ab_make (ab_cons (ab_op ab_ix ab_var ab_int) ab_nil))) ab_next)
      (ab_seq (ab_asg (ab_call (ab_cons (ab_op ab_ix ab_var ab_int) ab_nil)) ab_name)
      (ab_seq (ab_ifs (ab_test (ab_op ab_eq (ab_op ab_ix ab_var ab_int) ab_str)) (ab_ret (ab_make (ab_cons ab_var (ab_cons (ab_call (ab_cons (ab_op ab_ix ab_var ab_int) ab_nil)) ab_nil)))) ab_next)
      (ab_seq (ab_ifs (ab_test (ab_op ab_eq (ab_op ab_ix ab_var ab_int) ab_str)) (ab_ret (ab_make (ab_cons ab_var (ab_cons (ab_call (ab_cons (ab_op ab_ix ab_var ab_int) ab_nil)) ab_nil)))) ab_next)
      (ab_seq (ab_ifs (ab_test (ab_op ab_eq (ab_op ab_ix ab_var ab_int) ab_str)) (ab_ret (ab_make (ab_cons ab_var ab_nil))) ab_next)
      (ab_seq (ab_ifs (ab_test (ab_op ab_eq (ab_op ab_ix ab_var ab_int) ab_str)) (ab_ret (ab_make (ab_cons ab_var ab_nil))) ab_next)
      (ab_seq (ab_ifs (ab_test (ab_op ab_eq (ab_op ab_ix ab_var ab_int) ab_str)) (ab_ret (ab_make (ab_cons ab_var ab_nil))) ab_next)
      (ab_ret (ab_make (ab_cons ab_var ab_nil))))))))))))⟩
    rintro us A Q ⟨r,rfl,hd,q⟩
    refine ⟨rfl,?_⟩
    walk_at "qs"
    cases r with
    | nothing =>
      unfold Rl.toU
      walk_at "qg"
      exact iteTt rfl fun x dx hx=>fg (q _ x (Ext.new hx) ⟨dx,updA_same⟩)
    | bead c =>
      unfold Rl.toU
      walk_at "qg"
      exact iteFf (by decide +kernel) (iteTt rfl fun x dx hx=>⟨x,dx,_,rfl,updA_same,rfl,by rw [updA_updA];exact fg (q _ x (Ext.new hx) ⟨dx,updA_same⟩)⟩)
    | named c =>
      unfold Rl.toU
      walk_at "qg"
      exact iteFf (by decide +kernel) (iteFf (by decide +kernel) (iteTt rfl fun x dx hx=>⟨x,dx,_,rfl,updA_same,rfl,by rw [updA_updA];exact fg (q _ x (Ext.new hx) ⟨dx,updA_same⟩)⟩))
    | or x y =>
      unfold Rl.toU
      walk_at "qg"
      simp only [Rl.dep] at hd
      refine iteFf (by decide +kernel) (iteFf (by decide +kernel) (iteFf (by decide +kernel) (⟨x,rfl,by lia,fun B1 b1 e1 h1=>?_⟩)))
      walk_at "qg"
      refine iteTt rfl ⟨y,rfl,by lia,fun B2 b2 e2 h2 x3 dx hx=>⟨x3,dx,_,_,rfl,updA_same,rfl,?_⟩⟩
      rw [updA_updA]
      exact fg (q _ x3 ((e1.trans e2).trans (Ext.new hx)) ⟨dx,b1,b2,updA_same,(h1.ext e2).ext (Ext.new hx),h2.ext (Ext.new hx)⟩)
    | by_ x y =>
      unfold Rl.toU
      walk_at "qg"
      simp only [Rl.dep] at hd
      refine iteFf (by decide +kernel) (iteFf (by decide +kernel) (iteFf (by decide +kernel) (⟨x,rfl,by lia,fun B1 b1 e1 h1=>?_⟩)))
      walk_at "qg"
      refine iteFf (by decide +kernel) (iteTt rfl ⟨y,rfl,by lia,fun B2 b2 e2 h2 x3 dx hx=>⟨x3,dx,_,_,rfl,updA_same,rfl,?_⟩⟩)
      rw [updA_updA]
      exact fg (q _ x3 ((e1.trans e2).trans (Ext.new hx)) ⟨dx,b1,b2,updA_same,(h1.ext e2).ext (Ext.new hx),h2.ext (Ext.new hx)⟩)
    | hold k x =>
      unfold Rl.toU
      walk_at "qg"
      simp only [Rl.dep] at hd
      have hk:∀ z∈(["nothing","bead","name","or","by"]:List Str),decide (mname k=z)=false:=fun z hz=>decide_eq_false (mn_ne k hz)
      refine iteFf (hk _ (by decide +kernel)) (iteFf (hk _ (by decide +kernel)) (iteFf (hk _ (by decide +kernel)) ⟨x,rfl,by lia,fun B1 b1 e1 h1=>?_⟩))
      walk_at "qg"
      refine iteFf (hk _ (by decide +kernel)) (iteFf (hk _ (by decide +kernel)) ?_)
      have q':∀ (C:Addr) (b dx:Addr),B1 b=none->(csL [a_Nothing,a_Bead,a_Named,a_Or,a_By,a_Row,a_Bag,a_Choice,a_Ring]) (5 + min k 3)=C->Fg Q (.ref b) (updA (updA B1 b (.ins C dx [])) b (.ins C dx [("part",.ref b1)])):=fun C b dx hb e=>by
        subst e
        rw [updA_updA]
        exact fg (q _ b (e1.trans (Ext.new hb)) ⟨dx,b1,updA_same,h1.ext (Ext.new hb)⟩)
      clear hk q
      rcases k with _ | _ | _ | k
      . exact iteTt (by decide +kernel) fun b dx hb=>⟨b,dx,_,rfl,updA_same,rfl,q' _ b dx hb rfl⟩
      . exact iteFf (by decide +kernel) (iteTt (by decide +kernel) fun b dx hb=>⟨b,dx,_,rfl,updA_same,rfl,q' _ b dx hb rfl⟩)
      . exact iteFf (by decide +kernel) (iteFf (by decide +kernel) (iteTt (by decide +kernel) fun b dx hb=>⟨b,dx,_,rfl,updA_same,rfl,q' _ b dx hb rfl⟩))
      . rw [show mname (k + 1 + 1 + 1)=mname 3 from rfl]
        exact iteFf (by decide +kernel) (iteFf (by decide +kernel) (iteFf (by decide +kernel) fun b dx hb=>⟨b,dx,_,rfl,updA_same,rfl,q' _ b dx hb (by rw [Nat.min_eq_right (by lia)];rfl)⟩))
end
section
include T
theorem nop (k:Nat):NoAttr K ((csL [a_Nothing,a_Bead,a_Named,a_Or,a_By,a_Row,a_Bag,a_Choice,a_Ring]) (5 + min k 3)) "part":=by
  rcases k with _ | _ | _ | k
  . exact T.N_Row_part
  . exact T.N_Bag_part
  . exact T.N_Choice_part
  . rw [Nat.min_eq_right (by lia)];exact T.N_Ring_part
theorem ok_shows {n:Nat}:FnOk P w K mg base CX0 (2 * n + 3) f_w_shows d_w_shows ["_law_rule","_law_text_here"] (spOf K (asp_shows (csL [a_Nothing,a_Bead,a_Named,a_Or,a_By,a_Row,a_Bag,a_Choice,a_Ring]) n)):=by
  have HD_told:=ok_told (P:=P) (w:=w) (base:=base) T n
  refine' Fun.okA T.F_w_shows (sc:=?sc41) (body:=?bd41) ?hs41 ?hb41 sc_w_shows ?hB41 ?hS41
  case hs41=>conv=>lhs;whnf
  case hb41=>conv=>lhs;whnf
  case hB41=>exact fun S cdv A outer s H E hr=>⟨_,(pss_cons (ps_set (i:=2) S.nd rfl (Or.inl rfl) (pe_methD0 (pv 0) (HD_told.mono (by first | decide | lia)) hr pass0))
      (pss_one (ps_ret (pe_and (pe_callB c_isW (by rfl) T.n_isinstance (by decide +kernel) (pa_cons (pv 2) (pa_cons (pe_ty (T:="str") (by rfl) T.n_str (by decide +kernel)) pa_nil))) (pe_one (pe_cmpR (o_eqD hr) (pv 2) (pv 1) (nomark _))))))),(ab_seq (ab_asg (ab_methD ab_var ab_nil) ab_name)
      (ab_ret (ab_andv (ab_cb ab_isi (ab_cons ab_var (ab_cons ab_ty ab_nil))) (ab_op ab_eq ab_var ab_var))))⟩
  rintro us A Q ⟨a,r,rfl,hr,hd,hw,hs,q⟩
  refine ⟨rfl,?_⟩
  walk_at "qs"
  walk_at "qd"
  refine told_go hr hd hw hs ?_
  walk_at "qd"
  exact ⟨.inr (.inr (.inl trivial)),trivial,iteTt rfl (by rw [decide_eq_true trivial];exact fg q)⟩
theorem ok_like (n:Nat):FnOk P w K mg base CX0 (n + 2) f_w_like d_w_like ["_law_rule","_law_tree_here"] (spOf K (asp_like (csL [a_Nothing,a_Bead,a_Named,a_Or,a_By,a_Row,a_Bag,a_Choice,a_Ring]) n)):=by
  induction n with
  | zero=>exact none_yet T.F_w_like sc_w_like like0
  | succ n G_w_like =>
    refine' Fun.okA T.F_w_like (sc:=?sc42) (body:=?bd42) ?hs42 ?hb42 sc_w_like ?hB42 ?hS42
    case hs42=>conv=>lhs;whnf
    case hb42=>conv=>lhs;whnf
    case hB42=>exact fun S cdv A outer s H E hr=>⟨_,(pss_cons (ps_if (pt_not (pt_val (pe_callB c_isC (by rfl) T.n_isinstance (by decide +kernel) (pa_cons (pv 0) (pa_cons (pe_glob (v:=.ref _) (by rfl) T.m_Rule rfl) pa_nil))))) (pss_one (ps_ret pe_bl)) pss_nil)
      (pss_cons (ps_if (pt_val (pe_callB c_isC (by rfl) T.n_isinstance (by decide +kernel) (pa_cons (pv 0) (pa_cons (pe_glob (v:=.ref _) (by rfl) T.m_Nothing rfl) pa_nil)))) (pss_one (ps_ret (pe_cmpR (o_eqD hr) (pv 1) (pe_tup (pa_cons pe_str pa_nil)) (nomark _)))) pss_nil)
      (pss_cons (ps_if (pt_val (pe_callB c_isC (by rfl) T.n_isinstance (by decide +kernel) (pa_cons (pv 0) (pa_cons (pe_glob (v:=.ref _) (by rfl) T.m_Bead rfl) pa_nil)))) (pss_one (ps_ret (pe_cmpR (o_eqD hr) (pv 1) (pe_tup (pa_cons pe_str (pa_cons (pe_fld (pv 0) rfl) pa_nil))) (nomark _)))) pss_nil)
      (pss_cons (ps_if (pt_val (pe_callB c_isC (by rfl) T.n_isinstance (by decide +kernel) (pa_cons (pv 0) (pa_cons (pe_glob (v:=.ref _) (by rfl) T.m_Named rfl) pa_nil)))) (pss_one (ps_ret (pe_cmpR (o_eqD hr) (pv 1) (pe_tup (pa_cons pe_str (pa_cons (pe_fld (pv 0) rfl) pa_nil))) (nomark _)))) pss_nil)
      (pss_cons (ps_if ((pw_or (pt_val (pe_callB c_isC (by rfl) T.n_isinstance (by decide +kernel) (pa_cons (pv 0) (pa_cons (pe_glob (v:=.ref _) (by rfl) T.m_Or rfl) pa_nil)))) (pw_or1 (pt_val (pe_callB c_isC (by rfl) T.n_isinstance (by decide +kernel) (pa_cons (pv 0) (pa_cons (pe_glob (v:=.ref _) (by rfl) T.m_By rfl) pa_nil))))))).pt (pss_cons (ps_set (i:=2) S.nd rfl (Or.inl rfl) (pe_ix o_ix (pe_lst (pa_cons pe_str (pa_cons pe_str pa_nil))) (pe_callTy c_int (by rfl) T.n_int (by decide +kernel) (pa_cons (pe_callB c_isC (by rfl) T.n_isinstance (by decide +kernel) (pa_cons (pv 0) (pa_cons (pe_glob (v:=.ref _) (by rfl) T.m_Or rfl) pa_nil))) pa_nil)) (fun _ _=>rfl)))
      (pss_one (ps_ret (pe_and (pe_cmpR (o_eqD hr) (pe_ix o_ix (pv 1) pe_int (fun _ _=>rfl)) (pv 2) (nomark _)) (pe_and (pe_call (G_w_like.mono (by first | decide | lia)) hr (by rfl) T.M_w_like T.F_w_like.kp T.B_w_like .nil pass0 (pa_cons (pe_fld (pv 0) rfl) (pa_cons (pe_ix o_ix (pv 1) pe_int (fun _ _=>rfl)) pa_nil))) (pe_one (pe_call (G_w_like.mono (by first | decide | lia)) hr (by rfl) T.M_w_like T.F_w_like.kp T.B_w_like .nil pass0 (pa_cons (pe_fld (pv 0) rfl) (pa_cons (pe_ix o_ix (pv 1) pe_int (fun _ _=>rfl)) pa_nil))))))))) pss_nil)
      (pss_cons (ps_set (i:=3) S.nd rfl (Or.inl rfl) (pe_lst (pa_cons (pe_callB c_isC (by rfl) T.n_isinstance (by decide +kernel) (pa_cons (pv 0) (pa_cons (pe_glob (v:=.ref _) (by rfl) T.m_Row rfl) pa_nil))) (pa_cons (pe_callB c_isC (by rfl) T.n_isinstance (by decide +kernel) (pa_cons (pv 0) (pa_cons (pe_glob (v:=.ref _) (by rfl) T.m_Bag rfl) pa_nil))) (pa_cons (pe_callB c_isC (by rfl) T.n_isinstance (by decide +kernel) (pa_cons (pv 0) (pa_cons (pe_glob (v:=.ref _) (by rfl) T.m_Choice rfl) pa_nil))) (pa_cons (pe_callB c_isC (by rfl) T.n_isinstance (by decide +kernel) (pa_cons (pv 0) (pa_cons (pe_glob (v:=.ref _) (by rfl) T.m_Ring rfl) pa_nil))) pa_nil))))))
      (pss_cons (ps_if (pt_cmpR (o_neD hr) (pe_callB c_len (by rfl) T.n_len (by decide +kernel) (pa_cons (pe_comp (ts:=["_law_mark"]) (frs':=[]) (cl:=[]) rfl ⟨rfl,rfl,(by decide +kernel),(by decide +kernel),(fun _ z=>nomatch z),(noFree_has rfl rfl),(fun _ z=>nomatch z)⟩ (pj_seq (pv 3)) (fun _ _ _ _=>pg_name (i:=0) nd1 rfl (Or.inl rfl) (.inr rfl)) (fun _ _ _ _=>(pifs_one (pt_val (pv 0)))) (fun _ _ _ _=>by exact (pv 0))) pa_nil)) pe_int (nomark _)) (pss_one (ps_ret pe_bl)) pss_nil)
      (pss_one (ps_ret (pe_and (pe_cmpR (o_eqD hr) (pe_ix o_ix (pv 1) pe_int (fun _ _=>rfl)) (pe_ix o_ix (pe_lst (pa_strs (xs:=["row","bag","choice","ring"]) rfl)) (pe_bm PySem.F.plainAttrs_list PySem.F.slot_list_index PySem.F.type_list_index mt_idxB (pv 3) (pa_cons pe_bl pa_nil)) (fun _ _=>rfl)) (nomark _)) (pe_one (pe_call (G_w_like.mono (by first | decide | lia)) hr (by rfl) T.M_w_like T.F_w_like.kp T.B_w_like .nil pass0 (pa_cons (pe_fld (pv 0) rfl) (pa_cons (pe_ix o_ix (pv 1) pe_int (fun _ _=>rfl)) pa_nil)))))))))))))),(ab_seq (ab_ifH (ab_not (ab_tb (ab_cb ab_isC (ab_cons ab_var (ab_cons ab_ref ab_nil))))) (ab_ret ab_bl) ab_next)
      (ab_seq (ab_ifH (ab_tb (ab_cb ab_isC (ab_cons ab_var (ab_cons ab_ref ab_nil)))) (ab_ret (ab_op ab_eq ab_var (ab_tup (ab_cons ab_str ab_nil)))) ab_next)
      (ab_seq (ab_ifH (ab_tb (ab_cb ab_isC (ab_cons ab_var (ab_cons ab_ref ab_nil)))) (ab_ret (ab_op ab_eq ab_var (ab_tup (ab_cons ab_str (ab_cons (ab_fld ab_var) ab_nil))))) ab_next)
      (ab_seq (ab_ifH (ab_tb (ab_cb ab_isC (ab_cons ab_var (ab_cons ab_ref ab_nil)))) (ab_ret (ab_op ab_eq ab_var (ab_tup (ab_cons ab_str (ab_cons (ab_fld ab_var) ab_nil))))) ab_next)
      (ab_seq (ab_ifH (ab_or (ab_tb (ab_cb ab_isC (ab_cons ab_var (ab_cons ab_ref ab_nil)))) (ab_tb (ab_cb ab_isC (ab_cons ab_var (ab_cons ab_ref ab_nil))))) (ab_seq (ab_asg (ab_op ab_ix (ab_lst (ab_cons ab_str (ab_cons ab_str ab_nil))) (ab_cb ab_xint (ab_cons (ab_cb ab_isC (ab_cons ab_var (ab_cons ab_ref ab_nil))) ab_nil))) ab_name)
      (ab_ret (ab_andv (ab_op ab_eq (ab_op ab_ix ab_var ab_int) ab_var) (ab_andv (ab_call (ab_cons (ab_fld ab_var) (ab_cons (ab_op ab_ix ab_var ab_int) ab_nil))) (ab_call (ab_cons (ab_fld ab_var) (ab_cons (ab_op ab_ix ab_var ab_int) ab_nil))))))) ab_next)
      (ab_seq (ab_asg (ab_lst (ab_cons (ab_cb ab_isC (ab_cons ab_var (ab_cons ab_ref ab_nil))) (ab_cons (ab_cb ab_isC (ab_cons ab_var (ab_cons ab_ref ab_nil))) (ab_cons (ab_cb ab_isC (ab_cons ab_var (ab_cons ab_ref ab_nil))) (ab_cons (ab_cb ab_isC (ab_cons ab_var (ab_cons ab_ref ab_nil))) ab_nil))))) ab_name)
      (ab_seq (ab_ifH (ab_test (ab_op ab_ne (ab_cb ab_len (ab_cons (ab_comp (ab_jof ab_yseq ab_var) ab_name (ab_tb ab_var) ab_var) ab_nil)) ab_int)) (ab_ret ab_bl) ab_next)
      (ab_ret (ab_andv (ab_op ab_eq (ab_op ab_ix ab_var ab_int) (ab_op ab_ix (ab_lst ab_strs) (ab_bm ab_isLst ab_idxB ab_var (ab_cons ab_bl ab_nil)))) (ab_call (ab_cons (ab_fld ab_var) (ab_cons (ab_op ab_ix ab_var ab_int) ab_nil))))))))))))⟩
    rintro us A Q ⟨a,r,rfl,hr,hd,hw,q⟩
    refine ⟨rfl,?_⟩
    walk_at "qs"
    walk_at "qd"
    obtain ⟨dx,fs,ha,_⟩:=hr.cls told_nm
    have isx:∀ {j:Nat} {c:Addr} {b:Bool} {P:Bool->Prop} {A':AHp},Ext A A'->(csL [a_Nothing,a_Bead,a_Named,a_Or,a_By,a_Row,a_Bag,a_Choice,a_Ring]) j=c->j < 9->(r.ci == j)=b->P b->∃ a' C dx' fs' c' b',[U.ref a,U.ref c]=[.ref a',.ref c']/\A' a'=some (.ins C dx' fs')/\IsC K C c' b'/\P b':=fun eA e hj eb p=>by
      subst e eb
      exact ⟨a,_,dx,fs,_,_,rfl,eA _ _ ha,T.IT.isC (clss T) r.ci_lt hj,p⟩
    refine if_no (fun B hB=>?_) ?_
    . walk_at "qd"
      exact ⟨a,_,dx,fs,_,_,rfl,ha,T.IT.isR (clss T) r.ci_lt,hB⟩
    walk_at "qd"
    cases r with
    | nothing =>
      refine if_yes (fun B hB=>?_) ?_
      . walk_at "qd"
        exact isx (j:=0) (Ext.refl A) rfl (by decide) rfl hB
      . unfold Rl.toU
        walk_at "qd"
        exact ⟨tup1,eqS1 (by decide +kernel) (fg q)⟩
    | bead c =>
      obtain ⟨dx2,ha2⟩:=hr
      refine if_no (fun B hB=>?_) ?_
      . walk_at "qd"
        exact isx (j:=0) (Ext.refl A) rfl (by decide) rfl hB
      walk_at "qd"
      refine if_yes (fun B hB=>?_) ?_
      . walk_at "qd"
        exact isx (j:=1) (Ext.refl A) rfl (by decide) rfl hB
      . unfold Rl.toU
        walk_at "qd"
        refine ⟨a,_,dx2,_,_,rfl,ha2,T.L_Bead,T.N_Bead_colour,lkp,tup2,?_⟩
        walk_at "qd"
        exact eqS2 (by decide +kernel) (wdB_ok hw) (fg q)
    | named c =>
      obtain ⟨dx2,ha2⟩:=hr
      refine if_no (fun B hB=>?_) ?_
      . walk_at "qd"
        exact isx (j:=0) (Ext.refl A) rfl (by decide) rfl hB
      walk_at "qd"
      refine if_no (fun B hB=>?_) ?_
      . walk_at "qd"
        exact isx (j:=1) (Ext.refl A) rfl (by decide) rfl hB
      walk_at "qd"
      refine if_yes (fun B hB=>?_) ?_
      . walk_at "qd"
        exact isx (j:=2) (Ext.refl A) rfl (by decide) rfl hB
      . unfold Rl.toU
        walk_at "qd"
        refine ⟨a,_,dx2,_,_,rfl,ha2,T.L_Named,T.N_Named_name,lkp,tup2,?_⟩
        walk_at "qd"
        exact eqS2 (by decide +kernel) (wdB_ok hw) (fg q)
    | or x y =>
      obtain ⟨dx2,p1,p2,ha2,h1,h2⟩:=hr
      simp only [Rl.dep,Rl.wd,Bool.and_eq_true] at hd hw
      refine if_no (fun B hB=>?_) ?_
      . walk_at "qd"
        exact isx (j:=0) (Ext.refl A) rfl (by decide) rfl hB
      walk_at "qd"
      refine if_no (fun B hB=>?_) ?_
      . walk_at "qd"
        exact isx (j:=1) (Ext.refl A) rfl (by decide) rfl hB
      walk_at "qd"
      refine if_no (fun B hB=>?_) ?_
      . walk_at "qd"
        exact isx (j:=2) (Ext.refl A) rfl (by decide) rfl hB
      walk_at "qd"
      refine if_yes (fun B hB=>?_) ?_
      . walk_at "qd"
        exact isx (j:=3) (Ext.refl A) rfl (by decide) rfl (iteTt rfl hB)
      . unfold Rl.toU
        walk_at "qg"
        refine ⟨tup2,fun p hp=>isx (b:=true) (j:=3) (Ext.new hp) rfl (by decide) rfl ?_⟩
        rw [q_xintb,if_pos rfl]
        walk_at "qd"
        refine ⟨_,_,updA_same,rfl,?_⟩
        walk_at "qd"
        have ep:=Ext.new (o:=.lst [.str "by",.str "or"]) hp
        refine ⟨a,_,dx2,_,_,rfl,ep _ _ ha2,T.L_Or,T.N_Or_one,lk1,p1,x,rfl,h1.ext ep,by lia,hw.1,_,rfl,iteTt rfl ?_⟩
        exact ⟨a,_,dx2,_,_,rfl,ep _ _ ha2,T.L_Or,T.N_Or_other,lk2 (by decide +kernel),p2,y,rfl,h2.ext ep,by lia,hw.2,fgx ep q⟩
    | by_ x y =>
      obtain ⟨dx2,p1,p2,ha2,h1,h2⟩:=hr
      simp only [Rl.dep,Rl.wd,Bool.and_eq_true] at hd hw
      refine if_no (fun B hB=>?_) ?_
      . walk_at "qd"
        exact isx (j:=0) (Ext.refl A) rfl (by decide) rfl hB
      walk_at "qd"
      refine if_no (fun B hB=>?_) ?_
      . walk_at "qd"
        exact isx (j:=1) (Ext.refl A) rfl (by decide) rfl hB
      walk_at "qd"
      refine if_no (fun B hB=>?_) ?_
      . walk_at "qd"
        exact isx (j:=2) (Ext.refl A) rfl (by decide) rfl hB
      walk_at "qd"
      refine if_yes (fun B hB=>?_) ?_
      . walk_at "qd"
        exact isx (j:=3) (Ext.refl A) rfl (by decide) rfl (iteFf rfl (isx (j:=4) (Ext.refl A) rfl (by decide) rfl hB))
      . unfold Rl.toU
        walk_at "qg"
        refine ⟨tup2,fun p hp=>isx (b:=false) (j:=3) (Ext.new hp) rfl (by decide) rfl ?_⟩
        rw [q_xintb,if_neg (by decide)]
        walk_at "qd"
        refine ⟨_,_,updA_same,rfl,?_⟩
        walk_at "qd"
        have ep:=Ext.new (o:=.lst [.str "by",.str "or"]) hp
        refine ⟨a,_,dx2,_,_,rfl,ep _ _ ha2,T.L_By,T.N_By_one,lk1,p1,x,rfl,h1.ext ep,by lia,hw.1,_,rfl,iteTt rfl ?_⟩
        exact ⟨a,_,dx2,_,_,rfl,ep _ _ ha2,T.L_By,T.N_By_other,lk2 (by decide +kernel),p2,y,rfl,h2.ext ep,by lia,hw.2,fgx ep q⟩
    | hold k x =>
      obtain ⟨dx2,p1,ha2,h1⟩:=hr
      simp only [Rl.dep,Rl.wd] at hd hw
      have hk:∀ j,j < 5->((Rl.hold k x).ci == j)=false:=fun j hj=>by simp only [Rl.ci,beq_eq_false_iff_ne];lia
      refine if_no (fun B hB=>?_) ?_
      . walk_at "qd"
        exact isx (j:=0) (Ext.refl A) rfl (by decide) (hk _ (by decide)) hB
      walk_at "qd"
      refine if_no (fun B hB=>?_) ?_
      . walk_at "qd"
        exact isx (j:=1) (Ext.refl A) rfl (by decide) (hk _ (by decide)) hB
      walk_at "qd"
      refine if_no (fun B hB=>?_) ?_
      . walk_at "qd"
        exact isx (j:=2) (Ext.refl A) rfl (by decide) (hk _ (by decide)) hB
      walk_at "qd"
      refine if_no (fun B hB=>?_) ?_
      . walk_at "qd"
        exact isx (j:=3) (Ext.refl A) rfl (by decide) (hk _ (by decide)) (iteFf rfl (isx (j:=4) (Ext.refl A) rfl (by decide) (hk _ (by decide)) hB))
      . unfold Rl.toU
        have hci:(Rl.hold k x).ci=5 + min k 3:=rfl
        have hmn:=mname_min k
        have hj:min k 3<=3:=Nat.min_le_right _ _
        walk_at "qg"
        rw [<- hmn]
        generalize min k 3=j at hci hj
        have hb:∀ i,((Rl.hold k x).ci == 5 + i)=(j == i):=fun i=>by rw [hci,Bool.eq_iff_iff,beq_iff_eq,beq_iff_eq];lia
        refine isx (b:=j == 0) (j:=5 + 0) (Ext.refl A) rfl (by decide) (hb 0) (isx (b:=j == 1) (j:=5 + 1) (Ext.refl A) rfl (by decide) (hb 1) (isx (b:=j == 2) (j:=5 + 2) (Ext.refl A) rfl (by decide) (hb 2) (isx (b:=j == 3) (j:=5 + 3) (Ext.refl A) rfl (by decide) (hb 3) ⟨by show 4<=sizeLine;decide,fun p hp=>?_⟩)))
        refine if_noE (fun B hB=>?_) fun A2 e2=>?_
        . walk_at "qd"
          refine ⟨⟨_,updA_same⟩,fun l hl=>?_⟩
          walk_at "qc"
          refine cl_fil _ (fun i=>j == i) (fun i=>.bl (j == i)) hl (by show 4<=100000;decide) (fun i A2 _ e2=>⟨_,e2 _ _ updA_same,rfl⟩) (fun i u A2 hu e2 Cy Cn hy hn=>?_) ?_
          . rw [bs_get hu]
            walk_at "qd"
            refine iteB (fun h=>?_) fun h=>hn (by simpa using h)
            exact hy h
          . walk_at "qd"
            refine ⟨_,updA_same,?_⟩
            rw [List.length_map]
            rw [show ((List.range [U.bl (j == 0),U.bl (j == 1),U.bl (j == 2),U.bl (j == 3)].length).filter fun i=>j == i).length=1 from one_len hj]
            exact hB _ (Ext.new hl)
        walk_at "qd"
        refine ⟨by decide,fun p2 hp2=>?_⟩
        have e3:=e2.trans (Ext.new (o:=.lst [.str "row",.str "bag",.str "choice",.str "ring"]) hp2)
        have e4:=(Ext.new hp).trans e3
        refine ⟨⟨_,e3 _ _ updA_same⟩,[j == 0,j == 1,j == 2,j == 3],j,e3 _ _ updA_same,(bs_at hj).1,(bs_at hj).2,_,_,updA_same,mn_at hj,?_⟩
        walk_at "qd"
        exact ⟨a,_,dx2,_,_,rfl,e4 _ _ ha2,clss T _ (csL_mem (by show 5 + min k 3 < 9;lia)),nop T k,lkp,p1,x,rfl,h1.ext e4,by lia,hw,fgx e4 q⟩
end
section
include T
theorem ok_wide (n:Nat):FnOk P w K mg base CX0 (2 * n + 4) f_w_wide d_w_wide ["_law_tree_here","_law_cells","_law_least"] (spOf K (asp_wide n)):=by
  induction n with
  | zero=>exact none_yet T.F_w_wide sc_w_wide wide0
  | succ n G_w_wide =>
    have G_w_binds:=ok_binds (P:=P) (w:=w) (base:=base) T
    have G_w_text:=ok_ltx (P:=P) (w:=w) (base:=base) T (n + 1)
    refine' Fun.okA T.F_w_wide (sc:=?sc43) (body:=?bd43) ?hs43 ?hb43 sc_w_wide ?hB43 ?hS43
    case hs43=>conv=>lhs;whnf
    case hb43=>conv=>lhs;whnf
    case hB43=>exact fun S cdv A outer s H E hr=>⟨_,(pss_cons (ps_if (pt_cmpR o_in (pe_ix o_ix (pv 0) pe_int (fun _ _=>rfl)) (pe_tup (pa_strs (xs:=["nothing","bead","name"]) rfl)) (by with_unfolding_all rfl)) (pss_one (ps_set (i:=3) S.nd rfl (Or.inl rfl) (pe_call (G_w_text.mono (by first | decide | lia)) hr (by rfl) T.M_w_text T.F_w_text.kp T.B_w_text .nil pass0 (pa_cons (pv 0) pa_nil)))) (pss_one (ps_if (pt_cmpR (o_eqD hr) (pe_ix o_ix (pv 0) pe_int (fun _ _=>rfl)) pe_str (nomark _)) (pss_one (ps_set (i:=3) S.nd rfl (Or.inl rfl) (pe_op o_addW (pe_op o_addW (pe_call (G_w_wide.mono (by first | decide | lia)) hr (by rfl) T.M_w_wide T.F_w_wide.kp T.B_w_wide .nil pass0 (pa_cons (pe_ix o_ix (pv 0) pe_int (fun _ _=>rfl)) (pa_cons (pv 1) (pa_cons pe_int pa_nil)))) pe_str) (pe_call (G_w_wide.mono (by first | decide | lia)) hr (by rfl) T.M_w_wide T.F_w_wide.kp T.B_w_wide .nil pass0 (pa_cons (pe_ix o_ix (pv 0) pe_int (fun _ _=>rfl)) (pa_cons (pv 1) (pa_cons pe_int pa_nil))))))) (pss_one (ps_if (pt_cmpR (o_eqD hr) (pe_ix o_ix (pv 0) pe_int (fun _ _=>rfl)) pe_str (nomark _)) (pss_one (ps_set (i:=3) S.nd rfl (Or.inl rfl) (pe_op o_addW (pe_op o_addW (pe_call (G_w_wide.mono (by first | decide | lia)) hr (by rfl) T.M_w_wide T.F_w_wide.kp T.B_w_wide .nil pass0 (pa_cons (pe_ix o_ix (pv 0) pe_int (fun _ _=>rfl)) (pa_cons (pv 1) (pa_cons pe_int pa_nil)))) pe_str) (pe_call (G_w_wide.mono (by first | decide | lia)) hr (by rfl) T.M_w_wide T.F_w_wide.kp T.B_w_wide .nil pass0 (pa_cons (pe_ix o_ix (pv 0) pe_int (fun _ _=>rfl)) (pa_cons (pv 1) (pa_cons pe_int pa_nil))))))) (pss_one (ps_set (i:=3) S.nd rfl (Or.inl rfl) (pe_op o_addW (pe_op o_addW (pe_ix o_ix (pv 0) pe_int (fun _ _=>rfl)) pe_str) (pe_call (G_w_wide.mono (by first | decide | lia)) hr (by rfl) T.M_w_wide T.F_w_wide.kp T.B_w_wide .nil pass0 (pa_cons (pe_ix o_ix (pv 0) pe_int (fun _ _=>rfl)) (pa_cons (pv 1) (pa_cons pe_int pa_nil))))))))))))
      (pss_cons (ps_set (i:=4) S.nd rfl (Or.inl rfl) pe_int)
      (pss_cons (ps_if (pt_cmpR o_gt (pe_callB c_len (by rfl) T.n_len (by decide +kernel) (pa_cons (pv 1) pa_nil)) pe_int (nomark _)) (pss_one (ps_set (i:=4) S.nd rfl (Or.inl rfl) (pe_bm PySem.F.plainAttrs_list PySem.F.slot_list_pop PySem.F.type_list_pop mt_popAt (pv 1) (pa_cons pe_int pa_nil)))) pss_nil)
      (pss_cons (ps_if ((pw_or (pt_cmpR o_lt (pe_call (G_w_binds.mono (by first | decide | lia)) hr (by rfl) T.M_w_binds T.F_w_binds.kp T.B_w_binds .nil pass0 (pa_cons (pv 0) pa_nil)) (pv 2) (nomark _)) (pw_or1 (pt_cmpR (o_eqD hr) (pe_op o_mod (pv 4) pe_int) pe_int (nomark _))))).pt (pss_one (ps_ret (pe_op o_addW (pe_op o_addW pe_str (pv 3)) pe_str))) pss_nil)
      (pss_one (ps_ret (pv 3))))))),(ab_seq (ab_ifH (ab_test (ab_op ab_in (ab_op ab_ix ab_var ab_int) (ab_tup ab_strs))) (ab_asg (ab_call (ab_cons ab_var ab_nil)) ab_name) (ab_ifH (ab_test (ab_op ab_eq (ab_op ab_ix ab_var ab_int) ab_str)) (ab_asg (ab_op ab_add (ab_op ab_add (ab_call (ab_cons (ab_op ab_ix ab_var ab_int) (ab_cons ab_var (ab_cons ab_int ab_nil)))) ab_str) (ab_call (ab_cons (ab_op ab_ix ab_var ab_int) (ab_cons ab_var (ab_cons ab_int ab_nil))))) ab_name) (ab_ifH (ab_test (ab_op ab_eq (ab_op ab_ix ab_var ab_int) ab_str)) (ab_asg (ab_op ab_add (ab_op ab_add (ab_call (ab_cons (ab_op ab_ix ab_var ab_int) (ab_cons ab_var (ab_cons ab_int ab_nil)))) ab_str) (ab_call (ab_cons (ab_op ab_ix ab_var ab_int) (ab_cons ab_var (ab_cons ab_int ab_nil))))) ab_name) (ab_asg (ab_op ab_add (ab_op ab_add (ab_op ab_ix ab_var ab_int) ab_str) (ab_call (ab_cons (ab_op ab_ix ab_var ab_int) (ab_cons ab_var (ab_cons ab_int ab_nil))))) ab_name))))
      (ab_seq (ab_asg ab_int ab_name)
      (ab_seq (ab_ifH (ab_test (ab_op ab_gt (ab_cb ab_len (ab_cons ab_var ab_nil)) ab_int)) (ab_asg (ab_bm ab_isLst ab_mpop0 ab_var (ab_cons ab_int ab_nil)) ab_name) ab_next)
      (ab_seq (ab_ifH (ab_or (ab_test (ab_op ab_lt (ab_call (ab_cons ab_var ab_nil)) ab_var)) (ab_test (ab_op ab_eq (ab_op ab_mod ab_var ab_int) ab_int))) (ab_ret (ab_op ab_add (ab_op ab_add ab_str ab_var) ab_str)) ab_next)
      (ab_ret ab_var)))))⟩
    rintro us A Q ⟨r,c,ns,l,rfl,hc,hd,hw,hs,q⟩
    refine ⟨rfl,?_⟩
    walk_at "qs"
    cases r with
    | nothing =>
      unfold Rl.toU
      walk_at "qg"
      refine if_yes (fun B hB=>?_) ?_
      . walk_at "qg"
        exact ⟨tup3,rfl,rfl,hB⟩
      walk_at "qg"
      refine ⟨Rl.nothing,rfl,hd,hw,hs,?_⟩
      have hb:Bare (Rl.nothing) (Rl.nothing).tk:=Bare.one rfl
      have hc2:=(updA_self hc).symm
      generalize ns=ns1 at hc2
      show aIfH _ _ _ _ [_,_,_,some (.str (Txt.join blk (Rl.nothing).tk)),_] A
      rw [hc2]
      have hlen:=hb.len hw
      rcases ns1 with _ | ⟨z,ns1⟩
      . refine if_no (fun B hB=>?_) ?_
        . walk_at "qd"
          exact ⟨_,updA_same,hB⟩
        walk_at "qd"
        refine if_open (decide ((Rl.nothing).lvl < l) || decide ((1:Int) % 3=0)) (fun B hB=>?_) ?_
        . walk_at "qd"
          refine ⟨Rl.nothing,rfl,?_⟩
          walk_at "qd"
          exact or_go hB
        . refine iteB (fun h=>?_) fun h=>?_
          . walk_at "qd"
            rw [join_par hb.ne]
            refine ⟨line1000 ?_,line1000 ?_,fg (q _ _ (hb.shut l).1 (hb.shut l).2)⟩
            . rw [show (Str.ofString "( ").length=2 from by decide +kernel];lia
            . rw [Str.length_append,show (Str.ofString "( ").length=2 from by decide +kernel,show (Str.ofString " )").length=2 from by decide +kernel];lia
          . walk_at "qd"
            have hl:=hb.open (l:=l) (by intro z;rw [decide_eq_true z] at h;cases h)
            exact fg (q _ _ hl.1 hl.2)
      . refine if_yes (fun B hB=>?_) ?_
        . walk_at "qd"
          refine ⟨_,updA_same,?_⟩
          rw [decide_eq_true (by rw [List.length_map,List.length_cons];lia)]
          exact hB
        walk_at "qd"
        refine ⟨⟨_,updA_same⟩,_,_,updA_same,?_⟩
        rw [updA_updA]
        refine if_open (decide ((Rl.nothing).lvl < l) || decide ((z:Int) % 3=0)) (fun B hB=>?_) ?_
        . walk_at "qd"
          refine ⟨Rl.nothing,rfl,?_⟩
          walk_at "qd"
          exact or_go hB
        . refine iteB (fun h=>?_) fun h=>?_
          . walk_at "qd"
            rw [join_par hb.ne]
            refine ⟨line1000 ?_,line1000 ?_,fg (q _ _ (hb.shut l).1 (hb.shut l).2)⟩
            . rw [show (Str.ofString "( ").length=2 from by decide +kernel];lia
            . rw [Str.length_append,show (Str.ofString "( ").length=2 from by decide +kernel,show (Str.ofString " )").length=2 from by decide +kernel];lia
          . walk_at "qd"
            have hl:=hb.open (l:=l) (by intro z;rw [decide_eq_true z] at h;cases h)
            exact fg (q _ _ hl.1 hl.2)
    | bead b =>
      unfold Rl.toU
      walk_at "qg"
      refine if_yes (fun B hB=>?_) ?_
      . walk_at "qg"
        exact ⟨tup3,rfl,rfl,hB⟩
      walk_at "qg"
      refine ⟨Rl.bead b,rfl,hd,hw,hs,?_⟩
      have hb:Bare (Rl.bead b) (Rl.bead b).tk:=Bare.one rfl
      have hc2:=(updA_self hc).symm
      generalize ns=ns1 at hc2
      show aIfH _ _ _ _ [_,_,_,some (.str (Txt.join blk (Rl.bead b).tk)),_] A
      rw [hc2]
      have hlen:=hb.len hw
      rcases ns1 with _ | ⟨z,ns1⟩
      . refine if_no (fun B hB=>?_) ?_
        . walk_at "qd"
          exact ⟨_,updA_same,hB⟩
        walk_at "qd"
        refine if_open (decide ((Rl.bead b).lvl < l) || decide ((1:Int) % 3=0)) (fun B hB=>?_) ?_
        . walk_at "qd"
          refine ⟨Rl.bead b,rfl,?_⟩
          walk_at "qd"
          exact or_go hB
        . refine iteB (fun h=>?_) fun h=>?_
          . walk_at "qd"
            rw [join_par hb.ne]
            refine ⟨line1000 ?_,line1000 ?_,fg (q _ _ (hb.shut l).1 (hb.shut l).2)⟩
            . rw [show (Str.ofString "( ").length=2 from by decide +kernel];lia
            . rw [Str.length_append,show (Str.ofString "( ").length=2 from by decide +kernel,show (Str.ofString " )").length=2 from by decide +kernel];lia
          . walk_at "qd"
            have hl:=hb.open (l:=l) (by intro z;rw [decide_eq_true z] at h;cases h)
            exact fg (q _ _ hl.1 hl.2)
      . refine if_yes (fun B hB=>?_) ?_
        . walk_at "qd"
          refine ⟨_,updA_same,?_⟩
          rw [decide_eq_true (by rw [List.length_map,List.length_cons];lia)]
          exact hB
        walk_at "qd"
        refine ⟨⟨_,updA_same⟩,_,_,updA_same,?_⟩
        rw [updA_updA]
        refine if_open (decide ((Rl.bead b).lvl < l) || decide ((z:Int) % 3=0)) (fun B hB=>?_) ?_
        . walk_at "qd"
          refine ⟨Rl.bead b,rfl,?_⟩
          walk_at "qd"
          exact or_go hB
        . refine iteB (fun h=>?_) fun h=>?_
          . walk_at "qd"
            rw [join_par hb.ne]
            refine ⟨line1000 ?_,line1000 ?_,fg (q _ _ (hb.shut l).1 (hb.shut l).2)⟩
            . rw [show (Str.ofString "( ").length=2 from by decide +kernel];lia
            . rw [Str.length_append,show (Str.ofString "( ").length=2 from by decide +kernel,show (Str.ofString " )").length=2 from by decide +kernel];lia
          . walk_at "qd"
            have hl:=hb.open (l:=l) (by intro z;rw [decide_eq_true z] at h;cases h)
            exact fg (q _ _ hl.1 hl.2)
    | named b =>
      unfold Rl.toU
      walk_at "qg"
      refine if_yes (fun B hB=>?_) ?_
      . walk_at "qg"
        exact ⟨tup3,rfl,rfl,hB⟩
      walk_at "qg"
      refine ⟨Rl.named b,rfl,hd,hw,hs,?_⟩
      have hb:Bare (Rl.named b) (Rl.named b).tk:=Bare.one rfl
      have hc2:=(updA_self hc).symm
      generalize ns=ns1 at hc2
      show aIfH _ _ _ _ [_,_,_,some (.str (Txt.join blk (Rl.named b).tk)),_] A
      rw [hc2]
      have hlen:=hb.len hw
      rcases ns1 with _ | ⟨z,ns1⟩
      . refine if_no (fun B hB=>?_) ?_
        . walk_at "qd"
          exact ⟨_,updA_same,hB⟩
        walk_at "qd"
        refine if_open (decide ((Rl.named b).lvl < l) || decide ((1:Int) % 3=0)) (fun B hB=>?_) ?_
        . walk_at "qd"
          refine ⟨Rl.named b,rfl,?_⟩
          walk_at "qd"
          exact or_go hB
        . refine iteB (fun h=>?_) fun h=>?_
          . walk_at "qd"
            rw [join_par hb.ne]
            refine ⟨line1000 ?_,line1000 ?_,fg (q _ _ (hb.shut l).1 (hb.shut l).2)⟩
            . rw [show (Str.ofString "( ").length=2 from by decide +kernel];lia
            . rw [Str.length_append,show (Str.ofString "( ").length=2 from by decide +kernel,show (Str.ofString " )").length=2 from by decide +kernel];lia
          . walk_at "qd"
            have hl:=hb.open (l:=l) (by intro z;rw [decide_eq_true z] at h;cases h)
            exact fg (q _ _ hl.1 hl.2)
      . refine if_yes (fun B hB=>?_) ?_
        . walk_at "qd"
          refine ⟨_,updA_same,?_⟩
          rw [decide_eq_true (by rw [List.length_map,List.length_cons];lia)]
          exact hB
        walk_at "qd"
        refine ⟨⟨_,updA_same⟩,_,_,updA_same,?_⟩
        rw [updA_updA]
        refine if_open (decide ((Rl.named b).lvl < l) || decide ((z:Int) % 3=0)) (fun B hB=>?_) ?_
        . walk_at "qd"
          refine ⟨Rl.named b,rfl,?_⟩
          walk_at "qd"
          exact or_go hB
        . refine iteB (fun h=>?_) fun h=>?_
          . walk_at "qd"
            rw [join_par hb.ne]
            refine ⟨line1000 ?_,line1000 ?_,fg (q _ _ (hb.shut l).1 (hb.shut l).2)⟩
            . rw [show (Str.ofString "( ").length=2 from by decide +kernel];lia
            . rw [Str.length_append,show (Str.ofString "( ").length=2 from by decide +kernel,show (Str.ofString " )").length=2 from by decide +kernel];lia
          . walk_at "qd"
            have hl:=hb.open (l:=l) (by intro z;rw [decide_eq_true z] at h;cases h)
            exact fg (q _ _ hl.1 hl.2)
    | or x y =>
      unfold Rl.toU
      walk_at "qg"
      refine if_no (fun B hB=>?_) ?_
      . walk_at "qg"
        exact ⟨tup3,rfl,rfl,hB⟩
      refine if_yes (fun B hB=>?_) ?_
      . walk_at "qg"
        exact hB
      walk_at "qg"
      have hd0:=hd
      have hw0:=hw
      have hs0:=hs
      simp only [Rl.dep,Rl.wd,Rl.size,Bool.and_eq_true] at hd0 hw0 hs0
      refine ⟨x,c,ns,0,rfl,hc,by lia,hw0.1,by lia,fun n1 t1 w1 g1=>?_⟩
      have k1:=w1.len hw0.1
      walk_at "qg"
      refine ⟨line1000 (by rw [show (Str.ofString " or ").length=4 from by decide +kernel];lia),y,c,n1,1,rfl,updA_same,by lia,hw0.2,by lia,fun ns1 t2 w2 g2=>?_⟩
      have k2:=w2.len hw0.2
      walk_at "qg"
      refine ⟨line1000 (by rw [Str.length_append,show (Str.ofString " or ").length=4 from by decide +kernel];lia),?_⟩
      rw [updA_updA,join_or w1.ne w2.ne]
      have hb:Bare (.or x y) (t1++(("or":Str)::t2)):=Bare.or w1 w2 g1 g2
      have hlen:=hb.len hw
      rcases ns1 with _ | ⟨z,ns1⟩
      . refine if_no (fun B hB=>?_) ?_
        . walk_at "qd"
          exact ⟨_,updA_same,hB⟩
        walk_at "qd"
        refine if_open (decide ((Rl.or x y).lvl < l) || decide ((1:Int) % 3=0)) (fun B hB=>?_) ?_
        . walk_at "qd"
          refine ⟨Rl.or x y,rfl,?_⟩
          walk_at "qd"
          exact or_go hB
        . refine iteB (fun h=>?_) fun h=>?_
          . walk_at "qd"
            rw [join_par hb.ne]
            refine ⟨line1000 ?_,line1000 ?_,fg (q _ _ (hb.shut l).1 (hb.shut l).2)⟩
            . rw [show (Str.ofString "( ").length=2 from by decide +kernel];lia
            . rw [Str.length_append,show (Str.ofString "( ").length=2 from by decide +kernel,show (Str.ofString " )").length=2 from by decide +kernel];lia
          . walk_at "qd"
            have hl:=hb.open (l:=l) (by intro z;rw [decide_eq_true z] at h;cases h)
            exact fg (q _ _ hl.1 hl.2)
      . refine if_yes (fun B hB=>?_) ?_
        . walk_at "qd"
          refine ⟨_,updA_same,?_⟩
          rw [decide_eq_true (by rw [List.length_map,List.length_cons];lia)]
          exact hB
        walk_at "qd"
        refine ⟨⟨_,updA_same⟩,_,_,updA_same,?_⟩
        rw [updA_updA]
        refine if_open (decide ((Rl.or x y).lvl < l) || decide ((z:Int) % 3=0)) (fun B hB=>?_) ?_
        . walk_at "qd"
          refine ⟨Rl.or x y,rfl,?_⟩
          walk_at "qd"
          exact or_go hB
        . refine iteB (fun h=>?_) fun h=>?_
          . walk_at "qd"
            rw [join_par hb.ne]
            refine ⟨line1000 ?_,line1000 ?_,fg (q _ _ (hb.shut l).1 (hb.shut l).2)⟩
            . rw [show (Str.ofString "( ").length=2 from by decide +kernel];lia
            . rw [Str.length_append,show (Str.ofString "( ").length=2 from by decide +kernel,show (Str.ofString " )").length=2 from by decide +kernel];lia
          . walk_at "qd"
            have hl:=hb.open (l:=l) (by intro z;rw [decide_eq_true z] at h;cases h)
            exact fg (q _ _ hl.1 hl.2)
    | by_ x y =>
      unfold Rl.toU
      walk_at "qg"
      refine if_no (fun B hB=>?_) ?_
      . walk_at "qg"
        exact ⟨tup3,rfl,rfl,hB⟩
      refine if_no (fun B hB=>?_) ?_
      . walk_at "qg"
        rw [decide_eq_false (by decide +kernel)]
        exact hB
      refine if_yes (fun B hB=>?_) ?_
      . walk_at "qg"
        exact hB
      walk_at "qg"
      have hd0:=hd
      have hw0:=hw
      have hs0:=hs
      simp only [Rl.dep,Rl.wd,Rl.size,Bool.and_eq_true] at hd0 hw0 hs0
      refine ⟨x,c,ns,1,rfl,hc,by lia,hw0.1,by lia,fun n1 t1 w1 g1=>?_⟩
      have k1:=w1.len hw0.1
      walk_at "qg"
      refine ⟨line1000 (by rw [show (Str.ofString " by ").length=4 from by decide +kernel];lia),y,c,n1,2,rfl,updA_same,by lia,hw0.2,by lia,fun ns1 t2 w2 g2=>?_⟩
      have k2:=w2.len hw0.2
      walk_at "qg"
      refine ⟨line1000 (by rw [Str.length_append,show (Str.ofString " by ").length=4 from by decide +kernel];lia),?_⟩
      rw [updA_updA,join_by w1.ne w2.ne]
      have hb:Bare (.by_ x y) (t1++(("by":Str)::t2)):=Bare.by w1 w2 g1 g2
      have hlen:=hb.len hw
      rcases ns1 with _ | ⟨z,ns1⟩
      . refine if_no (fun B hB=>?_) ?_
        . walk_at "qd"
          exact ⟨_,updA_same,hB⟩
        walk_at "qd"
        refine if_open (decide ((Rl.by_ x y).lvl < l) || decide ((1:Int) % 3=0)) (fun B hB=>?_) ?_
        . walk_at "qd"
          refine ⟨Rl.by_ x y,rfl,?_⟩
          walk_at "qd"
          exact or_go hB
        . refine iteB (fun h=>?_) fun h=>?_
          . walk_at "qd"
            rw [join_par hb.ne]
            refine ⟨line1000 ?_,line1000 ?_,fg (q _ _ (hb.shut l).1 (hb.shut l).2)⟩
            . rw [show (Str.ofString "( ").length=2 from by decide +kernel];lia
            . rw [Str.length_append,show (Str.ofString "( ").length=2 from by decide +kernel,show (Str.ofString " )").length=2 from by decide +kernel];lia
          . walk_at "qd"
            have hl:=hb.open (l:=l) (by intro z;rw [decide_eq_true z] at h;cases h)
            exact fg (q _ _ hl.1 hl.2)
      . refine if_yes (fun B hB=>?_) ?_
        . walk_at "qd"
          refine ⟨_,updA_same,?_⟩
          rw [decide_eq_true (by rw [List.length_map,List.length_cons];lia)]
          exact hB
        walk_at "qd"
        refine ⟨⟨_,updA_same⟩,_,_,updA_same,?_⟩
        rw [updA_updA]
        refine if_open (decide ((Rl.by_ x y).lvl < l) || decide ((z:Int) % 3=0)) (fun B hB=>?_) ?_
        . walk_at "qd"
          refine ⟨Rl.by_ x y,rfl,?_⟩
          walk_at "qd"
          exact or_go hB
        . refine iteB (fun h=>?_) fun h=>?_
          . walk_at "qd"
            rw [join_par hb.ne]
            refine ⟨line1000 ?_,line1000 ?_,fg (q _ _ (hb.shut l).1 (hb.shut l).2)⟩
            . rw [show (Str.ofString "( ").length=2 from by decide +kernel];lia
            . rw [Str.length_append,show (Str.ofString "( ").length=2 from by decide +kernel,show (Str.ofString " )").length=2 from by decide +kernel];lia
          . walk_at "qd"
            have hl:=hb.open (l:=l) (by intro z;rw [decide_eq_true z] at h;cases h)
            exact fg (q _ _ hl.1 hl.2)
    | hold k x =>
      unfold Rl.toU
      walk_at "qg"
      have hk:∀ z∈(["nothing","bead","name","or","by"]:List Str),decide (mname k=z)=false:=fun z hz=>decide_eq_false (mn_ne k hz)
      refine if_no (fun B hB=>?_) ?_
      . walk_at "qg"
        refine ⟨tup3,rfl,rfl,?_⟩
        rw [show inU (.str (mname k)) [.str "nothing",.str "bead",.str "name"]=false from inU_strs (ts:=["nothing","bead","name"]) fun m=>mn_ne k ((by decide +kernel:∀ t∈(["nothing","bead","name"]:List Str),t∈(["nothing","bead","name","or","by"]:List Str)) _ m) rfl]
        exact hB
      refine if_no (fun B hB=>?_) ?_
      . walk_at "qg"
        rw [hk _ (by decide +kernel)]
        exact hB
      refine if_no (fun B hB=>?_) ?_
      . walk_at "qg"
        rw [hk _ (by decide +kernel)]
        exact hB
      walk_at "qg"
      have hd0:=hd
      have hw0:=hw
      have hs0:=hs
      simp only [Rl.dep,Rl.wd,Rl.size] at hd0 hw0 hs0
      have l6:=(tok_mname k).2
      refine ⟨line1000 (by rw [show (Str.ofString " of ").length=4 from by decide +kernel];lia),x,c,ns,2,rfl,hc,by lia,hw0,by lia,fun ns1 t1 w1 g1=>?_⟩
      have k1:=w1.len hw0
      walk_at "qg"
      refine ⟨line1000 (by rw [Str.length_append,show (Str.ofString " of ").length=4 from by decide +kernel];lia),?_⟩
      rw [join_hold w1.ne]
      have hb:Bare (.hold k x) (mname k::"of"::t1):=Bare.hold w1 g1
      have hlen:=hb.len hw
      rcases ns1 with _ | ⟨z,ns1⟩
      . refine if_no (fun B hB=>?_) ?_
        . walk_at "qd"
          exact ⟨_,updA_same,hB⟩
        walk_at "qd"
        refine if_open (decide ((Rl.hold k x).lvl < l) || decide ((1:Int) % 3=0)) (fun B hB=>?_) ?_
        . walk_at "qd"
          refine ⟨Rl.hold k x,rfl,?_⟩
          walk_at "qd"
          exact or_go hB
        . refine iteB (fun h=>?_) fun h=>?_
          . walk_at "qd"
            rw [join_par hb.ne]
            refine ⟨line1000 ?_,line1000 ?_,fg (q _ _ (hb.shut l).1 (hb.shut l).2)⟩
            . rw [show (Str.ofString "( ").length=2 from by decide +kernel];lia
            . rw [Str.length_append,show (Str.ofString "( ").length=2 from by decide +kernel,show (Str.ofString " )").length=2 from by decide +kernel];lia
          . walk_at "qd"
            have hl:=hb.open (l:=l) (by intro z;rw [decide_eq_true z] at h;cases h)
            exact fg (q _ _ hl.1 hl.2)
      . refine if_yes (fun B hB=>?_) ?_
        . walk_at "qd"
          refine ⟨_,updA_same,?_⟩
          rw [decide_eq_true (by rw [List.length_map,List.length_cons];lia)]
          exact hB
        walk_at "qd"
        refine ⟨⟨_,updA_same⟩,_,_,updA_same,?_⟩
        rw [updA_updA]
        refine if_open (decide ((Rl.hold k x).lvl < l) || decide ((z:Int) % 3=0)) (fun B hB=>?_) ?_
        . walk_at "qd"
          refine ⟨Rl.hold k x,rfl,?_⟩
          walk_at "qd"
          exact or_go hB
        . refine iteB (fun h=>?_) fun h=>?_
          . walk_at "qd"
            rw [join_par hb.ne]
            refine ⟨line1000 ?_,line1000 ?_,fg (q _ _ (hb.shut l).1 (hb.shut l).2)⟩
            . rw [show (Str.ofString "( ").length=2 from by decide +kernel];lia
            . rw [Str.length_append,show (Str.ofString "( ").length=2 from by decide +kernel,show (Str.ofString " )").length=2 from by decide +kernel];lia
          . walk_at "qd"
            have hl:=hb.open (l:=l) (by intro z;rw [decide_eq_true z] at h;cases h)
            exact fg (q _ _ hl.1 hl.2)
end
section
include T
theorem ok_total:FnOk P w K mg base CX0 1 f_w_total d_w_total ["_law_stack"] (spOf K asp_total):=by
  refine' Fun.okA T.F_w_total (sc:=?sc44) (body:=?bd44) ?hs44 ?hb44 sc_w_total ?hB44 ?hS44
  case hs44=>conv=>lhs;whnf
  case hb44=>conv=>lhs;whnf
  case hB44=>exact fun S cdv A outer s H E hr=>⟨_,(pss_one (ps_ret (pe_op o_sub (pe_op o_addW (pe_callB (c_sum rfl) (by rfl) T.n_sum (by decide +kernel) (pa_cons (pe_comp (ts:=["_law_one"]) (frs':=[]) (cl:=[]) rfl ⟨rfl,rfl,(by decide +kernel),(by decide +kernel),(fun _ z=>nomatch z),(noFree_has rfl rfl),(fun _ z=>nomatch z)⟩ (pj_seq (pv 0)) (fun _ _ _ _=>pg_name (i:=0) nd1 rfl (Or.inl rfl) (.inr rfl)) (fun _ _ _ _=>pifs_nil) (fun _ _ _ _=>by exact (pe_ix (k_ix K rfl) (pv 0) pe_int (fun _ _=>rfl)))) pa_nil)) (pe_callB c_len (by rfl) T.n_len (by decide +kernel) (pa_cons (pv 0) pa_nil))) pe_int))),(ab_ret (ab_op ab_sub (ab_op ab_add (ab_cb ab_sum (ab_cons (ab_comp (ab_jof ab_yseq ab_var) ab_name ab_true (ab_op ab_ix ab_var ab_int)) ab_nil)) (ab_cb ab_len (ab_cons ab_var ab_nil))) ab_int))⟩
  rintro us A Q ⟨a,ws,rfl,ha,hl,q⟩
  refine ⟨rfl,?_⟩
  walk_at "qs"
  walk_at "qd"
  refine ⟨⟨_,ha⟩,fun l hl2=>?_⟩
  walk_at "qc"
  refine cl_map (ws.map stU) (ws.map fun r=>U.int r.size) (by rw [List.length_map,List.length_map]) hl2 (by rw [List.length_map];lia) (fun k A2 _ e2=>⟨_,e2 _ _ ha,rfl⟩) (fun k u y A2 hu hy e2 Cy hC=>?_) ?_
  . rw [List.getElem?_map] at hu hy
    obtain ⟨r,hr,rfl⟩:=Option.map_eq_some_iff.mp hu
    rw [hr] at hy
    cases hy
    walk_at "qd"
    rw [q_st1]
    exact hC
  . walk_at "qd"
    refine ⟨ws.map fun r=>(r.size:Int),by rw [updA_same,List.map_map];rfl,_,Ext.new hl2 _ _ ha,?_⟩
    walk_at "qd"
    rw [List.length_map,show ((ws.map fun r=>(r.size:Int)).sum + (ws.length:Int) - 1)=(totR ws:Int) - 1 from by rw [sum_cast];unfold totR;lia]
    exact fgx (Ext.new hl2) q
theorem ok_op:FnOk P w K mg base CX0 3 f_w_op d_w_op ["_law_stack","_law_cell_here"] (spOf K asp_op):=by
  have G_w_word:=ok_word (P:=P) (w:=w) (base:=base) T
  refine' Fun.okA T.F_w_op (sc:=?sc45) (body:=?bd45) ?hs45 ?hb45 sc_w_op ?hB45 ?hS45
  case hs45=>conv=>lhs;whnf
  case hb45=>conv=>lhs;whnf
  case hB45=>exact fun S cdv A outer s H E hr=>⟨_,(pss_cons (ps_set (i:=2) S.nd rfl (Or.inl rfl) (pe_op o_mod (pv 1) pe_int))
      (pss_cons (ps_set (i:=3) S.nd rfl (Or.inl rfl) (pe_op o_fdiv (pv 1) pe_int))
      (pss_one (ps_if ((pw_and (pt_cmpR o_gt (pv 2) pe_int (nomark _)) (pw_and (pt_cmpR o_gt (pe_callB c_len (by rfl) T.n_len (by decide +kernel) (pa_cons (pv 0) pa_nil)) (pe_op o_mod (pv 2) pe_int) (nomark _)) (pw_and (pt_cmpR o_lt (pv 2) pe_int (nomark _)) (pw_and1 (pt_cmpR o_gt (pe_callB c_len (by rfl) T.n_len (by decide +kernel) (pa_cons (pv 0) pa_nil)) pe_int (nomark _))))))).pt (pss_cons (ps_set (i:=4) S.nd rfl (Or.inl rfl) (pe_bm0 PySem.F.plainAttrs_list PySem.F.slot_list_pop PySem.F.type_list_pop mt_pop (pv 0)))
      (pss_cons (ps_set (i:=5) S.nd rfl (Or.inl rfl) (pe_bm0 PySem.F.plainAttrs_list PySem.F.slot_list_pop PySem.F.type_list_pop mt_pop (pv 0)))
      (pss_cons (ps_set (i:=6) S.nd rfl (Or.inl rfl) (pe_op o_addW pe_int (pe_callB (c_maxA rfl) (by rfl) T.n_max (by decide +kernel) (pa_cons (pe_ix o_ix (pv 5) pe_int (fun _ _=>rfl)) (pa_cons (pe_ix o_ix (pv 4) pe_int (fun _ _=>rfl)) pa_nil)))))
      (pss_one (ps_expr (pe_bm PySem.F.plainAttrs_list PySem.F.slot_list_append PySem.F.type_list_append mt_append (pv 0) (pa_cons (pe_tup (pa_cons (pe_tup (pa_cons (pe_ix o_ix (pe_lst (pa_cons pe_str (pa_cons pe_str pa_nil))) (pe_op o_sub (pv 2) pe_int) (fun _ _=>rfl)) (pa_cons (pe_ix o_ix (pv 5) pe_int (fun _ _=>rfl)) (pa_cons (pe_ix o_ix (pv 4) pe_int (fun _ _=>rfl)) pa_nil)))) (pa_cons (pe_op o_addW (pe_op o_addW (pe_ix o_ix (pv 5) pe_int (fun _ _=>rfl)) (pe_ix o_ix (pv 4) pe_int (fun _ _=>rfl))) pe_int) (pa_cons (pv 6) pa_nil)))) pa_nil))))))) (pss_one (ps_if ((pw_and (pt_cmpR o_gt (pv 2) pe_int (nomark _)) (pw_and1 (pt_cmpR o_gt (pe_callB c_len (by rfl) T.n_len (by decide +kernel) (pa_cons (pv 0) pa_nil)) pe_int (nomark _))))).pt (pss_cons (ps_set (i:=7) S.nd rfl (Or.inl rfl) (pe_bm0 PySem.F.plainAttrs_list PySem.F.slot_list_pop PySem.F.type_list_pop mt_pop (pv 0)))
      (pss_one (ps_expr (pe_bm PySem.F.plainAttrs_list PySem.F.slot_list_append PySem.F.type_list_append mt_append (pv 0) (pa_cons (pe_tup (pa_cons (pe_tup (pa_cons (pe_ix o_ix (pe_lst (pa_strs (xs:=["row","bag","choice","ring"]) rfl)) (pe_op o_sub (pv 2) pe_int) (fun _ _=>rfl)) (pa_cons (pe_ix o_ix (pv 7) pe_int (fun _ _=>rfl)) pa_nil))) (pa_cons (pe_op o_addW (pe_ix o_ix (pv 7) pe_int (fun _ _=>rfl)) pe_int) (pa_cons (pe_op o_addW (pe_ix o_ix (pv 7) pe_int (fun _ _=>rfl)) pe_int) pa_nil)))) pa_nil))))) (pss_one (ps_if (pt_cmpR (o_eqD hr) (pv 2) pe_int (nomark _)) (pss_one (ps_expr (pe_bm PySem.F.plainAttrs_list PySem.F.slot_list_append PySem.F.type_list_append mt_append (pv 0) (pa_cons (pe_tup (pa_cons (pe_tup (pa_cons pe_str pa_nil)) (pa_cons pe_int (pa_cons pe_int pa_nil)))) pa_nil)))) (pss_one (ps_if (pt_cmpR o_lt (pv 2) pe_int (nomark _)) (pss_one (ps_expr (pe_bm PySem.F.plainAttrs_list PySem.F.slot_list_append PySem.F.type_list_append mt_append (pv 0) (pa_cons (pe_tup (pa_cons (pe_tup (pa_cons pe_str (pa_cons (pe_call (G_w_word.mono (by first | decide | lia)) hr (by rfl) T.M_w_word T.F_w_word.kp T.B_w_word .nil pass0 (pa_cons (pv 3) pa_nil)) pa_nil))) (pa_cons pe_int (pa_cons pe_int pa_nil)))) pa_nil)))) (pss_one (ps_expr (pe_bm PySem.F.plainAttrs_list PySem.F.slot_list_append PySem.F.type_list_append mt_append (pv 0) (pa_cons (pe_tup (pa_cons (pe_tup (pa_cons pe_str (pa_cons (pe_call (G_w_word.mono (by first | decide | lia)) hr (by rfl) T.M_w_word T.F_w_word.kp T.B_w_word .nil pass0 (pa_cons (pv 3) pa_nil)) pa_nil))) (pa_cons pe_int (pa_cons pe_int pa_nil)))) pa_nil)))))))))))))),(ab_seq (ab_asg (ab_op ab_mod ab_var ab_int) ab_name)
      (ab_seq (ab_asg (ab_op ab_div ab_var ab_int) ab_name)
      (ab_ifH (ab_and (ab_test (ab_op ab_gt ab_var ab_int)) (ab_and (ab_test (ab_op ab_gt (ab_cb ab_len (ab_cons ab_var ab_nil)) (ab_op ab_mod ab_var ab_int))) (ab_and (ab_test (ab_op ab_lt ab_var ab_int)) (ab_test (ab_op ab_gt (ab_cb ab_len (ab_cons ab_var ab_nil)) ab_int))))) (ab_seq (ab_asg (ab_bm0 ab_isLst ab_mpop ab_var) ab_name)
      (ab_seq (ab_asg (ab_bm0 ab_isLst ab_mpop ab_var) ab_name)
      (ab_seq (ab_asg (ab_op ab_add ab_int (ab_cb ab_max (ab_cons (ab_op ab_ix ab_var ab_int) (ab_cons (ab_op ab_ix ab_var ab_int) ab_nil)))) ab_name)
      (ab_drop (ab_bm ab_isLst ab_mapp ab_var (ab_cons (ab_tup (ab_cons (ab_tup (ab_cons (ab_op ab_ix (ab_lst (ab_cons ab_str (ab_cons ab_str ab_nil))) (ab_op ab_sub ab_var ab_int)) (ab_cons (ab_op ab_ix ab_var ab_int) (ab_cons (ab_op ab_ix ab_var ab_int) ab_nil)))) (ab_cons (ab_op ab_add (ab_op ab_add (ab_op ab_ix ab_var ab_int) (ab_op ab_ix ab_var ab_int)) ab_int) (ab_cons ab_var ab_nil)))) ab_nil)))))) (ab_ifH (ab_and (ab_test (ab_op ab_gt ab_var ab_int)) (ab_test (ab_op ab_gt (ab_cb ab_len (ab_cons ab_var ab_nil)) ab_int))) (ab_seq (ab_asg (ab_bm0 ab_isLst ab_mpop ab_var) ab_name)
      (ab_drop (ab_bm ab_isLst ab_mapp ab_var (ab_cons (ab_tup (ab_cons (ab_tup (ab_cons (ab_op ab_ix (ab_lst ab_strs) (ab_op ab_sub ab_var ab_int)) (ab_cons (ab_op ab_ix ab_var ab_int) ab_nil))) (ab_cons (ab_op ab_add (ab_op ab_ix ab_var ab_int) ab_int) (ab_cons (ab_op ab_add (ab_op ab_ix ab_var ab_int) ab_int) ab_nil)))) ab_nil)))) (ab_ifH (ab_test (ab_op ab_eq ab_var ab_int)) (ab_drop (ab_bm ab_isLst ab_mapp ab_var (ab_cons (ab_tup (ab_cons (ab_tup (ab_cons ab_str ab_nil)) (ab_cons ab_int (ab_cons ab_int ab_nil)))) ab_nil))) (ab_ifH (ab_test (ab_op ab_lt ab_var ab_int)) (ab_drop (ab_bm ab_isLst ab_mapp ab_var (ab_cons (ab_tup (ab_cons (ab_tup (ab_cons ab_str (ab_cons (ab_call (ab_cons ab_var ab_nil)) ab_nil))) (ab_cons ab_int (ab_cons ab_int ab_nil)))) ab_nil))) (ab_drop (ab_bm ab_isLst ab_mapp ab_var (ab_cons (ab_tup (ab_cons (ab_tup (ab_cons ab_str (ab_cons (ab_call (ab_cons ab_var ab_nil)) ab_nil))) (ab_cons ab_int (ab_cons ab_int ab_nil)))) ab_nil)))))))))⟩
  rintro us A Q ⟨a,z,ws,rfl,ha,hw,hl,q⟩
  refine ⟨rfl,?_⟩
  walk_at "qs"
  walk_at "qd"
  have hk:0<=z % 12/\z % 12 < 12:=⟨Int.emod_nonneg _ (by decide),Int.emod_lt_of_pos _ (by decide)⟩
  refine ⟨(show (0:Int) < 12 by decide),⟨by decide,by decide⟩,?_⟩
  generalize z % 12=k at hk ⊢
  generalize z / 12=t
  have hlm:(ws.map stU).length=ws.length:=List.length_map _
  by_cases h1:(k=6\/k=7)/\1 < ws.length
  . refine if_yes (fun B hB=>?_) ?_
    . walk_at "qd"
      refine iteTt (decide_eq_true (by lia)) ⟨_,ha,by decide,iteTt (decide_eq_true (by lia)) (iteTt (decide_eq_true (by lia)) ⟨_,ha,?_⟩)⟩
      rw [decide_eq_true (by lia)]
      exact hB
    . walk_at "qd"
      obtain ⟨ws0,x,y,rfl⟩:=last2 h1.2
      obtain ⟨zz,r,hz,hr,hrw⟩:=op_at h1.1 (x:=x) (y:=y)
      refine ⟨⟨_,ha⟩,(ws0++[x]).map stU,stU y,by rw [ha,List.map_append];rfl,⟨_,updA_same⟩,ws0.map stU,stU x,by rw [updA_same,List.map_append];rfl,?_⟩
      rw [updA_updA]
      simp only [q_st0,q_st1,q_st2]
      walk_at "qd"
      refine ⟨⟨_,updA_same⟩,by decide,fun p hp=>⟨_,_,updA_same,hz,?_⟩⟩
      walk_at "qd"
      obtain ⟨hp0,ho,hg⟩:=upd_ov (u:=.lst [.str "or",.str "by"]) (v:=.lst (ws0.map stU++[stU r])) hp
      refine ⟨tup3,tup3,_,hg,line1000' (by rw [List.length_map];simp only [List.length_append,List.length_cons,List.length_nil] at hl;lia),?_⟩
      rw [hr,ho]
      have:=q ws0 r ⟨[x,y],by simp⟩ (by rw [hrw,hw x (by simp),hw y (by simp)];rfl) (fun z=>by simp at z)
      rw [List.map_append] at this
      exact fgx (Ext.new hp0).put this
  . refine if_no (fun B hB=>?_) ?_
    . walk_at "qd"
      refine iteB (fun g1=>⟨_,ha,by decide,iteB (fun g2=>iteB (fun g3=>⟨_,ha,?_⟩) fun _=>hB) fun _=>hB⟩) fun _=>hB
      have g1:=of_decide_eq_true g1
      have g3:=of_decide_eq_true g3
      rw [decide_eq_false (by lia)]
      exact hB
    by_cases h2:7 < k/\0 < ws.length
    . refine if_yes (fun B hB=>?_) ?_
      . walk_at "qd"
        refine iteTt (decide_eq_true h2.1) ⟨_,ha,?_⟩
        rw [decide_eq_true (by lia)]
        exact hB
      . walk_at "qd"
        obtain ⟨ws0,x,rfl⟩:=last1 h2.2
        obtain ⟨j,hj⟩:=mn_atI (k:=k - 8) (by lia) (by lia)
        refine ⟨⟨_,ha⟩,ws0.map stU,stU x,by rw [ha,List.map_append];rfl,?_⟩
        walk_at "qd"
        refine ⟨⟨_,updA_same⟩,by decide,fun p hp=>⟨_,_,updA_same,hj,?_⟩⟩
        simp only [q_st0,q_st1,q_st2]
        walk_at "qd"
        obtain ⟨hp0,ho,hg⟩:=upd_ov (u:=.lst [.str "row",.str "bag",.str "choice",.str "ring"]) (v:=.lst (ws0.map stU++[stU (.hold j x)])) hp
        refine ⟨tup2,tup3,_,hg,line1000' (by rw [List.length_map];simp only [List.length_append,List.length_cons,List.length_nil] at hl;lia),?_⟩
        rw [stU_hold,ho]
        have:=q ws0 (.hold j x) ⟨[x],rfl⟩ (hw x (by simp)) (fun z=>by simp at z)
        rw [List.map_append] at this
        exact fgx (Ext.new hp0).put this
    . refine if_no (fun B hB=>?_) ?_
      . walk_at "qd"
        refine iteB (fun g1=>⟨_,ha,?_⟩) fun _=>hB
        have g1:=of_decide_eq_true g1
        rw [decide_eq_false (by lia)]
        exact hB
      have fin:∀ (A3:AHp) (r:Rl),Ext A A3->r.wd=true->r.size=1->r.dep=1->Fg Q .non (updA A3 a (.lst (ws.map stU++[stU r]))):=fun A3 r e h1 h2 h3=>by
        have:=q ws r List.prefix_rfl h1 (fun _=>⟨h2,h3⟩)
        rw [List.map_append] at this
        exact fgx e.put this
      by_cases h3:k=0
      . refine if_yes (fun B hB=>?_) ?_
        . walk_at "qd"
          rw [decide_eq_true h3]
          exact hB
        . walk_at "qd"
          exact ⟨⟨_,ha⟩,tup1,tup3,_,ha,line1000' (by lia),fin A .nothing (Ext.refl A) rfl rfl rfl⟩
      . refine if_no (fun B hB=>?_) ?_
        . walk_at "qd"
          rw [decide_eq_false h3]
          exact hB
        refine if_open (decide (k < 4)) (fun B hB=>?_) ?_
        . walk_at "qd"
          exact hB
        refine iteB (fun _=>?_) fun _=>?_
        . walk_at "qd"
          exact ⟨⟨_,ha⟩,t,rfl,fun x hx=>⟨tup2,tup3,_,ha,line1000' (by lia),fin A (.bead x) (Ext.refl A) hx rfl rfl⟩⟩
        . walk_at "qd"
          exact ⟨⟨_,ha⟩,t,rfl,fun x hx=>⟨tup2,tup3,_,ha,line1000' (by lia),fin A (.named x) (Ext.refl A) hx rfl rfl⟩⟩
end
theorem op_at2 {m:Int} (h:m=0\/m=1) {x y:Rl}:∃ (z:Str) (r:Rl),atI [U.str "or",U.str "by"] m=some (.str z)/\U.tup [.tup [.str z,x.toU,y.toU],.int ((x.size:Int) + (y.size:Int) + 1),.int (1 + max (x.dep:Int) (y.dep:Int))]=stU r/\r.wd=(x.wd && y.wd)/\r.size=x.size + y.size + 1/\r.dep=1 + max x.dep y.dep:=by
  rcases h with rfl | rfl
  . exact ⟨_,_,rfl,stU_or,rfl,rfl,rfl⟩
  . exact ⟨_,_,rfl,stU_by,rfl,rfl,rfl⟩
theorem tot_pre {ws0 ws:List Rl} (h:ws0 <+: ws):totR ws0<=totR ws:=by
  obtain ⟨t,rfl⟩:=h
  rw [totR_app];lia
section
include T
theorem ok_tree:FnOk P w K mg base CX0 5 f_w_tree d_w_tree ["_law_cells"] (spOf K asp_tree):=by
  have G_w_op:=ok_op (P:=P) (w:=w) (base:=base) T
  have G_w_total:=ok_total (P:=P) (w:=w) (base:=base) T
  refine' Fun.okA T.F_w_tree (sc:=?sc46) (body:=?bd46) ?hs46 ?hb46 sc_w_tree ?hB46 ?hS46
  case hs46=>conv=>lhs;whnf
  case hb46=>conv=>lhs;whnf
  case hB46=>exact fun S cdv A outer s H E hr=>⟨_,(pss_cons (ps_set (i:=1) S.nd rfl (Or.inl rfl) (pe_lst pa_nil))
      (pss_cons (ps_for PassesOwn.never rfl (pj_seq (pv 0)) (pg_name (i:=2) S.nd rfl (Or.inl rfl))
      (pss_cons (ps_set (i:=3) S.nd rfl (Or.inl rfl) (pe_callTy c_list (by rfl) T.n_list (by decide +kernel) (pa_cons (pv 1) pa_nil)))
      (pss_cons (ps_expr (pe_call (G_w_op.mono (by first | decide | lia)) hr (by rfl) T.M_w_op T.F_w_op.kp T.B_w_op .nil pass0 (pa_cons (pv 3) (pa_cons (pv 2) pa_nil))))
      (pss_one (ps_if ((pw_and (pt_cmpR o_le (pe_call (G_w_total.mono (by first | decide | lia)) hr (by rfl) T.M_w_total T.F_w_total.kp T.B_w_total .nil pass0 (pa_cons (pv 3) pa_nil)) pe_int (nomark _)) (pw_and1 (pt_cmpR o_le (pe_ix o_ix (pe_ix o_ix (pv 3) (pe_un un_neg pe_int) (fun _ _=>rfl)) pe_int (fun _ _=>rfl)) pe_int (nomark _))))).pt (pss_one (ps_set (i:=1) S.nd rfl (Or.inl rfl) (pv 3))) pss_nil)))))
      (pss_cons (ps_set (i:=4) S.nd rfl (Or.inl rfl) (pe_ix o_ix (pv 1) pe_int (fun _ _=>rfl)))
      (pss_cons (ps_for PassesOwn.never rfl (pj_enumS (by rfl) T.n_enumerate (pa_cons (pe_slice o_slW (pv 1) (po_some pe_int) po_none) pa_nil)) (pg_tup (n:=2) rfl (pgs_cons (pg_name (i:=5) S.nd rfl (Or.inl rfl)) (pgs_cons (pg_name (i:=6) S.nd rfl (Or.inl rfl)) pgs_nil)))
      (pss_cons (ps_set (i:=7) S.nd rfl (Or.inl rfl) (pe_op o_addW pe_int (pe_callB (c_maxA rfl) (by rfl) T.n_max (by decide +kernel) (pa_cons (pe_ix o_ix (pv 4) pe_int (fun _ _=>rfl)) (pa_cons (pe_ix o_ix (pv 6) pe_int (fun _ _=>rfl)) pa_nil)))))
      (pss_one (ps_if (pt_cmpR o_le (pv 7) pe_int (nomark _)) (pss_one (ps_set (i:=4) S.nd rfl (Or.inl rfl) (pe_tup (pa_cons (pe_tup (pa_cons (pe_ix o_ix (pe_lst (pa_cons pe_str (pa_cons pe_str pa_nil))) (pe_op o_mod (pv 5) pe_int) (fun _ _=>rfl)) (pa_cons (pe_ix o_ix (pv 4) pe_int (fun _ _=>rfl)) (pa_cons (pe_ix o_ix (pv 6) pe_int (fun _ _=>rfl)) pa_nil)))) (pa_cons (pe_op o_addW (pe_op o_addW (pe_ix o_ix (pv 4) pe_int (fun _ _=>rfl)) (pe_ix o_ix (pv 6) pe_int (fun _ _=>rfl))) pe_int) (pa_cons (pv 7) pa_nil)))))) pss_nil))))
      (pss_one (ps_ret (pe_ix o_ix (pv 4) pe_int (fun _ _=>rfl)))))))),(ab_seq (ab_asg (ab_lst ab_nil) ab_name)
      (ab_seq (ab_for (ab_jof ab_yseq ab_var) ab_name
      (ab_seq (ab_asg (ab_cb ab_listof (ab_cons ab_var ab_nil)) ab_name)
      (ab_seq (ab_drop (ab_call (ab_cons ab_var (ab_cons ab_var ab_nil))))
      (ab_ifH (ab_and (ab_test (ab_op ab_le (ab_call (ab_cons ab_var ab_nil)) ab_int)) (ab_test (ab_op ab_le (ab_op ab_ix (ab_op ab_ix ab_var (ab_un ab_neg ab_int)) ab_int) ab_int))) (ab_asg ab_var ab_name) ab_next))))
      (ab_seq (ab_asg (ab_op ab_ix ab_var ab_int) ab_name)
      (ab_seq (ab_for (ab_jargs ab_yenumS (ab_cons (ab_sl ab_xsl ab_var (ab_part ab_int) ab_nopart) ab_nil)) (ab_gtup (ab_gcons ab_name (ab_gcons ab_name ab_gnil)))
      (ab_seq (ab_asg (ab_op ab_add ab_int (ab_cb ab_max (ab_cons (ab_op ab_ix ab_var ab_int) (ab_cons (ab_op ab_ix ab_var ab_int) ab_nil)))) ab_name)
      (ab_ifH (ab_test (ab_op ab_le ab_var ab_int)) (ab_asg (ab_tup (ab_cons (ab_tup (ab_cons (ab_op ab_ix (ab_lst (ab_cons ab_str (ab_cons ab_str ab_nil))) (ab_op ab_mod ab_var ab_int)) (ab_cons (ab_op ab_ix ab_var ab_int) (ab_cons (ab_op ab_ix ab_var ab_int) ab_nil)))) (ab_cons (ab_op ab_add (ab_op ab_add (ab_op ab_ix ab_var ab_int) (ab_op ab_ix ab_var ab_int)) ab_int) (ab_cons ab_var ab_nil)))) ab_name) ab_next)))
      (ab_ret (ab_op ab_ix ab_var ab_int))))))⟩
  rintro us A Q ⟨a,ns,rfl,ha,h1,h60,q⟩
  refine ⟨rfl,?_⟩
  walk_at "qs"
  walk_at "qd"
  refine ⟨by decide,fun p hp=>⟨⟨_,by rw [updA_ne (neA ha hp)];exact ha⟩,?_⟩⟩
  refine for_lst (ns.map U.int) (fun k ρ A2=>∃ (ws:List Rl) (s:Addr) (x2 x3:Option U),ρ=[some (.ref a),some (.ref s),x2,x3,none,none,none,none]/\Ext A A2/\A2 s=some (.lst (ws.map stU))/\wdR ws/\(∀ r∈ws,r.dep<=30)/\totR ws<=61/\(0 < k->ws≠[])) ⟨[],p,_,_,rfl,Ext.new hp,updA_same,fun _ h=>(by cases h),fun _ h=>(by cases h),by decide,fun h=>absurd h (by decide)⟩ (fun k ρ A2 _ ⟨ws,s,_,_,_,e,_⟩=>e _ _ ha) ?_ ?_
  . rintro k u ρ A2 hu ⟨ws,s,x2,x3,rfl,e2,hs,hw,hd,ht,hne⟩
    obtain ⟨n,_,rfl⟩:=map_get hu
    have hlt:=len_tot ws
    walk_at "qd"
    refine ⟨_,hs,fun l hl=>⟨l,n,ws,rfl,updA_same,hw,by lia,fun ws0 r hp hr h1=>?_⟩⟩
    have hpl:=hp.length_le
    have hpt:=tot_pre hp
    rw [updA_updA]
    have eT:totR (ws0++[r])=totR ws0 + (r.size + 1):=by rw [totR_app,totR_one]
    refine if_open (decide ((totR (ws0++[r]):Int) - 1<=60) && decide (r.dep<=30)) (fun B hB=>?_) ?_
    . walk_at "qd"
      refine ⟨l,ws0++[r],rfl,updA_same,by rw [List.length_append,List.length_cons,List.length_nil];lia,?_⟩
      walk_at "qd"
      by_cases g1:(totR (ws0++[r]):Int) - 1<=60
      . refine iteTt (decide_eq_true g1) ⟨_,_,updA_same,by rw [List.map_append];exact atI_last _ _,?_⟩
        rw [q_st2]
        walk_at "qd"
        rw [decide_eq_true g1,Bool.true_and] at hB
        rw [show decide ((r.dep:Int)<=30)=decide (r.dep<=30) from decide_eq_decide.mpr (by lia)]
        exact hB
      . rw [decide_eq_false g1] at hB
        exact iteFf (decide_eq_false g1) hB
    . refine iteB (fun h=>?_) fun h=>?_
      . rw [Bool.and_eq_true,decide_eq_true_eq,decide_eq_true_eq] at h
        walk_at "qd"
        refine ⟨ws0++[r],l,_,_,rfl,e2.trans (Ext.new hl),updA_same,?_,?_,by lia,fun _=>by simp⟩
        . intro x hx
          rcases List.mem_append.mp hx with hx | hx
          . exact hw x (hp.subset hx)
          . rw [List.mem_singleton.mp hx];exact hr
        . intro x hx
          rcases List.mem_append.mp hx with hx | hx
          . exact hd x (hp.subset hx)
          . rw [List.mem_singleton.mp hx];exact h.2
      . walk_at "qd"
        refine ⟨ws,s,_,_,rfl,e2.trans (Ext.new hl),Ext.new hl _ _ hs,hw,hd,ht,fun _ e=>?_⟩
        obtain ⟨g1,g2⟩:=h1 e
        subst e
        have:ws0=[]:=List.prefix_nil.mp hp
        subst this
        rw [eT,g1,g2] at h
        exact absurd h (by decide)
  . rintro ρ A2 ⟨ws,s,x2,x3,rfl,e2,hs,hw,hd,ht,hne⟩
    have hne:=hne (by rw [List.length_map];lia)
    obtain ⟨w0,ws1,rfl⟩:=List.exists_cons_of_ne_nil hne
    have hlt:=len_tot (w0::ws1)
    walk_at "qd"
    refine ⟨_,_,hs,atI_nat (j:=0) rfl,?_⟩
    walk_at "qd"
    refine ⟨_,hs,fun p2 hp2=>?_⟩
    rw [List.map_cons,cutU_tail]
    have t0:totR (w0::ws1)=w0.size + 1 + totR ws1:=by rw [<- totR_one,<- totR_app];rfl
    refine ⟨⟨_,updA_same⟩,?_⟩
    refine for_enumA (ws1.map stU) (fun k ρ A3=>∃ (r:Rl) (x5 x6 x7:Option U),ρ=[some (.ref a),some (.ref s),x2,x3,some (stU r),x5,x6,x7]/\Ext (updA A2 p2 (.lst (ws1.map stU))) A3/\r.wd=true/\r.dep<=30/\r.size + totR (ws1.drop k)<=60) ⟨w0,_,_,_,rfl,Ext.refl _,hw w0 (by simp),hd w0 (by simp),by rw [List.drop_zero];lia⟩ (fun k ρ A3 _ ⟨r,_,_,_,_,e,_⟩=>e _ _ updA_same) ?_ ?_
    . rintro k u ρ A3 hu ⟨r,x5,x6,x7,rfl,e3,hrw,hrd,hrs⟩
      obtain ⟨y,hy,rfl⟩:=map_get hu
      have hyk:=(List.getElem?_eq_some_iff.mp hy).1
      have hdk:totR (ws1.drop k)=y.size + 1 + totR (ws1.drop (k + 1)):=by
        rw [List.drop_eq_getElem_cons hyk,<- totR_one,<- totR_app]
        have:ws1[k]=y:=by rw [List.getElem?_eq_getElem hyk] at hy;injection hy
        rw [this];rfl
      have hym:y∈w0::ws1:=List.mem_cons_of_mem _ (List.mem_of_getElem? hy)
      walk_at "qd"
      simp only [q_st0,q_st1,q_st2]
      walk_at "qd"
      have hm:(k:Int) % 2=0\/(k:Int) % 2=1:=by lia
      obtain ⟨zz,r2,hz,hr2,hw2,hs2,hd2⟩:=op_at2 hm (x:=r) (y:=y)
      refine ⟨rfl,?_⟩
      refine if_open (decide (1 + max (r.dep:Int) (y.dep:Int)<=30)) (fun B hB=>?_) ?_
      . walk_at "qd"
        exact hB
      refine iteB (fun h=>?_) fun h=>?_
      . have h:=of_decide_eq_true h
        walk_at "qd"
        refine ⟨by decide,fun p3 hp3=>⟨by decide,_,_,updA_same,hz,?_⟩⟩
        simp only [q_st0,q_st1,q_st2]
        walk_at "qd"
        refine ⟨tup3,tup3,r2,_,_,_,by rw [<- hr2],e3.trans (Ext.new hp3),by rw [hw2,hrw,hw y hym];rfl,by lia,by lia⟩
      . walk_at "qd"
        exact ⟨r,_,_,_,rfl,e3,hrw,hrd,by lia⟩
    . rintro ρ A3 ⟨r,x5,x6,x7,rfl,e3,hrw,hrd,hrs⟩
      walk_at "qd"
      rw [q_st0]
      exact fgx ((e2.trans (Ext.new hp2)).trans e3) (q r hrw hrd (by lia))
end
theorem if_openE {c:AT} {t e:AS} {D:AEnds} {ρ:ASt} {A:AHp} (k:Bool) (h1:∀ B:Bool->AHp->Prop,(∀ A',Ext A A'->B k A')->c ρ A B) (h2:∀ A',Ext A A'->if k=true then t D ρ A' else e D ρ A'):aIfH c t e D ρ A:=h1 _ h2
section
include T
theorem ok_law:FnOk P w K mg base CX0 150 f_law d_law ["_law_script"] (spOf K aspLaw):=by
  have G_w_mixed:=ok_mixed (P:=P) (w:=w) (base:=base) T
  have G_w_tree:=ok_tree (P:=P) (w:=w) (base:=base) T
  have G_w_text:=ok_ltx (P:=P) (w:=w) (base:=base) T 30
  have G_w_object:=ok_lob (P:=P) (w:=w) (base:=base) T 30
  have G_w_shows:=ok_shows (P:=P) (w:=w) (base:=base) (n:=30) T
  have G_w_like:=ok_like (P:=P) (w:=w) (base:=base) T 30
  have G_w_wide:=ok_wide (P:=P) (w:=w) (base:=base) T 30
  have G_read_rule:=ok_rr (P:=P) (w:=w) (base:=base) (d:=31) T
  refine' Fun.okA T.F_law (sc:=?sc47) (body:=?bd47) ?hs47 ?hb47 sc_law ?hB47 ?hS47
  case hs47=>conv=>lhs;whnf
  case hb47=>conv=>lhs;whnf
  case hB47=>exact fun S cdv A outer s H E hr=>⟨_,(pss_cons (ps_set (i:=0) S.nd rfl (Or.inl rfl) (pe_call (G_w_mixed.mono (by first | decide | lia)) hr (by rfl) T.M_w_mixed T.F_w_mixed.kp T.B_w_mixed .nil pass0 (pa_cons (pv 0) (pa_cons pe_int pa_nil))))
      (pss_cons (ps_set (i:=1) S.nd rfl (Or.inl rfl) (pe_call (G_w_tree.mono (by first | decide | lia)) hr (by rfl) T.M_w_tree T.F_w_tree.kp T.B_w_tree .nil pass0 (pa_cons (pe_slice o_slW (pv 0) po_none (po_some pe_int)) pa_nil)))
      (pss_cons (ps_set (i:=2) S.nd rfl (Or.inl rfl) (pe_call (G_w_text.mono (by first | decide | lia)) hr (by rfl) T.M_w_text T.F_w_text.kp T.B_w_text .nil pass0 (pa_cons (pv 1) pa_nil)))
      (pss_cons (ps_set (i:=3) S.nd rfl (Or.inl rfl) (pe_call (G_w_object.mono (by first | decide | lia)) hr (by rfl) T.M_w_object T.F_w_object.kp T.B_w_object .nil pass0 (pa_cons (pv 1) pa_nil)))
      (pss_cons (ps_if ((pw_or (pt_not (pt_val (pe_call (G_w_shows.mono (by first | decide | lia)) hr (by rfl) T.M_w_shows T.F_w_shows.kp T.B_w_shows .nil pass0 (pa_cons (pv 3) (pa_cons (pv 2) pa_nil))))) (pw_or1 (pt_not (pt_val (pe_call (G_w_like.mono (by first | decide | lia)) hr (by rfl) T.M_w_like T.F_w_like.kp T.B_w_like .nil pass0 (pa_cons (pv 3) (pa_cons (pv 1) pa_nil)))))))).pt (pss_one (ps_ret pe_bl)) pss_nil)
      (pss_cons (ps_set (i:=4) S.nd rfl (Or.inl rfl) (pe_call (G_w_wide.mono (by first | decide | lia)) hr (by rfl) T.M_w_wide T.F_w_wide.kp T.B_w_wide .nil pass0 (pa_cons (pv 1) (pa_cons (pe_callTy c_list (by rfl) T.n_list (by decide +kernel) (pa_cons (pe_slice o_slW (pv 0) po_none (po_some pe_int)) pa_nil)) (pa_cons pe_int pa_nil)))))
      (pss_cons (ps_if (pt_cmpR o_gt (pe_callB c_len (by rfl) T.n_len (by decide +kernel) (pa_cons (pe_bm PySem.F.plainAttrs_str PySem.F.slot_str_split PySem.F.type_str_split mt_split (pv 4) (pa_cons pe_str pa_nil)) pa_nil)) pe_int (nomark _)) (pss_one (ps_set (i:=4) S.nd rfl (Or.inl rfl) (pv 2))) pss_nil)
      (pss_cons (ps_for PassesOwn.never rfl (pj_seq (pe_lst (pa_cons (pv 2) (pa_cons (pv 4) pa_nil)))) (pg_name (i:=5) S.nd rfl (Or.inl rfl))
      (pss_cons (ps_set (i:=6) S.nd rfl (Or.inl rfl) (pe_call (G_read_rule.mono (by first | decide | lia)) hr (by rfl) T.M_read_rule T.F_read_rule.kp T.B_read_rule .nil pass0 (pa_cons (pv 5) pa_nil)))
      (pss_one (ps_if ((pw_or (pt_not (pt_val (pe_call (G_w_like.mono (by first | decide | lia)) hr (by rfl) T.M_w_like T.F_w_like.kp T.B_w_like .nil pass0 (pa_cons (pv 6) (pa_cons (pv 1) pa_nil))))) (pw_or1 (pt_not (pt_val (pe_call (G_w_shows.mono (by first | decide | lia)) hr (by rfl) T.M_w_shows T.F_w_shows.kp T.B_w_shows .nil pass0 (pa_cons (pv 6) (pa_cons (pv 2) pa_nil)))))))).pt (pss_one (ps_ret pe_bl)) pss_nil))))
      (pss_one (ps_ret (pe_call (G_w_shows.mono (by first | decide | lia)) hr (by rfl) T.M_w_shows T.F_w_shows.kp T.B_w_shows .nil pass0 (pa_cons (pv 3) (pa_cons (pv 2) pa_nil))))))))))))),(ab_seq (ab_asg (ab_call (ab_cons ab_var (ab_cons ab_int ab_nil))) ab_name)
      (ab_seq (ab_asg (ab_call (ab_cons (ab_sl ab_xsl ab_var ab_nopart (ab_part ab_int)) ab_nil)) ab_name)
      (ab_seq (ab_asg (ab_call (ab_cons ab_var ab_nil)) ab_name)
      (ab_seq (ab_asg (ab_call (ab_cons ab_var ab_nil)) ab_name)
      (ab_seq (ab_ifH (ab_or (ab_not (ab_tb (ab_call (ab_cons ab_var (ab_cons ab_var ab_nil))))) (ab_not (ab_tb (ab_call (ab_cons ab_var (ab_cons ab_var ab_nil)))))) (ab_ret ab_bl) ab_next)
      (ab_seq (ab_asg (ab_call (ab_cons ab_var (ab_cons (ab_cb ab_listof (ab_cons (ab_sl ab_xsl ab_var ab_nopart (ab_part ab_int)) ab_nil)) (ab_cons ab_int ab_nil)))) ab_name)
      (ab_seq (ab_ifH (ab_test (ab_op ab_gt (ab_cb ab_len (ab_cons (ab_bm ab_isStr ab_msplit ab_var (ab_cons ab_str ab_nil)) ab_nil)) ab_int)) (ab_asg ab_var ab_name) ab_next)
      (ab_seq (ab_for (ab_jof ab_yseq (ab_lst (ab_cons ab_var (ab_cons ab_var ab_nil)))) ab_name
      (ab_seq (ab_asg (ab_call (ab_cons ab_var ab_nil)) ab_name)
      (ab_ifH (ab_or (ab_not (ab_tb (ab_call (ab_cons ab_var (ab_cons ab_var ab_nil))))) (ab_not (ab_tb (ab_call (ab_cons ab_var (ab_cons ab_var ab_nil)))))) (ab_ret ab_bl) ab_next)))
      (ab_ret (ab_call (ab_cons ab_var (ab_cons ab_var ab_nil))))))))))))⟩
  rintro us A Q ⟨ns,rfl,hl,q⟩
  refine ⟨rfl,?_⟩
  walk_at "qs"
  walk_at "qd"
  refine ⟨ns,6,rfl,hl,by decide,by decide,fun l ms hl0 hml h6=>?_⟩
  walk_at "qd"
  have a0:updA A l (.lst (ms.map U.int)) l=some (.lst (ms.map U.int)):=updA_same
  generalize updA A l (.lst (ms.map U.int))=A0 at a0 ⊢
  refine ⟨_,a0,fun p hp=>?_⟩
  rw [cutU_map]
  have hcl:(cutL ms none (some 60)).length=min 60 ms.length:=by
    unfold cutL
    rw [List.length_take,show HT.sIx ms.length ms.length (some 60)=min 60 ms.length from HT.sIx_nat ms.length ms.length 60,HT.sIx_none,List.length_drop]
    lia
  refine ⟨p,_,rfl,updA_same,by lia,by lia,fun r hw hd hs=>?_⟩
  have a1:updA A0 p (.lst ((cutL ms none (some 60)).map U.int)) l=some (.lst (ms.map U.int)):=Ext.new hp _ _ a0
  generalize updA A0 p (.lst ((cutL ms none (some 60)).map U.int))=A1 at a1 ⊢
  walk_at "qd"
  refine ⟨r,rfl,hd,hw,by lia,?_⟩
  walk_at "qd"
  refine ⟨r,rfl,hd,fun B b eB hb=>?_⟩
  have a2:=eB _ _ a1
  clear eB
  refine if_no (fun B2 hB=>?_) ?_
  . walk_at "qd"
    exact ⟨b,r,rfl,hb,hd,hw,by lia,_,rfl,iteFf rfl ⟨b,r,rfl,hb,hd,hw,_,rfl,hB⟩⟩
  walk_at "qd"
  refine ⟨_,a2,fun p2 hp2=>⟨_,updA_same,fun c hc=>?_⟩⟩
  rw [cutU_map]
  refine ⟨r,c,_,0,rfl,updA_same,hd,hw,by lia,fun ns' ts hts hlt=>?_⟩
  rw [updA_updA]
  rw [cutU_map] at hc
  have e3:Ext B (updA (updA B p2 (.lst ((cutL ms none (some 50)).map U.int))) c (.lst (ns'.map U.int))):=(Ext.new hp2).trans (Ext.new hc)
  generalize updA (updA B p2 (.lst ((cutL ms none (some 50)).map U.int))) c (.lst (ns'.map U.int))=A3 at e3 ⊢
  have htl:=hts.len hw
  have hsp:=hts.split hw
  refine if_openE (decide (300 < ts.length)) (fun B4 hB=>?_) fun A5 e5=>?_
  . walk_at "qd"
    have hp2:(Builtin.Str.partsBetween (Txt.join blk ts) (Builtin.Str.occurrences (Txt.join blk ts) (Str.ofString " ") 0 (Txt.join blk ts).length ((Txt.join blk ts).length + 1)) (Str.ofString " ").length).length<=20000:=by
      rw [length_partsBetween]
      have:=StrLaws.occ_length_le (Txt.join blk ts) (Str.ofString " ") 0 (Txt.join blk ts).length ((Txt.join blk ts).length + 1)
      lia
    refine ⟨trivial,by decide +kernel,line1000 (by lia),line1000 (by lia),by rw [show Txt.split (Txt.join blk ts) (Str.ofString " ")=ts from hsp];exact line1000 (by lia),fun p hp=>?_⟩
    rw [show Txt.split (Txt.join blk ts) (Str.ofString " ")=ts from hsp]
    walk_at "qd"
    refine ⟨_,updA_same,?_⟩
    rw [List.length_map,show decide ((300:Int) < (ts.length:Int))=decide (300 < ts.length) from decide_eq_decide.mpr (by lia)]
    exact hB _ (Ext.new hp)
  refine iteB (fun h=>?_) fun h=>?_
  . walk_at "qd"
    walk_at "qd"
    refine ⟨by show 2<=sizeLine;decide,fun p5 hp5=>⟨⟨_,updA_same⟩,?_⟩⟩
    refine for_lst [.str r.txt,.str (r.txt)] (fun k ρ A6=>∃ x5 x6,ρ=[some (.ref l),some r.toU,some (.str r.txt),some (.ref b),some (.str (r.txt)),x5,x6]/\Ext (updA A5 p5 (.lst [.str r.txt,.str (r.txt)])) A6) ⟨_,_,rfl,Ext.refl _⟩ (fun k ρ A6 _ ⟨_,_,_,e⟩=>e _ _ updA_same) ?_ ?_
    . rintro k u ρ A6 hu ⟨x5,x6,rfl,e6⟩
      obtain ⟨tw,htw,hwd,hlw⟩:∃ tw,u=.str (Txt.join blk tw)/\Wd r.dep 0 r tw/\tw.length<=1000:=by
        rcases k with _ | _ | k
        . injection hu with hu
          exact ⟨r.tk,hu.symm,r.wd_tk 0 (Nat.zero_le _),by have:=r.tk_len;lia⟩
        . injection hu with hu
          exact ⟨_,hu.symm,r.wd_tk 0 (Nat.zero_le _),by have:=r.tk_len;lia⟩
        . cases hu
      subst htw
      walk_at "qd"
      refine ⟨r,tw,r.dep,rfl,by lia,hwd,hw,hlw,fun B7 b7 e7 hb7=>?_⟩
      refine if_no (fun B8 hB=>?_) ?_
      . walk_at "qd"
        exact ⟨b7,r,rfl,hb7,hd,hw,_,rfl,iteFf rfl ⟨b7,r,rfl,hb7,hd,hw,by lia,_,rfl,hB⟩⟩
      walk_at "qd"
      exact ⟨_,_,rfl,e6.trans e7⟩
    . rintro ρ A6 ⟨x5,x6,rfl,e6⟩
      walk_at "qd"
      exact ⟨b,r,rfl,hb.ext ((e3.trans e5).trans ((Ext.new hp5).trans e6)),hd,hw,by lia,fg (q _)⟩
  . have h := of_decide_eq_false h
    walk_at "qd"
    refine ⟨by show 2<=sizeLine;decide,fun p5 hp5=>⟨⟨_,updA_same⟩,?_⟩⟩
    refine for_lst [.str r.txt,.str (Txt.join blk ts)] (fun k ρ A6=>∃ x5 x6,ρ=[some (.ref l),some r.toU,some (.str r.txt),some (.ref b),some (.str (Txt.join blk ts)),x5,x6]/\Ext (updA A5 p5 (.lst [.str r.txt,.str (Txt.join blk ts)])) A6) ⟨_,_,rfl,Ext.refl _⟩ (fun k ρ A6 _ ⟨_,_,_,e⟩=>e _ _ updA_same) ?_ ?_
    . rintro k u ρ A6 hu ⟨x5,x6,rfl,e6⟩
      obtain ⟨tw,htw,hwd,hlw⟩:∃ tw,u=.str (Txt.join blk tw)/\Wd r.dep 0 r tw/\tw.length<=1000:=by
        rcases k with _ | _ | k
        . injection hu with hu
          exact ⟨r.tk,hu.symm,r.wd_tk 0 (Nat.zero_le _),by have:=r.tk_len;lia⟩
        . injection hu with hu
          exact ⟨_,hu.symm,hts,by lia⟩
        . cases hu
      subst htw
      walk_at "qd"
      refine ⟨r,tw,r.dep,rfl,by lia,hwd,hw,hlw,fun B7 b7 e7 hb7=>?_⟩
      refine if_no (fun B8 hB=>?_) ?_
      . walk_at "qd"
        exact ⟨b7,r,rfl,hb7,hd,hw,_,rfl,iteFf rfl ⟨b7,r,rfl,hb7,hd,hw,by lia,_,rfl,hB⟩⟩
      walk_at "qd"
      exact ⟨_,_,rfl,e6.trans e7⟩
    . rintro ρ A6 ⟨x5,x6,rfl,e6⟩
      walk_at "qd"
      exact ⟨b,r,rfl,hb.ext ((e3.trans e5).trans ((Ext.new hp5).trans e6)),hd,hw,by lia,fg (q _)⟩
end
theorem all_mk {l:PySem.W.OpenLaw} {w:World} {K:PySem.W.Frag} {h:Heap} {mg:Str->Option Value} {fa:Addr} {a_Rule a_Nothing a_Bead a_Or a_By a_Row a_Bag a_Choice a_Ring a_Named a_Words:Addr} {f_Nothing_told f_Bead___init__ f_Bead_told f_Or___init__ f_Or_told f_By___init__ f_By_told f_Row___init__ f_Row_told f_Bag___init__ f_Bag_told f_Choice___init__ f_Choice_told f_Ring___init__ f_Ring_told f_Named___init__ f_Named_told f_term_text f_factor_text f_is_word f_Words___init__ f_Words_ahead f_Words_passed f_Words_need f_Words_free_word f_Words_finish f_read_rule f_next_rule f_next_term f_next_factor f_next_plain_factor f_held f_w_cell f_w_kept f_w_word f_w_total f_w_op f_w_tree f_w_binds f_w_shut f_w_text f_w_object f_w_wide f_w_like f_w_shows f_w_mixed f_law:Addr} {od_Nothing_told an_Nothing_told od_Bead___init__ an_Bead___init__ od_Bead_told an_Bead_told od_Or___init__ an_Or___init__ od_Or_told an_Or_told od_By___init__ an_By___init__ od_By_told an_By_told od_Row___init__ an_Row___init__ od_Row_told an_Row_told od_Bag___init__ an_Bag___init__ od_Bag_told an_Bag_told od_Choice___init__ an_Choice___init__ od_Choice_told an_Choice_told od_Ring___init__ an_Ring___init__ od_Ring_told an_Ring_told od_Named___init__ an_Named___init__ od_Named_told an_Named_told od_term_text an_term_text od_factor_text an_factor_text od_is_word an_is_word od_Words___init__ an_Words___init__ od_Words_ahead an_Words_ahead od_Words_passed an_Words_passed od_Words_need an_Words_need od_Words_free_word an_Words_free_word od_Words_finish an_Words_finish od_read_rule an_read_rule od_next_rule an_next_rule od_next_term an_next_term od_next_factor an_next_factor od_next_plain_factor an_next_plain_factor od_held an_held od_w_cell an_w_cell od_w_kept an_w_kept od_w_word an_w_word od_w_total an_w_total od_w_op an_w_op od_w_tree an_w_tree od_w_binds an_w_binds od_w_shut an_w_shut od_w_text an_w_text od_w_object an_w_object od_w_wide an_w_wide od_w_like an_w_like od_w_shows an_w_shows od_w_mixed an_w_mixed od_law an_law:Option Addr} {sl_Nothing_told sl_Bead___init__ sl_Bead_told sl_Or___init__ sl_Or_told sl_By___init__ sl_By_told sl_Row___init__ sl_Row_told sl_Bag___init__ sl_Bag_told sl_Choice___init__ sl_Choice_told sl_Ring___init__ sl_Ring_told sl_Named___init__ sl_Named_told sl_term_text sl_factor_text sl_is_word sl_Words___init__ sl_Words_ahead sl_Words_passed sl_Words_need sl_Words_free_word sl_Words_finish sl_read_rule sl_next_rule sl_next_term sl_next_factor sl_next_plain_factor sl_held sl_w_cell sl_w_kept sl_w_word sl_w_total sl_w_op sl_w_tree sl_w_binds sl_w_shut sl_w_text sl_w_object sl_w_wide sl_w_like sl_w_shows sl_w_mixed sl_law:Array (Option Value)} {oc_Nothing_told kV_Nothing_told dc_Nothing_told pm_Nothing_told ct_Nothing_told cd_Nothing_told oc_Bead___init__ kV_Bead___init__ dc_Bead___init__ pm_Bead___init__ ct_Bead___init__ cd_Bead___init__ oc_Bead_told kV_Bead_told dc_Bead_told pm_Bead_told ct_Bead_told cd_Bead_told oc_Or___init__ kV_Or___init__ dc_Or___init__ pm_Or___init__ ct_Or___init__ cd_Or___init__ oc_Or_told kV_Or_told dc_Or_told pm_Or_told ct_Or_told cd_Or_told oc_By___init__ kV_By___init__ dc_By___init__ pm_By___init__ ct_By___init__ cd_By___init__ oc_By_told kV_By_told dc_By_told pm_By_told ct_By_told cd_By_told oc_Row___init__ kV_Row___init__ dc_Row___init__ pm_Row___init__ ct_Row___init__ cd_Row___init__ oc_Row_told kV_Row_told dc_Row_told pm_Row_told ct_Row_told cd_Row_told oc_Bag___init__ kV_Bag___init__ dc_Bag___init__ pm_Bag___init__ ct_Bag___init__ cd_Bag___init__ oc_Bag_told kV_Bag_told dc_Bag_told pm_Bag_told ct_Bag_told cd_Bag_told oc_Choice___init__ kV_Choice___init__ dc_Choice___init__ pm_Choice___init__ ct_Choice___init__ cd_Choice___init__ oc_Choice_told kV_Choice_told dc_Choice_told pm_Choice_told ct_Choice_told cd_Choice_told oc_Ring___init__ kV_Ring___init__ dc_Ring___init__ pm_Ring___init__ ct_Ring___init__ cd_Ring___init__ oc_Ring_told kV_Ring_told dc_Ring_told pm_Ring_told ct_Ring_told cd_Ring_told oc_Named___init__ kV_Named___init__ dc_Named___init__ pm_Named___init__ ct_Named___init__ cd_Named___init__ oc_Named_told kV_Named_told dc_Named_told pm_Named_told ct_Named_told cd_Named_told oc_term_text kV_term_text dc_term_text pm_term_text ct_term_text cd_term_text oc_factor_text kV_factor_text dc_factor_text pm_factor_text ct_factor_text cd_factor_text oc_is_word kV_is_word dc_is_word pm_is_word ct_is_word cd_is_word oc_Words___init__ kV_Words___init__ dc_Words___init__ pm_Words___init__ ct_Words___init__ cd_Words___init__ oc_Words_ahead kV_Words_ahead dc_Words_ahead pm_Words_ahead ct_Words_ahead cd_Words_ahead oc_Words_passed kV_Words_passed dc_Words_passed pm_Words_passed ct_Words_passed cd_Words_passed oc_Words_need kV_Words_need dc_Words_need pm_Words_need ct_Words_need cd_Words_need oc_Words_free_word kV_Words_free_word dc_Words_free_word pm_Words_free_word ct_Words_free_word cd_Words_free_word oc_Words_finish kV_Words_finish dc_Words_finish pm_Words_finish ct_Words_finish cd_Words_finish oc_read_rule kV_read_rule dc_read_rule pm_read_rule ct_read_rule cd_read_rule oc_next_rule kV_next_rule dc_next_rule pm_next_rule ct_next_rule cd_next_rule oc_next_term kV_next_term dc_next_term pm_next_term ct_next_term cd_next_term oc_next_factor kV_next_factor dc_next_factor pm_next_factor ct_next_factor cd_next_factor oc_next_plain_factor kV_next_plain_factor dc_next_plain_factor pm_next_plain_factor ct_next_plain_factor cd_next_plain_factor oc_held kV_held dc_held pm_held ct_held cd_held oc_w_cell kV_w_cell dc_w_cell pm_w_cell ct_w_cell cd_w_cell oc_w_kept kV_w_kept dc_w_kept pm_w_kept ct_w_kept cd_w_kept oc_w_word kV_w_word dc_w_word pm_w_word ct_w_word cd_w_word oc_w_total kV_w_total dc_w_total pm_w_total ct_w_total cd_w_total oc_w_op kV_w_op dc_w_op pm_w_op ct_w_op cd_w_op oc_w_tree kV_w_tree dc_w_tree pm_w_tree ct_w_tree cd_w_tree oc_w_binds kV_w_binds dc_w_binds pm_w_binds ct_w_binds cd_w_binds oc_w_shut kV_w_shut dc_w_shut pm_w_shut ct_w_shut cd_w_shut oc_w_text kV_w_text dc_w_text pm_w_text ct_w_text cd_w_text oc_w_object kV_w_object dc_w_object pm_w_object ct_w_object cd_w_object oc_w_wide kV_w_wide dc_w_wide pm_w_wide ct_w_wide cd_w_wide oc_w_like kV_w_like dc_w_like pm_w_like ct_w_like cd_w_like oc_w_shows kV_w_shows dc_w_shows pm_w_shows ct_w_shows cd_w_shows oc_w_mixed kV_w_mixed dc_w_mixed pm_w_mixed ct_w_mixed cd_w_mixed oc_law kV_law dc_law pm_law ct_law cd_law:Value} {a_HOLDERS:Addr} {oc_HOLDERS:Value} {od_HOLDERS:Option Addr} {is_HOLDERS:Array Value} {sn_HOLDERS:Nat} {sl_HOLDERS:Array (Option Value)} {a_KEPT:Addr} {oc_KEPT:Value} {od_KEPT:Option Addr} {is_KEPT:Array Value} {sn_KEPT:Nat} {sl_KEPT:Array (Option Value)} {tk_LETTERS tk_LONGEST:Tok} (X:K.In h) (G:h.Ns mainGlobals mg) (hfa:mg "law"=some (.ref fa))
 (l_Nothing_told:K.lookup f_Nothing_told=some ⟨oc_Nothing_told,od_Nothing_told,.func (PySem.W.fnOf "told" "Nothing.told" (defArgs s_Nothing_told) (defBody s_Nothing_told) (defScope s_Nothing_told) .none kV_Nothing_told dc_Nothing_told pm_Nothing_told an_Nothing_told cd_Nothing_told ct_Nothing_told),sl_Nothing_told⟩) (x_Nothing_told:PySem.W.codeIn K cd_Nothing_told "Nothing.told"=true) (k_Nothing_told:PySem.W.keepIn K (.ref f_Nothing_told)=true) (W_Nothing_told:Meth K a_Nothing "told" f_Nothing_told)
 (l_Bead___init__:K.lookup f_Bead___init__=some ⟨oc_Bead___init__,od_Bead___init__,.func (PySem.W.fnOf "__init__" "Bead.__init__" (defArgs s_Bead___init__) (defBody s_Bead___init__) (defScope s_Bead___init__) .none kV_Bead___init__ dc_Bead___init__ pm_Bead___init__ an_Bead___init__ cd_Bead___init__ ct_Bead___init__),sl_Bead___init__⟩) (x_Bead___init__:PySem.W.codeIn K cd_Bead___init__ "Bead.__init__"=true) (k_Bead___init__:PySem.W.keepIn K (.ref f_Bead___init__)=true) (K_Bead:Mk K a_Bead f_Bead___init__)
 (l_Bead_told:K.lookup f_Bead_told=some ⟨oc_Bead_told,od_Bead_told,.func (PySem.W.fnOf "told" "Bead.told" (defArgs s_Bead_told) (defBody s_Bead_told) (defScope s_Bead_told) .none kV_Bead_told dc_Bead_told pm_Bead_told an_Bead_told cd_Bead_told ct_Bead_told),sl_Bead_told⟩) (x_Bead_told:PySem.W.codeIn K cd_Bead_told "Bead.told"=true) (k_Bead_told:PySem.W.keepIn K (.ref f_Bead_told)=true) (W_Bead_told:Meth K a_Bead "told" f_Bead_told)
 (l_Or___init__:K.lookup f_Or___init__=some ⟨oc_Or___init__,od_Or___init__,.func (PySem.W.fnOf "__init__" "Or.__init__" (defArgs s_Or___init__) (defBody s_Or___init__) (defScope s_Or___init__) .none kV_Or___init__ dc_Or___init__ pm_Or___init__ an_Or___init__ cd_Or___init__ ct_Or___init__),sl_Or___init__⟩) (x_Or___init__:PySem.W.codeIn K cd_Or___init__ "Or.__init__"=true) (k_Or___init__:PySem.W.keepIn K (.ref f_Or___init__)=true) (K_Or:Mk K a_Or f_Or___init__)
 (l_Or_told:K.lookup f_Or_told=some ⟨oc_Or_told,od_Or_told,.func (PySem.W.fnOf "told" "Or.told" (defArgs s_Or_told) (defBody s_Or_told) (defScope s_Or_told) .none kV_Or_told dc_Or_told pm_Or_told an_Or_told cd_Or_told ct_Or_told),sl_Or_told⟩) (x_Or_told:PySem.W.codeIn K cd_Or_told "Or.told"=true) (k_Or_told:PySem.W.keepIn K (.ref f_Or_told)=true) (W_Or_told:Meth K a_Or "told" f_Or_told)
 (l_By___init__:K.lookup f_By___init__=some ⟨oc_By___init__,od_By___init__,.func (PySem.W.fnOf "__init__" "By.__init__" (defArgs s_By___init__) (defBody s_By___init__) (defScope s_By___init__) .none kV_By___init__ dc_By___init__ pm_By___init__ an_By___init__ cd_By___init__ ct_By___init__),sl_By___init__⟩) (x_By___init__:PySem.W.codeIn K cd_By___init__ "By.__init__"=true) (k_By___init__:PySem.W.keepIn K (.ref f_By___init__)=true) (K_By:Mk K a_By f_By___init__)
 (l_By_told:K.lookup f_By_told=some ⟨oc_By_told,od_By_told,.func (PySem.W.fnOf "told" "By.told" (defArgs s_By_told) (defBody s_By_told) (defScope s_By_told) .none kV_By_told dc_By_told pm_By_told an_By_told cd_By_told ct_By_told),sl_By_told⟩) (x_By_told:PySem.W.codeIn K cd_By_told "By.told"=true) (k_By_told:PySem.W.keepIn K (.ref f_By_told)=true) (W_By_told:Meth K a_By "told" f_By_told)
 (l_Row___init__:K.lookup f_Row___init__=some ⟨oc_Row___init__,od_Row___init__,.func (PySem.W.fnOf "__init__" "Row.__init__" (defArgs s_Row___init__) (defBody s_Row___init__) (defScope s_Row___init__) .none kV_Row___init__ dc_Row___init__ pm_Row___init__ an_Row___init__ cd_Row___init__ ct_Row___init__),sl_Row___init__⟩) (x_Row___init__:PySem.W.codeIn K cd_Row___init__ "Row.__init__"=true) (k_Row___init__:PySem.W.keepIn K (.ref f_Row___init__)=true) (K_Row:Mk K a_Row f_Row___init__)
 (l_Row_told:K.lookup f_Row_told=some ⟨oc_Row_told,od_Row_told,.func (PySem.W.fnOf "told" "Row.told" (defArgs s_Row_told) (defBody s_Row_told) (defScope s_Row_told) .none kV_Row_told dc_Row_told pm_Row_told an_Row_told cd_Row_told ct_Row_told),sl_Row_told⟩) (x_Row_told:PySem.W.codeIn K cd_Row_told "Row.told"=true) (k_Row_told:PySem.W.keepIn K (.ref f_Row_told)=true) (W_Row_told:Meth K a_Row "told" f_Row_told)
 (l_Bag___init__:K.lookup f_Bag___init__=some ⟨oc_Bag___init__,od_Bag___init__,.func (PySem.W.fnOf "__init__" "Bag.__init__" (defArgs s_Bag___init__) (defBody s_Bag___init__) (defScope s_Bag___init__) .none kV_Bag___init__ dc_Bag___init__ pm_Bag___init__ an_Bag___init__ cd_Bag___init__ ct_Bag___init__),sl_Bag___init__⟩) (x_Bag___init__:PySem.W.codeIn K cd_Bag___init__ "Bag.__init__"=true) (k_Bag___init__:PySem.W.keepIn K (.ref f_Bag___init__)=true) (K_Bag:Mk K a_Bag f_Bag___init__)
 (l_Bag_told:K.lookup f_Bag_told=some ⟨oc_Bag_told,od_Bag_told,.func (PySem.W.fnOf "told" "Bag.told" (defArgs s_Bag_told) (defBody s_Bag_told) (defScope s_Bag_told) .none kV_Bag_told dc_Bag_told pm_Bag_told an_Bag_told cd_Bag_told ct_Bag_told),sl_Bag_told⟩) (x_Bag_told:PySem.W.codeIn K cd_Bag_told "Bag.told"=true) (k_Bag_told:PySem.W.keepIn K (.ref f_Bag_told)=true) (W_Bag_told:Meth K a_Bag "told" f_Bag_told)
 (l_Choice___init__:K.lookup f_Choice___init__=some ⟨oc_Choice___init__,od_Choice___init__,.func (PySem.W.fnOf "__init__" "Choice.__init__" (defArgs s_Choice___init__) (defBody s_Choice___init__) (defScope s_Choice___init__) .none kV_Choice___init__ dc_Choice___init__ pm_Choice___init__ an_Choice___init__ cd_Choice___init__ ct_Choice___init__),sl_Choice___init__⟩) (x_Choice___init__:PySem.W.codeIn K cd_Choice___init__ "Choice.__init__"=true) (k_Choice___init__:PySem.W.keepIn K (.ref f_Choice___init__)=true) (K_Choice:Mk K a_Choice f_Choice___init__)
 (l_Choice_told:K.lookup f_Choice_told=some ⟨oc_Choice_told,od_Choice_told,.func (PySem.W.fnOf "told" "Choice.told" (defArgs s_Choice_told) (defBody s_Choice_told) (defScope s_Choice_told) .none kV_Choice_told dc_Choice_told pm_Choice_told an_Choice_told cd_Choice_told ct_Choice_told),sl_Choice_told⟩) (x_Choice_told:PySem.W.codeIn K cd_Choice_told "Choice.told"=true) (k_Choice_told:PySem.W.keepIn K (.ref f_Choice_told)=true) (W_Choice_told:Meth K a_Choice "told" f_Choice_told)
 (l_Ring___init__:K.lookup f_Ring___init__=some ⟨oc_Ring___init__,od_Ring___init__,.func (PySem.W.fnOf "__init__" "Ring.__init__" (defArgs s_Ring___init__) (defBody s_Ring___init__) (defScope s_Ring___init__) .none kV_Ring___init__ dc_Ring___init__ pm_Ring___init__ an_Ring___init__ cd_Ring___init__ ct_Ring___init__),sl_Ring___init__⟩) (x_Ring___init__:PySem.W.codeIn K cd_Ring___init__ "Ring.__init__"=true) (k_Ring___init__:PySem.W.keepIn K (.ref f_Ring___init__)=true) (K_Ring:Mk K a_Ring f_Ring___init__)
 (l_Ring_told:K.lookup f_Ring_told=some ⟨oc_Ring_told,od_Ring_told,.func (PySem.W.fnOf "told" "Ring.told" (defArgs s_Ring_told) (defBody s_Ring_told) (defScope s_Ring_told) .none kV_Ring_told dc_Ring_told pm_Ring_told an_Ring_told cd_Ring_told ct_Ring_told),sl_Ring_told⟩) (x_Ring_told:PySem.W.codeIn K cd_Ring_told "Ring.told"=true) (k_Ring_told:PySem.W.keepIn K (.ref f_Ring_told)=true) (W_Ring_told:Meth K a_Ring "told" f_Ring_told)
 (l_Named___init__:K.lookup f_Named___init__=some ⟨oc_Named___init__,od_Named___init__,.func (PySem.W.fnOf "__init__" "Named.__init__" (defArgs s_Named___init__) (defBody s_Named___init__) (defScope s_Named___init__) .none kV_Named___init__ dc_Named___init__ pm_Named___init__ an_Named___init__ cd_Named___init__ ct_Named___init__),sl_Named___init__⟩) (x_Named___init__:PySem.W.codeIn K cd_Named___init__ "Named.__init__"=true) (k_Named___init__:PySem.W.keepIn K (.ref f_Named___init__)=true) (K_Named:Mk K a_Named f_Named___init__)
 (l_Named_told:K.lookup f_Named_told=some ⟨oc_Named_told,od_Named_told,.func (PySem.W.fnOf "told" "Named.told" (defArgs s_Named_told) (defBody s_Named_told) (defScope s_Named_told) .none kV_Named_told dc_Named_told pm_Named_told an_Named_told cd_Named_told ct_Named_told),sl_Named_told⟩) (x_Named_told:PySem.W.codeIn K cd_Named_told "Named.told"=true) (k_Named_told:PySem.W.keepIn K (.ref f_Named_told)=true) (W_Named_told:Meth K a_Named "told" f_Named_told)
    (a_term_text:PySem.W.nsIn K mainGlobals "term_text"=some (some (.ref f_term_text))) (l_term_text:K.lookup f_term_text=some ⟨oc_term_text,od_term_text,.func (PySem.W.fnOf "term_text" "term_text" (defArgs s_term_text) (defBody s_term_text) (defScope s_term_text) .none kV_term_text dc_term_text pm_term_text an_term_text cd_term_text ct_term_text),sl_term_text⟩) (x_term_text:PySem.W.codeIn K cd_term_text "term_text"=true) (k_term_text:PySem.W.keepIn K (.ref f_term_text)=true)
    (a_factor_text:PySem.W.nsIn K mainGlobals "factor_text"=some (some (.ref f_factor_text))) (l_factor_text:K.lookup f_factor_text=some ⟨oc_factor_text,od_factor_text,.func (PySem.W.fnOf "factor_text" "factor_text" (defArgs s_factor_text) (defBody s_factor_text) (defScope s_factor_text) .none kV_factor_text dc_factor_text pm_factor_text an_factor_text cd_factor_text ct_factor_text),sl_factor_text⟩) (x_factor_text:PySem.W.codeIn K cd_factor_text "factor_text"=true) (k_factor_text:PySem.W.keepIn K (.ref f_factor_text)=true)
    (a_is_word:PySem.W.nsIn K mainGlobals "is_word"=some (some (.ref f_is_word))) (l_is_word:K.lookup f_is_word=some ⟨oc_is_word,od_is_word,.func (PySem.W.fnOf "is_word" "is_word" (defArgs s_is_word) (defBody s_is_word) (defScope s_is_word) .none kV_is_word dc_is_word pm_is_word an_is_word cd_is_word ct_is_word),sl_is_word⟩) (x_is_word:PySem.W.codeIn K cd_is_word "is_word"=true) (k_is_word:PySem.W.keepIn K (.ref f_is_word)=true)
 (l_Words___init__:K.lookup f_Words___init__=some ⟨oc_Words___init__,od_Words___init__,.func (PySem.W.fnOf "__init__" "Words.__init__" (defArgs s_Words___init__) (defBody s_Words___init__) (defScope s_Words___init__) .none kV_Words___init__ dc_Words___init__ pm_Words___init__ an_Words___init__ cd_Words___init__ ct_Words___init__),sl_Words___init__⟩) (x_Words___init__:PySem.W.codeIn K cd_Words___init__ "Words.__init__"=true) (k_Words___init__:PySem.W.keepIn K (.ref f_Words___init__)=true) (K_Words:Mk K a_Words f_Words___init__)
 (l_Words_ahead:K.lookup f_Words_ahead=some ⟨oc_Words_ahead,od_Words_ahead,.func (PySem.W.fnOf "ahead" "Words.ahead" (defArgs s_Words_ahead) (defBody s_Words_ahead) (defScope s_Words_ahead) .none kV_Words_ahead dc_Words_ahead pm_Words_ahead an_Words_ahead cd_Words_ahead ct_Words_ahead),sl_Words_ahead⟩) (x_Words_ahead:PySem.W.codeIn K cd_Words_ahead "Words.ahead"=true) (k_Words_ahead:PySem.W.keepIn K (.ref f_Words_ahead)=true) (W_Words_ahead:Meth K a_Words "ahead" f_Words_ahead)
 (l_Words_passed:K.lookup f_Words_passed=some ⟨oc_Words_passed,od_Words_passed,.func (PySem.W.fnOf "passed" "Words.passed" (defArgs s_Words_passed) (defBody s_Words_passed) (defScope s_Words_passed) .none kV_Words_passed dc_Words_passed pm_Words_passed an_Words_passed cd_Words_passed ct_Words_passed),sl_Words_passed⟩) (x_Words_passed:PySem.W.codeIn K cd_Words_passed "Words.passed"=true) (k_Words_passed:PySem.W.keepIn K (.ref f_Words_passed)=true) (W_Words_passed:Meth K a_Words "passed" f_Words_passed)
 (l_Words_need:K.lookup f_Words_need=some ⟨oc_Words_need,od_Words_need,.func (PySem.W.fnOf "need" "Words.need" (defArgs s_Words_need) (defBody s_Words_need) (defScope s_Words_need) .none kV_Words_need dc_Words_need pm_Words_need an_Words_need cd_Words_need ct_Words_need),sl_Words_need⟩) (x_Words_need:PySem.W.codeIn K cd_Words_need "Words.need"=true) (k_Words_need:PySem.W.keepIn K (.ref f_Words_need)=true) (W_Words_need:Meth K a_Words "need" f_Words_need)
 (l_Words_free_word:K.lookup f_Words_free_word=some ⟨oc_Words_free_word,od_Words_free_word,.func (PySem.W.fnOf "free_word" "Words.free_word" (defArgs s_Words_free_word) (defBody s_Words_free_word) (defScope s_Words_free_word) .none kV_Words_free_word dc_Words_free_word pm_Words_free_word an_Words_free_word cd_Words_free_word ct_Words_free_word),sl_Words_free_word⟩) (x_Words_free_word:PySem.W.codeIn K cd_Words_free_word "Words.free_word"=true) (k_Words_free_word:PySem.W.keepIn K (.ref f_Words_free_word)=true) (W_Words_free_word:Meth K a_Words "free_word" f_Words_free_word)
 (l_Words_finish:K.lookup f_Words_finish=some ⟨oc_Words_finish,od_Words_finish,.func (PySem.W.fnOf "finish" "Words.finish" (defArgs s_Words_finish) (defBody s_Words_finish) (defScope s_Words_finish) .none kV_Words_finish dc_Words_finish pm_Words_finish an_Words_finish cd_Words_finish ct_Words_finish),sl_Words_finish⟩) (x_Words_finish:PySem.W.codeIn K cd_Words_finish "Words.finish"=true) (k_Words_finish:PySem.W.keepIn K (.ref f_Words_finish)=true) (W_Words_finish:Meth K a_Words "finish" f_Words_finish)
    (a_read_rule:PySem.W.nsIn K mainGlobals "read_rule"=some (some (.ref f_read_rule))) (l_read_rule:K.lookup f_read_rule=some ⟨oc_read_rule,od_read_rule,.func (PySem.W.fnOf "read_rule" "read_rule" (defArgs s_read_rule) (defBody s_read_rule) (defScope s_read_rule) .none kV_read_rule dc_read_rule pm_read_rule an_read_rule cd_read_rule ct_read_rule),sl_read_rule⟩) (x_read_rule:PySem.W.codeIn K cd_read_rule "read_rule"=true) (k_read_rule:PySem.W.keepIn K (.ref f_read_rule)=true)
    (a_next_rule:PySem.W.nsIn K mainGlobals "next_rule"=some (some (.ref f_next_rule))) (l_next_rule:K.lookup f_next_rule=some ⟨oc_next_rule,od_next_rule,.func (PySem.W.fnOf "next_rule" "next_rule" (defArgs s_next_rule) (defBody s_next_rule) (defScope s_next_rule) .none kV_next_rule dc_next_rule pm_next_rule an_next_rule cd_next_rule ct_next_rule),sl_next_rule⟩) (x_next_rule:PySem.W.codeIn K cd_next_rule "next_rule"=true) (k_next_rule:PySem.W.keepIn K (.ref f_next_rule)=true)
    (a_next_term:PySem.W.nsIn K mainGlobals "next_term"=some (some (.ref f_next_term))) (l_next_term:K.lookup f_next_term=some ⟨oc_next_term,od_next_term,.func (PySem.W.fnOf "next_term" "next_term" (defArgs s_next_term) (defBody s_next_term) (defScope s_next_term) .none kV_next_term dc_next_term pm_next_term an_next_term cd_next_term ct_next_term),sl_next_term⟩) (x_next_term:PySem.W.codeIn K cd_next_term "next_term"=true) (k_next_term:PySem.W.keepIn K (.ref f_next_term)=true)
    (a_next_factor:PySem.W.nsIn K mainGlobals "next_factor"=some (some (.ref f_next_factor))) (l_next_factor:K.lookup f_next_factor=some ⟨oc_next_factor,od_next_factor,.func (PySem.W.fnOf "next_factor" "next_factor" (defArgs s_next_factor) (defBody s_next_factor) (defScope s_next_factor) .none kV_next_factor dc_next_factor pm_next_factor an_next_factor cd_next_factor ct_next_factor),sl_next_factor⟩) (x_next_factor:PySem.W.codeIn K cd_next_factor "next_factor"=true) (k_next_factor:PySem.W.keepIn K (.ref f_next_factor)=true)
    (a_next_plain_factor:PySem.W.nsIn K mainGlobals "next_plain_factor"=some (some (.ref f_next_plain_factor))) (l_next_plain_factor:K.lookup f_next_plain_factor=some ⟨oc_next_plain_factor,od_next_plain_factor,.func (PySem.W.fnOf "next_plain_factor" "next_plain_factor" (defArgs s_next_plain_factor) (defBody s_next_plain_factor) (defScope s_next_plain_factor) .none kV_next_plain_factor dc_next_plain_factor pm_next_plain_factor an_next_plain_factor cd_next_plain_factor ct_next_plain_factor),sl_next_plain_factor⟩) (x_next_plain_factor:PySem.W.codeIn K cd_next_plain_factor "next_plain_factor"=true) (k_next_plain_factor:PySem.W.keepIn K (.ref f_next_plain_factor)=true)
    (a_held:PySem.W.nsIn K mainGlobals "held"=some (some (.ref f_held))) (l_held:K.lookup f_held=some ⟨oc_held,od_held,.func (PySem.W.fnOf "held" "held" (defArgs s_held) (defBody s_held) (defScope s_held) .none kV_held dc_held pm_held an_held cd_held ct_held),sl_held⟩) (x_held:PySem.W.codeIn K cd_held "held"=true) (k_held:PySem.W.keepIn K (.ref f_held)=true)
    (a_w_cell:PySem.W.nsIn K mainGlobals "_law_cell"=some (some (.ref f_w_cell))) (l_w_cell:K.lookup f_w_cell=some ⟨oc_w_cell,od_w_cell,.func (PySem.W.fnOf "_law_cell" "_law_cell" (defArgs s_w_cell) (defBody s_w_cell) (defScope s_w_cell) .none kV_w_cell dc_w_cell pm_w_cell an_w_cell cd_w_cell ct_w_cell),sl_w_cell⟩) (x_w_cell:PySem.W.codeIn K cd_w_cell "_law_cell"=true) (k_w_cell:PySem.W.keepIn K (.ref f_w_cell)=true)
    (a_w_kept:PySem.W.nsIn K mainGlobals "_law_kept"=some (some (.ref f_w_kept))) (l_w_kept:K.lookup f_w_kept=some ⟨oc_w_kept,od_w_kept,.func (PySem.W.fnOf "_law_kept" "_law_kept" (defArgs s_w_kept) (defBody s_w_kept) (defScope s_w_kept) .none kV_w_kept dc_w_kept pm_w_kept an_w_kept cd_w_kept ct_w_kept),sl_w_kept⟩) (x_w_kept:PySem.W.codeIn K cd_w_kept "_law_kept"=true) (k_w_kept:PySem.W.keepIn K (.ref f_w_kept)=true)
    (a_w_word:PySem.W.nsIn K mainGlobals "_law_word"=some (some (.ref f_w_word))) (l_w_word:K.lookup f_w_word=some ⟨oc_w_word,od_w_word,.func (PySem.W.fnOf "_law_word" "_law_word" (defArgs s_w_word) (defBody s_w_word) (defScope s_w_word) .none kV_w_word dc_w_word pm_w_word an_w_word cd_w_word ct_w_word),sl_w_word⟩) (x_w_word:PySem.W.codeIn K cd_w_word "_law_word"=true) (k_w_word:PySem.W.keepIn K (.ref f_w_word)=true)
    (a_w_total:PySem.W.nsIn K mainGlobals "_law_total"=some (some (.ref f_w_total))) (l_w_total:K.lookup f_w_total=some ⟨oc_w_total,od_w_total,.func (PySem.W.fnOf "_law_total" "_law_total" (defArgs s_w_total) (defBody s_w_total) (defScope s_w_total) .none kV_w_total dc_w_total pm_w_total an_w_total cd_w_total ct_w_total),sl_w_total⟩) (x_w_total:PySem.W.codeIn K cd_w_total "_law_total"=true) (k_w_total:PySem.W.keepIn K (.ref f_w_total)=true)
    (a_w_op:PySem.W.nsIn K mainGlobals "_law_op"=some (some (.ref f_w_op))) (l_w_op:K.lookup f_w_op=some ⟨oc_w_op,od_w_op,.func (PySem.W.fnOf "_law_op" "_law_op" (defArgs s_w_op) (defBody s_w_op) (defScope s_w_op) .none kV_w_op dc_w_op pm_w_op an_w_op cd_w_op ct_w_op),sl_w_op⟩) (x_w_op:PySem.W.codeIn K cd_w_op "_law_op"=true) (k_w_op:PySem.W.keepIn K (.ref f_w_op)=true)
    (a_w_tree:PySem.W.nsIn K mainGlobals "_law_tree"=some (some (.ref f_w_tree))) (l_w_tree:K.lookup f_w_tree=some ⟨oc_w_tree,od_w_tree,.func (PySem.W.fnOf "_law_tree" "_law_tree" (defArgs s_w_tree) (defBody s_w_tree) (defScope s_w_tree) .none kV_w_tree dc_w_tree pm_w_tree an_w_tree cd_w_tree ct_w_tree),sl_w_tree⟩) (x_w_tree:PySem.W.codeIn K cd_w_tree "_law_tree"=true) (k_w_tree:PySem.W.keepIn K (.ref f_w_tree)=true)
    (a_w_binds:PySem.W.nsIn K mainGlobals "_law_binds"=some (some (.ref f_w_binds))) (l_w_binds:K.lookup f_w_binds=some ⟨oc_w_binds,od_w_binds,.func (PySem.W.fnOf "_law_binds" "_law_binds" (defArgs s_w_binds) (defBody s_w_binds) (defScope s_w_binds) .none kV_w_binds dc_w_binds pm_w_binds an_w_binds cd_w_binds ct_w_binds),sl_w_binds⟩) (x_w_binds:PySem.W.codeIn K cd_w_binds "_law_binds"=true) (k_w_binds:PySem.W.keepIn K (.ref f_w_binds)=true)
    (a_w_shut:PySem.W.nsIn K mainGlobals "_law_shut"=some (some (.ref f_w_shut))) (l_w_shut:K.lookup f_w_shut=some ⟨oc_w_shut,od_w_shut,.func (PySem.W.fnOf "_law_shut" "_law_shut" (defArgs s_w_shut) (defBody s_w_shut) (defScope s_w_shut) .none kV_w_shut dc_w_shut pm_w_shut an_w_shut cd_w_shut ct_w_shut),sl_w_shut⟩) (x_w_shut:PySem.W.codeIn K cd_w_shut "_law_shut"=true) (k_w_shut:PySem.W.keepIn K (.ref f_w_shut)=true)
    (a_w_text:PySem.W.nsIn K mainGlobals "_law_text"=some (some (.ref f_w_text))) (l_w_text:K.lookup f_w_text=some ⟨oc_w_text,od_w_text,.func (PySem.W.fnOf "_law_text" "_law_text" (defArgs s_w_text) (defBody s_w_text) (defScope s_w_text) .none kV_w_text dc_w_text pm_w_text an_w_text cd_w_text ct_w_text),sl_w_text⟩) (x_w_text:PySem.W.codeIn K cd_w_text "_law_text"=true) (k_w_text:PySem.W.keepIn K (.ref f_w_text)=true)
    (a_w_object:PySem.W.nsIn K mainGlobals "_law_object"=some (some (.ref f_w_object))) (l_w_object:K.lookup f_w_object=some ⟨oc_w_object,od_w_object,.func (PySem.W.fnOf "_law_object" "_law_object" (defArgs s_w_object) (defBody s_w_object) (defScope s_w_object) .none kV_w_object dc_w_object pm_w_object an_w_object cd_w_object ct_w_object),sl_w_object⟩) (x_w_object:PySem.W.codeIn K cd_w_object "_law_object"=true) (k_w_object:PySem.W.keepIn K (.ref f_w_object)=true)
    (a_w_wide:PySem.W.nsIn K mainGlobals "_law_wide"=some (some (.ref f_w_wide))) (l_w_wide:K.lookup f_w_wide=some ⟨oc_w_wide,od_w_wide,.func (PySem.W.fnOf "_law_wide" "_law_wide" (defArgs s_w_wide) (defBody s_w_wide) (defScope s_w_wide) .none kV_w_wide dc_w_wide pm_w_wide an_w_wide cd_w_wide ct_w_wide),sl_w_wide⟩) (x_w_wide:PySem.W.codeIn K cd_w_wide "_law_wide"=true) (k_w_wide:PySem.W.keepIn K (.ref f_w_wide)=true)
    (a_w_like:PySem.W.nsIn K mainGlobals "_law_like"=some (some (.ref f_w_like))) (l_w_like:K.lookup f_w_like=some ⟨oc_w_like,od_w_like,.func (PySem.W.fnOf "_law_like" "_law_like" (defArgs s_w_like) (defBody s_w_like) (defScope s_w_like) .none kV_w_like dc_w_like pm_w_like an_w_like cd_w_like ct_w_like),sl_w_like⟩) (x_w_like:PySem.W.codeIn K cd_w_like "_law_like"=true) (k_w_like:PySem.W.keepIn K (.ref f_w_like)=true)
    (a_w_shows:PySem.W.nsIn K mainGlobals "_law_shows"=some (some (.ref f_w_shows))) (l_w_shows:K.lookup f_w_shows=some ⟨oc_w_shows,od_w_shows,.func (PySem.W.fnOf "_law_shows" "_law_shows" (defArgs s_w_shows) (defBody s_w_shows) (defScope s_w_shows) .none kV_w_shows dc_w_shows pm_w_shows an_w_shows cd_w_shows ct_w_shows),sl_w_shows⟩) (x_w_shows:PySem.W.codeIn K cd_w_shows "_law_shows"=true) (k_w_shows:PySem.W.keepIn K (.ref f_w_shows)=true)
    (a_w_mixed:PySem.W.nsIn K mainGlobals "_law_mixed"=some (some (.ref f_w_mixed))) (l_w_mixed:K.lookup f_w_mixed=some ⟨oc_w_mixed,od_w_mixed,.func (PySem.W.fnOf "_law_mixed" "_law_mixed" (defArgs s_w_mixed) (defBody s_w_mixed) (defScope s_w_mixed) .none kV_w_mixed dc_w_mixed pm_w_mixed an_w_mixed cd_w_mixed ct_w_mixed),sl_w_mixed⟩) (x_w_mixed:PySem.W.codeIn K cd_w_mixed "_law_mixed"=true) (k_w_mixed:PySem.W.keepIn K (.ref f_w_mixed)=true)
    (a_law:PySem.W.nsIn K mainGlobals "law"=some (some (.ref f_law))) (l_law:K.lookup f_law=some ⟨oc_law,od_law,.func (PySem.W.fnOf "law" "law" (defArgs s_law) (defBody s_law) (defScope s_law) .none kV_law dc_law pm_law an_law cd_law ct_law),sl_law⟩) (x_law:PySem.W.codeIn K cd_law "law"=true) (k_law:PySem.W.keepIn K (.ref f_law)=true)
    (m_Rule:PySem.W.nsIn K mainGlobals "Rule"=some (some (.ref a_Rule))) (L_Rule:Cls K a_Rule) (K_Rule:Mk0 K a_Rule)
    (m_Nothing:PySem.W.nsIn K mainGlobals "Nothing"=some (some (.ref a_Nothing))) (L_Nothing:Cls K a_Nothing) (K_Nothing:Mk0 K a_Nothing)
    (m_Bead:PySem.W.nsIn K mainGlobals "Bead"=some (some (.ref a_Bead))) (L_Bead:Cls K a_Bead) (N_Bead_colour:NoAttr K a_Bead "colour")
    (m_Or:PySem.W.nsIn K mainGlobals "Or"=some (some (.ref a_Or))) (L_Or:Cls K a_Or) (N_Or_one:NoAttr K a_Or "one") (N_Or_other:NoAttr K a_Or "other")
    (m_By:PySem.W.nsIn K mainGlobals "By"=some (some (.ref a_By))) (L_By:Cls K a_By) (N_By_one:NoAttr K a_By "one") (N_By_other:NoAttr K a_By "other")
    (m_Row:PySem.W.nsIn K mainGlobals "Row"=some (some (.ref a_Row))) (L_Row:Cls K a_Row) (N_Row_part:NoAttr K a_Row "part")
    (m_Bag:PySem.W.nsIn K mainGlobals "Bag"=some (some (.ref a_Bag))) (L_Bag:Cls K a_Bag) (N_Bag_part:NoAttr K a_Bag "part")
    (m_Choice:PySem.W.nsIn K mainGlobals "Choice"=some (some (.ref a_Choice))) (L_Choice:Cls K a_Choice) (N_Choice_part:NoAttr K a_Choice "part")
    (m_Ring:PySem.W.nsIn K mainGlobals "Ring"=some (some (.ref a_Ring))) (L_Ring:Cls K a_Ring) (N_Ring_part:NoAttr K a_Ring "part")
    (m_Named:PySem.W.nsIn K mainGlobals "Named"=some (some (.ref a_Named))) (L_Named:Cls K a_Named) (N_Named_name:NoAttr K a_Named "name")
    (m_Words:PySem.W.nsIn K mainGlobals "Words"=some (some (.ref a_Words))) (L_Words:Cls K a_Words) (N_Words_words:NoAttr K a_Words "words") (N_Words_at:NoAttr K a_Words "at")
    (IT:IsTab K [a_Nothing,a_Bead,a_Named,a_Or,a_By,a_Row,a_Bag,a_Choice,a_Ring] a_Rule)
    (n_all:PySem.W.nsIn K mainGlobals "all"=some none)
    (n_any:PySem.W.nsIn K mainGlobals "any"=some none)
    (n_bool:PySem.W.nsIn K mainGlobals "bool"=some none)
    (n_enumerate:PySem.W.nsIn K mainGlobals "enumerate"=some none)
    (n_int:PySem.W.nsIn K mainGlobals "int"=some none)
    (n_isinstance:PySem.W.nsIn K mainGlobals "isinstance"=some none)
    (n_len:PySem.W.nsIn K mainGlobals "len"=some none)
    (n_list:PySem.W.nsIn K mainGlobals "list"=some none)
    (n_max:PySem.W.nsIn K mainGlobals "max"=some none)
    (n_min:PySem.W.nsIn K mainGlobals "min"=some none)
    (n_range:PySem.W.nsIn K mainGlobals "range"=some none)
    (n_reversed:PySem.W.nsIn K mainGlobals "reversed"=some none)
    (n_sorted:PySem.W.nsIn K mainGlobals "sorted"=some none)
    (n_str:PySem.W.nsIn K mainGlobals "str"=some none)
    (n_sum:PySem.W.nsIn K mainGlobals "sum"=some none)
    (n_tuple:PySem.W.nsIn K mainGlobals "tuple"=some none)
    (n_zip:PySem.W.nsIn K mainGlobals "zip"=some none)
    (c_HOLDERS:PySem.W.nsIn K mainGlobals "HOLDERS"=some (some (.ref a_HOLDERS))) (o_HOLDERS:K.lookup a_HOLDERS=some ⟨oc_HOLDERS,od_HOLDERS,.seq is_HOLDERS sn_HOLDERS,sl_HOLDERS⟩) (t_HOLDERS:(oc_HOLDERS == .type "tuple")=true/\(od_HOLDERS == none)=true) (i_HOLDERS:is_HOLDERS.toList.map absV=[(.str "row":V),(.str "bag":V),(.str "choice":V),(.str "ring":V)].map some)
    (c_KEPT:PySem.W.nsIn K mainGlobals "KEPT"=some (some (.ref a_KEPT))) (o_KEPT:K.lookup a_KEPT=some ⟨oc_KEPT,od_KEPT,.seq is_KEPT sn_KEPT,sl_KEPT⟩) (t_KEPT:(oc_KEPT == .type "tuple")=true/\(od_KEPT == none)=true) (i_KEPT:is_KEPT.toList.map absV=[(.str "nothing":V),(.str "bead":V),(.str "or":V),(.str "by":V),(.str "row":V),(.str "bag":V),(.str "choice":V),(.str "ring":V),(.str "of":V),(.str "left":V),(.str "right":V)].map some)
    (c_LETTERS:PySem.W.nsIn K mainGlobals "LETTERS"=some (some (.str "abcdefghijklmnopqrstuvwxyz" tk_LETTERS)))
    (c_LONGEST:PySem.W.nsIn K mainGlobals "LONGEST"=some (some (.int 8 tk_LONGEST))) :
    ∃ fd:FuncData,(∀ (s:Shared) (v:Value),BindsTo s fd ⟨[v],[]⟩ [("_law_script",v)])/\∀ base:Heap,K.In base->base.Ns mainGlobals mg->FnOk l.prog w K mg base CX0 150 fa fd ["_law_script"] (spOf K aspLaw):=by
  have e:=hfa.symm.trans (PySem.W.mg_of X G a_law)
  cases e
  have F_Nothing_told:=fun_mk (st:=s_Nothing_told) l_Nothing_told x_Nothing_told k_Nothing_told
  have B_Nothing_told:=F_Nothing_told.binds (ps:=["self"]) fun _ _ _ _ _ _=>by refine len1 ?_;intros;rfl
  have F_Bead___init__:=fun_mk (st:=s_Bead___init__) l_Bead___init__ x_Bead___init__ k_Bead___init__
  have B_Bead___init__:=F_Bead___init__.binds (ps:=["self","colour"]) fun _ _ _ _ _ _=>by refine len2 ?_;intros;rfl
  have F_Bead_told:=fun_mk (st:=s_Bead_told) l_Bead_told x_Bead_told k_Bead_told
  have B_Bead_told:=F_Bead_told.binds (ps:=["self"]) fun _ _ _ _ _ _=>by refine len1 ?_;intros;rfl
  have F_Or___init__:=fun_mk (st:=s_Or___init__) l_Or___init__ x_Or___init__ k_Or___init__
  have B_Or___init__:=F_Or___init__.binds (ps:=["self","one","other"]) fun _ _ _ _ _ _=>by refine len3 ?_;intros;rfl
  have F_Or_told:=fun_mk (st:=s_Or_told) l_Or_told x_Or_told k_Or_told
  have B_Or_told:=F_Or_told.binds (ps:=["self"]) fun _ _ _ _ _ _=>by refine len1 ?_;intros;rfl
  have F_By___init__:=fun_mk (st:=s_By___init__) l_By___init__ x_By___init__ k_By___init__
  have B_By___init__:=F_By___init__.binds (ps:=["self","one","other"]) fun _ _ _ _ _ _=>by refine len3 ?_;intros;rfl
  have F_By_told:=fun_mk (st:=s_By_told) l_By_told x_By_told k_By_told
  have B_By_told:=F_By_told.binds (ps:=["self"]) fun _ _ _ _ _ _=>by refine len1 ?_;intros;rfl
  have F_Row___init__:=fun_mk (st:=s_Row___init__) l_Row___init__ x_Row___init__ k_Row___init__
  have B_Row___init__:=F_Row___init__.binds (ps:=["self","part"]) fun _ _ _ _ _ _=>by refine len2 ?_;intros;rfl
  have F_Row_told:=fun_mk (st:=s_Row_told) l_Row_told x_Row_told k_Row_told
  have B_Row_told:=F_Row_told.binds (ps:=["self"]) fun _ _ _ _ _ _=>by refine len1 ?_;intros;rfl
  have F_Bag___init__:=fun_mk (st:=s_Bag___init__) l_Bag___init__ x_Bag___init__ k_Bag___init__
  have B_Bag___init__:=F_Bag___init__.binds (ps:=["self","part"]) fun _ _ _ _ _ _=>by refine len2 ?_;intros;rfl
  have F_Bag_told:=fun_mk (st:=s_Bag_told) l_Bag_told x_Bag_told k_Bag_told
  have B_Bag_told:=F_Bag_told.binds (ps:=["self"]) fun _ _ _ _ _ _=>by refine len1 ?_;intros;rfl
  have F_Choice___init__:=fun_mk (st:=s_Choice___init__) l_Choice___init__ x_Choice___init__ k_Choice___init__
  have B_Choice___init__:=F_Choice___init__.binds (ps:=["self","part"]) fun _ _ _ _ _ _=>by refine len2 ?_;intros;rfl
  have F_Choice_told:=fun_mk (st:=s_Choice_told) l_Choice_told x_Choice_told k_Choice_told
  have B_Choice_told:=F_Choice_told.binds (ps:=["self"]) fun _ _ _ _ _ _=>by refine len1 ?_;intros;rfl
  have F_Ring___init__:=fun_mk (st:=s_Ring___init__) l_Ring___init__ x_Ring___init__ k_Ring___init__
  have B_Ring___init__:=F_Ring___init__.binds (ps:=["self","part"]) fun _ _ _ _ _ _=>by refine len2 ?_;intros;rfl
  have F_Ring_told:=fun_mk (st:=s_Ring_told) l_Ring_told x_Ring_told k_Ring_told
  have B_Ring_told:=F_Ring_told.binds (ps:=["self"]) fun _ _ _ _ _ _=>by refine len1 ?_;intros;rfl
  have F_Named___init__:=fun_mk (st:=s_Named___init__) l_Named___init__ x_Named___init__ k_Named___init__
  have B_Named___init__:=F_Named___init__.binds (ps:=["self","name"]) fun _ _ _ _ _ _=>by refine len2 ?_;intros;rfl
  have F_Named_told:=fun_mk (st:=s_Named_told) l_Named_told x_Named_told k_Named_told
  have B_Named_told:=F_Named_told.binds (ps:=["self"]) fun _ _ _ _ _ _=>by refine len1 ?_;intros;rfl
  have F_term_text:=fun_mk (st:=s_term_text) l_term_text x_term_text k_term_text
  have B_term_text:=F_term_text.binds (ps:=["rule"]) fun _ _ _ _ _ _=>by refine len1 ?_;intros;rfl
  have F_factor_text:=fun_mk (st:=s_factor_text) l_factor_text x_factor_text k_factor_text
  have B_factor_text:=F_factor_text.binds (ps:=["rule"]) fun _ _ _ _ _ _=>by refine len1 ?_;intros;rfl
  have F_is_word:=fun_mk (st:=s_is_word) l_is_word x_is_word k_is_word
  have B_is_word:=F_is_word.binds (ps:=["text"]) fun _ _ _ _ _ _=>by refine len1 ?_;intros;rfl
  have F_Words___init__:=fun_mk (st:=s_Words___init__) l_Words___init__ x_Words___init__ k_Words___init__
  have B_Words___init__:=F_Words___init__.binds (ps:=["self","text"]) fun _ _ _ _ _ _=>by refine len2 ?_;intros;rfl
  have F_Words_ahead:=fun_mk (st:=s_Words_ahead) l_Words_ahead x_Words_ahead k_Words_ahead
  have B_Words_ahead:=F_Words_ahead.binds (ps:=["self"]) fun _ _ _ _ _ _=>by refine len1 ?_;intros;rfl
  have F_Words_passed:=fun_mk (st:=s_Words_passed) l_Words_passed x_Words_passed k_Words_passed
  have B_Words_passed:=F_Words_passed.binds (ps:=["self","word"]) fun _ _ _ _ _ _=>by refine len2 ?_;intros;rfl
  have F_Words_need:=fun_mk (st:=s_Words_need) l_Words_need x_Words_need k_Words_need
  have B_Words_need:=F_Words_need.binds (ps:=["self","word"]) fun _ _ _ _ _ _=>by refine len2 ?_;intros;rfl
  have F_Words_free_word:=fun_mk (st:=s_Words_free_word) l_Words_free_word x_Words_free_word k_Words_free_word
  have B_Words_free_word:=F_Words_free_word.binds (ps:=["self"]) fun _ _ _ _ _ _=>by refine len1 ?_;intros;rfl
  have F_Words_finish:=fun_mk (st:=s_Words_finish) l_Words_finish x_Words_finish k_Words_finish
  have B_Words_finish:=F_Words_finish.binds (ps:=["self"]) fun _ _ _ _ _ _=>by refine len1 ?_;intros;rfl
  have F_read_rule:=fun_mk (st:=s_read_rule) l_read_rule x_read_rule k_read_rule
  have B_read_rule:=F_read_rule.binds (ps:=["text"]) fun _ _ _ _ _ _=>by refine len1 ?_;intros;rfl
  have F_next_rule:=fun_mk (st:=s_next_rule) l_next_rule x_next_rule k_next_rule
  have B_next_rule:=F_next_rule.binds (ps:=["words"]) fun _ _ _ _ _ _=>by refine len1 ?_;intros;rfl
  have F_next_term:=fun_mk (st:=s_next_term) l_next_term x_next_term k_next_term
  have B_next_term:=F_next_term.binds (ps:=["words"]) fun _ _ _ _ _ _=>by refine len1 ?_;intros;rfl
  have F_next_factor:=fun_mk (st:=s_next_factor) l_next_factor x_next_factor k_next_factor
  have B_next_factor:=F_next_factor.binds (ps:=["words"]) fun _ _ _ _ _ _=>by refine len1 ?_;intros;rfl
  have F_next_plain_factor:=fun_mk (st:=s_next_plain_factor) l_next_plain_factor x_next_plain_factor k_next_plain_factor
  have B_next_plain_factor:=F_next_plain_factor.binds (ps:=["words"]) fun _ _ _ _ _ _=>by refine len1 ?_;intros;rfl
  have F_held:=fun_mk (st:=s_held) l_held x_held k_held
  have B_held:=F_held.binds (ps:=["holder","part"]) fun _ _ _ _ _ _=>by refine len2 ?_;intros;rfl
  have F_w_cell:=fun_mk (st:=s_w_cell) l_w_cell x_w_cell k_w_cell
  have B_w_cell:=F_w_cell.binds (ps:=["_law_script","_law_k"]) fun _ _ _ _ _ _=>by refine len2 ?_;intros;rfl
  have F_w_kept:=fun_mk (st:=s_w_kept) l_w_kept x_w_kept k_w_kept
  have B_w_kept:=F_w_kept.binds (ps:=[]) fun _ _ _ _ _ _=>by refine len0 ?_;intros;rfl
  have F_w_word:=fun_mk (st:=s_w_word) l_w_word x_w_word k_w_word
  have B_w_word:=F_w_word.binds (ps:=["_law_cell_here"]) fun _ _ _ _ _ _=>by refine len1 ?_;intros;rfl
  have F_w_total:=fun_mk (st:=s_w_total) l_w_total x_w_total k_w_total
  have B_w_total:=F_w_total.binds (ps:=["_law_stack"]) fun _ _ _ _ _ _=>by refine len1 ?_;intros;rfl
  have F_w_op:=fun_mk (st:=s_w_op) l_w_op x_w_op k_w_op
  have B_w_op:=F_w_op.binds (ps:=["_law_stack","_law_cell_here"]) fun _ _ _ _ _ _=>by refine len2 ?_;intros;rfl
  have F_w_tree:=fun_mk (st:=s_w_tree) l_w_tree x_w_tree k_w_tree
  have B_w_tree:=F_w_tree.binds (ps:=["_law_cells"]) fun _ _ _ _ _ _=>by refine len1 ?_;intros;rfl
  have F_w_binds:=fun_mk (st:=s_w_binds) l_w_binds x_w_binds k_w_binds
  have B_w_binds:=F_w_binds.binds (ps:=["_law_tree_here"]) fun _ _ _ _ _ _=>by refine len1 ?_;intros;rfl
  have F_w_shut:=fun_mk (st:=s_w_shut) l_w_shut x_w_shut k_w_shut
  have B_w_shut:=F_w_shut.binds (ps:=["_law_tree_here","_law_least"]) fun _ _ _ _ _ _=>by refine len2 ?_;intros;rfl
  have F_w_text:=fun_mk (st:=s_w_text) l_w_text x_w_text k_w_text
  have B_w_text:=F_w_text.binds (ps:=["_law_tree_here"]) fun _ _ _ _ _ _=>by refine len1 ?_;intros;rfl
  have F_w_object:=fun_mk (st:=s_w_object) l_w_object x_w_object k_w_object
  have B_w_object:=F_w_object.binds (ps:=["_law_rule"]) fun _ _ _ _ _ _=>by refine len1 ?_;intros;rfl
  have F_w_wide:=fun_mk (st:=s_w_wide) l_w_wide x_w_wide k_w_wide
  have B_w_wide:=F_w_wide.binds (ps:=["_law_tree_here","_law_cells","_law_least"]) fun _ _ _ _ _ _=>by refine len3 ?_;intros;rfl
  have F_w_like:=fun_mk (st:=s_w_like) l_w_like x_w_like k_w_like
  have B_w_like:=F_w_like.binds (ps:=["_law_rule","_law_tree_here"]) fun _ _ _ _ _ _=>by refine len2 ?_;intros;rfl
  have F_w_shows:=fun_mk (st:=s_w_shows) l_w_shows x_w_shows k_w_shows
  have B_w_shows:=F_w_shows.binds (ps:=["_law_rule","_law_text_here"]) fun _ _ _ _ _ _=>by refine len2 ?_;intros;rfl
  have F_w_mixed:=fun_mk (st:=s_w_mixed) l_w_mixed x_w_mixed k_w_mixed
  have B_w_mixed:=F_w_mixed.binds (ps:=["_law_script","_law_few"]) fun _ _ _ _ _ _=>by refine len2 ?_;intros;rfl
  have F_law:=fun_mk (st:=s_law) l_law x_law k_law
  have B_law:=F_law.binds (ps:=["_law_script"]) fun _ _ _ _ _ _=>by refine len1 ?_;intros;rfl
  have T:TX K mg _ _ _ _ _ _ _ _ _ _ _ _ _ _ _ _ _ _ _ _ _ _ _ _ _ _ _ _ _ _ _ _ _ _ _ _ _ _ _ _ _ _ _ _ _ _ _ _ _ _ _ _ _ _ _ _ _ _ _ _ _ _ _ _ _ _ _ _ _ _ _ _ _ _ _ _ _ _ _ _ _ _ _ _ _ _ _ _ _ _ _ _ _ _ _ _ _ _ _ _ _ _ _ _ _ _ _:=⟨F_Nothing_told,B_Nothing_told,W_Nothing_told,F_Bead___init__,B_Bead___init__,K_Bead,F_Bead_told,B_Bead_told,W_Bead_told,F_Or___init__,B_Or___init__,K_Or,F_Or_told,B_Or_told,W_Or_told,F_By___init__,B_By___init__,K_By,F_By_told,B_By_told,W_By_told,F_Row___init__,B_Row___init__,K_Row,F_Row_told,B_Row_told,W_Row_told,F_Bag___init__,B_Bag___init__,K_Bag,F_Bag_told,B_Bag_told,W_Bag_told,F_Choice___init__,B_Choice___init__,K_Choice,F_Choice_told,B_Choice_told,W_Choice_told,F_Ring___init__,B_Ring___init__,K_Ring,F_Ring_told,B_Ring_told,W_Ring_told,F_Named___init__,B_Named___init__,K_Named,F_Named_told,B_Named_told,W_Named_told,F_term_text,B_term_text,PySem.W.mg_of X G a_term_text,F_factor_text,B_factor_text,PySem.W.mg_of X G a_factor_text,F_is_word,B_is_word,PySem.W.mg_of X G a_is_word,F_Words___init__,B_Words___init__,K_Words,F_Words_ahead,B_Words_ahead,W_Words_ahead,F_Words_passed,B_Words_passed,W_Words_passed,F_Words_need,B_Words_need,W_Words_need,F_Words_free_word,B_Words_free_word,W_Words_free_word,F_Words_finish,B_Words_finish,W_Words_finish,F_read_rule,B_read_rule,PySem.W.mg_of X G a_read_rule,F_next_rule,B_next_rule,PySem.W.mg_of X G a_next_rule,F_next_term,B_next_term,PySem.W.mg_of X G a_next_term,F_next_factor,B_next_factor,PySem.W.mg_of X G a_next_factor,F_next_plain_factor,B_next_plain_factor,PySem.W.mg_of X G a_next_plain_factor,F_held,B_held,PySem.W.mg_of X G a_held,F_w_cell,B_w_cell,PySem.W.mg_of X G a_w_cell,F_w_kept,B_w_kept,PySem.W.mg_of X G a_w_kept,F_w_word,B_w_word,PySem.W.mg_of X G a_w_word,F_w_total,B_w_total,PySem.W.mg_of X G a_w_total,F_w_op,B_w_op,PySem.W.mg_of X G a_w_op,F_w_tree,B_w_tree,PySem.W.mg_of X G a_w_tree,F_w_binds,B_w_binds,PySem.W.mg_of X G a_w_binds,F_w_shut,B_w_shut,PySem.W.mg_of X G a_w_shut,F_w_text,B_w_text,PySem.W.mg_of X G a_w_text,F_w_object,B_w_object,PySem.W.mg_of X G a_w_object,F_w_wide,B_w_wide,PySem.W.mg_of X G a_w_wide,F_w_like,B_w_like,PySem.W.mg_of X G a_w_like,F_w_shows,B_w_shows,PySem.W.mg_of X G a_w_shows,F_w_mixed,B_w_mixed,PySem.W.mg_of X G a_w_mixed,F_law,B_law,PySem.W.mg_of X G a_law,PySem.W.mg_of X G m_Rule,L_Rule,K_Rule,PySem.W.mg_of X G m_Nothing,L_Nothing,K_Nothing,PySem.W.mg_of X G m_Bead,L_Bead,N_Bead_colour,PySem.W.mg_of X G m_Or,L_Or,N_Or_one,N_Or_other,PySem.W.mg_of X G m_By,L_By,N_By_one,N_By_other,PySem.W.mg_of X G m_Row,L_Row,N_Row_part,PySem.W.mg_of X G m_Bag,L_Bag,N_Bag_part,PySem.W.mg_of X G m_Choice,L_Choice,N_Choice_part,PySem.W.mg_of X G m_Ring,L_Ring,N_Ring_part,PySem.W.mg_of X G m_Named,L_Named,N_Named_name,PySem.W.mg_of X G m_Words,L_Words,N_Words_words,N_Words_at,IT,PySem.W.mg_none_of X G n_all,PySem.W.mg_none_of X G n_any,PySem.W.mg_none_of X G n_bool,PySem.W.mg_none_of X G n_enumerate,PySem.W.mg_none_of X G n_int,PySem.W.mg_none_of X G n_isinstance,PySem.W.mg_none_of X G n_len,PySem.W.mg_none_of X G n_list,PySem.W.mg_none_of X G n_max,PySem.W.mg_none_of X G n_min,PySem.W.mg_none_of X G n_range,PySem.W.mg_none_of X G n_reversed,PySem.W.mg_none_of X G n_sorted,PySem.W.mg_none_of X G n_str,PySem.W.mg_none_of X G n_sum,PySem.W.mg_none_of X G n_tuple,PySem.W.mg_none_of X G n_zip,⟨_,PySem.W.mg_of X G c_HOLDERS,rfl⟩,sqT_const o_HOLDERS t_HOLDERS i_HOLDERS,ty_const o_HOLDERS t_HOLDERS,⟨_,PySem.W.mg_of X G c_KEPT,rfl⟩,sqT_const o_KEPT t_KEPT i_KEPT,ty_const o_KEPT t_KEPT,⟨_,PySem.W.mg_of X G c_LETTERS,⟨_,rfl⟩⟩,⟨_,PySem.W.mg_of X G c_LONGEST,⟨_,rfl⟩⟩⟩
  exact ⟨_,fun s v=>.of_eq rfl,fun base _ _=>ok_law T⟩
theorem walk {l:PySem.W.OpenLaw} {q:Program} {loose:List Str} {XP:(Str->Option Value)->Heap->Prop} {YP:World->Heap->Prop} {d:DefRec} {K:Params->PySem.W.Frag} (hn:l.most=some 63) (hdf:d.params.defaults=[])
    (hY:∀ (w:World) (h:Heap),YP w h->(K w.params).In h)
    (F : ∀ (w:World) (mg:Str->Option Value) (fa:Addr) (h:Heap),(K w.params).In h->h.Ns mainGlobals mg->mg d.name=some (.ref fa) ->
      ∃ fd:FuncData,(∀ (s:Shared) (u:Value),BindsTo s fd ⟨[u],[]⟩ [("_law_script",u)])/\∀ base:Heap,(K w.params).In base->base.Ns mainGlobals mg->FnOk l.prog w (K w.params) mg base CX0 150 fa fd ["_law_script"] (spOf (K w.params) aspLaw)) :
    PySem.W.WalkO q loose XP YP l.row.toRowW d [] (fun f vs=>PySem.call f vs) :=
  L2.walk_of (n:=63) (k:=150) (x:="_law_script") (CX:=fun _=>CX0) (sp:=fun w=>spOf (K w.params) aspLaw) hn (by decide) hdf ⟨rfl,by decide,by decide⟩ hY F (fun _ _ a ns hl hO hS=>law_in hl hO hS) fun _ _ _ _ _ z=>z
theorem pr0:(("a":String) == "a" && Nat.beq [PySem.W.boot_o_0].length 1)=true:=by k_qdec
noncomputable def hq:Program:=PySem.W.view PySem.Challenge.pw_figurebook_k02_whole_rules_shown_and_rea [45]
noncomputable def hloose:List Str:=(["_wall","FigureError","NoText","Rule","Nothing","Bead","Or","By","Row","Bag","Choice","Ring","Named","term_text","factor_text","LETTERS","LONGEST","KEPT","HOLDERS","is_word","Words","read_rule","next_rule","next_term","next_factor"]:List Str)++(["next_plain_factor","held","_law_cell","_law_kept","_law_word","_law_total","_law_op","_law_tree","_law_binds","_law_shut","_law_text","_law_object","_law_wide","_law_like","_law_shows","_law_mixed"]:List Str)
noncomputable def hKl (P:Params):List (Addr × Obj):=[(2,(Obj.mk .none none (.dict #[] 0) #[])),
  (3,hNs 51 [hEnt P "__name__" 165 (.str "law_figurebook_k02_whole_rules_shown_and_rea" 769),hEnt P "__doc__" 166 .none,hEnt P "__package__" 167 .none,hEnt P "__loader__" 168 (.builtin "__main__.__loader__#opaque"),hEnt P "__spec__" 169 .none,hEnt P "__annotations__" 170 (.ref 6),hEnt P "__builtins__" 171 (.ref 4),hEnt P "__file__" 173 (.str "/claim/cut.py" 172),hEnt P "__cached__" 174 .none,hEnt P "_wall" 193 (.ref 21),hEnt P "FigureError" 213 (.ref 31),hEnt P "NoText" 238 (.ref 51),hEnt P "Rule" 274 (.ref 77),hEnt P "Nothing" 297 (.ref 98),hEnt P "Bead" 329 (.ref 124),hEnt P "Or" 370 (.ref 157),hEnt P "By" 411 (.ref 190),hEnt P "Row" 450 (.ref 223),hEnt P "Bag" 489 (.ref 256),hEnt P "Choice" 528 (.ref 289),hEnt P "Ring" 567 (.ref 322),hEnt P "Named" 606 (.ref 355),hEnt P "term_text" 613 (.ref 364),hEnt P "factor_text" 620 (.ref 371),hEnt P "LETTERS" 624 (.str "abcdefghijklmnopqrstuvwxyz" 623),hEnt P "LONGEST" 626 (.int 8 625),hEnt P "KEPT" 638 (.ref 372),hEnt P "HOLDERS" 643 (.ref 373),hEnt P "is_word" 649 (.ref 378),hEnt P "Words" 717 (.ref 430),hEnt P "read_rule" 726 (.ref 441),hEnt P "next_rule" 734 (.ref 448),hEnt P "next_term" 742 (.ref 455),hEnt P "next_factor" 752 (.ref 462),hEnt P "next_plain_factor" 760 (.ref 469),hEnt P "held" 768 (.ref 476),hEnt P "_law_cell" 778 (.ref 483),hEnt P "_law_kept" 784 (.ref 490),hEnt P "_law_word" 794 (.ref 497),hEnt P "_law_total" 800 (.ref 502),hEnt P "_law_op" 814 (.ref 509),hEnt P "_law_tree" 828 (.ref 516),hEnt P "_law_binds" 835 (.ref 523),hEnt P "_law_shut" 843 (.ref 530),hEnt P "_law_text" 850 (.ref 537),hEnt P "_law_object" 858 (.ref 544),hEnt P "_law_wide" 869 (.ref 551),hEnt P "_law_like" 875 (.ref 556),hEnt P "_law_shows" 884 (.ref 563),hEnt P "_law_mixed" 897 (.ref 570),hEnt P "law" 910 (.ref 577)]),
  (30,hNs 3 [hEnt P "__module__" 203 (.str "figurebook.errors" 194),hEnt P "__firstlineno__" 207 (.int 5 206),hEnt P "__static_attributes__" 208 (.ref 29),hEnt P "__weakref__" 210 (.ref 32),hEnt P "__doc__" 211 .none]),
  (31,Obj.mk (.type "type") none (.cls (ClassData.mk "FigureError" [(.type "ValueError")] [(.ref 31),(.type "ValueError"),(.type "Exception"),(.type "BaseException"),(.type "object")] 30 "FigureError" true [] [(.ref 51)] false none false)) #[(some (.ref 22)),none,(some (.str "FigureError" 196)),(some (.str "FigureError" 204)),(some (.builtin "ValueError.__new__")),(some (.bool true))]),
  (47,hCode "__init__" "NoText.__init__" 226 9 2 3 42 43 (some 44) (some 45) 46 231 232),
  (48,hFun s_NoText___init__ "__init__" "NoText.__init__" (.str "figurebook.errors" 194) 47),
  (50,hNs 2 [hEnt P "__module__" 221 (.str "figurebook.errors" 194),hEnt P "__firstlineno__" 225 (.int 7 224),hEnt P "__init__" 233 (.ref 48),hEnt P "__static_attributes__" 235 (.ref 49),hEnt P "__doc__" 236 .none]),
  (51,Obj.mk (.type "type") none (.cls (ClassData.mk "NoText" [(.ref 31)] [(.ref 51),(.ref 31),(.type "ValueError"),(.type "Exception"),(.type "BaseException"),(.type "object")] 50 "NoText" true [] [] false none false)) #[(some (.ref 35)),none,(some (.str "NoText" 214)),(some (.str "NoText" 222)),(some (.builtin "ValueError.__new__")),(some (.bool true))]),
  (76,hNs 4 [hEnt P "__module__" 248 (.str "figurebook.rules" 239),hEnt P "__firstlineno__" 252 (.int 13 251),hEnt P "inside" 259 (.ref 67),hEnt P "names" 266 (.ref 74),hEnt P "__static_attributes__" 267 (.ref 75),hEnt P "__dict__" 269 (.ref 78),hEnt P "__weakref__" 271 (.ref 79),hEnt P "__doc__" 272 .none]),
  (77,Obj.mk (.type "type") none (.cls (ClassData.mk "Rule" [(.type "object")] [(.ref 77),(.type "object")] 76 "Rule" true [] [(.ref 98),(.ref 124),(.ref 157),(.ref 190),(.ref 223),(.ref 256),(.ref 289),(.ref 322),(.ref 355)] false none false)) #[none,none,(some (.str "Rule" 241)),(some (.str "Rule" 249)),(some (.builtin "object.__new__")),(some (.bool true))]),
  (94,hCode "told" "Nothing.told" 287 22 1 3 89 90 (some 91) (some 92) 93 291 292),
  (95,hFun s_Nothing_told "told" "Nothing.told" (.str "figurebook.rules" 239) 94),
  (97,hNs 2 [hEnt P "__module__" 282 (.str "figurebook.rules" 239),hEnt P "__firstlineno__" 286 (.int 20 285),hEnt P "told" 293 (.ref 95),hEnt P "__static_attributes__" 294 (.ref 96),hEnt P "__doc__" 295 .none]),
  (98,Obj.mk (.type "type") none (.cls (ClassData.mk "Nothing" [(.ref 77)] [(.ref 98),(.ref 77),(.type "object")] 97 "Nothing" true [] [] false none false)) #[(some (.ref 82)),none,(some (.str "Nothing" 275)),(some (.str "Nothing" 283)),(some (.builtin "object.__new__")),(some (.bool true))]),
  (113,hCode "__init__" "Bead.__init__" 310 26 2 3 108 109 (some 110) (some 111) 112 315 316),
  (114,hFun s_Bead___init__ "__init__" "Bead.__init__" (.str "figurebook.rules" 239) 113),
  (120,hCode "told" "Bead.told" 318 29 1 3 115 116 (some 117) (some 118) 119 322 323),
  (121,hFun s_Bead_told "told" "Bead.told" (.str "figurebook.rules" 239) 120),
  (123,hNs 2 [hEnt P "__module__" 305 (.str "figurebook.rules" 239),hEnt P "__firstlineno__" 309 (.int 24 308),hEnt P "__init__" 317 (.ref 114),hEnt P "told" 324 (.ref 121),hEnt P "__static_attributes__" 326 (.ref 122),hEnt P "__doc__" 327 .none]),
  (124,Obj.mk (.type "type") none (.cls (ClassData.mk "Bead" [(.ref 77)] [(.ref 124),(.ref 77),(.type "object")] 123 "Bead" true [] [] false none false)) #[(some (.ref 101)),none,(some (.str "Bead" 298)),(some (.str "Bead" 306)),(some (.builtin "object.__new__")),(some (.bool true))]),
  (139,hCode "__init__" "Or.__init__" 342 33 3 3 134 135 (some 136) (some 137) 138 348 349),
  (140,hFun s_Or___init__ "__init__" "Or.__init__" (.str "figurebook.rules" 239) 139),
  (153,hCode "told" "Or.told" 358 40 1 3 148 149 (some 150) (some 151) 152 362 363),
  (154,hFun s_Or_told "told" "Or.told" (.str "figurebook.rules" 239) 153),
  (156,hNs 2 [hEnt P "__module__" 337 (.str "figurebook.rules" 239),hEnt P "__firstlineno__" 341 (.int 31 340),hEnt P "__init__" 350 (.ref 140),hEnt P "inside" 357 (.ref 147),hEnt P "told" 364 (.ref 154),hEnt P "__static_attributes__" 367 (.ref 155),hEnt P "__doc__" 368 .none]),
  (157,Obj.mk (.type "type") none (.cls (ClassData.mk "Or" [(.ref 77)] [(.ref 157),(.ref 77),(.type "object")] 156 "Or" true [] [] false none false)) #[(some (.ref 127)),none,(some (.str "Or" 330)),(some (.str "Or" 338)),(some (.builtin "object.__new__")),(some (.bool true))]),
  (172,hCode "__init__" "By.__init__" 383 44 3 3 167 168 (some 169) (some 170) 171 389 390),
  (173,hFun s_By___init__ "__init__" "By.__init__" (.str "figurebook.rules" 239) 172),
  (186,hCode "told" "By.told" 399 51 1 3 181 182 (some 183) (some 184) 185 403 404),
  (187,hFun s_By_told "told" "By.told" (.str "figurebook.rules" 239) 186),
  (189,hNs 2 [hEnt P "__module__" 378 (.str "figurebook.rules" 239),hEnt P "__firstlineno__" 382 (.int 42 381),hEnt P "__init__" 391 (.ref 173),hEnt P "inside" 398 (.ref 180),hEnt P "told" 405 (.ref 187),hEnt P "__static_attributes__" 408 (.ref 188),hEnt P "__doc__" 409 .none]),
  (190,Obj.mk (.type "type") none (.cls (ClassData.mk "By" [(.ref 77)] [(.ref 190),(.ref 77),(.type "object")] 189 "By" true [] [] false none false)) #[(some (.ref 160)),none,(some (.str "By" 371)),(some (.str "By" 379)),(some (.builtin "object.__new__")),(some (.bool true))]),
  (205,hCode "__init__" "Row.__init__" 424 55 2 3 200 201 (some 202) (some 203) 204 429 430),
  (206,hFun s_Row___init__ "__init__" "Row.__init__" (.str "figurebook.rules" 239) 205),
  (219,hCode "told" "Row.told" 439 61 1 3 214 215 (some 216) (some 217) 218 443 444),
  (220,hFun s_Row_told "told" "Row.told" (.str "figurebook.rules" 239) 219),
  (222,hNs 2 [hEnt P "__module__" 419 (.str "figurebook.rules" 239),hEnt P "__firstlineno__" 423 (.int 53 422),hEnt P "__init__" 431 (.ref 206),hEnt P "inside" 438 (.ref 213),hEnt P "told" 445 (.ref 220),hEnt P "__static_attributes__" 447 (.ref 221),hEnt P "__doc__" 448 .none]),
  (223,Obj.mk (.type "type") none (.cls (ClassData.mk "Row" [(.ref 77)] [(.ref 223),(.ref 77),(.type "object")] 222 "Row" true [] [] false none false)) #[(some (.ref 193)),none,(some (.str "Row" 412)),(some (.str "Row" 420)),(some (.builtin "object.__new__")),(some (.bool true))]),
  (238,hCode "__init__" "Bag.__init__" 463 65 2 3 233 234 (some 235) (some 236) 237 468 469),
  (239,hFun s_Bag___init__ "__init__" "Bag.__init__" (.str "figurebook.rules" 239) 238),
  (252,hCode "told" "Bag.told" 478 71 1 3 247 248 (some 249) (some 250) 251 482 483),
  (253,hFun s_Bag_told "told" "Bag.told" (.str "figurebook.rules" 239) 252),
  (255,hNs 2 [hEnt P "__module__" 458 (.str "figurebook.rules" 239),hEnt P "__firstlineno__" 462 (.int 63 461),hEnt P "__init__" 470 (.ref 239),hEnt P "inside" 477 (.ref 246),hEnt P "told" 484 (.ref 253),hEnt P "__static_attributes__" 486 (.ref 254),hEnt P "__doc__" 487 .none]),
  (256,Obj.mk (.type "type") none (.cls (ClassData.mk "Bag" [(.ref 77)] [(.ref 256),(.ref 77),(.type "object")] 255 "Bag" true [] [] false none false)) #[(some (.ref 226)),none,(some (.str "Bag" 451)),(some (.str "Bag" 459)),(some (.builtin "object.__new__")),(some (.bool true))]),
  (271,hCode "__init__" "Choice.__init__" 502 75 2 3 266 267 (some 268) (some 269) 270 507 508),
  (272,hFun s_Choice___init__ "__init__" "Choice.__init__" (.str "figurebook.rules" 239) 271),
  (285,hCode "told" "Choice.told" 517 81 1 3 280 281 (some 282) (some 283) 284 521 522),
  (286,hFun s_Choice_told "told" "Choice.told" (.str "figurebook.rules" 239) 285),
  (288,hNs 2 [hEnt P "__module__" 497 (.str "figurebook.rules" 239),hEnt P "__firstlineno__" 501 (.int 73 500),hEnt P "__init__" 509 (.ref 272),hEnt P "inside" 516 (.ref 279),hEnt P "told" 523 (.ref 286),hEnt P "__static_attributes__" 525 (.ref 287),hEnt P "__doc__" 526 .none]),
  (289,Obj.mk (.type "type") none (.cls (ClassData.mk "Choice" [(.ref 77)] [(.ref 289),(.ref 77),(.type "object")] 288 "Choice" true [] [] false none false)) #[(some (.ref 259)),none,(some (.str "Choice" 490)),(some (.str "Choice" 498)),(some (.builtin "object.__new__")),(some (.bool true))]),
  (304,hCode "__init__" "Ring.__init__" 541 85 2 3 299 300 (some 301) (some 302) 303 546 547),
  (305,hFun s_Ring___init__ "__init__" "Ring.__init__" (.str "figurebook.rules" 239) 304),
  (318,hCode "told" "Ring.told" 556 91 1 3 313 314 (some 315) (some 316) 317 560 561),
  (319,hFun s_Ring_told "told" "Ring.told" (.str "figurebook.rules" 239) 318),
  (321,hNs 2 [hEnt P "__module__" 536 (.str "figurebook.rules" 239),hEnt P "__firstlineno__" 540 (.int 83 539),hEnt P "__init__" 548 (.ref 305),hEnt P "inside" 555 (.ref 312),hEnt P "told" 562 (.ref 319),hEnt P "__static_attributes__" 564 (.ref 320),hEnt P "__doc__" 565 .none]),
  (322,Obj.mk (.type "type") none (.cls (ClassData.mk "Ring" [(.ref 77)] [(.ref 322),(.ref 77),(.type "object")] 321 "Ring" true [] [] false none false)) #[(some (.ref 292)),none,(some (.str "Ring" 529)),(some (.str "Ring" 537)),(some (.builtin "object.__new__")),(some (.bool true))]),
  (337,hCode "__init__" "Named.__init__" 580 95 2 3 332 333 (some 334) (some 335) 336 585 586),
  (338,hFun s_Named___init__ "__init__" "Named.__init__" (.str "figurebook.rules" 239) 337),
  (351,hCode "told" "Named.told" 595 101 1 3 346 347 (some 348) (some 349) 350 599 600),
  (352,hFun s_Named_told "told" "Named.told" (.str "figurebook.rules" 239) 351),
  (354,hNs 2 [hEnt P "__module__" 575 (.str "figurebook.rules" 239),hEnt P "__firstlineno__" 579 (.int 93 578),hEnt P "__init__" 587 (.ref 338),hEnt P "names" 594 (.ref 345),hEnt P "told" 601 (.ref 352),hEnt P "__static_attributes__" 603 (.ref 353),hEnt P "__doc__" 604 .none]),
  (355,Obj.mk (.type "type") none (.cls (ClassData.mk "Named" [(.ref 77)] [(.ref 355),(.ref 77),(.type "object")] 354 "Named" true [] [] false none false)) #[(some (.ref 325)),none,(some (.str "Named" 568)),(some (.str "Named" 576)),(some (.builtin "object.__new__")),(some (.bool true))]),
  (363,hCode "term_text" "term_text" 607 103 1 3 358 359 (some 360) (some 361) 362 611 612),
  (364,hFun s_term_text "term_text" "term_text" (.str "figurebook.rules" 239) 363),
  (370,hCode "factor_text" "factor_text" 614 107 1 3 365 366 (some 367) (some 368) 369 618 619),
  (371,hFun s_factor_text "factor_text" "factor_text" (.str "figurebook.rules" 239) 370),
  (372,hTup [(.str "nothing" 627),(.str "bead" 628),(.str "or" 629),(.str "by" 630),(.str "row" 631),(.str "bag" 632),(.str "choice" 633),(.str "ring" 634),(.str "of" 635),(.str "left" 636),(.str "right" 637)]),
  (373,hTup [(.str "row" 639),(.str "bag" 640),(.str "choice" 641),(.str "ring" 642)]),
  (377,hCode "is_word" "is_word" 644 116 1 3 374 375 none none 376 647 648),
  (378,hFun s_is_word "is_word" "is_word" (.str "figurebook.reading" 621) 377),
  (391,hCode "__init__" "Words.__init__" 662 122 2 3 386 387 (some 388) (some 389) 390 667 668),
  (392,hFun s_Words___init__ "__init__" "Words.__init__" (.str "figurebook.reading" 621) 391),
  (398,hCode "ahead" "Words.ahead" 670 126 1 3 393 394 (some 395) (some 396) 397 674 675),
  (399,hFun s_Words_ahead "ahead" "Words.ahead" (.str "figurebook.reading" 621) 398),
  (405,hCode "passed" "Words.passed" 677 131 2 3 400 401 (some 402) (some 403) 404 682 683),
  (406,hFun s_Words_passed "passed" "Words.passed" (.str "figurebook.reading" 621) 405),
  (412,hCode "need" "Words.need" 685 137 2 3 407 408 (some 409) (some 410) 411 690 691),
  (413,hFun s_Words_need "need" "Words.need" (.str "figurebook.reading" 621) 412),
  (419,hCode "free_word" "Words.free_word" 693 141 1 3 414 415 (some 416) (some 417) 418 698 699),
  (420,hFun s_Words_free_word "free_word" "Words.free_word" (.str "figurebook.reading" 621) 419),
  (426,hCode "finish" "Words.finish" 701 148 1 3 421 422 (some 423) (some 424) 425 705 706),
  (427,hFun s_Words_finish "finish" "Words.finish" (.str "figurebook.reading" 621) 426),
  (429,hNs 4 [hEnt P "__module__" 657 (.str "figurebook.reading" 621),hEnt P "__firstlineno__" 661 (.int 120 660),hEnt P "__init__" 669 (.ref 392),hEnt P "ahead" 676 (.ref 399),hEnt P "passed" 684 (.ref 406),hEnt P "need" 692 (.ref 413),hEnt P "free_word" 700 (.ref 420),hEnt P "finish" 707 (.ref 427),hEnt P "__static_attributes__" 710 (.ref 428),hEnt P "__dict__" 712 (.ref 431),hEnt P "__weakref__" 714 (.ref 432),hEnt P "__doc__" 715 .none]),
  (430,Obj.mk (.type "type") none (.cls (ClassData.mk "Words" [(.type "object")] [(.ref 430),(.type "object")] 429 "Words" true [] [] false none false)) #[none,none,(some (.str "Words" 650)),(some (.str "Words" 658)),(some (.builtin "object.__new__")),(some (.bool true))]),
  (440,hCode "read_rule" "read_rule" 718 151 1 3 435 436 (some 437) (some 438) 439 724 725),
  (441,hFun s_read_rule "read_rule" "read_rule" (.str "figurebook.reading" 621) 440),
  (447,hCode "next_rule" "next_rule" 727 156 1 3 442 443 (some 444) (some 445) 446 732 733),
  (448,hFun s_next_rule "next_rule" "next_rule" (.str "figurebook.reading" 621) 447),
  (454,hCode "next_term" "next_term" 735 161 1 3 449 450 (some 451) (some 452) 453 740 741),
  (455,hFun s_next_term "next_term" "next_term" (.str "figurebook.reading" 621) 454),
  (461,hCode "next_factor" "next_factor" 743 166 1 3 456 457 (some 458) (some 459) 460 750 751),
  (462,hFun s_next_factor "next_factor" "next_factor" (.str "figurebook.reading" 621) 461),
  (468,hCode "next_plain_factor" "next_plain_factor" 753 177 1 3 463 464 (some 465) (some 466) 467 758 759),
  (469,hFun s_next_plain_factor "next_plain_factor" "next_plain_factor" (.str "figurebook.reading" 621) 468),
  (475,hCode "held" "held" 761 187 2 3 470 471 (some 472) (some 473) 474 766 767),
  (476,hFun s_held "held" "held" (.str "figurebook.reading" 621) 475),
  (482,hCode "_law_cell" "_law_cell" 771 196 2 3 477 478 (some 479) (some 480) 481 776 777),
  (483,hFun s_w_cell "_law_cell" "_law_cell" (.str "law_figurebook_k02_whole_rules_shown_and_rea" 769) 482),
  (489,hCode "_law_kept" "_law_kept" 779 200 0 3 484 485 (some 486) (some 487) 488 782 783),
  (490,hFun s_w_kept "_law_kept" "_law_kept" (.str "law_figurebook_k02_whole_rules_shown_and_rea" 769) 489),
  (496,hCode "_law_word" "_law_word" 785 202 1 3 491 492 (some 493) (some 494) 495 792 793),
  (497,hFun s_w_word "_law_word" "_law_word" (.str "law_figurebook_k02_whole_rules_shown_and_rea" 769) 496),
  (501,hCode "_law_total" "_law_total" 795 211 1 3 498 499 none none 500 798 799),
  (502,hFun s_w_total "_law_total" "_law_total" (.str "law_figurebook_k02_whole_rules_shown_and_rea" 769) 501),
  (508,hCode "_law_op" "_law_op" 801 213 2 3 503 504 (some 505) (some 506) 507 812 813),
  (509,hFun s_w_op "_law_op" "_law_op" (.str "law_figurebook_k02_whole_rules_shown_and_rea" 769) 508),
  (515,hCode "_law_tree" "_law_tree" 815 230 1 3 510 511 (some 512) (some 513) 514 826 827),
  (516,hFun s_w_tree "_law_tree" "_law_tree" (.str "law_figurebook_k02_whole_rules_shown_and_rea" 769) 515),
  (522,hCode "_law_binds" "_law_binds" 829 243 1 3 517 518 (some 519) (some 520) 521 833 834),
  (523,hFun s_w_binds "_law_binds" "_law_binds" (.str "law_figurebook_k02_whole_rules_shown_and_rea" 769) 522),
  (529,hCode "_law_shut" "_law_shut" 836 247 2 3 524 525 (some 526) (some 527) 528 841 842),
  (530,hFun s_w_shut "_law_shut" "_law_shut" (.str "law_figurebook_k02_whole_rules_shown_and_rea" 769) 529),
  (536,hCode "_law_text" "_law_text" 844 251 1 3 531 532 (some 533) (some 534) 535 848 849),
  (537,hFun s_w_text "_law_text" "_law_text" (.str "law_figurebook_k02_whole_rules_shown_and_rea" 769) 536),
  (543,hCode "_law_object" "_law_object" 851 263 1 3 538 539 (some 540) (some 541) 542 856 857),
  (544,hFun s_w_object "_law_object" "_law_object" (.str "law_figurebook_k02_whole_rules_shown_and_rea" 769) 543),
  (550,hCode "_law_wide" "_law_wide" 859 282 3 3 545 546 (some 547) (some 548) 549 867 868),
  (551,hFun s_w_wide "_law_wide" "_law_wide" (.str "law_figurebook_k02_whole_rules_shown_and_rea" 769) 550),
  (555,hCode "_law_like" "_law_like" 870 297 2 3 552 553 none none 554 873 874),
  (556,hFun s_w_like "_law_like" "_law_like" (.str "law_figurebook_k02_whole_rules_shown_and_rea" 769) 555),
  (562,hCode "_law_shows" "_law_shows" 876 313 2 3 557 558 (some 559) (some 560) 561 882 883),
  (563,hFun s_w_shows "_law_shows" "_law_shows" (.str "law_figurebook_k02_whole_rules_shown_and_rea" 769) 562),
  (569,hCode "_law_mixed" "_law_mixed" 885 316 2 3 564 565 (some 566) (some 567) 568 895 896),
  (570,hFun s_w_mixed "_law_mixed" "_law_mixed" (.str "law_figurebook_k02_whole_rules_shown_and_rea" 769) 569),
  (576,hCode "law" "law" 898 327 1 3 571 572 (some 573) (some 574) 575 908 909),
  (577,hFun s_law "law" "law" (.str "law_figurebook_k02_whole_rules_shown_and_rea" 769) 576)]
noncomputable def hK (P:Params):PySem.W.Frag:=hKl P
noncomputable def hAs:List Addr:=[2,3,30,31,47,48,50,51,76,77,94,95,97,98,113,114,120,121,123,124,139,140,153,154,156,157,172,173,186,187,189,190,205,206,219,220,222,223,238,239,252,253,255,256,271,272,285,286,288,289,304,305,318,319,321,322,337,338,351,352,354,355,363,364,370,371,372,373,377,378,391,392,398,399,405,406,412,413,419,420,426,427,429,430,440,441,447,448,454,455,461,462,468,469,475,476,482,483,489,490,496,497,501,502,508,509,515,516,522,523,529,530,536,537,543,544,550,551,555,556,562,563,569,570,576,577]
noncomputable def hTs:List Addr:=[]
noncomputable abbrev hH:PySem.W.Hook:=PySem.W.kmHook hK hAs (fun _=>rfl) hTs
noncomputable abbrev hXt:Shared->Bool:=fun s=>PySem.W.xlAt hq [] s && PySem.W.recOk (PySem.W.RowW.records (PySem.W.OpenRow.toRowW (PySem.W.OpenLaw.row PySem.Challenge.rw_figurebook_k02_whole_rules_shown_and_rea))) s
noncomputable def hL (w:World) (os:OsState):=headT PySem.Challenge.pw_figurebook_k02_whole_rules_shown_and_rea w os 11 (some (.ref 6)) 40000 (fun s=>(PySem.W.staticsOk (importedModules PySem.Challenge.pw_figurebook_k02_whole_rules_shown_and_rea.main.body) (PySem.W.boot_heap w.params) s.heap && PySem.W.namesBound PySem.Challenge.pw_figurebook_k02_whole_rules_shown_and_rea s.heap && PySem.W.gensDone s && PySem.W.laidKept (PySem.W.boot_heap w.params) s.heap,PySem.W.openSeen hq hloose (importedModules PySem.Challenge.pw_figurebook_k02_whole_rules_shown_and_rea.main.body) hXt true s,(hAs.map s.heap.get?,hTs.map s.heap.get?)))
noncomputable def hR (w:World) (_:OsState):=some (true,PySem.W.openGood hq hloose,((hKl w.params).map fun p=>some p.2,hTs.map fun _=>some (PySem.W.tabObj #[])))
lay_quick My.hL My.hR L2.hBoot
theorem h_run (w:World) (os:OsState):hL w os=hR w os:=(congrFun (congrFun PySem.W.Fast.te13887445390003487561 w) os).trans (Eq.trans (by kernel_rfl) (congrFun (congrFun PySem.W.Fast.te6075038599416009561 w) os).symm)
theorem h_boot (w:World):hBoot w=(true,11,some (.ref 6)):=(congrFun PySem.W.Fast.te16037136179764453472 w).trans (by kernel_rfl)
theorem h_left:PySem.W.LeftO PySem.Challenge.pw_figurebook_k02_whole_rules_shown_and_rea hq hloose hXt (PySem.W.Hook.obs hH) (PySem.W.Hook.val hH) 40000:=left_whole (by rfl) (by decide) (fun s=>rfl) h_boot h_run
end My
open PySem PySem.W PyProof.Rows
set_option maxRecDepth 100000 in
set_option maxHeartbeats 0 in
theorem PySem.Challenge.cw_figurebook_k02_whole_rules_shown_and_rea_holds : PySem.Challenge.rw_figurebook_k02_whole_rules_shown_and_rea.Holds := by
  w_on;o_law
  refine holds_open (q:=My.hq) (loose:=My.hloose) (Xt:=My.hXt) (XP:=XL My.hq []) (Yf:=Hook.obs My.hH) (Ya:=Hook.val My.hH) (YP:=Hook.says My.hH) (N:=40000) My.h_left (Hook.of My.hH) (Hook.keeps My.hH) (fun s e=>xl_of s (Bool.and_eq_true_iff.mp e).1) XL.keeps (by rfl) (by rfl) (by rfl) (fun s e=>recFacts_of (Bool.and_eq_true_iff.mp e).2) (by rfl) (by first | assumption | decide +kernel) (by decide +kernel) ⟨rfl,rfl,rfl,rfl,rfl,by decide +kernel⟩ ?hw ?hc
  case hw=>w_witness2
  k_fill
  refine My.walk (l:=PySem.Challenge.rw_figurebook_k02_whole_rules_shown_and_rea) rfl rfl (fun w h Y=>PySem.W.km_in_of Y) ?F
  case F =>
    intro w mg fa h KX G hmg
    refine' My.all_mk KX G hmg ?l_Nothing_told ?x_Nothing_told ?k_Nothing_told ?W_Nothing_told ?l_Bead___init__ ?x_Bead___init__ ?k_Bead___init__ ?K_Bead ?l_Bead_told ?x_Bead_told ?k_Bead_told ?W_Bead_told ?l_Or___init__ ?x_Or___init__ ?k_Or___init__ ?K_Or ?l_Or_told ?x_Or_told ?k_Or_told ?W_Or_told ?l_By___init__ ?x_By___init__ ?k_By___init__ ?K_By ?l_By_told ?x_By_told ?k_By_told ?W_By_told ?l_Row___init__ ?x_Row___init__ ?k_Row___init__ ?K_Row ?l_Row_told ?x_Row_told ?k_Row_told ?W_Row_told ?l_Bag___init__ ?x_Bag___init__ ?k_Bag___init__ ?K_Bag ?l_Bag_told ?x_Bag_told ?k_Bag_told ?W_Bag_told ?l_Choice___init__ ?x_Choice___init__ ?k_Choice___init__ ?K_Choice ?l_Choice_told ?x_Choice_told ?k_Choice_told ?W_Choice_told ?l_Ring___init__ ?x_Ring___init__ ?k_Ring___init__ ?K_Ring ?l_Ring_told ?x_Ring_told ?k_Ring_told ?W_Ring_told ?l_Named___init__ ?x_Named___init__ ?k_Named___init__ ?K_Named ?l_Named_told ?x_Named_told ?k_Named_told ?W_Named_told ?a_term_text ?l_term_text ?x_term_text ?k_term_text ?a_factor_text ?l_factor_text ?x_factor_text ?k_factor_text ?a_is_word ?l_is_word ?x_is_word ?k_is_word ?l_Words___init__ ?x_Words___init__ ?k_Words___init__ ?K_Words ?l_Words_ahead ?x_Words_ahead ?k_Words_ahead ?W_Words_ahead ?l_Words_passed ?x_Words_passed ?k_Words_passed ?W_Words_passed ?l_Words_need ?x_Words_need ?k_Words_need ?W_Words_need ?l_Words_free_word ?x_Words_free_word ?k_Words_free_word ?W_Words_free_word ?l_Words_finish ?x_Words_finish ?k_Words_finish ?W_Words_finish ?a_read_rule ?l_read_rule ?x_read_rule ?k_read_rule ?a_next_rule ?l_next_rule ?x_next_rule ?k_next_rule ?a_next_term ?l_next_term ?x_next_term ?k_next_term ?a_next_factor ?l_next_factor ?x_next_factor ?k_next_factor ?a_next_plain_factor ?l_next_plain_factor ?x_next_plain_factor ?k_next_plain_factor ?a_held ?l_held ?x_held ?k_held ?a_w_cell ?l_w_cell ?x_w_cell ?k_w_cell ?a_w_kept ?l_w_kept ?x_w_kept ?k_w_kept ?a_w_word ?l_w_word ?x_w_word ?k_w_word ?a_w_total ?l_w_total ?x_w_total ?k_w_total ?a_w_op ?l_w_op ?x_w_op ?k_w_op ?a_w_tree ?l_w_tree ?x_w_tree ?k_w_tree ?a_w_binds ?l_w_binds ?x_w_binds ?k_w_binds ?a_w_shut ?l_w_shut ?x_w_shut ?k_w_shut ?a_w_text ?l_w_text ?x_w_text ?k_w_text ?a_w_object ?l_w_object ?x_w_object ?k_w_object ?a_w_wide ?l_w_wide ?x_w_wide ?k_w_wide ?a_w_like ?l_w_like ?x_w_like ?k_w_like ?a_w_shows ?l_w_shows ?x_w_shows ?k_w_shows ?a_w_mixed ?l_w_mixed ?x_w_mixed ?k_w_mixed ?a_law ?l_law ?x_law ?k_law ?m_Rule ?L_Rule ?K_Rule ?m_Nothing ?L_Nothing ?K_Nothing ?m_Bead ?L_Bead ?N_Bead_colour ?m_Or ?L_Or ?N_Or_one ?N_Or_other ?m_By ?L_By ?N_By_one ?N_By_other ?m_Row ?L_Row ?N_Row_part ?m_Bag ?L_Bag ?N_Bag_part ?m_Choice ?L_Choice ?N_Choice_part ?m_Ring ?L_Ring ?N_Ring_part ?m_Named ?L_Named ?N_Named_name ?m_Words ?L_Words ?N_Words_words ?N_Words_at ?IT ?n_all ?n_any ?n_bool ?n_enumerate ?n_int ?n_isinstance ?n_len ?n_list ?n_max ?n_min ?n_range ?n_reversed ?n_sorted ?n_str ?n_sum ?n_tuple ?n_zip ?c_HOLDERS ?o_HOLDERS ?t_HOLDERS ?i_HOLDERS ?c_KEPT ?o_KEPT ?t_KEPT ?i_KEPT ?c_LETTERS ?c_LONGEST
    (case l_Nothing_told=>exact (by kernel_rfl:(My.hK w.params).lookup 95=some ⟨.type "function",none,.func (PySem.W.fnOf "told" "Nothing.told" (L2.defArgs My.s_Nothing_told) (L2.defBody My.s_Nothing_told) (L2.defScope My.s_Nothing_told) .none .none .none (.str "figurebook.rules" 239) none (.ref 94) .none),#[]⟩))
    (case x_Nothing_told=>exact (by kernel_rfl:PySem.W.codeIn (My.hK w.params) (.ref 94) "Nothing.told"=true))
    (case k_Nothing_told=>exact (by kernel_rfl:PySem.W.keepIn (My.hK w.params) (.ref 95)=true))
    (case W_Nothing_told=>exact (⟨(by kernel_rfl),(by kernel_rfl),(by kernel_rfl)⟩:L2.Meth (My.hK w.params) 98 "told" 95))
    (case l_Bead___init__=>exact (by kernel_rfl:(My.hK w.params).lookup 114=some ⟨.type "function",none,.func (PySem.W.fnOf "__init__" "Bead.__init__" (L2.defArgs My.s_Bead___init__) (L2.defBody My.s_Bead___init__) (L2.defScope My.s_Bead___init__) .none .none .none (.str "figurebook.rules" 239) none (.ref 113) .none),#[]⟩))
    (case x_Bead___init__=>exact (by kernel_rfl:PySem.W.codeIn (My.hK w.params) (.ref 113) "Bead.__init__"=true))
    (case k_Bead___init__=>exact (by kernel_rfl:PySem.W.keepIn (My.hK w.params) (.ref 114)=true))
    (case K_Bead=>exact (⟨(by kernel_rfl),(by kernel_rfl),(by kernel_rfl),(by kernel_rfl)⟩:L2.Mk (My.hK w.params) 124 114))
    (case l_Bead_told=>exact (by kernel_rfl:(My.hK w.params).lookup 121=some ⟨.type "function",none,.func (PySem.W.fnOf "told" "Bead.told" (L2.defArgs My.s_Bead_told) (L2.defBody My.s_Bead_told) (L2.defScope My.s_Bead_told) .none .none .none (.str "figurebook.rules" 239) none (.ref 120) .none),#[]⟩))
    (case x_Bead_told=>exact (by kernel_rfl:PySem.W.codeIn (My.hK w.params) (.ref 120) "Bead.told"=true))
    (case k_Bead_told=>exact (by kernel_rfl:PySem.W.keepIn (My.hK w.params) (.ref 121)=true))
    (case W_Bead_told=>exact (⟨(by kernel_rfl),(by kernel_rfl),(by kernel_rfl)⟩:L2.Meth (My.hK w.params) 124 "told" 121))
    (case l_Or___init__=>exact (by kernel_rfl:(My.hK w.params).lookup 140=some ⟨.type "function",none,.func (PySem.W.fnOf "__init__" "Or.__init__" (L2.defArgs My.s_Or___init__) (L2.defBody My.s_Or___init__) (L2.defScope My.s_Or___init__) .none .none .none (.str "figurebook.rules" 239) none (.ref 139) .none),#[]⟩))
    (case x_Or___init__=>exact (by kernel_rfl:PySem.W.codeIn (My.hK w.params) (.ref 139) "Or.__init__"=true))
    (case k_Or___init__=>exact (by kernel_rfl:PySem.W.keepIn (My.hK w.params) (.ref 140)=true))
    (case K_Or=>exact (⟨(by kernel_rfl),(by kernel_rfl),(by kernel_rfl),(by kernel_rfl)⟩:L2.Mk (My.hK w.params) 157 140))
    (case l_Or_told=>exact (by kernel_rfl:(My.hK w.params).lookup 154=some ⟨.type "function",none,.func (PySem.W.fnOf "told" "Or.told" (L2.defArgs My.s_Or_told) (L2.defBody My.s_Or_told) (L2.defScope My.s_Or_told) .none .none .none (.str "figurebook.rules" 239) none (.ref 153) .none),#[]⟩))
    (case x_Or_told=>exact (by kernel_rfl:PySem.W.codeIn (My.hK w.params) (.ref 153) "Or.told"=true))
    (case k_Or_told=>exact (by kernel_rfl:PySem.W.keepIn (My.hK w.params) (.ref 154)=true))
    (case W_Or_told=>exact (⟨(by kernel_rfl),(by kernel_rfl),(by kernel_rfl)⟩:L2.Meth (My.hK w.params) 157 "told" 154))
    (case l_By___init__=>exact (by kernel_rfl:(My.hK w.params).lookup 173=some ⟨.type "function",none,.func (PySem.W.fnOf "__init__" "By.__init__" (L2.defArgs My.s_By___init__) (L2.defBody My.s_By___init__) (L2.defScope My.s_By___init__) .none .none .none (.str "figurebook.rules" 239) none (.ref 172) .none),#[]⟩))
    (case x_By___init__=>exact (by kernel_rfl:PySem.W.codeIn (My.hK w.params) (.ref 172) "By.__init__"=true))
    (case k_By___init__=>exact (by kernel_rfl:PySem.W.keepIn (My.hK w.params) (.ref 173)=true))
    (case K_By=>exact (⟨(by kernel_rfl),(by kernel_rfl),(by kernel_rfl),(by kernel_rfl)⟩:L2.Mk (My.hK w.params) 190 173))
    (case l_By_told=>exact (by kernel_rfl:(My.hK w.params).lookup 187=some ⟨.type "function",none,.func (PySem.W.fnOf "told" "By.told" (L2.defArgs My.s_By_told) (L2.defBody My.s_By_told) (L2.defScope My.s_By_told) .none .none .none (.str "figurebook.rules" 239) none (.ref 186) .none),#[]⟩))
    (case x_By_told=>exact (by kernel_rfl:PySem.W.codeIn (My.hK w.params) (.ref 186) "By.told"=true))
    (case k_By_told=>exact (by kernel_rfl:PySem.W.keepIn (My.hK w.params) (.ref 187)=true))
    (case W_By_told=>exact (⟨(by kernel_rfl),(by kernel_rfl),(by kernel_rfl)⟩:L2.Meth (My.hK w.params) 190 "told" 187))
    (case l_Row___init__=>exact (by kernel_rfl:(My.hK w.params).lookup 206=some ⟨.type "function",none,.func (PySem.W.fnOf "__init__" "Row.__init__" (L2.defArgs My.s_Row___init__) (L2.defBody My.s_Row___init__) (L2.defScope My.s_Row___init__) .none .none .none (.str "figurebook.rules" 239) none (.ref 205) .none),#[]⟩))
    (case x_Row___init__=>exact (by kernel_rfl:PySem.W.codeIn (My.hK w.params) (.ref 205) "Row.__init__"=true))
    (case k_Row___init__=>exact (by kernel_rfl:PySem.W.keepIn (My.hK w.params) (.ref 206)=true))
    (case K_Row=>exact (⟨(by kernel_rfl),(by kernel_rfl),(by kernel_rfl),(by kernel_rfl)⟩:L2.Mk (My.hK w.params) 223 206))
    (case l_Row_told=>exact (by kernel_rfl:(My.hK w.params).lookup 220=some ⟨.type "function",none,.func (PySem.W.fnOf "told" "Row.told" (L2.defArgs My.s_Row_told) (L2.defBody My.s_Row_told) (L2.defScope My.s_Row_told) .none .none .none (.str "figurebook.rules" 239) none (.ref 219) .none),#[]⟩))
    (case x_Row_told=>exact (by kernel_rfl:PySem.W.codeIn (My.hK w.params) (.ref 219) "Row.told"=true))
    (case k_Row_told=>exact (by kernel_rfl:PySem.W.keepIn (My.hK w.params) (.ref 220)=true))
    (case W_Row_told=>exact (⟨(by kernel_rfl),(by kernel_rfl),(by kernel_rfl)⟩:L2.Meth (My.hK w.params) 223 "told" 220))
    (case l_Bag___init__=>exact (by kernel_rfl:(My.hK w.params).lookup 239=some ⟨.type "function",none,.func (PySem.W.fnOf "__init__" "Bag.__init__" (L2.defArgs My.s_Bag___init__) (L2.defBody My.s_Bag___init__) (L2.defScope My.s_Bag___init__) .none .none .none (.str "figurebook.rules" 239) none (.ref 238) .none),#[]⟩))
    (case x_Bag___init__=>exact (by kernel_rfl:PySem.W.codeIn (My.hK w.params) (.ref 238) "Bag.__init__"=true))
    (case k_Bag___init__=>exact (by kernel_rfl:PySem.W.keepIn (My.hK w.params) (.ref 239)=true))
    (case K_Bag=>exact (⟨(by kernel_rfl),(by kernel_rfl),(by kernel_rfl),(by kernel_rfl)⟩:L2.Mk (My.hK w.params) 256 239))
    (case l_Bag_told=>exact (by kernel_rfl:(My.hK w.params).lookup 253=some ⟨.type "function",none,.func (PySem.W.fnOf "told" "Bag.told" (L2.defArgs My.s_Bag_told) (L2.defBody My.s_Bag_told) (L2.defScope My.s_Bag_told) .none .none .none (.str "figurebook.rules" 239) none (.ref 252) .none),#[]⟩))
    (case x_Bag_told=>exact (by kernel_rfl:PySem.W.codeIn (My.hK w.params) (.ref 252) "Bag.told"=true))
    (case k_Bag_told=>exact (by kernel_rfl:PySem.W.keepIn (My.hK w.params) (.ref 253)=true))
    (case W_Bag_told=>exact (⟨(by kernel_rfl),(by kernel_rfl),(by kernel_rfl)⟩:L2.Meth (My.hK w.params) 256 "told" 253))
    (case l_Choice___init__=>exact (by kernel_rfl:(My.hK w.params).lookup 272=some ⟨.type "function",none,.func (PySem.W.fnOf "__init__" "Choice.__init__" (L2.defArgs My.s_Choice___init__) (L2.defBody My.s_Choice___init__) (L2.defScope My.s_Choice___init__) .none .none .none (.str "figurebook.rules" 239) none (.ref 271) .none),#[]⟩))
    (case x_Choice___init__=>exact (by kernel_rfl:PySem.W.codeIn (My.hK w.params) (.ref 271) "Choice.__init__"=true))
    (case k_Choice___init__=>exact (by kernel_rfl:PySem.W.keepIn (My.hK w.params) (.ref 272)=true))
    (case K_Choice=>exact (⟨(by kernel_rfl),(by kernel_rfl),(by kernel_rfl),(by kernel_rfl)⟩:L2.Mk (My.hK w.params) 289 272))
    (case l_Choice_told=>exact (by kernel_rfl:(My.hK w.params).lookup 286=some ⟨.type "function",none,.func (PySem.W.fnOf "told" "Choice.told" (L2.defArgs My.s_Choice_told) (L2.defBody My.s_Choice_told) (L2.defScope My.s_Choice_told) .none .none .none (.str "figurebook.rules" 239) none (.ref 285) .none),#[]⟩))
    (case x_Choice_told=>exact (by kernel_rfl:PySem.W.codeIn (My.hK w.params) (.ref 285) "Choice.told"=true))
    (case k_Choice_told=>exact (by kernel_rfl:PySem.W.keepIn (My.hK w.params) (.ref 286)=true))
    (case W_Choice_told=>exact (⟨(by kernel_rfl),(by kernel_rfl),(by kernel_rfl)⟩:L2.Meth (My.hK w.params) 289 "told" 286))
    (case l_Ring___init__=>exact (by kernel_rfl:(My.hK w.params).lookup 305=some ⟨.type "function",none,.func (PySem.W.fnOf "__init__" "Ring.__init__" (L2.defArgs My.s_Ring___init__) (L2.defBody My.s_Ring___init__) (L2.defScope My.s_Ring___init__) .none .none .none (.str "figurebook.rules" 239) none (.ref 304) .none),#[]⟩))
    (case x_Ring___init__=>exact (by kernel_rfl:PySem.W.codeIn (My.hK w.params) (.ref 304) "Ring.__init__"=true))
    (case k_Ring___init__=>exact (by kernel_rfl:PySem.W.keepIn (My.hK w.params) (.ref 305)=true))
    (case K_Ring=>exact (⟨(by kernel_rfl),(by kernel_rfl),(by kernel_rfl),(by kernel_rfl)⟩:L2.Mk (My.hK w.params) 322 305))
    (case l_Ring_told=>exact (by kernel_rfl:(My.hK w.params).lookup 319=some ⟨.type "function",none,.func (PySem.W.fnOf "told" "Ring.told" (L2.defArgs My.s_Ring_told) (L2.defBody My.s_Ring_told) (L2.defScope My.s_Ring_told) .none .none .none (.str "figurebook.rules" 239) none (.ref 318) .none),#[]⟩))
    (case x_Ring_told=>exact (by kernel_rfl:PySem.W.codeIn (My.hK w.params) (.ref 318) "Ring.told"=true))
    (case k_Ring_told=>exact (by kernel_rfl:PySem.W.keepIn (My.hK w.params) (.ref 319)=true))
    (case W_Ring_told=>exact (⟨(by kernel_rfl),(by kernel_rfl),(by kernel_rfl)⟩:L2.Meth (My.hK w.params) 322 "told" 319))
    (case l_Named___init__=>exact (by kernel_rfl:(My.hK w.params).lookup 338=some ⟨.type "function",none,.func (PySem.W.fnOf "__init__" "Named.__init__" (L2.defArgs My.s_Named___init__) (L2.defBody My.s_Named___init__) (L2.defScope My.s_Named___init__) .none .none .none (.str "figurebook.rules" 239) none (.ref 337) .none),#[]⟩))
    (case x_Named___init__=>exact (by kernel_rfl:PySem.W.codeIn (My.hK w.params) (.ref 337) "Named.__init__"=true))
    (case k_Named___init__=>exact (by kernel_rfl:PySem.W.keepIn (My.hK w.params) (.ref 338)=true))
    (case K_Named=>exact (⟨(by kernel_rfl),(by kernel_rfl),(by kernel_rfl),(by kernel_rfl)⟩:L2.Mk (My.hK w.params) 355 338))
    (case l_Named_told=>exact (by kernel_rfl:(My.hK w.params).lookup 352=some ⟨.type "function",none,.func (PySem.W.fnOf "told" "Named.told" (L2.defArgs My.s_Named_told) (L2.defBody My.s_Named_told) (L2.defScope My.s_Named_told) .none .none .none (.str "figurebook.rules" 239) none (.ref 351) .none),#[]⟩))
    (case x_Named_told=>exact (by kernel_rfl:PySem.W.codeIn (My.hK w.params) (.ref 351) "Named.told"=true))
    (case k_Named_told=>exact (by kernel_rfl:PySem.W.keepIn (My.hK w.params) (.ref 352)=true))
    (case W_Named_told=>exact (⟨(by kernel_rfl),(by kernel_rfl),(by kernel_rfl)⟩:L2.Meth (My.hK w.params) 355 "told" 352))
    (case a_term_text=>exact (by kernel_rfl:PySem.W.nsIn (My.hK w.params) mainGlobals "term_text"=some (some (.ref 364))))
    (case l_term_text=>exact (by kernel_rfl:(My.hK w.params).lookup 364=some ⟨.type "function",none,.func (PySem.W.fnOf "term_text" "term_text" (L2.defArgs My.s_term_text) (L2.defBody My.s_term_text) (L2.defScope My.s_term_text) .none .none .none (.str "figurebook.rules" 239) none (.ref 363) .none),#[]⟩))
    (case x_term_text=>exact (by kernel_rfl:PySem.W.codeIn (My.hK w.params) (.ref 363) "term_text"=true))
    (case k_term_text=>exact (by kernel_rfl:PySem.W.keepIn (My.hK w.params) (.ref 364)=true))
    (case a_factor_text=>exact (by kernel_rfl:PySem.W.nsIn (My.hK w.params) mainGlobals "factor_text"=some (some (.ref 371))))
    (case l_factor_text=>exact (by kernel_rfl:(My.hK w.params).lookup 371=some ⟨.type "function",none,.func (PySem.W.fnOf "factor_text" "factor_text" (L2.defArgs My.s_factor_text) (L2.defBody My.s_factor_text) (L2.defScope My.s_factor_text) .none .none .none (.str "figurebook.rules" 239) none (.ref 370) .none),#[]⟩))
    (case x_factor_text=>exact (by kernel_rfl:PySem.W.codeIn (My.hK w.params) (.ref 370) "factor_text"=true))
    (case k_factor_text=>exact (by kernel_rfl:PySem.W.keepIn (My.hK w.params) (.ref 371)=true))
    (case a_is_word=>exact (by kernel_rfl:PySem.W.nsIn (My.hK w.params) mainGlobals "is_word"=some (some (.ref 378))))
    (case l_is_word=>exact (by kernel_rfl:(My.hK w.params).lookup 378=some ⟨.type "function",none,.func (PySem.W.fnOf "is_word" "is_word" (L2.defArgs My.s_is_word) (L2.defBody My.s_is_word) (L2.defScope My.s_is_word) .none .none .none (.str "figurebook.reading" 621) none (.ref 377) .none),#[]⟩))
    (case x_is_word=>exact (by kernel_rfl:PySem.W.codeIn (My.hK w.params) (.ref 377) "is_word"=true))
    (case k_is_word=>exact (by kernel_rfl:PySem.W.keepIn (My.hK w.params) (.ref 378)=true))
    (case l_Words___init__=>exact (by kernel_rfl:(My.hK w.params).lookup 392=some ⟨.type "function",none,.func (PySem.W.fnOf "__init__" "Words.__init__" (L2.defArgs My.s_Words___init__) (L2.defBody My.s_Words___init__) (L2.defScope My.s_Words___init__) .none .none .none (.str "figurebook.reading" 621) none (.ref 391) .none),#[]⟩))
    (case x_Words___init__=>exact (by kernel_rfl:PySem.W.codeIn (My.hK w.params) (.ref 391) "Words.__init__"=true))
    (case k_Words___init__=>exact (by kernel_rfl:PySem.W.keepIn (My.hK w.params) (.ref 392)=true))
    (case K_Words=>exact (⟨(by kernel_rfl),(by kernel_rfl),(by kernel_rfl),(by kernel_rfl)⟩:L2.Mk (My.hK w.params) 430 392))
    (case l_Words_ahead=>exact (by kernel_rfl:(My.hK w.params).lookup 399=some ⟨.type "function",none,.func (PySem.W.fnOf "ahead" "Words.ahead" (L2.defArgs My.s_Words_ahead) (L2.defBody My.s_Words_ahead) (L2.defScope My.s_Words_ahead) .none .none .none (.str "figurebook.reading" 621) none (.ref 398) .none),#[]⟩))
    (case x_Words_ahead=>exact (by kernel_rfl:PySem.W.codeIn (My.hK w.params) (.ref 398) "Words.ahead"=true))
    (case k_Words_ahead=>exact (by kernel_rfl:PySem.W.keepIn (My.hK w.params) (.ref 399)=true))
    (case W_Words_ahead=>exact (⟨(by kernel_rfl),(by kernel_rfl),(by kernel_rfl)⟩:L2.Meth (My.hK w.params) 430 "ahead" 399))
    (case l_Words_passed=>exact (by kernel_rfl:(My.hK w.params).lookup 406=some ⟨.type "function",none,.func (PySem.W.fnOf "passed" "Words.passed" (L2.defArgs My.s_Words_passed) (L2.defBody My.s_Words_passed) (L2.defScope My.s_Words_passed) .none .none .none (.str "figurebook.reading" 621) none (.ref 405) .none),#[]⟩))
    (case x_Words_passed=>exact (by kernel_rfl:PySem.W.codeIn (My.hK w.params) (.ref 405) "Words.passed"=true))
    (case k_Words_passed=>exact (by kernel_rfl:PySem.W.keepIn (My.hK w.params) (.ref 406)=true))
    (case W_Words_passed=>exact (⟨(by kernel_rfl),(by kernel_rfl),(by kernel_rfl)⟩:L2.Meth (My.hK w.params) 430 "passed" 406))
    (case l_Words_need=>exact (by kernel_rfl:(My.hK w.params).lookup 413=some ⟨.type "function",none,.func (PySem.W.fnOf "need" "Words.need" (L2.defArgs My.s_Words_need) (L2.defBody My.s_Words_need) (L2.defScope My.s_Words_need) .none .none .none (.str "figurebook.reading" 621) none (.ref 412) .none),#[]⟩))
    (case x_Words_need=>exact (by kernel_rfl:PySem.W.codeIn (My.hK w.params) (.ref 412) "Words.need"=true))
    (case k_Words_need=>exact (by kernel_rfl:PySem.W.keepIn (My.hK w.params) (.ref 413)=true))
    (case W_Words_need=>exact (⟨(by kernel_rfl),(by kernel_rfl),(by kernel_rfl)⟩:L2.Meth (My.hK w.params) 430 "need" 413))
    (case l_Words_free_word=>exact (by kernel_rfl:(My.hK w.params).lookup 420=some ⟨.type "function",none,.func (PySem.W.fnOf "free_word" "Words.free_word" (L2.defArgs My.s_Words_free_word) (L2.defBody My.s_Words_free_word) (L2.defScope My.s_Words_free_word) .none .none .none (.str "figurebook.reading" 621) none (.ref 419) .none),#[]⟩))
    (case x_Words_free_word=>exact (by kernel_rfl:PySem.W.codeIn (My.hK w.params) (.ref 419) "Words.free_word"=true))
    (case k_Words_free_word=>exact (by kernel_rfl:PySem.W.keepIn (My.hK w.params) (.ref 420)=true))
    (case W_Words_free_word=>exact (⟨(by kernel_rfl),(by kernel_rfl),(by kernel_rfl)⟩:L2.Meth (My.hK w.params) 430 "free_word" 420))
    (case l_Words_finish=>exact (by kernel_rfl:(My.hK w.params).lookup 427=some ⟨.type "function",none,.func (PySem.W.fnOf "finish" "Words.finish" (L2.defArgs My.s_Words_finish) (L2.defBody My.s_Words_finish) (L2.defScope My.s_Words_finish) .none .none .none (.str "figurebook.reading" 621) none (.ref 426) .none),#[]⟩))
    (case x_Words_finish=>exact (by kernel_rfl:PySem.W.codeIn (My.hK w.params) (.ref 426) "Words.finish"=true))
    (case k_Words_finish=>exact (by kernel_rfl:PySem.W.keepIn (My.hK w.params) (.ref 427)=true))
    (case W_Words_finish=>exact (⟨(by kernel_rfl),(by kernel_rfl),(by kernel_rfl)⟩:L2.Meth (My.hK w.params) 430 "finish" 427))
    (case a_read_rule=>exact (by kernel_rfl:PySem.W.nsIn (My.hK w.params) mainGlobals "read_rule"=some (some (.ref 441))))
    (case l_read_rule=>exact (by kernel_rfl:(My.hK w.params).lookup 441=some ⟨.type "function",none,.func (PySem.W.fnOf "read_rule" "read_rule" (L2.defArgs My.s_read_rule) (L2.defBody My.s_read_rule) (L2.defScope My.s_read_rule) .none .none .none (.str "figurebook.reading" 621) none (.ref 440) .none),#[]⟩))
    (case x_read_rule=>exact (by kernel_rfl:PySem.W.codeIn (My.hK w.params) (.ref 440) "read_rule"=true))
    (case k_read_rule=>exact (by kernel_rfl:PySem.W.keepIn (My.hK w.params) (.ref 441)=true))
    (case a_next_rule=>exact (by kernel_rfl:PySem.W.nsIn (My.hK w.params) mainGlobals "next_rule"=some (some (.ref 448))))
    (case l_next_rule=>exact (by kernel_rfl:(My.hK w.params).lookup 448=some ⟨.type "function",none,.func (PySem.W.fnOf "next_rule" "next_rule" (L2.defArgs My.s_next_rule) (L2.defBody My.s_next_rule) (L2.defScope My.s_next_rule) .none .none .none (.str "figurebook.reading" 621) none (.ref 447) .none),#[]⟩))
    (case x_next_rule=>exact (by kernel_rfl:PySem.W.codeIn (My.hK w.params) (.ref 447) "next_rule"=true))
    (case k_next_rule=>exact (by kernel_rfl:PySem.W.keepIn (My.hK w.params) (.ref 448)=true))
    (case a_next_term=>exact (by kernel_rfl:PySem.W.nsIn (My.hK w.params) mainGlobals "next_term"=some (some (.ref 455))))
    (case l_next_term=>exact (by kernel_rfl:(My.hK w.params).lookup 455=some ⟨.type "function",none,.func (PySem.W.fnOf "next_term" "next_term" (L2.defArgs My.s_next_term) (L2.defBody My.s_next_term) (L2.defScope My.s_next_term) .none .none .none (.str "figurebook.reading" 621) none (.ref 454) .none),#[]⟩))
    (case x_next_term=>exact (by kernel_rfl:PySem.W.codeIn (My.hK w.params) (.ref 454) "next_term"=true))
    (case k_next_term=>exact (by kernel_rfl:PySem.W.keepIn (My.hK w.params) (.ref 455)=true))
    (case a_next_factor=>exact (by kernel_rfl:PySem.W.nsIn (My.hK w.params) mainGlobals "next_factor"=some (some (.ref 462))))
    (case l_next_factor=>exact (by kernel_rfl:(My.hK w.params).lookup 462=some ⟨.type "function",none,.func (PySem.W.fnOf "next_factor" "next_factor" (L2.defArgs My.s_next_factor) (L2.defBody My.s_next_factor) (L2.defScope My.s_next_factor) .none .none .none (.str "figurebook.reading" 621) none (.ref 461) .none),#[]⟩))
    (case x_next_factor=>exact (by kernel_rfl:PySem.W.codeIn (My.hK w.params) (.ref 461) "next_factor"=true))
    (case k_next_factor=>exact (by kernel_rfl:PySem.W.keepIn (My.hK w.params) (.ref 462)=true))
    (case a_next_plain_factor=>exact (by kernel_rfl:PySem.W.nsIn (My.hK w.params) mainGlobals "next_plain_factor"=some (some (.ref 469))))
    (case l_next_plain_factor=>exact (by kernel_rfl:(My.hK w.params).lookup 469=some ⟨.type "function",none,.func (PySem.W.fnOf "next_plain_factor" "next_plain_factor" (L2.defArgs My.s_next_plain_factor) (L2.defBody My.s_next_plain_factor) (L2.defScope My.s_next_plain_factor) .none .none .none (.str "figurebook.reading" 621) none (.ref 468) .none),#[]⟩))
    (case x_next_plain_factor=>exact (by kernel_rfl:PySem.W.codeIn (My.hK w.params) (.ref 468) "next_plain_factor"=true))
    (case k_next_plain_factor=>exact (by kernel_rfl:PySem.W.keepIn (My.hK w.params) (.ref 469)=true))
    (case a_held=>exact (by kernel_rfl:PySem.W.nsIn (My.hK w.params) mainGlobals "held"=some (some (.ref 476))))
    (case l_held=>exact (by kernel_rfl:(My.hK w.params).lookup 476=some ⟨.type "function",none,.func (PySem.W.fnOf "held" "held" (L2.defArgs My.s_held) (L2.defBody My.s_held) (L2.defScope My.s_held) .none .none .none (.str "figurebook.reading" 621) none (.ref 475) .none),#[]⟩))
    (case x_held=>exact (by kernel_rfl:PySem.W.codeIn (My.hK w.params) (.ref 475) "held"=true))
    (case k_held=>exact (by kernel_rfl:PySem.W.keepIn (My.hK w.params) (.ref 476)=true))
    (case a_w_cell=>exact (by kernel_rfl:PySem.W.nsIn (My.hK w.params) mainGlobals "_law_cell"=some (some (.ref 483))))
    (case l_w_cell=>exact (by kernel_rfl:(My.hK w.params).lookup 483=some ⟨.type "function",none,.func (PySem.W.fnOf "_law_cell" "_law_cell" (L2.defArgs My.s_w_cell) (L2.defBody My.s_w_cell) (L2.defScope My.s_w_cell) .none .none .none (.str "law_figurebook_k02_whole_rules_shown_and_rea" 769) none (.ref 482) .none),#[]⟩))
    (case x_w_cell=>exact (by kernel_rfl:PySem.W.codeIn (My.hK w.params) (.ref 482) "_law_cell"=true))
    (case k_w_cell=>exact (by kernel_rfl:PySem.W.keepIn (My.hK w.params) (.ref 483)=true))
    (case a_w_kept=>exact (by kernel_rfl:PySem.W.nsIn (My.hK w.params) mainGlobals "_law_kept"=some (some (.ref 490))))
    (case l_w_kept=>exact (by kernel_rfl:(My.hK w.params).lookup 490=some ⟨.type "function",none,.func (PySem.W.fnOf "_law_kept" "_law_kept" (L2.defArgs My.s_w_kept) (L2.defBody My.s_w_kept) (L2.defScope My.s_w_kept) .none .none .none (.str "law_figurebook_k02_whole_rules_shown_and_rea" 769) none (.ref 489) .none),#[]⟩))
    (case x_w_kept=>exact (by kernel_rfl:PySem.W.codeIn (My.hK w.params) (.ref 489) "_law_kept"=true))
    (case k_w_kept=>exact (by kernel_rfl:PySem.W.keepIn (My.hK w.params) (.ref 490)=true))
    (case a_w_word=>exact (by kernel_rfl:PySem.W.nsIn (My.hK w.params) mainGlobals "_law_word"=some (some (.ref 497))))
    (case l_w_word=>exact (by kernel_rfl:(My.hK w.params).lookup 497=some ⟨.type "function",none,.func (PySem.W.fnOf "_law_word" "_law_word" (L2.defArgs My.s_w_word) (L2.defBody My.s_w_word) (L2.defScope My.s_w_word) .none .none .none (.str "law_figurebook_k02_whole_rules_shown_and_rea" 769) none (.ref 496) .none),#[]⟩))
    (case x_w_word=>exact (by kernel_rfl:PySem.W.codeIn (My.hK w.params) (.ref 496) "_law_word"=true))
    (case k_w_word=>exact (by kernel_rfl:PySem.W.keepIn (My.hK w.params) (.ref 497)=true))
    (case a_w_total=>exact (by kernel_rfl:PySem.W.nsIn (My.hK w.params) mainGlobals "_law_total"=some (some (.ref 502))))
    (case l_w_total=>exact (by kernel_rfl:(My.hK w.params).lookup 502=some ⟨.type "function",none,.func (PySem.W.fnOf "_law_total" "_law_total" (L2.defArgs My.s_w_total) (L2.defBody My.s_w_total) (L2.defScope My.s_w_total) .none .none .none (.str "law_figurebook_k02_whole_rules_shown_and_rea" 769) none (.ref 501) .none),#[]⟩))
    (case x_w_total=>exact (by kernel_rfl:PySem.W.codeIn (My.hK w.params) (.ref 501) "_law_total"=true))
    (case k_w_total=>exact (by kernel_rfl:PySem.W.keepIn (My.hK w.params) (.ref 502)=true))
    (case a_w_op=>exact (by kernel_rfl:PySem.W.nsIn (My.hK w.params) mainGlobals "_law_op"=some (some (.ref 509))))
    (case l_w_op=>exact (by kernel_rfl:(My.hK w.params).lookup 509=some ⟨.type "function",none,.func (PySem.W.fnOf "_law_op" "_law_op" (L2.defArgs My.s_w_op) (L2.defBody My.s_w_op) (L2.defScope My.s_w_op) .none .none .none (.str "law_figurebook_k02_whole_rules_shown_and_rea" 769) none (.ref 508) .none),#[]⟩))
    (case x_w_op=>exact (by kernel_rfl:PySem.W.codeIn (My.hK w.params) (.ref 508) "_law_op"=true))
    (case k_w_op=>exact (by kernel_rfl:PySem.W.keepIn (My.hK w.params) (.ref 509)=true))
    (case a_w_tree=>exact (by kernel_rfl:PySem.W.nsIn (My.hK w.params) mainGlobals "_law_tree"=some (some (.ref 516))))
    (case l_w_tree=>exact (by kernel_rfl:(My.hK w.params).lookup 516=some ⟨.type "function",none,.func (PySem.W.fnOf "_law_tree" "_law_tree" (L2.defArgs My.s_w_tree) (L2.defBody My.s_w_tree) (L2.defScope My.s_w_tree) .none .none .none (.str "law_figurebook_k02_whole_rules_shown_and_rea" 769) none (.ref 515) .none),#[]⟩))
    (case x_w_tree=>exact (by kernel_rfl:PySem.W.codeIn (My.hK w.params) (.ref 515) "_law_tree"=true))
    (case k_w_tree=>exact (by kernel_rfl:PySem.W.keepIn (My.hK w.params) (.ref 516)=true))
    (case a_w_binds=>exact (by kernel_rfl:PySem.W.nsIn (My.hK w.params) mainGlobals "_law_binds"=some (some (.ref 523))))
    (case l_w_binds=>exact (by kernel_rfl:(My.hK w.params).lookup 523=some ⟨.type "function",none,.func (PySem.W.fnOf "_law_binds" "_law_binds" (L2.defArgs My.s_w_binds) (L2.defBody My.s_w_binds) (L2.defScope My.s_w_binds) .none .none .none (.str "law_figurebook_k02_whole_rules_shown_and_rea" 769) none (.ref 522) .none),#[]⟩))
    (case x_w_binds=>exact (by kernel_rfl:PySem.W.codeIn (My.hK w.params) (.ref 522) "_law_binds"=true))
    (case k_w_binds=>exact (by kernel_rfl:PySem.W.keepIn (My.hK w.params) (.ref 523)=true))
    (case a_w_shut=>exact (by kernel_rfl:PySem.W.nsIn (My.hK w.params) mainGlobals "_law_shut"=some (some (.ref 530))))
    (case l_w_shut=>exact (by kernel_rfl:(My.hK w.params).lookup 530=some ⟨.type "function",none,.func (PySem.W.fnOf "_law_shut" "_law_shut" (L2.defArgs My.s_w_shut) (L2.defBody My.s_w_shut) (L2.defScope My.s_w_shut) .none .none .none (.str "law_figurebook_k02_whole_rules_shown_and_rea" 769) none (.ref 529) .none),#[]⟩))
    (case x_w_shut=>exact (by kernel_rfl:PySem.W.codeIn (My.hK w.params) (.ref 529) "_law_shut"=true))
    (case k_w_shut=>exact (by kernel_rfl:PySem.W.keepIn (My.hK w.params) (.ref 530)=true))
    (case a_w_text=>exact (by kernel_rfl:PySem.W.nsIn (My.hK w.params) mainGlobals "_law_text"=some (some (.ref 537))))
    (case l_w_text=>exact (by kernel_rfl:(My.hK w.params).lookup 537=some ⟨.type "function",none,.func (PySem.W.fnOf "_law_text" "_law_text" (L2.defArgs My.s_w_text) (L2.defBody My.s_w_text) (L2.defScope My.s_w_text) .none .none .none (.str "law_figurebook_k02_whole_rules_shown_and_rea" 769) none (.ref 536) .none),#[]⟩))
    (case x_w_text=>exact (by kernel_rfl:PySem.W.codeIn (My.hK w.params) (.ref 536) "_law_text"=true))
    (case k_w_text=>exact (by kernel_rfl:PySem.W.keepIn (My.hK w.params) (.ref 537)=true))
    (case a_w_object=>exact (by kernel_rfl:PySem.W.nsIn (My.hK w.params) mainGlobals "_law_object"=some (some (.ref 544))))
    (case l_w_object=>exact (by kernel_rfl:(My.hK w.params).lookup 544=some ⟨.type "function",none,.func (PySem.W.fnOf "_law_object" "_law_object" (L2.defArgs My.s_w_object) (L2.defBody My.s_w_object) (L2.defScope My.s_w_object) .none .none .none (.str "law_figurebook_k02_whole_rules_shown_and_rea" 769) none (.ref 543) .none),#[]⟩))
    (case x_w_object=>exact (by kernel_rfl:PySem.W.codeIn (My.hK w.params) (.ref 543) "_law_object"=true))
    (case k_w_object=>exact (by kernel_rfl:PySem.W.keepIn (My.hK w.params) (.ref 544)=true))
    (case a_w_wide=>exact (by kernel_rfl:PySem.W.nsIn (My.hK w.params) mainGlobals "_law_wide"=some (some (.ref 551))))
    (case l_w_wide=>exact (by kernel_rfl:(My.hK w.params).lookup 551=some ⟨.type "function",none,.func (PySem.W.fnOf "_law_wide" "_law_wide" (L2.defArgs My.s_w_wide) (L2.defBody My.s_w_wide) (L2.defScope My.s_w_wide) .none .none .none (.str "law_figurebook_k02_whole_rules_shown_and_rea" 769) none (.ref 550) .none),#[]⟩))
    (case x_w_wide=>exact (by kernel_rfl:PySem.W.codeIn (My.hK w.params) (.ref 550) "_law_wide"=true))
    (case k_w_wide=>exact (by kernel_rfl:PySem.W.keepIn (My.hK w.params) (.ref 551)=true))
    (case a_w_like=>exact (by kernel_rfl:PySem.W.nsIn (My.hK w.params) mainGlobals "_law_like"=some (some (.ref 556))))
    (case l_w_like=>exact (by kernel_rfl:(My.hK w.params).lookup 556=some ⟨.type "function",none,.func (PySem.W.fnOf "_law_like" "_law_like" (L2.defArgs My.s_w_like) (L2.defBody My.s_w_like) (L2.defScope My.s_w_like) .none .none .none (.str "law_figurebook_k02_whole_rules_shown_and_rea" 769) none (.ref 555) .none),#[]⟩))
    (case x_w_like=>exact (by kernel_rfl:PySem.W.codeIn (My.hK w.params) (.ref 555) "_law_like"=true))
    (case k_w_like=>exact (by kernel_rfl:PySem.W.keepIn (My.hK w.params) (.ref 556)=true))
    (case a_w_shows=>exact (by kernel_rfl:PySem.W.nsIn (My.hK w.params) mainGlobals "_law_shows"=some (some (.ref 563))))
    (case l_w_shows=>exact (by kernel_rfl:(My.hK w.params).lookup 563=some ⟨.type "function",none,.func (PySem.W.fnOf "_law_shows" "_law_shows" (L2.defArgs My.s_w_shows) (L2.defBody My.s_w_shows) (L2.defScope My.s_w_shows) .none .none .none (.str "law_figurebook_k02_whole_rules_shown_and_rea" 769) none (.ref 562) .none),#[]⟩))
    (case x_w_shows=>exact (by kernel_rfl:PySem.W.codeIn (My.hK w.params) (.ref 562) "_law_shows"=true))
    (case k_w_shows=>exact (by kernel_rfl:PySem.W.keepIn (My.hK w.params) (.ref 563)=true))
    (case a_w_mixed=>exact (by kernel_rfl:PySem.W.nsIn (My.hK w.params) mainGlobals "_law_mixed"=some (some (.ref 570))))
    (case l_w_mixed=>exact (by kernel_rfl:(My.hK w.params).lookup 570=some ⟨.type "function",none,.func (PySem.W.fnOf "_law_mixed" "_law_mixed" (L2.defArgs My.s_w_mixed) (L2.defBody My.s_w_mixed) (L2.defScope My.s_w_mixed) .none .none .none (.str "law_figurebook_k02_whole_rules_shown_and_rea" 769) none (.ref 569) .none),#[]⟩))
    (case x_w_mixed=>exact (by kernel_rfl:PySem.W.codeIn (My.hK w.params) (.ref 569) "_law_mixed"=true))
    (case k_w_mixed=>exact (by kernel_rfl:PySem.W.keepIn (My.hK w.params) (.ref 570)=true))
    (case a_law=>exact (by kernel_rfl:PySem.W.nsIn (My.hK w.params) mainGlobals "law"=some (some (.ref 577))))
    (case l_law=>exact (by kernel_rfl:(My.hK w.params).lookup 577=some ⟨.type "function",none,.func (PySem.W.fnOf "law" "law" (L2.defArgs My.s_law) (L2.defBody My.s_law) (L2.defScope My.s_law) .none .none .none (.str "law_figurebook_k02_whole_rules_shown_and_rea" 769) none (.ref 576) .none),#[]⟩))
    (case x_law=>exact (by kernel_rfl:PySem.W.codeIn (My.hK w.params) (.ref 576) "law"=true))
    (case k_law=>exact (by kernel_rfl:PySem.W.keepIn (My.hK w.params) (.ref 577)=true))
    (case m_Rule=>exact (by kernel_rfl:PySem.W.nsIn (My.hK w.params) mainGlobals "Rule"=some (some (.ref 77))))
    (case L_Rule=>exact (⟨(by kernel_rfl),(by kernel_rfl),(by kernel_rfl),(by kernel_rfl)⟩:L2.Cls (My.hK w.params) 77))
    (case K_Rule=>exact (⟨(by kernel_rfl),(by kernel_rfl),(by kernel_rfl)⟩:L2.Mk0 (My.hK w.params) 77))
    (case m_Nothing=>exact (by kernel_rfl:PySem.W.nsIn (My.hK w.params) mainGlobals "Nothing"=some (some (.ref 98))))
    (case L_Nothing=>exact (⟨(by kernel_rfl),(by kernel_rfl),(by kernel_rfl),(by kernel_rfl)⟩:L2.Cls (My.hK w.params) 98))
    (case K_Nothing=>exact (⟨(by kernel_rfl),(by kernel_rfl),(by kernel_rfl)⟩:L2.Mk0 (My.hK w.params) 98))
    (case m_Bead=>exact (by kernel_rfl:PySem.W.nsIn (My.hK w.params) mainGlobals "Bead"=some (some (.ref 124))))
    (case L_Bead=>exact (⟨(by kernel_rfl),(by kernel_rfl),(by kernel_rfl),(by kernel_rfl)⟩:L2.Cls (My.hK w.params) 124))
    (case N_Bead_colour=>exact (by kernel_rfl:PySem.W.findIn (My.hK w.params) (.ref 124) "colour"=some none))
    (case m_Or=>exact (by kernel_rfl:PySem.W.nsIn (My.hK w.params) mainGlobals "Or"=some (some (.ref 157))))
    (case L_Or=>exact (⟨(by kernel_rfl),(by kernel_rfl),(by kernel_rfl),(by kernel_rfl)⟩:L2.Cls (My.hK w.params) 157))
    (case N_Or_one=>exact (by kernel_rfl:PySem.W.findIn (My.hK w.params) (.ref 157) "one"=some none))
    (case N_Or_other=>exact (by kernel_rfl:PySem.W.findIn (My.hK w.params) (.ref 157) "other"=some none))
    (case m_By=>exact (by kernel_rfl:PySem.W.nsIn (My.hK w.params) mainGlobals "By"=some (some (.ref 190))))
    (case L_By=>exact (⟨(by kernel_rfl),(by kernel_rfl),(by kernel_rfl),(by kernel_rfl)⟩:L2.Cls (My.hK w.params) 190))
    (case N_By_one=>exact (by kernel_rfl:PySem.W.findIn (My.hK w.params) (.ref 190) "one"=some none))
    (case N_By_other=>exact (by kernel_rfl:PySem.W.findIn (My.hK w.params) (.ref 190) "other"=some none))
    (case m_Row=>exact (by kernel_rfl:PySem.W.nsIn (My.hK w.params) mainGlobals "Row"=some (some (.ref 223))))
    (case L_Row=>exact (⟨(by kernel_rfl),(by kernel_rfl),(by kernel_rfl),(by kernel_rfl)⟩:L2.Cls (My.hK w.params) 223))
    (case N_Row_part=>exact (by kernel_rfl:PySem.W.findIn (My.hK w.params) (.ref 223) "part"=some none))
    (case m_Bag=>exact (by kernel_rfl:PySem.W.nsIn (My.hK w.params) mainGlobals "Bag"=some (some (.ref 256))))
    (case L_Bag=>exact (⟨(by kernel_rfl),(by kernel_rfl),(by kernel_rfl),(by kernel_rfl)⟩:L2.Cls (My.hK w.params) 256))
    (case N_Bag_part=>exact (by kernel_rfl:PySem.W.findIn (My.hK w.params) (.ref 256) "part"=some none))
    (case m_Choice=>exact (by kernel_rfl:PySem.W.nsIn (My.hK w.params) mainGlobals "Choice"=some (some (.ref 289))))
    (case L_Choice=>exact (⟨(by kernel_rfl),(by kernel_rfl),(by kernel_rfl),(by kernel_rfl)⟩:L2.Cls (My.hK w.params) 289))
    (case N_Choice_part=>exact (by kernel_rfl:PySem.W.findIn (My.hK w.params) (.ref 289) "part"=some none))
    (case m_Ring=>exact (by kernel_rfl:PySem.W.nsIn (My.hK w.params) mainGlobals "Ring"=some (some (.ref 322))))
    (case L_Ring=>exact (⟨(by kernel_rfl),(by kernel_rfl),(by kernel_rfl),(by kernel_rfl)⟩:L2.Cls (My.hK w.params) 322))
    (case N_Ring_part=>exact (by kernel_rfl:PySem.W.findIn (My.hK w.params) (.ref 322) "part"=some none))
    (case m_Named=>exact (by kernel_rfl:PySem.W.nsIn (My.hK w.params) mainGlobals "Named"=some (some (.ref 355))))
    (case L_Named=>exact (⟨(by kernel_rfl),(by kernel_rfl),(by kernel_rfl),(by kernel_rfl)⟩:L2.Cls (My.hK w.params) 355))
    (case N_Named_name=>exact (by kernel_rfl:PySem.W.findIn (My.hK w.params) (.ref 355) "name"=some none))
    (case m_Words=>exact (by kernel_rfl:PySem.W.nsIn (My.hK w.params) mainGlobals "Words"=some (some (.ref 430))))
    (case L_Words=>exact (⟨(by kernel_rfl),(by kernel_rfl),(by kernel_rfl),(by kernel_rfl)⟩:L2.Cls (My.hK w.params) 430))
    (case N_Words_words=>exact (by kernel_rfl:PySem.W.findIn (My.hK w.params) (.ref 430) "words"=some none))
    (case N_Words_at=>exact (by kernel_rfl:PySem.W.findIn (My.hK w.params) (.ref 430) "at"=some none))
    (case IT=>exact (⟨(by kernel_rfl),(by kernel_rfl),(by kernel_rfl),(by kernel_rfl),(by kernel_rfl),(by kernel_rfl)⟩:L2.IsTab (My.hK w.params) [98,124,355,157,190,223,256,289,322] 77))
    (case n_all=>exact (by kernel_rfl:PySem.W.nsIn (My.hK w.params) mainGlobals "all"=some none))
    (case n_any=>exact (by kernel_rfl:PySem.W.nsIn (My.hK w.params) mainGlobals "any"=some none))
    (case n_bool=>exact (by kernel_rfl:PySem.W.nsIn (My.hK w.params) mainGlobals "bool"=some none))
    (case n_enumerate=>exact (by kernel_rfl:PySem.W.nsIn (My.hK w.params) mainGlobals "enumerate"=some none))
    (case n_int=>exact (by kernel_rfl:PySem.W.nsIn (My.hK w.params) mainGlobals "int"=some none))
    (case n_isinstance=>exact (by kernel_rfl:PySem.W.nsIn (My.hK w.params) mainGlobals "isinstance"=some none))
    (case n_len=>exact (by kernel_rfl:PySem.W.nsIn (My.hK w.params) mainGlobals "len"=some none))
    (case n_list=>exact (by kernel_rfl:PySem.W.nsIn (My.hK w.params) mainGlobals "list"=some none))
    (case n_max=>exact (by kernel_rfl:PySem.W.nsIn (My.hK w.params) mainGlobals "max"=some none))
    (case n_min=>exact (by kernel_rfl:PySem.W.nsIn (My.hK w.params) mainGlobals "min"=some none))
    (case n_range=>exact (by kernel_rfl:PySem.W.nsIn (My.hK w.params) mainGlobals "range"=some none))
    (case n_reversed=>exact (by kernel_rfl:PySem.W.nsIn (My.hK w.params) mainGlobals "reversed"=some none))
    (case n_sorted=>exact (by kernel_rfl:PySem.W.nsIn (My.hK w.params) mainGlobals "sorted"=some none))
    (case n_str=>exact (by kernel_rfl:PySem.W.nsIn (My.hK w.params) mainGlobals "str"=some none))
    (case n_sum=>exact (by kernel_rfl:PySem.W.nsIn (My.hK w.params) mainGlobals "sum"=some none))
    (case n_tuple=>exact (by kernel_rfl:PySem.W.nsIn (My.hK w.params) mainGlobals "tuple"=some none))
    (case n_zip=>exact (by kernel_rfl:PySem.W.nsIn (My.hK w.params) mainGlobals "zip"=some none))
    (case c_HOLDERS=>exact (by kernel_rfl:PySem.W.nsIn (My.hK w.params) mainGlobals "HOLDERS"=some (some (.ref 373))))
    (case o_HOLDERS=>exact (by kernel_rfl:(My.hK w.params).lookup 373=some ⟨.type "tuple",none,.seq #[(.str "row" 639),(.str "bag" 640),(.str "choice" 641),(.str "ring" 642)] 0,#[]⟩))
    (case t_HOLDERS=>exact ⟨rfl,rfl⟩)
    (case i_HOLDERS=>rfl)
    (case c_KEPT=>exact (by kernel_rfl:PySem.W.nsIn (My.hK w.params) mainGlobals "KEPT"=some (some (.ref 372))))
    (case o_KEPT=>exact (by kernel_rfl:(My.hK w.params).lookup 372=some ⟨.type "tuple",none,.seq #[(.str "nothing" 627),(.str "bead" 628),(.str "or" 629),(.str "by" 630),(.str "row" 631),(.str "bag" 632),(.str "choice" 633),(.str "ring" 634),(.str "of" 635),(.str "left" 636),(.str "right" 637)] 0,#[]⟩))
    (case t_KEPT=>exact ⟨rfl,rfl⟩)
    (case i_KEPT=>rfl)
    (case c_LETTERS=>exact (by kernel_rfl:PySem.W.nsIn (My.hK w.params) mainGlobals "LETTERS"=some (some (.str "abcdefghijklmnopqrstuvwxyz" 623))))
    (case c_LONGEST=>exact (by kernel_rfl:PySem.W.nsIn (My.hK w.params) mainGlobals "LONGEST"=some (some (.int 8 625))))
