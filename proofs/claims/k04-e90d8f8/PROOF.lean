import PyProof.Rows.All
import Wide.All
import OpenK.AllK
import Wide.FinOn
import Lean
import PyProof.EqAt
import PyProof.EqKinds
import PyProof.TupleCall
import KE.KSortTup
import PyProof.TupleKey
import PyProof.DictRoadsH
import KE.KLam
import KE.KNestM
import KE.KDflt
import KE.KMinKey
import PyProof.Rows.SetFrom
import PyProof.Rows.SortStr
import PyProof.Rows.SortWalk
import PySem.Challenge.RW_figurebook_k04_names_of_rules
set_option Elab.async false
set_option compiler.extract_closed false
set_option bootstrap.genMatcherCode false
set_option linter.all false
set_option maxRecDepth 100000
namespace L2
open PySem PySem.Spec PyProof.Rows
noncomputable abbrev Key:=Sum Int Str
noncomputable def keyIs:Key->Value->Bool
  | .inl k,v=>Value.isInt k v
  | .inr x,v=>Value.isStrOf x v
noncomputable def keyH (w:World):Key->Int
  | .inl k=>hashInt k
  | .inr x=>hashStr w x
theorem keyIs_shape:∀ {k:Key} {v:Value},keyIs k v=true->(∃ i t,k=Sum.inl i/\v=Value.int i t)\/(∃ x t,k=Sum.inr x/\v=Value.str x t)
  | .inl i,v,h=>by
    obtain ⟨t,e⟩:=Value.isInt_shape (k:=i) (v:=v) h
    exact .inl ⟨i,t,rfl,e⟩
  | .inr x,v,h=>by
    obtain ⟨t,e⟩:=Value.isStrOf_shape (x:=x) (v:=v) h
    exact .inr ⟨x,t,rfl,e⟩
theorem key_ll (a b:Int):decide ((Sum.inl a:Key)=Sum.inl b)=(a == b):=by
  by_cases e:a=b
  . subst e;simp
  . have h:¬ (Sum.inl a:Key)=Sum.inl b:=fun q=>e (Sum.inl.inj q)
    rw [decide_eq_false h]
    exact (beq_eq_false_iff_ne.mpr e).symm
theorem key_rr (a b:Str):decide ((Sum.inr a:Key)=Sum.inr b)=decide (a=b):=by
  by_cases e:a=b
  . subst e;simp
  . have h:¬ (Sum.inr a:Key)=Sum.inr b:=fun q=>e (Sum.inr.inj q)
    rw [decide_eq_false h,decide_eq_false e]
theorem key_lr (a:Int) (b:Str):decide ((Sum.inl a:Key)=Sum.inr b)=false:=decide_eq_false (fun q=>nomatch q)
theorem key_rl (a:Str) (b:Int):decide ((Sum.inr a:Key)=Sum.inl b)=false:=decide_eq_false (fun q=>nomatch q)
noncomputable def mixKind (prog:Program) (w:World):PySem.KeyKind prog w Key where
  is:=keyIs
  hash:=keyH w
  inj := fun v a b ha hb=>by
    rcases keyIs_shape ha with ⟨i,t,rfl,rfl⟩ | ⟨x,t,rfl,rfl⟩
    . rcases keyIs_shape hb with ⟨j,u,rfl,e⟩ | ⟨y,u,rfl,e⟩
      . injection e with e1 _;rw [e1]
      . exact nomatch e
    . rcases keyIs_shape hb with ⟨j,u,rfl,e⟩ | ⟨y,u,rfl,e⟩
      . exact nomatch e
      . injection e with e1 _;rw [e1]
  byValue:=fun k v h=>by
    rcases keyIs_shape h with ⟨i,t,rfl,rfl⟩ | ⟨x,t,rfl,rfl⟩ <;> rfl
  pyHash:=fun hv h=>by
    rcases keyIs_shape hv with ⟨i,t,rfl,rfl⟩ | ⟨x,t,rfl,rfl⟩
    . exact wpAny_pyHash_int h
    . exact wpAny_pyHash_str h
  eqBool:=fun hu hv h=>by
    rcases keyIs_shape hu with ⟨i,t,rfl,rfl⟩ | ⟨x,t,rfl,rfl⟩
    . rcases keyIs_shape hv with ⟨j,u,rfl,rfl⟩ | ⟨y,u,rfl,rfl⟩
      . rw [key_ll] at h;exact wpAny_eqBool_int h
      . rw [key_lr] at h;exact SeqAt.EqAt.int_str i t y u _ _ _ _ h
    . rcases keyIs_shape hv with ⟨j,u,rfl,rfl⟩ | ⟨y,u,rfl,rfl⟩
      . rw [key_rl] at h;exact SeqAt.EqAt.str_int x t j u _ _ _ _ h
      . rw [key_rr] at h;exact wpAny_eqBool_str h
  «strs»:=fun k x t v h=>by
    rcases keyIs_shape h with ⟨i,u,rfl,e⟩ | ⟨y,u,rfl,e⟩
    . exact nomatch e
    . injection e with e1 _
      subst e1
      cases v <;> rfl
end L2
namespace L2
open PySem PySem.Spec PyProof.Rows
inductive V where
  | non | bl (b:Bool) | int (i:Int) | str (x:Str) | byt (b:Array UInt8) | flt (b:UInt64) | ref (a:Addr) | ty (n:String)
  deriving DecidableEq
noncomputable def RelV:V->Value->Prop
  | .non,u=>u=Value.none
  | .bl b,u=>u=Value.bool b
  | .int i,u=>∃ t,u=Value.int i t
  | .str x,u=>∃ t,u=Value.str x t
  | .byt b,u=>∃ t,u=Value.bytes b t
  | .flt b,u=>∃ t,u=Value.float b t
  | .ref a,u=>u=Value.ref a
  | .ty n,u=>u=Value.type n
noncomputable abbrev Vals:List V->List Value->Prop:=Paired RelV
theorem Vals.length {xs:List V} {us:List Value} (r:Vals xs us):xs.length=us.length:=Paired.length r
theorem Vals.get:∀ {xs:List V} {us:List Value} {i:Nat} {x:V},Vals xs us->xs[i]? = some x->∃ u,us[i]? = some u/\RelV x u
  | _,_,_,_,.nil,e=>by simp at e
  | _,_,0,_,.cons r _,e=>by simp at e;subst e;exact ⟨_,rfl,r⟩
  | _, _,i + 1,x,.cons _ t,e=>by
    obtain ⟨u,h1,h2⟩:=Vals.get (i:=i) (x:=x) t (by simpa using e)
    exact ⟨u,by simpa using h1,h2⟩
theorem Vals.append:∀ {xs ys:List V} {us ws:List Value},Vals xs us->Vals ys ws->Vals (xs++ys) (us++ws)
  | _,_,_,_,.nil,s=>s
  | _,_,_,_,.cons r t,s=>.cons r (Vals.append t s)
theorem Vals.take:∀ {xs:List V} {us:List Value} (n:Nat),Vals xs us->Vals (xs.take n) (us.take n)
  | _,_,0,_=>.nil
  | _,_,_ + 1,.nil=>.nil
  | _,_,n + 1,.cons r t=>.cons r (Vals.take n t)
theorem Vals.drop:∀ {xs:List V} {us:List Value} (n:Nat),Vals xs us->Vals (xs.drop n) (us.drop n)
  | _,_,0,r=>r
  | _,_,_ + 1,.nil=>.nil
  | _,_,n + 1,.cons _ t=>Vals.drop n t
theorem Vals.none_of:∀ {xs:List V} {us:List Value} {i:Nat},Vals xs us->xs[i]? = none->us[i]? = none:=fun {xs us i} r e=>by
  have h1:=r.length
  have h2:xs.length<=i:=List.getElem?_eq_none_iff.mp e
  exact List.getElem?_eq_none_iff.mpr (by lia)
noncomputable def RelO:Option V->Option Value->Prop
  | some v,some u=>RelV v u
  | none,none=>True
  | _,_=>False
noncomputable def KV {κ:Type}:List (κ × V)->List (κ × Value)->Prop:=Paired fun (p:κ × V) (q:κ × Value)=>p.1=q.1/\RelV p.2 q.2
noncomputable def kV:Key->V
  | .inl i=>.int i
  | .inr x=>.str x
inductive HO where
  /-- a list -/
  | lst (xs:List V)
  /-- a tuple (never changes) -/
  | tup (xs:List V)
  /-- a dict whose keys are ints and texts;one whose keys are tuples of ints and texts (the empty one is both) -/
  | dK (kvs:List (Key × V)) | dT (kvs:List (List Key × V))
  /-- a set of ints: its members,its size -/
  | set (S:Int->Bool) (n:Nat)
  /-- an instance of the class at C,its dict at dx,its attributes -/
  | ins (C dx:Addr) (fs:List (Str × V))
  /-- the dict of the instance at x -/
  | own (x:Addr)
  /-- the dict of an exception -/
  | xd (fs:List (Str × V))
  /-- a bound method,f of x -/
  | met (f x:Addr)
  /-- a range object lo,lo + 1,.. below hi -/
  | rng (lo hi:Int)
  /-- a thing that is known to the object (the script;a dict while a loop walks it): read,never written while it is so -/
  | frz (o:Obj) (u:HO)
  /-- a code object's table -/
  | tbl (ps:Array Value)
  /-- any other thing,by what is true of its one object (a def of one's own: SetO a S n:=HO.ext fun h=>..) -/
  | ext (φ:Heap->Prop)
noncomputable abbrev Hp:=Addr->Option HO
noncomputable def upd (H:Hp) (a:Addr) (o:HO):Hp:=fun b=>if b=a then some o else H b
theorem upd_same {H:Hp} {a:Addr} {o:HO}:upd H a o a=some o:=by unfold upd;rw [if_pos rfl]
theorem upd_ne {H:Hp} {a b:Addr} {o:HO} (h:b≠a):upd H a o b=H b:=by unfold upd;rw [if_neg h]
theorem ne_of {H:Hp} {a b:Addr} {o u:HO} (h:H a=some o) (h':H b=some u) (d:o≠u):a≠b:=by
  intro e;subst e;rw [h] at h';exact d (Option.some.inj h')
theorem ne_of_none {H:Hp} {a b:Addr} {o:HO} (h:H a=some o) (h':H b=none):a≠b:=by
  intro e;subst e;rw [h] at h';cases h'
section
variable (P:Program) (w:World)
noncomputable def ObjOk (H:Hp) (h:Heap) (a:Addr):HO->Prop
  | .lst xs=>xs.length<=sizeLine/\∃ (its:List Value) (n:Nat),Vals xs its/\h.get? a=some { cls:=.type "list",data:=.seq its.toArray n }
  | .tup xs=>xs.length<=sizeLine/\∃ its:List Value,Vals xs its/\IsTup h a its.toArray
  | .dK kvs=>kvs.length<=sizeLine/\(a == sysModules)=false/\∃ vs,KV kvs vs/\h.DictOf (mixKind P w) a vs
  | .dT kvs=>kvs.length<=sizeLine/\(a == sysModules)=false/\∃ xs:List (List Key × Addr × Value),
      Paired (fun (p:List Key × V) (q:List Key × Addr × Value)=>p.1=q.1/\H q.2.1=some (.tup (p.1.map kV))/\RelV p.2 q.2.2) kvs xs /\
      ∃ o es ep,h.get? a=some o/\o.ExactDict/\o.data=.dict es ep/\es.toList=xs.map (entryOfKey (tupleKind (mixKind P w)))/\(xs.map (·.1)).Nodup
  | .set S n=>h.SetOf (intKind P w) a S n
  | .ins C dx fs=>H dx=some (.own a)/\fs.length<=1000/\dx≠a/\h.get? a=some (PySem.W.instObj C dx) /\
      ∃ mA,h.Ns1 dx mA/\(∀ f,RelO (fs.lookup f) (mA f))/\PySem.Within mA (fs.map (·.1))
  | .own _=>∃ o,h.get? a=some o
  | .xd fs=>∃ mA,h.Ns1 a mA/\∀ f,RelO (fs.lookup f) (mA f)
  | .rng lo hi=>∃ t u v,h.get? a=some { cls:=.type "range",data:=.fields #[.int lo t,.int hi u,.int 1 v] }
  | .frz o u=>h.get? a=some o/\ObjOk H h a u
  | .tbl ps=>h.get? a=some { cls:=.none,data:=.fields ps }
  | .met f x=>h.get? a=some (PySem.W.methodObj (.ref f) (.ref x))
  | .ext φ=>φ h/\(∃ o,h.get? a=some o)/\∀ h1 h2:Heap,φ h1->(∀ o,h1.get? a=some o->h2.get? a=some o)->φ h2
noncomputable def HOk (H:Hp) (h:Heap):Prop:=∀ a o,H a=some o->ObjOk P w H h a o
end
section
variable {P:Program} {w:World} {H H':Hp} {h h':Heap} {a:Addr} {o:HO}
theorem ObjOk.lt (x:ObjOk P w H h a o):a < h.objs.size:=by
  cases o with
  | lst xs=>obtain ⟨_,_,_,_,e⟩:=x;exact Heap.lt_size e
  | tup xs=>obtain ⟨_,_,_,p⟩:=x;exact p.lt
  | dK kvs=>obtain ⟨_,_,_,_,o,_,_,e,_⟩:=x;exact Heap.lt_size e
  | dT kvs=>obtain ⟨_,_,_,_,o,_,_,e,_⟩:=x;exact Heap.lt_size e
  | set S n=>obtain ⟨o,_,_,_,e,_⟩:=x;exact Heap.lt_size e
  | ins C dx fs=>obtain ⟨_,_,_,e,_⟩:=x;exact Heap.lt_size e
  | own y=>obtain ⟨_,e⟩:=x;exact Heap.lt_size e
  | xd fs=>obtain ⟨_,⟨_,_,_,e,_⟩,_⟩:=x;exact Heap.lt_size e
  | rng lo hi=>obtain ⟨_,_,_,e⟩:=x;exact Heap.lt_size e
  | frz ob u=>obtain ⟨e,_⟩:=x;exact Heap.lt_size e
  | tbl ps=>exact Heap.lt_size (show h.get? a=some _ from x)
  | met f y=>exact Heap.lt_size (show h.get? a=some _ from x)
  | ext φ=>obtain ⟨_,⟨_,e⟩,_⟩:=x;exact Heap.lt_size e
theorem Paired.mapP {α β:Type} {F G:α->β->Prop}:∀ {l₁:List α} {l₂:List β},Paired F l₁ l₂->(∀ a b,F a b->G a b)->Paired G l₁ l₂
  | _,_,.nil,_=>.nil
  | _,_,.cons r t,f=>.cons (f _ _ r) (Paired.mapP t f)
theorem ObjOk.stay (x:ObjOk P w H h a o) (k:∀ b u,(b=a\/H b=some (.own a))->h.get? b=some u->h'.get? b=some u)
    (ho:∀ b,H b=some (.own a)->H' b=some (.own a)) (ht:∀ b xs,H b=some (.tup xs)->H' b=some (.tup xs)):ObjOk P w H' h' a o:=by
  induction o with
  | lst xs=>obtain ⟨z,its,n,r,e⟩:=x;exact ⟨z,its,n,r,k _ _ (.inl rfl) e⟩
  | tup xs=>obtain ⟨z,its,r,ob,e,c⟩:=x;exact ⟨z,its,r,ob,k _ _ (.inl rfl) e,c⟩
  | dK kvs=>obtain ⟨z,y,vs,r,ob,es,ep,e,c⟩:=x;exact ⟨z,y,vs,r,ob,es,ep,k _ _ (.inl rfl) e,c⟩
  | dT kvs =>
    obtain ⟨z,y,xs,r,ob,es,ep,e,c⟩:=x
    exact ⟨z,y,xs,Paired.mapP r fun p q z=>⟨z.1,ht _ _ z.2.1,z.2.2⟩,ob,es,ep,k _ _ (.inl rfl) e,c⟩
  | set S n=>obtain ⟨ob,es,ep,t,e,c⟩:=x;exact ⟨ob,es,ep,t,k _ _ (.inl rfl) e,c⟩
  | ins C dx fs =>
    obtain ⟨d,z,ne,e,mA,⟨od,es,ep,e2,c⟩,r⟩:=x
    exact ⟨ho _ d,z,ne,k _ _ (.inl rfl) e,mA,⟨od,es,ep,k _ _ (.inr d) e2,c⟩,r⟩
  | own y=>obtain ⟨ob,e⟩:=x;exact ⟨ob,k _ _ (.inl rfl) e⟩
  | xd fs=>obtain ⟨mA,⟨od,es,ep,e,c⟩,r⟩:=x;exact ⟨mA,⟨od,es,ep,k _ _ (.inl rfl) e,c⟩,r⟩
  | rng lo hi=>obtain ⟨t,u,v,e⟩:=x;exact ⟨t,u,v,k _ _ (.inl rfl) e⟩
  | frz ob u ih=>obtain ⟨e,q⟩:=x;exact ⟨k _ _ (.inl rfl) e,ih q⟩
  | tbl ps =>
    have e:h.get? a=some { cls:=.none,data:=.fields ps }:=x
    show h'.get? a=some { cls:=.none,data:=.fields ps }
    exact k a _ (.inl rfl) e
  | met f y =>
    have e:h.get? a=some (PySem.W.methodObj (.ref f) (.ref y)):=x
    show h'.get? a=some (PySem.W.methodObj (.ref f) (.ref y))
    exact k a _ (.inl rfl) e
  | ext φ=>obtain ⟨p,⟨o,e⟩,st⟩:=x;exact ⟨st _ _ p fun o q=>k _ _ (.inl rfl) q,⟨o,k _ _ (.inl rfl) e⟩,st⟩
theorem HOk.lt (x:HOk P w H h) (e:H a=some o):a < h.objs.size:=(x a o e).lt
theorem HOk.fresh (x:HOk P w H h) (e:h.objs.size<=a):H a=none:=by
  cases q:H a with
  | none=>rfl
  | some u=>exact absurd (Nat.lt_of_lt_of_le (x.lt q) e) (Nat.lt_irrefl _)
theorem HOk.kept (x:HOk P w H h) (k:∀ b u,h.get? b=some u->h'.get? b=some u):HOk P w H h':=fun a o e =>
  (x a o e).stay (fun b u _ q=>k b u q) (fun _ q=>q) fun _ _ q=>q
theorem HOk.laid (x:HOk P w H h) (k:∀ b u,h.get? b=some u->h'.get? b=some u) (hp:h.objs.size<=a) (new:ObjOk P w (upd H a o) h' a o):HOk P w (upd H a o) h':=fun b u e=>by
  have hn:=x.fresh hp
  by_cases hb:b=a
  . subst hb;rw [upd_same] at e;cases e;exact new
  . rw [upd_ne hb] at e
    exact (x b u e).stay (fun c v _ q=>k c v q) (fun c q=>by rw [upd_ne (ne_of_none q hn)];exact q) fun c xs q=>by rw [upd_ne (ne_of_none q hn)];exact q
end
noncomputable def Rd (H:Hp) (a:Addr) (u:HO):Prop:=H a=some u\/∃ o,H a=some (.frz o u)
theorem Rd.ok {P:Program} {w:World} {H:Hp} {h:Heap} {a:Addr} {u:HO} (r:Rd H a u) (x:HOk P w H h):ObjOk P w H h a u:=by
  rcases r with r | ⟨o,r⟩
  . exact x a u r
  . obtain ⟨_,q⟩:=x a _ r
    exact q
noncomputable def Mut:Option HO->Prop
  | some (.lst _)=>True
  | some (.dK _)=>True
  | some (.dT _)=>True
  | some (.set _ _)=>True
  | some (.ins _ _ _)=>True
  | some (.ext _)=>True
  | _=>False
section
variable {P:Program} {w:World} {H:Hp} {h h':Heap} {x e:Addr} {o':HO}
theorem HOk.write (ok:HOk P w H h) (mu:Mut (H x)) (he:e=x\/H e=some (.own x)) (k:∀ b u,b≠e->h.get? b=some u->h'.get? b=some u) (heo:∃ u,h'.get? e=some u)
    (new:ObjOk P w (upd H x o') h' x o'):HOk P w (upd H x o') h':=fun b u q=>by
  have nown:∀ c y,H c=some (.own y)->c≠x:=fun c y r z=>by subst z;rw [r] at mu;exact mu
  have ntup:∀ c xs,H c=some (.tup xs)->c≠x:=fun c xs r z=>by subst z;rw [r] at mu;exact mu
  by_cases hb:b=x
  . subst hb;rw [upd_same] at q;cases q;exact new
  . rw [upd_ne hb] at q
    by_cases hbe:b=e
    . have q':H b=some (.own x):=by
        rcases he with z | z
        . exact absurd (hbe.trans z) hb
        . rw [hbe];exact z
      rw [q] at q';cases q'
      obtain ⟨v,hv⟩:=heo
      exact ⟨v,by rw [hbe];exact hv⟩
    . refine (ok b u q).stay (fun c v hc r=>k c v ?_ r) (fun c r=>by rw [upd_ne (nown c b r)];exact r) fun c xs r=>by rw [upd_ne (ntup c xs r)];exact r
      rcases hc with rfl | hc
      . exact hbe
      . rintro rfl
        rcases he with z | z
        . exact nown c b hc z
        . rw [hc] at z;cases z;exact hb rfl
end
structure Un (fs ex:List Addr) (H H':Hp) (h h':Heap):Prop where
  keep:∀ b o,h.get? b=some o->H b=none->b ∉ fs->b ∉ ex->h'.get? b=some o
  slot:∀ b o,h.get? b=some o->H b=none->b∈fs->b ∉ ex->∃ sl,h'.get? b=some { o with slots:=sl }
  free:∀ b o,h.get? b=some o->H b=none->b ∉ ex->H' b=none
  there:∀ b o,h.get? b=some o->b ∉ ex->∃ o',h'.get? b=some o'
  tups:∀ b xs,H b=some (.tup xs)->H' b=some (.tup xs)
  frzs:∀ b o u,H b=some (.frz o u)->H' b=some (.frz o u)
  tbls:∀ b ps,H b=some (.tbl ps)->∃ more,H' b=some (.tbl (ps++more))
section
variable {fs fs' ex ex':List Addr} {H H1 H2:Hp} {h h1 h2 h':Heap} {a x e:Addr} {o:HO}
theorem Un.any (u:Un fs ex H H1 h h1) {b:Addr} {ob:Obj} (q:h.get? b=some ob) (n:H b=none) (hx:b ∉ ex):∃ sl,h1.get? b=some { ob with slots:=sl }:=by
  by_cases hb:b∈fs
  . exact u.slot b ob q n hb hx
  . exact ⟨ob.slots,u.keep b ob q n hb hx⟩
theorem Un.kept (k:∀ b u,h.get? b=some u->h'.get? b=some u):Un fs ex H H h h' :=
  ⟨fun b ob q _ _ _=>k b ob q,fun b ob q _ _ _=>⟨ob.slots,k b ob q⟩,fun _ _ _ n _=>n,fun b ob q _=>⟨ob,k b ob q⟩,fun _ _ q=>q,fun _ _ _ q=>q,fun _ ps q=>⟨#[],by rw [q];simp⟩⟩
theorem Un.refl:Un fs ex H H h h:=Un.kept fun _ _ q=>q
theorem Un.laid (k:∀ b u,h.get? b=some u->h'.get? b=some u) (hp:h.objs.size<=a) (hn:H a=none):Un fs ex H (upd H a o) h h' where
  keep:=fun b u q _ _ _=>k b u q
  slot:=fun b u q _ _ _=>⟨u.slots,k b u q⟩
  free:=fun b u q n _=>by rw [upd_ne (Nat.ne_of_lt (Nat.lt_of_lt_of_le (Heap.lt_size q) hp))];exact n
  there:=fun b u q _=>⟨u,k b u q⟩
  tups:=fun b xs q=>by rw [upd_ne (ne_of_none q hn)];exact q
  frzs:=fun b u xs q=>by rw [upd_ne (ne_of_none q hn)];exact q
  tbls:=fun b ps q=>⟨#[],by rw [upd_ne (ne_of_none q hn),q];simp⟩
theorem Un.write (mu:Mut (H x)) (he:e=x\/H e=some (.own x)) (k:∀ b u,b≠e->h.get? b=some u->h'.get? b=some u) (heo:∃ u,h'.get? e=some u):Un fs ex H (upd H x o) h h':=by
  have hx:∀ b,H b=none->b≠x:=fun b n z=>by subst z;rw [n] at mu;exact mu
  have hb:∀ b,H b=none->b≠e:=fun b n z=>by
    subst z
    rcases he with r | r
    . exact hx b n r
    . rw [n] at r;cases r
  have hm:∀ b u,H b=some u->¬ Mut (some u)->b≠x:=fun b u q nm z=>by subst z;rw [q] at mu;exact nm mu
  refine ⟨fun b u q n _ _=>k b u (hb b n) q,fun b u q n _ _=>⟨u.slots,k b u (hb b n) q⟩,fun b u q n _=>by rw [upd_ne (hx b n)];exact n,fun b u q _=>?_,
    fun b xs q=>by rw [upd_ne (hm b _ q fun z=>z)];exact q,fun b u xs q=>by rw [upd_ne (hm b _ q fun z=>z)];exact q,fun b ps q=>⟨#[],by rw [upd_ne (hm b _ q fun z=>z),q];simp⟩⟩
  by_cases hbe:b=e
  . subst hbe;exact heo
  . exact ⟨u,k b u hbe q⟩
end
noncomputable def trk (h:Heap) (H:Hp):List Addr:=(List.range h.objs.size).filter fun a=>(H a).isSome
noncomputable def hidT (h:Heap) (H:Hp):Heap:=PySem.W.hideAll h (trk h H)
theorem hidT_size (h:Heap) (H:Hp):(hidT h H).objs.size=h.objs.size:=PySem.W.hideAll_size _ _
theorem hidT_get {h:Heap} {H:Hp} {b:Addr} {o:Obj} (e:h.get? b=some o) (n:H b=none):(hidT h H).get? b=some o :=
  PySem.W.hideAll_get _ e fun hm=>by
    have q:(H b).isSome=true:=(List.mem_filter.mp hm).2
    rw [n] at q;simp at q
theorem of_hidT {h:Heap} {H:Hp} {b:Addr} {o:Obj} (e:(hidT h H).get? b=some o):h.get? b=some o/\H b=none:=by
  have e':h.get? b=some o:=PySem.W.of_hideAll (trk h H) e
  refine ⟨e',?_⟩
  cases q:H b with
  | none=>rfl
  | some x =>
    have hm:b∈trk h H:=List.mem_filter.mpr ⟨List.mem_range.mpr (Heap.lt_size e'),by simp [q]⟩
    have z:(hidT h H).get? b=none:=PySem.W.hideAll_none (trk h H) hm
    rw [z] at e;cases e
noncomputable def allNews (g h:Heap) (L:Addr):List (Addr × Obj):=(List.range h.objs.size).filterMap fun a=>if a=L\/(g.get? a).isSome=true then none else (h.get? a).map fun o=>(a,o)
noncomputable def rest (g h:Heap) (L d:Addr):List (Addr × Obj):=(allNews g h L).filter fun p=>decide (p.1≠d)
end L2
namespace L2
open PySem PySem.Spec PyProof.Rows
structure Mod (K:PySem.W.Frag) (mg:Str->Option Value) (base:Heap):Prop where
  kin:K.In base
  glob:base.Ns mainGlobals mg
  blt:∃ mb,base.Ns builtinsNs mb/\∀ x:Str,x≠"__name__"->mb x=bootBuiltins x
  nolimit:base.NoLimit
structure Cx where
  prog:Program
  w : World
  K : PySem.W.Frag
  mg:Str->Option Value
  base:Heap
  A : Around
  N : List Str
  s₀:Shared
  H₀:Hp
  env:Env
  outer:List Env
  stack:List Env
  ex:List Addr
  fn:Str->Bool
  calm:Bool
  pn:List (Addr × Obj)
  xe:Value->Shared->Prop
noncomputable def frs (l:List Env):List Addr:=l.filterMap (·.frame)
noncomputable abbrev Cx.fs (X:Cx):List Addr:=frs X.outer
noncomputable def Vis (sc:Scope) (x:Str):Prop:=sc.names.lookup x=some .local\/sc.names.lookup x=some .cell\/sc.names.lookup x=some .free
noncomputable def Loc (sc:Scope) (x:Str):Prop:=sc.names.lookup x=some .local\/sc.names.lookup x=some .cell
noncomputable def Look (env:Env) (h:Heap) (m:Str->Option Value) (x:Str) (u:Value):Prop :=
  (env.kindOf x=some .local/\m x=some u)\/((env.kindOf x=some .cell\/env.kindOf x=some .free)/\∃ c,env.cells.lookup x=some c/\h.IsCell c (some u))
structure Cx.Ok (X:Cx):Prop where
  mod:Mod X.K X.mg X.base
  kind:X.env.scope.kind=.function
  glob:X.env.globals=mainGlobals
  blt:X.env.builtins=builtinsNs
  above:X.s₀.heap.objs.size<=X.env.locals
  inj:∀ x y c,X.env.cells.lookup x=some c->X.env.cells.lookup y=some c->x=y
  has:∀ x,(X.env.kindOf x=some .cell\/X.env.kindOf x=some .free)->∃ c,X.env.cells.lookup x=some c
  cab:∀ x c,X.fn x=true->X.env.cells.lookup x=some c->X.s₀.heap.objs.size<=c
  hd:X.calm=true->X.A.handled=none
  frames:X.A.frames=some X.stack
  stk:X.stack=X.outer\/(X.stack=X.env::X.outer/\X.env.frame=some X.env.locals)
  exf:∀ b∈X.ex,b≠X.env.locals/\∀ x c,X.env.cells.lookup x=some c->c≠b
  bs:∀ b o,X.base.get? b=some o->X.s₀.heap.get? b=some o/\X.H₀ b=none
  bsz:X.base.objs.size<=X.s₀.heap.objs.size
  noex:∀ b o,X.base.get? b=some o->b ∉ X.ex
  exfs:∀ b∈X.ex,b ∉ X.fs
  funs:X.s₀.heap.FunFrames X.base X.outer
  frf:∀ b∈X.fs,X.H₀ b=none
structure Inv (X:Cx) (pins:List (Addr × Obj)) (σ:List (Option V)) (H:Hp) (s:Shared):Prop where
  ok:X.Ok
  os:s.os=X.s₀.os
  bare:AllBare s.gens
  base:Un X.fs X.ex X.H₀ H X.s₀.heap s.heap
  loc:∃ m,s.heap.Ns X.env.locals m/\∀ (i:Nat) (x:Str) (v:V),X.N[i]? = some x->σ[i]? = some (some v)->Vis X.env.scope x->∃ u,RelV v u/\Look X.env s.heap m x u
  cell:∀ x c,X.env.cells.lookup x=some c->∃ v,s.heap.IsCell c v
  free:H X.env.locals=none
  freeC:∀ x c,X.env.cells.lookup x=some c->H c=none
  pin:∀ p∈X.pn++pins,s.heap.get? p.1=some p.2/\H p.1=none/\p.1≠X.env.locals/\p.1 ∉ X.fs/\∀ v,p.2.data≠.cell v
  hok:HOk X.prog X.w H s.heap
  len:σ.length=X.N.length
section
variable {X:Cx} {pins:List (Addr × Obj)} {σ:List (Option V)} {H H':Hp} {s:Shared} {h':Heap}
theorem Cx.Ok.nofr (ok:X.Ok) {b:Addr} {o:Obj} (e:X.base.get? b=some o):b ∉ X.fs:=fun hb=>by
  have:=(ok.funs.mem hb).1
  rw [e] at this;cases this
theorem Inv.bs (I:Inv X pins σ H s):∀ b o,X.base.get? b=some o->s.heap.get? b=some o/\H b=none:=fun b o e =>
  ⟨I.base.keep b o (I.ok.bs b o e).1 (I.ok.bs b o e).2 (I.ok.nofr e) (I.ok.noex b o e),I.base.free b o (I.ok.bs b o e).1 (I.ok.bs b o e).2 (I.ok.noex b o e)⟩
theorem Inv.bk (I:Inv X pins σ H s):∀ b o,X.base.get? b=some o->s.heap.get? b=some o:=fun b o e=>(I.bs b o e).1
theorem Inv.mod (I:Inv X pins σ H s):Mod X.K X.mg X.base:=I.ok.mod
theorem Inv.kIn (I:Inv X pins σ H s):X.K.In s.heap:=I.ok.mod.kin.keeps I.bk
theorem Inv.lt (I:Inv X pins σ H s):X.env.locals < s.heap.objs.size:=let ⟨_,hn,_⟩:=I.loc;hn.lt
theorem Inv.sz (I:Inv X pins σ H s):X.s₀.heap.objs.size<=s.heap.objs.size:=Nat.le_trans I.ok.above (Nat.le_of_lt I.lt)
theorem Inv.nofs (I:Inv X pins σ H s) {a:Addr} (h:s.heap.objs.size<=a):a ∉ X.fs:=fun hb=>by
  obtain ⟨_,o,ho,_⟩:=I.ok.funs.mem hb
  exact absurd (Nat.lt_of_lt_of_le (Heap.lt_size ho) (Nat.le_trans I.sz h)) (Nat.lt_irrefl _)
theorem Inv.cne (I:Inv X pins σ H s):∀ x c,X.env.cells.lookup x=some c->c≠X.env.locals:=fun x c e z=>by
  obtain ⟨v,o,ho,hd⟩:=I.cell x c e
  obtain ⟨m,⟨o',es,ep,ho',hd',_⟩,_⟩:=I.loc
  rw [z,ho'] at ho;cases ho;rw [hd'] at hd;cases hd
theorem Inv.funs (I:Inv X pins σ H s):s.heap.FunFrames X.base X.outer:=by
  have all:∀ (l:List Env),(∀ b∈frs l,b∈X.fs)->X.s₀.heap.FunFrames X.base l->s.heap.FunFrames X.base l:=by
    intro l
    induction l with
    | nil=>intro _ _;trivial
    | cons env r ih =>
      intro hs hl
      obtain ⟨hk,⟨L,o,hf,hn,ho,hd⟩,hr⟩:=hl
      have hL:L∈X.fs:=hs L (by unfold frs;rw [List.filterMap_cons,hf];exact List.mem_cons_self)
      obtain ⟨sl,e⟩:=I.base.slot L o ho (I.ok.frf L hL) hL fun z=>I.ok.exfs L z hL
      exact ⟨hk,⟨L,_,hf,hn,e,hd⟩,ih (fun b hb=>hs b (by unfold frs;rw [List.filterMap_cons,hf];exact List.mem_cons_of_mem _ hb)) hr⟩
  exact all X.outer (fun _ hb=>hb) I.ok.funs
theorem Inv.stack (I:Inv X pins σ H s):s.heap.FunFrames X.base X.stack:=by
  rcases I.ok.stk with e | ⟨e,hf⟩
  . rw [e];exact I.funs
  . rw [e]
    obtain ⟨m,hn,_⟩:=I.loc
    refine .cons (by rw [I.ok.kind];decide) hf hn ?_ I.funs
    exact Heap.get?_none_of_le (Nat.le_trans I.ok.bsz I.ok.above)
theorem Inv.stkSub (I:Inv X pins σ H s):∀ b∈frs X.stack,b∈X.env.locals::X.fs:=fun b hb=>by
  rcases I.ok.stk with e | ⟨e,hf⟩
  . rw [e] at hb;exact List.mem_cons_of_mem _ hb
  . rw [e] at hb
    unfold frs at hb
    rw [List.filterMap_cons,hf] at hb
    exact hb
theorem Inv.stkFree (I:Inv X pins σ H s):∀ b∈frs X.stack,H b=none:=fun b hb=>by
  rcases List.mem_cons.mp (I.stkSub b hb) with e | hb
  . rw [e];exact I.free
  . obtain ⟨_,o,ho,_⟩:=I.ok.funs.mem hb
    exact I.base.free b o ho (I.ok.frf b hb) fun z=>I.ok.exfs b z hb
theorem Inv.step {g':Array GenState} {t':Nat} {d':Drawn} {ch:List Addr} (I:Inv X pins σ H s)
    (hch:∀ b∈ch,(b∈X.ex\/X.s₀.heap.objs.size<=b)/\b≠X.env.locals/\(∀ x c,X.env.cells.lookup x=some c->c≠b)/\∀ p∈X.pn++pins,p.1≠b)
    (keep:∀ b o,b≠X.env.locals->b ∉ X.fs->b ∉ ch->s.heap.get? b=some o->H b=none->h'.get? b=some o)
    (slot:∀ b o,b≠X.env.locals->b∈X.fs->b ∉ ch->s.heap.get? b=some o->H b=none->∃ sl,h'.get? b=some { o with slots:=sl }) (free:∀ b o,b ∉ ch->s.heap.get? b=some o->H b=none->H' b=none)
    (there:∀ b o,b ∉ ch->s.heap.get? b=some o->∃ o',h'.get? b=some o')
    (tups:∀ b xs,H b=some (.tup xs)->H' b=some (.tup xs)) (frzs:∀ b o u,H b=some (.frz o u)->H' b=some (.frz o u)) (tbls:∀ b ps,H b=some (.tbl ps)->∃ more,H' b=some (.tbl (ps++more)))
    (ns:∀ m,s.heap.Ns X.env.locals m->h'.Ns X.env.locals m) (hok:HOk X.prog X.w H' h') (hg:AllBare g') :
    Inv X pins σ H' { s with heap:=h',gens:=g',drawn:=d',toks:=t' }:=by
  have neL:∀ b o,X.s₀.heap.get? b=some o->b≠X.env.locals:=fun b o e=>Nat.ne_of_lt (Nat.lt_of_lt_of_le (Heap.lt_size e) I.ok.above)
  have neC:∀ b o,X.s₀.heap.get? b=some o->b ∉ X.ex->b ∉ ch:=fun b o e hx hb=>by
    rcases (hch b hb).1 with z | z
    . exact hx z
    . exact absurd (Nat.lt_of_lt_of_le (Heap.lt_size e) z) (Nat.lt_irrefl _)
  have cellK:∀ x c,X.env.cells.lookup x=some c->∀ v,s.heap.IsCell c v->h'.IsCell c v:=fun x c e v hq0=>by
    obtain ⟨o,ho,hd⟩:=hq0
    have nch:c ∉ ch:=fun z=>(hch c z).2.2.1 x c e rfl
    by_cases hc:c∈X.fs
    . obtain ⟨sl,q⟩:=slot c o (I.cne x c e) hc nch ho (I.freeC x c e)
      exact ⟨_,q,hd⟩
    . exact ⟨o,keep c o (I.cne x c e) hc nch ho (I.freeC x c e),hd⟩
  refine ⟨I.ok,I.os,hg,⟨fun b o e n hb hx=>?_,fun b o e n hb hx=>?_,fun b o e n hx=>?_,fun b o e hx=>?_,fun b xs e=>tups b xs (I.base.tups b xs e),fun b o xs e=>frzs b o xs (I.base.frzs b o xs e),fun b ps e=>?_⟩,?_,fun x c e=>?_,?_,fun x c e=>?_,fun p hp=>?_,hok,I.len⟩
  . exact keep b o (neL b o e) hb (neC b o e hx) (I.base.keep b o e n hb hx) (I.base.free b o e n hx)
  . obtain ⟨sl,e1⟩:=I.base.slot b o e n hb hx
    obtain ⟨sl',e2⟩:=slot b _ (neL b o e) hb (neC b o e hx) e1 (I.base.free b o e n hx)
    exact ⟨sl',e2⟩
  . obtain ⟨o',e1⟩:=I.base.there b o e hx
    exact free b o' (neC b o e hx) e1 (I.base.free b o e n hx)
  . obtain ⟨o',e1⟩:=I.base.there b o e hx
    exact there b o' (neC b o e hx) e1
  . obtain ⟨m1,e1⟩:=I.base.tbls b ps e
    obtain ⟨m2,e2⟩:=tbls b _ e1
    exact ⟨m1++m2,by rw [e2,Array.append_assoc]⟩
  . obtain ⟨m,hn,hl⟩:=I.loc
    refine ⟨m,ns m hn,fun i x v e1 e2 e3=>?_⟩
    obtain ⟨u,r,l⟩:=hl i x v e1 e2 e3
    refine ⟨u,r,?_⟩
    rcases l with l | ⟨k,c,e,z⟩
    . exact .inl l
    . exact .inr ⟨k,c,e,cellK x c e _ z⟩
  . obtain ⟨v,z⟩:=I.cell x c e
    exact ⟨v,cellK x c e v z⟩
  . obtain ⟨m,⟨o,_,_,ho,_⟩,_⟩:=I.loc
    exact free _ o (fun z=>(hch _ z).2.1 rfl) ho I.free
  . obtain ⟨v,o,ho,hd⟩:=I.cell x c e
    exact free c o (fun z=>(hch c z).2.2.1 x c e rfl) ho (I.freeC x c e)
  . obtain ⟨e,n,ne,nf,d⟩:=I.pin p hp
    have nch:p.1 ∉ ch:=fun z=>(hch p.1 z).2.2.2 p hp rfl
    exact ⟨keep p.1 p.2 ne nf nch e n,free p.1 p.2 nch e n,ne,nf,d⟩
theorem Inv.un {t':Nat} (I:Inv X pins σ H s) (u:Un X.fs [] H H' s.heap h') (hok:HOk X.prog X.w H' h'):Inv X pins σ H' { s with heap:=h',toks:=t' }:=by
  obtain ⟨m,⟨o,es,ep,ho,r⟩,_⟩:=id I.loc
  obtain ⟨sl,hL⟩:=u.any ho I.free (by simp)
  exact I.step (g':=s.gens) (d':=s.drawn) (ch:=[]) (fun _ z=>nomatch z) (fun b o _ hb _ e n=>u.keep b o e n hb (by simp)) (fun b o _ hb _ e n=>u.slot b o e n hb (by simp)) (fun b o _ e n=>u.free b o e n (by simp)) (fun b o _ e=>u.there b o e (by simp)) u.tups u.frzs u.tbls (fun m' hm=>by
    obtain ⟨o',es',ep',ho',r'⟩:=hm
    rw [ho] at ho';cases ho'
    exact ⟨_,es',ep',hL,r'⟩) hok I.bare
theorem Inv.call {g':Array GenState} {t':Nat} {d':Drawn} {ch:List Addr} (I:Inv X pins σ H s) (u:Un (frs X.stack) ch H H' s.heap h') (hok:HOk X.prog X.w H' h') (hg:AllBare g')
    (hch:∀ b∈ch,(b∈X.ex\/X.s₀.heap.objs.size<=b)/\b≠X.env.locals/\(∀ x c,X.env.cells.lookup x=some c->c≠b)/\∀ p∈X.pn++pins,p.1≠b) :
    Inv X pins σ H' { s with heap:=h',gens:=g',drawn:=d',toks:=t' }:=by
  obtain ⟨m,⟨o,es,ep,ho,r⟩,_⟩:=id I.loc
  obtain ⟨sl,hL⟩:=u.any ho I.free fun z=>(hch _ z).2.1 rfl
  exact I.step (ch:=ch) hch (fun b o hL hb hc e n=>u.keep b o e n (fun z=>(List.mem_cons.mp (I.stkSub b z)).elim hL hb) hc) (fun b o _ _ hc e n=>u.any e n hc) (fun b o hc e n=>u.free b o e n hc) (fun b o hc e=>u.there b o e hc) u.tups u.frzs u.tbls (fun m' hm=>by
    obtain ⟨o',es',ep',ho',r'⟩:=hm
    rw [ho] at ho';cases ho'
    exact ⟨_,es',ep',hL,r'⟩) hok hg
theorem Inv.turned {t':Nat} {it:Addr} (I:Inv X pins σ H s) (k:∀ b o,b≠it->s.heap.get? b=some o->h'.get? b=some o) (hn:H it=none) (hL:it≠X.env.locals)
    (h1:it∈X.ex\/X.s₀.heap.objs.size<=it) (h2:∀ x c,X.env.cells.lookup x=some c->c≠it) (h3:∀ p∈X.pn++pins,p.1≠it):Inv X pins σ H { s with heap:=h',toks:=t' }:=by
  have nit:∀ b u,H b=some u->b≠it:=fun b u e z=>by rw [z,hn] at e;cases e
  refine I.step (g':=s.gens) (d':=s.drawn) (ch:=[it]) (fun b hb=>?_) (fun b o _ _ hc e _=>k b o (fun z=>hc (by simp [z])) e) (fun b o _ _ hc e _=>⟨o.slots,k b o (fun z=>hc (by simp [z])) e⟩) (fun _ _ _ _ n=>n)
    (fun b o hc e=>⟨o,k b o (fun z=>hc (by simp [z])) e⟩) (fun _ _ e=>e) (fun _ _ _ e=>e) (fun b ps e=>⟨#[],by rw [e];simp⟩) (fun m hm=>?_) (fun b u e=>?_) I.bare
  . have e:b=it:=by simpa using hb
    subst e
    exact ⟨h1,hL,h2,h3⟩
  . obtain ⟨o,es,ep,ho,r⟩:=hm
    exact ⟨o,es,ep,k _ o (Ne.symm hL) ho,r⟩
  . refine (I.hok b u e).stay (fun c v hc q=>k c v ?_ q) (fun _ q=>q) fun _ _ q=>q
    rcases hc with z | z
    . rw [z];exact nit b u e
    . exact nit c _ z
theorem Inv.tok (I:Inv X pins σ H s) (t:Nat):Inv X pins σ H { s with toks:=t }:=I.un (h':=s.heap) (t':=t) Un.refl I.hok
theorem Inv.kept {t':Nat} (I:Inv X pins σ H s) (k:∀ b u,s.heap.get? b=some u->h'.get? b=some u):Inv X pins σ H { s with heap:=h',toks:=t' }:=I.un (Un.kept k) (I.hok.kept k)
theorem Inv.laid {a:Addr} {o:HO} {t':Nat} (I:Inv X pins σ H s) (k:∀ b u,s.heap.get? b=some u->h'.get? b=some u) (hp:s.heap.objs.size<=a) (new:ObjOk X.prog X.w (upd H a o) h' a o) :
    Inv X pins σ (upd H a o) { s with heap:=h',toks:=t' }:=I.un (Un.laid k hp (I.hok.fresh hp)) (I.hok.laid k hp new)
theorem Inv.write {x e:Addr} {o:HO} {t':Nat} (I:Inv X pins σ H s) (mu:Mut (H x)) (he:e=x\/H e=some (.own x)) (k:∀ b u,b≠e->s.heap.get? b=some u->h'.get? b=some u) (heo:∃ u,h'.get? e=some u)
    (new:ObjOk X.prog X.w (upd H x o) h' x o):Inv X pins σ (upd H x o) { s with heap:=h',toks:=t' }:=I.un (Un.write mu he k heo) (I.hok.write mu he k heo new)
theorem Inv.pins_of {pins':List (Addr × Obj)} (I:Inv X pins σ H s) (h:∀ p∈pins',s.heap.get? p.1=some p.2/\H p.1=none/\p.1≠X.env.locals/\p.1 ∉ X.fs/\∀ v,p.2.data≠.cell v):Inv X pins' σ H s :=
  ⟨I.ok,I.os,I.bare,I.base,I.loc,I.cell,I.free,I.freeC,fun p hp=>(List.mem_append.mp hp).elim (fun z=>I.pin p (List.mem_append_left _ z)) (h p),I.hok,I.len⟩
theorem nodup_ix {N:List Str} (hN:N.Nodup) {i j:Nat} {x:Str} (a:N[i]? = some x) (b:N[j]? = some x):i=j:=by
  obtain ⟨h1,e1⟩:=List.getElem?_eq_some_iff.mp a
  obtain ⟨h2,e2⟩:=List.getElem?_eq_some_iff.mp b
  exact (List.getElem_inj hN).mp (e1.trans e2.symm)
theorem store_ok2 {M:Model} {A:Around} {E:Value->Shared->Prop} {i:Nat} {x:Str} {v:V} {u:Value} {Q:Unit->Shared->Prop} (I:Inv X pins σ H s) (hN:X.N.Nodup) (hi:X.N[i]? = some x) (hx:Loc X.env.scope x) (r:RelV v u)
    (h:∀ s',Inv X pins (σ.set i (some v)) H s'->(∃ a,Heap.SameBut a s.heap s'.heap/\(a=X.env.locals\/X.env.cells.lookup x=some a))->Q () s') (hf:X.fn x=true\/X.env.scope.names.lookup x=some .local:=by first | exact .inl rfl | exact .inr rfl | assumption):wpAny M A (storeName X.env x u) Q E s:=by
  obtain ⟨m,hn,hl⟩:=id I.loc
  have hcls:(X.env.scope.kind == .class || (X.env.scope.kind == .module && X.env.locals != X.env.globals))=false:=by rw [I.ok.kind];rfl
  have hiσ:i < σ.length:=by rw [I.len];exact (List.getElem?_eq_some_iff.mp hi).1
  have cne:=I.cne
  have tracked:∀ {a:Addr} {h':Heap},(∃ o,s.heap.get? a=some o/\H a=none)->Heap.SameBut a s.heap h'->HOk X.prog X.w H h':=fun {a h'} ha hs b ob e=>by
    obtain ⟨_,_,hfree⟩:=ha
    refine (I.hok b ob e).stay (fun c w' hc q=>(hs.2 c ?_).trans q) (fun _ q=>q) fun _ _ q=>q
    rintro rfl
    rcases hc with rfl | hc
    . rw [hfree] at e;cases e
    . rw [hfree] at hc;cases hc
  rcases hx with hk | hk
  . refine wpAny_storeName_local hk hn (fun h' hn' hs=>?_) hcls
    obtain ⟨oL,_,_,hoL,_⟩:=id hn
    refine h _ ⟨I.ok,I.os,I.bare,⟨fun b o e n hb hx=>?_,fun b o e n hb hx=>?_,I.base.free,fun b o e hx=>?_,I.base.tups,I.base.frzs,I.base.tbls⟩,⟨_,hn',fun j y v' e1 e2 e3=>?_⟩,fun y c e=>?_,I.free,I.freeC,fun p hp=>?_,tracked ⟨oL,hoL,I.free⟩ hs,by simpa using I.len⟩ ⟨_,hs,.inl rfl⟩
    . exact (hs.2 b (Nat.ne_of_lt (Nat.lt_of_lt_of_le (Heap.lt_size e) I.ok.above))).trans (I.base.keep b o e n hb hx)
    . obtain ⟨sl,e1⟩:=I.base.slot b o e n hb hx
      exact ⟨sl,(hs.2 b (Nat.ne_of_lt (Nat.lt_of_lt_of_le (Heap.lt_size e) I.ok.above))).trans e1⟩
    . obtain ⟨o',e1⟩:=I.base.there b o e hx
      exact ⟨o',(hs.2 b (Nat.ne_of_lt (Nat.lt_of_lt_of_le (Heap.lt_size e) I.ok.above))).trans e1⟩
    . by_cases hj:j=i
      . subst hj
        rw [hi] at e1;cases e1
        rw [List.getElem?_set_self hiσ] at e2
        cases e2
        exact ⟨u,r,.inl ⟨hk,by simp⟩⟩
      . rw [List.getElem?_set_ne (Ne.symm hj)] at e2
        obtain ⟨u',r',q⟩:=hl j y v' e1 e2 e3
        refine ⟨u',r',?_⟩
        rcases q with ⟨k,e⟩ | ⟨k,c,e,z⟩
        . refine .inl ⟨k,?_⟩
          have:y≠x:=fun e=>hj (nodup_ix hN e1 (e ▸ hi))
          simp [this,e]
        . exact .inr ⟨k,c,e,z.sameBut hs (cne y c e)⟩
    . obtain ⟨w',z⟩:=I.cell y c e
      exact ⟨w',z.sameBut hs (cne y c e)⟩
    . obtain ⟨e,n,ne,nf,d⟩:=I.pin p hp
      exact ⟨(hs.2 p.1 ne).trans e,n,ne,nf,d⟩
  . have hfn:X.fn x=true:=by
      rcases hf with z | z
      . exact z
      . rw [z] at hk;cases hk
    obtain ⟨c,hc⟩:=I.ok.has x (.inl hk)
    obtain ⟨w',z⟩:=I.cell x c hc
    refine wpAny_storeName_cell I.ok.kind hk hc z (fun h' hc' hs=>?_)
    obtain ⟨oc,hoc,hocd⟩:=id z
    refine h { s with heap:=h' } ⟨I.ok,I.os,I.bare,⟨fun b o e n hb hx=>?_,fun b o e n hb hx=>?_,I.base.free,fun b o e hx=>?_,I.base.tups,I.base.frzs,I.base.tbls⟩,⟨m,hn.sameBut hs (Ne.symm (cne x c hc)),fun j y v' e1 e2 e3=>?_⟩,fun y c' e=>?_,I.free,I.freeC,fun p hp=>?_,tracked ⟨oc,hoc,I.freeC x c hc⟩ hs,by simpa using I.len⟩ ⟨c,hs,.inr hc⟩
    . exact (hs.2 b (Nat.ne_of_lt (Nat.lt_of_lt_of_le (Heap.lt_size e) (I.ok.cab x c hfn hc)))).trans (I.base.keep b o e n hb hx)
    . obtain ⟨sl,e1⟩:=I.base.slot b o e n hb hx
      exact ⟨sl,(hs.2 b (Nat.ne_of_lt (Nat.lt_of_lt_of_le (Heap.lt_size e) (I.ok.cab x c hfn hc)))).trans e1⟩
    . obtain ⟨o',e1⟩:=I.base.there b o e hx
      exact ⟨o',(hs.2 b (Nat.ne_of_lt (Nat.lt_of_lt_of_le (Heap.lt_size e) (I.ok.cab x c hfn hc)))).trans e1⟩
    . by_cases hj:j=i
      . subst hj
        rw [hi] at e1;cases e1
        rw [List.getElem?_set_self hiσ] at e2
        cases e2
        exact ⟨u,r,.inr ⟨.inl hk,c,hc,hc'⟩⟩
      . rw [List.getElem?_set_ne (Ne.symm hj)] at e2
        obtain ⟨u',r',q⟩:=hl j y v' e1 e2 e3
        refine ⟨u',r',?_⟩
        rcases q with q | ⟨k,c',e,z'⟩
        . exact .inl q
        . refine .inr ⟨k,c',e,z'.sameBut hs ?_⟩
          rintro rfl
          exact hj (nodup_ix hN e1 (I.ok.inj _ _ _ e hc ▸ hi))
    . by_cases hcc:c'=c
      . subst hcc;exact ⟨_,hc'⟩
      . obtain ⟨w2,z2⟩:=I.cell y c' e
        exact ⟨w2,z2.sameBut hs hcc⟩
    . obtain ⟨e,n,ne,nf,d⟩:=I.pin p hp
      refine ⟨(hs.2 p.1 ?_).trans e,n,ne,nf,d⟩
      intro q
      rw [q,hoc] at e
      have q':oc=p.2:=Option.some.inj e
      exact d w' (by rw [<- q'];exact hocd)
theorem store_ok {M:Model} {A:Around} {E:Value->Shared->Prop} {i:Nat} {x:Str} {v:V} {u:Value} {Q:Unit->Shared->Prop} (I:Inv X pins σ H s) (hN:X.N.Nodup) (hi:X.N[i]? = some x) (hx:Loc X.env.scope x) (r:RelV v u)
    (h:∀ s',Inv X pins (σ.set i (some v)) H s'->Q () s') (hf:X.fn x=true\/X.env.scope.names.lookup x=some .local:=by first | exact .inl rfl | exact .inr rfl | assumption):wpAny M A (storeName X.env x u) Q E s :=
  store_ok2 I hN hi hx r (fun s' I' _=>h s' I') hf
theorem Inv.call' {s':Shared} {ch:List Addr} (I:Inv X pins σ H s) (ho:s'.os=s.os) (u:Un (frs X.stack) ch H H' s.heap s'.heap) (hok:HOk X.prog X.w H' s'.heap) (hg:AllBare s'.gens)
    (hch:∀ b∈ch,(b∈X.ex\/X.s₀.heap.objs.size<=b)/\b≠X.env.locals/\(∀ x c,X.env.cells.lookup x=some c->c≠b)/\∀ p∈X.pn++pins,p.1≠b):Inv X pins σ H' s':=by
  obtain ⟨h',g',d',t',o'⟩:=s'
  have e:o'=s.os:=ho
  subst e
  exact I.call (g':=g') (t':=t') (d':=d') u hok hg hch
end
noncomputable abbrev XK:=Value->Option Addr->Hp->Prop
noncomputable abbrev St:=List (Option V)
noncomputable abbrev VK:=V->Hp->Prop
noncomputable abbrev TE:=St->Hp->VK->Prop
noncomputable abbrev TT:=St->Hp->(Bool->Hp->Prop)->Prop
noncomputable abbrev TA:=St->Hp->(List V->Hp->Prop)->Prop
structure Ends where
  nx:St->Hp->Prop
  rt:VK
  bk:St->Hp->Prop:=fun _ _=>False
  ct:St->Hp->Prop:=fun _ _=>False
noncomputable abbrev TS:=Ends->St->Hp->Prop
noncomputable def EP (X:Cx) (pins:List (Addr × Obj)) (σ:St) (Q:VK) (u:Value) (s':Shared):Prop:=∃ v H',Inv X pins σ H' s'/\RelV v u/\Q v H'
noncomputable def TP (X:Cx) (pins:List (Addr × Obj)) (σ:St) (Q:Bool->Hp->Prop) (b:Bool) (s':Shared):Prop:=∃ H',Inv X pins σ H' s'/\Q b H'
noncomputable def AP (X:Cx) (pins:List (Addr × Obj)) (σ:St) (Q:List V->Hp->Prop) (us:List Value) (s':Shared):Prop:=∃ vs H',Inv X pins σ H' s'/\Vals vs us/\Q vs H'
noncomputable def SP (X:Cx) (pins:List (Addr × Obj)) (D:Ends) (f:Flow) (s':Shared):Prop :=
  match f with
  | .next=>∃ σ' H',Inv X pins σ' H' s'/\D.nx σ' H'
  | .brk=>∃ σ' H',Inv X pins σ' H' s'/\D.bk σ' H'
  | .cont=>∃ σ' H',Inv X pins σ' H' s'/\D.ct σ' H'
  | .ret u=>∃ v σ' H',Inv X pins σ' H' s'/\RelV v u/\D.rt v H'
noncomputable def PE (X:Cx) (e:Expr) (t:TE):Prop :=
  ∀ (pins:List (Addr × Obj)) (s:Shared) (σ:St) (H:Hp) (Q:VK),Inv X pins σ H s->t σ H Q->wpAny (model X.prog X.w) X.A (eval e X.env) (EP X pins σ Q) X.xe s
noncomputable def PT (X:Cx) (e:Expr) (t:TT):Prop :=
  ∀ (pins:List (Addr × Obj)) (s:Shared) (σ:St) (H:Hp) (Q:Bool->Hp->Prop),Inv X pins σ H s->t σ H Q->wpAny (model X.prog X.w) X.A (isTrue e X.env (eval e X.env)) (TP X pins σ Q) X.xe s
noncomputable def PW (X:Cx) (e:Expr) (t:TT):Prop :=
  ∀ (whole:Sem Value) (pins:List (Addr × Obj)) (s:Shared) (σ:St) (H:Hp) (Q:Bool->Hp->Prop),Inv X pins σ H s->t σ H Q->wpAny (model X.prog X.w) X.A (isTrue e X.env whole) (TP X pins σ Q) X.xe s
theorem PW.pt {X:Cx} {e:Expr} {t:TT} (h:PW X e t):PT X e t:=h _
noncomputable def PA (X:Cx) (es:List Expr) (t:TA):Prop :=
  ∀ (pos:Pos) (pins:List (Addr × Obj)) (s:Shared) (σ:St) (H:Hp) (Q:List V->Hp->Prop),Inv X pins σ H s->t σ H Q->wpAny (model X.prog X.w) X.A (spliced (backTo pos (starEach es X.env))) (AP X pins σ Q) X.xe s
noncomputable def PS (X:Cx) (st:Stmt) (t:TS):Prop :=
  ∀ (pins:List (Addr × Obj)) (s:Shared) (σ:St) (H:Hp) (D:Ends),Inv X pins σ H s->t D σ H->wpAny (model X.prog X.w) X.A (exec st X.env) (SP X pins D) X.xe s
noncomputable def PSs (X:Cx) (st:List Stmt) (t:TS):Prop :=
  ∀ (pins:List (Addr × Obj)) (s:Shared) (σ:St) (H:Hp) (D:Ends),Inv X pins σ H s->t D σ H->wpAny (model X.prog X.w) X.A (execs st X.env) (SP X pins D) X.xe s
theorem thn {α:Type} {t:Sem α} {Q Q':α->Shared->Prop} {M:Model} {A:Around} {E:Value->Shared->Prop} {s:Shared} (h:wpAny M A t Q E s) (hQ:∀ a s,Q a s->Q' a s):wpAny M A t Q' E s:=wpAny_mono h hQ fun _ _ x=>x
end L2
namespace L2
open PySem PySem.Spec PyProof.Rows
section
variable {X:Cx}
theorem bin {a b:Expr} {ta tb:TE} (ha:PE X a ta) (hb:PE X b tb) {pins:List (Addr × Obj)} {s:Shared} {σ:St} {H:Hp} {R:V->V->Hp->Prop} (I:Inv X pins σ H s) (h:ta σ H fun x H1=>tb σ H1 fun y H2=>R x y H2)
    {α:Type} {Q:α->Shared->Prop} {f:Value->Value->Sem α}
    (hf:∀ v u s2 x y H2,Inv X pins σ H2 s2->RelV x v->RelV y u->R x y H2->wpAny (model X.prog X.w) X.A (f v u) Q X.xe s2) :
    wpAny (model X.prog X.w) X.A (eval a X.env) (fun v s₁=>wpAny (model X.prog X.w) X.A (eval b X.env) (fun u s₂=>wpAny (model X.prog X.w) X.A (f v u) Q X.xe s₂) X.xe s₁) X.xe s:=by
  refine thn (ha pins s σ H _ I h) fun v s1 h_q=>?_
  obtain ⟨x,H1,I1,r1,q1⟩:=h_q
  refine thn (hb pins s1 σ H1 _ I1 q1) fun u s2 h_q=>?_
  obtain ⟨y,H2,I2,r2,q2⟩:=h_q
  exact hf v u s2 x y H2 I2 r1 r2 q2
noncomputable def tVar (i:Nat):TE:=fun σ H Q=>∃ v,σ[i]? = some (some v)/\Q v H
noncomputable def tC (v:V):TE:=fun _ H Q=>Q v H
theorem pe_var {i:Nat} {x:Str} {pos:Pos} (hN:X.N[i]? = some x) (hv:Vis X.env.scope x) (hd:(x == ("__debug__":Str))=false:=by decide) (hcd:(x == ("__classdict__":Str))=false:=by decide):PE X (.Name x pos) (tVar i):=by
  intro pins s σ H Q I h
  obtain ⟨v,e,h⟩:=h
  obtain ⟨m,hn,hl⟩:=I.loc
  obtain ⟨u,r,l⟩:=hl i x v hN e hv
  have fin:EP X pins σ Q u s:=⟨v,H,I,r,h⟩
  rcases l with ⟨hk,hm⟩ | ⟨hk,c,hc,hcell⟩
  . exact wpAny_Name (wpAny_loadName_local I.ok.kind hk hn hm fin) hd
  . rcases hk with hk | hk
    . exact wpAny_Name (wpAny_loadName_cell I.ok.kind hk hc hcell fin) hd
    . exact wpAny_Name (wpAny_loadName_free I.ok.kind hk hc hcell fin hcd) hd
theorem pe_int {i j pos}:PE X (.Constant (.int i) j pos) (tC (.int i)):=fun _ _ _ H _ I h=>wpAny_Constant_int ⟨.int i,H,I.tok _,⟨_,rfl⟩,h⟩
theorem pe_bl {b j pos}:PE X (.Constant (.bool b) j pos) (tC (.bl b)):=fun _ _ _ H _ I h=>Constant_bool ⟨.bl b,H,I,rfl,h⟩
theorem pe_str {x j pos}:PE X (.Constant (.str x) j pos) (tC (.str x)):=fun _ _ _ H _ I h=>Calls.Constant_str ⟨.str x,H,I.tok _,⟨_,rfl⟩,h⟩
noncomputable def Gl (X:Cx) (x:Str):Prop:=X.env.kindOf x=some .globalImplicit
theorem ld_glob {E:Value->Shared->Prop} {pins:List (Addr × Obj)} {s:Shared} {σ:St} {H:Hp} {x:Str} {u:Value} {pos:Pos} {Q:Value->Shared->Prop} (I:Inv X pins σ H s) (hg:Gl X x) (hm:X.mg x=some u) (h:Q u s)
    (hd:(x == ("__debug__":Str))=false:=by decide):wpAny (model X.prog X.w) X.A (eval (.Name x pos) X.env) Q E s :=
  Calls.Name_function_global I.ok.kind hg (Calls.loadGlobal_global (by rw [I.ok.glob];exact I.mod.glob.keeps I.bk) hm h) hd
theorem ld_blt {E:Value->Shared->Prop} {pins:List (Addr × Obj)} {s:Shared} {σ:St} {H:Hp} {x:Str} {u:Value} {pos:Pos} {Q:Value->Shared->Prop} (I:Inv X pins σ H s) (hg:Gl X x) (hm:X.mg x=none) (hv:bootBuiltins x=some u) (h:Q u s)
    (hn:x≠"__name__":=by decide) (hd:(x == ("__debug__":Str))=false:=by decide):wpAny (model X.prog X.w) X.A (eval (.Name x pos) X.env) Q E s:=by
  obtain ⟨mb,h1,h2⟩:=I.mod.blt
  exact Calls.Name_function_global I.ok.kind hg (Calls.loadGlobal_builtin (by rw [I.ok.glob];exact I.mod.glob.keeps I.bk) hm (by rw [I.ok.blt];exact h1.keeps I.bk) ((h2 x hn).trans hv) h) hd
theorem pe_glob {x:Str} {v:V} {u:Value} {pos:Pos} (hg:Gl X x) (hm:X.mg x=some u) (r:RelV v u) (hd:(x == ("__debug__":Str))=false:=by decide):PE X (.Name x pos) (tC v) :=
  fun _ _ _ H _ I h=>ld_glob I hg hm ⟨v,H,I,r,h⟩ hd
theorem pe_bltn {x:Str} {v:V} {u:Value} {pos:Pos} (hg:Gl X x) (hm:X.mg x=none) (hv:bootBuiltins x=some u) (r:RelV v u) (hn:x≠"__name__":=by decide) (hd:(x == ("__debug__":Str))=false:=by decide):PE X (.Name x pos) (tC v) :=
  fun _ _ _ H _ I h=>ld_blt I hg hm hv ⟨v,H,I,r,h⟩ hn hd
variable {a b:Expr} {ta tb:TE} {pos:Pos}
noncomputable def PC (X:Cx) (op:CmpOp) (a b:Expr) (t:TE):Prop :=
  ∀ (pins:List (Addr × Obj)) (s:Shared) (σ:St) (H:Hp) (Q:VK),Inv X pins σ H s->t σ H Q ->
    wpAny (model X.prog X.w) X.A (eval a X.env) (fun v s₁=>wpAny (model X.prog X.w) X.A (eval b X.env) (fun u s₂=>wpAny (model X.prog X.w) X.A (compareOp op v u) (EP X pins σ Q) X.xe s₂) X.xe s₁) X.xe s
theorem nobehind (b:Expr) {op:CmpOp} (h:op≠.In) (h2:op≠.NotIn):behindInMarks op b=false:=by
  have e1:(op == CmpOp.In)=false:=by cases op <;> first | rfl | exact absurd rfl h
  have e2:(op == CmpOp.NotIn)=false:=by cases op <;> first | rfl | exact absurd rfl h2
  cases b <;> simp [behindInMarks,e1,e2]
noncomputable def tB (t:TE):TT:=fun σ H Q=>t σ H fun x H1=>∃ c,x=.bl c/\Q c H1
theorem pt_cmp {op:CmpOp} {t:TE} (h:PC X op a b t) (h1:behindInMarks op b=false:=by first | exact nobehind _ (by decide) (by decide) | rfl):PT X (.Compare a [op] [b] pos) (tB t):=by
  intro pins s σ H Q I hw
  refine wpAny_isTrue_Compare1 (thn (h pins s σ H _ I hw) fun v s1 h1=>thn h1 fun u s2 h2=>thn h2 fun c s3 ⟨x,H1,I1,r1,q1⟩=>?_) h1
  obtain ⟨d,rfl,q⟩:=q1
  cases r1
  exact wpAny_truthy_bool ⟨H1,I1,q⟩
theorem pt_val {e:Expr} {t:TE} (h:PE X e t) (he:∀ whole,isTrue e X.env whole=(do let v <- whole;standAt e.pos;holding [v] (truthy v)):=by intro _;rfl):PT X e (tB t):=by
  intro pins s σ H Q I hw
  refine isTrue_plain (thn (h pins s σ H _ I hw) fun v s1 ⟨x,H1,I1,r1,q1⟩=>?_) (he _)
  obtain ⟨d,rfl,q⟩:=q1
  cases r1
  exact wpAny_truthy_bool ⟨H1,I1,q⟩
variable {tA tB':TT} {rest:List Expr}
noncomputable def tAnd (t u:TT):TT:=fun σ H Q=>t σ H fun c H1=>if c=true then u σ H1 Q else Q false H1
noncomputable def tOr (t u:TT):TT:=fun σ H Q=>t σ H fun c H1=>if c=true then Q true H1 else u σ H1 Q
noncomputable def tNot (t:TT):TT:=fun σ H Q=>t σ H fun c H1=>Q (!c) H1
theorem pw_and1 (ha:PT X a tA):PW X (.BoolOp .And [a] pos) tA:=by
  intro wh pins s σ H Q I h
  refine isTrue_and (thn (ha pins s σ H Q I h) fun c s1 e=>?_)
  cases c with
  | true=>exact isTrue_and_nil e
  | false=>exact e
theorem pw_or1 (ha:PT X a tA):PW X (.BoolOp .Or [a] pos) tA:=by
  intro wh pins s σ H Q I h
  refine isTrue_or (thn (ha pins s σ H Q I h) fun c s1 e=>?_)
  cases c with
  | false=>exact isTrue_or_nil e
  | true=>exact e
theorem pw_and (ha:PT X a tA) (hb:PW X (.BoolOp .And (b::rest) pos) tB'):PW X (.BoolOp .And (a::b::rest) pos) (tAnd tA tB'):=by
  intro wh pins s σ H Q I h
  refine isTrue_and (thn (ha pins s σ H _ I h) fun c s1 h_q=>?_)
  obtain ⟨H1,I1,q1⟩:=h_q
  cases c with
  | true=>exact hb wh pins s1 σ H1 Q I1 q1
  | false=>exact ⟨H1,I1,q1⟩
theorem pw_or (ha:PT X a tA) (hb:PW X (.BoolOp .Or (b::rest) pos) tB'):PW X (.BoolOp .Or (a::b::rest) pos) (tOr tA tB'):=by
  intro wh pins s σ H Q I h
  refine isTrue_or (thn (ha pins s σ H _ I h) fun c s1 h_q=>?_)
  obtain ⟨H1,I1,q1⟩:=h_q
  cases c with
  | true=>exact ⟨H1,I1,q1⟩
  | false=>exact hb wh pins s1 σ H1 Q I1 q1
theorem pt_not (ha:PT X a tA):PT X (.UnaryOp .Not a pos) (tNot tA):=by
  intro pins s σ H Q I h
  exact isTrue_not (ha pins s σ H (fun c H1=>Q (!c) H1) I h)
end
end L2
namespace L2
open PySem PySem.Spec PyProof.Rows
noncomputable def SqL (K:PySem.W.Frag) (H:Hp) (a:Addr) (xs:List V):Prop :=
  Rd H a (.lst xs) \/
    ∃ (o:Obj) (its:Array Value) (n:Nat),K.lookup a=some o/\o.cls=.type "list"/\o.dict=none/\o.data=.seq its n/\its.size<=sizeLine/\Vals xs its.toList
noncomputable def SqT (K:PySem.W.Frag) (H:Hp) (a:Addr) (xs:List V):Prop :=
  Rd H a (.tup xs) \/
    ∃ (o:Obj) (its:Array Value) (n:Nat),K.lookup a=some o/\o.cls=.type "tuple"/\o.data=.seq its n/\its.size<=sizeLine/\Vals xs its.toList
noncomputable def absV:Value->Option V
  | .none=>some .non
  | .bool b=>some (.bl b)
  | .int i _=>some (.int i)
  | .str x _=>some (.str x)
  | .bytes b _=>some (.byt b)
  | .float b _=>some (.flt b)
  | .ref a=>some (.ref a)
  | .type n=>some (.ty n)
  | _=>none
theorem RelV.abs {x:V} {u:Value} (r:RelV x u):absV u=some x:=by
  cases x with
  | non=>cases r;rfl
  | bl _=>cases r;rfl
  | int _=>obtain ⟨t,rfl⟩:=r;rfl
  | str _=>obtain ⟨t,rfl⟩:=r;rfl
  | byt _=>obtain ⟨t,rfl⟩:=r;rfl
  | flt _=>obtain ⟨t,rfl⟩:=r;rfl
  | ref _=>cases r;rfl
  | ty _=>cases r;rfl
theorem RelV.inj {x y:V} {u:Value} (r:RelV x u) (q:RelV y u):x=y:=Option.some.inj (r.abs.symm.trans q.abs)
theorem Vals.inj:∀ {xs ys:List V} {us:List Value},Vals xs us->Vals ys us->xs=ys
  | _,_,_,.nil,.nil=>rfl
  | _,_,_,.cons r t,.cons r' t'=>by rw [r.inj r',Vals.inj t t']
section
variable {X:Cx} {pins:List (Addr × Obj)} {σ:St} {H:Hp} {s:Shared} {a:Addr} {xs ys:List V}
theorem SqL.of {K:PySem.W.Frag} (h:H a=some (.lst xs)):SqL K H a xs:=.inl (.inl h)
theorem SqT.of {K:PySem.W.Frag} (h:H a=some (.tup xs)):SqT K H a xs:=.inl (.inl h)
theorem Inv.list (I:Inv X pins σ H s) (h:SqL X.K H a xs):∃ its:List Value,Vals xs its/\PlainL s.heap a its.toArray/\xs.length<=sizeLine:=by
  rcases h with h | ⟨o,its,n,hk,hc,hd,hs,hz,r⟩
  . obtain ⟨z,its,n,r,e⟩:=h.ok I.hok
    exact ⟨its,r,⟨_,n,e,rfl,rfl,rfl⟩,z⟩
  . refine ⟨its.toList,r,⟨o,n,I.kIn a o hk,hc,hd,by simpa using hs⟩,?_⟩
    have e:=r.length
    simp only [Array.length_toList] at e
    lia
theorem Inv.tuple (I:Inv X pins σ H s) (h:SqT X.K H a xs):∃ its:List Value,Vals xs its/\IsTup s.heap a its.toArray/\xs.length<=sizeLine:=by
  rcases h with h | ⟨o,its,n,hk,hc,hs,hz,r⟩
  . obtain ⟨z,its,r,p⟩:=h.ok I.hok
    exact ⟨its,r,p,z⟩
  . refine ⟨its.toList,r,⟨o,I.kIn a o hk,hc,n,by simpa using hs⟩,?_⟩
    have e:=r.length
    simp only [Array.length_toList] at e
    lia
theorem Inv.list_inj (I:Inv X pins σ H s) (h:SqL X.K H a xs) (h':SqL X.K H a ys):xs=ys:=by
  obtain ⟨its,r,⟨o,n,e,_,_,d⟩,_⟩:=I.list h
  obtain ⟨its',r',⟨o',n',e',_,_,d'⟩,_⟩:=I.list h'
  rw [e] at e';cases e'
  rw [d] at d'
  injection d' with d1 _
  have:its=its':=by simpa using congrArg Array.toList d1
  subst this
  exact r.inj r'
theorem Inv.tuple_inj (I:Inv X pins σ H s) (h:SqT X.K H a xs) (h':SqT X.K H a ys):xs=ys:=by
  obtain ⟨its,r,⟨o,e,_,n,d⟩,_⟩:=I.tuple h
  obtain ⟨its',r',⟨o',e',_,n',d'⟩,_⟩:=I.tuple h'
  rw [e] at e';cases e'
  rw [d] at d'
  injection d' with d1 _
  have:its=its':=by simpa using congrArg Array.toList d1
  subst this
  exact r.inj r'
end
noncomputable abbrev Cx.wish (X:Cx) (E:Value->Shared->Prop):Cx:={ X with xe:=E }
noncomputable abbrev Cx.nox (X:Cx):Cx:=X.wish fun _ _=>False
theorem Cx.Ok.wish {X:Cx} (ok:X.Ok) (E:Value->Shared->Prop):(X.wish E).Ok :=
  ⟨ok.mod,ok.kind,ok.glob,ok.blt,ok.above,ok.inj,ok.has,ok.cab,ok.hd,ok.frames,ok.stk,ok.exf,ok.bs,ok.bsz,ok.noex,ok.exfs,ok.funs,ok.frf⟩
theorem Cx.Ok.unwish {X:Cx} {E:Value->Shared->Prop} (ok:(X.wish E).Ok):X.Ok :=
  ⟨ok.mod,ok.kind,ok.glob,ok.blt,ok.above,ok.inj,ok.has,ok.cab,ok.hd,ok.frames,ok.stk,ok.exf,ok.bs,ok.bsz,ok.noex,ok.exfs,ok.funs,ok.frf⟩
section
variable {X:Cx} {pins:List (Addr × Obj)} {σ:St} {H:Hp} {s:Shared} {E:Value->Shared->Prop}
theorem Inv.wish (I:Inv X pins σ H s) (E:Value->Shared->Prop):Inv (X.wish E) pins σ H s:=⟨I.ok.wish E,I.os,I.bare,I.base,I.loc,I.cell,I.free,I.freeC,I.pin,I.hok,I.len⟩
theorem Inv.unwish (I:Inv (X.wish E) pins σ H s):Inv X pins σ H s:=⟨I.ok.unwish,I.os,I.bare,I.base,I.loc,I.cell,I.free,I.freeC,I.pin,I.hok,I.len⟩
theorem SP.unwish {D:Ends} {f:Flow} {s':Shared} (h:SP (X.wish E) pins D f s'):SP X pins D f s':=by
  cases f with
  | next=>obtain ⟨σ',H',I,q⟩:=h;exact ⟨σ',H',I.unwish,q⟩
  | brk=>obtain ⟨σ',H',I,q⟩:=h;exact ⟨σ',H',I.unwish,q⟩
  | cont=>obtain ⟨σ',H',I,q⟩:=h;exact ⟨σ',H',I.unwish,q⟩
  | ret u=>obtain ⟨v,σ',H',I,r,q⟩:=h;exact ⟨v,σ',H',I.unwish,r,q⟩
theorem PSs.nox {st:List Stmt} {t:TS} (h:PSs X.nox st t):PSs X st t:=fun pins s σ H D I hw =>
  wpAny_mono (h pins s σ H D (I.wish _) hw) (fun _ _ q=>q.unwish) fun _ _ z=>False.elim z
end
section
variable {X:Cx} {st:Stmt} {rest:List Stmt} {t u:TS} {e:Expr} {te:TE} {pos:Pos}
noncomputable def tNext:TS:=fun D σ H=>D.nx σ H
noncomputable def tSeq (t u:TS):TS:=fun D σ H=>t { D with nx:=u D } σ H
theorem pss_nil:PSs X [] tNext:=fun _ _ σ H _ I h=>wpAny_execs_nil ⟨σ,H,I,h⟩
theorem pss_cons (h1:PS X st t) (h2:PSs X rest u):PSs X (st::rest) (tSeq t u):=by
  intro pins s σ H D I h
  refine wpAny_execs_cons (thn (h1 pins s σ H { D with nx:=u D } I h) fun f s1 q=>?_)
  cases f with
  | next =>
    obtain ⟨σ',H',I',q⟩:=q
    exact h2 pins s1 σ' H' D I' q
  | ret v=>exact q
  | brk=>exact q
  | cont=>exact q
theorem pss_one (h1:PS X st t):PSs X [st] t:=by
  intro pins s σ H D I h
  refine wpAny_execs_cons (thn (h1 pins s σ H D I h) fun f s1 q=>?_)
  cases f with
  | next=>exact wpAny_execs_nil q
  | ret v=>exact q
  | brk=>exact q
  | cont=>exact q
theorem Inv.quiet {pins:List (Addr × Obj)} {σ:St} {H:Hp} {s:Shared} (I:Inv X pins σ H s):interactive X.env=false:=by simp [interactive,I.ok.kind]
noncomputable def tDrop (te:TE):TS:=fun D σ H=>te σ H fun _ H1=>D.nx σ H1
theorem ps_expr (he:PE X e te) (hs:swapsWith e none pos.line X.env=pure false:=by rfl):PS X (.Expr e pos) (tDrop te):=by
  intro pins s σ H D I h
  exact wpAny_Expr_any (thn (he pins s σ H _ I h) fun v s1 ⟨x,H1,I1,r1,q1⟩=>⟨σ,H1,I1,q1⟩) I.quiet hs
noncomputable def tRet (te:TE):TS:=fun D σ H=>te σ H D.rt
theorem ps_ret (he:PE X e te):PS X (.Return (some e) pos) (tRet te):=by
  intro pins s σ H D I h
  exact wpAny_Return_some (thn (he pins s σ H _ I h) fun v s1 ⟨x,H1,I1,r1,q1⟩=>⟨x,σ,H1,I1,r1,q1⟩)
noncomputable def tIfS (c:TT) (t u:TS):TS:=fun D σ H=>c σ H fun b H1=>if b=true then t D σ H1 else u D σ H1
theorem ps_if {c:Expr} {a b:List Stmt} {tc:TT} (hc:PT X c tc) (ha:PSs X a t) (hb:PSs X b u):PS X (.If c a b pos) (tIfS tc t u):=by
  intro pins s σ H D I h
  refine wpAny_If (thn (hc pins s σ H _ I h) fun d s1 h_q=>?_)
  obtain ⟨H1,I1,q1⟩:=h_q
  cases d with
  | true=>exact ha pins s1 σ H1 D I1 q1
  | false=>exact hb pins s1 σ H1 D I1 q1
end
noncomputable abbrev TG:=V->St->Hp->(St->Hp->Prop)->Prop
noncomputable abbrev TGs:=List V->St->Hp->(St->Hp->Prop)->Prop
noncomputable def PG (X:Cx) (target:Expr) (t:TG):Prop :=
  ∀ (pins:List (Addr × Obj)) (s:Shared) (σ:St) (H:Hp) (v:V) (u:Value) (Q:St->Hp->Prop),Inv X pins σ H s->RelV v u->t v σ H Q ->
    wpAny (model X.prog X.w) X.A (assign target X.env u) (fun _ s'=>∃ σ' H',Inv X pins σ' H' s'/\Q σ' H') X.xe s
noncomputable def PGs (X:Cx) (ts:List Expr) (t:TGs):Prop :=
  ∀ (pins:List (Addr × Obj)) (s:Shared) (σ:St) (H:Hp) (vs:List V) (us:List Value) (Q:St->Hp->Prop),Inv X pins σ H s->Vals vs us->t vs σ H Q ->
    wpAny (model X.prog X.w) X.A (assignInOrder ((assignEach ts X.env).map (·.2)) us) (fun _ s'=>∃ σ' H',Inv X pins σ' H' s'/\Q σ' H') X.xe s
section
variable {X:Cx} {pos:Pos}
noncomputable def gName (i:Nat):TG:=fun v σ H Q=>Q (σ.set i (some v)) H
theorem pg_name {i:Nat} {x:Str} (hN:X.N.Nodup) (hi:X.N[i]? = some x) (hx:Loc X.env.scope x) (hf:X.fn x=true\/X.env.scope.names.lookup x=some .local:=by first | exact .inl rfl | exact .inr rfl | assumption):PG X (.Name x pos) (gName i):=by
  intro pins s σ H v u Q I r h
  exact wpAny_assign_Name (store_ok I hN hi hx r (fun s' I'=>⟨_,H,I',h⟩) hf)
noncomputable def gNil:TGs:=fun vs σ H Q=>vs=[]/\Q σ H
noncomputable def gCons (t:TG) (u:TGs):TGs:=fun vs σ H Q=>∃ v r,vs=v::r/\t v σ H fun σ' H'=>u r σ' H' Q
theorem pgs_nil:PGs X [] gNil:=by
  intro pins s σ H vs us Q I r h
  obtain ⟨e,h⟩:=h
  subst e
  cases r
  exact assignInOrder_nil ⟨σ,H,I,h⟩
theorem pgs_cons {e:Expr} {es:List Expr} {t:TG} {u:TGs} (h1:PG X e t) (h2:PGs X es u)
    (hs:(assignEach (e::es) X.env).map (·.2)=assign e X.env::(assignEach es X.env).map (·.2):=by rfl):PGs X (e::es) (gCons t u):=by
  intro pins s σ H vs us Q I r h
  obtain ⟨v,vr,e1,h⟩:=h
  subst e1
  cases r with
  | cons r rr =>
    rw [hs]
    refine assignInOrder_cons (thn (h1 pins s σ H _ _ _ I r h) fun _ s1 h_q=>?_)
    obtain ⟨σ1,H1,I1,q1⟩:=h_q
    exact h2 pins s1 σ1 H1 _ _ Q I1 rr q1
noncomputable def gTup (K:PySem.W.Frag) (n:Nat) (t:TGs):TG:=fun v σ H Q=>∃ a xs,v=.ref a/\SqT K H a xs/\xs.length=n/\t xs σ H Q
theorem pg_tup {es:List Expr} {k:Nat} {t:TGs} {n:Nat} (hc:X.calm=true) (h:PGs X es t)
    (hn:(assignEach es X.env).length=n:=by rfl) (hst:(assignEach es X.env).findIdx? (·.1)=none:=by rfl):PG X (.Tuple es k pos) (gTup X.K n t):=by
  intro pins s σ H v u Q I r hw
  obtain ⟨a,xs,e1,hq,hl,hw⟩:=hw
  subst e1
  cases r
  obtain ⟨its,rv,ht,hz⟩:=I.tuple hq
  refine assign_Tuple_tuple (I.ok.hd hc) ht (by simp [hn,<- hl,rv.length]) hst fun h' hx=>?_
  have I1:Inv X pins σ H { s with heap:=h' }:=I.kept (t':=s.toks) fun b o e=>hx b o (Nat.ne_of_lt (Heap.lt_size e)) e
  exact h pins _ σ H xs _ Q I1 (by simpa using rv) hw
noncomputable def tAsg (te:TE) (g:TG):TS:=fun D σ H=>te σ H fun x H1=>g x σ H1 D.nx
theorem ps_set {i:Nat} {x:Str} {e:Expr} {te:TE} {pos':Pos} (hN:X.N.Nodup) (hi:X.N[i]? = some x) (hx:Loc X.env.scope x) (he:PE X e te) (hs:swapsWith e (some (.Name x pos')) pos.line X.env=pure false:=by rfl) (hf:X.fn x=true\/X.env.scope.names.lookup x=some .local:=by first | exact .inl rfl | exact .inr rfl | assumption) :
    PS X (.Assign [.Name x pos'] e pos) (tAsg te (gName i)):=by
  intro pins s σ H D I h
  refine wpAny_Assign_Name (thn (he pins s σ H _ I h) fun v s1 ⟨y,H1,I1,r1,q1⟩=>?_) hs
  exact store_ok I1 hN hi hx r1 (fun s2 I2=>⟨_,H1,I2,q1⟩) hf
end
structure It where
  go:Nat->Hp->Prop
  yld:Nat->Hp->V->Hp->Prop
  stop:Nat->Hp->Prop
noncomputable def FpOk (X:Cx) (pins:List (Addr × Obj)) (H:Hp) (b:Addr):Prop :=
  H b=none/\b≠X.env.locals/\b ∉ X.fs/\(b∈X.ex\/X.s₀.heap.objs.size<=b)/\(∀ x c,X.env.cells.lookup x=some c->c≠b)/\∀ p∈X.pn++pins,p.1≠b
theorem Inv.fpOk {X:Cx} {pins:List (Addr × Obj)} {σ:St} {H H':Hp} {s:Shared} {b:Addr} (I:Inv X pins σ H s) (hb:s.heap.objs.size<=b) (hn:H' b=none):FpOk X pins H' b:=by
  refine ⟨hn,Nat.ne_of_gt (Nat.lt_of_lt_of_le I.lt hb),I.nofs hb,.inr (Nat.le_trans I.sz hb),fun x c e z=>?_,fun p hp z=>?_⟩
  . obtain ⟨v,q⟩:=I.cell x c e
    exact absurd (Nat.lt_of_lt_of_le q.lt (by rw [z];exact hb)) (Nat.lt_irrefl _)
  . exact absurd (Nat.lt_of_lt_of_le (Heap.lt_size (I.pin p hp).1) (by rw [z];exact hb)) (Nat.lt_irrefl _)
structure Turn (P:Program) (w:World) (K:PySem.W.Frag) (tg:Expr) (J:It) (fp:List Addr) (it:Addr) (tn:Nat->Heap->Prop):Prop where
  mem:it∈fp
  obj:∀ i h,tn i h->∀ b∈fp,∃ o,h.get? b=some o/\∀ v,o.data≠.cell v
  keep:∀ i h h',tn i h->(∀ b∈fp,∀ o,h.get? b=some o->h'.get? b=some o)->tn i h'
  item : ∀ (X:Cx),X.prog=P->X.w=w->X.K=K->X.calm=true->∀ (i:Nat) (pins:List (Addr × Obj)) (s:Shared) (σ:St) (H:Hp) (E:Value->Shared->Prop),Inv X pins σ H s->(∀ b∈fp,FpOk X pins H b)->tn i s.heap->J.go i H ->
    wpAny (model P w) X.A (pyNext (.ref it)) (fun r s1=>∃ u,r=some u /\
      wpAny (model P w) X.A (letOwnedTupleGo tg (.ref it) u) (fun _ s2=>∃ x H',Inv X pins σ H' s2/\RelV x u/\J.yld i H x H'/\tn (i + 1) s2.heap/\∀ b∈fp,H' b=none) E s1) E s
  done:∀ (X:Cx),X.prog=P->X.w=w->X.K=K->X.calm=true->∀ (i:Nat) (pins:List (Addr × Obj)) (s:Shared) (σ:St) (H:Hp) (E:Value->Shared->Prop),Inv X pins σ H s->(∀ b∈fp,FpOk X pins H b)->tn i s.heap->J.stop i H ->
    wpAny (model P w) X.A (pyNext (.ref it)) (fun r s1=>r=none/\Inv X pins σ H s1) E s
  self:∀ (A:Around) (i:Nat) (s:Shared) (Q:Value->Shared->Prop) (E:Value->Shared->Prop),tn i s.heap->Q (.ref it) s->wpAny (model P w) A (pyIter (.ref it)) Q E s
noncomputable abbrev TI:=St->Hp->(It->Hp->Prop)->Prop
noncomputable def PIE (X:Cx) (pins:List (Addr × Obj)) (σ:St) (tg:Expr) (R:It->Hp->Prop) (itv:Value) (s2:Shared):Prop :=
  ∃ (it:Addr) (fp:List Addr) (tn:Nat->Heap->Prop) (J:It) (H':Hp),itv=.ref it/\Inv X pins σ H' s2/\Turn X.prog X.w X.K tg J fp it tn/\tn 0 s2.heap/\(∀ b∈fp,FpOk X pins H' b)/\R J H'
noncomputable def PI (X:Cx) (tg iter:Expr) (wi:TI):Prop :=
  ∀ (pins:List (Addr × Obj)) (s:Shared) (σ:St) (H:Hp) (R:It->Hp->Prop),Inv X pins σ H s->wi σ H R ->
    wpAny (model X.prog X.w) X.A (eval iter X.env) (fun v s1=>wpAny (model X.prog X.w) X.A (pyIter v) (PIE X pins σ tg R) X.xe s1) X.xe s
theorem go_of {M:Model} {A:Around} {E:Value->Shared->Prop} {s:Shared} {tg:Expr} {it:Addr} {u:Value} {o:Obj} {n:String} {vs:Array Value} {Q:Unit->Shared->Prop} (ho:s.heap.get? it=some o) (hc:o.cls=.type n) (hd:o.data=.fields vs)
    (hn:["enumerate","zip","dict_itemiterator","dict_reverseitemiterator","odict_iterator","itertools.zip_longest","itertools.pairwise"].contains n=false) (hQ:Q () s):wpAny M A (letOwnedTupleGo tg (.ref it) u) Q E s:=by
  unfold letOwnedTupleGo
  cases tg <;> first
    | exact wpAny_pure hQ
    | (cases u <;> first
        | exact wpAny_pure hQ
        | (refine wpAny_bind (wpAny_load ho ?_)
           rw [hc,hd]
           show wpAny M A (if (["enumerate","zip","dict_itemiterator","dict_reverseitemiterator","odict_iterator","itertools.zip_longest","itertools.pairwise"].contains n && vs[0]? == some (rawInt _))=true then _ else _) Q E s
           rw [if_neg (by intro h;rw [hn,Bool.false_and] at h;cases h)]
           exact wpAny_pure hQ))
noncomputable def Itl (K:PySem.W.Frag) (a:Addr):It :=
  ⟨fun i H=>∃ xs x,SqL K H a xs/\xs[i]? = some x,fun i H x H'=>H'=H/\∀ xs,SqL K H a xs->xs[i]? = some x,fun i H=>∃ xs,SqL K H a xs/\xs.length<=i⟩
noncomputable def Itt (K:PySem.W.Frag) (a:Addr):It :=
  ⟨fun i H=>∃ xs x,SqT K H a xs/\xs[i]? = some x,fun i H x H'=>H'=H/\∀ xs,SqT K H a xs->xs[i]? = some x,fun i H=>∃ xs,SqT K H a xs/\xs.length<=i⟩
noncomputable def Itr (lo:Int) (n:Nat):It:=⟨fun i _=>i < n,fun i H x H'=>H'=H/\x=.int (lo + i),fun i _=>n<=i⟩
theorem turn_list {P:Program} {w:World} {K:PySem.W.Frag} {tg:Expr} (a it:Addr):Turn P w K tg (Itl K a) [it] it (fun i h=>h.IsListIter it a i) where
  mem:=by simp
  obj := fun i h st b hb=>by
    have e:b=it:=by simpa using hb
    subst e
    obtain ⟨o,e,c,d⟩:=st
    exact ⟨o,e,fun v z=>by rw [d] at z;cases z⟩
  keep:=fun i h h' st k=>st.at fun o e=>k it (by simp) o e
  item:=by
    intro X hP hw hK hc i pins s σ H E I hf st hg
    subst hP hw hK
    obtain ⟨xs,x,hq,hx⟩:=hg
    obtain ⟨its,rv,p,hz⟩:=I.list hq
    obtain ⟨u,hu,ru⟩:=rv.get hx
    obtain ⟨f0,f1,f2,f3,f4,f5⟩:=hf it (by simp)
    refine wpAny_pyNext_list_item st p.isList (x:=u) (by simpa using hu) fun h' st' sb=>?_
    have I1:Inv X pins σ H { s with heap:=h' }:=I.turned (t':=s.toks) (fun b o hb e=>(sb.2 b hb).trans e) f0 f1 f3 f4 f5
    obtain ⟨o,e,c,d⟩:=id st'
    exact ⟨u,rfl,go_of (s:={ s with heap:=h' }) e c d (by decide) ⟨x,H,I1,ru,⟨rfl,fun ys hy=>by rw [I.list_inj hy hq];exact hx⟩,st',fun b hb=>(hf b hb).1⟩⟩
  done:=by
    intro X hP hw hK hc i pins s σ H E I hf st hg
    subst hP hw hK
    obtain ⟨xs,hq,hx⟩:=hg
    obtain ⟨its,rv,p,hz⟩:=I.list hq
    obtain ⟨f0,f1,f2,f3,f4,f5⟩:=hf it (by simp)
    have hl:=rv.length
    exact wpAny_pyNext_list_end (I.ok.hd hc) st p.isList (by simp;lia) fun h' eb=>⟨rfl,I.turned (t':=s.toks) (fun b o hb e=>eb b o hb e) f0 f1 f3 f4 f5⟩
  self:=fun _ _ _ _ _ st h=>wpAny_pyIter_listiter st h
theorem turn_tuple {P:Program} {w:World} {K:PySem.W.Frag} {tg:Expr} (a it:Addr):Turn P w K tg (Itt K a) [it] it (fun i h=>h.IsTupleIter it a i) where
  mem:=by simp
  obj := fun i h st b hb=>by
    have e:b=it:=by simpa using hb
    subst e
    obtain ⟨o,e,c,d⟩:=st
    exact ⟨o,e,fun v z=>by rw [d] at z;cases z⟩
  keep:=fun i h h' st k=>st.at fun o e=>k it (by simp) o e
  item:=by
    intro X hP hw hK hc i pins s σ H E I hf st hg
    subst hP hw hK
    obtain ⟨xs,x,hq,hx⟩:=hg
    obtain ⟨its,rv,p,hz⟩:=I.tuple hq
    obtain ⟨u,hu,ru⟩:=rv.get hx
    obtain ⟨f0,f1,f2,f3,f4,f5⟩:=hf it (by simp)
    refine wpAny_pyNext_tuple_item st (show s.heap.IsTuple a its.toArray from p) (x:=u) (by simpa using hu) fun h' st' sb=>?_
    have I1:Inv X pins σ H { s with heap:=h' }:=I.turned (t':=s.toks) (fun b o hb e=>(sb.2 b hb).trans e) f0 f1 f3 f4 f5
    obtain ⟨o,e,c,d⟩:=id st'
    exact ⟨u,rfl,go_of (s:={ s with heap:=h' }) e c d (by decide) ⟨x,H,I1,ru,⟨rfl,fun ys hy=>by rw [I.tuple_inj hy hq];exact hx⟩,st',fun b hb=>(hf b hb).1⟩⟩
  done:=by
    intro X hP hw hK hc i pins s σ H E I hf st hg
    subst hP hw hK
    obtain ⟨xs,hq,hx⟩:=hg
    obtain ⟨its,rv,p,hz⟩:=I.tuple hq
    obtain ⟨f0,f1,f2,f3,f4,f5⟩:=hf it (by simp)
    have hl:=rv.length
    exact wpAny_pyNext_tuple_end (I.ok.hd hc) st (show s.heap.IsTuple a its.toArray from p) (by simp;lia) fun h' eb=>⟨rfl,I.turned (t':=s.toks) (fun b o hb e=>eb b o hb e) f0 f1 f3 f4 f5⟩
  self:=fun _ _ _ _ _ st h=>wpAny_pyIter_tupleiter st h
theorem turn_range {P:Program} {w:World} {K:PySem.W.Frag} {tg:Expr} (it:Addr) (lo:Int) (n:Nat):Turn P w K tg (Itr lo n) [it] it (fun i h=>IsRangeIter h it (lo + (i:Nat) * 1) ((n:Int) - (i:Nat)) 1) where
  mem:=by simp
  obj := fun i h st b hb=>by
    have e:b=it:=by simpa using hb
    subst e
    exact ⟨_,st,fun v z=>by
      have z':Data.fields _=Data.cell v:=z
      cases z'⟩
  keep:=fun i h h' st k=>k it (by simp) _ st
  item:=by
    intro X hP hw hK hc i pins s σ H E I hf st hg
    subst hP hw hK
    obtain ⟨f0,f1,f2,f3,f4,f5⟩:=hf it (by simp)
    have W:=Walks.range (prog:=X.prog) (w:=X.w) (I.ok.hd hc) it lo 1 n
    refine W.item i s _ _ hg st fun v h' tk hv st' kk=>?_
    obtain ⟨t,rfl⟩:=hv
    have I1:Inv X pins σ H { s with heap:=h',toks:=tk }:=I.turned (fun b o hb e=>kk b o (by simpa using hb) e) f0 f1 f3 f4 f5
    refine ⟨_,rfl,go_of (s:={ s with heap:=h',toks:=tk }) (n:="range_iterator") st' rfl rfl (by decide) ⟨.int (lo + i),H,I1,⟨t,?_⟩,⟨rfl,rfl⟩,st',fun b hb=>(hf b hb).1⟩⟩
    rw [Int.mul_one]
  done:=by
    intro X hP hw hK hc i pins s σ H E I hf st hg
    subst hP hw hK
    obtain ⟨f0,f1,f2,f3,f4,f5⟩:=hf it (by simp)
    exact wpAny_pyNext_range_end (I.ok.hd hc) st (by have:n<=i:=hg;lia) fun h' eb=>⟨rfl,I.turned (t':=s.toks) (fun b o hb e=>eb b o hb e) f0 f1 f3 f4 f5⟩
  self:=fun _ _ _ _ _ st h=>wpAny_pyIter_rangeiter st h
end L2
namespace L2
open PySem PySem.Spec PyProof.Rows
section
variable {X:Cx} {tg:Expr}
theorem range_it {pins:List (Addr × Obj)} {σ:St} {H:Hp} {s:Shared} {R:It->Hp->Prop} {E:Value->Shared->Prop} {lo hi:Int} {t u v:Tok} {tk:Nat} (I:Inv X pins σ H s) (h1:-(2 ^ 62)<=lo) (h2:lo < 2 ^ 62) (h3:-(2 ^ 62)<=hi) (h4:hi < 2 ^ 62)
    (q:R (Itr lo (hi - lo).toNat) H):wpAny (model X.prog X.w) X.A (pyIter (.ref s.heap.objs.size)) (PIE X pins σ tg R) E { s with heap:=s.heap.push { cls:=.type "range",data:=.fields #[.int lo t,.int hi u,.int 1 v] },toks:=tk }:=by
  refine wpAny_pyIter_range (IsRange.new ..) (small_one h1 h2 h3 h4) ?_
  have I1:Inv X pins σ H { s with heap:=s.heap.push { cls:=.type "range",data:=.fields #[.int lo t,.int hi u,.int 1 v] },toks:=tk }:=I.kept fun b o e=>Heap.get?_push_of_some _ e
  refine ⟨(s.heap.push { cls:=.type "range",data:=.fields #[.int lo t,.int hi u,.int 1 v] }).objs.size,[(s.heap.push { cls:=.type "range",data:=.fields #[.int lo t,.int hi u,.int 1 v] }).objs.size],_,_,H,rfl,
    I1.kept (t':=tk) fun b o e=>Heap.get?_push_of_some _ e,turn_range _ lo (hi - lo).toNat,?_,fun b hb=>?_,q⟩
  . have e1:lo + ((0:Nat):Int) * 1=lo:=by simp
    have e2:(((hi - lo).toNat:Nat):Int) - ((0:Nat):Int)=Builtin.Range.rangeSize lo hi 1:=by rw [rangeSize_one];split <;> lia
    show IsRangeIter _ _ (lo + ((0:Nat):Int) * 1) ((((hi - lo).toNat:Nat):Int) - ((0:Nat):Int)) 1
    rw [e1,e2]
    exact Heap.get?_push_size _ rfl
  . have e:b=(s.heap.push { cls:=.type "range",data:=.fields #[.int lo t,.int hi u,.int 1 v] }).objs.size:=by simpa using hb
    subst e
    exact I1.fpOk (Nat.le_refl _) (I1.hok.fresh (Nat.le_refl _))
noncomputable def tFor (wi:TI) (g:TG) (tb:TS):TS:=fun D σ H=>wi σ H fun J H1=>∃ W:Nat->Nat->St->Hp->Prop,(∃ m,W 0 m σ H1)/\∀ i m σ H,W i m σ H ->
  (J.stop i H/\D.nx σ H)\/(J.go i H/\∃ N:St->Hp->Prop,(∀ σ' H',N σ' H'->∃ m',m' < m/\W (i + 1) m' σ' H')/\∀ x H',J.yld i H x H'->g x σ H' fun σ2 H2=>tb { D with nx:=N,ct:=N,bk:=D.nx } σ2 H2)
noncomputable def pinsAt (fp:List Addr) (h:Heap):List (Addr × Obj):=fp.filterMap fun b=>(h.get? b).map fun o=>(b,o)
theorem mem_pinsAt {fp:List Addr} {h:Heap} {b:Addr} {o:Obj} (hb:b∈fp) (e:h.get? b=some o):(b,o)∈pinsAt fp h:=List.mem_filterMap.mpr ⟨b,hb,by rw [e];rfl⟩
theorem of_pinsAt {fp:List Addr} {h:Heap} {p:Addr × Obj} (hp:p∈pinsAt fp h):p.1∈fp/\h.get? p.1=some p.2:=by
  obtain ⟨b,hb,e⟩:=List.mem_filterMap.mp hp
  cases q:h.get? b with
  | none=>rw [q] at e;cases e
  | some o =>
    rw [q] at e
    have e':(b,o)=p:=Option.some.inj e
    subst e'
    exact ⟨hb,q⟩
theorem Inv.pinned {pins:List (Addr × Obj)} {σ:St} {H:Hp} {s:Shared} {fp:List Addr} (I:Inv X pins σ H s) (hf:∀ b∈fp,FpOk X pins H b) (ho:∀ b∈fp,∃ o,s.heap.get? b=some o/\∀ v,o.data≠.cell v):Inv X (pins++pinsAt fp s.heap) σ H s :=
  I.pins_of fun p hp=>(List.mem_append.mp hp).elim (fun z=>I.pin p (List.mem_append_right _ z)) fun z=>by
    obtain ⟨hb,e⟩:=of_pinsAt z
    obtain ⟨f0,f1,f2,_⟩:=hf p.1 hb
    obtain ⟨o,e',d⟩:=ho p.1 hb
    rw [e] at e';cases e'
    exact ⟨e,f0,f1,f2,d⟩
theorem Inv.unpinned {pins pl:List (Addr × Obj)} {σ:St} {H:Hp} {s:Shared} (I:Inv X (pins++pl) σ H s):Inv X pins σ H s:=I.pins_of fun p hp=>I.pin p (List.mem_append_right _ (List.mem_append_left _ hp))
theorem ps_for {iter:Expr} {body:List Stmt} {wi:TI} {g:TG} {tb:TS} {pos:Pos} (hp:PassesOwn (model X.prog X.w) X.A X.env X.xe) (hc:X.calm=true) (hi:PI X tg iter wi) (hg:PG X tg g) (hb:PSs X body tb)
    (hs:∀ x,foldedSetIterable iter X.env x=pure x:=by intro _;rfl):PS X (.For tg iter body [] pos) (tFor wi g tb):=by
  intro pins s σ H D I h
  refine wpAny_For (thn (hi pins s σ H _ I h) fun v s1 h1=>thn h1 fun itv s2 h2=>?_) hs
  obtain ⟨it,fp,tn,J,H2,e,I2,T,st2,f2,W,⟨m0,w0⟩,turn⟩:=h2
  subst e
  have stat:∀ {H':Hp},(∀ b∈fp,H' b=none)->∀ b∈fp,FpOk X pins H' b:=fun hn b hb=>⟨hn b hb,(f2 b hb).2⟩
  refine codeAny_forLoop_any (fun n s'=>∃ i σ' H',Inv X pins σ' H' s'/\tn i s'.heap/\(∀ b∈fp,H' b=none)/\W i n σ' H') ?_ m0 ⟨0,σ,H2,I2,st2,fun b hb=>(f2 b hb).1,w0⟩
  rintro n s3 ⟨i,σ3,H3,I3,st3,fr3,w3⟩
  rcases turn i n σ3 H3 w3 with ⟨stop,qn⟩ | ⟨go,N,hN,step⟩
  . refine wpAny_passesOwn hp (thn (T.done X rfl rfl rfl hc i pins s3 σ3 H3 X.xe I3 (stat fr3) st3 stop) fun r s4 h_q=>?_)
    obtain ⟨hr,I4⟩:=h_q
    subst hr
    exact wpAny_execs_nil ⟨σ3,H3,I4,qn⟩
  . refine wpAny_passesOwn hp (thn (T.item X rfl rfl rfl hc i pins s3 σ3 H3 X.xe I3 (stat fr3) st3 go) fun r s4 h_q=>?_)
    obtain ⟨u,hr,h4⟩:=h_q
    subst hr
    refine wpAny_passesOwn hp (thn h4 fun _ s5 h_q=>?_)
    obtain ⟨x,H5,I5,r5,y5,st5,fr5⟩:=h_q
    have I5':=I5.pinned (stat fr5) (T.obj _ _ st5)
    refine wpAny_passesOwn hp (thn (hg _ s5 σ3 H5 x u _ I5' r5 (step x H5 y5)) fun _ s6 h_q=>?_)
    obtain ⟨σ6,H6,I6,q6⟩:=h_q
    refine wpAny_passesOwn hp (thn (hb _ s6 σ6 H6 _ I6 q6) fun f s7 q7=>?_)
    have again:∀ {σ7:St} {H7:Hp},Inv X (pins++pinsAt fp s5.heap) σ7 H7 s7->N σ7 H7->∃ m,m < n/\∃ i σ' H',Inv X pins σ' H' s7/\tn i s7.heap/\(∀ b∈fp,H' b=none)/\W i m σ' H':=fun {σ7 H7} I7 n7=>by
      obtain ⟨m',hm,w7⟩:=hN σ7 H7 n7
      refine ⟨m',hm,i + 1,σ7,H7,I7.unpinned,T.keep _ _ _ st5 fun b hb o e=>(I7.pin (b,o) (List.mem_append_right _ (List.mem_append_right _ (mem_pinsAt hb e)))).1,fun b hb=>?_,w7⟩
      obtain ⟨o,e,d⟩:=T.obj _ _ st5 b hb
      exact (I7.pin (b,o) (List.mem_append_right _ (List.mem_append_right _ (mem_pinsAt hb e)))).2.1
    cases f with
    | next=>obtain ⟨σ7,H7,I7,n7⟩:=q7;exact again I7 n7
    | cont=>obtain ⟨σ7,H7,I7,n7⟩:=q7;exact again I7 n7
    | brk=>obtain ⟨σ7,H7,I7,q7⟩:=q7;exact ⟨σ7,H7,I7.unpinned,q7⟩
    | ret v=>obtain ⟨x7,σ7,H7,I7,r7,q7⟩:=q7;exact ⟨x7,σ7,H7,I7.unpinned,r7,q7⟩
end
end L2
namespace L2
open PySem PySem.Spec PyProof.Rows
noncomputable abbrev R2:=V->V->Hp->VK->Prop
noncomputable def OpR (X:Cx) (f:Value->Value->Sem Value) (r:R2):Prop :=
  ∀ (pins:List (Addr × Obj)) (s:Shared) (σ:St) (H:Hp) (x y:V) (v u:Value) (Q:VK),Inv X pins σ H s->RelV x v->RelV y u->r x y H Q ->
    wpAny (model X.prog X.w) X.A (f v u) (EP X pins σ Q) X.xe s
noncomputable def UnR (X:Cx) (f:Value->Sem Value) (r:V->Hp->VK->Prop):Prop :=
  ∀ (pins:List (Addr × Obj)) (s:Shared) (σ:St) (H:Hp) (x:V) (v:Value) (Q:VK),Inv X pins σ H s->RelV x v->r x H Q ->
    wpAny (model X.prog X.w) X.A (f v) (EP X pins σ Q) X.xe s
noncomputable def CallR (X:Cx) (f:Value) (r:List V->Hp->VK->Prop):Prop :=
  ∀ (pins:List (Addr × Obj)) (s:Shared) (σ:St) (H:Hp) (xs:List V) (us:List Value) (Q:VK),Inv X pins σ H s->Vals xs us->r xs H Q ->
    wpAny (model X.prog X.w) X.A (call f us) (EP X pins σ Q) X.xe s
noncomputable def tOp (r:R2) (ta tb:TE):TE:=fun σ H Q=>ta σ H fun x H1=>tb σ H1 fun y H2=>r x y H2 Q
noncomputable def tUn (r:V->Hp->VK->Prop) (ta:TE):TE:=fun σ H Q=>ta σ H fun x H1=>r x H1 Q
noncomputable def rI (C:Int->Int->Prop) (g:Int->Int->V):R2:=fun x y H Q=>∃ i j,x=.int i/\y=.int j/\C i j/\Q (g i j) H
noncomputable def rI0 (g:Int->Int->V):R2:=fun x y H Q=>∃ i j,x=.int i/\y=.int j/\Q (g i j) H
noncomputable def rU (g:Int->V):V->Hp->VK->Prop:=fun x H Q=>∃ i,x=.int i/\Q (g i) H
section
variable {X:Cx} {a b c:Expr} {ta tb tc:TE} {pos:Pos}
theorem binT (ha:PE X a ta) (hb:PE X b tb) {pins:List (Addr × Obj)} {s:Shared} {σ:St} {H:Hp} {R:V->V->Hp->Prop} (I:Inv X pins σ H s)
    (h:ta σ H fun x H1=>tb σ H1 fun y H2=>R x y H2) {Q:Value->Shared->Prop} {f:Value->Value->Sem Value}
    (hf:∀ v u s2 x y H2,Inv X pins σ H2 s2->RelV x v->RelV y u->R x y H2->wpAny (model X.prog X.w) X.A (f v u) Q X.xe s2) :
    wpAny (model X.prog X.w) X.A (eval a X.env) (fun v s₁=>wpAny (model X.prog X.w) X.A (eval b X.env) (fun u s₂=>wpAny (model X.prog X.w) X.A (f v u) Q X.xe s₂) X.xe s₁) X.xe s:=by
  refine thn (ha pins s σ H _ I h) fun v s1 h_q=>?_
  obtain ⟨x,H1,I1,r1,q1⟩:=h_q
  refine thn (hb pins s1 σ H1 _ I1 q1) fun u s2 h_q=>?_
  obtain ⟨y,H2,I2,r2,q2⟩:=h_q
  exact hf v u s2 x y H2 I2 r1 r2 q2
theorem pe_op {op:Operator} {r:R2} (ho:OpR X (binaryOp op) r) (ha:PE X a ta) (hb:PE X b tb):PE X (.BinOp a op b pos) (tOp r ta tb):=by
  intro pins s σ H Q I h
  exact wpAny_BinOp (binT ha hb I h fun v u s2 x y H2 I2 rx ry q=>ho pins s2 σ H2 x y v u Q I2 rx ry q)
theorem pe_un {op:UnaryOp} {r:V->Hp->VK->Prop} (ho:UnR X (unaryOp op) r) (ha:PE X a ta):PE X (.UnaryOp op a pos) (tUn r ta):=by
  intro pins s σ H Q I h
  exact UnaryOp_ (thn (ha pins s σ H _ I h) fun v s1 ⟨x,H1,I1,r1,q1⟩=>ho pins s1 σ H1 x v Q I1 r1 q1)
theorem opI {f:Value->Value->Sem Value} {C:Int->Int->Prop} {g:Int->Int->Int}
    (rule:∀ (i j:Int) (t u:Tok) (s:Shared) (Q:Value->Shared->Prop) (E:Value->Shared->Prop),C i j->Q (.int (g i j) s.toks) { s with toks:=s.toks + 1 }->wpAny (model X.prog X.w) X.A (f (.int i t) (.int j u)) Q E s) :
    OpR X f (rI C fun i j=>.int (g i j)):=by
  intro pins s σ H x y v u Q I rx ry h
  obtain ⟨i,j,rfl,rfl,hc,q⟩:=h
  obtain ⟨t,rfl⟩:=rx
  obtain ⟨t',rfl⟩:=ry
  exact rule i j t t' s _ _ hc ⟨.int (g i j),H,I.tok _,⟨_,rfl⟩,q⟩
theorem opI0 {f:Value->Value->Sem Value} {g:Int->Int->Int}
    (rule:∀ (i j:Int) (t u:Tok) (s:Shared) (Q:Value->Shared->Prop) (E:Value->Shared->Prop),Q (.int (g i j) s.toks) { s with toks:=s.toks + 1 }->wpAny (model X.prog X.w) X.A (f (.int i t) (.int j u)) Q E s) :
    OpR X f (rI0 fun i j=>.int (g i j)):=by
  intro pins s σ H x y v u Q I rx ry h
  obtain ⟨i,j,rfl,rfl,q⟩:=h
  obtain ⟨t,rfl⟩:=rx
  obtain ⟨t',rfl⟩:=ry
  exact rule i j t t' s _ _ ⟨.int (g i j),H,I.tok _,⟨_,rfl⟩,q⟩
theorem opB0 {f:Value->Value->Sem Value} {g:Int->Int->Bool}
    (rule:∀ (i j:Int) (t u:Tok) (s:Shared) (Q:Value->Shared->Prop) (E:Value->Shared->Prop),Q (.bool (g i j)) s->wpAny (model X.prog X.w) X.A (f (.int i t) (.int j u)) Q E s) :
    OpR X f (rI0 fun i j=>.bl (g i j)):=by
  intro pins s σ H x y v u Q I rx ry h
  obtain ⟨i,j,rfl,rfl,q⟩:=h
  obtain ⟨t,rfl⟩:=rx
  obtain ⟨t',rfl⟩:=ry
  exact rule i j t t' s _ _ ⟨.bl (g i j),H,I,rfl,q⟩
noncomputable def CDiv (i j:Int):Prop:=0 < j/\j < 1073741824
noncomputable def CPow (i j:Int):Prop:=0<=j/\j<=1000000/\i.natAbs < 2 ^ 64
noncomputable def CMul (i j:Int):Prop:=(-(2 ^ 64) < i/\i < 2 ^ 64)\/(-(2 ^ 64) < j/\j < 2 ^ 64)
theorem CMul.ok {i j:Int} (h:CMul i j):IntMulOk i j:=by
  rcases h with ⟨h1,h2⟩ | ⟨h1,h2⟩
  . exact .of_left (intBits_le_64 h1 h2)
  . exact .of_right (intBits_le_64 h1 h2)
theorem op_add:OpR X (binaryOp .Add) (rI0 fun i j=>.int (i + j)):=opI0 fun _ _ _ _ _ _ _ q=>add_int q
theorem op_sub:OpR X (binaryOp .Sub) (rI0 fun i j=>.int (i - j)):=opI0 fun _ _ _ _ _ _ _ q=>sub_int q
theorem op_fdiv:OpR X (binaryOp .FloorDiv) (rI CDiv fun i j=>.int (i / j)):=opI fun i j _ _ _ _ _ hc q=>by
  have h1:(0:Int) < j:=hc.1
  have h2:j < 1073741824:=hc.2
  exact floordiv_int (by lia) (by rw [Int.fdiv_eq_ediv_of_nonneg i (by lia)];exact q) (.inl (PyProof.noPylong_small (by lia)))
theorem op_mod:OpR X (binaryOp .Mod) (rI (fun _ j=>0 < j) fun i j=>.int (i % j)):=opI fun i j _ _ _ _ _ hc q=>by
  have h1:(0:Int) < j:=hc
  exact mod_int' (by lia) (by rw [Int.fmod_eq_emod_of_nonneg i (by lia)];exact q)
theorem op_pow:OpR X (binaryOp .Pow) (rI CPow fun i j=>.int (i ^ j.toNat)):=opI fun _ _ _ _ _ _ _ hc q=>pow_int_small hc.1 hc.2.1 hc.2.2 q
theorem unI {f:Value->Sem Value} {g:Int->Int}
    (rule:∀ (i:Int) (t:Tok) (s:Shared) (Q:Value->Shared->Prop) (E:Value->Shared->Prop),Q (.int (g i) s.toks) { s with toks:=s.toks + 1 }->wpAny (model X.prog X.w) X.A (f (.int i t)) Q E s) :
    UnR X f (rU fun i=>.int (g i)):=by
  intro pins s σ H x v Q I rx h
  obtain ⟨i,rfl,q⟩:=h
  obtain ⟨t,rfl⟩:=rx
  exact rule i t s _ _ ⟨.int (g i),H,I.tok _,⟨_,rfl⟩,q⟩
theorem un_neg:UnR X (unaryOp .USub) (rU fun i=>.int (-i)):=unI fun _ _ _ _ _ q=>neg_int q
end
noncomputable def scal:V->V->Bool
  | .non,.non=>true | .non,.int _=>true | .int _,.non=>true | .non,.bl _=>true | .bl _,.non=>true | .non,.str _=>true | .str _,.non=>true
  | .int _,.int _=>true | .bl _,.bl _=>true | .str _,.str _=>true | .byt _,.byt _=>true
  | .int _,.str _=>true | .str _,.int _=>true | .bl _,.str _=>true | .str _,.bl _=>true
  | _,_=>false
noncomputable def rEq:R2:=fun x y H Q=>scal x y=true/\Q (.bl (decide (x=y))) H
noncomputable def rNe:R2:=fun x y H Q=>scal x y=true/\Q (.bl (!decide (x=y))) H
theorem dec_int {i j:Int}:decide (V.int i=V.int j)=(i == j):=by
  rw [Bool.eq_iff_iff]
  simp
theorem dec_bl {i j:Bool}:decide (V.bl i=V.bl j)=(i == j):=by
  rw [Bool.eq_iff_iff]
  simp
theorem dec_str {i j:Str}:decide (V.str i=V.str j)=(i == j):=by
  rw [Bool.eq_iff_iff]
  simp
theorem dec_byt {i j:Array UInt8}:decide (V.byt i=V.byt j)=(i.toList == j.toList):=by
  rw [Bool.eq_iff_iff]
  cases i
  cases j
  simp
section
variable {X:Cx} {a b c:Expr} {ta tb tc:TE} {pos:Pos}
theorem fin_bl {pins:List (Addr × Obj)} {σ:St} {H:Hp} {s:Shared} {Q:VK} {k k':Bool} (I:Inv X pins σ H s) (q:Q (.bl k) H) (e:k=k'):EP X pins σ Q (.bool k') s:=by
  subst e
  exact ⟨.bl k,H,I,rfl,q⟩
theorem op_eq:OpR X (compareOp .Eq) rEq:=by
  intro pins s σ H x y v u Q I rx ry h
  obtain ⟨hs,q⟩:=h
  cases x with
  | non =>
    cases rx
    cases y with
    | non=>cases ry;exact PySem.EqNone.eq_none_none (fin_bl I q (by simp))
    | bl j=>cases ry;exact PySem.EqNone.eq_none_bool (fin_bl I q (by simp))
    | int j=>obtain ⟨t',rfl⟩:=ry;exact PySem.EqNone.eq_none_int (fin_bl I q (by simp))
    | str j=>obtain ⟨t',rfl⟩:=ry;exact PySem.EqNone.eq_none_str (fin_bl I q (by simp))
    | _=>exact absurd (show false=true from hs) Bool.false_ne_true
  | bl i =>
    cases rx
    cases y with
    | non=>cases ry;exact PySem.EqNone.eq_bool_none (fin_bl I q (by simp))
    | bl j=>cases ry;exact eq_bool (fin_bl I q dec_bl)
    | str j=>obtain ⟨t',rfl⟩:=ry;exact PySem.EqMixed.eq_bool_str (fin_bl I q (by simp))
    | _=>exact absurd (show false=true from hs) Bool.false_ne_true
  | int i =>
    obtain ⟨t,rfl⟩:=rx
    cases y with
    | non=>cases ry;exact PySem.EqNone.eq_int_none (fin_bl I q (by simp))
    | int j=>obtain ⟨t',rfl⟩:=ry;exact eq_int (fin_bl I q dec_int)
    | str j=>obtain ⟨t',rfl⟩:=ry;exact PySem.EqMixed.eq_int_str (fin_bl I q (by simp))
    | _=>exact absurd (show false=true from hs) Bool.false_ne_true
  | str i =>
    obtain ⟨t,rfl⟩:=rx
    cases y with
    | non=>cases ry;exact PySem.EqNone.eq_str_none (fin_bl I q (by simp))
    | bl j=>cases ry;exact PySem.EqMixed.eq_str_bool (fin_bl I q (by simp))
    | int j=>obtain ⟨t',rfl⟩:=ry;exact PySem.EqMixed.eq_str_int (fin_bl I q (by simp))
    | str j=>obtain ⟨t',rfl⟩:=ry;exact eq_str (fin_bl I q dec_str)
    | _=>exact absurd (show false=true from hs) Bool.false_ne_true
  | byt i =>
    obtain ⟨t,rfl⟩:=rx
    cases y with
    | byt j=>obtain ⟨t',rfl⟩:=ry;exact PySem.W.eq_bytes (fin_bl I q dec_byt)
    | _=>exact absurd (show false=true from hs) Bool.false_ne_true
  | _=>cases y <;> exact absurd (show false=true from hs) Bool.false_ne_true
theorem op_ne:OpR X (compareOp .NotEq) rNe:=by
  intro pins s σ H x y v u Q I rx ry h
  obtain ⟨hs,q⟩:=h
  cases x with
  | non =>
    cases rx
    cases y with
    | non=>cases ry;exact PySem.EqNone.ne_none_none (fin_bl I q (by simp))
    | bl j=>cases ry;exact PySem.EqNone.ne_none_bool (fin_bl I q (by simp))
    | int j=>obtain ⟨t',rfl⟩:=ry;exact PySem.EqNone.ne_none_int (fin_bl I q (by simp))
    | str j=>obtain ⟨t',rfl⟩:=ry;exact PySem.EqNone.ne_none_str (fin_bl I q (by simp))
    | _=>exact absurd (show false=true from hs) Bool.false_ne_true
  | bl i =>
    cases rx
    cases y with
    | non=>cases ry;exact PySem.EqNone.ne_bool_none (fin_bl I q (by simp))
    | bl j=>cases ry;exact ne_bool (fin_bl I q (congrArg not dec_bl))
    | str j=>obtain ⟨t',rfl⟩:=ry;exact PySem.EqMixed.ne_bool_str (fin_bl I q (by simp))
    | _=>exact absurd (show false=true from hs) Bool.false_ne_true
  | int i =>
    obtain ⟨t,rfl⟩:=rx
    cases y with
    | non=>cases ry;exact PySem.EqNone.ne_int_none (fin_bl I q (by simp))
    | int j=>obtain ⟨t',rfl⟩:=ry;exact ne_int (fin_bl I q (congrArg not dec_int))
    | str j=>obtain ⟨t',rfl⟩:=ry;exact PySem.EqMixed.ne_int_str (fin_bl I q (by simp))
    | _=>exact absurd (show false=true from hs) Bool.false_ne_true
  | str i =>
    obtain ⟨t,rfl⟩:=rx
    cases y with
    | non=>cases ry;exact PySem.EqNone.ne_str_none (fin_bl I q (by simp))
    | bl j=>cases ry;exact PySem.EqMixed.ne_str_bool (fin_bl I q (by simp))
    | int j=>obtain ⟨t',rfl⟩:=ry;exact PySem.EqMixed.ne_str_int (fin_bl I q (by simp))
    | str j=>obtain ⟨t',rfl⟩:=ry;exact ne_str (fin_bl I q (congrArg not dec_str))
    | _=>exact absurd (show false=true from hs) Bool.false_ne_true
  | byt i =>
    obtain ⟨t,rfl⟩:=rx
    cases y with
    | byt j=>obtain ⟨t',rfl⟩:=ry;exact PySem.W.ne_bytes (fin_bl I q (congrArg not dec_byt))
    | _=>exact absurd (show false=true from hs) Bool.false_ne_true
  | _=>cases y <;> exact absurd (show false=true from hs) Bool.false_ne_true
theorem op_lt:OpR X (compareOp .Lt) (rI0 fun i j=>.bl (decide (i < j))):=opB0 fun _ _ _ _ _ _ _ q=>lt_int q
theorem op_le:OpR X (compareOp .LtE) (rI0 fun i j=>.bl (decide (i<=j))):=opB0 fun _ _ _ _ _ _ _ q=>le_int q
theorem op_gt:OpR X (compareOp .Gt) (rI0 fun i j=>.bl (decide (j < i))):=opB0 fun _ _ _ _ _ _ _ q=>gt_int q
theorem op_ge:OpR X (compareOp .GtE) (rI0 fun i j=>.bl (decide (j<=i))):=opB0 fun _ _ _ _ _ _ _ q=>ge_int q
theorem op_lt_str:OpR X (compareOp .Lt) (fun x y H Q=>∃ i j,x=.str i/\y=.str j/\Q (.bl (decide (i.cps.toList < j.cps.toList))) H):=by
  intro pins s σ H x y v u Q I rx ry h
  obtain ⟨i,j,rfl,rfl,q⟩:=h
  obtain ⟨t,rfl⟩:=rx
  obtain ⟨t',rfl⟩:=ry
  exact lt_str (fin_bl I q rfl)
theorem op_in_str:OpR X (compareOp .In) (fun x y H Q=>∃ i j,x=.str i/\y=.str j/\Q (.bl (!(Builtin.Str.occurrences j i 0 j.length 1).isEmpty)) H):=by
  intro pins s σ H x y v u Q I rx ry h
  obtain ⟨i,j,rfl,rfl,q⟩:=h
  obtain ⟨t,rfl⟩:=rx
  obtain ⟨t',rfl⟩:=ry
  exact in_str (fin_bl I q rfl)
theorem OpR.or {f:Value->Value->Sem Value} {r r':R2} (h:OpR X f r) (h':OpR X f r'):OpR X f (fun x y H Q=>r x y H Q\/r' x y H Q):=by
  intro pins s σ H x y v u Q I rx ry q
  rcases q with q | q
  . exact h pins s σ H x y v u Q I rx ry q
  . exact h' pins s σ H x y v u Q I rx ry q
theorem nomark (b:Expr) {op:CmpOp} (h:op≠.In:=by decide) (h2:op≠.NotIn:=by decide):behindInMarks op b=false:=by
  have e1:(op == CmpOp.In)=false:=by cases op <;> first | rfl | exact absurd rfl h
  have e2:(op == CmpOp.NotIn)=false:=by cases op <;> first | rfl | exact absurd rfl h2
  cases b <;> simp [behindInMarks,e1,e2]
theorem pe_cmpR {op:CmpOp} {r:R2} (ho:OpR X (compareOp op) r) (ha:PE X a ta) (hb:PE X b tb) (hm:behindInMarks op b=false):PE X (.Compare a [op] [b] pos) (tOp r ta tb):=by
  intro pins s σ H Q I h
  exact wpAny_Compare1 (binT ha hb I h fun v u s2 x y H2 I2 rx ry q=>ho pins s2 σ H2 x y v u Q I2 rx ry q) hm
noncomputable def tTest (t:TE):TT:=fun σ H Q=>t σ H fun x H'=>∃ k,x=.bl k/\Q k H'
theorem pt_cmpR {op:CmpOp} {r:R2} (ho:OpR X (compareOp op) r) (ha:PE X a ta) (hb:PE X b tb) (hm:behindInMarks op b=false):PT X (.Compare a [op] [b] pos) (tTest (tOp r ta tb)):=by
  intro pins s σ H Q I h
  refine wpAny_isTrue_Compare1 (thn (ha pins s σ H _ I h) fun v s1 ⟨x,H1,I1,r1,q1⟩=>thn (hb pins s1 σ H1 _ I1 q1) fun u s2 ⟨y,H2,I2,r2,q2⟩ =>
    thn (ho pins s2 σ H2 x y v u _ I2 r1 r2 q2) fun c s3 ⟨z,H3,I3,r3,k,e,q3⟩=>?_) hm
  subst e
  cases r3
  exact wpAny_truthy_bool ⟨H3,I3,q3⟩
theorem line63:(sizeLine:Nat) < 2 ^ 63:=by rw [sizeLine_eq];decide
theorem op_add_str:OpR X (binaryOp .Add) (fun x y H Q=>∃ i j,x=.str i/\y=.str j/\i.length + j.length<=sizeLine/\Q (.str (i++j)) H):=by
  intro pins s σ H x y v u Q I rx ry h
  obtain ⟨i,j,rfl,rfl,hz,q⟩:=h
  obtain ⟨t,rfl⟩:=rx
  obtain ⟨t',rfl⟩:=ry
  exact add_str (fun t' tk=>⟨.str (i++j),H,I.tok _,⟨_,rfl⟩,q⟩) hz
theorem vals1 {x:V} {us:List Value} (r:Vals [x] us):∃ u,us=[u]/\RelV x u:=by
  cases r with
  | cons r1 r2=>cases r2;exact ⟨_,rfl,r1⟩
theorem vals2 {x y:V} {us:List Value} (r:Vals [x,y] us):∃ u w',us=[u,w']/\RelV x u/\RelV y w':=by
  cases r with
  | cons r1 r2 =>
    cases r2 with
    | cons r3 r4=>cases r4;exact ⟨_,_,rfl,r1,r3⟩
theorem call_max2 (hc:X.calm=true):CallR X (.builtin "max") (fun xs H Q=>∃ i j,xs=[.int i,.int j]/\Q (.int (if j > i then j else i)) H):=by
  intro pins s σ H xs us Q I r h
  obtain ⟨i,j,rfl,q⟩:=h
  obtain ⟨u,w',rfl,⟨t,rfl⟩,⟨t',rfl⟩⟩:=vals2 r
  refine max_two_ints (I.ok.hd hc) fun h' tk k=>⟨_,H,I.kept k,?_,q⟩
  by_cases hj:j > i
  . rw [if_pos hj,if_pos hj];exact ⟨_,rfl⟩
  . rw [if_neg hj,if_neg hj];exact ⟨_,rfl⟩
theorem call_min2 (hc:X.calm=true):CallR X (.builtin "min") (fun xs H Q=>∃ i j,xs=[.int i,.int j]/\Q (.int (if j < i then j else i)) H):=by
  intro pins s σ H xs us Q I r h
  obtain ⟨i,j,rfl,q⟩:=h
  obtain ⟨u,w',rfl,⟨t,rfl⟩,⟨t',rfl⟩⟩:=vals2 r
  refine min_two_ints (I.ok.hd hc) fun h' tk k=>⟨_,H,I.kept k,?_,q⟩
  by_cases hj:j < i
  . rw [if_pos hj,if_pos hj];exact ⟨_,rfl⟩
  . rw [if_neg hj,if_neg hj];exact ⟨_,rfl⟩
theorem call_int1:CallR X (.type "int") (fun xs H Q=>(∃ i,xs=[.int i]/\Q (.int i) H)\/∃ k,xs=[.bl k]/\Q (.int (if k then 1 else 0)) H):=by
  intro pins s σ H xs us Q I r h
  rcases h with ⟨i,rfl,q⟩ | ⟨k,rfl,q⟩
  . obtain ⟨u,rfl,t,rfl⟩:=vals1 r
    exact call_int_int ⟨.int i,H,I,⟨_,rfl⟩,q⟩
  . obtain ⟨u,rfl,r1⟩:=vals1 r
    cases r1
    exact call_int_bool ⟨.int (if k then 1 else 0),H,I.tok _,⟨_,rfl⟩,q⟩
end
end L2
namespace L2
open PySem PySem.Spec PyProof.Rows
structure ObjM (h:Heap) (x dx C:Addr) (mA:Str->Option Value):Prop where
  obj:h.get? x=some (PySem.W.instObj C dx)
  ns:h.Ns1 dx mA
  ne:dx≠x
theorem lookIn_ns {h:Heap} {dx:Addr} {mA:Str->Option Value} (n:h.Ns1 dx mA):∃ od,h.get? dx=some od/\∀ name,PySem.W.lookIn name od=some (mA name):=by
  obtain ⟨o,es,ep,ho,hd,hk,_,hm⟩:=n
  refine ⟨o,ho,fun name=>?_⟩
  have e:=hm name
  unfold nsFind findBy at e
  rw [<- Array.find?_toList] at e
  unfold PySem.W.lookIn
  rw [hd]
  dsimp only
  split
  . rename_i y q
    rw [q] at e
    exact congrArg some e
  . rename_i q
    rw [q] at e
    have a:es.toList.any (·.refKey)=false:=by
      rw [List.any_eq_false]
      intro y hy
      obtain ⟨z,t,hkey⟩:=hk y (Array.mem_toList_iff.mp hy)
      simp [DictEntry.refKey,hkey]
    have a':¬ es.toList.any (·.refKey)=true:=by rw [a];exact Bool.false_ne_true
    rw [if_neg a']
    exact congrArg some e
theorem ObjM.look {h:Heap} {x dx C:Addr} {mA:Str->Option Value} (I:ObjM h x dx C mA):∃ od,PySem.W.InstAt h x (PySem.W.instObj C dx) C (some od)/\∀ name,PySem.W.lookIn name od=some (mA name) :=
  let ⟨od,ho,hl⟩:=lookIn_ns I.ns
  ⟨od,⟨I.obj,rfl,rfl,ho⟩,hl⟩
section
variable {prog:Program} {w:World} {A:Around} {E:Value->Shared->Prop} {s:Shared} {K:PySem.W.Frag} {x dx C f:Addr} {mA:Str->Option Value} {name:Str} {v:Value}
theorem get_map {expr:Bool} {Q:Value->Shared->Prop} (X:K.In s.heap) (I:ObjM s.heap x dx C mA) (hg:PySem.W.plainGet K C name=true) (hh:PySem.W.hasDictIn K C=true)
    (ha:PySem.W.findIn K (.ref C) name=some none) (hv:mA name=some v) (hv':PySem.W.handedIn v=true) (h:Q v { s with toks:=s.toks + 1 }) :
    wpAny (model prog w) A (getAttr (.ref x) name expr) Q E s:=by
  obtain ⟨od,J,hl⟩:=I.look
  exact PySem.W.get_value X J (PySem.W.plainGet_of hg).1 (PySem.W.findObj_own hh ha rfl (by rw [hl,hv])) hv' h
theorem get_meth {pl:Sem Bool} {Q:Value × List Value->Shared->Prop} (X:K.In s.heap) (I:ObjM s.heap x dx C mA) (hg:PySem.W.plainGet K C name=true)
    (hf:PySem.W.findIn K (.ref C) name=some (some (.ref f))) (ht:PySem.W.isFn K (.ref f)=true) (hv:mA name=none) (h:Q (.ref f,[.ref x]) s) :
    wpAny (model prog w) A (getMethod (.ref x) name pl) Q E s:=by
  obtain ⟨od,J,hl⟩:=I.look
  exact PySem.W.method_fn X J (PySem.W.plainGet_of hg).1 (PySem.W.plainGet_of hg).2 hf (beq_iff_eq.mp ht) (by show (PySem.W.lookIn name od).map (·.isSome)=some false;rw [hl,hv];rfl) h
theorem set_map {ns:List Str} {Q:Unit->Shared->Prop} (X:K.In s.heap) (I:ObjM s.heap x dx C mA)
    (hs:PySem.W.findIn K (.ref C) "__setattr__"=some (some (.builtin "object.__setattr__"))) (hp:PySem.W.plainOver K C=true) (ht:PySem.W.takerIn K C name=some none) (hh:PySem.W.hasDictIn K C=true)
    (hw:PySem.Within mA ns) (hsz:ns.length<=sizeLine)
    (h:∀ h',ObjM h' x dx C (fun y=>if y=name then some v else mA y)->Heap.SameBut dx s.heap h'->Q () { s with heap:=h',toks:=s.toks + 2 }) :
    wpAny (model prog w) A (setAttr (.ref x) name v) Q E s:=by
  obtain ⟨od,J,hl⟩:=I.look
  refine PySem.W.set_plain X J hs (PySem.W.osa_open (s:={ s with toks:=s.toks + 1 }) (r:=none) X J hp ht fun b=>?_)
  obtain ⟨cd,hc,hd'⟩:=PySem.W.any_some hh
  have hx:s.heap.get? x=some ⟨.ref C,some dx,.plain,#[]⟩:=I.obj
  refine wpAny_bind (wpAny_pure (wpAny_bind (wpAny_bind (wpAny_loadPart hx (wpAny_bind (PySem.W.Looks.here (s:={ s with toks:=s.toks + 1 }) (PySem.W.looks_clsIn X hc) ?_))))))
  rw [hd']
  refine wpAny_pure (a:=some dx) (wpAny_bind (wpAny_pure (wpAny_bind ?_)))
  refine wpAny_nsSet1 (s:={ s with toks:=s.toks + 1 }) I.ns fun h' hn2 hs2=>?_
  obtain ⟨oD,esD,epD,hoD,hdD,hcD⟩:=hn2.count (PySem.Within.cons name v hw)
  refine wpAny_bind (wpAny_lookBehind hoD (by rw [hdD];exact pastItsLine_dict (Nat.le_trans hcD (by rw [List.length_cons];lia))) ?_)
  exact wpAny_pure (h _ ⟨(hs2.2 _ (Ne.symm I.ne)).trans I.obj,hn2,I.ne⟩ hs2)
theorem make_map {R:Result->Shared->Prop} {vs:List Value} {kw:List (Str × Value)} (X:K.In s.heap) (hm:PySem.W.makesIn K C=true)
    (hi:PySem.W.findIn K (.ref C) "__init__"=some (some (.ref f))) (hf:PySem.W.typeIn K (.ref f)=some (.type "function"))
    (h : codeAny (model prog w) (A.under (.builtin "type.__call__" ⟨.ref C::vs,kw⟩)) (.call (.ref f) ⟨.ref (s.heap.objs.size + 1)::vs,kw⟩) (PySem.W.InitBack (s.heap.objs.size + 1) R)
      { s with heap:=(s.heap.push PySem.W.emptyDict).push (PySem.W.instObj C s.heap.objs.size) }) :
    codeAny (model prog w) A (.call (.ref C) ⟨vs,kw⟩) R s:=by
  obtain ⟨hh,g,d,t,os⟩:=s
  exact PySem.W.make_core (PySem.W.makes_of X hm) (PySem.W.looks_findIn X hi) (fun self=>PySem.W.bind_fn X self hf) (.inl rfl) h
theorem make_map0 {R:Result->Shared->Prop} (X:K.In s.heap) (hm:PySem.W.makesIn K C=true)
    (hi:PySem.W.findIn K (.ref C) "__init__"=some (some (.builtin "object.__init__")))
    (hb:∀ self,PySem.W.Looks (model prog w) s.heap (bindSpecial (.builtin "object.__init__") self) (.builtin "object.__init__",[self]))
    (h : codeAny (model prog w) (A.under (.builtin "type.__call__" ⟨[.ref C],[]⟩)) (.call (.builtin "object.__init__") ⟨[.ref (s.heap.objs.size + 1)],[]⟩) (PySem.W.InitBack (s.heap.objs.size + 1) R)
      { s with heap:=(s.heap.push PySem.W.emptyDict).push (PySem.W.instObj C s.heap.objs.size) }) :
    codeAny (model prog w) A (.call (.ref C) ⟨[],[]⟩) R s:=by
  obtain ⟨hh,g,d,t,os⟩:=s
  exact PySem.W.make_core (PySem.W.makes_of X hm) (PySem.W.looks_findIn X hi) hb (.inr ⟨rfl,rfl⟩) h
end
noncomputable def putF (f:Str) (v:V):List (Str × V)->List (Str × V)
  | []=>[(f,v)]
  | (g,x)::r=>if g=f then (g,v)::r else (g,x)::putF f v r
theorem lookup_putF (f g:Str) (v:V):∀ fs:List (Str × V),(putF f v fs).lookup g=if g=f then some v else fs.lookup g
  | [] => by
    show List.lookup g [(f,v)]=_
    by_cases h:g=f
    . have hb:(g == f)=true:=beq_iff_eq.mpr h
      simp only [List.lookup,hb,if_pos h]
    . have hb:(g == f)=false:=beq_eq_false_iff_ne.mpr h
      simp only [List.lookup,hb,if_neg h]
  | (k, x)::r=>by
    have ih:=lookup_putF f g v r
    rw [show putF f v ((k,x)::r)=(if k=f then (k,v)::r else (k,x)::putF f v r) from rfl]
    by_cases hk:k=f
    . rw [if_pos hk]
      by_cases h:g=k
      . have hb:(g == k)=true:=beq_iff_eq.mpr h
        simp only [List.lookup,hb,if_pos (h.trans hk)]
      . have hb:(g == k)=false:=beq_eq_false_iff_ne.mpr h
        simp only [List.lookup,hb,if_neg (fun e:g=f=>h (e.trans hk.symm))]
    . rw [if_neg hk]
      by_cases h:g=k
      . have hb:(g == k)=true:=beq_iff_eq.mpr h
        simp only [List.lookup,hb,if_neg (fun e:g=f=>hk (h.symm.trans e))]
      . have hb:(g == k)=false:=beq_eq_false_iff_ne.mpr h
        simp only [List.lookup,hb]
        exact ih
theorem keys_putF (f:Str) (v:V):∀ fs:List (Str × V),f∈(putF f v fs).map (·.1)/\∀ g,g∈fs.map (·.1)->g∈(putF f v fs).map (·.1)
  | []=>⟨by simp [putF],fun g h=>by simp at h⟩
  | (k, x)::r=>by
    obtain ⟨i1,i2⟩:=keys_putF f v r
    rw [show putF f v ((k,x)::r)=(if k=f then (k,v)::r else (k,x)::putF f v r) from rfl]
    by_cases hk:k=f
    . rw [if_pos hk]
      subst hk
      exact ⟨by simp,fun g h=>by simpa using h⟩
    . rw [if_neg hk]
      refine ⟨?_,fun g h=>?_⟩
      . rw [List.map_cons]
        exact List.mem_cons_of_mem _ i1
      . rw [List.map_cons] at h ⊢
        rcases List.mem_cons.mp h with e | e
        . exact List.mem_cons.mpr (.inl e)
        . exact List.mem_cons_of_mem _ (i2 g e)
theorem length_putF (f:Str) (v:V):∀ fs:List (Str × V),(putF f v fs).length<=fs.length + 1
  | []=>by simp [putF]
  | (k,x)::r=>by
    have ih:=length_putF f v r
    rw [show putF f v ((k,x)::r)=(if k=f then (k,v)::r else (k,x)::putF f v r) from rfl]
    by_cases hk:k=f
    . rw [if_pos hk,List.length_cons,List.length_cons];lia
    . rw [if_neg hk,List.length_cons,List.length_cons];lia
theorem RelO.some_of {v:V} {o:Option Value} (r:RelO (some v) o):∃ u,o=some u/\RelV v u:=by
  cases o with
  | none=>exact (show False from r).elim
  | some u=>exact ⟨u,rfl,r⟩
theorem RelO.none_of {o:Option Value} (r:RelO none o):o=none:=by
  cases o with
  | none=>rfl
  | some u=>exact (show False from r).elim
theorem handed_of {v:V} {u:Value} (r:RelV v u):PySem.W.handedIn u=true:=by
  cases v with
  | non=>cases (show u=Value.none from r);rfl
  | bl b=>cases (show u=Value.bool b from r);rfl
  | int i=>obtain ⟨t,e⟩:=(show ∃ t,u=Value.int i t from r);cases e;rfl
  | str x=>obtain ⟨t,e⟩:=(show ∃ t,u=Value.str x t from r);cases e;rfl
  | byt b=>obtain ⟨t,e⟩:=(show ∃ t,u=Value.bytes b t from r);cases e;rfl
  | flt b=>obtain ⟨t,e⟩:=(show ∃ t,u=Value.float b t from r);cases e;rfl
  | ref a=>cases (show u=Value.ref a from r);rfl
  | ty n=>cases (show u=Value.type n from r);rfl
section
variable {P:Program} {w:World} {H H':Hp} {h h':Heap} {a C dx:Addr} {fs fs':List (Str × V)}
theorem ins_get (hok:HOk P w H h) (e:H a=some (.ins C dx fs)):∃ mA,ObjM h a dx C mA/\(∀ f,RelO (fs.lookup f) (mA f))/\PySem.Within mA (fs.map (·.1))/\fs.length<=1000/\H dx=some (.own a):=by
  obtain ⟨d,z,ne,ob,mA,n,r,q⟩:=(show ObjOk P w H h a (.ins C dx fs) from hok a _ e)
  exact ⟨mA,⟨ob,n,ne⟩,r,q,z,d⟩
end
structure Cls (K:PySem.W.Frag) (C:Addr):Prop where
  pg:PySem.W.plainGet K C Str.empty=true
  hd:PySem.W.hasDictIn K C=true
  po:PySem.W.plainOver K C=true
  sa:PySem.W.findIn K (.ref C) "__setattr__"=some (some (.builtin "object.__setattr__"))
theorem Cls.get {K:PySem.W.Frag} {C:Addr} (c:Cls K C) (f:Str):PySem.W.plainGet K C f=true:=c.pg
noncomputable def NoAttr (K:PySem.W.Frag) (C:Addr) (f:Str):Prop:=PySem.W.findIn K (.ref C) f=some none
theorem NoAttr.taker {K:PySem.W.Frag} {C:Addr} {f:Str} (n:NoAttr K C f):PySem.W.takerIn K C f=some none:=by
  unfold PySem.W.takerIn
  rw [show PySem.W.findIn K (.ref C) f=some none from n]
  rfl
structure Meth (K:PySem.W.Frag) (C:Addr) (m:Str) (f:Addr):Prop where
  at_:PySem.W.findIn K (.ref C) m=some (some (.ref f))
  fn:PySem.W.isFn K (.ref f)=true
  kp:PySem.W.keepIn K (.ref f)=true
section
variable {X:Cx} {pins:List (Addr × Obj)} {σ:St} {H:Hp} {s:Shared} {a C dx:Addr} {fs:List (Str × V)} {f:Str} {v:V} {A:Around} {E:Value->Shared->Prop}
theorem getattr_ok {b:Bool} {Q:Value->Shared->Prop} (I:Inv X pins σ H s) (e:H a=some (.ins C dx fs)) (c:Cls X.K C) (n:NoAttr X.K C f) (l:fs.lookup f=some v)
    (h:∀ u s',Inv X pins σ H s'->RelV v u->Q u s'):wpAny (model X.prog X.w) A (getAttr (.ref a) f b) Q E s:=by
  obtain ⟨mA,O,r,_,_,_⟩:=ins_get I.hok e
  obtain ⟨u,hu,ru⟩:=RelO.some_of (v:=v) (o:=mA f) (by rw [<- l];exact r f)
  exact get_map I.kIn O (c.get f) c.hd n hu (handed_of ru) (h u _ (I.tok _) ru)
theorem getmeth_ok {m:Str} {g:Addr} {pl:Sem Bool} {Q:Value × List Value->Shared->Prop} (I:Inv X pins σ H s) (e:H a=some (.ins C dx fs)) (c:Cls X.K C) (k:Meth X.K C m g) (l:fs.lookup m=none)
    (h:Q (.ref g,[.ref a]) s):wpAny (model X.prog X.w) A (getMethod (.ref a) m pl) Q E s:=by
  obtain ⟨mA,O,r,_,_,_⟩:=ins_get I.hok e
  have hn:mA m=none:=RelO.none_of (by rw [<- l];exact r m)
  exact get_meth I.kIn O (c.get m) k.at_ k.fn hn h
theorem setattr_ok {y:V} {u:Value} {Q:Unit->Shared->Prop} (I:Inv X pins σ H s) (e:H a=some (.ins C dx fs)) (c:Cls X.K C) (n:NoAttr X.K C f) (hl:fs.length < 1000) (ry:RelV y u)
    (h:∀ s',Inv X pins σ (upd H a (.ins C dx (putF f y fs))) s'->Q () s'):wpAny (model X.prog X.w) A (setAttr (.ref a) f u) Q E s:=by
  obtain ⟨mA,O,r,wi,_,ho⟩:=ins_get I.hok e
  have hz:(fs.map (·.1)).length<=sizeLine:=by rw [List.length_map,sizeLine_eq];lia
  refine set_map I.kIn O c.sa c.po n.taker c.hd wi hz fun h' O' sb=>h _ ?_
  have hd:∃ o,h'.get? dx=some o:=let ⟨o,_,_,e',_⟩:=O'.ns;⟨o,e'⟩
  refine I.write (x:=a) (e:=dx) (by rw [e];exact True.intro) (.inr ho) (fun b q hb z=>(sb.2 b hb).trans z) hd ?_
  refine ⟨by rw [upd_ne O.ne];exact ho,?_,O.ne,O'.obj,_,O'.ns,fun g=>?_,fun g hg=>?_⟩
  . have:=length_putF f y fs;lia
  . show RelO ((putF f y fs).lookup g) (if g=f then some u else mA g)
    rw [lookup_putF]
    by_cases q:g=f
    . rw [if_pos q,if_pos q];exact ry
    . rw [if_neg q,if_neg q];exact r g
  . by_cases q:g=f
    . rw [q];exact (keys_putF f y fs).1
    . refine (keys_putF f y fs).2 g (wi g fun z=>hg ?_)
      show (if g=f then some u else mA g)=none
      rw [if_neg q];exact z
theorem Inv.made (I:Inv X pins σ H s):Inv X pins σ (upd (upd H s.heap.objs.size (.own (s.heap.objs.size + 1))) (s.heap.objs.size + 1) (.ins C s.heap.objs.size []))
    { s with heap:=(s.heap.push PySem.W.emptyDict).push (PySem.W.instObj C s.heap.objs.size) }:=by
  have e1:(s.heap.push PySem.W.emptyDict).get? s.heap.objs.size=some PySem.W.emptyDict:=Heap.get?_push_size s.heap rfl
  have e2:((s.heap.push PySem.W.emptyDict).push (PySem.W.instObj C s.heap.objs.size)).get? (s.heap.objs.size + 1)=some (PySem.W.instObj C s.heap.objs.size):=by
    have:=Heap.get?_push_size (s.heap.push PySem.W.emptyDict) (o:=PySem.W.instObj C s.heap.objs.size) rfl
    rwa [Heap.size_push] at this
  have e3:(s.heap.push PySem.W.emptyDict).Ns s.heap.objs.size (fun _=>none):=⟨PySem.W.emptyDict,#[],_,e1,rfl,(fun e he=>absurd he (by simp)),fun _=>rfl⟩
  have I1:=I.laid (a:=s.heap.objs.size) (o:=.own (s.heap.objs.size + 1)) (h':=s.heap.push PySem.W.emptyDict) (t':=s.toks) (fun b u q=>Heap.get?_push_of_some _ q) (Nat.le_refl _) ⟨_,e1⟩
  refine I1.laid (a:=s.heap.objs.size + 1) (o:=.ins C s.heap.objs.size []) (t':=s.toks) (fun b u q=>Heap.get?_push_of_some _ q) (Nat.le_of_eq (Heap.size_push _ _)) ?_
  have ne:s.heap.objs.size≠s.heap.objs.size + 1:=Nat.ne_of_lt (Nat.lt_succ_self _)
  refine ⟨by rw [upd_ne ne,upd_same],Nat.zero_le _,ne,e2,fun _=>none,(Heap.Ns1.of_empty e3).at fun o q=>Heap.get?_push_of_some _ q,fun _=>True.intro,fun y hy=>absurd rfl hy⟩
theorem attr_of {prog:Program} {w:World} {env:Env} {e:Expr} {f:Str} {pos:Pos} {s:Shared} {Q:Value->Shared->Prop} (hb:attributeBase e f env (eval e env)=eval e env)
    (h:wpAny (model prog w) A (eval e env) (fun o s₁=>wpAny (model prog w) A (getAttr o f true) Q E s₁) E s):wpAny (model prog w) A (eval (.Attribute e f pos) env) Q E s :=
  Attribute_any_ h (by rw [arm_eval_Attribute,hb])
end
noncomputable def tFld (K:PySem.W.Frag) (ta:TE) (f:Str):TE:=fun σ H Q=>ta σ H fun x H1=>∃ a C dx fs v,x=.ref a/\H1 a=some (.ins C dx fs)/\Cls K C/\NoAttr K C f/\fs.lookup f=some v/\Q v H1
noncomputable def sFld (K:PySem.W.Frag) (ta tv:TE) (f:Str):TS:=fun D σ H=>tv σ H fun y H1=>ta σ H1 fun x H2=>∃ a C dx fs,x=.ref a/\H2 a=some (.ins C dx fs)/\Cls K C/\NoAttr K C f/\fs.length < 1000 /\
  D.nx σ (upd H2 a (.ins C dx (putF f y fs)))
section
variable {X:Cx} {o e value:Expr} {f:Str} {pos pos' tpos:Pos} {ta tv:TE}
theorem pe_fld (he:PE X e ta) (hb:attributeBase e f X.env (eval e X.env)=eval e X.env):PE X (.Attribute e f pos) (tFld X.K ta f):=by
  intro pins s σ H Q I h
  refine attr_of hb (thn (he pins s σ H _ I h) fun u s1 h_q=>?_)
  obtain ⟨x,H1,I1,rx,a,C,dx,fs,v,ex,ea,c,n,l,q⟩:=h_q
  subst ex
  obtain rfl:u=Value.ref a:=rx
  exact getattr_ok I1 ea c n l fun u' s2 I2 ru=>⟨v,H1,I2,ru,q⟩
theorem ps_fld (ha:PE X o ta) (hv:PE X value tv) (hs:swapsWith value (some (.Attribute o f pos')) pos.line X.env=pure false):PS X (.Assign [.Attribute o f pos'] value pos) (sFld X.K ta tv f):=by
  intro pins s σ H D I h
  refine plainObj_wpAny_Assign_Attribute (thn (hv pins s σ H _ I h) fun u s1 ⟨y,H1,I1,ry,q⟩=>thn (ha pins s1 σ H1 _ I1 q) fun ov s2 ⟨x,H2,I2,rx,a,C,dx,fs,ex,ea,c,n,l,q2⟩=>?_) hs
  subst ex
  obtain rfl:ov=Value.ref a:=rx
  exact setattr_ok I2 ea c n l ry fun s3 I3=>⟨σ,_,I3,q2⟩
end
section
variable {X:Cx} {pins:List (Addr × Obj)} {σ:St} {H:Hp} {s:Shared} {A:Around} {E:Value->Shared->Prop} {Q:Value->Shared->Prop} {c:Value} {b:Bool}
inductive TyOf (K:PySem.W.Frag) (H:Hp):V->Value->Prop where
  | non:TyOf K H .non (.type "NoneType")
  | bl (x:Bool):TyOf K H (.bl x) (.type "bool")
  | int (i:Int):TyOf K H (.int i) (.type "int")
  | str (x:Str):TyOf K H (.str x) (.type "str")
  | flt (x:UInt64):TyOf K H (.flt x) (.type "float")
  | lst {a:Addr} {xs:List V} (e:H a=some (.lst xs)):TyOf K H (.ref a) (.type "list")
  | frz {a:Addr} {o:Obj} {xs:List V} (e:H a=some (.frz o (.lst xs))):TyOf K H (.ref a) (.type "list")
  | tup {a:Addr} {xs:List V} (e:H a=some (.tup xs)):TyOf K H (.ref a) (.type "tuple")
  | dK {a:Addr} {kvs:List (Key × V)} (e:H a=some (.dK kvs)):TyOf K H (.ref a) (.type "dict")
  | dT {a:Addr} {kvs:List (List Key × V)} (e:H a=some (.dT kvs)):TyOf K H (.ref a) (.type "dict")
  | ins {a C dx:Addr} {fs:List (Str × V)} (e:H a=some (.ins C dx fs)) (cl:Cls K C) (ha:PySem.W.findIn K (.ref C) "__class__"=some (some (.builtin "object.__class__")))
      (hn:PySem.W.specialIn K (.builtin "object.__class__") "__get__"=some (some (.builtin "getset_descriptor.__get__"))) (htk:PySem.W.takesIn K (.builtin "object.__class__")=some true)
      (hm:PySem.W.mroIn K C (.type "object")=some true):TyOf K H (.ref a) (.ref C)
theorem isinst_ok {x:V} {u t:Value} (I:Inv X pins σ H s) (rx:RelV x u) (ty:TyOf X.K H x t) (e:PySem.W.kitOne X.K t c=some b) (h:∀ tk,Q (.bool b) { s with toks:=tk }) :
    wpAny (model X.prog X.w) A (call (.builtin "isinstance") [u,c]) Q E s:=by
  cases ty with
  | non=>cases (show u=Value.none from rx);exact PySem.W.kia_one PySem.W.kitx_none I.kIn True.intro e (fun z=>nomatch z) h
  | bl y=>cases (show u=Value.bool y from rx);exact PySem.W.kia_one PySem.W.kitx_bool I.kIn True.intro e (fun z=>nomatch z) h
  | int i=>obtain ⟨t,q⟩:=(show ∃ t,u=Value.int i t from rx);cases q;exact PySem.W.kia_one PySem.W.kitx_int I.kIn True.intro e (fun z=>nomatch z) h
  | str y=>obtain ⟨t,q⟩:=(show ∃ t,u=Value.str y t from rx);cases q;exact PySem.W.kia_one PySem.W.kitx_str I.kIn True.intro e (fun z=>nomatch z) h
  | flt y=>obtain ⟨t,q⟩:=(show ∃ t,u=Value.float y t from rx);cases q;exact PySem.W.kia_one PySem.W.kitx_float I.kIn True.intro e (fun z=>nomatch z) h
  | @lst a xs ea =>
    cases (show u=Value.ref a from rx)
    obtain ⟨_,_,n,_,h1⟩:=(show ObjOk X.prog X.w H s.heap a (.lst xs) from I.hok a _ ea)
    exact PySem.W.kia_one PySem.W.kitx_list I.kIn ⟨_,h1,rfl⟩ e (fun z=>nomatch z) h
  | @frz a ob xs ea =>
    cases (show u=Value.ref a from rx)
    obtain ⟨_,_,_,n,_,h1⟩:=(show ObjOk X.prog X.w H s.heap a (.frz ob (.lst xs)) from I.hok a _ ea)
    exact PySem.W.kia_one PySem.W.kitx_list I.kIn ⟨_,h1,rfl⟩ e (fun z=>nomatch z) h
  | @tup a xs ea =>
    cases (show u=Value.ref a from rx)
    obtain ⟨_,_,_,p⟩:=(show ObjOk X.prog X.w H s.heap a (.tup xs) from I.hok a _ ea)
    obtain ⟨o,h1,h2,_⟩:=p
    exact PySem.W.kia_one PySem.W.kitx_tuple I.kIn ⟨o,h1,h2⟩ e (fun z=>nomatch z) h
  | @dK a kvs ea =>
    cases (show u=Value.ref a from rx)
    obtain ⟨_,_,vs,_,p⟩:=(show ObjOk X.prog X.w H s.heap a (.dK kvs) from I.hok a _ ea)
    obtain ⟨o,es,ep,h1,h2,_⟩:=p
    exact PySem.W.kia_one PySem.W.kitx_dict I.kIn ⟨o,h1,h2.1⟩ e (fun z=>nomatch z) h
  | @dT a kvs ea =>
    cases (show u=Value.ref a from rx)
    obtain ⟨_,_,xs,_,o,es,ep,h1,h2,_⟩:=(show ObjOk X.prog X.w H s.heap a (.dT kvs) from I.hok a _ ea)
    exact PySem.W.kia_one PySem.W.kitx_dict I.kIn ⟨o,h1,h2.1⟩ e (fun z=>nomatch z) h
  | @ins a C dx fs ea cl ha hn htk hm =>
    cases (show u=Value.ref a from rx)
    obtain ⟨mA,O,_⟩:=ins_get I.hok ea
    obtain ⟨od,J,_⟩:=O.look
    exact PySem.W.kia_one (PySem.W.kitx_own (cl.get _) cl.hd ha hn htk hm) I.kIn J e (fun z=>nomatch z) h
end
end L2
namespace L2
open PySem PySem.Spec PyProof.Rows
structure Room (k:Nat) (A:Around):Prop where
  hd:A.handled=none
  dp:A.depth + 3 * k + 5 < recursionLimit
  un:A.units + 16 * k + 200 < cLine
theorem Room.mono {j k:Nat} {A:Around} (r:Room k A) (h:j<=k):Room j A:=⟨r.hd,by have:=r.dp;lia,by have:=r.un;lia⟩
theorem Room.deeper {k:Nat} {A:Around} (r:Room (k + 1) A) (env:Env):Room k (A.deeper env) :=
  ⟨r.hd,by have:=r.dp;show A.depth + 1 + 3 * k + 5 < _;lia,by have:=r.un;show A.units + 3 + 16 * k + 200 < _;lia⟩
theorem make_depth {A:Around} {C:Addr} {us:List Value} {kw:List (Str × Value)}:(A.under (.builtin "type.__call__" ⟨.ref C::us,kw⟩)).depth=A.depth + 1:=by
  first | rfl | simp [Around.under,Code.weight,Code.isCreation,Code.isGuard,Code.isCaller,Code.frames,Code.isFrame,guardIds]
theorem make_units {A:Around} {C:Addr} {us:List Value} {kw:List (Str × Value)}:(A.under (.builtin "type.__call__" ⟨.ref C::us,kw⟩)).units=A.units + 1:=by
  first | rfl | simp [Around.under,Code.cUnits,Code.frames,Code.isFrame]
theorem Room.make {k:Nat} {A:Around} (r:Room (k + 1) A) (C:Addr) (us:List Value) (kw:List (Str × Value)):Room k (A.under (.builtin "type.__call__" ⟨.ref C::us,kw⟩)) :=
  ⟨r.hd,by have:=r.dp;rw [make_depth];lia,by have:=r.un;rw [make_units];lia⟩
theorem Room.depth {k:Nat} {A:Around} (r:Room k A):A.depth < recursionLimit:=by have:=r.dp;lia
noncomputable def tNil:TA:=fun _ H Q=>Q [] H
noncomputable def tCons (ta:TE) (tr:TA):TA:=fun σ H Q=>ta σ H fun x H1=>tr σ H1 fun xs H2=>Q (x::xs) H2
section
variable {X:Cx} {e:Expr} {es:List Expr} {te:TE} {t:TA} {pos:Pos}
theorem pa_nil:PA X [] tNil:=fun _ _ _ _ H Q I h=>Calls.spliced_nil ⟨[],H,I,.nil,h⟩
theorem pa_cons (ha:PE X e te) (hr:PA X es t) (hs:starEach (e::es) X.env=(false,eval e X.env)::starEach es X.env:=by rfl):PA X (e::es) (tCons te t):=by
  intro pos pins s σ H Q I h
  rw [hs]
  show wpAny _ _ (spliced ((false,eval e X.env)::backTo pos (starEach es X.env))) _ _ s
  refine Calls.spliced_cons (thn (ha pins s σ H _ I h) fun u s1 h_q=>?_)
  obtain ⟨x,H1,I1,r1,q1⟩:=h_q
  exact thn (hr pos pins s1 σ H1 _ I1 q1) fun us s2 ⟨xs,H2,I2,r2,q2⟩=>⟨x::xs,H2,I2,.cons r1 r2,q2⟩
noncomputable def tTup (t:TA):TE:=fun σ H Q=>t σ H fun xs H1=>xs.length<=sizeLine/\∀ p,H1 p=none->Q (.ref p) (upd H1 p (.tup xs))
noncomputable def tLst (t:TA):TE:=fun σ H Q=>t σ H fun xs H1=>xs.length<=sizeLine/\∀ p,H1 p=none->Q (.ref p) (upd H1 p (.lst xs))
theorem pe_tup {x1} (h:PA X es t):PE X (.Tuple es x1 pos) (tTup t):=by
  intro pins s σ H Q I hq
  refine wpAny_Tuple_spliced (thn (h pos pins s σ H _ I hq) fun us s1 ⟨xs,H1,I1,r,z,q⟩=>⟨by rw [<- r.length];exact z,?_⟩)
  have hf:H1 s1.heap.objs.size=none:=I1.hok.fresh (Nat.le_refl _)
  refine ⟨.ref s1.heap.objs.size,upd H1 s1.heap.objs.size (.tup xs),I1.laid (t':=s1.toks) (fun b u e=>Heap.get?_push_of_some _ e) (Nat.le_refl _) ?_,rfl,q _ hf⟩
  exact ⟨z,us,r,⟨_,Heap.get?_push_size _ rfl,rfl,_,rfl⟩⟩
theorem pe_lst (h:PA X es t):PE X (.List es pos) (tLst t):=by
  intro pins s σ H Q I hq
  refine wpAny_List_spliced (thn (h pos pins s σ H _ I hq) fun us s1 ⟨xs,H1,I1,r,z,q⟩=>⟨by rw [<- r.length];exact z,?_⟩)
  have hf:H1 s1.heap.objs.size=none:=I1.hok.fresh (Nat.le_refl _)
  refine ⟨.ref s1.heap.objs.size,upd H1 s1.heap.objs.size (.lst xs),I1.laid (t':=s1.toks) (fun b u e=>Heap.get?_push_of_some _ e) (Nat.le_refl _) ?_,rfl,q _ hf⟩
  exact ⟨z,us,0,r,Heap.get?_push_size _ rfl⟩
end
noncomputable abbrev Sp:=List V->Hp->VK->XK->Prop
noncomputable abbrev CXT:=List Env->Hp->Shared->XK->Value->Shared->Prop
structure Env0 (P:Program) (w:World) (K:PySem.W.Frag) (mg:Str->Option Value) (base:Heap) (A:Around) (outer:List Env) (s:Shared) (H:Hp):Prop where
  frames:A.frames=some outer
  mod:Mod K mg base
  bs:∀ b o,base.get? b=some o->s.heap.get? b=some o/\H b=none
  bsz:base.objs.size<=s.heap.objs.size
  funs:s.heap.FunFrames base outer
  frf:∀ b∈frs outer,H b=none
  hok:HOk P w H s.heap
  bare:AllBare s.gens
noncomputable def CE (outer:List Env) (P:Program) (w:World) (H:Hp) (s:Shared) (Q:VK) (u:Value) (s':Shared):Prop :=
  ∃ v H',s'.os=s.os/\AllBare s'.gens/\Un (frs outer) [] H H' s.heap s'.heap/\HOk P w H' s'.heap/\RelV v u/\Q v H'
noncomputable def CR (CX:CXT) (outer:List Env) (P:Program) (w:World) (H:Hp) (s:Shared) (Q:VK) (E:XK) (r:Result) (s':Shared):Prop :=
  match r with
  | .ok (.ret u)=>CE outer P w H s Q u s'
  | .ok _=>False
  | .error e=>CX outer H s E e s'
structure FnOk (P:Program) (w:World) (K:PySem.W.Frag) (mg:Str->Option Value) (base:Heap) (CX:CXT) (k:Nat) (f:Addr) (fd:FuncData) (ps:List Str) (sp:Sp):Prop where
  len:∀ vs H Q E,sp vs H Q E->vs.length=ps.length
  run : ∀ (A:Around) (outer:List Env) (s:Shared) (H:Hp) (args:Args) (us:List Value) (vs:List V) (Q:VK) (E:XK),Room k A->Env0 P w K mg base A outer s H->BindsTo s fd args (ps.zip us)->Vals vs us->sp vs H Q E ->
    codeAny (model P w) A (.call (.ref f) args) (CR CX outer P w H s Q E) s
theorem FnOk.mono {P:Program} {w:World} {K:PySem.W.Frag} {mg:Str->Option Value} {base:Heap} {CX:CXT} {j k:Nat} {f:Addr} {fd:FuncData} {ps:List Str} {sp:Sp} (F:FnOk P w K mg base CX j f fd ps sp) (h:j<=k) :
    FnOk P w K mg base CX k f fd ps sp:=⟨F.len,fun A outer s H args us vs Q E hr=>F.run A outer s H args us vs Q E (hr.mono h)⟩
theorem FnOk.imp {P:Program} {w:World} {K:PySem.W.Frag} {mg:Str->Option Value} {base:Heap} {CX:CXT} {k:Nat} {f:Addr} {fd:FuncData} {ps:List Str} {sp sp':Sp} (F:FnOk P w K mg base CX k f fd ps sp)
    (h:∀ vs H Q E,sp' vs H Q E->sp vs H Q E):FnOk P w K mg base CX k f fd ps sp' :=
  ⟨fun vs H Q E q=>F.len vs H Q E (h _ _ _ _ q),fun A outer s H args us vs Q E hr he hb hv hs=>F.run A outer s H args us vs Q E hr he hb hv (h _ _ _ _ hs)⟩
theorem Env0.make {P:Program} {w:World} {K:PySem.W.Frag} {mg:Str->Option Value} {base:Heap} {A:Around} {outer:List Env} {s:Shared} {H:Hp} (e:Env0 P w K mg base A outer s H) (C:Addr) (us:List Value) (kw:List (Str × Value)) :
    Env0 P w K mg base (A.under (.builtin "type.__call__" ⟨.ref C::us,kw⟩)) outer s H:=⟨by first | exact e.frames | (simpa [Around.under,Code.envs,Code.isFrame,pushEnvs] using e.frames),e.mod,e.bs,e.bsz,e.funs,e.frf,e.hok,e.bare⟩
section
variable {X:Cx} {pins:List (Addr × Obj)} {σ:St} {H:Hp} {s s':Shared}
theorem Inv.env0 (I:Inv X pins σ H s):Env0 X.prog X.w X.K X.mg X.base X.A X.stack s H :=
  ⟨I.ok.frames,I.ok.mod,I.bs,Nat.le_trans I.ok.bsz I.sz,I.stack,I.stkFree,I.hok,I.bare⟩
theorem Inv.after {Q:VK} {u:Value} (I:Inv X pins σ H s) (h:CE X.stack X.prog X.w H s Q u s'):EP X pins σ Q u s':=by
  obtain ⟨v,H',os,bare,un,hok,r,q⟩:=h
  obtain ⟨hh,g,d,t,os'⟩:=s'
  obtain rfl:os'=s.os:=os
  exact ⟨v,H',I.call (h':=hh) (g':=g) (d':=d) (t':=t) (ch:=[]) un hok bare (fun b z=>absurd z (by simp)),r,q⟩
end
noncomputable def tCall (sp:Sp) (dvs:List V) (E:XK) (t:TA):TE:=fun σ H Q=>t σ H fun vs H1=>sp (vs++dvs) H1 Q E
noncomputable def tMake (C:Addr) (sp:Sp) (dvs:List V) (E:XK) (t:TA):TE:=fun σ H Q=>t σ H fun vs H1=>∀ x dx,H1 x=none->H1 dx=none->dx≠x ->
  sp (.ref x::(vs++dvs)) (upd (upd H1 dx (.own x)) x (.ins C dx [])) (fun v H2=>v=.non/\Q (.ref x) H2) E
noncomputable def Binds (K:PySem.W.Frag) (fd:FuncData) (ps:List Str) (ds:List Value):Prop :=
  ∀ (s:Shared) (us:List Value),K.In s.heap->(us++ds).length=ps.length->BindsTo s fd ⟨us,[]⟩ (ps.zip (us++ds))
theorem Binds.all {K:PySem.W.Frag} {fd:FuncData} {ps:List Str} (h:∀ us:List Value,us.length=ps.length->bindArgs fd ⟨us,[]⟩=pure (ps.zip us)):Binds K fd ps []:=fun s us _ hl=>by
  rw [List.append_nil] at hl ⊢
  exact .of_eq (h us hl)
noncomputable def Passes (CX:CXT) (X:Cx) (E:XK):Prop:=∀ (pins:List (Addr × Obj)) (σ:St) (H:Hp) (s:Shared) (e:Value) (s':Shared),Inv X pins σ H s->CX X.stack H s E e s'->X.xe e s'
section
variable {X:Cx} {CX:CXT} {k:Nat} {f C:Addr} {fd:FuncData} {ps:List Str} {sp:Sp} {dvs:List V} {ds:List Value} {E:XK} {x m:Str} {p pos apos:Pos} {e o:Expr} {es:List Expr} {ta:TE} {t:TA}
theorem run_fn {pins:List (Addr × Obj)} {σ:St} {H:Hp} {s:Shared} {Q:VK} {us:List Value} {vs:List V} (F:FnOk X.prog X.w X.K X.mg X.base CX k f fd ps sp) (hr:Room k X.A) (hb:Binds X.K fd ps ds) (hd:Vals dvs ds) (hx:Passes CX X E)
    (I:Inv X pins σ H s) (r:Vals vs us) (h:sp (vs++dvs) H Q E):wpAny (model X.prog X.w) X.A (call (.ref f) us) (EP X pins σ Q) X.xe s:=by
  have r2:Vals (vs++dvs) (us++ds):=r.append hd
  have hl:(us++ds).length=ps.length:=by rw [<- r2.length];exact F.len _ _ _ _ h
  refine wpAny_call (codeAny_mono (F.run X.A X.stack s H ⟨us,[]⟩ (us++ds) (vs++dvs) Q E hr I.env0 (hb s us I.kIn hl) r2 h) fun r s' hq=>?_)
  cases r with
  | error e=>exact hx pins σ H s e s' I hq
  | ok fl =>
    cases fl with
    | ret u=>exact I.after hq
    | next=>exact False.elim hq
    | brk=>exact False.elim hq
    | cont=>exact False.elim hq
theorem pe_call (F:FnOk X.prog X.w X.K X.mg X.base CX k f fd ps sp) (hr:Room k X.A) (hg:Gl X x) (hm:X.mg x=some (.ref f)) (hk:PySem.W.keepIn X.K (.ref f)=true) (hb:Binds X.K fd ps ds) (hd:Vals dvs ds) (hx:Passes CX X E)
    (ha:PA X (e::es) t) (hdb:(x == ("__debug__":Str))=false:=by decide) (he:starEach (e::es) X.env=(false,eval e X.env)::starEach es X.env:=by rfl) (hpl:(backTo pos (starEach es X.env)).any (·.1)=false:=by rfl) :
    PE X (.Call (.Name x p) (e::es) [] pos) (tCall sp dvs E t):=by
  intro pins s σ H Q I h
  refine wpAny_Call_Name_kw (ld_glob I hg hm ?_ hdb)
  refine PySem.W.callWith_K (h₀:=X.base) I.ok.mod.kin hk (thn (ha pos pins s σ H _ I h) fun us s1 ⟨vs,H1,I1,r,q⟩=>⟨I1.kIn,?_⟩) he hpl
  exact run_fn F hr hb hd hx I1 r q
theorem pe_call0 (F:FnOk X.prog X.w X.K X.mg X.base CX k f fd ps sp) (hr:Room k X.A) (hg:Gl X x) (hm:X.mg x=some (.ref f)) (hk:PySem.W.keepIn X.K (.ref f)=true) (hb:Binds X.K fd ps ds) (hd:Vals dvs ds) (hx:Passes CX X E)
    (hdb:(x == ("__debug__":Str))=false:=by decide):PE X (.Call (.Name x p) [] [] pos) (tCall sp dvs E tNil):=by
  intro pins s σ H Q I h
  refine wpAny_Call_Name_kw (ld_glob I hg hm ?_ hdb)
  exact PySem.W.callWith_K0 I.kIn hk (run_fn (us:=[]) F hr hb hd hx I .nil h)
structure Mk (K:PySem.W.Frag) (C f:Addr):Prop where
  makes:PySem.W.makesIn K C=true
  init:PySem.W.findIn K (.ref C) "__init__"=some (some (.ref f))
  fn:PySem.W.isFn K (.ref f)=true
  kp:PySem.W.keepIn K (.ref C)=true
theorem run_make {pins:List (Addr × Obj)} {σ:St} {H:Hp} {s:Shared} {Q:VK} {us:List Value} {vs:List V} (M:Mk X.K C f) (F:FnOk X.prog X.w X.K X.mg X.base CX k f fd ps sp) (hr:Room (k + 1) X.A) (hb:Binds X.K fd ps ds) (hd:Vals dvs ds)
    (hx:Passes CX X E) (I:Inv X pins σ H s) (r:Vals vs us)
    (h:∀ x dx,H x=none->H dx=none->dx≠x->sp (.ref x::(vs++dvs)) (upd (upd H dx (.own x)) x (.ins C dx [])) (fun v H2=>v=.non/\Q (.ref x) H2) E) :
    wpAny (model X.prog X.w) X.A (call (.ref C) us) (EP X pins σ Q) X.xe s:=by
  have hq:=h (s.heap.objs.size + 1) s.heap.objs.size (I.hok.fresh (Nat.le_succ _)) (I.hok.fresh (Nat.le_refl _)) (Nat.ne_of_lt (Nat.lt_succ_self _))
  have I2:=Inv.made (C:=C) I
  have r2:Vals (V.ref (s.heap.objs.size + 1)::(vs++dvs)) (Value.ref (s.heap.objs.size + 1)::(us++ds)):=.cons rfl (r.append hd)
  have hl:(Value.ref (s.heap.objs.size + 1)::us++ds).length=ps.length:=by
    have e:=r2.length
    rw [F.len _ _ _ _ hq] at e
    exact e.symm
  refine wpAny_call (make_map (f:=f) I.kIn M.makes M.init (beq_iff_eq.mp M.fn) (codeAny_mono (F.run _ X.stack _ _ ⟨Value.ref (s.heap.objs.size + 1)::us,[]⟩ (Value.ref (s.heap.objs.size + 1)::(us++ds)) _ _ E (hr.make C us [])
    (I2.env0.make C us []) (hb _ (Value.ref (s.heap.objs.size + 1)::us) I2.kIn hl) r2 hq) fun r s' hq'=>?_))
  cases r with
  | error e=>exact hx pins σ _ _ e s' I2 hq'
  | ok fl =>
    cases fl with
    | ret u =>
      obtain ⟨v,H',I3,rv,ev,q3⟩:=I2.after hq'
      subst ev
      exact ⟨rv,⟨V.ref (s.heap.objs.size + 1),H',I3,rfl,q3⟩⟩
    | next=>exact False.elim hq'
    | brk=>exact False.elim hq'
    | cont=>exact False.elim hq'
theorem pe_make (M:Mk X.K C f) (F:FnOk X.prog X.w X.K X.mg X.base CX k f fd ps sp) (hr:Room (k + 1) X.A) (hg:Gl X x) (hm:X.mg x=some (.ref C)) (hb:Binds X.K fd ps ds) (hd:Vals dvs ds) (hx:Passes CX X E)
    (ha:PA X (e::es) t) (hdb:(x == ("__debug__":Str))=false:=by decide) (he:starEach (e::es) X.env=(false,eval e X.env)::starEach es X.env:=by rfl) (hpl:(backTo pos (starEach es X.env)).any (·.1)=false:=by rfl) :
    PE X (.Call (.Name x p) (e::es) [] pos) (tMake C sp dvs E t):=by
  intro pins s σ H Q I h
  refine wpAny_Call_Name_kw (ld_glob I hg hm ?_ hdb)
  refine PySem.W.callWith_K (h₀:=X.base) I.ok.mod.kin M.kp (thn (ha pos pins s σ H _ I h) fun us s1 ⟨vs,H1,I1,r,q⟩=>⟨I1.kIn,?_⟩) he hpl
  exact run_make M F hr hb hd hx I1 r q
end
structure FnScope (N P:List Str) (sc:Scope):Prop where
  kind:sc.kind=.function
  co:sc.isCoroutine=false
  gen:sc.isGenerator=false
  nd:N.Nodup
  pre:N.take P.length=P
  par:∀ x∈P,sc.names.lookup x=some .local\/sc.names.lookup x=some .cell
  nofree:∀ y∈sc.names,y.2≠.free
theorem bindL_out {kindOf:Str->Option NameKind} {x:Str}:∀ {binds:List (Str × Value)} {m:Str->Option Value},(∀ v,(x,v) ∉ binds)->bindL kindOf binds m x=m x
  | [],_,_=>rfl
  | (n, v)::r,m,h=>by
    unfold bindL
    rw [bindL_out fun w hw=>h w (List.mem_cons_of_mem _ hw)]
    split
    . have:x≠n:=by rintro rfl;exact h v List.mem_cons_self
      simp [this]
    . rfl
theorem bindC_out {kindOf:Str->Option NameKind} {x:Str}:∀ {binds:List (Str × Value)} {m:Str->Option Value},(∀ v,(x,v) ∉ binds)->bindC kindOf binds m x=m x
  | [],_,_=>rfl
  | (n, v)::r,m,h=>by
    unfold bindC
    rw [bindC_out fun w hw=>h w (List.mem_cons_of_mem _ hw)]
    split
    . rfl
    . have:x≠n:=by rintro rfl;exact h v List.mem_cons_self
      simp [this]
theorem bindL_get {kindOf:Str->Option NameKind} {x:Str} {v:Value}:∀ {P:List Str} {vs:List Value} {i:Nat} {m:Str->Option Value},P.Nodup->P[i]? = some x->vs[i]? = some v->kindOf x=some .local ->
    bindL kindOf (P.zip vs) m x=some v
  | [],_,_,_,_,h,_,_=>by simp at h
  | _::_,[],_,_,_,_,h,_=>by simp at h
  | p :: P,w::vs,0,m,nd,h1,h2,hk=>by
    simp at h1 h2;subst h1;subst h2
    show bindL kindOf ((p,w)::P.zip vs) m p=_
    unfold bindL
    rw [bindL_out fun v hv=>(List.nodup_cons.mp nd).1 (List.of_mem_zip hv).1,if_pos hk]
    simp
  | p :: P,w::vs,i + 1,m,nd,h1,h2,hk=>by
    show bindL kindOf ((p,w)::P.zip vs) m x=_
    unfold bindL
    exact bindL_get (i:=i) (List.nodup_cons.mp nd).2 (by simpa using h1) (by simpa using h2) hk
theorem bindC_get {kindOf:Str->Option NameKind} {x:Str} {v:Value}:∀ {P:List Str} {vs:List Value} {i:Nat} {m:Str->Option Value},P.Nodup->P[i]? = some x->vs[i]? = some v->kindOf x≠some .local ->
    bindC kindOf (P.zip vs) m x=some v
  | [],_,_,_,_,h,_,_=>by simp at h
  | _::_,[],_,_,_,_,h,_=>by simp at h
  | p :: P,w::vs,0,m,nd,h1,h2,hk=>by
    simp at h1 h2;subst h1;subst h2
    show bindC kindOf ((p,w)::P.zip vs) m p=_
    unfold bindC
    rw [bindC_out fun v hv=>(List.nodup_cons.mp nd).1 (List.of_mem_zip hv).1,if_neg hk]
    simp
  | p :: P,w::vs,i + 1,m,nd,h1,h2,hk=>by
    show bindC kindOf ((p,w)::P.zip vs) m x=_
    unfold bindC
    exact bindC_get (i:=i) (List.nodup_cons.mp nd).2 (by simpa using h1) (by simpa using h2) hk
noncomputable def start (N:List Str) (vs:List V):St:=vs.map some++List.replicate (N.length - vs.length) none
noncomputable def cxOf (CX:CXT) (P:Program) (w:World) (K:PySem.W.Frag) (mg:Str->Option Value) (base:Heap) (N:List Str) (qual:Str) (scope:Scope) (f:Addr) (cd:Value) (A:Around) (outer:List Env) (s:Shared) (H:Hp) (E:XK):Cx where
  prog:=P
  w := w
  K := K
  mg:=mg
  base:=base
  A := A.deeper (envOfC qual scope s.heap.objs.size f cd)
  N := N
  s₀:=s
  H₀:=H
  env:=envOfC qual scope s.heap.objs.size f cd
  outer:=outer
  stack:=envOfC qual scope s.heap.objs.size f cd::outer
  ex:=[]
  calm:=true
  fn:=fun _=>true
  pn:=[]
  xe:=fun e s'=>wpAny (model P w) (A.deeper (envOfC qual scope s.heap.objs.size f cd)) (leaving (envOfC qual scope s.heap.objs.size f cd) e) (fun _ s''=>CX outer H s E e s'') (fun e' s''=>CX outer H s E e' s'') s'
theorem cell_has {sc:Scope} {n:Nat} {x:Str} (h:sc.names.lookup x=some .cell):∃ c,(cellsFrom n sc.names []).lookup x=some c:=by
  have q:=PySem.W.cellsFrom_some sc.names n [] (.inl h)
  exact Option.isSome_iff_exists.mp q
theorem inv_start {CX:CXT} {P:Program} {w:World} {K:PySem.W.Frag} {mg:Str->Option Value} {base:Heap} {N ps:List Str} {qual:Str} {scope:Scope} {f:Addr} {cd:Value} {A:Around} {outer:List Env} {s s1:Shared} {H:Hp} {E:XK} {us:List Value} {vs:List V}
    (S:FnScope N ps scope) (hd:A.handled=none) (e0:Env0 P w K mg base A outer s H) (hl:vs.length=ps.length) (r:Vals vs us)
    (x:InCallC s s.heap.objs.size (bindL (envOfC qual scope s.heap.objs.size f cd).kindOf (ps.zip us) fun _=>none) (cellsFrom (s.heap.objs.size + 1) scope.names []) (bindC (envOfC qual scope s.heap.objs.size f cd).kindOf (ps.zip us) fun _=>none) s1) :
    Inv (cxOf CX P w K mg base N qual scope f cd A outer s H E) [] (start N vs) H s1:=by
  have hpl:ps.length<=N.length:=by have:=congrArg List.length S.pre;rw [List.length_take] at this;lia
  obtain ⟨h1,tk,rfl,hk⟩:=x.done
  have noA:∀ b:Addr,b ∉ (cxOf CX P w K mg base N qual scope f cd A outer s H E).ex:=fun b z=>absurd (show b∈([]:List Addr) from z) (by simp)
  refine ⟨⟨e0.mod,S.kind,rfl,rfl,Nat.le_refl _,fun y z c h1 h2=>?_,fun y hy=>?_,fun y c _ h=>?_,fun _=>hd,Around.frames_deeper e0.frames,.inr ⟨rfl,rfl⟩,fun b z=>absurd z (noA b),e0.bs,e0.bsz,fun b _ _=>noA b,fun b z=>absurd z (noA b),e0.funs,e0.frf⟩,
    rfl,e0.bare,Un.kept hk,⟨_,x.toInCall.ns,fun i y v h1 h2 h3=>?_⟩,fun y c h=>⟨_,x.cell y c h⟩,e0.hok.fresh (Nat.le_refl _),fun y c h=>?_,fun p hp=>absurd (show p∈([]:List (Addr × Obj)) from hp) (by simp),e0.hok.kept hk,?_⟩
  . exact name_of_addr x.apart (PySem.mem_of_lookup h1) (PySem.mem_of_lookup h2)
  . have hy:scope.names.lookup y=some .cell\/scope.names.lookup y=some .free:=hy
    rcases hy with hy | hy
    . exact cell_has hy
    . exact absurd rfl (S.nofree _ (PySem.mem_of_lookup hy))
  . exact Nat.le_of_lt (x.above y c (PySem.mem_of_lookup h))
  . have hi:i < vs.length:=by
      unfold start at h2
      by_cases hi:i < vs.length
      . exact hi
      . rw [List.getElem?_append_right (by simpa using hi)] at h2
        rw [List.getElem?_replicate] at h2
        split at h2 <;> cases h2
    have ha:vs[i]? = some v:=by
      unfold start at h2
      rw [List.getElem?_append_left (by simpa using hi),List.getElem?_map] at h2
      cases e:vs[i]? with
      | none=>rw [e] at h2;cases h2
      | some a=>rw [e] at h2;cases h2;rfl
    obtain ⟨u,hu,rv⟩:=r.get ha
    have hp:ps[i]? = some y:=by
      rw [<- S.pre,List.getElem?_take_of_lt (by lia)];exact h1
    have ndP:ps.Nodup:=by rw [<- S.pre];exact S.nd.sublist (List.take_sublist _ _)
    refine ⟨u,rv,?_⟩
    rcases S.par y (List.mem_of_getElem? hp) with k | k
    . exact .inl ⟨k,bindL_get ndP hp hu k⟩
    . obtain ⟨c,e⟩:=cell_has (n:=s.heap.objs.size + 1) k
      refine .inr ⟨.inl k,c,e,?_⟩
      have q:=x.cell y c e
      rw [bindC_get ndP hp hu (by show scope.names.lookup y≠_;rw [k];decide)] at q
      exact q
  . exact e0.hok.fresh (Nat.le_of_lt (x.above y c (PySem.mem_of_lookup h)))
  . unfold start
    show _=N.length
    rw [List.length_append,List.length_map,List.length_replicate]
    lia
theorem fn_of {CX:CXT} {P:Program} {w:World} {K:PySem.W.Frag} {mg:Str->Option Value} {base:Heap} {k:Nat} {f:Addr} {name qual:Str} {params:Arguments} {body:List Stmt} {scope:Scope} {dV kV doc pm cdv ct oc:Value} {an od:Option Addr}
    {osl:Array (Option Value)} {N ps:List Str} {sp:Sp} (lk:K.lookup f=some ⟨oc,od,.func (PySem.W.fnOf name qual params body scope dV kV doc pm an cdv ct),osl⟩) (hcd:PySem.W.codeIn K cdv qual=true) (S:FnScope N ps scope)
    (len:∀ vs H Q E,sp vs H Q E->vs.length=ps.length)
    (hbody:∀ (A:Around) (outer:List Env) (s:Shared) (H:Hp) (vs:List V) (Q:VK) (E:XK),Room k (A.deeper (envOfC qual scope s.heap.objs.size f cdv))->sp vs H Q E ->
      ∃ t,PSs (cxOf CX P w K mg base N qual scope f cdv A outer s H E) body t/\t { nx:=fun _ H'=>Q .non H',rt:=Q } (start N vs) H) :
    FnOk P w K mg base CX (k + 1) f (PySem.W.fnOf name qual params body scope dV kV doc pm an cdv ct) ps sp:=by
  refine ⟨len,fun A outer s H args us vs Q E hr e0 hb r hsp=>?_⟩
  have hl:=len _ _ _ _ hsp
  have KX:K.In s.heap:=e0.mod.kin.keeps fun b o e=>(e0.bs b o e).1
  have lim:s.heap.NoLimit:=e0.mod.nolimit.keeps fun b o e=>(e0.bs b o e).1
  have hkind:∀ y∈ps.zip us,scope.names.lookup y.1=some .local\/(scope.names.lookup y.1=some .cell/\((cellsFrom (s.heap.objs.size + 1) scope.names []).lookup y.1).isSome=true):=fun hq0 hy=>by
    obtain ⟨n,v⟩:=hq0
    rcases S.par n (List.of_mem_zip hy).1 with q | q
    . exact .inl q
    . exact .inr ⟨q,PySem.W.cellsFrom_some _ _ _ (.inl q)⟩
  refine codeAny_call_function hr.depth (KX _ _ lk) rfl S.co S.gen rfl (PySem.W.codeRec_of KX hcd) (hb _ _ _ _ ?_)
  refine wpAny_newFunctionEnv_cells S.kind hkind fun env he s1 x=>?_
  subst he
  refine ⟨lim.keeps x.toInCall.keep,codeAny_func ?_⟩
  obtain ⟨t,ht,hq⟩:=hbody A outer s H vs Q E (hr.deeper _) hsp
  have I:Inv (cxOf CX P w K mg base N qual scope f cdv A outer s H E) [] (start N vs) H s1:=inv_start S hr.hd e0 hl r x
  refine wpAny_mono (ht [] s1 (start N vs) H _ I hq) (fun fl s' hs=>?_) fun e s' hs=>hs
  have fin:∀ {σ':St} {H':Hp} {v:V} {u:Value},Inv (cxOf CX P w K mg base N qual scope f cdv A outer s H E) [] σ' H' s'->RelV v u->Q v H'->CE outer P w H s Q u s' :=
    fun {σ' H' v u} J rv q=>⟨v,H',J.os,J.bare,J.base,J.hok,rv,q⟩
  cases fl with
  | ret u =>
    obtain ⟨v,σ',H',J,rv,q⟩:=hs
    exact fin J rv q
  | next =>
    obtain ⟨σ',H',J,q⟩:=hs
    exact fin (v:=V.non) (u:=Value.none) J rfl q
  | brk =>
    obtain ⟨_,_,_,q⟩:=hs
    exact False.elim q
  | cont =>
    obtain ⟨_,_,_,q⟩:=hs
    exact False.elim q
end L2
namespace L2
open PySem PySem.Spec PyProof.Rows
section
variable {X:Cx} {x:Str} {p pos:Pos} {e:Expr} {es:List Expr} {t:TA} {id T:String} {r:List V->Hp->VK->Prop}
noncomputable def tCB (r:List V->Hp->VK->Prop) (t:TA):TE:=fun σ H Q=>t σ H fun vs H1=>r vs H1 Q
theorem pe_callB (hc:CallR X (.builtin id) r) (hg:Gl X x) (hm:X.mg x=none) (hv:bootBuiltins x=some (.builtin id)) (ha:PA X (e::es) t) (hn:x≠"__name__":=by decide) (hdb:(x == ("__debug__":Str))=false:=by decide)
    (he:starEach (e::es) X.env=(false,eval e X.env)::starEach es X.env:=by rfl) (hpl:(backTo pos (starEach es X.env)).any (·.1)=false:=by rfl):PE X (.Call (.Name x p) (e::es) [] pos) (tCB r t):=by
  intro pins s σ H Q I h
  refine wpAny_Call_Name_kw (ld_blt I hg hm hv ?_ hn hdb)
  exact PyProof.Rows.callWith_builtin1 (thn (ha pos pins s σ H _ I h) fun us s1 ⟨vs,H1,I1,r1,q1⟩=>hc pins s1 σ H1 vs us Q I1 r1 q1) he hpl
theorem pe_callTy (hc:CallR X (.type T) r) (hg:Gl X x) (hm:X.mg x=none) (hv:bootBuiltins x=some (.type T)) (ha:PA X (e::es) t) (hn:x≠"__name__":=by decide) (hdb:(x == ("__debug__":Str))=false:=by decide)
    (he:starEach (e::es) X.env=(false,eval e X.env)::starEach es X.env:=by rfl) (hpl:(backTo pos (starEach es X.env)).any (·.1)=false:=by rfl):PE X (.Call (.Name x p) (e::es) [] pos) (tCB r t):=by
  intro pins s σ H Q I h
  refine wpAny_Call_Name_kw (ld_blt I hg hm hv ?_ hn hdb)
  exact PyProof.Rows.callWith_type1 (thn (ha pos pins s σ H _ I h) fun us s1 ⟨vs,H1,I1,r1,q1⟩=>hc pins s1 σ H1 vs us Q I1 r1 q1) he hpl
theorem pe_callTy0 (hc:CallR X (.type T) r) (hg:Gl X x) (hm:X.mg x=none) (hv:bootBuiltins x=some (.type T)) (hn:x≠"__name__":=by decide) (hdb:(x == ("__debug__":Str))=false:=by decide) :
    PE X (.Call (.Name x p) [] [] pos) (tCB r tNil):=by
  intro pins s σ H Q I h
  refine wpAny_Call_Name_kw (ld_blt I hg hm hv ?_ hn hdb)
  exact PyProof.Rows.callWith_type0 (hc pins s σ H [] [] Q I .nil h)
end
end L2
namespace HT
open PySem PyProof.Rows
theorem rcLt_int (A:Around) (s:Shared) (a:Int) (t:Tok) (c:Int) (u:Tok) (prog:Program) (w:World) (E:Value->Shared->Prop) (Q:Value->Shared->Prop) (h:Q (.bool (decide (a < c))) s) :
    wpAny (model prog w) A (richCompare .Lt (.int a t) (.int c u)) Q E s :=
  (PyProof.Rows.lt_int h:wpAny (model prog w) A (compareOp .Lt (.int a t) (.int c u)) Q E s)
section
variable {prog:Program} {w:World} {A:Around} {E:Value->Shared->Prop} {s:Shared}
theorem cat_tup {t b:Addr} {vs ws:List Value} {Q:Value->Shared->Prop} (ht:IsTup s.heap t vs.toArray) (hb:IsTup s.heap b ws.toArray) (hv:vs≠[])
    (h1:ws=[]->Q (.ref t) s) (h2:ws≠[]->Q (.ref s.heap.objs.size) { s with heap:=s.heap.push { cls:=.type "tuple",data:=.seq (vs++ws).toArray } })
    (hsz:vs.length + ws.length<=sizeLine):wpAny (model prog w) A (binaryOp .Add (.ref t) (.ref b)) Q E s:=by
  obtain ⟨⟨cls,dd,data,sl⟩,ho,hc,n,hd⟩:=id ht
  obtain ⟨⟨cls2,dd2,data2,sl2⟩,ho2,hc2,n2,hd2⟩:=id hb
  simp only at hc hd hc2 hd2
  subst hc hd hc2 hd2
  have e:vs.toArray++ws.toArray=(vs++ws).toArray:=by simp
  by_cases hw:ws=[]
  . exact concat_meets ⟨_,ho,rfl⟩ ⟨_,ho2,rfl⟩ noFill_tuple_add seq_tuple_add PySem.F.slot_tuple_add PySem.F.entry_tuple_add (PySem.F.args_tuple_add_2 _ _)
      (tuple_addW1 t b vs.toArray ws.toArray n n2 dd dd2 sl sl2 (by simpa using hv) (by simp [hw])) ⟨ho,ho2,h1 hw⟩
  . refine concat_meets ⟨_,ho,rfl⟩ ⟨_,ho2,rfl⟩ noFill_tuple_add seq_tuple_add PySem.F.slot_tuple_add PySem.F.entry_tuple_add (PySem.F.args_tuple_add_2 _ _)
      (tuple_addW2 t b vs.toArray ws.toArray n n2 dd dd2 sl sl2 (by simpa using hv) (by simpa using hw) (by rw [List.size_toArray,List.size_toArray];exact hsz)) ⟨ho,ho2,?_⟩
    rw [e]
    exact h2 hw
noncomputable def sIx (n d:Nat):Option Int->Nat
  | none=>d
  | some v=>if v < 0 then (v + (n:Int)).toNat else min v.toNat n
theorem sIx_none (n d:Nat):sIx n d none=d:=rfl
theorem sIx_nat (n d k:Nat):sIx n d (some (k:Int))=min k n:=by
  show (if (k:Int) < 0 then ((k:Int) + (n:Int)).toNat else min (k:Int).toNat n)=min k n
  rw [if_neg (by lia),Int.toNat_natCast]
theorem sIx_le (n d:Nat) (hd:d<=n) (o:Option Int):sIx n d o<=n:=by
  cases o with
  | none=>exact hd
  | some v =>
    show (if v < 0 then (v + (n:Int)).toNat else min v.toNat n)<=n
    by_cases hv:v < 0
    . rw [if_pos hv];lia
    . rw [if_neg hv];exact Nat.min_le_right _ _
theorem clip_eq (v:Int) (n d:Nat):(if v < 0 then max (v + (n:Int)) 0 else min v (n:Int))=((sIx n d (some v):Nat):Int):=by
  show (if v < 0 then max (v + (n:Int)) 0 else min v (n:Int))=(((if v < 0 then (v + (n:Int)).toNat else min v.toNat n):Nat):Int)
  by_cases hv:v < 0
  . simp only [if_pos hv];lia
  . simp only [if_neg hv];lia
theorem adjust_gen (lo hi:Option Int) (n:Nat):Builtin.Slice.sliceAdjust lo hi 1 (n:Int)=(((sIx n 0 lo:Nat):Int),((sIx n n hi:Nat):Int)):=by
  have h1:¬ ((1:Int) < 0):=by lia
  unfold Builtin.Slice.sliceAdjust
  simp only [h1,if_false]
  refine Prod.ext ?_ ?_
  . cases lo with
    | none=>rfl
    | some v=>exact clip_eq v n 0
  . cases hi with
    | none=>rfl
    | some v=>exact clip_eq v n n
theorem places_gen (i j:Nat):Builtin.Slice.slicePlaces (i:Int) (j:Int) 1=j - i:=by
  unfold Builtin.Slice.slicePlaces
  have h1:(1:Int) > 0:=by lia
  simp only [h1,if_true,Int.ediv_one]
  split <;> lia
theorem slicePart_ {v:Value} {o:Option Int} {Q:Option Int->Shared->Prop} (p:IsPart v o) (h:Q o s):wpAny (model prog w) A (Builtin.Slice.slicePartIndex v) Q E s:=by
  cases p with
  | none=>exact slicePart_none h
  | int i t=>exact slicePart_int h
theorem sliceApplied_gen {sl:Addr} {vl vu:Value} {lo hi:Option Int} {n:Nat} {Q:Int × Int × Nat->Shared->Prop} (hs:s.heap.IsSliceOf sl vl vu .none) (pl:IsPart vl lo) (pu:IsPart vu hi)
    (h:Q (((sIx n 0 lo:Nat):Int),1,sIx n n hi - sIx n 0 lo) s):wpAny (model prog w) A (Builtin.Slice.sliceApplied (.ref sl) (pure (n:Int))) Q E s:=by
  obtain ⟨os,hos,hcs,hds⟩:=id hs
  unfold Builtin.Slice.sliceApplied Builtin.Slice.sliceFields
  refine wpAny_bind (wpAny_bind (wpAny_field hos hds (x:=vl) rfl (wpAny_bind (wpAny_field hos hds (x:=vu) rfl (wpAny_bind (wpAny_field hos hds (x:=.none) rfl (wpAny_pure ?_)))))))
  refine wpAny_bind (slicePart_none ?_)
  show wpAny _ _ (if ((1:Int) == 0)=true then _ else _) _ _ s
  rw [if_neg (by decide)]
  refine wpAny_bind (slicePart_ pl (wpAny_bind (slicePart_ pu (wpAny_bind (wpAny_pure ?_)))))
  show wpAny _ _ (match Builtin.Slice.sliceAdjust lo hi 1 (n:Int) with | (lo,hi)=>pure (lo,(1:Int),Builtin.Slice.slicePlaces lo hi 1)) _ _ s
  rw [adjust_gen lo hi n]
  show wpAny _ _ (pure (((sIx n 0 lo:Nat):Int),(1:Int),Builtin.Slice.slicePlaces ((sIx n 0 lo:Nat):Int) ((sIx n n hi:Nat):Int) 1)) _ _ s
  rw [places_gen]
  exact wpAny_pure h
theorem pick_gen (xs:Array Value) (i k:Nat):((List.range k).filterMap fun (m:Nat)=>xs[((i:Int) + (m:Int) * 1).toNat]?).toArray=((xs.toList.drop i).take k).toArray:=by
  have e:(fun (m:Nat)=>xs[((i:Int) + (m:Int) * 1).toNat]?)=fun m=>xs[i + m]?:=by
    funext m
    have:((i:Int) + (m:Int) * 1).toNat=i + m:=by lia
    rw [this]
  rw [e]
  have:=pick_run xs i k
  rw [List.filterMap_map] at this
  have e2:((fun x=>xs[x]?) ∘ fun x=>i + x)=fun m=>xs[i + m]?:=rfl
  rw [e2] at this
  rw [this]
theorem getItem_tuple_cut {t sl:Addr} {items:Array Value} {vl vu:Value} {lo hi:Option Int} {Q:Value->Shared->Prop} (ht:IsTup s.heap t items) (hs:s.heap.IsSliceOf sl vl vu .none) (pl:IsPart vl lo) (pu:IsPart vu hi)
    (hw:¬ (sIx items.size 0 lo=0/\sIx items.size items.size hi=items.size))
    (h:Q (.ref s.heap.objs.size) { s with heap:=s.heap.push { cls:=.type "tuple",data:=.seq ((items.toList.drop (sIx items.size 0 lo)).take (sIx items.size items.size hi - sIx items.size 0 lo)).toArray } })
    (hsz:items.size<=sizeLine):wpAny (model prog w) A (getItem (.ref t) (.ref sl)) Q E s:=by
  have htake:sizeOk (.seq ((items.toList.drop (sIx items.size 0 lo)).take (sIx items.size items.size hi - sIx items.size 0 lo)).toArray):=by
    show ((items.toList.drop (sIx items.size 0 lo)).take (sIx items.size items.size hi - sIx items.size 0 lo)).toArray.size<=sizeLine
    rw [List.size_toArray,List.length_take,List.length_drop,Array.length_toList]
    lia
  have hj:sIx items.size items.size hi<=items.size:=sIx_le _ _ (Nat.le_refl _) hi
  obtain ⟨os,hos,hcs,hds⟩:=id hs
  have hTs:s.TypeIs (.ref sl) "slice":=⟨os,hos,hcs⟩
  unfold getItem
  try with_reducible refine wpAny_holding ?_
  first | refine wpAny_bind (wpAny_pure ?_) | skip
  refine wpAny_bind (wpAny_sequenceKey ht.typeIs (by decide) ?_)
  refine wpAny_bind (wpAny_callSpecial?_slot (name:=Str.ofString "__getitem__") ht.typeIs PyProof.Rows.slot_tuple_getitem
    (wpAny_call_entry PyProof.Rows.slot_tuple_getitem ht.typeIs entry_tuple_getitem ?_ (args_tuple_getitem _ _)))
  show wpAny _ _ (Builtin.Tuple.tupleItemsOf (.ref t) >>= _) _ _ s
  refine wpAny_bind (tupleItemsOf_ ht ?_)
  refine wpAny_bind (wpAny_typeOf hTs ?_)
  rw [if_pos (by decide)]
  refine wpAny_bind (sliceApplied_gen hs pl pu ?_)
  have hno:¬ ((((sIx items.size 0 lo:Nat):Int) == 0 && (1:Int) == 1 && (sIx items.size items.size hi - sIx items.size 0 lo) == items.size)=true):=by
    intro q
    rw [Bool.and_eq_true,Bool.and_eq_true] at q
    have q1:((sIx items.size 0 lo:Nat):Int)=0:=eq_of_beq q.1.1
    have q2:sIx items.size items.size hi - sIx items.size 0 lo=items.size:=eq_of_beq q.2
    exact hw ⟨by lia,by lia⟩
  show wpAny _ _ (if (((sIx items.size 0 lo:Nat):Int) == 0 && (1:Int) == 1 && (sIx items.size items.size hi - sIx items.size 0 lo) == items.size)=true then _ else _) _ _ s
  rw [if_neg hno,pick_gen]
  first
    | exact wpAny_bind (m:=Builtin.Tuple.tupleExact _) (wpAny_newObj_type (wpAny_pure ⟨_,rfl,wpAny_pure h⟩) htake)
    | exact wpAny_bind (m:=Builtin.Tuple.tupleExact _) (wpAny_newObj_type (wpAny_bind (wpAny_pure (wpAny_pure ⟨_,rfl,wpAny_pure h⟩))) htake)
    | exact wpAny_bind (wpAny_bind (m:=Builtin.Tuple.tupleExact _) (wpAny_newObj_type (wpAny_pure (wpAny_pure ⟨_,rfl,wpAny_pure h⟩)) htake))
    | exact wpAny_bind (wpAny_bind (m:=Builtin.Tuple.tupleExact _) (wpAny_newObj_type (wpAny_pure ⟨_,rfl,wpAny_pure h⟩) htake))
end
end HT
namespace L2
open PySem PySem.Spec PyProof.Rows
noncomputable abbrev TO:=St->Hp->(Option Int->Hp->Prop)->Prop
noncomputable def PO (X:Cx) (e:Option Expr) (t:TO):Prop :=
  ∀ (pins:List (Addr × Obj)) (s:Shared) (σ:St) (H:Hp) (Q:Option Int->Hp->Prop),Inv X pins σ H s->t σ H Q ->
    wpAny (model X.prog X.w) X.A (evalPart e X.env) (fun u s'=>∃ o H',Inv X pins σ H' s'/\IsPart u o/\Q o H') X.xe s
noncomputable def tNoPart:TO:=fun _ H Q=>Q none H
noncomputable def tPart (t:TE):TO:=fun σ H Q=>t σ H fun x H1=>∃ i,x=.int i/\Q (some i) H1
section
variable {X:Cx} {e:Expr} {te:TE} {lo hi:Option Expr} {tl th:TO} {pos p2:Pos}
theorem po_none:PO X none tNoPart:=by
  intro pins s σ H Q I h
  rw [evalPart_none]
  exact wpAny_pure ⟨none,H,I,.none,h⟩
theorem po_some (h:PE X e te):PO X (some e) (tPart te):=by
  intro pins s σ H Q I hw
  rw [evalPart_some]
  refine thn (h pins s σ H _ I hw) fun u s1 h_q=>?_
  obtain ⟨x,H1,I1,r1,q1⟩:=h_q
  obtain ⟨i,rfl,q⟩:=q1
  obtain ⟨t,rfl⟩:=r1
  exact ⟨some i,H1,I1,.int i t,q⟩
noncomputable def SlR (X:Cx) (r:V->Option Int->Option Int->Hp->VK->Prop):Prop :=
  ∀ (pins:List (Addr × Obj)) (s:Shared) (σ:St) (H:Hp) (x:V) (v vl vu:Value) (lo hi:Option Int) (sl:Addr) (Q:VK),Inv X pins σ H s->RelV x v->s.heap.IsSliceOf sl vl vu .none->IsPart vl lo->IsPart vu hi->r x lo hi H Q ->
    ∃ T id,typeLookup (.type T) "__getitem__"=pure (some (.builtin id))/\s.TypeIs v T/\wpAny (model X.prog X.w) X.A (getItem v (.ref sl)) (EP X pins σ Q) X.xe s
noncomputable def tSl (r:V->Option Int->Option Int->Hp->VK->Prop) (te:TE) (tl th:TO):TE:=fun σ H Q=>te σ H fun x H1=>tl σ H1 fun l H2=>th σ H2 fun u H3=>r x l u H3 Q
theorem pe_slice {r:V->Option Int->Option Int->Hp->VK->Prop} (hr:SlR X r) (he:PE X e te) (hl:PO X lo tl) (hu:PO X hi th):PE X (.Subscript e (.Slice lo hi none p2) pos) (tSl r te tl th):=by
  intro pins s σ H Q I h
  refine Subscript_ (thn (he pins s σ H _ I h) fun v s1 h_q=>?_)
  obtain ⟨x,H1,I1,r1,q1⟩:=h_q
  refine wpAny_Slice (thn (hl pins s1 σ H1 _ I1 q1) fun vl s2 ⟨l,H2,I2,pl,q2⟩=>thn (hu pins s2 σ H2 _ I2 q2) fun vu s3 h_q=>?_)
  obtain ⟨u,H3,I3,pu,q3⟩:=h_q
  rw [evalPart_none]
  refine wpAny_pure ?_
  have I4:Inv X pins σ H3 { s3 with heap:=s3.heap.push { cls:=.type "slice",data:=.fields #[vl,vu,.none] } }:=I3.kept (t':=s3.toks) fun b ob q=>Heap.get?_push_of_some _ q
  obtain ⟨T,id,hT,ht,hg⟩:=hr pins { s3 with heap:=s3.heap.push { cls:=.type "slice",data:=.fields #[vl,vu,.none] } } σ H3 x v vl vu l u s3.heap.objs.size Q I4 r1 (Heap.IsSliceOf.new ..) pl pu q3
  show wpAny (model X.prog X.w) X.A (subscriptTail e (.Slice lo hi none p2) v (.ref s3.heap.objs.size)) (EP X pins σ Q) X.xe { s3 with heap:=s3.heap.push { cls:=.type "slice",data:=.fields #[vl,vu,.none] } }
  exact tail_any (ops:=[.ref s3.heap.objs.size,v]) ht hT hg (by with_unfolding_all rfl)
noncomputable def cutV (xs:List V) (lo hi:Option Int):List V:=(xs.drop (HT.sIx xs.length 0 lo)).take (HT.sIx xs.length xs.length hi - HT.sIx xs.length 0 lo)
theorem cutV_length (xs:List V) (lo hi:Option Int):(cutV xs lo hi).length<=xs.length:=by
  unfold cutV
  rw [List.length_take,List.length_drop]
  lia
noncomputable def rSlT (K:PySem.W.Frag):V->Option Int->Option Int->Hp->VK->Prop:=fun x lo hi H Q=>∃ a xs,x=.ref a/\SqT K H a xs /\
  ¬ (HT.sIx xs.length 0 lo=0/\HT.sIx xs.length xs.length hi=xs.length)/\∀ p,H p=none->Q (.ref p) (upd H p (.tup (cutV xs lo hi)))
theorem sl_tup:SlR X (rSlT X.K):=by
  intro pins s σ H x v vl vu lo hi sl Q I rx hs pl pu h
  obtain ⟨a,xs,rfl,hx,hw,q⟩:=h
  cases rx
  obtain ⟨its,r,ht,hz⟩:=I.tuple hx
  have hlen:its.toArray.size=xs.length:=by rw [List.size_toArray];exact r.length.symm
  refine ⟨"tuple",_,PyProof.Rows.slot_tuple_getitem.lookup,ht.typeIs,?_⟩
  refine HT.getItem_tuple_cut ht hs pl pu (by rw [hlen];exact hw) ?_ (by rw [hlen];exact hz)
  rw [hlen]
  refine ⟨.ref s.heap.objs.size,_,I.laid (t':=s.toks) (o:=.tup (cutV xs lo hi)) (fun b ob q=>Heap.get?_push_of_some _ q) (Nat.le_refl _) ?_,rfl,q _ (I.hok.fresh (Nat.le_refl _))⟩
  exact ⟨Nat.le_trans (cutV_length xs lo hi) hz,_,(r.drop (HT.sIx xs.length 0 lo)).take (HT.sIx xs.length xs.length hi - HT.sIx xs.length 0 lo),IsTup.new _ _⟩
noncomputable def rCatT (K:PySem.W.Frag):R2:=fun x y H Q=>∃ a b xs ys,x=.ref a/\y=.ref b/\SqT K H a xs/\SqT K H b ys/\xs≠[]/\xs.length + ys.length<=sizeLine /\
  (ys=[]->Q (.ref a) H)/\(ys≠[]->∀ p,H p=none->Q (.ref p) (upd H p (.tup (xs++ys))))
theorem Vals.nil_iff {xs:List V} {us:List Value} (r:Vals xs us):us=[] ↔ xs=[]:=by
  cases r with
  | nil=>simp
  | cons _ _=>simp
theorem op_catT:OpR X (binaryOp .Add) (rCatT X.K):=by
  intro pins s σ H x y v u Q I rx ry h
  obtain ⟨a,b,xs,ys,rfl,rfl,ha,hb,hx,hz,q1,q2⟩:=h
  cases rx
  cases ry
  obtain ⟨its,r1,p1,_⟩:=I.tuple ha
  obtain ⟨its2,r2,p2,_⟩:=I.tuple hb
  refine HT.cat_tup p1 p2 (fun z=>hx (r1.nil_iff.mp z)) (fun z=>⟨.ref a,H,I,rfl,q1 (r2.nil_iff.mp z)⟩) (fun z=>?_) (by rw [<- r1.length,<- r2.length];exact hz)
  refine ⟨.ref s.heap.objs.size,_,I.laid (t':=s.toks) (o:=.tup (xs++ys)) (fun b ob q=>Heap.get?_push_of_some _ q) (Nat.le_refl _) ?_,rfl,q2 (fun w=>z (r2.nil_iff.mpr w)) _ (I.hok.fresh (Nat.le_refl _))⟩
  exact ⟨by rw [List.length_append];exact hz,_,r1.append r2,IsTup.new _ _⟩
end
end L2
namespace L2
open PySem PySem.Spec PyProof.Rows
noncomputable def ixN (n:Nat) (i:Int):Option Nat:=if 0<=i then (if i < n then some i.toNat else none) else if -(n:Int)<=i then some (i + n).toNat else none
noncomputable def atI {α:Type} (xs:List α) (i:Int):Option α:=(ixN xs.length i).bind fun j=>xs[j]?
theorem ixN_seq {n:Nat} {i:Int} {j:Nat} (h:ixN n i=some j):seqIndex? i n=some j/\j < n/\-(n:Int)<=i/\i < n:=by
  unfold ixN at h
  by_cases h0:0<=i
  . rw [if_pos h0] at h
    by_cases h1:i < n
    . rw [if_pos h1] at h
      have e:i.toNat=j:=Option.some.inj h
      exact ⟨by rw [seqIndex_of h0 h1,e],by lia,by lia,h1⟩
    . rw [if_neg h1] at h;cases h
  . rw [if_neg h0] at h
    by_cases h1:-(n:Int)<=i
    . rw [if_pos h1] at h
      have e:(i + n).toNat=j:=Option.some.inj h
      exact ⟨by rw [seqIndex_neg (by lia) h1,e],by lia,h1,by lia⟩
    . rw [if_neg h1] at h;cases h
theorem atI_get {α:Type} {xs:List α} {i:Int} {v:α} (h:atI xs i=some v):∃ j,seqIndex? i xs.length=some j/\xs[j]? = some v/\j < xs.length/\-(xs.length:Int)<=i/\i < xs.length:=by
  unfold atI at h
  cases e:ixN xs.length i with
  | none=>rw [e] at h;cases h
  | some j =>
    rw [e] at h
    obtain ⟨h1,h2,h3,h4⟩:=ixN_seq e
    exact ⟨j,h1,h,h2,h3,h4⟩
theorem atI_nat {α:Type} {xs:List α} {j:Nat} {v:α} (h:xs[j]? = some v):atI xs (j:Int)=some v:=by
  have hj:j < xs.length:=(List.getElem?_eq_some_iff.mp h).1
  have e:ixN xs.length (j:Int)=some j:=by
    unfold ixN
    rw [if_pos (by lia),if_pos (by lia)];simp
  unfold atI;rw [e];exact h
theorem atI_last {α:Type} (xs:List α) (v:α):atI (xs++[v]) (-1)=some v:=by
  have hl:(xs++[v]).length=xs.length + 1:=by simp
  have e:ixN (xs++[v]).length (-1)=some xs.length:=by
    unfold ixN
    rw [hl,if_neg (by decide),if_pos (by lia)]
    congr 1
    lia
  unfold atI
  rw [e]
  show (xs++[v])[xs.length]? = some v
  simp
noncomputable def PlainIx (b:Expr):Prop:=∀ o i,subscripted b false o i=operate [o,i] (getItem o i)
noncomputable def IxR (X:Cx) (r:R2):Prop :=
  ∀ (value slice:Expr) (pins:List (Addr × Obj)) (s:Shared) (σ:St) (H:Hp) (x y:V) (v u:Value) (Q:VK),Inv X pins σ H s->RelV x v->RelV y u->r x y H Q ->
    subscripted slice false v u=operate [v,u] (getItem v u)->wpAny (model X.prog X.w) X.A (subscriptTail value slice v u) (EP X pins σ Q) X.xe s
noncomputable def MtR (X:Cx) (id:String) (r:V->List V->Hp->VK->Prop):Prop :=
  ∀ (pins:List (Addr × Obj)) (s:Shared) (σ:St) (H:Hp) (x:V) (xs:List V) (v:Value) (us:List Value) (Q:VK),Inv X pins σ H s->RelV x v->Vals xs us->r x xs H Q ->
    wpAny (model X.prog X.w) X.A (call (.builtin id) (v::us)) (EP X pins σ Q) X.xe s
section
variable {X:Cx} {a b:Expr} {ta tb:TE} {pos:Pos}
theorem IxR.or {r r':R2} (h:IxR X r) (h':IxR X r'):IxR X (fun x y H Q=>r x y H Q\/r' x y H Q):=by
  intro value slice pins s σ H x y v u Q I rx ry q hs
  rcases q with q | q
  . exact h value slice pins s σ H x y v u Q I rx ry q hs
  . exact h' value slice pins s σ H x y v u Q I rx ry q hs
theorem pe_ix {r:R2} (hr:IxR X r) (ha:PE X a ta) (hb:PE X b tb) (hs:PlainIx b):PE X (.Subscript a b pos) (tOp r ta tb):=by
  intro pins s σ H Q I h
  exact Subscript_ (binT ha hb I h fun v u s2 x y H2 I2 rx ry q=>hr a b pins s2 σ H2 x y v u Q I2 rx ry q (hs _ _))
noncomputable def rIxL (K:PySem.W.Frag):R2:=fun x y H Q=>∃ p xs i v,x=.ref p/\y=.int i/\SqL K H p xs/\atI xs i=some v/\Q v H
noncomputable def rIxT (K:PySem.W.Frag):R2:=fun x y H Q=>∃ p xs i v,x=.ref p/\y=.int i/\SqT K H p xs/\atI xs i=some v/\Q v H
noncomputable def rIxS:R2:=fun x y H Q=>∃ z i c,x=.str z/\y=.int i/\z.length<=sizeLine/\atI z.cps.toList i=some c/\Q (.str ⟨#[c]⟩) H
theorem ix_list:IxR X (rIxL X.K):=by
  intro value slice pins s σ H x y v u Q I rx ry h hs
  obtain ⟨p,xs,i,z,rfl,rfl,hq,he,q⟩:=h
  cases rx
  obtain ⟨t,rfl⟩:=ry
  obtain ⟨its,r,pl,hz⟩:=I.list hq
  obtain ⟨j,h1,h2,h3,h4,h5⟩:=atI_get he
  obtain ⟨w,ew,rw'⟩:=r.get h2
  have hl:=r.length
  have hn:=line63
  have fin:EP X pins σ Q w s:=⟨z,H,I,rw',q⟩
  by_cases h0:0<=i
  . have hj:i.toNat=j:=by
      rw [seqIndex_of h0 h5] at h1
      exact Option.some.inj h1
    exact item_listR pl.isList h0 (by lia) (by rw [hj];simpa using ew) fin hs
  . have hj:(i + (its.toArray.size:Int)).toNat=j:=by
      rw [seqIndex_neg (by lia) h4] at h1
      rw [List.size_toArray,<- hl]
      exact Option.some.inj h1
    exact subscriptTail_builtinR (x:=w) pl.isList.typeIs slot_list_getitem.lookup
      (wpAny_getItem_list_neg (Q:=fun r s'=>r=w/\EP X pins σ Q r s') pl.isList (by lia) (by rw [List.size_toArray] <;> lia) (by lia) (by rw [hj];simpa using ew) ⟨rfl,fin⟩) hs
theorem ix_tup:IxR X (rIxT X.K):=by
  intro value slice pins s σ H x y v u Q I rx ry h hs
  obtain ⟨p,xs,i,z,rfl,rfl,hq,he,q⟩:=h
  cases rx
  obtain ⟨t,rfl⟩:=ry
  obtain ⟨its,r,pl,hz⟩:=I.tuple hq
  obtain ⟨j,h1,h2,h3,h4,h5⟩:=atI_get he
  obtain ⟨w,ew,rw'⟩:=r.get h2
  have hl:=r.length
  have hn:=line63
  have fin:EP X pins σ Q w s:=⟨z,H,I,rw',q⟩
  exact subscriptTail_builtinR (x:=w) pl.typeIs slot_tuple_getitem.lookup
    (getItem_tuple (j:=j) (Q:=fun r s'=>r=w/\EP X pins σ Q r s') pl (by lia) (by lia) (by rw [List.size_toArray,<- hl];exact h1) (by simpa using ew) ⟨rfl,fin⟩) hs
theorem ix_str:IxR X rIxS:=by
  intro value slice pins s σ H x y v u Q I rx ry h hs
  obtain ⟨z,i,c,rfl,rfl,hz,he,q⟩:=h
  obtain ⟨t,rfl⟩:=rx
  obtain ⟨t',rfl⟩:=ry
  obtain ⟨j,h1,h2,h3,h4,h5⟩:=atI_get he
  have hl:z.cps.toList.length=z.length:=by simp [Str.length]
  rw [hl] at h1 h4 h5
  have hn:=line63
  exact tail_any (typeIs_str s z t) slot_str_getitem.lookup (getItem_str (c:=c) (by
    have e1:decide (i < -(2 ^ 63:Int))=false:=decide_eq_false (by lia)
    have e2:decide (i ≥ 2 ^ 63)=false:=decide_eq_false (by lia)
    rw [e1,e2,Bool.or_false]) (by rw [h1];simpa using h2) ⟨.str ⟨#[c]⟩,H,I.tok _,⟨_,rfl⟩,q⟩) hs
noncomputable def rIx (K:PySem.W.Frag):R2:=fun x y H Q=>rIxL K x y H Q\/rIxT K x y H Q\/rIxS x y H Q
theorem ix_seq:IxR X (rIx X.K):=ix_list.or (ix_tup.or ix_str)
theorem slice_bounds (lo hi:Option Int) (n:Nat):(sliceBounds lo hi none n).1=((HT.sIx n 0 lo:Nat):Int)/\(sliceBounds lo hi none n).2.1=((HT.sIx n n hi:Nat):Int)/\(sliceBounds lo hi none n).2.2=1:=by
  refine ⟨?_,?_,rfl⟩
  . cases lo with
    | none=>simp [sliceBounds,HT.sIx]
    | some i =>
      simp only [sliceBounds,HT.sIx,Option.getD_none,show (1:Int) > 0 by decide,if_true]
      by_cases h:i < 0
      . simp only [h,if_true] <;> lia
      . simp only [h,if_false] <;> lia
  . cases hi with
    | none=>simp [sliceBounds,HT.sIx]
    | some i =>
      simp only [sliceBounds,HT.sIx,Option.getD_none,show (1:Int) > 0 by decide,if_true]
      by_cases h:i < 0
      . simp only [h,if_true] <;> lia
      . simp only [h,if_false] <;> lia
theorem slicePick_cut (its:List Value) (lo hi:Option Int):slicePick its.toArray lo hi none=((its.drop (HT.sIx its.length 0 lo)).take (HT.sIx its.length its.length hi - HT.sIx its.length 0 lo)).toArray:=by
  obtain ⟨h1,h2,h3⟩:=slice_bounds lo hi its.toArray.size
  unfold slicePick
  rw [h1,h2,h3]
  simp only [sliceRange_one,pick_run,List.size_toArray] <;> rfl
noncomputable def rSlL (K:PySem.W.Frag):V->Option Int->Option Int->Hp->VK->Prop:=fun x lo hi H Q=>∃ a xs,x=.ref a/\SqL K H a xs/\∀ p,H p=none->Q (.ref p) (upd H p (.lst (cutV xs lo hi)))
theorem sl_list:SlR X (rSlL X.K):=by
  intro pins s σ H x v vl vu lo hi sl Q I rx hs pl pu h
  obtain ⟨a,xs,rfl,hx,q⟩:=h
  cases rx
  obtain ⟨its,r,ht,hz⟩:=I.list hx
  have hlen:=r.length
  refine ⟨"list",_,slot_list_getitem.lookup,ht.isList.typeIs,?_⟩
  refine wpAny_getItem_list_slice ht.isList hs pl pu .none (by simp) ?_ (by rw [List.size_toArray] <;> lia)
  rw [slicePick_cut,<- hlen]
  refine ⟨.ref s.heap.objs.size,_,I.laid (t':=s.toks) (o:=.lst (cutV xs lo hi)) (fun b ob q=>Heap.get?_push_of_some _ q) (Nat.le_refl _) ?_,rfl,q _ (I.hok.fresh (Nat.le_refl _))⟩
  exact ⟨Nat.le_trans (cutV_length xs lo hi) hz,_,0,(r.drop (HT.sIx xs.length 0 lo)).take (HT.sIx xs.length xs.length hi - HT.sIx xs.length 0 lo),Heap.get?_push_size _ rfl⟩
noncomputable def flatV:V->Bool
  | .non=>true
  | .bl _=>true
  | .int _=>true
  | .str _=>true
  | _=>false
noncomputable def eqV:V->V->Bool
  | .non,.non=>true
  | .bl a,.bl b=>a == b
  | .bl a,.int b=>(if a then 1 else 0) == b
  | .int a,.bl b=>a == (if b then 1 else 0)
  | .int a,.int b=>a == b
  | .str a,.str b=>a == b
  | _,_=>false
theorem eqAt_V {A:Around} {s:Shared} {y x:V} {u v:Value} (ry:RelV y u) (rx:RelV x v) (fy:flatV y=true) (fx:flatV x=true):SeqAt.EqAt A s u v (eqV y x):=by
  cases y with
  | non =>
    cases ry
    cases x with
    | non=>cases rx;exact SeqAt.EqAt.same _
    | bl b=>cases rx;exact SeqAt.EqAt.none_bool b
    | int b=>obtain ⟨t,rfl⟩:=rx;exact SeqAt.EqAt.none_int b t
    | str b=>obtain ⟨t,rfl⟩:=rx;exact SeqAt.EqAt.none_str b t
    | _=>exact absurd (show false=true from fx) Bool.false_ne_true
  | bl a =>
    cases ry
    cases x with
    | non=>cases rx;exact SeqAt.EqAt.bool_none a
    | bl b=>cases rx;exact SeqAt.EqAt.bool_bool a b
    | int b=>obtain ⟨t,rfl⟩:=rx;exact SeqAt.EqAt.bool_int a b t
    | str b=>obtain ⟨t,rfl⟩:=rx;exact SeqAt.EqAt.bool_str a b t
    | _=>exact absurd (show false=true from fx) Bool.false_ne_true
  | int a =>
    obtain ⟨t',rfl⟩:=ry
    cases x with
    | non=>cases rx;exact SeqAt.EqAt.int_none a t'
    | bl b=>cases rx;exact SeqAt.EqAt.int_bool a t' b
    | int b=>obtain ⟨t,rfl⟩:=rx;exact SeqAt.EqAt.int_int a t' b t
    | str b=>obtain ⟨t,rfl⟩:=rx;exact SeqAt.EqAt.int_str a t' b t
    | _=>exact absurd (show false=true from fx) Bool.false_ne_true
  | str a =>
    obtain ⟨t',rfl⟩:=ry
    cases x with
    | non=>cases rx;exact SeqAt.EqAt.str_none a t'
    | bl b=>cases rx;exact SeqAt.EqAt.str_bool a t' b
    | int b=>obtain ⟨t,rfl⟩:=rx;exact SeqAt.EqAt.str_int a t' b t
    | str b=>obtain ⟨t,rfl⟩:=rx;exact SeqAt.EqAt.str_str a t' b t
    | _=>exact absurd (show false=true from fx) Bool.false_ne_true
  | _=>exact absurd (show false=true from fy) Bool.false_ne_true
noncomputable def eqU (x:V) (u:Value):Bool:=match u with
  | .none=>eqV .non x
  | .bool b=>eqV (.bl b) x
  | .int i _=>eqV (.int i) x
  | .str z _=>eqV (.str z) x
  | _=>false
theorem eqU_of {x y:V} {u:Value} (r:RelV y u) (f:flatV y=true):eqU x u=eqV y x:=by
  cases y with
  | non=>cases r;rfl
  | bl b=>cases r;rfl
  | int i=>obtain ⟨t,rfl⟩:=r;rfl
  | str z=>obtain ⟨t,rfl⟩:=r;rfl
  | _=>exact absurd (show false=true from f) Bool.false_ne_true
theorem any_eqU {x:V}:∀ {xs:List V} {us:List Value},Vals xs us->xs.all flatV=true->us.any (eqU x)=xs.any fun y=>eqV y x
  | _,_,.nil,_=>rfl
  | y :: xs,u::us,.cons r t,f=>by
    rw [List.all_cons,Bool.and_eq_true] at f
    rw [List.any_cons,List.any_cons,eqU_of r f.1,any_eqU t f.2]
theorem mem_eqAt {A:Around} {s:Shared} {x:V} {v:Value} (rx:RelV x v) (fx:flatV x=true):∀ {xs:List V} {us:List Value},Vals xs us->xs.all flatV=true->∀ u∈us,SeqAt.EqAt A s u v (eqU x u)
  | _,_,.nil,_=>fun u hu=>by cases hu
  | y :: xs,u::us,.cons r t,f=>fun u' hu=>by
    rw [List.all_cons,Bool.and_eq_true] at f
    rcases List.mem_cons.mp hu with rfl | hu
    . rw [eqU_of r f.1];exact eqAt_V r rx f.1 fx
    . exact mem_eqAt rx fx t f.2 u' hu
noncomputable def inV (x:V) (xs:List V):Bool:=xs.any fun y=>eqV y x
noncomputable def rIn (K:PySem.W.Frag) (neg:Bool):R2:=fun x y H Q=>∃ p xs,y=.ref p/\(SqL K H p xs\/SqT K H p xs)/\flatV x=true/\xs.all flatV=true/\Q (.bl (if neg then !inV x xs else inV x xs)) H
theorem op_in_seq:OpR X (compareOp .In) (rIn X.K false):=by
  intro pins s σ H x y v u Q I rx ry h
  obtain ⟨p,xs,rfl,hq,fx,fs,q⟩:=h
  cases ry
  rcases hq with hq | hq
  . obtain ⟨its,r,pl,hz⟩:=I.list hq
    refine SeqAt.in_listAt (eqU x) pl.isList (fun w hw=>mem_eqAt rx fx r fs w (by simpa using hw)) ⟨.bl _,H,I,rfl,?_⟩
    rw [show its.toArray.any (eqU x)=its.any (eqU x) by simp,any_eqU r fs]
    exact q
  . obtain ⟨its,r,pl,hz⟩:=I.tuple hq
    refine SeqAt.in_tupleAt (eqU x) pl (fun w hw=>mem_eqAt rx fx r fs w (by simpa using hw)) ⟨.bl _,H,I,rfl,?_⟩
    rw [show its.toArray.any (eqU x)=its.any (eqU x) by simp,any_eqU r fs]
    exact q
theorem call_len_seq:CallR X (.builtin "len") (fun xs H Q=>∃ p ys,xs=[.ref p]/\(SqL X.K H p ys\/SqT X.K H p ys)/\Q (.int ys.length) H):=by
  intro pins s σ H xs us Q I r h
  obtain ⟨p,ys,rfl,hq,q⟩:=h
  obtain ⟨u,rfl,rx⟩:=vals1 r
  cases rx
  have hn:=line63
  rcases hq with hq | hq
  . obtain ⟨its,r',pl,hz⟩:=I.list hq
    have hlen:=r'.length
    exact Calls.call_len_list pl.isList (by simp only [List.size_toArray] <;> lia) ⟨.int ys.length,H,I.tok _,⟨s.toks + 1,by rw [List.size_toArray,hlen]⟩,q⟩
  . obtain ⟨its,r',pl,hz⟩:=I.tuple hq
    have hlen:=r'.length
    exact len_tuple pl (by simp only [List.size_toArray] <;> lia) ⟨.int ys.length,H,I.tok _,⟨s.toks + 1,by rw [List.size_toArray,hlen]⟩,q⟩
theorem call_len_str:CallR X (.builtin "len") (fun xs H Q=>∃ z,xs=[.str z]/\z.length<=sizeLine/\Q (.int z.length) H):=by
  intro pins s σ H xs us Q I r h
  obtain ⟨z,rfl,hz,q⟩:=h
  obtain ⟨u,rfl,t,rfl⟩:=vals1 r
  have hn:=line63
  exact len_str (by lia) ⟨.int z.length,H,I.tok _,⟨_,rfl⟩,q⟩
theorem CallR.or {f:Value} {r r':List V->Hp->VK->Prop} (h:CallR X f r) (h':CallR X f r'):CallR X f (fun xs H Q=>r xs H Q\/r' xs H Q):=by
  intro pins s σ H xs us Q I rs q
  rcases q with q | q
  . exact h pins s σ H xs us Q I rs q
  . exact h' pins s σ H xs us Q I rs q
theorem call_list_of:CallR X (.type "list") (fun xs H Q=>∃ p ys,xs=[.ref p]/\(SqL X.K H p ys\/SqT X.K H p ys)/\∀ l,H l=none->Q (.ref l) (upd H l (.lst ys))):=by
  intro pins s σ H xs us Q I r h
  obtain ⟨p,ys,rfl,hq,q⟩:=h
  obtain ⟨u,rfl,rx⟩:=vals1 r
  cases rx
  have fin:∀ (its:List Value),Vals ys its->ys.length<=sizeLine->∀ (h':Heap) (c':Nat),(∀ b o',s.heap.get? b=some o'->h'.get? b=some o') ->
      h'.get? s.heap.objs.size=some { cls:=.type "list",dict:=none,data:=.seq its.toArray c',slots:=#[] }->EP X pins σ Q (.ref s.heap.objs.size) { s with heap:=h' }:=fun its r' hz h' c' kp e =>
    ⟨.ref s.heap.objs.size,_,I.laid (t':=s.toks) kp (Nat.le_refl _) (show ObjOk X.prog X.w _ h' _ (.lst ys) from ⟨hz,its,c',r',e⟩),rfl,q _ (I.hok.fresh (Nat.le_refl _))⟩
  rcases hq with hq | hq
  . obtain ⟨its,r',pl,hz⟩:=I.list hq
    have hlen:=r'.length
    obtain ⟨o,ho,hc,n,hd⟩:=pl.isList
    exact call_list_seq p (.inl rfl) ho hc hd (fun h' c' kp e=>fin its r' hz h' c' kp e) (by simp only [List.size_toArray] <;> lia)
  . obtain ⟨its,r',pl,hz⟩:=I.tuple hq
    have hlen:=r'.length
    obtain ⟨o,ho,hc,n,hd⟩:=pl
    exact call_list_seq p (.inr rfl) ho hc hd (fun h' c' kp e=>fin its r' hz h' c' kp e) (by simp only [List.size_toArray] <;> lia)
noncomputable def tyV (K:PySem.W.Frag) (T:String) (x:V) (H:Hp):Prop:=match x with
  | .str _=>T="str"
  | .int _=>T="int"
  | .ref p=>(T="list"/\∃ xs,SqL K H p xs)\/(T="tuple"/\∃ o,K.lookup p=some o/\o.cls=.type "tuple"/\o.dict=none) \/
      (T="dict"/\((∃ kvs,H p=some (.dK kvs))\/∃ kvs,H p=some (.dT kvs)))\/(T="set"/\∃ S n,H p=some (.set S n))
  | _=>False
theorem tyV_is {pins:List (Addr × Obj)} {σ:St} {H:Hp} {s:Shared} {T:String} {x:V} {v:Value} (I:Inv X pins σ H s) (r:RelV x v) (ty:tyV X.K T x H) :
    s.TypeIs v T/\∀ a,v=.ref a->∃ ob,s.heap.get? a=some ob/\ob.dict=none:=by
  cases x with
  | str z =>
    obtain ⟨t,rfl⟩:=r
    cases (show T="str" from ty)
    exact ⟨typeIs_str s z t,fun _ e=>nomatch e⟩
  | int i =>
    obtain ⟨t,rfl⟩:=r
    cases (show T="int" from ty)
    exact ⟨typeIs_int s i t,fun _ e=>nomatch e⟩
  | ref p =>
    cases r
    rcases ty with ⟨rfl,xs,hq⟩ | ⟨rfl,o,hk,hc,hd⟩ | ⟨rfl,hk⟩ | ⟨rfl,S,n,hk⟩
    . obtain ⟨its,_,pl,_⟩:=I.list hq
      refine ⟨pl.isList.typeIs,fun a e=>?_⟩
      cases e
      obtain ⟨o,n,e,c,hd,_⟩:=pl
      exact ⟨o,e,hd⟩
    . refine ⟨⟨o,I.kIn p o hk,hc⟩,fun a e=>?_⟩
      cases e
      exact ⟨o,I.kIn _ o hk,hd⟩
    . have z:∃ o,s.heap.get? p=some o/\o.ExactDict:=by
        rcases hk with ⟨kvs,hk⟩ | ⟨kvs,hk⟩
        . obtain ⟨_,_,_,_,o,_,_,e,ex,_⟩:=I.hok p _ hk
          exact ⟨o,e,ex⟩
        . obtain ⟨_,_,_,_,o,_,_,e,ex,_⟩:=I.hok p _ hk
          exact ⟨o,e,ex⟩
      obtain ⟨o,e,ex⟩:=z
      refine ⟨⟨o,e,ex.1⟩,fun a e2=>?_⟩
      cases e2
      exact ⟨o,e,ex.2.1⟩
    . obtain ⟨o,_,_,_,e,ex,_⟩:=I.hok p _ hk
      refine ⟨⟨o,e,ex.1⟩,fun a e2=>?_⟩
      cases e2
      exact ⟨o,e,ex.2.1⟩
  | _=>exact False.elim ty
noncomputable def tBM0 (K:PySem.W.Frag) (T:String) (r:V->List V->Hp->VK->Prop) (to:TE):TE:=fun σ H Q=>to σ H fun x H1=>tyV K T x H1/\r x [] H1 Q
noncomputable def tBM (K:PySem.W.Frag) (T:String) (r:V->List V->Hp->VK->Prop) (to:TE) (t:TA):TE:=fun σ H Q=>to σ H fun x H1=>tyV K T x H1/\t σ H1 fun xs H2=>r x xs H2 Q
variable {o e:Expr} {es:List Expr} {to:TE} {t:TA} {name:Str} {apos cpos:Pos} {T id:String} {r:V->List V->Hp->VK->Prop}
theorem pe_bm0 (pa:PlainAttrs T) (slot:Slot T name id) (hty:typeOf (.builtin id)=pure (.type "method_descriptor")) (hm:MtR X id r) (ho:PE X o to)
    (hbase:attributeBase o name X.env (eval o X.env)=eval o X.env:=by rfl) (hline:(apos.endLine == cpos.line)=true:=by rfl):PE X (.Call (.Attribute o name apos) [] [] cpos) (tBM0 X.K T r to):=by
  intro pins s σ H Q I h
  refine wpAny_Call_method0_late hbase hline (thn (ho pins s σ H _ I h) fun v s1 h_q=>?_)
  obtain ⟨x,H1,I1,r1,ty,q1⟩:=h_q
  obtain ⟨h1,h2⟩:=tyV_is I1 r1 ty
  exact ⟨T,id,pa,slot,hty,h1,h2,Calls.callWith_builtin rfl (PySem.evalArgs_none (hm pins s1 σ H1 x [] v [] Q I1 r1 .nil q1))⟩
theorem pe_bm (pa:PlainAttrs T) (slot:Slot T name id) (hty:typeOf (.builtin id)=pure (.type "method_descriptor")) (hm:MtR X id r) (ho:PE X o to) (ha:PA X (e::es) t)
    (hbase:attributeBase o name X.env (eval o X.env)=eval o X.env:=by rfl)
    (hfew:((backTo cpos (starEach (e::es) X.env)).all (fun x=>!x.1) && (backToKw cpos (keywordEach [] X.env)).all (fun x=>x.1.isSome)
      && decide ((e::es).length + ([]:List Keyword).length + (if ([]:List Keyword).isEmpty then 0 else 1) < 30))=true:=by rfl)
    (hline:(apos.endLine == cpos.line)=true:=by rfl) (hs:starEach (e::es) X.env=(false,eval e X.env)::starEach es X.env:=by rfl) (hplain:(backTo cpos (starEach es X.env)).any (·.1)=false:=by rfl) :
    PE X (.Call (.Attribute o name apos) (e::es) [] cpos) (tBM X.K T r to t):=by
  intro pins s σ H Q I h
  refine wpAny_Call_method_late hbase hfew hline rfl (thn (ho pins s σ H _ I h) fun v s1 h_q=>?_)
  obtain ⟨x,H1,I1,r1,ty,q1⟩:=h_q
  obtain ⟨h1,h2⟩:=tyV_is I1 r1 ty
  refine ⟨T,id,pa,slot,hty,h1,h2,?_⟩
  have hA:=ha cpos pins s1 σ H1 _ I1 q1
  rw [hs] at hA ⊢
  refine Calls.callWith_builtin (by show (false || (backTo cpos (starEach es X.env)).any (·.1))=false;rw [hplain] <;> rfl) (Calls.evalArgs_plain ?_)
  exact thn hA fun us s2 ⟨vs,H2,I2,r2,q2⟩=>hm pins s2 σ H2 x vs v us Q I2 r1 r2 q2
end
end L2
namespace L2
open PySem PySem.Spec PyProof.Rows
noncomputable def MtM (X:Cx) (id:String) (r:V->List V->Hp->VK->Prop):Prop :=
  ∀ (pins:List (Addr × Obj)) (s:Shared) (σ:St) (H:Hp) (x:V) (xs:List V) (v:Value) (us:List Value) (Q:VK),Inv X pins σ H s->RelV x v->Vals xs us->r x xs H Q ->
    wpAny (model X.prog X.w) X.A (call (.builtin id) (v::us)) (EP X pins σ Q) X.xe s
theorem Vals.one:∀ {x:V} {us:List Value},Vals [x] us->∃ u,us=[u]/\RelV x u
  | _,_,.cons r .nil=>⟨_,rfl,r⟩
theorem Vals.two:∀ {x y:V} {us:List Value},Vals [x,y] us->∃ u v,us=[u,v]/\RelV x u/\RelV y v:=by
  intro x y us h
  cases h with
  | cons r h=>cases h with | cons q h=>cases h;exact ⟨_,_,rfl,r,q⟩
theorem Vals.zero:∀ {us:List Value},Vals [] us->us=[]
  | _,.nil=>rfl
theorem Vals.dropLast {xs:List V} {us:List Value} (h:Vals xs us):Vals xs.dropLast us.dropLast:=by
  induction h with
  | nil=>exact .nil
  | cons r t ih =>
    cases t with
    | nil=>exact .nil
    | cons q t'=>exact .cons r ih
theorem Vals.rep {xs:List V} {us:List Value} (h:Vals xs us):∀ k:Nat,Vals (List.replicate k xs).flatten (List.replicate k us).flatten
  | 0=>.nil
  | k + 1=>by
    rw [List.replicate_succ,List.replicate_succ,List.flatten_cons,List.flatten_cons]
    exact Vals.append h (Vals.rep h k)
theorem erase_last {α:Type} (l:List α):l.eraseIdx (l.length - 1)=l.dropLast:=by
  induction l with
  | nil=>rfl
  | cons a r ih =>
    cases r with
    | nil=>rfl
    | cons b r =>
      have e:(a::b::r).length - 1=((b::r).length - 1) + 1:=by
        have h1:(a::b::r).length=r.length + 2:=rfl
        have h2:(b::r).length=r.length + 1:=rfl
        lia
      rw [e,List.eraseIdx_cons_succ,ih]
      all_goals rfl
theorem foldl_rep (its:List Value):∀ (k:Nat) (acc:List Value),
    List.foldl (fun x1 x2=>x1++x2) acc.toArray (List.replicate k its.toArray)=(acc++(List.replicate k its).flatten).toArray
  | 0,acc=>by simp
  | k + 1,acc=>by
    have e:acc.toArray++its.toArray=(acc++its).toArray:=by simp
    have e2:(acc++its)++(List.replicate k its).flatten=acc++(List.replicate (k + 1) its).flatten:=by
      rw [List.replicate_succ,List.flatten_cons,List.append_assoc]
    rw [<- e2,<- foldl_rep its k (acc++its),<- e,List.replicate_succ,List.foldl_cons]
section
variable {X:Cx} {pins:List (Addr × Obj)} {σ:St} {H:Hp} {s:Shared} {l b:Addr} {xs ys zs:List V}
theorem Inv.lset {its its':List Value} {n:Nat} {f:Array Value->Array Value} {t':Nat} (I:Inv X pins σ H s) (hH:H l=some (.lst xs))
    (e:s.heap.get? l=some { cls:=.type "list",data:=.seq its.toArray n }) (hf:f its.toArray=its'.toArray) (hv:Vals ys its') (hz:ys.length<=sizeLine) :
    Inv X pins σ (upd H l (.lst ys)) { s with heap:=s.heap.update l (Obj.mapSeq f),toks:=t' }:=by
  have q:=PySem.IsL.update e f
  rw [hf] at q
  refine I.write (x:=l) (e:=l) (by rw [hH];exact trivial) (.inl rfl) (fun b' u hb hu=>(Heap.get?_update_other s.heap (Obj.mapSeq f) (Ne.symm hb)).trans hu) ⟨_,q⟩ ?_
  exact ⟨hz,its',_,hv,q⟩
theorem Inv.lnew {its:List Value} {t':Nat} (I:Inv X pins σ H s) (hv:Vals ys its) (hz:ys.length<=sizeLine) :
    Inv X pins σ (upd H s.heap.objs.size (.lst ys)) { s with heap:=s.heap.push { cls:=.type "list",data:=.seq its.toArray },toks:=t' } :=
  I.laid (fun _ _ q=>Heap.get?_push_of_some _ q) (Nat.le_refl _) ⟨hz,its,0,hv,Heap.get?_push_size _ rfl⟩
theorem Inv.fresh (I:Inv X pins σ H s):H s.heap.objs.size=none:=I.hok.fresh (Nat.le_refl _)
theorem Inv.lstM (I:Inv X pins σ H s) (hH:H l=some (.lst xs)):xs.length<=sizeLine/\∃ (its:List Value) (n:Nat),Vals xs its/\xs.length=its.length/\s.heap.get? l=some { cls:=.type "list",data:=.seq its.toArray n }:=by
  obtain ⟨z,its,n,r,e⟩:=I.hok l _ hH
  exact ⟨z,its,n,r,r.length,e⟩
theorem notLongL {n:Nat} (h:n<=sizeLine):Builtin.List.listTooLong n=false:=by
  unfold Builtin.List.listTooLong
  exact decide_eq_false (by lia)
end
section
variable {X:Cx}
noncomputable def rAppend:V->List V->Hp->VK->Prop:=fun x vs H Q=>∃ l xs y,x=.ref l/\vs=[y]/\H l=some (.lst xs)/\xs.length < sizeLine/\Q .non (upd H l (.lst (xs++[y])))
theorem mt_append:MtM X "list.append" rAppend:=by
  intro pins s σ H x vs v us Q I rx rv h
  obtain ⟨l,xs,y,rfl,rfl,hH,hz,q⟩:=h
  cases rx
  obtain ⟨u,rfl,ru⟩:=rv.one
  obtain ⟨z,its,n,r,hl,e⟩:=I.lstM hH
  refine call_meets F.slot_list_append ⟨_,e,rfl⟩ F.entry_list_append (F.args_list_append_2 _ _) (PySem.list_append l its.toArray n u (by rw [List.size_toArray];lia)) ⟨e,?_⟩
  refine ⟨.non,_,I.lset (its':=its++[u]) hH e (by simp) (r.append (.cons ru .nil)) ?_,rfl,q⟩
  rw [List.length_append,List.length_singleton]
  lia
noncomputable def rPop:V->List V->Hp->VK->Prop:=fun x vs H Q=>∃ l xs y,x=.ref l/\vs=[]/\H l=some (.lst xs)/\xs[xs.length - 1]? = some y/\Q y (upd H l (.lst xs.dropLast))
theorem mt_pop:MtM X "list.pop" rPop:=by
  intro pins s σ H x vs v us Q I rx rv h
  obtain ⟨l,xs,y,rfl,rfl,hH,hy,q⟩:=h
  cases rx
  have hus:=rv.zero
  subst hus
  obtain ⟨z,its,n,r,hl,e⟩:=I.lstM hH
  obtain ⟨u,hu,ru⟩:=r.get hy
  have hy':its.toArray[its.toArray.size - 1]? = some u:=by
    show its.toArray[its.length - 1]? = some u
    rw [<- Array.getElem?_toList,<- hl]
    exact hu
  refine call_meets F.slot_list_pop ⟨_,e,rfl⟩ F.entry_list_pop (F.args_list_pop_1 _) (MeetsSeq.list_pop_last l its.toArray n u hy' (by rw [List.size_toArray];lia)) ⟨e,?_⟩
  refine ⟨y,_,I.lset (its':=its.dropLast) hH e ?_ r.dropLast ?_,ru,q⟩
  . show its.toArray.eraseIdxIfInBounds (its.toArray.size - 1)=its.dropLast.toArray
    rw [List.size_toArray,List.eraseIdxIfInBounds_toArray,erase_last]
  . rw [List.length_dropLast]
    lia
noncomputable def rClear:V->List V->Hp->VK->Prop:=fun x vs H Q=>∃ l xs,x=.ref l/\vs=[]/\H l=some (.lst xs)/\Q .non (upd H l (.lst []))
theorem mt_clear:MtM X "list.clear" rClear:=by
  intro pins s σ H x vs v us Q I rx rv h
  obtain ⟨l,xs,rfl,rfl,hH,q⟩:=h
  cases rx
  have hus:=rv.zero
  subst hus
  obtain ⟨z,its,n,r,hl,e⟩:=I.lstM hH
  refine call_meets F.slot_list_clear ⟨_,e,rfl⟩ F.entry_list_clear (F.args_list_clear_1 _) (AutoSeq1.list_clear_list_0 l its.toArray n (by rw [List.size_toArray];lia)) ⟨e,?_⟩
  exact ⟨.non,_,I.lset (its':=[]) (ys:=[]) hH e rfl .nil (Nat.zero_le _),rfl,q⟩
noncomputable def rCat:R2:=fun x y H Q=>∃ l b xs zs,x=.ref l/\y=.ref b/\H l=some (.lst xs)/\H b=some (.lst zs)/\xs.length + zs.length<=sizeLine/\∀ p,H p=none->Q (.ref p) (upd H p (.lst (xs++zs)))
noncomputable def rRep:R2:=fun x y H Q=>∃ l k xs,x=.ref l/\y=.int k/\H l=some (.lst xs)/\-(2 ^ 63)<=k/\k < 2 ^ 63/\xs.length * k.toNat<=sizeLine /\
  ∀ p,H p=none->Q (.ref p) (upd H p (.lst (List.replicate k.toNat xs).flatten))
theorem len_rep {α:Type} (xs:List α) (k:Nat):(List.replicate k xs).flatten.length=k * xs.length:=by
  induction k with
  | zero=>simp
  | succ k ih=>rw [List.replicate_succ,List.flatten_cons,List.length_append,ih,Nat.succ_mul,Nat.add_comm]
theorem op_rep:OpR X (binaryOp .Mult) rRep:=by
  intro pins s σ H x y v u Q I rx ry h
  obtain ⟨l,k,xs,rfl,rfl,hH,h1,h2,hz,q⟩:=h
  cases rx
  obtain ⟨t,rfl⟩:=ry
  obtain ⟨z,its,n,r,hl,e⟩:=I.lstM hH
  have hlen:its.toArray.size * k.toNat<=sizeLine:=by rw [List.size_toArray,<- hl];exact hz
  have hcap:¬ its.toArray.size * k.toNat > (2 ^ 63 - 1) / 8:=by
    have:(sizeLine:Nat)<=(2 ^ 63 - 1) / 8:=by decide
    lia
  have hfit:¬ (!Builtin.List.listFitsIndex k)=true:=by
    rw [fitsIndex_both h1 h2]
    exact Bool.false_ne_true
  have hlong:¬ Builtin.List.listTooLong (its.toArray.size * k.toNat)=true:=by
    rw [notLongL hlen]
    exact Bool.false_ne_true
  have hnew:List.foldl (fun x1 x2=>x1++x2) #[] (List.replicate (if its.toArray.isEmpty=true then 0 else k.toNat) its.toArray)=(List.replicate k.toNat its).flatten.toArray:=by
    have f0:∀ m:Nat,List.foldl (fun x1 x2=>x1++x2) #[] (List.replicate m its.toArray)=(List.replicate m its).flatten.toArray:=fun m=>by
      have:=foldl_rep its m []
      rw [List.nil_append] at this
      exact this
    rw [f0]
    cases its with
    | nil=>simp
    | cons a r'=>rw [if_neg (by simp)]
  refine wpAny_binaryOp_repeat_ref (T:="list") (U:="int") (by decide) ⟨_,e,rfl⟩ (fun s'=>typeIs_int s' k t) noFill_list_mul F.fills_int_mul F.slot_int_rmul repeat_list F.slot_int_index.lookup
    (call_meets F.slot_int_rmul (typeIs_int s k t) F.entry_int_rmul (F.args_int_rmul_2 _ _) (int___rmul___int_list k t l its.toArray n)
      ⟨e,rfl,⟨_,e,rfl⟩,call_meets F.slot_list_mul ⟨_,e,rfl⟩ F.entry_list_mul (F.args_list_mul_2 _ _) (AutoListH.list___mul___list_int_3 l its.toArray n k t hfit hcap hlong) ⟨e,?_⟩⟩)
  rw [hnew]
  exact ⟨.ref _,_,I.lnew (t':=s.toks) (r.rep k.toNat) (by rw [len_rep,Nat.mul_comm];exact hz),rfl,q _ I.fresh⟩
end
end L2
namespace Att
open PySem PySem.W PySem.Calls PyProof.Rows
theorem ints_of_wellAll {P:Params} {h:Heap}:∀ (ns:List Int) (vs:List Value),WellAll P h vs (ns.map WData.int)->IntsAre vs ns:=by
  intro ns
  induction ns with
  | nil =>
    intro vs w
    rw [List.map_nil] at w
    cases w
    exact .nil
  | cons n ns ih =>
    intro vs w
    rw [List.map_cons] at w
    cases w with
    | cons a b =>
      cases a
      exact .cons _ _ (ih _ b)
theorem script_of {l:OpenLaw} {n:Nat} (hn:l.most=some n) {P:Params} {h:Heap} {args:List WData} {vals:List Value}
    (hpre:l.row.toRowW.claim.pre args=true) (hwl:WellAll P h vals args) :
    ∃ a vs ns,vals=[Value.ref a]/\args=[WData.list (ns.map WData.int)]/\h.get? a=some { cls:=.type "list",data:=.seq vs.toArray }/\IntsAre vs ns/\ns.length<=n:=by
  have hsh:WShape.hasAll [] args [.list .int]=true:=(pre_splitW hpre).1
  have hc:l.pre.holds [] { args:=args }=true:=(pre_splitW hpre).2
  obtain ⟨d,r,rfl,h1,h2⟩:=hasAllW_cons hsh
  obtain rfl:=hasAllW_nil h2
  obtain ⟨xs,rfl,h3⟩:=hasW_list h1
  obtain ⟨ns,rfl⟩:=items_int h3
  have hlen:ns.length<=n:=by
    unfold OpenLaw.pre at hc
    have h4:(WTm.not (.lt (.lit (.int (n:Int))) (.len (.arg 0)))).holds [] { args:=[.list (ns.map .int)] }=true:=by
      have h4:=(holds_andW hc).1
      rw [hn] at h4
      exact h4
    have h5:=condW_of h4 (w_not (w_lt w_lit (w_len_list (w_arg rfl))))
    rw [List.length_map] at h5
    refine Nat.le_of_not_lt fun q=>?_
    have q':(n:Int) < ((ns.length:Nat):Int):=by lia
    first
      | (rw [decide_eq_true q'] at h5;exact absurd h5 (by decide))
      | (simp at h5;lia)
  cases hwl with
  | cons w1 w2 =>
    cases w2
    cases w1 with
    | list ho hall=>exact ⟨_,_,ns,rfl,rfl,ho,ints_of_wellAll ns _ hall,hlen⟩
theorem post_true (l:OpenLaw) (args:List WData):l.row.toRowW.claim.post args (.bool true) args=true :=
  postW_of (r:=l.row.toRowW) (X:=(true == true))
    (show WShape.has [] (.bool true) .bool=true by first | rfl | decide | simp [WShape.has,WShape.arms,WShape.armsAll])
    (show (WTm.eq .res (.lit (.bool true))).value [] { args:=args,res:=some (.bool true),after:=args }=some (.bool (true == true)) from w_eq_bool (w_res rfl) w_lit) rfl
theorem attach_call {l:OpenLaw} {n:Nat} {q:Program} {loose:List Str} {XP:(Str->Option Value)->Heap->Prop} {YP:World->Heap->Prop} {d:DefRec}
    (hn:l.most=some n) (hdf:d.params.defaults=[])
    (call:∀ (w:World) (s₀ s₁:Shared) (mg mb:Str->Option Value) (fa:Addr) (o:Obj) (pm cd doc:Value) (a:Addr) (vs:List Value) (ns:List Int),
      Ground q loose [] XP w s₀ mg mb s₁.heap->YP w s₁.heap ->
      s₁.heap.get? fa=some o->o.data=.func (docDef d.name d.params d.body d.scope pm cd doc)->s₁.heap.CodeRec cd d.name->mg d.name=some (.ref fa) ->
      s₁.heap.get? a=some { cls:=.type "list",data:=.seq vs.toArray }->IntsAre vs ns->ns.length<=n->s₁.gens=#[] ->
      codeAny (model l.prog w) callerA (.call (.ref fa) ⟨[.ref a],[]⟩) (fun r s'=>r=.ok (.ret (.bool true))/\OldK s₁.heap s'.heap/\s'.os=s₁.os/\AllBare s'.gens) s₁) :
    WalkO q loose XP YP l.row.toRowW d [] (fun f vs=>PySem.call f vs):=by
  intro w s₀ s₁ mg mb G Y fa o pm cd doc dV kV ho hd hcd hD hmg hg args vals as hpre hlay hrd hwl hlo
  obtain rfl:dV=.none:=Dflts.none hD hdf
  obtain rfl:kV=.none:=Dflts.noKw hD
  obtain ⟨a,vs,ns,rfl,rfl,hobj,hints,hlen⟩:=script_of hn hpre hwl
  refine enter_call (codeAny_mono (call w s₀ s₁ mg mb fa o pm cd doc a vs ns G Y ho (fd_plain hd) hcd hmg hobj hints hlen hg) fun r s' hq=>?_)
  obtain ⟨rfl,h2,h3,h4⟩:=hq
  exact ⟨.inl ⟨.bool true,.bool true,[],rfl,fun _=>rfl,.bool true,post_true l _,fun _=>⟨List.Pairwise.nil,fun _ hm=>(nomatch hm)⟩⟩,h2,h3,h4⟩
end Att
namespace L2
open PySem PySem.Spec PyProof.Rows
theorem vals_ints:∀ {vs:List Value} {ns:List Int},IntsAre vs ns->Vals (ns.map V.int) vs
  | _,_,.nil=>.nil
  | _,_,.cons n t h=>.cons ⟨t,rfl⟩ (vals_ints h)
noncomputable def Only (H:Hp):Prop:=∀ b,H b=none\/∃ o xs,H b=some (.frz o (.lst xs))
theorem law_call {P:Program} {w:World} {K:PySem.W.Frag} {mg mb:Str->Option Value} {CX:CXT} {k:Nat} {fa a:Addr} {fd:FuncData} {x:Str} {sp:Sp} {s₁:Shared} {vs:List Value} {ns:List Int}
    (KX:K.In s₁.heap) (hns:s₁.heap.Ns mainGlobals mg) (hb:s₁.heap.Ns builtinsNs mb) (hbb:∀ x:Str,x≠"__name__"->mb x=bootBuiltins x) (hlim:s₁.heap.NoLimit) (hg:s₁.gens=#[])
    (ha:s₁.heap.get? a=some { cls:=.type "list",data:=.seq vs.toArray }) (hi:IntsAre vs ns) (hl:ns.length<=sizeLine) (hr:Room k callerA)
    (F:∀ base:Heap,K.In base->base.Ns mainGlobals mg->FnOk P w K mg base CX k fa fd [x] sp) (hbind:∀ (s:Shared) (u:Value),BindsTo s fd ⟨[u],[]⟩ [(x,u)])
    (hsp:∀ H:Hp,Only H->SqL K H a (ns.map V.int)->sp [.ref a] H (fun v _=>v=.bl true) fun _ _ _=>False)
    (hCX:∀ H e s',CX [] H s₁ (fun _ _ _=>False) e s'->False) :
    codeAny (model P w) callerA (.call (.ref fa) ⟨[.ref a],[]⟩) (fun r s'=>r=.ok (.ret (.bool true))/\OldK s₁.heap s'.heap/\s'.os=s₁.os/\AllBare s'.gens) s₁:=by
  have rv:=vals_ints hi
  have lenV:=hi.length
  have core : ∀ H:Hp,Only H->SqL K H a (ns.map V.int)->HOk P w H s₁.heap->(∀ b,H b≠none->b=a)->(H a≠none->K.lookup a=none) ->
      codeAny (model P w) callerA (.call (.ref fa) ⟨[.ref a],[]⟩) (fun r s'=>r=.ok (.ret (.bool true))/\OldK s₁.heap s'.heap/\s'.os=s₁.os/\AllBare s'.gens) s₁:=by
    intro H hO hS hok hA hK
    have base_of:∀ {b:Addr} {o:Obj},s₁.heap.get? b=some o->H b=none->(hidT s₁.heap H).get? b=some o:=fun e n=>hidT_get e n
    have noA:∀ {b:Addr} {o:Obj} {es:Array DictEntry} {ep:Nat},s₁.heap.get? b=some o->o.data=.dict es ep->H b=none:=fun {b o es ep} e d=>by
      cases q:H b with
      | none=>rfl
      | some u =>
        have e':b=a:=hA b (by rw [q];simp)
        subst e'
        rw [ha] at e;cases e
        have d':Data.seq vs.toArray _=Data.dict es ep:=d
        cases d'
    have nsK:∀ {b:Addr} {m:Str->Option Value},s₁.heap.Ns b m->(hidT s₁.heap H).Ns b m:=fun {b m} ⟨o,es,ep,e,d,r⟩=>⟨o,es,ep,base_of e (noA e d),d,r⟩
    have hKb:K.In (hidT s₁.heap H):=fun b o e=>base_of (KX b o e) (by
      cases q:H b with
      | none=>rfl
      | some u =>
        have e':b=a:=hA b (by rw [q];simp)
        subst e'
        rw [hK (by rw [q];simp)] at e;cases e)
    have hM:Mod K mg (hidT s₁.heap H):=⟨hKb,nsK hns,⟨mb,nsK hb,hbb⟩,let ⟨mc,h1,h2⟩:=hlim;⟨mc,nsK h1,h2⟩⟩
    have e0:Env0 P w K mg (hidT s₁.heap H) callerA [] s₁ H:=⟨rfl,hM,fun b o e=>of_hidT e,Nat.le_of_eq (hidT_size _ _),trivial,fun b hb=>absurd (show b∈([]:List Addr) from hb) (by simp),hok,.of_eq hg⟩
    refine codeAny_mono ((F _ hKb (nsK hns)).run callerA [] s₁ H ⟨[.ref a],[]⟩ [.ref a] [.ref a] _ _ hr e0 (hbind s₁ (.ref a)) (.cons rfl .nil) (hsp H hO hS)) fun r s' h=>?_
    cases r with
    | error e=>exact (hCX H e s' h).elim
    | ok fl =>
      cases fl with
      | next=>exact False.elim h
      | brk=>exact False.elim h
      | cont=>exact False.elim h
      | ret u =>
        obtain ⟨v,H',os,bare,un,hok',r',q⟩:=h
        have q':v=.bl true:=q
        subst q'
        obtain rfl:u=Value.bool true:=r'
        refine ⟨rfl,OldK.of_keep fun b o e=>?_,os,bare⟩
        cases q:H b with
        | none=>exact un.keep b o e q (by intro z;exact absurd (show b∈([]:List Addr) from z) (by simp)) (by simp)
        | some u =>
          rcases hO b with z | ⟨ob,xs,z⟩
          . rw [q] at z;cases z
          . have z2:=un.frzs b ob _ z
            obtain ⟨e1,_⟩:=hok b _ z
            obtain ⟨e2,_⟩:=hok' b _ z2
            rw [e] at e1;cases e1
            exact e2
  cases hk:K.lookup a with
  | some o =>
    have e:=KX a o hk
    rw [ha] at e
    cases e
    refine core (fun _=>none) (fun _=>.inl rfl) (.inr ⟨_,vs.toArray,_,hk,rfl,rfl,rfl,by rw [List.size_toArray,lenV];exact hl,by simpa using rv⟩) (fun b u z=>by have z':(none:Option HO)=some u:=z;cases z') (fun b z=>absurd rfl z) fun z=>absurd rfl z
  | none =>
    refine core (fun b=>if b=a then some (.frz { cls:=.type "list",data:=.seq vs.toArray } (.lst (ns.map V.int))) else none) (fun b=>?_) (.inl (.inr ⟨{ cls:=.type "list",data:=.seq vs.toArray },if_pos rfl⟩)) (fun b u z=>?_) (fun b z=>?_) fun _=>hk
    . by_cases hb:b=a
      . exact .inr ⟨_,_,if_pos hb⟩
      . exact .inl (if_neg hb)
    . by_cases hb:b=a
      . have z':=(if_pos hb).symm.trans z
        cases z'
        subst hb
        exact ⟨ha,by rw [List.length_map];exact hl,vs,_,rv,ha⟩
      . have z':=(if_neg hb).symm.trans z
        cases z'
    . by_cases hb:b=a
      . exact hb
      . exact absurd (if_neg hb) z
end L2
namespace L2
open PySem PySem.Spec PyProof.Rows
theorem walk_of {l:PySem.W.OpenLaw} {n k:Nat} {q:Program} {loose:List Str} {XP:(Str->Option Value)->Heap->Prop} {YP:World->Heap->Prop} {d:DefRec} {K:Params->PySem.W.Frag} {CX:World->CXT} {sp:World->Sp} {x:Str}
    (hn:l.most=some n) (hn2:n<=sizeLine) (hdf:d.params.defaults=[]) (hr:Room k callerA)
    (hY:∀ (w:World) (h:Heap),YP w h->(K w.params).In h)
    (F : ∀ (w:World) (mg:Str->Option Value) (fa:Addr) (h:Heap),(K w.params).In h->h.Ns mainGlobals mg->mg d.name=some (.ref fa) ->
      ∃ fd:FuncData,(∀ (s:Shared) (u:Value),BindsTo s fd ⟨[u],[]⟩ [(x,u)]) /\
        ∀ base:Heap,(K w.params).In base->base.Ns mainGlobals mg->FnOk l.prog w (K w.params) mg base (CX w) k fa fd [x] (sp w))
    (hsp:∀ (w:World) (H:Hp) (a:Addr) (ns:List Int),ns.length<=n->Only H->SqL (K w.params) H a (ns.map V.int)->sp w [.ref a] H (fun v _=>v=.bl true) fun _ _ _=>False)
    (hCX:∀ (w:World) (H:Hp) (s:Shared) (e:Value) (s':Shared),CX w [] H s (fun _ _ _=>False) e s'->False) :
    PySem.W.WalkO q loose XP YP l.row.toRowW d [] (fun f vs=>PySem.call f vs):=by
  refine Att.attach_call hn hdf fun w s₀ s₁ mg mb fa o pm cd doc a vs ns G Y ho hd hcd hmg hobj hints hlen hg=>?_
  have KX:=hY w _ Y
  obtain ⟨fd,hb,hF⟩:=F w mg fa _ KX G.T.g hmg
  exact law_call KX G.T.g G.T.b G.T.builtins G.T.nolimit hg hobj hints (Nat.le_trans hlen hn2) hr hF hb (fun H hO hS=>hsp w H a ns hlen hO hS) fun H e s'=>hCX w H s₁ e s'
end L2
namespace L2
open PySem PySem.Spec PyProof.Rows
noncomputable def inClass (s:Stmt) (j:Nat):Stmt:=match s with
  | .ClassDef _ _ _ body _ _ _ _ _ _ _=>body.getD j (.Pass ⟨0,0,0,0⟩)
  | _=>.Pass ⟨0,0,0,0⟩
noncomputable def defArgs (s:Stmt):Arguments:=match s with
  | .FunctionDef _ a _ _ _ _ _ _ _ _=>a
  | _=>{ posonlyargs:=[],args:=[],vararg:=none,kwonlyargs:=[],kw_defaults:=[],kwarg:=none,defaults:=[] }
noncomputable def defBody (s:Stmt):List Stmt:=match s with
  | .FunctionDef _ _ b _ _ _ _ _ _ _=>b
  | _=>[]
noncomputable def defScope (s:Stmt):Scope:=match s with
  | .FunctionDef _ _ _ _ _ _ sc _ _ _=>sc
  | _=>{ kind:=.function,names:=[],isGenerator:=false,isCoroutine:=false }
noncomputable abbrev CX0:CXT:=fun _ _ _ _ _ _=>False
noncomputable abbrev E0:XK:=fun _ _ _=>False
theorem pass0 {X:Cx}:Passes CX0 X E0:=fun _ _ _ _ _ _ _ h=>h.elim
structure Fun (K:PySem.W.Frag) (x qual:Str) (st:Stmt) (f:Addr) (fd:FuncData):Prop where
  ex : ∃ (oc:Value) (od:Option Addr) (kV doc pm:Value) (an:Option Addr) (cdv ct:Value) (osl:Array (Option Value)),
    fd=PySem.W.fnOf x qual (defArgs st) (defBody st) (defScope st) .none kV doc pm an cdv ct/\K.lookup f=some ⟨oc,od,.func fd,osl⟩/\PySem.W.codeIn K cdv qual=true
  kp:PySem.W.keepIn K (.ref f)=true
section
variable {P:Program} {w:World} {K:PySem.W.Frag} {mg:Str->Option Value} {base:Heap}
theorem Fun.ok {x qual:Str} {st:Stmt} {f:Addr} {fd:FuncData} {N ps:List Str} {k:Nat} {sp:Sp} (F:Fun K x qual st f fd) (S:FnScope N ps (defScope st)) (len:∀ vs H Q E,sp vs H Q E->vs.length=ps.length)
    (hbody:∀ (cdv:Value) (A:Around) (outer:List Env) (s:Shared) (H:Hp) (vs:List V) (Q:VK) (E:XK),Room k (A.deeper (envOfC qual (defScope st) s.heap.objs.size f cdv))->sp vs H Q E ->
      ∃ t,PSs (cxOf CX0 P w K mg base N qual (defScope st) f cdv A outer s H E).nox (defBody st) t/\t { nx:=fun _ H'=>Q .non H',rt:=Q } (start N vs) H):FnOk P w K mg base CX0 (k + 1) f fd ps sp:=by
  obtain ⟨oc,od,kV,doc,pm,an,cdv,ct,osl,rfl,lk,hcd⟩:=F.ex
  refine fn_of lk hcd S len fun A outer s H vs Q E hr hsp=>?_
  obtain ⟨t,h,q⟩:=hbody cdv A outer s H vs Q E hr hsp
  exact ⟨t,h.nox,q⟩
theorem Fun.binds {x qual:Str} {st:Stmt} {f:Addr} {fd:FuncData} {ps:List Str} (F:Fun K x qual st f fd)
    (h:∀ (kV doc pm:Value) (an:Option Addr) (cdv ct:Value) (us:List Value),us.length=ps.length->bindArgs (PySem.W.fnOf x qual (defArgs st) (defBody st) (defScope st) .none kV doc pm an cdv ct) ⟨us,[]⟩=pure (ps.zip us)):Binds K fd ps []:=by
  obtain ⟨oc,od,kV,doc,pm,an,cdv,ct,osl,rfl,lk,hcd⟩:=F.ex
  exact .all (h kV doc pm an cdv ct)
theorem fun_mk {x qual:Str} {st:Stmt} {f:Addr} {oc:Value} {od an:Option Addr} {osl:Array (Option Value)} {kV doc pm cdv ct:Value} (l:K.lookup f=some ⟨oc,od,.func (PySem.W.fnOf x qual (defArgs st) (defBody st) (defScope st) .none kV doc pm an cdv ct),osl⟩)
    (c:PySem.W.codeIn K cdv qual=true) (k:PySem.W.keepIn K (.ref f)=true):Fun K x qual st f (PySem.W.fnOf x qual (defArgs st) (defBody st) (defScope st) .none kV doc pm an cdv ct):=⟨⟨oc,od,kV,doc,pm,an,cdv,ct,osl,rfl,l,c⟩,k⟩
end
theorem small1000 {n:Nat} (h:n<=1000):n < sizeLine:=Nat.lt_of_le_of_lt h (by decide)
section
variable {X:Cx}
theorem pv (i:Nat) {x:Str} {pos:Pos} (hN:X.N[i]? = some x:=by rfl) (hv:Vis X.env.scope x:=by first | exact Or.inl rfl | exact Or.inr (Or.inl rfl) | exact Or.inr (Or.inr rfl)) (hd:(x == ("__debug__":Str))=false:=by decide)
    (hcd:(x == ("__classdict__":Str))=false:=by decide):PE X (.Name x pos) (tVar i):=pe_var hN hv hd hcd
end
noncomputable def Same (H H':Hp):Prop:=∀ b o,H b=some o->H' b=some o
theorem Same.refl (H:Hp):Same H H:=fun _ _ h=>h
end L2
namespace L2
open PySem PySem.W
noncomputable def topRunT (tb:String->Option Builtin) (p:Program) (w:World) (n₀:Nat) (ann:Option Value):Nat->SharedT->Thread->Option SharedT
  | 0,_,_=>none
  | n + 1, s,t=>match through t with
    | true=>some s
    | false=>match stepOk n₀ ann t with
      | false=>none
      | true=>match stepT (denote tb) p w s t with
        | some (s',t')=>topRunT tb p w n₀ ann n s' t'
        | none=>none
theorem topRun_of {tb:String->Option Builtin} {p:Program} {w:World} {n₀:Nat} {ann:Option Value}:∀ {n:Nat} {s s':SharedT} {t:Thread},topRunT tb p w n₀ ann n s t=some s'->topRun tb p w n₀ ann n s.abs t=some s'.abs
  | 0,_,_,_,h=>by cases h
  | n + 1, s,s',t,h=>by
    unfold topRunT at h
    unfold topRun
    cases ht:through t with
    | true=>rw [ht] at h;cases h;rfl
    | false =>
      rw [ht] at h
      cases hk:stepOk n₀ ann t with
      | false=>rw [hk] at h;cases h
      | true =>
        rw [hk] at h
        cases hs:stepT (denote tb) p w s t with
        | none=>rw [hs] at h;cases h
        | some r=>obtain ⟨s₂,t₂⟩:=r;rw [hs] at h;rw [stepT_spec hs];exact topRun_of h
noncomputable def pushT (x:Option (BT × Nat)) (o:Obj):Option (BT × Nat):=match x with
  | none=>none
  | some (t,n)=>match ((t.ins n o).get n).isSome with
    | true=>some (t.ins n o,n + 1)
    | false=>none
noncomputable def buildT (l:List Obj):Option (BT × Nat):=l.foldl pushT (some (.nil,0))
theorem push_none:∀ l:List Obj,l.foldl pushT none=none
  | []=>rfl
  | o::l=>push_none l
theorem build_go:∀ (l pre:List Obj) (t:BT) (n:Nat) (T:BT) (m:Nat) (life:Life),n=pre.length->absHeap t n life=⟨pre.toArray,life⟩->l.foldl pushT (some (t,n))=some (T,m)->m=(pre++l).length/\absHeap T m life=⟨(pre++l).toArray,life⟩
  | [],pre,t,n,T,m,life,hn,h,e=>by
    cases e
    rw [List.append_nil]
    exact ⟨hn,h⟩
  | o :: l,pre,t,n,T,m,life,hn,h,e=>by
    rw [List.foldl_cons] at e
    cases hs:((t.ins n o).get n).isSome with
    | false =>
      have:pushT (some (t,n)) o=none:=by unfold pushT;simp only [hs]
      rw [this,push_none] at e;cases e
    | true =>
      have hp:pushT (some (t,n)) o=some (t.ins n o,n + 1):=by unfold pushT;simp only [hs]
      rw [hp] at e
      have:=build_go l (pre++[o]) (t.ins n o) (n + 1) T m life (by rw [List.length_append,hn];rfl) (by
        rw [absHeap_ins hs,h]
        show Heap.mk _ _=Heap.mk _ _
        simp) e
      rw [List.append_assoc] at this
      exact this
theorem build_abs {l:List Obj} {T:BT} {m:Nat} {life:Life} (h:buildT l=some (T,m)):m=l.length/\absHeap T m life=⟨l.toArray,life⟩:=by
  have:=build_go l [] .nil 0 T m life rfl rfl h
  simpa using this
noncomputable def forceL {β:Type}:List Obj->(List Obj->β)->β
  | [],k=>k []
  | ⟨a,b,c,d⟩::l,k=>forceL l fun l'=>k (⟨a,b,c,d⟩::l')
theorem forceL_eq {β:Type}:∀ (l:List Obj) (k:List Obj->β),forceL l k=k l
  | [],k=>rfl
  | ⟨a,b,c,d⟩::l,k=>by rw [forceL,forceL_eq l]
noncomputable def headT {β:Type} (p:Program) (w:World) (os:OsState) (m:Nat) (ann:Option Value) (M:Nat) (k:Shared->β):Option β :=
  match buildT (boot_heap w.params).objs.toList with
  | none=>none
  | some (T,n)=>match topRunT treeTable p w m ann M ⟨T,n,(boot_heap w.params).life,#[],boot_drawn,boot_toks,os⟩ (topStub p) with
    | none=>none
    | some s=>some (forceL (s.tree.list s.n) fun l=>k ⟨⟨l.toArray,s.life⟩,s.gens,s.drawn,s.toks,s.os⟩)
theorem headT_run {β:Type} {p:Program} {w:World} {os:OsState} {m:Nat} {ann:Option Value} {M:Nat} {k:Shared->β} {r:β} (h:headT p w os m ann M k=some r):∃ s,topRun treeTable p w m ann M ⟨boot_heap w.params,#[],boot_drawn,boot_toks,os⟩ (topStub p)=some s/\k s=r:=by
  unfold headT at h
  cases hb:buildT (boot_heap w.params).objs.toList with
  | none=>rw [hb] at h;cases h
  | some x =>
    obtain ⟨T,n⟩:=x
    rw [hb] at h
    obtain ⟨hn,ha⟩:=build_abs (life:=(boot_heap w.params).life) hb
    have ha:absHeap T n (boot_heap w.params).life=boot_heap w.params:=by rw [ha]
    simp only at h
    cases ht:topRunT treeTable p w m ann M ⟨T,n,(boot_heap w.params).life,#[],boot_drawn,boot_toks,os⟩ (topStub p) with
    | none=>rw [ht] at h;cases h
    | some s =>
      rw [ht] at h
      simp only [forceL_eq,Option.some.injEq] at h
      have:=topRun_of ht
      rw [show (SharedT.mk T n (boot_heap w.params).life #[] boot_drawn boot_toks os).abs=⟨boot_heap w.params,#[],boot_drawn,boot_toks,os⟩ from by unfold SharedT.abs;simp only;rw [ha]] at this
      exact ⟨s.abs,this,h⟩
theorem left_whole {p q:Program} {loose:List Str} {Xt:Shared->Bool} {α:Type} {Yf:Shared->α} {Ya:World->α} {N:Nat} {g0:Bool} {m:Nat} {ann:Option Value}
    (e:opening p=plainProg p.main.scope.names) (hN:Nat.ble 600 N=true) (f:∀ s,fenceModules? p s=some s)
    (size:∀ w:World,((boot_heap w.params).isNs mainGlobals,(boot_heap w.params).objs.size,(boot_heap w.params).nsMap mainGlobals "__annotations__")=(true,m,ann))
    (run:∀ (w:World) (os:OsState),headT p w os m ann N (fun s=>(staticsOk (importedModules p.main.body) (boot_heap w.params) s.heap && namesBound p s.heap && gensDone s && laidKept (boot_heap w.params) s.heap,openSeen q loose (importedModules p.main.body) Xt g0 s,Yf s))=some (true,openGood q loose,Ya w)) :
    LeftO p q loose Xt Yf Ya N g0:=fun w=>by
  obtain ⟨⟨h,gs,d,k,os⟩,eo,e'⟩:=Option.map_eq_some_iff.mp (boot_open e hN f w)
  obtain ⟨rfl,rfl,rfl,rfl⟩:h=boot_heap w.params/\gs=#[]/\d=boot_drawn/\k=boot_toks:=by simpa using e'
  obtain ⟨z1,z2,z3⟩:_/\_/\_:=by simpa only [Prod.mk.injEq] using size w
  obtain ⟨s,r,l⟩:=headT_run (run w os)
  obtain ⟨l1,l2,l3⟩:_/\_/\_:=by simpa only [Prod.mk.injEq] using l
  have t:topFrom treeTable p w N ⟨boot_heap w.params,#[],boot_drawn,boot_toks,os⟩=some s:=by
    unfold topFrom
    dsimp only
    rw [z1,z2,z3,r]
    show (match staticsOk (importedModules p.main.body) (boot_heap w.params) s.heap && namesBound p s.heap && gensDone s && laidKept (boot_heap w.params) s.heap with | true=>_ | false=>_)=_
    rw [l1]
  unfold openEnds
  rw [eo]
  show (topFrom treeTable p w N _).map _=_
  rw [t]
  exact congrArg some (Prod.ext l2 l3)
noncomputable def hEnt (P:Params) (x:Str) (t:Nat) (v:Value):DictEntry:=⟨PyData.keyHash P x,.str x t,v⟩
noncomputable def hNs (n:Nat) (es:List DictEntry):Obj:=⟨.type "dict",none,.dict es.toArray n,#[]⟩
noncomputable def hRf:Option Nat->Value
  | some a=>.ref a
  | none=>.none
noncomputable def hCode (x q:Str) (t ln ac fl a b:Nat) (d e:Option Nat) (f m n:Nat):Obj :=
  ⟨.type "code",none,.fields #[.str x t,.str q (t + 1),.str "/claim/cut.py" (t + 2),.int ln 0,.int ac 0,.int 0 0,.int 0 0,.int fl 0,.ref a,.bool true,.int 181 0,.ref b,.none,hRf d,hRf e,.ref f,.int m 0,.int ln 0,.str "/claim/cut.py" n],#[]⟩
noncomputable def hFun (st:Stmt) (x q:Str) (pm:Value) (c:Nat):Obj:=⟨.type "function",none,.func (fnOf x q (defArgs st) (defBody st) (defScope st) .none .none .none pm none (.ref c) .none),#[]⟩
noncomputable def hBoot (w:World):Bool × Nat × Option Value:=((boot_heap w.params).isNs mainGlobals,(boot_heap w.params).objs.size,(boot_heap w.params).nsMap mainGlobals "__annotations__")
end L2
set_option maxHeartbeats 4000000
namespace L2
open PySem PySem.Spec PyProof.Rows
end L2
namespace L2
open PySem PySem.Spec PyProof.Rows
theorem compLoop_any {prog:Program} {w:World} {A:Around} {R:Result->Shared->Prop} {s:Shared} {elt target iter:Expr} {ifs:List Expr} {scope:Scope} {pos:Pos} {it acc:Value} {env:Env} (I:Nat->Shared->Prop)
    (turn : ∀ n s,I n s->wpAny (model prog w) A (pyNext it) (fun r s₁=>match r with
      | none=>R (.ok .next) s₁
      | some v => wpAny (model prog w) A (letOwnedTupleGo target it v) (fun _ s₁'=>wpAny (model prog w) A (assign target env v) (fun _ s₂ =>
          wpAny (model prog w) A (forIn ifs true fun c r=>if r=true then do let ok <- isTrue c env (eval c env);pure (ForInStep.yield ok) else pure (ForInStep.yield r)) (fun ok s₃ =>
            if ok=true then wpAny (model prog w) A (eval elt env) (fun x s₄ =>
              wpAny (model prog w) A (call (.builtin "list.append") [acc,x]) (fun _ s₅=>∃ m,m < n/\I m s₅) (fun _ _=>False) s₄) (fun _ _=>False) s₃
            else ∃ m,m < n/\I m s₃) (fun _ _=>False) s₂) (fun _ _=>False) s₁') (fun _ _=>False) s₁) (fun _ _=>False) s)
    (n:Nat) (h:I n s) :
    codeAny (model prog w) A (.compLoop (.ListComp elt [⟨target,iter,ifs,0⟩] scope pos) 0 it acc env) R s:=by
  refine codeAny_loop rfl I (fun n s hI=>?_) n h
  show wpAny _ A ((compTurn (.ListComp elt [⟨target,iter,ifs,0⟩] scope pos) 0 it acc env).onRaise (fun x=>do noteFrame x env;theTreesLotGoes x)) _ _ s
  refine wpAny_noted ?_
  rw [compTurn_list]
  refine wpAny_bind (wpAny_standAt (wpAny_bind (wpAny_mono (turn n s hI) (fun r s₁ h₁=>?_) fun _ _ h'=>h'.elim)))
  cases r with
  | none=>exact wpAny_pure h₁
  | some v =>
    refine wpAny_bind (wpAny_mono h₁ (fun _ s₁' h₁'=>?_) fun _ _ h'=>h'.elim)
    refine wpAny_bind (wpAny_mono h₁' (fun _ s₂ h₂=>wpAny_bind (wpAny_mono h₂ (fun ok s₃ h₃=>?_) fun _ _ h'=>h'.elim)) fun _ _ h'=>h'.elim)
    cases ok with
    | false=>exact wpAny_pure ⟨rfl,h₃⟩
    | true =>
      exact wpAny_bind (wpAny_bind (wpAny_mono h₃ (fun x s₄ h₄=>wpAny_bind (wpAny_mono h₄ (fun _ s₅ h₅=>wpAny_pure (wpAny_pure ⟨rfl,h₅⟩)) fun _ _ h'=>h'.elim)) fun _ _ h'=>h'.elim))
noncomputable def Cx.comp (X:Cx) (scope:Scope) (cl:List (Str × Addr)) (N:List Str) (pins:List (Addr × Obj)) (s:Shared) (H:Hp) (fp:List Addr):Cx where
  prog:=X.prog
  w := X.w
  K := X.K
  mg:=X.mg
  base:=X.base
  A := X.A
  N := N
  s₀:=s
  H₀:=H
  env:=compEnvC scope cl s.heap.objs.size X.env
  outer:=X.stack
  stack:=X.stack
  ex:=fp
  fn:=fun _=>false
  calm:=X.calm
  pn:=X.pn++pins
  xe:=fun _ _=>False
noncomputable def compStart (nt:Nat) (frs:List (Str × Nat)) (σ:St):St:=List.replicate nt none++frs.map fun p=>(σ[p.2]?).join
structure CompScope (X:Cx) (scope:Scope) (cl:List (Str × Addr)) (ts:List Str) (frs:List (Str × Nat)):Prop where
  clos:closureFor scope X.env=pure cl
  kind:scope.kind=.function
  nocell:∀ y∈scope.names,y.2≠.cell
  names:∀ y∈scope.names,y.2=.local->scope.names.lookup y.1=some .local
  sub:∀ p∈cl,X.env.cells.lookup p.1=some p.2
  has:∀ p∈(relabel scope X.env).names,p.2=.cell\/p.2=.free->(cl.lookup p.1).isSome=true
  out:∀ p∈frs,X.N[p.2]? = some p.1/\(X.env.kindOf p.1=some .cell\/X.env.kindOf p.1=some .free)/\((relabel scope X.env).names.lookup p.1=some .cell\/(relabel scope X.env).names.lookup p.1=some .free)/\(cl.lookup p.1).isSome=true
section
variable {X:Cx} {scope:Scope} {cl:List (Str × Addr)} {ts:List Str} {frs':List (Str × Nat)} {pins:List (Addr × Obj)} {σ:St} {H:Hp} {s:Shared} {fp:List Addr}
theorem CompScope.subL (S:CompScope X scope cl ts frs') {x:Str} {c:Addr} (h:cl.lookup x=some c):X.env.cells.lookup x=some c:=S.sub (x,c) (PySem.mem_of_lookup h)
theorem CompScope.inv (S:CompScope X scope cl ts frs') (I:Inv X pins σ H s) (hf:∀ b∈fp,FpOk X pins H b) (hlt:∀ b∈fp,b < s.heap.objs.size) {h₁:Heap} {tk:Nat} {m:Str->Option Value} (hns:h₁.Ns s.heap.objs.size m)
    (hk:∀ b o,s.heap.get? b=some o->h₁.get? b=some o):Inv (X.comp scope cl (ts++frs'.map (·.1)) pins s H fp) [] (compStart ts.length frs' σ) H { s with heap:=h₁,toks:=tk }:=by
  have hC:∀ b o,s.heap.get? b=some o->b≠s.heap.objs.size:=fun b o e=>Nat.ne_of_lt (Heap.lt_size e)
  have hcell:∀ x c,cl.lookup x=some c->∃ v,h₁.IsCell c v:=fun x c e=>by
    obtain ⟨v,o,ho,hd⟩:=I.cell x c (S.subL e)
    exact ⟨v,o,hk c o ho,hd⟩
  refine ⟨⟨I.ok.mod,?_,I.ok.glob,I.ok.blt,Nat.le_refl _,fun x y c h1 h2=>I.ok.inj x y c (S.subL h1) (S.subL h2),fun x hx=>?_,fun x c z=>(by cases z),I.ok.hd,I.ok.frames,.inl rfl,fun b hb=>⟨Nat.ne_of_lt (hlt b hb),fun x c e=>?_⟩,I.bs,Nat.le_trans I.ok.bsz I.sz,fun b o e hb=>?_,fun b hb z=>?_,I.stack,I.stkFree⟩,
    rfl,I.bare,Un.kept hk,⟨m,hns,fun i x v h1 h2 h3=>?_⟩,hcell,I.hok.fresh (Nat.le_refl _),fun x c e=>I.freeC x c (S.subL e),fun p hp=>?_,I.hok.kept hk,?_⟩
  . exact S.kind
  . have hx':(relabel scope X.env).names.lookup x=some .cell\/(relabel scope X.env).names.lookup x=some .free:=hx
    have:(cl.lookup x).isSome=true:=by
      rcases hx' with e | e
      . exact S.has (x,.cell) (PySem.mem_of_lookup e) (.inl rfl)
      . exact S.has (x,.free) (PySem.mem_of_lookup e) (.inr rfl)
    exact Option.isSome_iff_exists.mp this
  . exact (hf b hb).2.2.2.2.1 x c (S.subL e)
  . obtain ⟨_,_,_,h4,_⟩:=hf b hb
    rcases h4 with h4 | h4
    . exact I.ok.noex b o e h4
    . exact absurd (Nat.lt_of_lt_of_le (Heap.lt_size e) (Nat.le_trans I.ok.bsz h4)) (Nat.lt_irrefl _)
  . obtain ⟨_,h2,h3,_⟩:=hf b hb
    rcases List.mem_cons.mp (I.stkSub b z) with e | e
    . exact h2 e
    . exact h3 e
  . have hi : ts.length<=i:=by
      by_cases hi:ts.length<=i
      . exact hi
      . have:(compStart ts.length frs' σ)[i]? = some none:=by
          unfold compStart
          rw [List.getElem?_append_left (by simp;lia),List.getElem?_replicate,if_pos (by lia)]
        rw [this] at h2;cases h2
    obtain ⟨p,hp,e1,e2⟩:∃ p∈frs',p.1=x/\(σ[p.2]?).join=some v:=by
      have h1':(ts++frs'.map (·.1))[i]? = some x:=h1
      have h2':(compStart ts.length frs' σ)[i]? = some (some v):=h2
      unfold compStart at h2'
      rw [List.getElem?_append_right hi,List.getElem?_map] at h1'
      rw [List.getElem?_append_right (by simpa using hi),List.getElem?_map,List.length_replicate] at h2'
      cases e:frs'[i - ts.length]? with
      | none=>rw [e] at h1';cases h1'
      | some p =>
        rw [e] at h1' h2'
        exact ⟨p,List.mem_of_getElem? e,Option.some.inj h1',Option.some.inj h2'⟩
    obtain ⟨o1,o2,o3,o4⟩:=S.out p hp
    rw [e1] at o1 o2 o3 o4
    have e3:σ[p.2]? = some (some v):=by
      cases e:σ[p.2]? with
      | none=>rw [e] at e2;cases e2
      | some q=>rw [e] at e2;exact congrArg some e2
    obtain ⟨m',_,hl⟩:=I.loc
    have hv:Vis X.env.scope x:=by
      rcases o2 with o2 | o2
      . exact .inr (.inl o2)
      . exact .inr (.inr o2)
    obtain ⟨u,r,l⟩:=hl p.2 x v o1 e3 hv
    refine ⟨u,r,.inr ⟨o3,?_⟩⟩
    obtain ⟨c,hc⟩:=Option.isSome_iff_exists.mp o4
    rcases l with ⟨k,_⟩ | ⟨_,c',e,ob,ho,hd⟩
    . rcases o2 with o2 | o2 <;> (rw [o2] at k;cases k)
    . have:c'=c:=by have:=S.subL hc;rw [this] at e;exact (Option.some.inj e).symm
      subst this
      exact ⟨c',hc,ob,hk c' ob ho,hd⟩
  . have hp':p∈X.pn++pins:=by
      have:p∈(X.pn++pins)++[]:=hp
      rwa [List.append_nil] at this
    obtain ⟨e,n,ne,nf,d⟩:=I.pin p hp'
    refine ⟨hk _ _ e,n,hC _ _ e,fun z=>?_,d⟩
    rcases List.mem_cons.mp (I.stkSub _ z) with e' | e'
    . exact ne e'
    . exact nf e'
  . show (compStart ts.length frs' σ).length=(ts++frs'.map (·.1)).length
    unfold compStart
    simp
theorem CompScope.after (I:Inv X pins σ H s) (hf:∀ b∈fp,FpOk X pins H b) {N:List Str} {σ':St} {H':Hp} {s':Shared} (J:Inv (X.comp scope cl N pins s H fp) [] σ' H' s') {h':Heap} (hs:Heap.SameBut s.heap.objs.size s'.heap h') :
    Inv X pins σ H' { s' with heap:=h' }:=by
  have hC:∀ b o,s.heap.get? b=some o->b≠s.heap.objs.size:=fun b o e=>Nat.ne_of_lt (Heap.lt_size e)
  have fr:H' s.heap.objs.size=none:=J.free
  refine I.call' (s':={ s' with heap:=h' }) (ch:=fp) J.os ?_ ?_ J.bare fun b hb=>?_
  . have u:=J.base
    exact ⟨fun b o e n h1 h2=>(hs.2 b (hC b o e)).trans (u.keep b o e n h1 h2),fun b o e n h1 h2=>by
        obtain ⟨sl,q⟩:=u.slot b o e n h1 h2
        exact ⟨sl,(hs.2 b (hC b o e)).trans q⟩,u.free,fun b o e h2=>by
        obtain ⟨o',q⟩:=u.there b o e h2
        exact ⟨o',(hs.2 b (hC b o e)).trans q⟩,u.tups,u.frzs,u.tbls⟩
  . intro b ob e
    refine (J.hok b ob e).stay (fun c w' hc q=>(hs.2 c ?_).trans q) (fun _ q=>q) fun _ _ q=>q
    rintro rfl
    rcases hc with hc | hc
    . rw [<- hc,fr] at e;cases e
    . rw [fr] at hc;cases hc
  . obtain ⟨h1,h2,h3,h4,h5,h6⟩:=hf b hb
    exact ⟨h4,h2,h5,h6⟩
end
noncomputable def PIfs (X:Cx) (ifs:List Expr) (t:TT):Prop :=
  ∀ (pins:List (Addr × Obj)) (s:Shared) (σ:St) (H:Hp) (Q:Bool->Hp->Prop),Inv X pins σ H s->t σ H Q ->
    wpAny (model X.prog X.w) X.A (forIn ifs true fun c r=>if r=true then do let ok <- isTrue c X.env (eval c X.env);pure (ForInStep.yield ok) else pure (ForInStep.yield r)) (TP X pins σ Q) X.xe s
noncomputable def tTrue:TT:=fun _ H Q=>Q true H
theorem pifs_nil {X:Cx}:PIfs X [] tTrue:=fun _ _ _ H _ I h=>wpAny_tests_nil ⟨H,I,h⟩
noncomputable def tComp (nt:Nat) (frs:List (Str × Nat)) (wi:TI) (g:TG) (tt:TT) (te:TE):TE:=fun σ H Q=>wi σ H fun J H1=>∀ l,H1 l=none->∃ W:Nat->Nat->St->Hp->Prop,(∃ m,W 0 m (compStart nt frs σ) (upd H1 l (.lst []))) /\
  ∀ i m τ H,W i m τ H->(J.stop i H/\Q (.ref l) H)\/(J.go i H/\∀ x H',J.yld i H x H'->g x τ H' fun τ2 H2=>tt τ2 H2 fun ok H3 =>
    if ok=true then te τ2 H3 fun y H4=>∃ ys,H4 l=some (.lst ys)/\ys.length < sizeLine/\∃ m',m' < m/\W (i + 1) m' τ2 (upd H4 l (.lst (ys++[y]))) else ∃ m',m' < m/\W (i + 1) m' τ2 H3)
end L2
namespace L2
open PySem PySem.Spec PyProof.Rows PySem.Builtin.Str
noncomputable def cutS (z:Str) (lo hi:Option Int):Str:=⟨((z.cps.toList.drop (HT.sIx z.cps.toList.length 0 lo)).take (HT.sIx z.cps.toList.length z.cps.toList.length hi - HT.sIx z.cps.toList.length 0 lo)).toArray⟩
theorem clipS_eq (v:Int) (n d:Nat):max 0 (min (if v < 0 then v + (n:Int) else v) (n:Int))=((HT.sIx n d (some v):Nat):Int):=by
  rw [<- HT.clip_eq v n d]
  split <;> lia
theorem indices_eq (lo hi:Option Int) (n:Nat):strSliceIndices lo hi 1 n=(List.range (HT.sIx n n hi - HT.sIx n 0 lo)).map fun k=>HT.sIx n 0 lo + k:=by
  have h1:∀ (a b:Nat),sliceRange (a:Int) (b:Int) 1=(List.range (b - a)).map fun k=>a + k:=by
    intro a b
    unfold sliceRange
    simp only [show (1:Int) > 0 by decide,if_true]
    have e:(if (a:Int) < (b:Int) then ((b:Int) - (a:Int) + 1 - 1) / 1 else 0).toNat=b - a:=by
      rw [Int.ediv_one]
      split <;> lia
    rw [e]
    refine List.map_congr_left fun k _=>?_
    lia
  unfold strSliceIndices
  simp only [show (1:Int) > 0 by decide,if_true]
  cases lo with
  | none =>
    cases hi with
    | none=>exact h1 0 n
    | some v =>
      dsimp only
      rw [clipS_eq v n n]
      exact h1 0 _
  | some u =>
    cases hi with
    | none =>
      dsimp only
      rw [clipS_eq u n 0]
      exact h1 _ n
    | some v =>
      dsimp only
      rw [clipS_eq u n 0,clipS_eq v n n]
      exact h1 _ _
theorem pick_range (l:List Nat) (a k:Nat) (h:a + k<=l.length):((List.range k).map fun i=>a + i).filterMap (fun i=>l[i]?)=(l.drop a).take k:=by
  induction k generalizing a with
  | zero=>simp
  | succ k ih =>
    rw [List.range_succ_eq_map,List.map_cons,List.filterMap_cons]
    have ha:a < l.length:=by lia
    simp only [Nat.add_zero]
    rw [List.getElem?_eq_getElem ha]
    dsimp only
    rw [List.drop_eq_getElem_cons ha,List.take_succ_cons]
    congr 1
    rw [List.map_map,<- ih (a + 1) (by lia)]
    congr 1
    refine List.map_congr_left fun i _=>?_
    show a + (i + 1)=a + 1 + i
    lia
theorem slice_eq (x:Str) (lo hi:Option Int):Txt.slice x lo hi=cutS x lo hi:=by
  unfold Txt.slice cutS
  have hn:x.length=x.cps.toList.length:=by show x.cps.size=_;simp
  have ha:=HT.sIx_le x.cps.toList.length 0 (Nat.zero_le _) lo
  have hb:=HT.sIx_le x.cps.toList.length x.cps.toList.length (Nat.le_refl _) hi
  rw [hn,indices_eq]
  generalize HT.sIx x.cps.toList.length 0 lo=a at ha ⊢
  generalize HT.sIx x.cps.toList.length x.cps.toList.length hi=b at hb ⊢
  have hp:=pick_range x.cps.toList a (b - a)
  split
  . rename_i h
    simp only [List.length_map,List.length_range,Bool.and_eq_true,beq_iff_eq] at h
    have h2:b - a=x.cps.toList.length:=h.2
    by_cases h0:x.cps.toList.length=0
    . have:x.cps=#[]:=by
        apply Array.eq_empty_of_size_eq_zero;simpa using h0
      cases x;simp_all
    . have ea:a=0:=by lia
      subst ea
      rw [List.drop_zero,List.take_of_length_le (by lia)]
  . congr 1
    by_cases hab:a<=b
    . rw [<- hp (by lia)]
      congr 1
      simp only [Array.getElem?_toList]
    . have:b - a=0:=by lia
      rw [this];simp
section
variable {X:Cx}
noncomputable def rSlS:V->Option Int->Option Int->Hp->VK->Prop:=fun x lo hi H Q=>∃ z,x=.str z/\z.length<=sizeLine/\Q (.str (cutS z lo hi)) H
theorem sl_str:SlR X rSlS:=by
  intro pins s σ H x v vl vu lo hi sl Q I rx hs pl pu h
  obtain ⟨z,rfl,hz,q⟩:=h
  obtain ⟨t,rfl⟩:=rx
  rw [<- slice_eq] at q
  refine ⟨"str",_,F.slot_str_getitem.lookup,typeIs_str _ _ _,?_⟩
  obtain ⟨o,ho,hc,hd⟩:=hs
  have key:∀ (l u:Option (Int × Tok)),vl=partValue l->vu=partValue u->lo=l.map (·.1)->hi=u.map (·.1)->wpAny (model X.prog X.w) X.A (getItem (.str z t) (.ref sl)) (EP X pins σ Q) X.xe s:=by
    intro l u e1 e2 e3 e4
    subst e1 e2 e3 e4
    refine wpAny_getItem_str_slice (l:=l) (u:=u) (st:=none) ⟨o,ho,hc,hd⟩ rfl (post_val_or_str ⟨Nat.le_trans (Txt.slice_le z _ _) hz,fun t' k=>?_⟩)
    exact ⟨.str _,H,I.tok k,⟨_,rfl⟩,q⟩
  cases pl with
  | none =>
    cases pu with
    | none=>exact key none none rfl rfl rfl rfl
    | int j u=>exact key none (some (j,u)) rfl rfl rfl rfl
  | int i t =>
    cases pu with
    | none=>exact key (some (i,t)) none rfl rfl rfl rfl
    | int j u=>exact key (some (i,t)) (some (j,u)) rfl rfl rfl rfl
end
end L2
namespace L2
open PySem PySem.Spec PyProof.Rows PySem.Builtin.Str
noncomputable def Sq (K:PySem.W.Frag) (H:Hp) (a:Addr) (xs:List V):Prop:=SqL K H a xs\/SqT K H a xs
noncomputable def occ (y x:Str):Bool:=!(occurrences y x 0 y.length 1).isEmpty
noncomputable def uAdd (K:PySem.W.Frag):R2:=fun x y H Q=>match x,y with
  | .int i,.int j=>Q (.int (i + j)) H
  | .str i,.str j=>i.length + j.length<=sizeLine/\Q (.str (i++j)) H
  | .ref a,.ref b=>rCat (.ref a) (.ref b) H Q\/rCatT K (.ref a) (.ref b) H Q
  | _,_=>False
noncomputable def uSub:R2:=fun x y H Q=>match x,y with
  | .int i,.int j=>Q (.int (i - j)) H
  | _,_=>False
noncomputable def uDiv:R2:=fun x y H Q=>match x,y with
  | .int i,.int j=>CDiv i j/\Q (.int (i / j)) H
  | _,_=>False
noncomputable def uMod:R2:=fun x y H Q=>match x,y with
  | .int i,.int j=>0 < j/\Q (.int (i % j)) H
  | _,_=>False
noncomputable def uPow:R2:=fun x y H Q=>match x,y with
  | .int i,.int j=>CPow i j/\Q (.int (i ^ j.toNat)) H
  | _,_=>False
noncomputable def uLt:R2:=fun x y H Q=>match x,y with
  | .int i,.int j=>Q (.bl (decide (i < j))) H
  | .str i,.str j=>Q (.bl (decide (i.cps.toList < j.cps.toList))) H
  | _,_=>False
noncomputable def uLe:R2:=fun x y H Q=>match x,y with
  | .int i,.int j=>Q (.bl (decide (i<=j))) H
  | _,_=>False
noncomputable def uGt:R2:=fun x y H Q=>match x,y with
  | .int i,.int j=>Q (.bl (decide (j < i))) H
  | _,_=>False
noncomputable def uGe:R2:=fun x y H Q=>match x,y with
  | .int i,.int j=>Q (.bl (decide (j<=i))) H
  | _,_=>False
noncomputable def uEq:R2:=fun x y H Q=>match x,y with
  | .int i,.int j=>Q (.bl (decide (i=j))) H
  | .str i,.str j=>Q (.bl (decide (i=j))) H
  | .bl i,.bl j=>Q (.bl (decide (i=j))) H
  | .non,.non=>Q (.bl true) H
  | .non,.str _=>Q (.bl false) H
  | .str _,.non=>Q (.bl false) H
  | _,_=>False
noncomputable def uNe:R2:=fun x y H Q=>match x,y with
  | .int i,.int j=>Q (.bl (!decide (i=j))) H
  | .str i,.str j=>Q (.bl (!decide (i=j))) H
  | .bl i,.bl j=>Q (.bl (!decide (i=j))) H
  | .non,.non=>Q (.bl false) H
  | .non,.str _=>Q (.bl true) H
  | .str _,.non=>Q (.bl true) H
  | _,_=>False
noncomputable def uIn (K:PySem.W.Frag):R2:=fun x y H Q=>match x,y with
  | .str i,.str j=>Q (.bl (occ j i)) H
  | x,.ref p=>∃ xs,Sq K H p xs/\flatV x=true/\xs.all flatV=true/\Q (.bl (inV x xs)) H
  | _,_=>False
noncomputable def uIx (K:PySem.W.Frag):R2:=fun x y H Q=>match x,y with
  | .str z,.int i=>z.length<=sizeLine/\∃ c,atI z.cps.toList i=some c/\Q (.str ⟨#[c]⟩) H
  | .ref p,.int i=>∃ xs v,Sq K H p xs/\atI xs i=some v/\Q v H
  | _,_=>False
noncomputable def uLen (K:PySem.W.Frag):List V->Hp->VK->Prop:=fun xs H Q=>match xs with
  | [.str z]=>z.length<=sizeLine/\Q (.int z.length) H
  | [.ref p]=>∃ ys,Sq K H p ys/\Q (.int ys.length) H
  | _=>False
noncomputable def uMax:List V->Hp->VK->Prop:=fun xs H Q=>match xs with
  | [.int i,.int j]=>Q (.int (max i j)) H
  | _=>False
noncomputable def uMin:List V->Hp->VK->Prop:=fun xs H Q=>match xs with
  | [.int i,.int j]=>Q (.int (min i j)) H
  | _=>False
noncomputable def uInt:List V->Hp->VK->Prop:=fun xs H Q=>match xs with
  | [.int i]=>Q (.int i) H
  | [.bl k]=>Q (.int (if k then 1 else 0)) H
  | _=>False
section
variable {X:Cx}
theorem OpR.imp {f:Value->Value->Sem Value} {r r':R2} (h:OpR X f r) (hi:∀ x y H Q,r' x y H Q->r x y H Q):OpR X f r':=fun pins s σ H x y v u Q I rx ry q=>h pins s σ H x y v u Q I rx ry (hi _ _ _ _ q)
theorem CallR.imp {f:Value} {r r':List V->Hp->VK->Prop} (h:CallR X f r) (hi:∀ xs H Q,r' xs H Q->r xs H Q):CallR X f r':=fun pins s σ H xs us Q I rx q=>h pins s σ H xs us Q I rx (hi _ _ _ q)
theorem o_sub:OpR X (binaryOp .Sub) uSub:=op_sub.imp fun x y H Q q=>by
  unfold uSub at q
  split at q
  . exact ⟨_,_,rfl,rfl,q⟩
  . exact q.elim
theorem o_fdiv:OpR X (binaryOp .FloorDiv) uDiv:=op_fdiv.imp fun x y H Q q=>by
  unfold uDiv at q
  split at q
  . exact ⟨_,_,rfl,rfl,q.1,q.2⟩
  . exact q.elim
theorem o_mod:OpR X (binaryOp .Mod) uMod:=op_mod.imp fun x y H Q q=>by
  unfold uMod at q
  split at q
  . exact ⟨_,_,rfl,rfl,q.1,q.2⟩
  . exact q.elim
theorem o_pow:OpR X (binaryOp .Pow) uPow:=op_pow.imp fun x y H Q q=>by
  unfold uPow at q
  split at q
  . exact ⟨_,_,rfl,rfl,q.1,q.2⟩
  . exact q.elim
theorem o_lt:OpR X (compareOp .Lt) uLt:=(op_lt.or op_lt_str).imp fun x y H Q q=>by
  unfold uLt at q
  split at q
  . exact .inl ⟨_,_,rfl,rfl,q⟩
  . exact .inr ⟨_,_,rfl,rfl,q⟩
  . exact q.elim
theorem o_le:OpR X (compareOp .LtE) uLe:=op_le.imp fun x y H Q q=>by
  unfold uLe at q
  split at q
  . exact ⟨_,_,rfl,rfl,q⟩
  . exact q.elim
theorem o_gt:OpR X (compareOp .Gt) uGt:=op_gt.imp fun x y H Q q=>by
  unfold uGt at q
  split at q
  . exact ⟨_,_,rfl,rfl,q⟩
  . exact q.elim
theorem o_ge:OpR X (compareOp .GtE) uGe:=op_ge.imp fun x y H Q q=>by
  unfold uGe at q
  split at q
  . exact ⟨_,_,rfl,rfl,q⟩
  . exact q.elim
theorem o_eq:OpR X (compareOp .Eq) uEq:=op_eq.imp fun x y H Q q=>by
  unfold uEq at q
  split at q <;> first | exact q.elim | (refine ⟨rfl,?_⟩;simpa using q)
theorem o_ne:OpR X (compareOp .NotEq) uNe:=op_ne.imp fun x y H Q q=>by
  unfold uNe at q
  split at q <;> first | exact q.elim | (refine ⟨rfl,?_⟩;simpa using q)
theorem o_in:OpR X (compareOp .In) (uIn X.K):=(op_in_str.or op_in_seq).imp fun x y H Q q=>by
  unfold uIn at q
  split at q
  . exact .inl ⟨_,_,rfl,rfl,q⟩
  . obtain ⟨xs,h1,h2,h3,h4⟩:=q
    exact .inr ⟨_,xs,rfl,h1,h2,h3,h4⟩
  . exact q.elim
theorem o_ix:IxR X (uIx X.K):=by
  intro value slice pins s σ H x y v u Q I rx ry q hs
  refine ix_seq value slice pins s σ H x y v u Q I rx ry ?_ hs
  unfold uIx at q
  split at q
  . obtain ⟨h1,c,h2,h3⟩:=q
    exact .inr (.inr ⟨_,_,c,rfl,rfl,h1,h2,h3⟩)
  . obtain ⟨xs,v,h1 | h1,h2,h3⟩:=q
    . exact .inl ⟨_,xs,_,v,rfl,rfl,h1,h2,h3⟩
    . exact .inr (.inl ⟨_,xs,_,v,rfl,rfl,h1,h2,h3⟩)
  . exact q.elim
theorem c_len:CallR X (.builtin "len") (uLen X.K):=(call_len_str.or call_len_seq).imp fun xs H Q q=>by
  unfold uLen at q
  split at q
  . exact .inl ⟨_,rfl,q.1,q.2⟩
  . obtain ⟨ys,h1,h2⟩:=q
    exact .inr ⟨_,ys,rfl,h1,h2⟩
  . exact q.elim
theorem c_max (hc:X.calm=true):CallR X (.builtin "max") uMax:=(call_max2 hc).imp fun xs H Q q=>by
  unfold uMax at q
  split at q
  . rename_i i j
    refine ⟨i,j,rfl,?_⟩
    have e:(if j > i then j else i)=max i j:=by split <;> lia
    rw [e];exact q
  . exact q.elim
theorem c_min (hc:X.calm=true):CallR X (.builtin "min") uMin:=(call_min2 hc).imp fun xs H Q q=>by
  unfold uMin at q
  split at q
  . rename_i i j
    refine ⟨i,j,rfl,?_⟩
    have e:(if j < i then j else i)=min i j:=by split <;> lia
    rw [e];exact q
  . exact q.elim
theorem c_int:CallR X (.type "int") uInt:=call_int1.imp fun xs H Q q=>by
  unfold uInt at q
  split at q
  . exact .inl ⟨_,rfl,q⟩
  . exact .inr ⟨_,rfl,q⟩
  . exact q.elim
theorem pe_ty {x:Str} {T:String} {pos:Pos} (hg:Gl X x) (hm:X.mg x=none) (hv:bootBuiltins x=some (.type T)) (hn:x≠"__name__":=by decide) (hd:(x == ("__debug__":Str))=false:=by decide):PE X (.Name x pos) (tC (.ty T)):=pe_bltn hg hm hv rfl hn hd
end
end L2
namespace L2
open PySem PySem.Spec PyProof.Rows
end L2
namespace L2
open PySem PySem.Spec PyProof.Rows
noncomputable def uRng1:List V->Hp->(It->Hp->Prop)->Prop:=fun vs H R=>match vs with
  | [.int j]=>-(2 ^ 62)<=j/\j < 2 ^ 62/\R (Itr 0 j.toNat) H
  | _=>False
noncomputable def jRng1 (ta:TA):TI:=fun σ H R=>ta σ H fun vs H1=>uRng1 vs H1 R
noncomputable def uList (K:PySem.W.Frag):V->Hp->(It->Hp->Prop)->Prop:=fun x H R=>match x with
  | .ref a=>(∃ xs,SqL K H a xs)/\R (Itl K a) H
  | _=>False
noncomputable def uTupI (K:PySem.W.Frag):V->Hp->(It->Hp->Prop)->Prop:=fun x H R=>match x with
  | .ref a=>(∃ xs,SqT K H a xs)/\R (Itt K a) H
  | _=>False
noncomputable def jOf (u:V->Hp->(It->Hp->Prop)->Prop) (te:TE):TI:=fun σ H R=>te σ H fun x H1=>u x H1 R
section
variable {X:Cx} {tg:Expr} {a b:Expr} {p pos:Pos} {ta:TA} {te:TE}
theorem pj_range1 (hg:Gl X "range") (hm:X.mg "range"=none) (ha:PA X [a] ta) (hs:starEach [a] X.env=[(false,eval a X.env)]:=by rfl):PI X tg (.Call (.Name "range" p) [a] [] pos) (jRng1 ta):=by
  intro pins s σ H R I h
  refine Call_ (ld_blt I hg hm boot_range (PyProof.Rows.callWith_type1 (thn (ha pos pins s σ H _ I h) fun us s1 ⟨vs,H1,I1,r1,q1⟩=>?_) hs rfl))
  unfold uRng1 at q1
  dsimp only at q1
  split at q1
  . obtain ⟨q1,q2,q⟩:=q1
    cases r1 with
    | cons r rr =>
      cases rr
      obtain ⟨t,rfl⟩:=r
      exact call_range_1 (range_it I1 (by lia) (by lia) q1 q2 (by simpa using q))
  . exact q1.elim
end
noncomputable def strsIn:List Expr->Option (List Str)
  | []=>some []
  | .Constant (.str x) _ _::r=>(strsIn r).map (x::·)
  | _=>none
noncomputable def tConst (vs:List V):TA:=fun _ H L=>L vs H
theorem pa_strs {X:Cx}:∀ {es:List Expr} {xs:List Str},strsIn es=some xs->PA X es (tConst (xs.map V.str))
  | [],xs,h=>by
    cases h
    exact fun pos pins s σ H Q I q=>pa_nil pos pins s σ H Q I q
  | e :: es, xs,h=>by
    cases e with
    | Constant c k p =>
      cases c with
      | str x =>
        cases h1:strsIn es with
        | none=>simp [strsIn,h1] at h
        | some ys =>
          have h2:x::ys=xs:=by simpa [strsIn,h1] using h
          subst h2
          have ih:=pa_strs (X:=X) h1
          exact fun pos pins s σ H Q I q=>(pa_cons (te:=tC (.str x)) pe_str ih) pos pins s σ H Q I q
      | _=>simp [strsIn] at h
    | _=>simp [strsIn] at h
theorem Same.upd_new {H:Hp} {l:Addr} {o:HO} (h:H l=none):Same H (upd H l o):=fun b u e=>by rw [upd_ne (ne_of_none e h)];exact e
theorem Same.sq {K:PySem.W.Frag} {H H':Hp} {a:Addr} {xs:List V} (e:Same H H') (h:SqT K H a xs):SqT K H' a xs:=by
  rcases h with (h | ⟨o,h⟩) | h
  . exact .inl (.inl (e _ _ h))
  . exact .inl (.inr ⟨o,e _ _ h⟩)
  . exact .inr h
theorem atI_lt {α:Type} {xs:List α} {i:Int} (h0:0<=i) (h:i < xs.length):∃ v,atI xs i=some v/\xs[i.toNat]? = some v:=by
  have hlt:i.toNat < xs.length:=by lia
  refine ⟨xs[i.toNat],?_,List.getElem?_eq_getElem hlt⟩
  have e:(i.toNat:Int)=i:=by lia
  have h:=atI_nat (List.getElem?_eq_getElem hlt)
  rw [e] at h
  exact h
theorem small_line {n:Nat} (h:n<=1000):n<=sizeLine:=Nat.le_of_lt (small1000 h)
end L2
namespace L2
open PySem PySem.Spec PyProof.Rows
section
variable {P:Program} {w:World} {K:PySem.W.Frag} {mg:Str->Option Value} {base:Heap}
theorem Fun.ok2 {x qual:Str} {st:Stmt} {f:Addr} {fd:FuncData} {N ps:List Str} {k:Nat} {sp:Sp} {sc:Scope} {body:List Stmt} (F:Fun K x qual st f fd) (hs:defScope st=sc) (hb:defBody st=body) (S:FnScope N ps (defScope st)) (len:∀ vs H Q E,sp vs H Q E->vs.length=ps.length)
    (hbody:FnScope N ps sc->∀ (cdv:Value) (A:Around) (outer:List Env) (s:Shared) (H:Hp) (vs:List V) (Q:VK) (E:XK),Room k (A.deeper (envOfC qual sc s.heap.objs.size f cdv))->sp vs H Q E ->
      ∃ t,PSs (cxOf CX0 P w K mg base N qual sc f cdv A outer s H E).nox body t/\t { nx:=fun _ H'=>Q .non H',rt:=Q } (L2.start N vs) H):FnOk P w K mg base CX0 (k + 1) f fd ps sp:=by
  subst hs hb
  exact F.ok S len (hbody S)
end
end L2
namespace L2
open PySem PySem.Spec PyProof.Rows
section
variable {P:Program} {w:World} {K:PySem.W.Frag} {mg:Str->Option Value} {base:Heap}
noncomputable def spStrs (xs:List Str):Sp:=fun vs H Q _=>vs=[]/\∀ l,H l=none->Q (.ref l) (upd H l (.lst (xs.map V.str)))
theorem ok_strs {x qual:Str} {st:Stmt} {f:Addr} {fd:FuncData} (F:Fun K x qual st f fd) {es:List Expr} {pos p:Pos} (xs:List Str) (hb:defBody st=[.Return (some (.List es pos)) p]) (h:strsIn es=some xs) (hz:xs.length<=1000)
    (S:FnScope [] [] (defScope st)):FnOk P w K mg base CX0 1 f fd [] (spStrs xs):=by
  refine F.ok2 rfl hb S (fun vs H Q E h=>?_) (fun S cdv A outer s H vs Q E hr hq=>?_)
  . obtain ⟨rfl,_⟩:=h
    rfl
  . obtain ⟨rfl,q⟩:=hq
    refine ⟨_,pss_one (ps_ret (pe_lst (pa_strs h))),?_⟩
    exact ⟨by rw [List.length_map];exact small_line hz,q⟩
end
end L2
namespace L2
open PySem
theorem noFree_has {scope:Scope} {env:Env} {names:List (Str × NameKind)} {cl:List (Str × Addr)} (h:(relabel scope env).names=names) (h2:(names.all fun p=>p.2 != .cell && p.2 != .free)=true) :
    ∀ p∈(relabel scope env).names,p.2=.cell\/p.2=.free->(cl.lookup p.1).isSome=true:=by
  intro p hp hk
  rw [h] at hp
  have:=List.all_eq_true.mp h2 p hp
  rcases hk with e | e
  . rw [e] at this;exact absurd this (by decide)
  . rw [e] at this;exact absurd this (by decide)
theorem nd1 {x:Str}:[x].Nodup:=by simp
section
variable {X:Cx} (K:PySem.W.Frag) (h:X.K=K)
include h
theorem k_ix:IxR X (uIx K):=h ▸ o_ix
end
end L2
namespace L2
open PySem PySem.Spec PyProof.Rows
mutual
inductive Rep (K:PySem.W.Frag) (H:Hp):PyData->V->Prop
  | non:Rep K H .none .non
  | bl (b:Bool):Rep K H (.bool b) (.bl b)
  | int (i:Int):Rep K H (.int i) (.int i)
  | str (x:Str):Rep K H (.str x) (.str x)
  | tup {a:Addr} {xs:List V} {ds:List PyData}:SqT K H a xs->Reps K H ds xs->Rep K H (.tuple ds) (.ref a)
  | lst {a:Addr} {xs:List V} {ds:List PyData}:SqL K H a xs->Reps K H ds xs->Rep K H (.list ds) (.ref a)
inductive Reps (K:PySem.W.Frag) (H:Hp):List PyData->List V->Prop
  | nil:Reps K H [] []
  | cons {d:PyData} {v:V} {ds:List PyData} {vs:List V}:Rep K H d v->Reps K H ds vs->Reps K H (d::ds) (v::vs)
end
section
variable {X:Cx} {pins:List (Addr × Obj)} {σ:St} {H:Hp} {s:Shared}
mutual
theorem Rep.reads (I:Inv X pins σ H s):∀ {d:PyData} {v:V} {u:Value},Rep X.K H d v->RelV v u->∃ as,Reads s.heap u d as
  | _,_,_,.non,r=>by cases r;exact ⟨_,.none⟩
  | _,_,_,.bl b,r=>by cases r;exact ⟨_,.bool b⟩
  | _,_,_,.int i,r=>by obtain ⟨t,rfl⟩:=r;exact ⟨_,.int i t⟩
  | _,_,_,.str x,r=>by obtain ⟨t,rfl⟩:=r;exact ⟨_,.str x t⟩
  | _, _,_,.tup h q,r=>by
    cases r
    obtain ⟨its,rv,⟨o,e,c,n,d⟩,hz⟩:=I.tuple h
    obtain ⟨as,ra⟩:=Reps.reads I q rv
    exact ⟨_,.tuple e c d (by simpa using ra)⟩
  | _, _,_,.lst h q,r=>by
    cases r
    obtain ⟨its,rv,⟨o,n,e,c,_,d⟩,hz⟩:=I.list h
    obtain ⟨as,ra⟩:=Reps.reads I q rv
    exact ⟨_,.list e c d (by simpa using ra)⟩
theorem Reps.reads (I:Inv X pins σ H s):∀ {ds:List PyData} {vs:List V} {us:List Value},Reps X.K H ds vs->Vals vs us->∃ as,ReadsAll s.heap us ds as
  | _,_,_,.nil,r=>by cases r;exact ⟨_,.nil⟩
  | _, _,_,.cons h q,r=>by
    cases r with
    | cons r0 r1 =>
      obtain ⟨as,ra⟩:=Rep.reads I h r0
      obtain ⟨bs,rb⟩:=Reps.reads I q r1
      exact ⟨_,.cons ra rb⟩
end
noncomputable def rEqD (K:PySem.W.Frag) (ne:Bool):R2:=fun x y H Q=>∃ d e,Rep K H d x/\Rep K H e y/\d.canLay0=true/\e.canLay0=true/\d.depth<=190/\Q (.bl (if ne then !PyData.eqv d e else PyData.eqv d e)) H
theorem op_eqD (hu:X.A.units + 200 < cLine):OpR X (compareOp .Eq) (rEqD X.K false):=by
  intro pins s σ H x y v u Q I rx ry h
  obtain ⟨d,e,h1,h2,c1,c2,dp,q⟩:=h
  obtain ⟨as,ra⟩:=Rep.reads I h1 rx
  obtain ⟨bs,rb⟩:=Rep.reads I h2 ry
  refine SeqAt.compareEq_reads ra rb c1 c2 ?_ ⟨.bl _,H,I,rfl,q⟩
  have:min d.depth e.depth<=d.depth:=Nat.min_le_left _ _
  lia
theorem op_neD (hu:X.A.units + 200 < cLine):OpR X (compareOp .NotEq) (rEqD X.K true):=by
  intro pins s σ H x y v u Q I rx ry h
  obtain ⟨d,e,h1,h2,c1,c2,dp,q⟩:=h
  obtain ⟨as,ra⟩:=Rep.reads I h1 rx
  obtain ⟨bs,rb⟩:=Rep.reads I h2 ry
  refine SeqAt.compareNe_reads ra rb c1 c2 ?_ ⟨.bl _,H,I,rfl,q⟩
  have:min d.depth e.depth<=d.depth:=Nat.min_le_left _ _
  lia
noncomputable def uEqD (K:PySem.W.Frag):R2:=fun x y H Q=>match x,y with
  | .ref a,y=>rEqD K false (.ref a) y H Q
  | x,.ref b=>rEqD K false x (.ref b) H Q
  | x,y=>uEq x y H Q
noncomputable def uNeD (K:PySem.W.Frag):R2:=fun x y H Q=>match x,y with
  | .ref a,y=>rEqD K true (.ref a) y H Q
  | x,.ref b=>rEqD K true x (.ref b) H Q
  | x,y=>uNe x y H Q
theorem o_eqD {k:Nat} (hr:Room k X.A):OpR X (compareOp .Eq) (uEqD X.K):=((op_eqD (by have:=hr.un;lia)).or o_eq).imp fun x y H Q q=>by
  unfold uEqD at q
  split at q
  . exact .inl q
  . exact .inl q
  . exact .inr q
theorem o_neD {k:Nat} (hr:Room k X.A):OpR X (compareOp .NotEq) (uNeD X.K):=((op_neD (by have:=hr.un;lia)).or o_ne).imp fun x y H Q q=>by
  unfold uNeD at q
  split at q
  . exact .inl q
  . exact .inl q
  . exact .inr q
end
noncomputable def uSum (K:PySem.W.Frag):List V->Hp->VK->Prop:=fun xs H Q=>match xs with
  | [.ref p]=>∃ ns:List Int,SqL K H p (ns.map V.int)/\Q (.int ns.sum) H
  | _=>False
theorem preSum_eq (ns:List Int):∀ n,n<=ns.length->preSum (fun i=>ns.getD i 0) n=(ns.take n).sum
  | 0,_=>by simp [preSum]
  | n + 1,h=>by
    rw [preSum,preSum_eq ns n (by lia),List.take_add_one,List.getElem?_eq_getElem (by lia),List.sum_append]
    simp [List.getD_eq_getElem?_getD,List.getElem?_eq_getElem (show n < ns.length by lia)]
theorem c_sum {X:Cx} (hc:X.calm=true):CallR X (.builtin "sum") (uSum X.K):=by
  intro pins s σ H xs us Q I r h
  unfold uSum at h
  split at h
  . rename_i p
    obtain ⟨ns,hl,q⟩:=h
    obtain ⟨u,rfl,ru⟩:=r.one
    cases ru
    obtain ⟨its,rv,pl,hz⟩:=I.list hl
    refine call_sum_walkAnyS (wpAny_pyIter_list pl.isList ?_)
    have hne:p≠s.heap.objs.size:=Nat.ne_of_lt (by obtain ⟨o,n,e,_⟩:=pl;exact Heap.lt_size e)
    have hlen:its.toArray.size=ns.length:=by have:=rv.length;simp at this;simp;lia
    refine ⟨s.heap.objs.size,_,_,_,_,_,_,fun i=>ns.getD i 0,rfl,(Walks.list (show X.A.in1.handled=none from I.ok.hd hc) s.heap.objs.size p hne its.toArray).toS,⟨⟨_,Heap.get?_push_size _ rfl,rfl,rfl⟩,pl.isList.at fun o e=>Heap.get?_push_of_some _ e⟩,?_,?_,fun s' t' hm=>?_⟩
    . intro b hb
      have hp:p < s.heap.objs.size:=by obtain ⟨o,n,e,_⟩:=pl;exact Heap.lt_size e
      rw [Heap.size_push]
      rcases List.mem_cons.mp hb with rfl | hb
      . exact Nat.lt_succ_self _
      . have:b=p:=by simpa using hb
        subst this
        exact Nat.lt_succ_of_lt hp
    . intro i v hv
      have hv':its[i]? = some v:=by simpa using hv
      cases e:(ns.map V.int)[i]? with
      | none =>
        have:=rv.none_of e
        rw [this] at hv';cases hv'
      | some y =>
        obtain ⟨u,hu,ru⟩:=rv.get e
        rw [hv'] at hu;cases hu
        rw [List.getElem?_map] at e
        cases eb:ns[i]? with
        | none=>rw [eb] at e;cases e
        | some b =>
          rw [eb] at e
          cases e
          obtain ⟨t,rfl⟩:=ru
          exact ⟨t,by dsimp only;rw [List.getD_eq_getElem?_getD,eb];rfl⟩
    . have e:preSum (fun i=>ns.getD i 0) its.toArray.size=ns.sum:=by
        rw [hlen,preSum_eq ns _ (Nat.le_refl _),List.take_length]
      rw [e]
      have hI:Inv X pins σ H { s with heap:=s'.heap,toks:=s'.toks }:=I.kept (t':=s'.toks) fun b o e=>hm.heap b o (by simp;exact Nat.ne_of_lt (Heap.lt_size e)) (Heap.get?_push_of_some _ e)
      have es:({ s with heap:=s'.heap,toks:=s'.toks }:Shared)=s':=by
        have h1:=hm.gens
        have h2:=hm.drawn
        have h3:=hm.os
        cases s'
        simp only at h1 h2 h3
        subst h1 h2 h3
        rfl
      rw [es] at hI
      exact ⟨.int _,H,hI,⟨_,rfl⟩,q⟩
  . exact h.elim
noncomputable def uMulB:R2:=fun x y H Q=>match x,y with
  | .int i,.int j=>IntMulOk i j/\Q (.int (i * j)) H
  | .ref a,.int k=>rRep (.ref a) (.int k) H Q
  | _,_=>False
theorem op_mulB {X:Cx}:OpR X (binaryOp .Mult) (fun x y H Q=>∃ i j,x=.int i/\y=.int j/\IntMulOk i j/\Q (.int (i * j)) H):=by
  intro pins s σ H x y v u Q I rx ry h
  obtain ⟨i,j,rfl,rfl,hm,q⟩:=h
  obtain ⟨t,rfl⟩:=rx
  obtain ⟨t',rfl⟩:=ry
  exact PyProof.Rows.mul_int ⟨.int _,H,I.tok _,⟨_,rfl⟩,q⟩ hm
theorem o_mulB {X:Cx}:OpR X (binaryOp .Mult) uMulB:=(op_mulB.or op_rep).imp fun x y H Q q=>by
  unfold uMulB at q
  split at q
  . exact .inl ⟨_,_,rfl,rfl,q.1,q.2⟩
  . exact .inr q
  . exact q.elim
theorem mul_small {i j:Int} (h:CMul i j):IntMulOk i j:=h.ok
theorem allm_cons {α:Type} {P:α->Prop} {a:α} {l:List α} (h:P a) (t:∀ p∈l,P p):∀ p∈a::l,P p:=fun p hp=>by
  rcases List.mem_cons.mp hp with rfl | hp
  . exact h
  . exact t p hp
theorem allm_nil {α:Type} {P:α->Prop}:∀ p∈([]:List α),P p:=fun _ z=>nomatch z
theorem free_has {scope:Scope} {env:Env} {names:List (Str × NameKind)} {cl:List (Str × Addr)} (h:(relabel scope env).names=names) (h2:(names.all fun p=>(p.2 != .cell && p.2 != .free) || (cl.lookup p.1).isSome)=true) :
    ∀ p∈(relabel scope env).names,p.2=.cell\/p.2=.free->(cl.lookup p.1).isSome=true:=by
  intro p hp hk
  rw [h] at hp
  have:=List.all_eq_true.mp h2 p hp
  rcases hk with e | e
  . rw [e] at this;simpa using this
  . rw [e] at this;simpa using this
section
variable {X:Cx}
noncomputable def rCatL (K:PySem.W.Frag):R2:=fun x y H Q=>∃ l b xs zs,x=.ref l/\y=.ref b/\SqL K H l xs/\SqL K H b zs/\xs.length + zs.length<=sizeLine/\∀ p,H p=none->Q (.ref p) (upd H p (.lst (xs++zs)))
theorem op_catL:OpR X (binaryOp .Add) (rCatL X.K):=by
  intro pins s σ H x y v u Q I rx ry h
  obtain ⟨l,b,xs,zs,rfl,rfl,hH,hB,hz,q⟩:=h
  cases rx
  cases ry
  obtain ⟨its,r,pl,z1⟩:=I.list hH
  obtain ⟨its2,r2,pl2,z2⟩:=I.list hB
  have hl:=r.length
  have hl2:=r2.length
  obtain ⟨⟨cls,dd,data,sl⟩,ho,hc,n,hd⟩:=id pl.isList
  obtain ⟨⟨cls2,dd2,data2,sl2⟩,ho2,hc2,n2,hd2⟩:=id pl2.isList
  simp only at hc hd hc2 hd2
  subst hc hd hc2 hd2
  have e:its.toArray++its2.toArray=(its++its2).toArray:=by simp
  refine concat_meets ⟨_,ho,rfl⟩ ⟨_,ho2,rfl⟩ noFill_list_add seq_list_add PySem.F.slot_list_add PySem.F.entry_list_add (PySem.F.args_list_add_2 _ _) (PyProof.Rows.list_addW l b its.toArray its2.toArray n n2 dd dd2 sl sl2 (by rw [List.size_toArray,List.size_toArray];lia)) ⟨ho,ho2,?_⟩
  rw [e]
  exact ⟨.ref _,_,I.lnew (t':=s.toks) (r.append r2) (by rw [List.length_append];lia),rfl,q _ I.fresh⟩
end
theorem comp_go {X:Cx} {elt tg iter:Expr} {ifs:List Expr} {scope:Scope} {cl:List (Str × Addr)} {ts:List Str} {frs':List (Str × Nat)} {pos pos0:Pos} {wi:TI} {g:TG} {tt:TT} {te:TE} (hc:X.calm=true) (S:CompScope X scope cl ts frs')
    (hi:PI X tg iter wi) (hg:∀ pins s H fp,PG (X.comp scope cl (ts++frs'.map (·.1)) pins s H fp) tg g) (ht:∀ pins s H fp,PIfs (X.comp scope cl (ts++frs'.map (·.1)) pins s H fp) ifs tt)
    (he:∀ pins s H fp,PE (X.comp scope cl (ts++frs'.map (·.1)) pins s H fp) elt te) (hs:∀ x,foldedSetIterable iter X.env x=pure x)
    {use:Option (Value->Sem Unit)} {Qv:Value->Shared->Prop} {pins:List (Addr × Obj)} {s:Shared} {σ:St} {H:Hp} {Q:VK} (I:Inv X pins σ H s) (h:tComp ts.length frs' wi g tt te σ H Q)
    (hfin:∀ (C D:Addr) (H5:Hp) (s6:Shared) (m6:Str->Option Value),Inv X pins σ H5 s6->s6.heap.Ns C m6->FpOk X pins H5 C->(∀ h',Heap.SameBut C s6.heap h'->Inv X pins σ H5 { s6 with heap:=h' })->Q (.ref D) H5 ->
      compPost (model X.prog X.w) X.A X.xe use Qv (.ref D) C (.ok .next) s6) :
    wpAny (model X.prog X.w) X.A (comprehension (.ListComp elt [⟨tg,iter,ifs,0⟩] scope pos) scope X.env pos0 (newList []) false (eval iter X.env) use) Qv X.xe s:=by
  refine wpAny_comprehension_free (use:=use) (cl:=cl) rfl hs S.clos S.kind S.names (thn (hi pins s σ H _ I h) fun v s1 h1=>thn h1 fun itv s2 h2=>?_)
  obtain ⟨it,fp,tn,J,H2,e,I2,T,st2,f2,q2⟩:=h2
  subst e
  have fr2:H2 s2.heap.objs.size=none:=I2.hok.fresh (Nat.le_refl _)
  obtain ⟨W,⟨m0,w0⟩,turn⟩:=q2 _ fr2
  refine wpAny_newObj_type ?_
  have hlt2:∀ b∈fp,b < s2.heap.objs.size:=fun b hb=>by
    obtain ⟨o,e,_⟩:=T.obj _ _ st2 b hb
    exact Heap.lt_size e
  have I3:Inv X pins σ (upd H2 s2.heap.objs.size (.lst [])) { s2 with heap:=s2.heap.push { cls:=.type "list",data:=.seq ([]:List Value).toArray } } :=
    I2.laid (t':=s2.toks) (fun b u e=>Heap.get?_push_of_some _ e) (Nat.le_refl _) ⟨Nat.zero_le _,[],0,.nil,Heap.get?_push_size _ rfl⟩
  have f3:∀ b∈fp,FpOk X pins (upd H2 s2.heap.objs.size (.lst [])) b:=fun b hb=>⟨by rw [upd_ne (Nat.ne_of_lt (hlt2 b hb))];exact (f2 b hb).1,(f2 b hb).2⟩
  have hk3:∀ b o,s2.heap.get? b=some o->(s2.heap.push { cls:=.type "list",data:=.seq ([]:List Value).toArray }).get? b=some o:=fun b o e=>Heap.get?_push_of_some _ e
  have hsz3:(s2.heap.push { cls:=.type "list",data:=.seq ([]:List Value).toArray }).objs.size=s2.heap.objs.size + 1:=Heap.size_push ..
  refine wpAny_newFunctionEnv S.nocell (by intro y hy;simp at hy) (fun h₁ hns₁ hsb₁=>?_) S.kind
  dsimp only at hns₁ hsb₁ ⊢
  generalize hs3:({ s2 with heap:=s2.heap.push { cls:=.type "list",data:=.seq ([]:List Value).toArray } }:Shared)=s3 at I3 hns₁ hsb₁ ⊢
  have es3:s3.heap=s2.heap.push { cls:=.type "list",data:=.seq ([]:List Value).toArray }:=by rw [<- hs3]
  have hk4:∀ b o,s3.heap.get? b=some o->h₁.get? b=some o:=fun b o e=>by
    have:=hsb₁.2 b (by rw [<- es3];exact Nat.ne_of_lt (Heap.lt_size e))
    rw [<- es3] at this
    exact this.trans (Heap.get?_push_of_some _ e)
  have hlt3:∀ b∈fp,b < s3.heap.objs.size:=fun b hb=>by
    rw [es3,hsz3]
    exact Nat.lt_succ_of_lt (hlt2 b hb)
  rw [<- es3] at hns₁
  have I4:=S.inv I3 f3 hlt3 (tk:=s2.toks + ([]:List (Str × Value)).length) hns₁ hk4
  have st4:tn 0 h₁:=T.keep _ _ _ st2 fun b hb o e=>hk4 b o (by rw [es3];exact hk3 b o e)
  have estart:({ s2 with heap:=h₁,toks:=s2.toks + ([]:List (Str × Value)).length }:Shared)={ s3 with heap:=h₁,toks:=s2.toks + ([]:List (Str × Value)).length }:=by rw [<- hs3]
  rw [estart]
  have stat:∀ {H':Hp},(∀ b∈fp,H' b=none)->∀ b∈fp,FpOk (X.comp scope cl (ts++frs'.map (·.1)) pins s3 (upd H2 s2.heap.objs.size (.lst [])) fp) [] H' b:=fun hn b hb=>by
    obtain ⟨h1,h2,h3,h4,h5,h6⟩:=f3 b hb
    refine ⟨hn b hb,Nat.ne_of_lt (hlt3 b hb),fun z=>?_,.inl hb,fun x c e=>h5 x c (S.subL e),fun p hp=>h6 p (by
      have:p∈(X.pn++pins)++[]:=hp
      rwa [List.append_nil] at this)⟩
    rcases List.mem_cons.mp (I3.stkSub _ z) with e' | e'
    . exact h2 e'
    . exact h3 e'
  have loop : codeAny (model X.prog X.w) X.A (.compLoop (.ListComp elt [⟨tg,iter,ifs,0⟩] scope pos) 0 (.ref it) (.ref s2.heap.objs.size) (compEnvC scope cl s3.heap.objs.size X.env))
      (compPost (model X.prog X.w) X.A X.xe use Qv (.ref s2.heap.objs.size) s3.heap.objs.size) { s3 with heap:=h₁,toks:=s2.toks + ([]:List (Str × Value)).length }:=by
    refine compLoop_any (fun n s'=>∃ i τ H',Inv (X.comp scope cl (ts++frs'.map (·.1)) pins s3 (upd H2 s2.heap.objs.size (.lst [])) fp) [] τ H' s'/\tn i s'.heap/\(∀ b∈fp,H' b=none)/\W i n τ H') ?_ m0
      ⟨0,_,_,I4,st4,fun b hb=>(f3 b hb).1,w0⟩
    rintro n s5 ⟨i,τ,H5,I5,st5,fr5,w5⟩
    rcases turn i n τ H5 w5 with ⟨stop,qn⟩ | ⟨go,step⟩
    . refine wpAny_mono (T.done (X.comp scope cl (ts++frs'.map (·.1)) pins s3 (upd H2 s2.heap.objs.size (.lst [])) fp) rfl rfl rfl hc i [] s5 τ H5 (fun _ _=>False) I5 (stat fr5) st5 stop) (fun r s6 ⟨hr,I6⟩=>?_) fun _ _ z=>z
      subst hr
      obtain ⟨m6,hn6,_⟩:=id I6.loc
      have hA:∀ h',Heap.SameBut s3.heap.objs.size s6.heap h'->Inv X pins σ H5 { s6 with heap:=h' }:=fun h' hs'=>CompScope.after I3 f3 I6 hs'
      have hC0:=I3.fpOk (b:=s3.heap.objs.size) (Nat.le_refl _) (I3.hok.fresh (Nat.le_refl _))
      exact hfin _ _ H5 s6 m6 (hA s6.heap ⟨rfl,fun _ _=>rfl⟩) hn6 ⟨I6.free,hC0.2⟩ hA qn
    . refine wpAny_mono (T.item (X.comp scope cl (ts++frs'.map (·.1)) pins s3 (upd H2 s2.heap.objs.size (.lst [])) fp) rfl rfl rfl hc i [] s5 τ H5 (fun _ _=>False) I5 (stat fr5) st5 go) (fun r s6 ⟨u,hr,h6⟩=>?_) fun _ _ z=>z
      subst hr
      refine thn h6 fun _ s7 h_q=>?_
      obtain ⟨x,H7,I7,r7,y7,st7,fr7⟩:=h_q
      have I7':=I7.pinned (stat fr7) (T.obj _ _ st7)
      refine thn (hg _ _ _ _ _ s7 τ H7 x u _ I7' r7 (step x H7 y7)) fun _ s8 h_q=>?_
      obtain ⟨τ8,H8,I8,q8⟩:=h_q
      refine thn (ht _ _ _ _ _ s8 τ8 H8 _ I8 q8) fun ok s9 h_q=>?_
      obtain ⟨H9,I9,q9⟩:=h_q
      have again:∀ {m':Nat} {H':Hp} {s':Shared},Inv (X.comp scope cl (ts++frs'.map (·.1)) pins s3 (upd H2 s2.heap.objs.size (.lst [])) fp) ([]++pinsAt fp s7.heap) τ8 H' s'->m' < n->W (i + 1) m' τ8 H' ->
          ∃ m,m < n/\∃ i τ H',Inv (X.comp scope cl (ts++frs'.map (·.1)) pins s3 (upd H2 s2.heap.objs.size (.lst [])) fp) [] τ H' s'/\tn i s'.heap/\(∀ b∈fp,H' b=none)/\W i m τ H':=fun {m' H' s'} I' hm w'=>by
        refine ⟨m',hm,i + 1,τ8,H',I'.unpinned,T.keep _ _ _ st7 fun b hb o e=>(I'.pin (b,o) (List.mem_append_right _ (List.mem_append_right _ (mem_pinsAt hb e)))).1,fun b hb=>?_,w'⟩
        obtain ⟨o,e,d⟩:=T.obj _ _ st7 b hb
        exact (I'.pin (b,o) (List.mem_append_right _ (List.mem_append_right _ (mem_pinsAt hb e)))).2.1
      cases ok with
      | false =>
        rw [if_neg Bool.false_ne_true]
        rw [if_neg Bool.false_ne_true] at q9
        obtain ⟨m',hm,w'⟩:=q9
        exact again I9 hm w'
      | true =>
        rw [if_pos rfl]
        rw [if_pos rfl] at q9
        refine thn (he _ _ _ _ _ s9 τ8 H9 _ I9 q9) fun yv s10 h_q=>?_
        obtain ⟨y,H10,I10,r10,ys,hl,hz,m',hm,w'⟩:=h_q
        refine thn (mt_append _ s10 τ8 H10 (.ref s2.heap.objs.size) [y] (.ref s2.heap.objs.size) [yv] (fun _ H'=>W (i + 1) m' τ8 H') I10 rfl (.cons r10 .nil) ⟨_,ys,y,rfl,rfl,hl,hz,w'⟩) fun _ s11 h_q=>?_
        obtain ⟨_,H11,I11,_,w11⟩:=h_q
        exact again I11 hm w11
  have es:(s2.heap.push { cls:=.type "list",data:=.seq ([]:List Value).toArray }).objs.size=s3.heap.objs.size:=by rw [es3]
  rw [es]
  exact codeAny_compStart_list loop (T.self _ 0 _ _ _ st4 loop)
theorem pe_comp {X:Cx} {elt tg iter:Expr} {ifs:List Expr} {scope:Scope} {cl:List (Str × Addr)} {ts:List Str} {frs':List (Str × Nat)} {pos:Pos} {wi:TI} {g:TG} {tt:TT} {te:TE} (hc:X.calm=true) (S:CompScope X scope cl ts frs')
    (hi:PI X tg iter wi) (hg:∀ pins s H fp,PG (X.comp scope cl (ts++frs'.map (·.1)) pins s H fp) tg g) (ht:∀ pins s H fp,PIfs (X.comp scope cl (ts++frs'.map (·.1)) pins s H fp) ifs tt)
    (he:∀ pins s H fp,PE (X.comp scope cl (ts++frs'.map (·.1)) pins s H fp) elt te) (hs:∀ x,foldedSetIterable iter X.env x=pure x:=by intro _;rfl) :
    PE X (.ListComp elt [⟨tg,iter,ifs,0⟩] scope pos) (tComp ts.length frs' wi g tt te):=by
  intro pins s σ H Q I h
  rw [eval_ListComp]
  exact comp_go hc S hi hg ht he hs (use:=none) (Qv:=EP X pins σ Q) I h fun C D H5 s6 m6 I6 hn fpc hA q=>⟨m6,hn,fun h' hs'=>⟨.ref D,H5,hA h' hs',rfl,q⟩⟩
theorem ps_setC {X:Cx} {elt tg iter:Expr} {ifs:List Expr} {scope:Scope} {cl:List (Str × Addr)} {ts:List Str} {frs':List (Str × Nat)} {pos spos py:Pos} {wi:TI} {g:TG} {tt:TT} {te:TE} {i:Nat} {y:Str}
    (hN:X.N.Nodup) (hi':X.N[i]? = some y) (hy:Loc X.env.scope y) (hsw:swapsWith (.ListComp elt [⟨tg,iter,ifs,0⟩] scope pos) (some (.Name y py)) spos.line X.env=pure true) (hc:X.calm=true) (S:CompScope X scope cl ts frs')
    (hi:PI X tg iter wi) (hg:∀ pins s H fp,PG (X.comp scope cl (ts++frs'.map (·.1)) pins s H fp) tg g) (ht:∀ pins s H fp,PIfs (X.comp scope cl (ts++frs'.map (·.1)) pins s H fp) ifs tt)
    (he:∀ pins s H fp,PE (X.comp scope cl (ts++frs'.map (·.1)) pins s H fp) elt te) (hs:∀ x,foldedSetIterable iter X.env x=pure x:=by intro _;rfl) (hf:X.fn y=true\/X.env.scope.names.lookup y=some .local:=by first | exact .inl rfl | exact .inr rfl | assumption) :
    PS X (.Assign [.Name y py] (.ListComp elt [⟨tg,iter,ifs,0⟩] scope pos) spos) (tAsg (tComp ts.length frs' wi g tt te) (gName i)):=by
  intro pins s σ H D I h
  rw [exec_Assign_Name_used _ _ _ _ hsw]
  refine wpAny_bind (wpAny_standAt (wpAny_bind ?_))
  show wpAny _ X.A (do let _ <- comprehension (.ListComp elt [⟨tg,iter,ifs,0⟩] scope pos) scope X.env _ (newList []) false (eval iter X.env) (some (assign (.Name y py) X.env))) _ _ s
  refine wpAny_bind (wpAny_mono (comp_go hc S hi hg ht he hs (Qv:=fun _ s'=>SP X pins D .next s') (use:=some (assign (.Name y py) X.env)) I h ?_) (fun _ s' hq=>wpAny_pure (wpAny_pure hq)) fun _ _ e=>e)
  intro C Da H5 s6 m6 I6 hn6 fpC hA qn
  show wpAny _ X.A (assign (.Name y py) X.env (.ref Da)) _ _ _
  refine wpAny_assign_Name (store_ok2 I6 hN hi' hy (v:=.ref Da) rfl (fun s7 I7 ⟨a,sb,ha⟩=>?_) hf)
  have hCa:C≠a:=by
    obtain ⟨_,h2,_,_,h5,_⟩:=fpC
    rcases ha with rfl | ha
    . exact h2
    . exact fun e=>h5 _ _ ha e.symm
  refine ⟨m6,hn6.sameBut sb hCa,fun h' hs'=>?_⟩
  obtain ⟨f0,f1,f2,f3,f4,f5⟩:=fpC
  exact ⟨_,H5,I7.turned (h':=h') (t':=s7.toks) (fun b o hb e=>(hs'.2 b hb).trans e) f0 f1 f3 f4 f5,qn⟩
noncomputable def uListOf (K:PySem.W.Frag):List V->Hp->VK->Prop:=fun xs H Q=>match xs with
  | [.ref p]=>∃ ys,Sq K H p ys/\∀ l,H l=none->Q (.ref l) (upd H l (.lst ys))
  | _=>False
theorem c_list {X:Cx}:CallR X (.type "list") (uListOf X.K):=call_list_of.imp fun xs H Q q=>by
  unfold uListOf at q
  split at q
  . obtain ⟨ys,h1,h2⟩:=q
    exact ⟨_,ys,rfl,h1,h2⟩
  . exact q.elim
end L2
namespace MM
noncomputable def sm (n:Nat) (f:Nat->Int):Int:=((List.range n).map f).sum
noncomputable abbrev at0 (l:List Int) (i:Nat):Int:=l.getD i 0
end MM
namespace MM
noncomputable def mc:Nat->Nat->Nat
  | _,0=>1
  | 0,_ + 1=>0
  | m + 1,j + 1=>mc m (j + 1) + mc (m + 1) j
noncomputable def ch:Nat->Nat->Nat
  | _,0=>1
  | 0,_ + 1=>0
  | n + 1,k + 1=>ch n k + ch n (k + 1)
noncomputable def part (w:Nat->Int) (s:Nat) (bs:List Int) (m n:Nat):Int:=sm (m + 1) fun j=>if j * s<=n then w j * at0 bs (n - j * s) else 0
end MM
namespace L2
open PySem PySem.Spec PyProof.Rows
theorem iteP {c A B:Prop} [Decidable c] (hc:c) (h:A):if c then A else B:=by rw [if_pos hc];exact h
theorem iteN {c A B:Prop} [Decidable c] (hc:¬ c) (h:B):if c then A else B:=by rw [if_neg hc];exact h
end L2
namespace L2
open PySem PySem.Spec PyProof.Rows
section
variable {X:Cx} {pins:List (Addr × Obj)} {σ:St} {H:Hp} {s:Shared}
theorem Inv.turnedL {h':Heap} {ch:List Addr} {T:Addr} {o:HO} {t':Nat} (I:Inv X pins σ H s) (hch:∀ b∈ch,FpOk X pins H b) (k:∀ b u,b ∉ ch->s.heap.get? b=some u->h'.get? b=some u) (hT:s.heap.objs.size<=T)
    (new:ObjOk X.prog X.w (upd H T o) h' T o):Inv X pins σ (upd H T o) { s with heap:=h',toks:=t' }:=by
  have hn:H T=none:=I.hok.fresh hT
  have nT:∀ b u,s.heap.get? b=some u->b≠T:=fun b u e=>Nat.ne_of_lt (Nat.lt_of_lt_of_le (Heap.lt_size e) hT)
  have nch:∀ b u,H b=some u->b ∉ ch:=fun b u e z=>by rw [(hch b z).1] at e;cases e
  refine I.step (g':=s.gens) (d':=s.drawn) (ch:=ch) (fun b hb=>?_) (fun b u _ _ hc e _=>k b u hc e) (fun b u _ _ hc e _=>⟨u.slots,k b u hc e⟩) (fun b u _ e n=>by rw [upd_ne (nT b u e)];exact n)
    (fun b u hc e=>⟨u,k b u hc e⟩) (fun b xs e=>by rw [upd_ne (ne_of_none e hn)];exact e) (fun b u v e=>by rw [upd_ne (ne_of_none e hn)];exact e) (fun b ps e=>⟨#[],by rw [upd_ne (ne_of_none e hn),e];simp⟩) (fun m hm=>?_) (fun b u e=>?_) I.bare
  . obtain ⟨h0,h1,h2,h3,h4,h5⟩:=hch b hb
    exact ⟨h3,h1,h4,h5⟩
  . obtain ⟨ob,es,ep,ho,r⟩:=hm
    exact ⟨ob,es,ep,k _ ob (fun z=>(hch _ z).2.1 rfl) ho,r⟩
  . by_cases hb:b=T
    . subst hb;rw [upd_same] at e;cases e;exact new
    . rw [upd_ne hb] at e
      refine (I.hok b u e).stay (fun c v hc q=>k c v ?_ q) (fun c q=>by rw [upd_ne (ne_of_none q hn)];exact q) fun c xs q=>by rw [upd_ne (ne_of_none q hn)];exact q
      rcases hc with z | z
      . rw [z];exact nch b u e
      . exact nch c _ z
theorem Inv.turnedM {h':Heap} {ch:List Addr} {t':Nat} (I:Inv X pins σ H s) (hch:∀ b∈ch,FpOk X pins H b) (k:∀ b u,b ∉ ch->s.heap.get? b=some u->h'.get? b=some u):Inv X pins σ H { s with heap:=h',toks:=t' }:=by
  have nch:∀ b u,H b=some u->b ∉ ch:=fun b u e z=>by rw [(hch b z).1] at e;cases e
  refine I.step (g':=s.gens) (d':=s.drawn) (ch:=ch) (fun b hb=>?_) (fun b u _ _ hc e _=>k b u hc e) (fun b u _ _ hc e _=>⟨u.slots,k b u hc e⟩) (fun _ _ _ _ n=>n)
    (fun b u hc e=>⟨u,k b u hc e⟩) (fun _ _ e=>e) (fun _ _ _ e=>e) (fun b ps e=>⟨#[],by rw [e];simp⟩) (fun m hm=>?_) (fun b u e=>?_) I.bare
  . obtain ⟨h0,h1,h2,h3,h4,h5⟩:=hch b hb
    exact ⟨h3,h1,h4,h5⟩
  . obtain ⟨ob,es,ep,ho,r⟩:=hm
    exact ⟨ob,es,ep,k _ ob (fun z=>(hch _ z).2.1 rfl) ho,r⟩
  . refine (I.hok b u e).stay (fun c v hc q=>k c v ?_ q) (fun _ q=>q) fun _ _ q=>q
    rcases hc with z | z
    . rw [z];exact nch b u e
    . exact nch c _ z
end
noncomputable def Itz (K:PySem.W.Frag) (a b:Addr):It :=
  ⟨fun i H=>∃ xs ys x y,SqL K H a xs/\SqL K H b ys/\xs[i]? = some x/\ys[i]? = some y,
   fun i H v H'=>∃ T x y,v=.ref T/\H T=none/\H'=upd H T (.tup [x,y])/\(∀ xs,SqL K H a xs->xs[i]? = some x)/\(∀ ys,SqL K H b ys->ys[i]? = some y),
   fun i H=>∃ xs ys,SqL K H a xs/\SqL K H b ys/\(xs.length<=i\/ys.length<=i)⟩
noncomputable def Ite (K:PySem.W.Frag) (a:Addr):It :=
  ⟨fun i H=>∃ xs x,SqL K H a xs/\xs[i]? = some x,
   fun i H v H'=>∃ T x,v=.ref T/\H T=none/\H'=upd H T (.tup [.int i,x])/\(∀ xs,SqL K H a xs->xs[i]? = some x),
   fun i H=>∃ xs,SqL K H a xs/\xs.length<=i⟩
theorem turn_zip {P:Program} {w:World} {K:PySem.W.Frag} {elts:List Expr} {k0} {pos:Pos} {z TI TO i1 i2 l1 l2:Addr} (D:ZipApart z TI TO i1 i2 l1 l2):Turn P w K (.Tuple elts k0 pos) (Itz K l1 l2) [z,TI,TO,i1,i2] z
    (fun i h=>IsZip h z TI TO .none/\IsPair h TI (.ref i1) (.ref i2)/\(∃ a b,IsPair h TO a b)/\h.IsListIter i1 l1 i/\h.IsListIter i2 l2 i) where
  mem:=by simp
  obj := fun i h st b hb=>by
    obtain ⟨hz,hTI,⟨a,c,hTO⟩,h1,h2⟩:=st
    simp only [List.mem_cons,List.not_mem_nil,or_false] at hb
    rcases hb with rfl | rfl | rfl | rfl | rfl
    . exact ⟨_,hz,fun v q=>nomatch q⟩
    . exact ⟨_,hTI,fun v q=>nomatch q⟩
    . exact ⟨_,hTO,fun v q=>nomatch q⟩
    . obtain ⟨o,e,c,d⟩:=h1
      exact ⟨o,e,fun v q=>by rw [d] at q;cases q⟩
    . obtain ⟨o,e,c,d⟩:=h2
      exact ⟨o,e,fun v q=>by rw [d] at q;cases q⟩
  keep:=fun i h h' st k=>by
    obtain ⟨hz,hTI,⟨a,c,hTO⟩,h1,h2⟩:=st
    exact ⟨k z (by simp) _ hz,k TI (by simp) _ hTI,⟨a,c,k TO (by simp) _ hTO⟩,h1.at fun o e=>k i1 (by simp) o e,h2.at fun o e=>k i2 (by simp) o e⟩
  item := by
    intro X hP hw hK hc i pins s σ H E I hf st hg
    subst hP hw hK
    obtain ⟨hz,hTI,⟨a,c,hTO⟩,h1,h2⟩:=st
    obtain ⟨xs,ys,x,y,hx,hy,hxi,hyi⟩:=hg
    obtain ⟨its,rv,p,_⟩:=I.list hx
    obtain ⟨its2,rv2,p2,_⟩:=I.list hy
    obtain ⟨u,hu,ru⟩:=rv.get hxi
    obtain ⟨u2,hu2,ru2⟩:=rv2.get hyi
    refine wpAny_pyNext_zip_item D hz hTI hTO h1 h2 p.isList p2.isList (x:=u) (y:=u2) (by simpa using hu) (by simpa using hu2) fun h' a1 a2 a3 a4 a5 a6 hk=>?_
    refine ⟨_,rfl,wpAny_letOwnedTupleGo_zip a1 fun h'' hz' sb=>?_⟩
    have nz:s.heap.objs.size≠z:=Nat.ne_of_gt (Heap.lt_size hz)
    have hT':IsTup h'' s.heap.objs.size [u,u2].toArray:=⟨_,sb.extBut _ _ nz a5,rfl,_,rfl⟩
    have I':Inv X pins σ (upd H s.heap.objs.size (.tup [x,y])) { s with heap:=h'',toks:=s.toks }:=I.turnedL (ch:=[z,TI,TO,i1,i2]) hf (fun b o hb e=>by
      simp only [List.mem_cons,List.not_mem_nil,or_false,not_or] at hb
      exact sb.extBut _ _ hb.1 (hk b o hb.1 hb.2.2.1 hb.2.2.2.1 hb.2.2.2.2 e)) (Nat.le_refl _) ⟨by show 2<=sizeLine;decide,[u,u2],.cons ru (.cons ru2 .nil),hT'⟩
    have hn:H s.heap.objs.size=none:=I.hok.fresh (Nat.le_refl _)
    refine ⟨.ref s.heap.objs.size,_,I',rfl,⟨_,x,y,rfl,hn,rfl,fun zs hzs=>by rw [I.list_inj hzs hx];exact hxi,fun zs hzs=>by rw [I.list_inj hzs hy];exact hyi⟩,
      ⟨hz',sb.extBut _ _ D.TIz (hk _ _ D.TIz D.TITO D.TIi1 D.TIi2 hTI),⟨_,_,sb.extBut _ _ D.TOz a2⟩,a3.extBut sb.extBut D.i1z,a4.extBut sb.extBut D.i2z⟩,fun b hb=>?_⟩
    have hfb:=(hf b hb).1
    have : b≠s.heap.objs.size:=by
      obtain ⟨o,e⟩:∃ o,s.heap.get? b=some o:=by
        simp only [List.mem_cons,List.not_mem_nil,or_false] at hb
        rcases hb with rfl | rfl | rfl | rfl | rfl
        . exact ⟨_,hz⟩
        . exact ⟨_,hTI⟩
        . exact ⟨_,hTO⟩
        . obtain ⟨o,e,_⟩:=h1;exact ⟨o,e⟩
        . obtain ⟨o,e,_⟩:=h2;exact ⟨o,e⟩
      exact Nat.ne_of_lt (Heap.lt_size e)
    rw [upd_ne this];exact hfb
  done := by
    intro X hP hw hK hc i pins s σ H E I hf st hg
    subst hP hw hK
    obtain ⟨hz,hTI,⟨a,c,hTO⟩,h1,h2⟩:=st
    obtain ⟨xs,ys,hx,hy,hend⟩:=hg
    obtain ⟨its,rv,p,_⟩:=I.list hx
    obtain ⟨its2,rv2,p2,_⟩:=I.list hy
    have hl:=rv.length
    have hl2:=rv2.length
    refine wpAny_pyNext_zip_end (I.ok.hd hc) D hz hTI hTO h1 h2 p.isList p2.isList ?_ fun h' hk=>⟨rfl,I.turnedM (t':=s.toks) (ch:=[z,TI,TO,i1,i2]) hf (fun b o hb e=>by
      simp only [List.mem_cons,List.not_mem_nil,or_false,not_or] at hb
      exact hk b o hb.1 hb.2.2.1 hb.2.2.2.1 hb.2.2.2.2 e)⟩
    rcases hend with h | h
    . exact .inl (by simp;lia)
    . exact .inr (by simp;lia)
  self:=fun _ _ _ _ _ st h=>wpAny_pyIter_zip st.1 h
theorem turn_enum {P:Program} {w:World} {K:PySem.W.Frag} {elts:List Expr} {k0} {pos:Pos} {e it l:Addr} (hne:e≠it):Turn P w K (.Tuple elts k0 pos) (Ite K l) [e,it] e
    (fun i h=>(∃ old,IsEnum h e it i old)/\h.IsListIter it l i) where
  mem:=by simp
  obj := fun i h st b hb=>by
    obtain ⟨⟨old,he⟩,h1⟩:=st
    simp only [List.mem_cons,List.not_mem_nil,or_false] at hb
    rcases hb with rfl | rfl
    . exact ⟨_,he,fun v q=>nomatch q⟩
    . obtain ⟨o,e,c,d⟩:=h1
      exact ⟨o,e,fun v q=>by rw [d] at q;cases q⟩
  keep:=fun i h h' st k=>by
    obtain ⟨⟨old,he⟩,h1⟩:=st
    exact ⟨⟨old,k e (by simp) _ he⟩,h1.at fun o q=>k it (by simp) o q⟩
  item := by
    intro X hP hw hK hc i pins s σ H E I hf st hg
    subst hP hw hK
    obtain ⟨⟨old,he⟩,h1⟩:=st
    obtain ⟨xs,x,hx,hxi⟩:=hg
    obtain ⟨its,rv,p,_⟩:=I.list hx
    obtain ⟨u,hu,ru⟩:=rv.get hxi
    refine wpAny_pyNext_enum_item he h1 p.isList (x:=u) (by simpa using hu) hne fun h' a1 a2 a3 a4 hk=>?_
    refine ⟨_,rfl,wpAny_letOwnedTupleGo_enum a1 fun h'' he' sb=>?_⟩
    have nz:s.heap.objs.size≠e:=Nat.ne_of_gt (Heap.lt_size he)
    have hT':IsTup h'' s.heap.objs.size [Value.int i s.toks,u].toArray:=⟨_,sb.extBut _ _ nz a3,rfl,_,rfl⟩
    have I':Inv X pins σ (upd H s.heap.objs.size (.tup [.int i,x])) { s with heap:=h'',toks:=s.toks + 1 }:=I.turnedL (ch:=[e,it]) hf (fun b o hb q=>by
      simp only [List.mem_cons,List.not_mem_nil,or_false,not_or] at hb
      exact sb.extBut _ _ hb.1 (hk b o hb.1 hb.2 q)) (Nat.le_refl _) ⟨by show 2<=sizeLine;decide,[Value.int i s.toks,u],.cons ⟨_,rfl⟩ (.cons ru .nil),hT'⟩
    have hn:H s.heap.objs.size=none:=I.hok.fresh (Nat.le_refl _)
    refine ⟨.ref s.heap.objs.size,_,I',rfl,⟨_,x,rfl,hn,rfl,fun zs hzs=>by rw [I.list_inj hzs hx];exact hxi⟩,⟨⟨_,by push_cast;exact he'⟩,a2.extBut sb.extBut (Ne.symm hne)⟩,fun b hb=>?_⟩
    have hfb:=(hf b hb).1
    have : b≠s.heap.objs.size:=by
      obtain ⟨o,q⟩:∃ o,s.heap.get? b=some o:=by
        simp only [List.mem_cons,List.not_mem_nil,or_false] at hb
        rcases hb with rfl | rfl
        . exact ⟨_,he⟩
        . obtain ⟨o,q,_⟩:=h1;exact ⟨o,q⟩
      exact Nat.ne_of_lt (Heap.lt_size q)
    rw [upd_ne this];exact hfb
  done := by
    intro X hP hw hK hc i pins s σ H E I hf st hg
    subst hP hw hK
    obtain ⟨⟨old,he⟩,h1⟩:=st
    obtain ⟨xs,hx,hend⟩:=hg
    obtain ⟨its,rv,p,_⟩:=I.list hx
    have hl:=rv.length
    exact wpAny_pyNext_enum_end (I.ok.hd hc) he h1 p.isList (by simp;lia) fun h' hk=>⟨rfl,I.turnedM (t':=s.toks) (ch:=[e,it]) hf (fun b o hb q=>by
      simp only [List.mem_cons,List.not_mem_nil,or_false,not_or] at hb
      exact hk b o hb.2 q)⟩
  self:=fun _ _ _ _ _ st h=>by
    obtain ⟨⟨old,he⟩,h1⟩:=st
    exact wpAny_pyIter_enum he h
noncomputable def uZip (K:PySem.W.Frag):List V->Hp->(It->Hp->Prop)->Prop:=fun vs H R=>match vs with
  | [.ref a,.ref b]=>(∃ xs ys,SqL K H a xs/\SqL K H b ys)/\R (Itz K a b) H
  | _=>False
noncomputable def uEnum (K:PySem.W.Frag):List V->Hp->(It->Hp->Prop)->Prop:=fun vs H R=>match vs with
  | [.ref a]=>(∃ xs,SqL K H a xs)/\R (Ite K a) H
  | _=>False
noncomputable def jArgs (u:List V->Hp->(It->Hp->Prop)->Prop) (ta:TA):TI:=fun σ H R=>ta σ H fun vs H1=>u vs H1 R
theorem boot_enumerate:bootBuiltins "enumerate"=some (.type "enumerate"):=by decide +kernel
theorem g2 {K:PySem.W.Frag} {T:Addr} {x y:V} {k0 k1:Option V} {fr:St} {H:Hp} {Q:St->Hp->Prop} (h:SqT K H T [x,y]) (q:Q (some x::some y::fr) H):gTup K 2 (gCons (gName 0) (gCons (gName 1) gNil)) (.ref T) (k0::k1::fr) H Q :=
  ⟨T,_,rfl,h,rfl,_,_,rfl,_,_,rfl,rfl,q⟩
end L2
namespace L2
open PySem PySem.Spec PyProof.Rows
end L2
namespace L2
open PySem PySem.Spec PyProof.Rows
theorem argBest_min (ns:List Int):∀ k i,i<=k->MM.at0 ns (argBest (fun i j=>decide (MM.at0 ns i < MM.at0 ns j)) k)<=MM.at0 ns i
  | 0, i,h=>by
    have:i=0:=by lia
    subst this
    exact Int.le_refl _
  | k + 1, i,h=>by
    rw [argBest]
    have ih:=argBest_min ns k
    split
    . rename_i hb
      have hb:=of_decide_eq_true hb
      by_cases e:i=k + 1
      . rw [e];exact Int.le_refl _
      . have:=ih i (by lia)
        lia
    . rename_i hb
      have hb:¬ (MM.at0 ns (k + 1) < MM.at0 ns (argBest (fun i j=>decide (MM.at0 ns i < MM.at0 ns j)) k)):=fun z=>hb (decide_eq_true z)
      by_cases e:i=k + 1
      . rw [e];lia
      . exact ih i (by lia)
theorem argBest_max (ns:List Int):∀ k i,i<=k->MM.at0 ns i<=MM.at0 ns (argBest (fun i j=>decide (MM.at0 ns j < MM.at0 ns i)) k)
  | 0, i,h=>by
    have:i=0:=by lia
    subst this
    exact Int.le_refl _
  | k + 1, i,h=>by
    rw [argBest]
    have ih:=argBest_max ns k
    split
    . rename_i hb
      have hb:=of_decide_eq_true hb
      by_cases e:i=k + 1
      . rw [e];exact Int.le_refl _
      . have:=ih i (by lia)
        lia
    . rename_i hb
      have hb:¬ (MM.at0 ns (argBest (fun i j=>decide (MM.at0 ns j < MM.at0 ns i)) k) < MM.at0 ns (k + 1)):=fun z=>hb (decide_eq_true z)
      by_cases e:i=k + 1
      . rw [e];lia
      . exact ih i (by lia)
theorem at0_mem {ns:List Int} {i:Nat} (h:i < ns.length):MM.at0 ns i∈ns:=by
  unfold MM.at0
  rw [List.getD_eq_getElem?_getD,List.getElem?_eq_getElem h]
  exact List.getElem_mem h
theorem mem_at0 {ns:List Int} {x:Int} (h:x∈ns):∃ i,i < ns.length/\MM.at0 ns i=x:=by
  obtain ⟨i,hi,e⟩:=List.mem_iff_getElem.mp h
  refine ⟨i,hi,?_⟩
  unfold MM.at0
  rw [List.getD_eq_getElem?_getD,List.getElem?_eq_getElem hi]
  exact e
theorem vals_at0 {ns:List Int} {its:List Value} (rv:Vals (ns.map V.int) its) {i:Nat} {v:Value} (h:its.toArray[i]? = some v):i < ns.length/\∃ t,v=.int (MM.at0 ns i) t:=by
  have hv':its[i]? = some v:=by simpa using h
  have hlen:=rv.length
  have hi:i < ns.length:=by
    have:=(List.getElem?_eq_some_iff.mp hv').1
    rw [List.length_map] at hlen
    lia
  refine ⟨hi,?_⟩
  have e:(ns.map V.int)[i]? = some (.int (MM.at0 ns i)):=by
    rw [List.getElem?_map,List.getElem?_eq_getElem hi]
    unfold MM.at0
    rw [List.getD_eq_getElem?_getD,List.getElem?_eq_getElem hi]
    rfl
  obtain ⟨u,hu,ru⟩:=rv.get e
  rw [hv'] at hu
  cases hu
  exact ru
section
variable {X:Cx}
noncomputable def uMinA (K:PySem.W.Frag):List V->Hp->VK->Prop:=fun xs H Q=>match xs with
  | [.int i,.int j]=>Q (.int (min i j)) H
  | [.ref p]=>∃ ns:List Int,SqL K H p (ns.map V.int)/\1<=ns.length/\∀ m,m∈ns->(∀ x∈ns,m<=x)->Q (.int m) H
  | _=>False
noncomputable def uMaxA (K:PySem.W.Frag):List V->Hp->VK->Prop:=fun xs H Q=>match xs with
  | [.int i,.int j]=>Q (.int (max i j)) H
  | [.ref p]=>∃ ns:List Int,SqL K H p (ns.map V.int)/\1<=ns.length/\∀ m,m∈ns->(∀ x∈ns,x<=m)->Q (.int m) H
  | _=>False
theorem c_minL (hc:X.calm=true):CallR X (.builtin "min") (fun xs H Q=>∃ (p:Addr) (ns:List Int),xs=[.ref p]/\SqL X.K H p (ns.map V.int)/\1<=ns.length/\∀ m,m∈ns->(∀ x∈ns,m<=x)->Q (.int m) H):=by
  intro pins s σ H xs us Q I r h
  obtain ⟨p,ns,rfl,hl,h1,q⟩:=h
  obtain ⟨u,rfl,ru⟩:=r.one
  cases ru
  obtain ⟨its,rv,pl,hz⟩:=I.list hl
  have hlen:its.toArray.size=ns.length:=by have:=rv.length;simp at this;simp;lia
  have hp:p < s.heap.objs.size:=by obtain ⟨o,n,e,_⟩:=pl;exact Heap.lt_size e
  refine call_min_walk (wpAny_pyIter_list pl.isList ?_)
  refine ⟨s.heap.objs.size,_,_,_,_,_,fun i j=>decide (MM.at0 ns i < MM.at0 ns j),rfl,Walks.list (show X.A.in1.handled=none from I.ok.hd hc) s.heap.objs.size p (Nat.ne_of_lt hp) its.toArray,⟨⟨_,Heap.get?_push_size _ rfl,rfl,rfl⟩,pl.isList.at fun o e=>Heap.get?_push_of_some _ e⟩,?_,by rw [hlen];exact h1,?_,?_⟩
  . intro b hb
    rw [Heap.size_push]
    rcases List.mem_cons.mp hb with rfl | hb
    . exact Nat.lt_succ_self _
    . have:b=p:=by simpa using hb
      subst this
      exact Nat.lt_succ_of_lt hp
  . intro i j vi vj s' Q' E' hi hj hq
    obtain ⟨_,t,rfl⟩:=vals_at0 rv hi
    obtain ⟨_,t',rfl⟩:=vals_at0 rv hj
    exact HT.rcLt_int _ _ _ _ _ _ _ _ _ _ hq
  . intro v h' tk hv hk
    obtain ⟨hi,t,rfl⟩:=vals_at0 rv hv
    rw [hlen] at hi ⊢
    refine ⟨.int _,H,I.kept (t':=tk) fun b o e=>hk b o (by simp;exact Nat.ne_of_lt (Heap.lt_size e)) (Heap.get?_push_of_some _ e),⟨_,rfl⟩,q _ (at0_mem hi) fun x hx=>?_⟩
    obtain ⟨j,hj,rfl⟩:=mem_at0 hx
    exact argBest_min ns (ns.length - 1) j (by lia)
theorem c_maxL (hc:X.calm=true):CallR X (.builtin "max") (fun xs H Q=>∃ (p:Addr) (ns:List Int),xs=[.ref p]/\SqL X.K H p (ns.map V.int)/\1<=ns.length/\∀ m,m∈ns->(∀ x∈ns,x<=m)->Q (.int m) H):=by
  intro pins s σ H xs us Q I r h
  obtain ⟨p,ns,rfl,hl,h1,q⟩:=h
  obtain ⟨u,rfl,ru⟩:=r.one
  cases ru
  obtain ⟨its,rv,pl,hz⟩:=I.list hl
  have hlen:its.toArray.size=ns.length:=by have:=rv.length;simp at this;simp;lia
  have hp:p < s.heap.objs.size:=by obtain ⟨o,n,e,_⟩:=pl;exact Heap.lt_size e
  refine call_max_walk (wpAny_pyIter_list pl.isList ?_)
  refine ⟨s.heap.objs.size,_,_,_,_,_,fun i j=>decide (MM.at0 ns j < MM.at0 ns i),rfl,Walks.list (show X.A.in1.handled=none from I.ok.hd hc) s.heap.objs.size p (Nat.ne_of_lt hp) its.toArray,⟨⟨_,Heap.get?_push_size _ rfl,rfl,rfl⟩,pl.isList.at fun o e=>Heap.get?_push_of_some _ e⟩,?_,by rw [hlen];exact h1,?_,?_⟩
  . intro b hb
    rw [Heap.size_push]
    rcases List.mem_cons.mp hb with rfl | hb
    . exact Nat.lt_succ_self _
    . have:b=p:=by simpa using hb
      subst this
      exact Nat.lt_succ_of_lt hp
  . intro i j vi vj s' Q' E' hi hj hq
    obtain ⟨_,t,rfl⟩:=vals_at0 rv hi
    obtain ⟨_,t',rfl⟩:=vals_at0 rv hj
    have hq':Q' (.bool (decide (MM.at0 ns i > MM.at0 ns j))) s':=hq
    exact (PyProof.Rows.gt_int hq':wpAny _ _ (compareOp .Gt _ _) _ _ _)
  . intro v h' tk hv hk
    obtain ⟨hi,t,rfl⟩:=vals_at0 rv hv
    rw [hlen] at hi ⊢
    refine ⟨.int _,H,I.kept (t':=tk) fun b o e=>hk b o (by simp;exact Nat.ne_of_lt (Heap.lt_size e)) (Heap.get?_push_of_some _ e),⟨_,rfl⟩,q _ (at0_mem hi) fun x hx=>?_⟩
    obtain ⟨j,hj,rfl⟩:=mem_at0 hx
    exact argBest_max ns (ns.length - 1) j (by lia)
theorem c_minA (hc:X.calm=true):CallR X (.builtin "min") (uMinA X.K):=((c_min hc).or (c_minL hc)).imp fun xs H Q q=>by
  unfold uMinA at q
  split at q
  . exact .inl q
  . obtain ⟨ns,h1,h2,h3⟩:=q
    exact .inr ⟨_,ns,rfl,h1,h2,h3⟩
  . exact q.elim
theorem c_maxA (hc:X.calm=true):CallR X (.builtin "max") (uMaxA X.K):=((c_max hc).or (c_maxL hc)).imp fun xs H Q q=>by
  unfold uMaxA at q
  split at q
  . exact .inl q
  . obtain ⟨ns,h1,h2,h3⟩:=q
    exact .inr ⟨_,ns,rfl,h1,h2,h3⟩
  . exact q.elim
end
end L2
namespace L2
open PySem PySem.Spec PyProof.Rows
section
variable {prog:Program} {w:World} {A:Around} {E:Value->Shared->Prop} {s:Shared}
theorem cat_tup0 {t b:Addr} {ws:List Value} {Q:Value->Shared->Prop} (ht:IsTup s.heap t #[]) (hb:IsTup s.heap b ws.toArray) (h:Q (.ref b) s):wpAny (model prog w) A (binaryOp .Add (.ref t) (.ref b)) Q E s:=by
  obtain ⟨⟨c1,d1,x1,l1⟩,g1,k1,n1,z1⟩:=id ht
  obtain ⟨⟨c2,d2,x2,l2⟩,g2,k2,n2,z2⟩:=id hb
  simp only at k1 z1 k2 z2
  subst k1 z1 k2 z2
  exact concat_meets ⟨_,g1,rfl⟩ ⟨_,g2,rfl⟩ PySem.noFill_tuple_add PySem.seq_tuple_add PySem.F.slot_tuple_add PySem.F.entry_tuple_add (PySem.F.args_tuple_add_2 _ _) (tuple_addW0 t b #[] ws.toArray n1 n2 d1 d2 l1 l2 rfl) ⟨g1,g2,h⟩
end
section
variable {X:Cx}
noncomputable def rCatU (K:PySem.W.Frag):R2:=fun x y H Q=>∃ a b xs ys,x=.ref a/\y=.ref b/\SqT K H a xs/\SqT K H b ys/\xs.length + ys.length<=sizeLine/\∀ p H',Same H H'->SqT K H' p (xs++ys)->Q (.ref p) H'
theorem op_catU:OpR X (binaryOp .Add) (rCatU X.K):=by
  intro pins s σ H x y v u Q I rx ry h
  obtain ⟨a,b,xs,ys,rfl,rfl,ha,hb,hz,q⟩:=h
  by_cases hx:xs=[]
  . subst hx
    cases rx
    cases ry
    obtain ⟨its,r1,p1,_⟩:=I.tuple ha
    obtain ⟨its2,r2,p2,_⟩:=I.tuple hb
    cases r1
    exact cat_tup0 p1 p2 ⟨.ref b,H,I,rfl,q b H (Same.refl _) hb⟩
  . refine op_catT pins s σ H (.ref a) (.ref b) v u Q I rx ry ⟨a,b,xs,ys,rfl,rfl,ha,hb,hx,hz,fun e=>?_,fun _ p hp=>?_⟩
    . subst e
      exact q a H (Same.refl _) (by rw [List.append_nil];exact ha)
    . exact q p _ (Same.upd_new hp) (SqT.of upd_same)
noncomputable def rSlU (K:PySem.W.Frag):V->Option Int->Option Int->Hp->VK->Prop:=fun x lo hi H Q=>∃ a xs,x=.ref a/\SqT K H a xs/\∀ p H',Same H H'->SqT K H' p (cutV xs lo hi)->Q (.ref p) H'
end
section
variable {prog:Program} {w:World} {A:Around} {E:Value->Shared->Prop} {s:Shared}
theorem cut_whole {t sl:Addr} {items:Array Value} {vl vu:Value} {lo hi:Option Int} {Q:Value->Shared->Prop} (ht:IsTup s.heap t items) (hs:s.heap.IsSliceOf sl vl vu .none) (pl:IsPart vl lo) (pu:IsPart vu hi)
    (h1:HT.sIx items.size 0 lo=0) (h2:HT.sIx items.size items.size hi=items.size) (h:Q (.ref t) s):wpAny (model prog w) A (getItem (.ref t) (.ref sl)) Q E s:=by
  obtain ⟨ob,g1,g2,g3⟩:=id hs
  have hT:s.TypeIs (.ref sl) "slice":=⟨ob,g1,g2⟩
  unfold getItem
  try with_reducible refine wpAny_holding ?_
  first | refine wpAny_bind (wpAny_pure ?_) | skip
  refine wpAny_bind (wpAny_sequenceKey ht.typeIs (by decide) ?_)
  have key:wpAny (model prog w) A.in1 (Builtin.«tuple.__getitem__» ⟨[.ref t,.ref sl],[]⟩) (fun fin s'=>∃ v,fin=.done (.ret v)/\Q v s') E s:=by
    show wpAny _ _ (Builtin.Tuple.tupleItemsOf (.ref t) >>= _) _ _ s
    refine wpAny_bind (PyProof.Rows.tupleItemsOf_ ht (wpAny_bind (wpAny_typeOf hT ?_)))
    rw [if_pos (by decide)]
    refine wpAny_bind (HT.sliceApplied_gen hs pl pu ?_)
    rw [h1,h2]
    show wpAny _ _ (if ((((0:Nat):Int) == 0 && (1:Int) == 1 && (items.size - 0) == items.size))=true then _ else _) _ _ s
    rw [if_pos (by simp)]
    refine wpAny_bind (wpAny_bind (wpAny_typeOf ht.typeIs (wpAny_pure ?_)))
    rw [if_pos (by decide)]
    exact wpAny_bind (wpAny_rule (wpAny_pure ⟨_,rfl,h⟩))
  exact wpAny_bind (wpAny_callSpecial?_slot (name:=Str.ofString "__getitem__") ht.typeIs PyProof.Rows.slot_tuple_getitem (wpAny_call_entry PyProof.Rows.slot_tuple_getitem ht.typeIs PyProof.Rows.entry_tuple_getitem (wpAny_mono key (fun fin s' ⟨v,e,q⟩=>⟨v,e,wpAny_pure q⟩) fun _ _ z=>z) (PyProof.Rows.args_tuple_getitem _ _)))
end
section
variable {X:Cx}
theorem cutV_whole {xs:List V} {lo hi:Option Int} (h1:HT.sIx xs.length 0 lo=0) (h2:HT.sIx xs.length xs.length hi=xs.length):cutV xs lo hi=xs:=by
  unfold cutV
  rw [h1,h2,List.drop_zero,Nat.sub_zero,List.take_length]
theorem sl_tupU:SlR X (rSlU X.K):=by
  intro pins s σ H x v vl vu lo hi sl Q I rx hs pl pu h
  obtain ⟨a,xs,rfl,hx,q⟩:=h
  by_cases hw:HT.sIx xs.length 0 lo=0/\HT.sIx xs.length xs.length hi=xs.length
  . cases rx
    obtain ⟨its,r,ht,hz⟩:=I.tuple hx
    have hlen:its.toArray.size=xs.length:=by rw [List.size_toArray];exact r.length.symm
    refine ⟨"tuple",_,PyProof.Rows.slot_tuple_getitem.lookup,ht.typeIs,cut_whole ht hs pl pu (by rw [hlen];exact hw.1) (by rw [hlen];exact hw.2) ⟨.ref a,H,I,rfl,q a H (Same.refl _) ?_⟩⟩
    rw [cutV_whole hw.1 hw.2]
    exact hx
  . exact sl_tup pins s σ H (.ref a) v vl vu lo hi sl Q I rx hs pl pu ⟨a,xs,rfl,hx,hw,fun p hp=>q p _ (Same.upd_new hp) (SqT.of upd_same)⟩
noncomputable def uAddW (K:PySem.W.Frag):R2:=fun x y H Q=>match x,y with
  | .int i,.int j=>Q (.int (i + j)) H
  | .str i,.str j=>i.length + j.length<=sizeLine/\Q (.str (i++j)) H
  | .ref a,.ref b=>(∃ xs zs,SqL K H a xs/\SqL K H b zs/\xs.length + zs.length<=sizeLine/\∀ p,H p=none->Q (.ref p) (upd H p (.lst (xs++zs)))) \/
      (∃ xs zs,SqT K H a xs/\SqT K H b zs/\xs.length + zs.length<=sizeLine/\∀ p H',Same H H'->SqT K H' p (xs++zs)->Q (.ref p) H')
  | _,_=>False
theorem o_addW:OpR X (binaryOp .Add) (uAddW X.K):=((op_add.or op_add_str).or (op_catL.or op_catU)).imp fun x y H Q q=>by
  unfold uAddW at q
  split at q
  . exact .inl (.inl ⟨_,_,rfl,rfl,q⟩)
  . exact .inl (.inr ⟨_,_,rfl,rfl,q.1,q.2⟩)
  . rcases q with ⟨xs,zs,h1,h2,h3,h4⟩ | ⟨xs,zs,h1,h2,h3,h4⟩
    . exact .inr (.inl ⟨_,_,xs,zs,rfl,rfl,h1,h2,h3,h4⟩)
    . exact .inr (.inr ⟨_,_,xs,zs,rfl,rfl,h1,h2,h3,h4⟩)
  . exact q.elim
theorem k_addW (K:PySem.W.Frag) (h:X.K=K):OpR X (binaryOp .Add) (uAddW K):=h ▸ o_addW
noncomputable def uSlW (K:PySem.W.Frag):V->Option Int->Option Int->Hp->VK->Prop:=fun x lo hi H Q=>match x with
  | .str z=>z.length<=sizeLine/\Q (.str (cutS z lo hi)) H
  | .ref a=>(∃ xs,SqL K H a xs/\∀ p,H p=none->Q (.ref p) (upd H p (.lst (cutV xs lo hi))))\/(∃ xs,SqT K H a xs/\∀ p H',Same H H'->SqT K H' p (cutV xs lo hi)->Q (.ref p) H')
  | _=>False
theorem o_slW:SlR X (uSlW X.K):=by
  intro pins s σ H x v vl vu lo hi sl Q I rx hs pl pu q
  unfold uSlW at q
  split at q
  . exact sl_str pins s σ H _ v vl vu lo hi sl Q I rx hs pl pu ⟨_,rfl,q.1,q.2⟩
  . rcases q with ⟨xs,h1,h2⟩ | ⟨xs,h1,h2⟩
    . exact sl_list pins s σ H _ v vl vu lo hi sl Q I rx hs pl pu ⟨_,xs,rfl,h1,h2⟩
    . exact sl_tupU pins s σ H _ v vl vu lo hi sl Q I rx hs pl pu ⟨_,xs,rfl,h1,h2⟩
  . exact q.elim
end
section
open PySem.AutoSeq1 (wpAny_loadPart')
variable {prog:Program} {w:World} {A:Around} {E:Value->Shared->Prop} {s:Shared}
theorem enum_new_tup (t:Addr) (items:Array Value) (n:Nat) (dd:Option Addr) (sl:Array (Option Value)) :
    Meets (Builtin.«enumerate.__new__» ⟨[.type "enumerate",.ref t],[]⟩) (fun _ R s=>s.heap.get? t=some { cls:=.type "tuple",dict:=dd,data:=.seq items n,slots:=sl } /\
      R (.ok (.ret (.ref (s.heap.push { cls:=.type "tuple_iterator",data:=.fields #[.ref t,.int 0 0] }).objs.size)))
        { s with heap:=(s.heap.push { cls:=.type "tuple_iterator",data:=.fields #[.ref t,.int 0 0] }).push { cls:=.type "enumerate",data:=.fields #[.none,.bool false,.ref s.heap.objs.size,rawInt 0,.none,.none] } }) :=
  .of_wp fun prog w A R s hq0=>by
    obtain ⟨g1,g2⟩:=hq0
    obtain ⟨hp,ge,dr,tk,os⟩:=s
    have es:=sub_enumerate
    have hL:Heap.IsTuple (Shared.heap ⟨hp,ge,dr,tk,os⟩) t items:=⟨_,g1,rfl,n,rfl⟩
    wp_walk using wpAny_loadPart' g1
    refine wpAny_stack_any fun st=>wpAny_pure ?_
    split
    . rename_i cc _ _ _ _ _
      cases (cc == Value.type "enumerate") <;> (wp_walk using wpAny_loadPart' g1,wpAny_pyIter_tuple hL;exact ⟨_,rfl,g2⟩)
    . wp_walk using wpAny_loadPart' g1,wpAny_pyIter_tuple hL
      exact ⟨_,rfl,g2⟩
end
section
variable {prog:Program} {w:World} {A:Around} {E:Value->Shared->Prop} {s:Shared}
theorem call_enum_tup {t:Addr} {items:Array Value} {Q:Value->Shared->Prop} (ht:s.heap.IsTuple t items)
    (h:∀ h',IsEnum h' (s.heap.objs.size + 1) s.heap.objs.size 0 .none->h'.IsTupleIter s.heap.objs.size t 0->(∀ b o,s.heap.get? b=some o->h'.get? b=some o)->Q (.ref (s.heap.objs.size + 1)) { s with heap:=h' }) :
    wpAny (model prog w) A (call (.type "enumerate") [.ref t]) Q E s:=by
  obtain ⟨⟨c,dd,dt,sl⟩,g1,k1,n,k2⟩:=ht
  simp only at k1 k2
  subst k1 k2
  have e1:(s.heap.push { cls:=.type "tuple_iterator",data:=.fields #[.ref t,.int 0 0] }).objs.size=s.heap.objs.size + 1:=Heap.size_push ..
  have e2:IsEnum ((s.heap.push { cls:=.type "tuple_iterator",data:=.fields #[.ref t,.int 0 0] }).push { cls:=.type "enumerate",data:=.fields #[.none,.bool false,.ref s.heap.objs.size,rawInt 0,.none,.none] }) (s.heap.objs.size + 1) s.heap.objs.size 0 .none:=by
    rw [<- e1]
    exact Heap.get?_push_size _ rfl
  refine callType_new F.called_enumerate (by decide) (F.typeCall_enumerate_1 _) (F.newCall_enumerate_1 _) (fun ob=>F.args_object_init_2 ob _) F.entry_enumerate_new (enum_new_tup t items n dd sl) ⟨g1,?_⟩
  show _/\_
  rw [e1]
  exact ⟨⟨_,e2,rfl⟩,h _ e2 ⟨_,Heap.get?_push_of_some _ (Heap.get?_push_size _ rfl),rfl,rfl⟩ fun b o z=>Heap.get?_push_of_some _ (Heap.get?_push_of_some _ z)⟩
theorem next_tup_item {it t:Addr} {i:Nat} {items:Array Value} {x:Value} {Q:Value->Shared->Prop} (st:s.heap.IsTupleIter it t i) (ht:s.heap.IsTuple t items) (hx:items[i]? = some x)
    (hQ:∀ h',h'.IsTupleIter it t (i + 1)->Heap.SameBut it s.heap h'->Q x { s with heap:=h' }):wpAny (model prog w) A (Builtin.SmallTypes.nextOf (.ref it)) Q E s:=by
  obtain ⟨ob,g1,g2,g3⟩:=id st
  obtain ⟨ol,k1,k2,n,k3⟩:=ht
  have no:¬ ((Value.ref t == Value.none)=true):=Bool.false_ne_true
  unfold Builtin.SmallTypes.nextOf
  refine wpAny_bind (wpAny_callSpecial?_slot (name:=Str.ofString "__next__") st.typeIs F.slot_tuple_iterator_next (wpAny_call_entry F.slot_tuple_iterator_next st.typeIs F.entry_tuple_iterator_next ?_ (F.args_tuple_iterator_next_1 _)))
  refine (show wpAny _ _ (field (.ref it) 0 >>= _) _ _ s from wpAny_bind (wpAny_field g1 g3 (x:=.ref t) rfl ?_))
  refine (show wpAny _ _ (if (Value.ref t == Value.none)=true then _ else _) _ _ s from ?_)
  rw [if_neg no]
  refine (show wpAny _ _ (field (.ref it) 1 >>= _) _ _ s from wpAny_bind (wpAny_field g1 g3 (x:=.int i 0) rfl ?_))
  refine (show wpAny _ _ (seqItems? (.ref t) >>= _) _ _ s from wpAny_bind (wpAny_seqItems k1 k3 ?_))
  simp only [hx,Int.toNat_natCast]
  refine wpAny_bind (wpAny_setField g1 g3 (by simp) (wpAny_pure ⟨x,rfl,wpAny_pure (hQ _ ⟨_,Heap.get?_update_self _ g1 (Obj.isFreed_of_fields (Obj.data_mapFields g3 _)),(Obj.cls_mapFields ..).trans g2,?_⟩ (Heap.SameBut.update ..))⟩))
  rw [Obj.data_mapFields g3]
  simp [rawInt]
theorem enum_item {e it:Addr} {i:Nat} {x old:Value} {Q:Option Value->Shared->Prop} {T1:Heap->Prop} (he:IsEnum s.heap e it i old) (hne:e≠it)
    (hk:∀ h h',T1 h->(∀ o,h.get? it=some o->h'.get? it=some o)->T1 h')
    (hn:∀ (A':Around) (E':Value->Shared->Prop) (Q':Value->Shared->Prop),(∀ h',T1 h'->Heap.SameBut it s.heap h'->Q' x { s with heap:=h' })->wpAny (model prog w) A' (Builtin.SmallTypes.nextOf (.ref it)) Q' E' s)
    (hQ : ∀ h',IsEnumOut h' e it ((i:Int) + 1) x s.heap.objs.size->T1 h'->h'.get? s.heap.objs.size=some { cls:=.type "tuple",data:=.seq #[.int i s.toks,x] } ->
      (∀ b o,b≠e->b≠it->s.heap.get? b=some o->h'.get? b=some o)->Q (some (.ref s.heap.objs.size)) { s with heap:=h',toks:=s.toks + 1 }) :
    wpAny (model prog w) A (pyNext (.ref e)) Q E s:=by
  have hT:s.TypeIs (.ref e) "enumerate":=⟨_,he,rfl⟩
  have lt:e < s.heap.objs.size:=Heap.lt_size he
  have core:wpAny (model prog w) A.in1 (Builtin.«enumerate.__next__» ⟨[.ref e],[]⟩) (fun fin s'=>∃ v,fin=.done (.ret v)/\wpAny (model prog w) A (pure (some v)) Q E s') (fun _ _=>False) s:=by
    obtain ⟨hp,ge,dr,tk,os⟩:=s
    refine (show wpAny _ _ (field (.ref e) 2 >>= _) _ _ _ from wpAny_bind (wpAny_field he rfl (x:=.ref it) rfl (wpAny_bind (hn _ _ _ fun h1 t1 b1=>?_))))
    have b1:Heap.SameBut it hp h1:=b1
    have g1:IsEnum h1 e it i old:=(b1.2 e hne).trans he
    refine (show wpAny _ _ (field (.ref e) 3 >>= _) _ _ ⟨h1,ge,dr,tk,os⟩ from wpAny_bind (wpAny_field g1 rfl (x:=rawInt i) rfl ?_))
    refine (show wpAny _ _ (field (.ref e) 4 >>= _) _ _ ⟨h1,ge,dr,tk,os⟩ from wpAny_bind (wpAny_field g1 rfl (x:=.none) rfl ?_))
    refine (show wpAny _ _ (mkInt i >>= _) _ _ ⟨h1,ge,dr,tk,os⟩ from wpAny_bind (wpAny_mkInt ?_))
    refine (show wpAny _ _ (setField (.ref e) 3 (rawInt ((i:Int) + 1)) >>= _) _ _ ⟨h1,ge,dr,tk + 1,os⟩ from wpAny_bind (wpAny_setField_rec g1 (by simp) fun h2 g2 b2=>?_))
    have b2:Heap.SameBut e h1 h2:=b2
    have g2:IsEnum h2 e it ((i:Int) + 1) old:=g2
    refine (show wpAny _ _ (setField (.ref e) 4 .none >>= _) _ _ ⟨h2,ge,dr,tk + 1,os⟩ from wpAny_bind (wpAny_setField_rec g2 (by simp) fun h3 g3 b3=>?_))
    have b3:Heap.SameBut e h2 h3:=b3
    have g3:IsEnum h3 e it ((i:Int) + 1) old:=g3
    have z3:h3.objs.size=hp.objs.size:=by rw [b3.1,b2.1,b1.1]
    refine (show wpAny _ _ (newTuple [.int i tk,x] >>= _) _ _ ⟨h3,ge,dr,tk + 1,os⟩ from wpAny_bind (wpAny_newTuple ?_))
    have g4:IsEnum (h3.push { cls:=.type "tuple",data:=.seq #[.int i tk,x] }) e it ((i:Int) + 1) old:=Heap.get?_push_of_some _ g3
    have u4:(h3.push { cls:=.type "tuple",data:=.seq #[.int i tk,x] }).get? hp.objs.size=some { cls:=.type "tuple",data:=.seq #[.int i tk,x] }:=by
      rw [<- z3]
      exact Heap.get?_push_size _ rfl
    have v4:∀ b o,b≠e->b≠it->hp.get? b=some o->(h3.push { cls:=.type "tuple",data:=.seq #[.int i tk,x] }).get? b=some o:=fun b o q1 q2 q3=>Heap.get?_push_of_some _ (b3.extBut b o q1 (b2.extBut b o q1 (b1.extBut b o q2 q3)))
    have w4:T1 (h3.push { cls:=.type "tuple",data:=.seq #[.int i tk,x] }):=hk h1 _ t1 fun o q=>Heap.get?_push_of_some _ (b3.extBut it o (Ne.symm hne) (b2.extBut it o (Ne.symm hne) q))
    generalize h3.push { cls:=.type "tuple",data:=.seq #[.int i tk,x] }=h4 at g4 u4 v4 w4 ⊢
    rw [z3]
    refine (show wpAny _ _ (Builtin.SmallTypes.ownedTupleIsFree (.ref e) >>= _) _ _ ⟨h4,ge,dr,tk + 1,os⟩ from wpAny_bind ?_)
    unfold Builtin.SmallTypes.ownedTupleIsFree
    refine wpAny_bind (wpAny_field g4 rfl (x:=.none) rfl (wpAny_pure ?_))
    simp only [if_true]
    refine wpAny_bind (wpAny_rule (wpAny_bind (wpAny_field g4 rfl (x:=old) rfl (wpAny_bind (wpAny_setField_rec g4 (by simp) fun h5 g5 b5=>?_)))))
    have b5:Heap.SameBut e h4 h5:=b5
    have g5:IsEnum h5 e it ((i:Int) + 1) x:=g5
    refine (show wpAny _ _ (Builtin.SmallTypes.ownedTupleHandOut (.ref e) (.ref hp.objs.size) >>= _) _ _ ⟨h5,ge,dr,tk + 1,os⟩ from wpAny_bind ?_)
    unfold Builtin.SmallTypes.ownedTupleHandOut
    refine wpAny_bind (wpAny_setField_rec g5 (by simp) fun h6 g6 b6=>?_)
    have b6:Heap.SameBut e h5 h6:=b6
    have g6:IsEnumOut h6 e it ((i:Int) + 1) x hp.objs.size:=g6
    refine wpAny_setField_rec g6 (by simp) fun h7 g7 b7=>?_
    have b7:Heap.SameBut e h6 h7:=b7
    have g7:IsEnumOut h7 e it ((i:Int) + 1) x hp.objs.size:=g7
    have on:∀ b o,b≠e->h4.get? b=some o->h7.get? b=some o:=fun b o q1 q2=>b7.extBut b o q1 (b6.extBut b o q1 (b5.extBut b o q1 q2))
    exact wpAny_bind (wpAny_letGo (wpAny_pure ⟨_,rfl,wpAny_pure (hQ h7 g7 (hk h4 h7 w4 fun o q=>on it o (Ne.symm hne) q) (on _ _ (Nat.ne_of_gt lt) u4) fun b o q1 q2 q3=>on b o q1 (v4 b o q1 q2 q3))⟩))
  unfold pyNext
  exact wpAny_bind (wpAny_attempt (wpAny_callSpecial?_slot (name:=Str.ofString "__next__") hT F.slot_enumerate_next (wpAny_call_entry F.slot_enumerate_next hT F.entry_enumerate_next (wpAny_mono core (fun fin s' ⟨v,q1,q2⟩=>⟨v,q1,q2⟩) fun _ _ z=>z.elim) (F.args_enumerate_next_1 _))))
end
section
variable {prog:Program} {w:World} {A:Around} {E:Value->Shared->Prop} {s:Shared}
theorem next_tup_end {it t:Addr} {i:Nat} {items:Array Value} {Q:Value->Shared->Prop} (hh:A.handled=none) (st:s.heap.IsTupleIter it t i) (ht:s.heap.IsTuple t items) (hx:items[i]? = none)
    (hE:∀ h' e,Heap.ExtBut it s.heap h'->(∃ o,h'.get? e=some o/\o.cls=.type "StopIteration")->E (.ref e) { s with heap:=h' }):wpAny (model prog w) A (Builtin.SmallTypes.nextOf (.ref it)) Q E s:=by
  obtain ⟨ob,g1,g2,g3⟩:=id st
  obtain ⟨ol,k1,k2,n,k3⟩:=ht
  have no:¬ ((Value.ref t == Value.none)=true):=Bool.false_ne_true
  unfold Builtin.SmallTypes.nextOf
  refine wpAny_bind (wpAny_callSpecial?_slot (name:=Str.ofString "__next__") st.typeIs F.slot_tuple_iterator_next (wpAny_call_entry F.slot_tuple_iterator_next st.typeIs F.entry_tuple_iterator_next ?_ (F.args_tuple_iterator_next_1 _)))
  refine (show wpAny _ _ (field (.ref it) 0 >>= _) _ _ s from wpAny_bind (wpAny_field g1 g3 (x:=.ref t) rfl ?_))
  refine (show wpAny _ _ (if (Value.ref t == Value.none)=true then _ else _) _ _ s from ?_)
  rw [if_neg no]
  refine (show wpAny _ _ (field (.ref it) 1 >>= _) _ _ s from wpAny_bind (wpAny_field g1 g3 (x:=.int i 0) rfl ?_))
  refine (show wpAny _ _ (seqItems? (.ref t) >>= _) _ _ s from wpAny_bind (wpAny_seqItems k1 k3 ?_))
  simp only [hx,Int.toNat_natCast]
  refine wpAny_bind (wpAny_rule (wpAny_bind (wpAny_setField g1 g3 (by simp) (show wpAny _ _ (newExc (.type "StopIteration") [] >>= _) _ _ _ from wpAny_bind ?_))))
  simp only [newTuple,newExc]
  refine wpAny_bind (wpAny_newObj_type (wpAny_bind (m:=firstArgMember _ _) (wpAny_of_eq (a:=Value.none) (by first | rfl | (simp only [firstArgMember];rfl)) (wpAny_newObj_type ?_ (by size_fits)))) (by size_fits))
  simp only [raiseNew]
  refine wpAny_bind (wpAny_handled ?_)
  first | rw [hh] | rw [show A.in1.handled=none from hh]
  exact wpAny_bind (wpAny_pure (wpAny_throw (hE _ _ (((Heap.SameBut.update ..).extBut.push _).push _) ⟨_,Heap.get?_push_size _ rfl,rfl⟩)))
theorem enum_end {e it:Addr} {i:Int} {old:Value} {Q:Option Value->Shared->Prop} (he:IsEnum s.heap e it i old)
    (hn:∀ (E':Value->Shared->Prop) (Q':Value->Shared->Prop),(∀ h' x,Heap.ExtBut it s.heap h'->(∃ o,h'.get? x=some o/\o.cls=.type "StopIteration")->E' (.ref x) { s with heap:=h' })->wpAny (model prog w) A.in1 (Builtin.SmallTypes.nextOf (.ref it)) Q' E' s)
    (hQ:∀ h',Heap.ExtBut it s.heap h'->Q none { s with heap:=h' }):wpAny (model prog w) A (pyNext (.ref e)) Q E s:=by
  have hT:s.TypeIs (.ref e) "enumerate":=⟨_,he,rfl⟩
  unfold pyNext
  refine wpAny_bind (wpAny_attempt (wpAny_callSpecial?_slot (name:=Str.ofString "__next__") hT F.slot_enumerate_next (wpAny_call_entry F.slot_enumerate_next hT F.entry_enumerate_next ?_ (F.args_enumerate_next_1 _))))
  refine (show wpAny _ _ (field (.ref e) 2 >>= _) _ _ _ from wpAny_bind (wpAny_field he rfl (x:=.ref it) rfl (wpAny_bind (hn _ _ fun h' x q1 q2=>?_))))
  obtain ⟨o,ho,hc⟩:=q2
  exact wpAny_bind (wpAny_isInstance (T:="StopIteration") (b:=true) ⟨o,ho,hc⟩ isSubtype_stop (wpAny_pure (hQ _ q1)))
end
noncomputable def Iteu (K:PySem.W.Frag) (a:Addr):It :=
  ⟨fun i H=>∃ xs x,SqT K H a xs/\xs[i]? = some x,
   fun i H v H'=>∃ T x,v=.ref T/\H T=none/\H'=upd H T (.tup [.int i,x])/\(∀ xs,SqT K H a xs->xs[i]? = some x),
   fun i H=>∃ xs,SqT K H a xs/\xs.length<=i⟩
theorem turn_enumT {P:Program} {w:World} {K:PySem.W.Frag} {elts:List Expr} {k0} {pos:Pos} {e it l:Addr} (hne:e≠it):Turn P w K (.Tuple elts k0 pos) (Iteu K l) [e,it] e
    (fun i h=>(∃ old,IsEnum h e it i old)/\h.IsTupleIter it l i) where
  mem:=by simp
  obj := fun i h st b hb=>by
    obtain ⟨⟨old,he⟩,h1⟩:=st
    simp only [List.mem_cons,List.not_mem_nil,or_false] at hb
    rcases hb with rfl | rfl
    . exact ⟨_,he,fun v q=>nomatch q⟩
    . obtain ⟨o,e,c,d⟩:=h1
      exact ⟨o,e,fun v q=>by rw [d] at q;cases q⟩
  keep:=fun i h h' st k=>by
    obtain ⟨⟨old,he⟩,h1⟩:=st
    exact ⟨⟨old,k e (by simp) _ he⟩,h1.at fun o q=>k it (by simp) o q⟩
  item := by
    intro X hP hw hK hc i pins s σ H E I hf st hg
    subst hP hw hK
    obtain ⟨⟨old,he⟩,h1⟩:=st
    obtain ⟨xs,x,hx,hxi⟩:=hg
    obtain ⟨its,rv,p,_⟩:=I.tuple hx
    obtain ⟨u,hu,ru⟩:=rv.get hxi
    refine enum_item (x:=u) (T1:=fun h=>h.IsTupleIter it l (i + 1)) he hne (fun h h' a b=>a.at b) (fun A' E' Q' q=>next_tup_item h1 p (by simpa using hu) q) fun h' a1 a2 a3 hk=>?_
    refine ⟨_,rfl,wpAny_letOwnedTupleGo_enum a1 fun h'' he' sb=>?_⟩
    have nz:s.heap.objs.size≠e:=Nat.ne_of_gt (Heap.lt_size he)
    have hT':IsTup h'' s.heap.objs.size [Value.int i s.toks,u].toArray:=⟨_,sb.extBut _ _ nz a3,rfl,_,rfl⟩
    have I':Inv X pins σ (upd H s.heap.objs.size (.tup [.int i,x])) { s with heap:=h'',toks:=s.toks + 1 }:=I.turnedL (ch:=[e,it]) hf (fun b o hb q=>by
      simp only [List.mem_cons,List.not_mem_nil,or_false,not_or] at hb
      exact sb.extBut _ _ hb.1 (hk b o hb.1 hb.2 q)) (Nat.le_refl _) ⟨by show 2<=sizeLine;decide,[Value.int i s.toks,u],.cons ⟨_,rfl⟩ (.cons ru .nil),hT'⟩
    have hn:H s.heap.objs.size=none:=I.hok.fresh (Nat.le_refl _)
    refine ⟨.ref s.heap.objs.size,_,I',rfl,⟨_,x,rfl,hn,rfl,fun zs hzs=>by rw [I.tuple_inj hzs hx];exact hxi⟩,⟨⟨_,by push_cast;exact he'⟩,a2.at fun o q=>sb.extBut it o (Ne.symm hne) q⟩,fun b hb=>?_⟩
    have hfb:=(hf b hb).1
    have : b≠s.heap.objs.size:=by
      obtain ⟨o,q⟩:∃ o,s.heap.get? b=some o:=by
        simp only [List.mem_cons,List.not_mem_nil,or_false] at hb
        rcases hb with rfl | rfl
        . exact ⟨_,he⟩
        . obtain ⟨o,q,_⟩:=h1;exact ⟨o,q⟩
      exact Nat.ne_of_lt (Heap.lt_size q)
    rw [upd_ne this];exact hfb
  done := by
    intro X hP hw hK hc i pins s σ H E I hf st hg
    subst hP hw hK
    obtain ⟨⟨old,he⟩,h1⟩:=st
    obtain ⟨xs,hx,hend⟩:=hg
    obtain ⟨its,rv,p,_⟩:=I.tuple hx
    have hl:=rv.length
    exact enum_end he (fun E' Q' q=>next_tup_end (show X.A.in1.handled=none from I.ok.hd hc) h1 p (by simp;lia) q) fun h' hk=>⟨rfl,I.turnedM (t':=s.toks) (ch:=[e,it]) hf (fun b o hb q=>by
      simp only [List.mem_cons,List.not_mem_nil,or_false,not_or] at hb
      exact hk b o hb.2 q)⟩
  self:=fun _ _ _ _ _ st h=>by
    obtain ⟨⟨old,he⟩,h1⟩:=st
    exact wpAny_pyIter_enum he h
noncomputable def uEnumT (K:PySem.W.Frag):List V->Hp->(It->Hp->Prop)->Prop:=fun vs H R=>match vs with
  | [.ref a]=>(∃ xs,SqT K H a xs)/\R (Iteu K a) H
  | _=>False
end L2
namespace L2
open PySem PySem.Spec PyProof.Rows
end L2
namespace L2
open PySem PySem.Spec PyProof.Rows
inductive Wr where
  | nothing
  | bead (c:Str)
  | side (b:Bool) (f:Wr)
  | pair (f g:Wr)
  | many (k:Nat) (ps:List Wr)
noncomputable def mname:Nat->Str
  | 0=>"row"
  | 1=>"bag"
  | 2=>"choice"
  | _=>"ring"
noncomputable def sname:Bool->Str
  | true=>"right"
  | false=>"left"
noncomputable def Wr.name:Wr->Str
  | .nothing=>"nothing"
  | .bead _=>"bead"
  | .side b _=>sname b
  | .pair _ _=>"pair"
  | .many k _=>mname k
mutual
noncomputable def Wr.tups:Wr->Nat
  | .nothing=>1
  | .bead _=>1
  | .side _ f=>1 + f.tups
  | .pair f g=>1 + (f.tups + (g.tups + 0))
  | .many _ ps=>1 + tupsL ps
noncomputable def tupsL:List Wr->Nat
  | []=>0
  | w::ws=>w.tups + tupsL ws
end
noncomputable def SameT (K:PySem.W.Frag) (H H':Hp):Prop:=∀ a xs,SqT K H a xs->SqT K H' a xs
theorem SameT.trans {K:PySem.W.Frag} {H H1 H2:Hp} (h:SameT K H H1) (k:SameT K H1 H2):SameT K H H2:=fun a xs q=>k a xs (h a xs q)
theorem Same.tups {K:PySem.W.Frag} {H H':Hp} (e:Same H H'):SameT K H H':=fun _ _ h=>e.sq h
theorem SameT.lst {K:PySem.W.Frag} {H:Hp} {l:Addr} {ys zs:List V} (h:H l=some (.lst ys)):SameT K H (upd H l (.lst zs)):=fun a xs q=>by
  rcases q with (q | ⟨o,q⟩) | q
  . refine .inl (.inl ?_)
    rw [upd_ne (ne_of q h (by intro z;cases z))];exact q
  . refine .inl (.inr ⟨o,?_⟩)
    rw [upd_ne (ne_of q h (by intro z;cases z))];exact q
  . exact .inr q
noncomputable def tn (ps:List Wr) (i:Nat):Int:=((ps.map Wr.tups).getD i 0:Nat)
end L2
namespace L2
open PySem PySem.Spec PyProof.Rows
end L2
namespace L2
open PySem PySem.Spec PyProof.Rows
end L2
namespace L2
open PySem PySem.Spec PyProof.Rows
end L2
namespace L2
open PySem PySem.Spec PyProof.Rows PySem.MeetsSeq
open PySem.AutoSeq1 (wpAny_loadPart')
end L2
namespace L2
open PySem PySem.Spec PyProof.Rows
end L2
namespace L2
open PySem PySem.Spec PyProof.Rows
inductive U where
  | non | bl (b:Bool) | int (i:Int) | str (x:Str) | ty (n:String) | tup (xs:List U) | rol (xs:List U) | ref (a:Addr)
noncomputable def SqR (K:PySem.W.Frag) (H:Hp) (a:Addr) (xs:List V):Prop:=(∃ o,H a=some (.frz o (.lst xs))) \/
    ∃ (o:Obj) (its:Array Value) (n:Nat),K.lookup a=some o/\o.cls=.type "list"/\o.dict=none/\o.data=.seq its n/\its.size<=sizeLine/\Vals xs its.toList
theorem SqR.sq {K:PySem.W.Frag} {H:Hp} {a:Addr} {xs:List V} (h:SqR K H a xs):SqL K H a xs:=by
  rcases h with h | h
  . exact .inl (.inr h)
  . exact .inr h
structure Kp (K:PySem.W.Frag) (H H':Hp):Prop where
  t : SameT K H H'
  r : ∀ a xs,SqR K H a xs->SqR K H' a xs
  f : ∀ a o u,H a=some (.frz o u)->H' a=some (.frz o u)
theorem Kp.refl {K:PySem.W.Frag} (H:Hp):Kp K H H:=⟨fun _ _ h=>h,fun _ _ h=>h,fun _ _ _ h=>h⟩
theorem Kp.trans {K:PySem.W.Frag} {H H1 H2:Hp} (h:Kp K H H1) (k:Kp K H1 H2):Kp K H H2:=⟨h.t.trans k.t,fun a xs q=>k.r a xs (h.r a xs q),fun a o u q=>k.f a o u (h.f a o u q)⟩
theorem Same.kp {K:PySem.W.Frag} {H H':Hp} (e:Same H H'):Kp K H H':=⟨e.tups,fun a xs q=>by
  rcases q with ⟨o,q⟩ | q
  . exact .inl ⟨o,e _ _ q⟩
  . exact .inr q,fun a o u q=>e _ _ q⟩
theorem Kp.lst {K:PySem.W.Frag} {H:Hp} {l:Addr} {ys zs:List V} (h:H l=some (.lst ys)):Kp K H (upd H l (.lst zs)):=⟨SameT.lst h,fun a xs q=>by
  rcases q with ⟨o,q⟩ | q
  . exact .inl ⟨o,by rw [upd_ne (ne_of q h (by intro z;cases z))];exact q⟩
  . exact .inr q,fun a o u q=>by rw [upd_ne (ne_of q h (by intro z;cases z))];exact q⟩
theorem Kp.ins {K:PySem.W.Frag} {H:Hp} {l C dx:Addr} {fs:List (Str × V)} {o':HO} (h:H l=some (.ins C dx fs)):Kp K H (upd H l o'):=⟨fun a xs q=>by
  rcases q with (q | ⟨o,q⟩) | q
  . exact .inl (.inl (by rw [upd_ne (ne_of q h (by intro z;cases z))];exact q))
  . exact .inl (.inr ⟨o,by rw [upd_ne (ne_of q h (by intro z;cases z))];exact q⟩)
  . exact .inr q,fun a xs q=>by
  rcases q with ⟨o,q⟩ | q
  . exact .inl ⟨o,by rw [upd_ne (ne_of q h (by intro z;cases z))];exact q⟩
  . exact .inr q,fun a o u q=>by rw [upd_ne (ne_of q h (by intro z;cases z))];exact q⟩
mutual
inductive RU (K:PySem.W.Frag) (H:Hp):U->V->Prop
  | non:RU K H .non .non
  | bl (b:Bool):RU K H (.bl b) (.bl b)
  | int (i:Int):RU K H (.int i) (.int i)
  | str (x:Str):RU K H (.str x) (.str x)
  | ty (n:String):RU K H (.ty n) (.ty n)
  | ref (a:Addr):RU K H (.ref a) (.ref a)
  | tup {a:Addr} {vs:List V} {us:List U}:SqT K H a vs->RUs K H us vs->RU K H (.tup us) (.ref a)
  | rol {a:Addr} {vs:List V} {us:List U}:SqR K H a vs->RUs K H us vs->RU K H (.rol us) (.ref a)
inductive RUs (K:PySem.W.Frag) (H:Hp):List U->List V->Prop
  | nil:RUs K H [] []
  | cons {u:U} {v:V} {us:List U} {vs:List V}:RU K H u v->RUs K H us vs->RUs K H (u::us) (v::vs)
end
section
variable {K:PySem.W.Frag} {H H':Hp}
mutual
theorem RU.same (e:Kp K H H'):∀ {u:U} {v:V},RU K H u v->RU K H' u v
  | _,_,.non=>.non
  | _,_,.bl b=>.bl b
  | _,_,.int i=>.int i
  | _,_,.str x=>.str x
  | _,_,.ty n=>.ty n
  | _,_,.ref a=>.ref a
  | _,_,.tup h r=>.tup (e.t _ _ h) (RUs.same e r)
  | _,_,.rol h r=>.rol (e.r _ _ h) (RUs.same e r)
theorem RUs.same (e:Kp K H H'):∀ {us:List U} {vs:List V},RUs K H us vs->RUs K H' us vs
  | _,_,.nil=>.nil
  | _,_,.cons h r=>.cons (RU.same e h) (RUs.same e r)
end
theorem RUs.length:∀ {us:List U} {vs:List V},RUs K H us vs->us.length=vs.length
  | _,_,.nil=>rfl
  | _,_,.cons _ r=>by rw [List.length_cons,List.length_cons,r.length]
theorem RUs.app:∀ {us ws:List U} {vs xs:List V},RUs K H us vs->RUs K H ws xs->RUs K H (us++ws) (vs++xs)
  | _,_,_,_,.nil,s=>s
  | _,_,_,_,.cons h r,s=>.cons h (RUs.app r s)
theorem RUs.one {u:U} {v:V} (h:RU K H u v):RUs K H [u] [v]:=.cons h .nil
theorem RUs.get':∀ {us:List U} {vs:List V} {i:Nat} {u:U},RUs K H us vs->us[i]? = some u->∃ v,vs[i]? = some v/\RU K H u v
  | _,_,_,_,.nil,e=>by simp at e
  | _,_,0,_,.cons h _,e=>by simp at e;subst e;exact ⟨_,rfl,h⟩
  | _,_,i + 1,_,.cons _ r,e=>by simp at e;simpa using RUs.get' r e
theorem RUs.take:∀ {us:List U} {vs:List V} (n:Nat),RUs K H us vs->RUs K H (us.take n) (vs.take n)
  | _,_,0,_=>.nil
  | _,_,_ + 1,.nil=>.nil
  | _,_,n + 1,.cons r t=>.cons r (RUs.take n t)
theorem RUs.drop:∀ {us:List U} {vs:List V} (n:Nat),RUs K H us vs->RUs K H (us.drop n) (vs.drop n)
  | _,_,0,r=>r
  | _,_,_ + 1,.nil=>.nil
  | _,_,n + 1,.cons _ t=>RUs.drop n t
theorem RUs.dropLast {us:List U} {vs:List V} (h:RUs K H us vs):RUs K H us.dropLast vs.dropLast:=by
  rw [List.dropLast_eq_take,List.dropLast_eq_take,h.length];exact h.take _
theorem RUs.ints:∀ {ns:List Int} {vs:List V},RUs K H (ns.map U.int) vs->vs=ns.map V.int
  | [],_,.nil=>rfl
  | n::ns,_,.cons h r=>by cases h;rw [List.map_cons,RUs.ints r]
theorem RUs.strs:∀ {ns:List Str} {vs:List V},RUs K H (ns.map U.str) vs->vs=ns.map V.str
  | [],_,.nil=>rfl
  | n::ns,_,.cons h r=>by cases h;rw [List.map_cons,RUs.strs r]
theorem RUs.of_strs:∀ {ns:List Str},RUs K H (ns.map U.str) (ns.map V.str)
  | []=>.nil
  | n::ns=>.cons (.str n) RUs.of_strs
theorem RUs.of_ints:∀ {ns:List Int},RUs K H (ns.map U.int) (ns.map V.int)
  | []=>.nil
  | n::ns=>.cons (.int n) RUs.of_ints
end
inductive AO where
  | lst (us:List U) | ins (C dx:Addr) (fs:List (Str × U)) | oth (φ:PySem.W.Frag->Hp->Addr->Prop)
noncomputable abbrev AHp:=Addr->Option AO
noncomputable def updA (A:AHp) (a:Addr) (o:AO):AHp:=fun b=>if b=a then some o else A b
theorem updA_same {A:AHp} {a:Addr} {o:AO}:updA A a o a=some o:=by unfold updA;rw [if_pos rfl]
theorem updA_ne {A:AHp} {a b:Addr} {o:AO} (h:b≠a):updA A a o b=A b:=by unfold updA;rw [if_neg h]
theorem updA_updA {A:AHp} {a:Addr} {o u:AO}:updA (updA A a o) a u=updA A a u:=by funext b;unfold updA;split <;> rfl
noncomputable def RFs (K:PySem.W.Frag) (H:Hp) (fs:List (Str × U)) (gs:List (Str × V)):Prop:=fs.map (·.1)=gs.map (·.1)/\RUs K H (fs.map (·.2)) (gs.map (·.2))
noncomputable def RO (K:PySem.W.Frag) (H:Hp) (a:Addr):AO->Prop
  | .lst us=>∃ vs,H a=some (.lst vs)/\RUs K H us vs
  | .ins C dx fs=>∃ gs,H a=some (.ins C dx gs)/\RFs K H fs gs
  | .oth φ=>(∃ o,H a=some o)/\φ K H a/\∀ H1 H2,φ K H1 a->Kp K H1 H2->H2 a=H1 a->φ K H2 a
noncomputable def HR (K:PySem.W.Frag) (H:Hp) (A:AHp):Prop:=∀ a o,A a=some o->RO K H a o
section
variable {K:PySem.W.Frag} {H H':Hp} {A:AHp} {a:Addr}
theorem RO.keep {b:Addr} {o:AO} (t:Kp K H H') (e:H' b=H b) (h:RO K H b o):RO K H' b o:=by
  cases o with
  | lst us=>obtain ⟨vs,h1,h2⟩:=h;exact ⟨vs,by rw [e];exact h1,h2.same t⟩
  | ins C dx fs=>obtain ⟨gs,h1,h2,h3⟩:=h;exact ⟨gs,by rw [e];exact h1,h2,h3.same t⟩
  | oth φ=>obtain ⟨h0,h1,h2⟩:=h;exact ⟨by rw [e];exact h0,h2 _ _ h1 t e,h2⟩
theorem HR.grow (t:Same H H') (h:HR K H A):HR K H' A:=fun a o e=>by
  have q:=h a o e
  cases o with
  | lst us=>obtain ⟨vs,h1,h2⟩:=q;exact ⟨vs,t _ _ h1,h2.same t.kp⟩
  | ins C dx fs=>obtain ⟨gs,h1,h2,h3⟩:=q;exact ⟨gs,t _ _ h1,h2,h3.same t.kp⟩
  | oth φ=>obtain ⟨⟨o,h0⟩,h1,h2⟩:=q;exact ⟨⟨o,t _ _ h0⟩,h2 _ _ h1 t.kp (by rw [h0];exact t _ _ h0),h2⟩
theorem HR.none (h:HR K H A) (e:H a=none):A a=none:=by
  cases q:A a with
  | none=>rfl
  | some o =>
    have:=h a o q
    cases o with
    | lst us=>obtain ⟨vs,h1,_⟩:=this;rw [e] at h1;cases h1
    | ins C dx fs=>obtain ⟨vs,h1,_⟩:=this;rw [e] at h1;cases h1
    | oth φ=>obtain ⟨⟨_,h1⟩,_⟩:=this;rw [e] at h1;cases h1
theorem HR.newL {us:List U} {vs:List V} (h:HR K H A) (e:H a=Option.none) (r:RUs K H us vs):HR K (upd H a (.lst vs)) (updA A a (.lst us)):=fun b o q=>by
  have s:=Same.upd_new (o:=.lst vs) e
  by_cases hb:b=a
  . subst hb
    rw [updA_same] at q
    cases q
    exact ⟨vs,upd_same,r.same s.kp⟩
  . rw [updA_ne hb] at q
    exact (h b o q).keep s.kp (upd_ne hb)
theorem HR.setL {us:List U} {vs xs:List V} (h:HR K H A) (e:H a=some (.lst xs)) (r:RUs K H us vs):HR K (upd H a (.lst vs)) (updA A a (.lst us)):=fun b o q=>by
  have s:Kp K H (upd H a (.lst vs)):=Kp.lst e
  by_cases hb:b=a
  . subst hb
    rw [updA_same] at q
    cases q
    exact ⟨vs,upd_same,r.same s⟩
  . rw [updA_ne hb] at q
    exact (h b o q).keep s (upd_ne hb)
theorem HR.list {us:List U} (h:HR K H A) (e:A a=some (.lst us)):∃ vs,H a=some (.lst vs)/\RUs K H us vs:=h a _ e
end
noncomputable abbrev ASt:=List (Option U)
inductive RSt (K:PySem.W.Frag) (H:Hp):ASt->St->Prop
  | nil:RSt K H [] []
  | skip {x:Option V} {ρ:ASt} {σ:St}:RSt K H ρ σ->RSt K H (none::ρ) (x::σ)
  | cons {u:U} {v:V} {ρ:ASt} {σ:St}:RU K H u v->RSt K H ρ σ->RSt K H (some u::ρ) (some v::σ)
section
variable {K:PySem.W.Frag} {H H':Hp}
theorem RSt.same (e:Kp K H H'):∀ {ρ:ASt} {σ:St},RSt K H ρ σ->RSt K H' ρ σ
  | _,_,.nil=>.nil
  | _,_,.skip r=>.skip (RSt.same e r)
  | _,_,.cons h r=>.cons (h.same e) (RSt.same e r)
noncomputable def aGetN:Nat->ASt->(U->Prop)->Prop
  | 0, ρ,k=>match ρ with
    | some u::_=>k u
    | _=>False
  | i + 1,ρ,k=>match ρ with
    | _::ρ=>aGetN i ρ k
    | []=>False
noncomputable def aGet (ρ:ASt) (i:Nat) (k:U->Prop):Prop:=aGetN i ρ k
theorem RSt.get:∀ {ρ:ASt} {σ:St} {i:Nat} {k:U->Prop},RSt K H ρ σ->aGet ρ i k->∃ u v,σ[i]? = some (some v)/\RU K H u v/\k u
  | _,_,0,_,.nil,h=>h.elim
  | _,_,_ + 1,_,.nil,h=>h.elim
  | _,_,0,_,.skip _,h=>h.elim
  | _,_,i + 1,_,.skip r,h=>by simpa using RSt.get r h
  | _,_,0,_,.cons q _,h=>⟨_,_,rfl,q,h⟩
  | _,_,i + 1,_,.cons _ r,h=>by simpa using RSt.get r h
theorem RSt.set {u:U} {v:V} (q:RU K H u v):∀ {ρ:ASt} {σ:St} (i:Nat),RSt K H ρ σ->RSt K H (ρ.set i (some u)) (σ.set i (some v))
  | _,_,_,.nil=>.nil
  | _,_,0,.skip r=>.cons q r
  | _,_,i + 1,.skip r=>.skip (RSt.set q i r)
  | _,_,0,.cons _ r=>.cons q r
  | _,_,i + 1,.cons h r=>.cons h (RSt.set q i r)
end
noncomputable abbrev AVK:=U->AHp->Prop
noncomputable abbrev AE:=ASt->AHp->AVK->Prop
noncomputable abbrev AT:=ASt->AHp->(Bool->AHp->Prop)->Prop
noncomputable abbrev AA:=ASt->AHp->(List U->AHp->Prop)->Prop
noncomputable abbrev AP1:=ASt->AHp->(Option Int->AHp->Prop)->Prop
structure AEnds where
  nx:ASt->AHp->Prop
  rt:AVK
  bk:ASt->AHp->Prop:=fun _ _=>False
  ct:ASt->AHp->Prop:=fun _ _=>False
noncomputable abbrev AS:=AEnds->ASt->AHp->Prop
noncomputable abbrev Aft (K:PySem.W.Frag) (H:Hp) (Q':AVK) (Q:VK):Prop:=∀ u A' v H',Kp K H H'->HR K H' A'->RU K H' u v->Q' u A'->Q v H'
noncomputable def AbE (K:PySem.W.Frag) (te:TE) (ae:AE):Prop:=∀ ρ A σ H Q' Q,RSt K H ρ σ->HR K H A->ae ρ A Q'->Aft K H Q' Q->te σ H Q
noncomputable def AbT (K:PySem.W.Frag) (te:TT) (ae:AT):Prop:=∀ ρ A σ H (Q':Bool->AHp->Prop) (Q:Bool->Hp->Prop),RSt K H ρ σ->HR K H A->ae ρ A Q'->(∀ b A' H',Kp K H H'->HR K H' A'->Q' b A'->Q b H')->te σ H Q
noncomputable def AbA (K:PySem.W.Frag) (te:TA) (ae:AA):Prop:=∀ ρ A σ H (Q':List U->AHp->Prop) (Q:List V->Hp->Prop),RSt K H ρ σ->HR K H A->ae ρ A Q'->(∀ us A' vs H',Kp K H H'->HR K H' A'->RUs K H' us vs->Q' us A'->Q vs H')->te σ H Q
noncomputable def AbP (K:PySem.W.Frag) (te:TO) (ae:AP1):Prop:=∀ ρ A σ H (Q':Option Int->AHp->Prop) (Q:Option Int->Hp->Prop),RSt K H ρ σ->HR K H A->ae ρ A Q'->(∀ b A' H',Kp K H H'->HR K H' A'->Q' b A'->Q b H')->te σ H Q
structure AftS (K:PySem.W.Frag) (H:Hp) (D':AEnds) (D:Ends):Prop where
  nx:∀ ρ A σ H',Kp K H H'->HR K H' A->RSt K H' ρ σ->D'.nx ρ A->D.nx σ H'
  rt:Aft K H D'.rt D.rt
  bk:∀ ρ A σ H',Kp K H H'->HR K H' A->RSt K H' ρ σ->D'.bk ρ A->D.bk σ H'
  ct:∀ ρ A σ H',Kp K H H'->HR K H' A->RSt K H' ρ σ->D'.ct ρ A->D.ct σ H'
theorem AftS.same {K:PySem.W.Frag} {H H1:Hp} {D':AEnds} {D:Ends} (h:AftS K H D' D) (k:Kp K H H1):AftS K H1 D' D :=
  ⟨fun ρ A σ H' q=>h.nx ρ A σ H' (k.trans q),fun u A v H' q=>h.rt u A v H' (k.trans q),fun ρ A σ H' q=>h.bk ρ A σ H' (k.trans q),fun ρ A σ H' q=>h.ct ρ A σ H' (k.trans q)⟩
noncomputable def AbS (K:PySem.W.Frag) (ts:TS) (as:AS):Prop:=∀ ρ A σ H D' D,RSt K H ρ σ->HR K H A->as D' ρ A->AftS K H D' D->ts D σ H
end L2
namespace L2
open PySem PySem.Spec PyProof.Rows
section
variable {K:PySem.W.Frag}
noncomputable def aVar (i:Nat):AE:=fun ρ A Q=>aGet ρ i fun u=>Q u A
theorem ab_var {i:Nat}:AbE K (tVar i) (aVar i):=fun ρ A σ H Q' Q hr hh h k=>by
  obtain ⟨u,v,e,r,q⟩:=hr.get h
  exact ⟨v,e,k u A v H (.refl H) hh r q⟩
noncomputable def aC (u:U):AE:=fun _ A Q=>Q u A
theorem ab_c {u:U} {v:V} (h:∀ H,RU K H u v):AbE K (tC v) (aC u):=fun ρ A σ H Q' Q hr hh q k=>k u A v H (.refl H) hh (h H) q
theorem ab_int {i:Int}:AbE K (tC (.int i)) (aC (.int i)):=ab_c fun _=>.int i
theorem ab_str {i:Str}:AbE K (tC (.str i)) (aC (.str i)):=ab_c fun _=>.str i
theorem ab_bl {i:Bool}:AbE K (tC (.bl i)) (aC (.bl i)):=ab_c fun _=>.bl i
theorem ab_ty {n:String}:AbE K (tC (.ty n)) (aC (.ty n)):=ab_c fun _=>.ty n
theorem ab_ref {a:Addr}:AbE K (tC (.ref a)) (aC (.ref a)):=ab_c fun _=>.ref a
noncomputable abbrev AR2:=U->U->AHp->AVK->Prop
noncomputable def AbR (K:PySem.W.Frag) (r:R2) (ar:AR2):Prop:=∀ x y u w A H Q' Q,RU K H u x->RU K H w y->HR K H A->ar u w A Q'->Aft K H Q' Q->r x y H Q
noncomputable def aOp (ar:AR2) (a b:AE):AE:=fun ρ A Q=>a ρ A fun x A1=>b ρ A1 fun y A2=>ar x y A2 Q
theorem ab_op {r:R2} {ar:AR2} {ta tb:TE} {aa ab:AE} (hr:AbR K r ar) (ha:AbE K ta aa) (hb:AbE K tb ab):AbE K (tOp r ta tb) (aOp ar aa ab):=fun ρ A σ H Q' Q hs hh h k =>
  ha ρ A σ H _ _ hs hh h fun x A1 v H1 k1 h1 r1 q1=>hb ρ A1 σ H1 _ _ (hs.same k1) h1 q1 fun y A2 v2 H2 k2 h2 r2 q2=>hr _ _ _ _ _ _ _ _ (r1.same k2) r2 h2 q2 fun z A3 v3 H3 k3 h3 r3 q3=>k _ _ _ _ (k1.trans (k2.trans k3)) h3 r3 q3
noncomputable def AbU (K:PySem.W.Frag) (r:V->Hp->VK->Prop) (ar:U->AHp->AVK->Prop):Prop:=∀ x u A H Q' Q,RU K H u x->HR K H A->ar u A Q'->Aft K H Q' Q->r x H Q
noncomputable def aUn (ar:U->AHp->AVK->Prop) (a:AE):AE:=fun ρ A Q=>a ρ A fun x A1=>ar x A1 Q
theorem ab_un {r:V->Hp->VK->Prop} {ar:U->AHp->AVK->Prop} {ta:TE} {aa:AE} (hr:AbU K r ar) (ha:AbE K ta aa):AbE K (tUn r ta) (aUn ar aa):=fun ρ A σ H Q' Q hs hh h k =>
  ha ρ A σ H _ _ hs hh h fun x A1 v H1 k1 h1 r1 q1=>hr _ _ _ _ _ _ r1 h1 q1 fun z A3 v3 H3 k3 h3 r3 q3=>k _ _ _ _ (k1.trans k3) h3 r3 q3
noncomputable def aB (a:AE):AT:=fun ρ A Q=>a ρ A fun x A1=>∃ c,x=.bl c/\Q c A1
theorem ab_tb {ta:TE} {aa:AE} (ha:AbE K ta aa):AbT K (tB ta) (aB aa):=fun ρ A σ H Q' Q hs hh h k =>
  ha ρ A σ H _ _ hs hh h fun x A1 v H1 k1 h1 r1 hq0=>by obtain ⟨c,e,q1⟩:=hq0;subst e;cases r1;exact ⟨c,rfl,k c A1 H1 k1 h1 q1⟩
theorem ab_test {ta:TE} {aa:AE} (ha:AbE K ta aa):AbT K (tTest ta) (aB aa):=ab_tb ha
noncomputable def aAnd (t u:AT):AT:=fun ρ A Q=>t ρ A fun c A1=>if c=true then u ρ A1 Q else Q false A1
noncomputable def aOr (t u:AT):AT:=fun ρ A Q=>t ρ A fun c A1=>if c=true then Q true A1 else u ρ A1 Q
noncomputable def aNot (t:AT):AT:=fun ρ A Q=>t ρ A fun c A1=>Q (!c) A1
theorem ab_and {t u:TT} {a b:AT} (ha:AbT K t a) (hb:AbT K u b):AbT K (tAnd t u) (aAnd a b):=fun ρ A σ H Q' Q hs hh h k =>
  ha ρ A σ H _ _ hs hh h fun c A1 H1 k1 h1 q1=>by
    cases c
    . exact iteN (by decide) (k _ _ _ k1 h1 (by simpa using q1))
    . exact iteP rfl (hb ρ A1 σ H1 _ _ (hs.same k1) h1 (by simpa using q1) fun c A2 H2 k2 h2 q2=>k _ _ _ (k1.trans k2) h2 q2)
theorem ab_or {t u:TT} {a b:AT} (ha:AbT K t a) (hb:AbT K u b):AbT K (tOr t u) (aOr a b):=fun ρ A σ H Q' Q hs hh h k =>
  ha ρ A σ H _ _ hs hh h fun c A1 H1 k1 h1 q1=>by
    cases c
    . exact iteN (by decide) (hb ρ A1 σ H1 _ _ (hs.same k1) h1 (by simpa using q1) fun c A2 H2 k2 h2 q2=>k _ _ _ (k1.trans k2) h2 q2)
    . exact iteP rfl (k _ _ _ k1 h1 (by simpa using q1))
theorem ab_not {t:TT} {a:AT} (ha:AbT K t a):AbT K (tNot t) (aNot a):=fun ρ A σ H Q' Q hs hh h k=>ha ρ A σ H _ _ hs hh h fun c A1 H1 k1 h1 q1=>k _ _ _ k1 h1 q1
noncomputable def aTrue:AT:=fun _ A Q=>Q true A
theorem ab_true:AbT K tTrue aTrue:=fun ρ A σ H Q' Q hs hh h k=>k _ _ _ (.refl H) hh h
noncomputable def aNil:AA:=fun _ A Q=>Q [] A
theorem ab_nil:AbA K tNil aNil:=fun ρ A σ H Q' Q hs hh h k=>k _ _ _ _ (.refl H) hh .nil h
noncomputable def aCons (a:AE) (l:AA):AA:=fun ρ A Q=>a ρ A fun x A1=>l ρ A1 fun xs A2=>Q (x::xs) A2
theorem ab_cons {ta:TE} {tl:TA} {a:AE} {l:AA} (ha:AbE K ta a) (hl:AbA K tl l):AbA K (tCons ta tl) (aCons a l):=fun ρ A σ H Q' Q hs hh h k =>
  ha ρ A σ H _ _ hs hh h fun x A1 v H1 k1 g1 r1 q1=>hl ρ A1 σ H1 _ _ (hs.same k1) g1 q1 fun xs A2 vs H2 k2 g2 r2 q2=>k _ _ _ _ (k1.trans k2) g2 (.cons (r1.same k2) r2) q2
noncomputable def aConst (us:List U):AA:=fun _ A L=>L us A
theorem ab_strs {xs:List Str}:AbA K (tConst (xs.map V.str)) (aConst (xs.map U.str)):=fun ρ A σ H Q' Q hs hh h k=>k _ _ _ _ (.refl H) hh RUs.of_strs h
noncomputable def aTup (l:AA):AE:=fun ρ A Q=>l ρ A fun xs A1=>xs.length<=sizeLine/\Q (.tup xs) A1
theorem ab_tup {tl:TA} {l:AA} (hl:AbA K tl l):AbE K (tTup tl) (aTup l):=fun ρ A σ H Q' Q hs hh h k =>
  hl ρ A σ H _ _ hs hh h fun xs A1 vs H1 k1 g1 r1 ⟨hz,q1⟩=>⟨by rw [<- r1.length];exact hz,fun p hp=>by
    have s:=Same.upd_new (o:=.tup vs) hp
    exact k _ _ _ _ (k1.trans s.kp) (g1.grow s) (.tup (SqT.of upd_same) (r1.same s.kp)) q1⟩
noncomputable def aLst (l:AA):AE:=fun ρ A Q=>l ρ A fun xs A1=>xs.length<=sizeLine/\∀ p,A1 p=none->Q (.ref p) (updA A1 p (.lst xs))
theorem ab_lst {tl:TA} {l:AA} (hl:AbA K tl l):AbE K (tLst tl) (aLst l):=fun ρ A σ H Q' Q hs hh h k =>
  hl ρ A σ H _ _ hs hh h fun xs A1 vs H1 k1 g1 r1 ⟨hz,q1⟩=>⟨by rw [<- r1.length];exact hz,fun p hp=>k _ _ _ _ (k1.trans (Same.upd_new hp).kp) (g1.newL hp r1) (.ref p) (q1 p (g1.none hp))⟩
noncomputable def AbL (K:PySem.W.Frag) (r:List V->Hp->VK->Prop) (ar:List U->AHp->AVK->Prop):Prop:=∀ xs us A H Q' Q,RUs K H us xs->HR K H A->ar us A Q'->Aft K H Q' Q->r xs H Q
noncomputable def aCB (ar:List U->AHp->AVK->Prop) (l:AA):AE:=fun ρ A Q=>l ρ A fun us A1=>ar us A1 Q
theorem ab_cb {r:List V->Hp->VK->Prop} {ar:List U->AHp->AVK->Prop} {tl:TA} {l:AA} (hr:AbL K r ar) (hl:AbA K tl l):AbE K (tCB r tl) (aCB ar l):=fun ρ A σ H Q' Q hs hh h k =>
  hl ρ A σ H _ _ hs hh h fun xs A1 vs H1 k1 g1 r1 q1=>hr _ _ _ _ _ _ r1 g1 q1 fun z A3 v3 H3 k3 h3 r3 q3=>k _ _ _ _ (k1.trans k3) h3 r3 q3
noncomputable abbrev ASp:=List U->AHp->AVK->Prop
noncomputable def spOf (K:PySem.W.Frag) (asp:ASp):Sp:=fun vs H Q _=>∃ us A Q',RUs K H us vs/\HR K H A/\asp us A Q'/\Aft K H Q' Q
noncomputable def aCall (asp:ASp) (l:AA):AE:=fun ρ A Q=>l ρ A fun us A1=>asp us A1 Q
theorem ab_call {asp:ASp} {E:XK} {tl:TA} {l:AA} (hl:AbA K tl l):AbE K (tCall (spOf K asp) [] E tl) (aCall asp l):=fun ρ A σ H Q' Q hs hh h k =>
  hl ρ A σ H _ _ hs hh h fun us A1 vs H1 k1 g1 r1 q1=>⟨us,A1,Q',by rw [List.append_nil];exact r1,g1,q1,fun z A3 v3 H3 k3 h3 r3 q3=>k _ _ _ _ (k1.trans k3) h3 r3 q3⟩
noncomputable def aNoPart:AP1:=fun _ A Q=>Q none A
theorem ab_nopart:AbP K tNoPart aNoPart:=fun ρ A σ H Q' Q hs hh h k=>k _ _ _ (.refl H) hh h
noncomputable def aPart (a:AE):AP1:=fun ρ A Q=>a ρ A fun x A1=>∃ i,x=.int i/\Q (some i) A1
theorem ab_part {t:TE} {a:AE} (ha:AbE K t a):AbP K (tPart t) (aPart a):=fun ρ A σ H Q' Q hs hh h k =>
  ha ρ A σ H _ _ hs hh h fun x A1 v H1 k1 h1 r1 hq0=>by obtain ⟨i,e,q1⟩:=hq0;subst e;cases r1;exact ⟨i,rfl,k _ _ _ k1 h1 q1⟩
noncomputable def AbSl (K:PySem.W.Frag) (r:V->Option Int->Option Int->Hp->VK->Prop) (ar:U->Option Int->Option Int->AHp->AVK->Prop):Prop:=∀ x u lo hi A H Q' Q,RU K H u x->HR K H A->ar u lo hi A Q'->Aft K H Q' Q->r x lo hi H Q
noncomputable def aSl (ar:U->Option Int->Option Int->AHp->AVK->Prop) (a:AE) (l h:AP1):AE:=fun ρ A Q=>a ρ A fun x A1=>l ρ A1 fun i A2=>h ρ A2 fun j A3=>ar x i j A3 Q
theorem ab_sl {r:V->Option Int->Option Int->Hp->VK->Prop} {ar:U->Option Int->Option Int->AHp->AVK->Prop} {t:TE} {tl th:TO} {a:AE} {l h:AP1} (hr:AbSl K r ar) (ha:AbE K t a) (hl:AbP K tl l) (hh:AbP K th h):AbE K (tSl r t tl th) (aSl ar a l h):=fun ρ A σ H Q' Q hs g w k =>
  ha ρ A σ H _ _ hs g w fun x A1 v H1 k1 g1 r1 q1=>hl ρ A1 σ H1 _ _ (hs.same k1) g1 q1 fun i A2 H2 k2 g2 q2=>hh ρ A2 σ H2 _ _ (hs.same (k1.trans k2)) g2 q2 fun j A3 H3 k3 g3 q3 =>
    hr _ _ _ _ _ _ _ _ (r1.same (k2.trans k3)) g3 q3 fun z A4 v4 H4 k4 g4 r4 q4=>k _ _ _ _ (k1.trans (k2.trans (k3.trans k4))) g4 r4 q4
noncomputable def AbY (K:PySem.W.Frag) (T:String) (y:U->AHp->Prop):Prop:=∀ x u A H,RU K H u x->HR K H A->y u A->tyV K T x H
noncomputable def aBM0 (y:U->AHp->Prop) (ar:U->List U->AHp->AVK->Prop) (a:AE):AE:=fun ρ A Q=>a ρ A fun x A1=>y x A1/\ar x [] A1 Q
noncomputable def aBM (y:U->AHp->Prop) (ar:U->List U->AHp->AVK->Prop) (a:AE) (l:AA):AE:=fun ρ A Q=>a ρ A fun x A1=>y x A1/\l ρ A1 fun us A2=>ar x us A2 Q
noncomputable def AbMt (K:PySem.W.Frag) (r:V->List V->Hp->VK->Prop) (ar:U->List U->AHp->AVK->Prop):Prop:=∀ x u xs us A H Q' Q,RU K H u x->RUs K H us xs->HR K H A->ar u us A Q'->Aft K H Q' Q->r x xs H Q
theorem ab_bm0 {T:String} {r:V->List V->Hp->VK->Prop} {y:U->AHp->Prop} {ar:U->List U->AHp->AVK->Prop} {t:TE} {a:AE} (hy:AbY K T y) (hr:AbMt K r ar) (ha:AbE K t a):AbE K (tBM0 K T r t) (aBM0 y ar a):=fun ρ A σ H Q' Q hs g w k =>
  ha ρ A σ H _ _ hs g w fun x A1 v H1 k1 g1 r1 ⟨q0,q1⟩=>⟨hy _ _ _ _ r1 g1 q0,hr _ _ _ _ _ _ _ _ r1 .nil g1 q1 fun z A4 v4 H4 k4 g4 r4 q4=>k _ _ _ _ (k1.trans k4) g4 r4 q4⟩
theorem ab_bm {T:String} {r:V->List V->Hp->VK->Prop} {y:U->AHp->Prop} {ar:U->List U->AHp->AVK->Prop} {t:TE} {a:AE} {tl:TA} {l:AA} (hy:AbY K T y) (hr:AbMt K r ar) (ha:AbE K t a) (hl:AbA K tl l):AbE K (tBM K T r t tl) (aBM y ar a l):=fun ρ A σ H Q' Q hs g w k =>
  ha ρ A σ H _ _ hs g w fun x A1 v H1 k1 g1 r1 ⟨q0,q1⟩=>⟨hy _ _ _ _ r1 g1 q0,hl ρ A1 σ H1 _ _ (hs.same k1) g1 q1 fun us A2 vs H2 k2 g2 r2 q2=>hr _ _ _ _ _ _ _ _ (r1.same k2) r2 g2 q2 fun z A4 v4 H4 k4 g4 r4 q4=>k _ _ _ _ (k1.trans (k2.trans k4)) g4 r4 q4⟩
noncomputable def aNext:AS:=fun D ρ A=>D.nx ρ A
theorem ab_next:AbS K tNext aNext:=fun ρ A σ H D' D hs g w k=>k.nx _ _ _ _ (.refl H) g hs w
noncomputable def aSeq (t u:AS):AS:=fun D ρ A=>t { D with nx:=u D } ρ A
theorem ab_seq {t u:TS} {a b:AS} (ha:AbS K t a) (hb:AbS K u b):AbS K (tSeq t u) (aSeq a b):=fun ρ A σ H D' D hs g w k =>
  ha ρ A σ H _ _ hs g w ⟨fun ρ1 A1 σ1 H1 k1 g1 r1 q1=>hb ρ1 A1 σ1 H1 _ _ r1 g1 q1 (k.same k1),k.rt,k.bk,k.ct⟩
noncomputable def aDrop (a:AE):AS:=fun D ρ A=>a ρ A fun _ A1=>D.nx ρ A1
theorem ab_drop {t:TE} {a:AE} (ha:AbE K t a):AbS K (tDrop t) (aDrop a):=fun ρ A σ H D' D hs g w k=>ha ρ A σ H _ _ hs g w fun x A1 v H1 k1 g1 r1 q1=>k.nx _ _ _ _ k1 g1 (hs.same k1) q1
noncomputable def aRet (a:AE):AS:=fun D ρ A=>a ρ A D.rt
theorem ab_ret {t:TE} {a:AE} (ha:AbE K t a):AbS K (tRet t) (aRet a):=fun ρ A σ H D' D hs g w k=>ha ρ A σ H _ _ hs g w k.rt
noncomputable def aIfS (c:AT) (t u:AS):AS:=fun D ρ A=>c ρ A fun b A1=>if b=true then t D ρ A1 else u D ρ A1
theorem ab_ifs {c:TT} {t u:TS} {ac:AT} {a b:AS} (hc:AbT K c ac) (ha:AbS K t a) (hb:AbS K u b):AbS K (tIfS c t u) (aIfS ac a b):=fun ρ A σ H D' D hs g w k =>
  hc ρ A σ H _ _ hs g w fun c A1 H1 k1 g1 q1=>by
    cases c
    . exact iteN (by decide) (hb ρ A1 σ H1 _ _ (hs.same k1) g1 (by simpa using q1) (k.same k1))
    . exact iteP rfl (ha ρ A1 σ H1 _ _ (hs.same k1) g1 (by simpa using q1) (k.same k1))
noncomputable abbrev AG:=U->ASt->AHp->(ASt->AHp->Prop)->Prop
noncomputable abbrev AGs:=List U->ASt->AHp->(ASt->AHp->Prop)->Prop
noncomputable abbrev AftG (K:PySem.W.Frag) (H:Hp) (Q':ASt->AHp->Prop) (Q:St->Hp->Prop):Prop:=∀ ρ A σ H',Kp K H H'->HR K H' A->RSt K H' ρ σ->Q' ρ A->Q σ H'
noncomputable def AbG (K:PySem.W.Frag) (t:TG) (a:AG):Prop:=∀ u v ρ A σ H Q' Q,RU K H u v->RSt K H ρ σ->HR K H A->a u ρ A Q'->AftG K H Q' Q->t v σ H Q
noncomputable def AbGs (K:PySem.W.Frag) (t:TGs) (a:AGs):Prop:=∀ u v ρ A σ H Q' Q,RUs K H u v->RSt K H ρ σ->HR K H A->a u ρ A Q'->AftG K H Q' Q->t v σ H Q
noncomputable def bName (i:Nat):AG:=fun u ρ A Q=>Q (ρ.set i (some u)) A
theorem ab_name {i:Nat}:AbG K (gName i) (bName i):=fun u v ρ A σ H Q' Q r hs g w k=>k _ _ _ _ (.refl H) g (hs.set r i) w
noncomputable def bNil:AGs:=fun us ρ A Q=>us=[]/\Q ρ A
theorem ab_gnil:AbGs K gNil bNil:=fun u v ρ A σ H Q' Q r hs g hq0 k=>by obtain ⟨e,w⟩:=hq0;subst e;cases r;exact ⟨rfl,k _ _ _ _ (.refl H) g hs w⟩
noncomputable def bCons (t:AG) (u:AGs):AGs:=fun us ρ A Q=>∃ v r,us=v::r/\t v ρ A fun ρ' A'=>u r ρ' A' Q
theorem ab_gcons {t:TG} {u:TGs} {a:AG} {b:AGs} (ha:AbG K t a) (hb:AbGs K u b):AbGs K (gCons t u) (bCons a b):=fun us vs ρ A σ H Q' Q r hs g hq0 k=>by
  obtain ⟨x,xs,e,w⟩:=hq0
  subst e
  cases r with
  | cons r rr=>exact ⟨_,_,rfl,ha _ _ _ _ _ _ _ _ r hs g w fun ρ1 A1 σ1 H1 k1 g1 s1 q1=>hb _ _ _ _ _ _ _ _ (rr.same k1) s1 g1 q1 fun ρ2 A2 σ2 H2 k2 g2 s2 q2=>k _ _ _ _ (k1.trans k2) g2 s2 q2⟩
noncomputable def bTup (n:Nat) (t:AGs):AG:=fun u ρ A Q=>∃ us,u=.tup us/\us.length=n/\t us ρ A Q
theorem ab_gtup {n:Nat} {t:TGs} {a:AGs} (ha:AbGs K t a):AbG K (gTup K n t) (bTup n a):=fun u v ρ A σ H Q' Q r hs g hq0 k=>by
  obtain ⟨us,e,hn,w⟩:=hq0
  subst e
  cases r with
  | tup h rr=>exact ⟨_,_,rfl,h,by rw [<- rr.length];exact hn,ha _ _ _ _ _ _ _ _ rr hs g w k⟩
noncomputable def aAsg (a:AE) (b:AG):AS:=fun D ρ A=>a ρ A fun x A1=>b x ρ A1 D.nx
theorem ab_asg {t:TE} {a:AE} {tg:TG} {b:AG} (ha:AbE K t a) (hb:AbG K tg b):AbS K (tAsg t tg) (aAsg a b):=fun ρ A σ H D' D hs g w k =>
  ha ρ A σ H _ _ hs g w fun x A1 v H1 k1 g1 r1 q1=>hb _ _ _ _ _ _ _ _ r1 (hs.same k1) g1 q1 fun ρ2 A2 σ2 H2 k2 g2 s2 q2=>k.nx _ _ _ _ (k1.trans k2) g2 s2 q2
noncomputable def aPar (i j:Nat) (l:AA):AS:=fun D ρ A=>l ρ A fun us A1=>∃ v w,us=[v,w]/\D.nx ((ρ.set i (some v)).set j (some w)) A1
end
end L2
namespace L2
open PySem PySem.Spec PyProof.Rows
noncomputable abbrev AIt:=Nat->AHp->Option U->Prop
noncomputable def AbJ (K:PySem.W.Frag) (H0:Hp) (J:It) (aj:AIt):Prop:=∀ i A H r,Kp K H0 H->HR K H A->aj i A r->match r with
  | none=>J.stop i H
  | some u=>J.go i H/\∀ x H',J.yld i H x H'->Kp K H H'/\HR K H' A/\RU K H' u x
noncomputable abbrev AI:=ASt->AHp->(AIt->AHp->Prop)->Prop
noncomputable def AbI (K:PySem.W.Frag) (wi:TI) (ai:AI):Prop:=∀ ρ A σ H R' R,RSt K H ρ σ->HR K H A->ai ρ A R'->(∀ aj A' J H',Kp K H H'->HR K H' A'->AbJ K H' J aj->R' aj A'->R J H')->wi σ H R
noncomputable def aLoop (J:AIt) (g:AG) (b:AS) (D:AEnds) (ρ:ASt) (A:AHp):Prop:=∃ W:Nat->Nat->ASt->AHp->Prop,(∃ m,W 0 m ρ A)/\∀ i m ρ A,W i m ρ A ->
  (J i A none/\D.nx ρ A)\/∃ u,J i A (some u)/\∃ N:ASt->AHp->Prop,(∀ ρ' A',N ρ' A'->∃ m',m' < m/\W (i + 1) m' ρ' A')/\g u ρ A fun ρ2 A2=>b { D with nx:=N,ct:=N,bk:=D.nx } ρ2 A2
noncomputable def aFor (wi:AI) (g:AG) (b:AS):AS:=fun D ρ A=>wi ρ A fun J A1=>aLoop J g b D ρ A1
section
variable {K:PySem.W.Frag}
theorem ab_for {wi:TI} {g:TG} {t:TS} {ai:AI} {ag:AG} {a:AS} (hi:AbI K wi ai) (hg:AbG K g ag) (ha:AbS K t a):AbS K (tFor wi g t) (aFor ai ag a):=fun ρ A σ H D' D hs g0 w k=>by
  refine hi ρ A σ H _ _ hs g0 w fun aj A1 J H1 k1 g1 hj q=>?_
  obtain ⟨W,⟨m0,w0⟩,turn⟩:=q
  refine ⟨fun i m σ2 H2=>∃ ρ2 A2,Kp K H1 H2/\HR K H2 A2/\RSt K H2 ρ2 σ2/\W i m ρ2 A2,⟨m0,ρ,A1,.refl H1,g1,hs.same k1,w0⟩,?_⟩
  rintro i m σ2 H2 ⟨ρ2,A2,k2,g2,s2,w2⟩
  have k12:=k1.trans k2
  rcases turn i m ρ2 A2 w2 with ⟨hstop,q⟩ | ⟨u,hgo,N,hN,q⟩
  . exact .inl ⟨hj i A2 H2 _ k2 g2 hstop,k.nx _ _ _ _ k12 g2 s2 q⟩
  . obtain ⟨j1,j2⟩:=hj i A2 H2 _ k2 g2 hgo
    refine .inr ⟨j1,fun σ' H'=>∃ ρ' A',Kp K H1 H'/\HR K H' A'/\RSt K H' ρ' σ'/\N ρ' A',?_,fun x H3 hy=>?_⟩
    . rintro σ' H' ⟨ρ',A',k',g',s',n'⟩
      obtain ⟨m',hm,w'⟩:=hN ρ' A' n'
      exact ⟨m',hm,ρ',A',k',g',s',w'⟩
    . obtain ⟨k3,g3,r3⟩:=j2 x H3 hy
      refine hg _ _ _ _ _ _ _ _ r3 (s2.same k3) g3 q fun ρ4 A4 σ4 H4 k4 g4 s4 q4=>?_
      have k24:=k2.trans (k3.trans k4)
      exact ha ρ4 A4 σ4 H4 _ _ s4 g4 q4 ⟨fun ρ5 A5 σ5 H5 k5 g5 s5 n5=>⟨ρ5,A5,k24.trans k5,g5,s5,n5⟩,(k.same (k1.trans k24)).rt,fun ρ5 A5 σ5 H5 k5 g5 s5 n5=>k.nx _ _ _ _ ((k1.trans k24).trans k5) g5 s5 n5,fun ρ5 A5 σ5 H5 k5 g5 s5 n5=>⟨ρ5,A5,k24.trans k5,g5,s5,n5⟩⟩
noncomputable def jFix (us:List U):AIt:=fun i _ r=>r=us[i]?
noncomputable def jLst (a:Addr):AIt:=fun i A r=>∃ us,A a=some (.lst us)/\r=us[i]?
noncomputable def aJof (y:U->AHp->(AIt->AHp->Prop)->Prop) (a:AE):AI:=fun ρ A R=>a ρ A fun x A1=>y x A1 R
noncomputable def AbY1 (K:PySem.W.Frag) (u:V->Hp->(It->Hp->Prop)->Prop) (y:U->AHp->(AIt->AHp->Prop)->Prop):Prop:=∀ x v A H R' R,RU K H x v->HR K H A->y x A R'->(∀ aj A' J H',Kp K H H'->HR K H' A'->AbJ K H' J aj->R' aj A'->R J H')->u v H R
theorem ab_jof {u:V->Hp->(It->Hp->Prop)->Prop} {y:U->AHp->(AIt->AHp->Prop)->Prop} {t:TE} {a:AE} (hy:AbY1 K u y) (ha:AbE K t a):AbI K (jOf u t) (aJof y a):=fun ρ A σ H R' R hs g w k =>
  ha ρ A σ H _ _ hs g w fun x A1 v H1 k1 g1 r1 q1=>hy _ _ _ _ _ _ r1 g1 q1 fun aj A2 J H2 k2 g2 hj q2=>k _ _ _ _ (k1.trans k2) g2 hj q2
theorem itl_fix {H:Hp} {a:Addr} {us:List U} {vs:List V} (h:SqR K H a vs) (r:RUs K H us vs):AbJ K H (Itl K a) (jFix us):=fun i A H1 x k g e=>by
  have e:x=us[i]?:=e
  have h1:=(k.r _ _ h).sq
  have r1:=r.same k
  subst e
  cases hu:us[i]? with
  | none=>exact ⟨vs,h1,by rw [<- r1.length];exact List.getElem?_eq_none_iff.mp hu⟩
  | some u =>
    obtain ⟨v,hv,rv⟩:=r1.get' hu
    refine ⟨⟨vs,v,h1,hv⟩,?_⟩
    rintro x H' ⟨rfl,hx⟩
    have:=hx vs h1
    rw [hv] at this;cases this
    exact ⟨.refl _,g,rv⟩
theorem itl_lst {H:Hp} {a:Addr}:AbJ K H (Itl K a) (jLst a):=fun i A H1 x k g hq0=>by
  obtain ⟨us,hA,e⟩:=hq0
  subst e
  obtain ⟨vs,h1,r1⟩:=g.list hA
  have h1:SqL K H1 a vs:=SqL.of h1
  cases hu:us[i]? with
  | none=>exact ⟨vs,h1,by rw [<- r1.length];exact List.getElem?_eq_none_iff.mp hu⟩
  | some u =>
    obtain ⟨v,hv,rv⟩:=r1.get' hu
    refine ⟨⟨vs,v,h1,hv⟩,?_⟩
    rintro x H' ⟨rfl,hx⟩
    have:=hx vs h1
    rw [hv] at this;cases this
    exact ⟨.refl _,g,rv⟩
theorem itt_fix {H:Hp} {a:Addr} {us:List U} {vs:List V} (h:SqT K H a vs) (r:RUs K H us vs):AbJ K H (Itt K a) (jFix us):=fun i A H1 x k g e=>by
  have e:x=us[i]?:=e
  have h1:=k.t _ _ h
  have r1:=r.same k
  subst e
  cases hu:us[i]? with
  | none=>exact ⟨vs,h1,by rw [<- r1.length];exact List.getElem?_eq_none_iff.mp hu⟩
  | some u =>
    obtain ⟨v,hv,rv⟩:=r1.get' hu
    refine ⟨⟨vs,v,h1,hv⟩,?_⟩
    rintro x H' ⟨rfl,hx⟩
    have:=hx vs h1
    rw [hv] at this;cases this
    exact ⟨.refl _,g,rv⟩
noncomputable def yList:U->AHp->(AIt->AHp->Prop)->Prop:=fun u A R=>match u with
  | .ref a=>(∃ us,A a=some (.lst us))/\R (jLst a) A
  | .rol us=>R (jFix us) A
  | _=>False
theorem ab_ylist:AbY1 K (uList K) yList:=fun x v A H R' R r g w k=>by
  cases r with
  | ref a =>
    obtain ⟨⟨us,hA⟩,w⟩:=w
    obtain ⟨vs,h1,r1⟩:=g.list hA
    exact ⟨⟨vs,SqL.of h1⟩,k _ _ _ _ (.refl H) g itl_lst w⟩
  | rol h1 r1=>exact ⟨⟨_,h1.sq⟩,k _ _ _ _ (.refl H) g (itl_fix h1 r1) w⟩
  | _=>exact w.elim
noncomputable def yTup:U->AHp->(AIt->AHp->Prop)->Prop:=fun u A R=>match u with
  | .tup us=>R (jFix us) A
  | _=>False
theorem ab_ytup:AbY1 K (uTupI K) yTup:=fun x v A H R' R r g w k=>by
  cases r with
  | tup h1 r1=>exact ⟨⟨_,h1⟩,k _ _ _ _ (.refl H) g (itt_fix h1 r1) w⟩
  | _=>exact w.elim
noncomputable def rngU (lo:Int) (n:Nat):List U:=(List.range n).map fun (i:Nat)=>.int (lo + (i:Int))
theorem rngU_get (lo:Int) (n i:Nat):(rngU lo n)[i]? = if i < n then some (.int (lo + (i:Int))) else none:=by
  unfold rngU
  rw [List.getElem?_map]
  by_cases h:i < n
  . rw [if_pos h,List.getElem?_range h];rfl
  . rw [if_neg h,List.getElem?_eq_none (by rw [List.length_range];lia)];rfl
theorem rngU_len (lo:Int) (n:Nat):(rngU lo n).length=n:=by simp [rngU]
theorem itr_fix {H:Hp} {lo:Int} {n:Nat}:AbJ K H (Itr lo n) (jFix (rngU lo n)):=fun i A H1 x k g e=>by
  have e:x=(rngU lo n)[i]?:=e
  rw [rngU_get] at e
  subst e
  by_cases h:i < n
  . rw [if_pos h]
    refine ⟨h,?_⟩
    rintro x H' ⟨rfl,rfl⟩
    exact ⟨.refl _,g,.int _⟩
  . rw [if_neg h]
    exact Nat.le_of_not_lt h
noncomputable def yRng1:List U->AHp->(AIt->AHp->Prop)->Prop:=fun us A R=>match us with
  | [.int j]=>-(2 ^ 62)<=j/\j < 2 ^ 62/\R (jFix (rngU 0 j.toNat)) A
  | _=>False
noncomputable def AbYs (K:PySem.W.Frag) (u:List V->Hp->(It->Hp->Prop)->Prop) (y:List U->AHp->(AIt->AHp->Prop)->Prop):Prop:=∀ x v A H R' R,RUs K H x v->HR K H A->y x A R'->(∀ aj A' J H',Kp K H H'->HR K H' A'->AbJ K H' J aj->R' aj A'->R J H')->u v H R
noncomputable def aJargs (y:List U->AHp->(AIt->AHp->Prop)->Prop) (l:AA):AI:=fun ρ A R=>l ρ A fun us A1=>y us A1 R
theorem ab_jargs {u:List V->Hp->(It->Hp->Prop)->Prop} {y:List U->AHp->(AIt->AHp->Prop)->Prop} {t:TA} {l:AA} (hy:AbYs K u y) (hl:AbA K t l):AbI K (jArgs u t) (aJargs y l):=fun ρ A σ H R' R hs g w k =>
  hl ρ A σ H _ _ hs g w fun x A1 v H1 k1 g1 r1 q1=>hy _ _ _ _ _ _ r1 g1 q1 fun aj A2 J H2 k2 g2 hj q2=>k _ _ _ _ (k1.trans k2) g2 hj q2
theorem ab_yrng1:AbYs K uRng1 yRng1:=fun x v A H R' R r g w k=>by
  unfold yRng1 at w
  split at w
  . cases r with
    | cons r rr =>
      cases rr;cases r
      exact ⟨w.1,w.2.1,k _ _ _ _ (.refl H) g itr_fix w.2.2⟩
  . exact w.elim
theorem ab_jrng1 {t:TA} {l:AA} (hl:AbA K t l):AbI K (jRng1 t) (aJargs yRng1 l):=ab_jargs (u:=uRng1) ab_yrng1 hl
noncomputable def enU (us:List U):List U:=us.zipIdx.map fun p=>.tup [.int (p.2:Nat),p.1]
theorem enU_get (us:List U) (i:Nat):(enU us)[i]? = (us[i]?).map fun u=>.tup [.int (i:Nat),u]:=by
  unfold enU
  rw [List.getElem?_map,List.getElem?_zipIdx]
  cases us[i]? <;> simp
theorem enU_len (us:List U):(enU us).length=us.length:=by simp [enU]
noncomputable def jEnum (a:Addr):AIt:=fun i A r=>∃ us,A a=some (.lst us)/\r=(enU us)[i]?
noncomputable def yEnum:List U->AHp->(AIt->AHp->Prop)->Prop:=fun us A R=>match us with
  | [.ref a]=>(∃ us,A a=some (.lst us))/\R (jEnum a) A
  | [.rol us]=>R (jFix (enU us)) A
  | _=>False
theorem ite_of {H:Hp} {a:Addr} {us:List U} {vs:List V} {i:Nat} {A:AHp} (h1:SqL K H a vs) (r1:RUs K H us vs) (g:HR K H A):match (enU us)[i]? with
    | none=>(Ite K a).stop i H
    | some u=>(Ite K a).go i H/\∀ x H',(Ite K a).yld i H x H'->Kp K H H'/\HR K H' A/\RU K H' u x:=by
  rw [enU_get]
  cases hu:us[i]? with
  | none=>exact ⟨vs,h1,by rw [<- r1.length];exact List.getElem?_eq_none_iff.mp hu⟩
  | some u =>
    obtain ⟨v,hv,rv⟩:=r1.get' hu
    refine ⟨⟨vs,v,h1,hv⟩,?_⟩
    rintro x H' ⟨T,x0,rfl,hT,rfl,hx⟩
    have:=hx vs h1
    rw [hv] at this;cases this
    have s:=Same.upd_new (o:=.tup [.int i,v]) hT
    exact ⟨s.kp,g.grow s,.tup (SqT.of upd_same) (.cons (.int _) (.one (rv.same s.kp)))⟩
theorem iteu_of {H:Hp} {a:Addr} {us:List U} {vs:List V} {i:Nat} {A:AHp} (h1:SqT K H a vs) (r1:RUs K H us vs) (g:HR K H A):match (enU us)[i]? with
    | none=>(Iteu K a).stop i H
    | some u=>(Iteu K a).go i H/\∀ x H',(Iteu K a).yld i H x H'->Kp K H H'/\HR K H' A/\RU K H' u x:=by
  rw [enU_get]
  cases hu:us[i]? with
  | none=>exact ⟨vs,h1,by rw [<- r1.length];exact List.getElem?_eq_none_iff.mp hu⟩
  | some u =>
    obtain ⟨v,hv,rv⟩:=r1.get' hu
    refine ⟨⟨vs,v,h1,hv⟩,?_⟩
    rintro x H' ⟨T,x0,rfl,hT,rfl,hx⟩
    have:=hx vs h1
    rw [hv] at this;cases this
    have s:=Same.upd_new (o:=.tup [.int i,v]) hT
    exact ⟨s.kp,g.grow s,.tup (SqT.of upd_same) (.cons (.int _) (.one (rv.same s.kp)))⟩
theorem ab_yenum:AbYs K (uEnum K) yEnum:=fun x v A H R' R r g w k=>by
  unfold yEnum at w
  split at w
  . cases r with
    | cons r rr =>
      cases rr;cases r
      obtain ⟨⟨us,hA⟩,w⟩:=w
      obtain ⟨vs,h1,r1⟩:=g.list hA
      refine ⟨⟨vs,SqL.of h1⟩,k _ _ _ _ (.refl H) g (fun i A1 H1 r k1 g1 ⟨us,hA,e⟩=>?_) w⟩
      subst e
      obtain ⟨vs,h1,r1⟩:=g1.list hA
      exact ite_of (SqL.of h1) r1 g1
  . cases r with
    | cons r rr =>
      cases rr
      cases r with
      | rol h1 r1 =>
        refine ⟨⟨_,h1.sq⟩,k _ _ _ _ (.refl H) g (fun i A1 H1 r k1 g1 e=>?_) w⟩
        have e:r=(enU _)[i]?:=e
        subst e
        exact ite_of (k1.r _ _ h1).sq (r1.same k1) g1
  . exact w.elim
noncomputable def yEnumT:List U->AHp->(AIt->AHp->Prop)->Prop:=fun us A R=>match us with
  | [.tup us]=>R (jFix (enU us)) A
  | _=>False
theorem ab_yenumT:AbYs K (uEnumT K) yEnumT:=fun x v A H R' R r g w k=>by
  unfold yEnumT at w
  split at w
  . cases r with
    | cons r rr =>
      cases rr
      cases r with
      | tup h1 r1 =>
        refine ⟨⟨_,h1⟩,k _ _ _ _ (.refl H) g (fun i A1 H1 r k1 g1 e=>?_) w⟩
        have e:r=(enU _)[i]?:=e
        subst e
        exact iteu_of (k1.t _ _ h1) (r1.same k1) g1
  . exact w.elim
noncomputable def aCompStart (nt:Nat) (frs:List (Str × Nat)) (ρ:ASt):ASt:=List.replicate nt none++frs.map fun p=>(ρ[p.2]?).join
theorem RSt.join {H:Hp}:∀ {ρ:ASt} {σ:St} (i:Nat) {ρ2:ASt} {σ2:St},RSt K H ρ σ->RSt K H ρ2 σ2->RSt K H ((ρ[i]?).join::ρ2) ((σ[i]?).join::σ2)
  | _,_,_,_,_,.nil,q=>by simpa using .skip q
  | _,_,0,_,_,.skip _,q=>by simpa using .skip q
  | _,_,i + 1,_,_,.skip r,q=>by simpa using RSt.join i r q
  | _,_,0,_,_,.cons h _,q=>by simpa using .cons h q
  | _,_,i + 1,_,_,.cons _ r,q=>by simpa using RSt.join i r q
theorem RSt.comp {H:Hp} {ρ:ASt} {σ:St} (h:RSt K H ρ σ) (nt:Nat) (frs:List (Str × Nat)):RSt K H (aCompStart nt frs ρ) (compStart nt frs σ):=by
  unfold aCompStart compStart
  induction nt with
  | zero =>
    simp only [List.replicate_zero,List.nil_append]
    induction frs with
    | nil=>exact .nil
    | cons p frs ih=>simp only [List.map_cons];exact h.join p.2 ih
  | succ n ih=>simp only [List.replicate_succ,List.cons_append];exact .skip ih
noncomputable def aCL (J:AIt) (g:AG) (tt:AT) (te:AE) (l:Addr) (Q:AVK) (τ:ASt) (A:AHp):Prop:=∃ W:Nat->Nat->ASt->AHp->Prop,(∃ m,W 0 m τ A) /\
  ∀ i m τ A,W i m τ A->(J i A none/\Q (.ref l) A)\/∃ u,J i A (some u)/\g u τ A fun τ2 A2=>tt τ2 A2 fun ok A3 =>
    if ok=true then te τ2 A3 fun y A4=>∃ ys,A4 l=some (.lst ys)/\ys.length < sizeLine/\∃ m',m' < m/\W (i + 1) m' τ2 (updA A4 l (.lst (ys++[y]))) else ∃ m',m' < m/\W (i + 1) m' τ2 A3
noncomputable def aComp (nt:Nat) (frs:List (Str × Nat)) (wi:AI) (g:AG) (tt:AT) (te:AE):AE:=fun ρ A Q=>wi ρ A fun J A1=>∀ l,A1 l=none->aCL J g tt te l Q (aCompStart nt frs ρ) (updA A1 l (.lst []))
theorem ab_comp {nt:Nat} {frs:List (Str × Nat)} {wi:TI} {g:TG} {tt:TT} {te:TE} {ai:AI} {ag:AG} {at':AT} {ae:AE} (hi:AbI K wi ai) (hg:AbG K g ag) (ht:AbT K tt at') (he:AbE K te ae):AbE K (tComp nt frs wi g tt te) (aComp nt frs ai ag at' ae):=fun ρ A σ H Q' Q hs g0 w k=>by
  refine hi ρ A σ H _ _ hs g0 w fun aj A1 J H1 k1 g1 hj q=>?_
  intro l hl
  obtain ⟨W,⟨m0,w0⟩,turn⟩:=q l (g1.none hl)
  have kl:Kp K H1 (upd H1 l (.lst [])):=(Same.upd_new hl).kp
  refine ⟨fun i m τ H2=>∃ τ' A2,Kp K H1 H2/\HR K H2 A2/\RSt K H2 τ' τ/\W i m τ' A2,⟨m0,_,_,kl,g1.newL hl .nil,(hs.same (k1.trans kl)).comp nt frs,w0⟩,?_⟩
  rintro i m τ H2 ⟨τ',A2,k2,g2,s2,w2⟩
  have k12:=k1.trans k2
  rcases turn i m τ' A2 w2 with ⟨hstop,q⟩ | ⟨u,hgo,q⟩
  . exact .inl ⟨hj i A2 H2 _ k2 g2 hstop,k _ _ _ _ k12 g2 (.ref l) q⟩
  . obtain ⟨j1,j2⟩:=hj i A2 H2 _ k2 g2 hgo
    refine .inr ⟨j1,fun x H3 hy=>?_⟩
    obtain ⟨k3,g3,r3⟩:=j2 x H3 hy
    refine hg _ _ _ _ _ _ _ _ r3 (s2.same k3) g3 q fun ρ4 A4 σ4 H4 k4 g4 s4 q4=>ht ρ4 A4 σ4 H4 _ _ s4 g4 q4 fun b A5 H5 k5 g5 q5=>?_
    have k25:=k2.trans (k3.trans (k4.trans k5))
    cases b
    . refine iteN (by decide) ?_
      obtain ⟨m',hm,w'⟩:=(by simpa using q5:∃ m',m' < m/\W (i + 1) m' ρ4 A5)
      exact ⟨m',hm,_,_,k25,g5,s4.same k5,w'⟩
    . refine iteP rfl (he ρ4 A5 σ4 H5 _ _ (s4.same k5) g5 (by simpa using q5) fun y A6 v6 H6 k6 g6 r6 q6=>?_)
      obtain ⟨ys,hA,hz,m',hm,w'⟩:=q6
      obtain ⟨vs,h6,r7⟩:=g6.list hA
      exact ⟨vs,h6,by rw [<- r7.length];exact hz,m',hm,_,_,k25.trans (k6.trans (Kp.lst h6)),g6.setL h6 (r7.app (.one r6)),(s4.same (k5.trans (k6.trans (Kp.lst h6)))),w'⟩
end
end L2
namespace L2
open PySem PySem.Spec PyProof.Rows
section
variable {K:PySem.W.Frag}
noncomputable def xAdd:AR2:=fun u w A Q=>match u,w with
  | .int i,.int j=>Q (.int (i + j)) A
  | .str i,.str j=>i.length + j.length<=sizeLine/\Q (.str (i++j)) A
  | .tup xs,.tup ys=>xs.length + ys.length<=sizeLine/\Q (.tup (xs++ys)) A
  | .ref a,.ref b=>∃ xs ys,A a=some (.lst xs)/\A b=some (.lst ys)/\xs.length + ys.length<=sizeLine/\∀ p,A p=none->Q (.ref p) (updA A p (.lst (xs++ys)))
  | _,_=>False
theorem ab_add:AbR K (uAddW K) xAdd:=fun x y u w A H Q' Q hu hw g h k=>by
  unfold xAdd at h
  split at h
  . cases hu;cases hw;exact k _ _ _ _ (.refl H) g (.int _) h
  . cases hu;cases hw;exact ⟨h.1,k _ _ _ _ (.refl H) g (.str _) h.2⟩
  . cases hu with
    | tup h1 r1 =>
      cases hw with
      | tup h2 r2 =>
        refine .inr ⟨_,_,h1,h2,by rw [<- r1.length,<- r2.length];exact h.1,fun p H' s hp=>k _ _ _ _ s.kp (g.grow s) (.tup hp ((r1.app r2).same s.kp)) h.2⟩
  . cases hu;cases hw
    obtain ⟨xs,ys,e1,e2,hz,q⟩:=h
    obtain ⟨vs,h1,r1⟩:=g.list e1
    obtain ⟨zs,h2,r2⟩:=g.list e2
    exact .inl ⟨vs,zs,SqL.of h1,SqL.of h2,by rw [<- r1.length,<- r2.length];exact hz,fun p hp=>k _ _ _ _ (Same.upd_new hp).kp (g.newL hp (r1.app r2)) (.ref p) (q p (g.none hp))⟩
  . exact h.elim
noncomputable def xI2 (C:Int->Int->Prop) (f:Int->Int->U):AR2:=fun u w A Q=>match u,w with
  | .int i,.int j=>C i j/\Q (f i j) A
  | _,_=>False
noncomputable def xI (f:Int->Int->U):AR2:=fun u w A Q=>match u,w with
  | .int i,.int j=>Q (f i j) A
  | _,_=>False
theorem ab_sub:AbR K uSub (xI fun i j=>.int (i - j)):=fun x y u w A H Q' Q hu hw g h k=>by
  unfold xI at h
  split at h
  . cases hu;cases hw;exact k _ _ _ _ (.refl H) g (.int _) h
  . exact h.elim
noncomputable def xMul:AR2:=fun u w A Q=>match u,w with
  | .int i,.int j=>IntMulOk i j/\Q (.int (i * j)) A
  | .ref a,.int m=>∃ xs,A a=some (.lst xs)/\-(2 ^ 63)<=m/\m < 2 ^ 63/\xs.length * m.toNat<=sizeLine/\∀ p,A p=none->Q (.ref p) (updA A p (.lst (List.replicate m.toNat xs).flatten))
  | _,_=>False
theorem RUs.flat {H:Hp} {us:List U} {vs:List V} (r:RUs K H us vs):∀ n,RUs K H (List.replicate n us).flatten (List.replicate n vs).flatten
  | 0=>.nil
  | n + 1=>by rw [List.replicate_succ,List.replicate_succ,List.flatten_cons,List.flatten_cons];exact r.app (r.flat n)
theorem ab_mul:AbR K uMulB xMul:=fun x y u w A H Q' Q hu hw g h k=>by
  unfold xMul at h
  split at h
  . cases hu;cases hw;exact ⟨h.1,k _ _ _ _ (.refl H) g (.int _) h.2⟩
  . cases hu;cases hw
    obtain ⟨xs,e1,b1,b2,hz,q⟩:=h
    obtain ⟨vs,h1,r1⟩:=g.list e1
    exact ⟨_,_,vs,rfl,rfl,h1,b1,b2,by rw [<- r1.length];exact hz,fun p hp=>k _ _ _ _ (Same.upd_new hp).kp (g.newL hp (r1.flat _)) (.ref p) (q p (g.none hp))⟩
  . exact h.elim
theorem ab_div:AbR K uDiv (xI2 CDiv fun i j=>.int (i / j)):=fun x y u w A H Q' Q hu hw g h k=>by
  unfold xI2 at h
  split at h
  . cases hu;cases hw;exact ⟨h.1,k _ _ _ _ (.refl H) g (.int _) h.2⟩
  . exact h.elim
theorem ab_mod:AbR K uMod (xI2 (fun _ j=>0 < j) fun i j=>.int (i % j)):=fun x y u w A H Q' Q hu hw g h k=>by
  unfold xI2 at h
  split at h
  . cases hu;cases hw;exact ⟨h.1,k _ _ _ _ (.refl H) g (.int _) h.2⟩
  . exact h.elim
theorem ab_pow:AbR K uPow (xI2 CPow fun i j=>.int (i ^ j.toNat)):=fun x y u w A H Q' Q hu hw g h k=>by
  unfold xI2 at h
  split at h
  . cases hu;cases hw;exact ⟨h.1,k _ _ _ _ (.refl H) g (.int _) h.2⟩
  . exact h.elim
noncomputable def xLt:AR2:=fun u w A Q=>match u,w with
  | .int i,.int j=>Q (.bl (decide (i < j))) A
  | .str i,.str j=>Q (.bl (decide (i.cps.toList < j.cps.toList))) A
  | _,_=>False
theorem ab_lt:AbR K uLt xLt:=fun x y u w A H Q' Q hu hw g h k=>by
  unfold xLt at h
  split at h
  . cases hu;cases hw;exact k _ _ _ _ (.refl H) g (.bl _) h
  . cases hu;cases hw;exact k _ _ _ _ (.refl H) g (.bl _) h
  . exact h.elim
theorem ab_le:AbR K uLe (xI fun i j=>.bl (decide (i<=j))):=fun x y u w A H Q' Q hu hw g h k=>by
  unfold xI at h
  split at h
  . cases hu;cases hw;exact k _ _ _ _ (.refl H) g (.bl _) h
  . exact h.elim
theorem ab_gt:AbR K uGt (xI fun i j=>.bl (decide (j < i))):=fun x y u w A H Q' Q hu hw g h k=>by
  unfold xI at h
  split at h
  . cases hu;cases hw;exact k _ _ _ _ (.refl H) g (.bl _) h
  . exact h.elim
theorem ab_ge:AbR K uGe (xI fun i j=>.bl (decide (j<=i))):=fun x y u w A H Q' Q hu hw g h k=>by
  unfold xI at h
  split at h
  . cases hu;cases hw;exact k _ _ _ _ (.refl H) g (.bl _) h
  . exact h.elim
mutual
inductive DU (A:AHp):U->PyData->Prop
  | non:DU A .non .none
  | bl (b:Bool):DU A (.bl b) (.bool b)
  | int (i:Int):DU A (.int i) (.int i)
  | str (x:Str):DU A (.str x) (.str x)
  | tup {us:List U} {ds:List PyData}:DUs A us ds->DU A (.tup us) (.tuple ds)
  | rol {us:List U} {ds:List PyData}:DUs A us ds->DU A (.rol us) (.list ds)
  | lst {a:Addr} {us:List U} {ds:List PyData}:A a=some (.lst us)->DUs A us ds->DU A (.ref a) (.list ds)
inductive DUs (A:AHp):List U->List PyData->Prop
  | nil:DUs A [] []
  | cons {u:U} {d:PyData} {us:List U} {ds:List PyData}:DU A u d->DUs A us ds->DUs A (u::us) (d::ds)
end
mutual
theorem DU.rep {A:AHp} {H:Hp} (g:HR K H A):∀ {u:U} {v:V} {d:PyData},DU A u d->RU K H u v->Rep K H d v:=by
  intro u v d h r
  cases h with
  | non=>cases r;exact .non
  | bl b=>cases r;exact .bl b
  | int b=>cases r;exact .int b
  | str b=>cases r;exact .str b
  | tup q=>cases r with | tup h r=>exact .tup h (DUs.reps g q r)
  | rol q=>cases r with | rol h r=>exact .lst h.sq (DUs.reps g q r)
  | lst e q =>
    cases r
    obtain ⟨vs,h,r⟩:=g.list e
    exact .lst (SqL.of h) (DUs.reps g q r)
theorem DUs.reps {A:AHp} {H:Hp} (g:HR K H A):∀ {us:List U} {vs:List V} {ds:List PyData},DUs A us ds->RUs K H us vs->Reps K H ds vs
  | _,_,_,.nil,.nil=>.nil
  | _,_,_,.cons h r,.cons q s=>.cons (DU.rep g h q) (DUs.reps g r s)
end
noncomputable def xDeep (ne:Bool) (u w:U) (A:AHp) (Q:AVK):Prop:=∃ d e,DU A u d/\DU A w e/\d.canLay0=true/\e.canLay0=true/\d.depth<=190/\Q (.bl (if ne then !PyData.eqv d e else PyData.eqv d e)) A
noncomputable def xEq:AR2:=fun u w A Q=>match u,w with
  | .int i,.int j=>Q (.bl (decide (i=j))) A
  | .str i,.str j=>Q (.bl (decide (i=j))) A
  | .bl i,.bl j=>Q (.bl (decide (i=j))) A
  | .tup us,.tup ws=>xDeep false (.tup us) (.tup ws) A Q
  | .ref a,.ref b=>xDeep false (.ref a) (.ref b) A Q
  | .rol a,.ref b=>xDeep false (.rol a) (.ref b) A Q
  | .tup us,.non=>xDeep false (.tup us) .non A Q
  | .non,.tup us=>xDeep false .non (.tup us) A Q
  | .non,.non=>Q (.bl true) A
  | .non,.str _=>Q (.bl false) A
  | .str _,.non=>Q (.bl false) A
  | _,_=>False
theorem deep_eq {x y:V} {u w:U} {A:AHp} {H:Hp} {Q':AVK} {Q:VK} {ne:Bool} (hu:RU K H u x) (hw:RU K H w y) (g:HR K H A) (h:xDeep ne u w A Q') (k:Aft K H Q' Q):rEqD K ne x y H Q:=by
  obtain ⟨d,e,h1,h2,c1,c2,dp,q⟩:=h
  exact ⟨d,e,h1.rep g hu,h2.rep g hw,c1,c2,dp,k _ _ _ _ (.refl H) g (.bl _) q⟩
theorem ab_eq:AbR K (uEqD K) xEq:=fun x y u w A H Q' Q hu hw g h k=>by
  unfold xEq at h
  split at h
  . cases hu;cases hw;exact k _ _ _ _ (.refl H) g (.bl _) h
  . cases hu;cases hw;exact k _ _ _ _ (.refl H) g (.bl _) h
  . cases hu;cases hw;exact k _ _ _ _ (.refl H) g (.bl _) h
  . have:=deep_eq hu hw g h k;cases hu;exact this
  . have:=deep_eq hu hw g h k;cases hu;exact this
  . have:=deep_eq hu hw g h k;cases hu;exact this
  . have:=deep_eq hu hw g h k;cases hu;exact this
  . have:=deep_eq hu hw g h k;cases hu;cases hw;exact this
  . cases hu;cases hw;exact k _ _ _ _ (.refl H) g (.bl _) h
  . cases hu;cases hw;exact k _ _ _ _ (.refl H) g (.bl _) h
  . cases hu;cases hw;exact k _ _ _ _ (.refl H) g (.bl _) h
  . exact h.elim
noncomputable def xNe:AR2:=fun u w A Q=>match u,w with
  | .int i,.int j=>Q (.bl (!decide (i=j))) A
  | .str i,.str j=>Q (.bl (!decide (i=j))) A
  | .bl i,.bl j=>Q (.bl (!decide (i=j))) A
  | .tup us,.tup ws=>xDeep true (.tup us) (.tup ws) A Q
  | .ref a,.ref b=>xDeep true (.ref a) (.ref b) A Q
  | .rol a,.ref b=>xDeep true (.rol a) (.ref b) A Q
  | .tup us,.non=>xDeep true (.tup us) .non A Q
  | .non,.tup us=>xDeep true .non (.tup us) A Q
  | .non,.non=>Q (.bl false) A
  | .non,.str _=>Q (.bl true) A
  | .str _,.non=>Q (.bl true) A
  | _,_=>False
theorem ab_ne:AbR K (uNeD K) xNe:=fun x y u w A H Q' Q hu hw g h k=>by
  unfold xNe at h
  split at h
  . cases hu;cases hw;exact k _ _ _ _ (.refl H) g (.bl _) h
  . cases hu;cases hw;exact k _ _ _ _ (.refl H) g (.bl _) h
  . cases hu;cases hw;exact k _ _ _ _ (.refl H) g (.bl _) h
  . have:=deep_eq hu hw g h k;cases hu;exact this
  . have:=deep_eq hu hw g h k;cases hu;exact this
  . have:=deep_eq hu hw g h k;cases hu;exact this
  . have:=deep_eq hu hw g h k;cases hu;exact this
  . have:=deep_eq hu hw g h k;cases hu;cases hw;exact this
  . cases hu;cases hw;exact k _ _ _ _ (.refl H) g (.bl _) h
  . cases hu;cases hw;exact k _ _ _ _ (.refl H) g (.bl _) h
  . cases hu;cases hw;exact k _ _ _ _ (.refl H) g (.bl _) h
  . exact h.elim
noncomputable def U.flat:U->Bool
  | .non=>true
  | .bl _=>true
  | .int _=>true
  | .str _=>true
  | _=>false
noncomputable def U.toV:U->V
  | .bl b=>.bl b
  | .int i=>.int i
  | .str x=>.str x
  | _=>.non
theorem RU.flat {H:Hp} {u:U} {v:V} (h:RU K H u v) (f:u.flat=true):v=u.toV/\flatV v=true:=by
  cases h <;> first | exact ⟨rfl,rfl⟩ | cases f
theorem RUs.flats {H:Hp}:∀ {us:List U} {vs:List V},RUs K H us vs->us.all U.flat=true->vs=us.map U.toV/\vs.all flatV=true
  | _,_,.nil,_=>⟨rfl,rfl⟩
  | _, _,.cons h r,f=>by
    rw [List.all_cons,Bool.and_eq_true] at f
    obtain ⟨e1,f1⟩:=h.flat f.1
    obtain ⟨e2,f2⟩:=RUs.flats r f.2
    exact ⟨by rw [List.map_cons,e1,e2],by rw [List.all_cons,f1,f2];rfl⟩
noncomputable def inU (u:U) (us:List U):Bool:=inV u.toV (us.map U.toV)
noncomputable def xInB (neg:Bool):AR2:=fun u w A Q=>match w with
  | .str j=>∃ i,u=.str i/\Q (.bl (if neg then !occ j i else occ j i)) A
  | .tup us=>u.flat=true/\us.all U.flat=true/\Q (.bl (if neg then !inU u us else inU u us)) A
  | .rol us=>u.flat=true/\us.all U.flat=true/\Q (.bl (if neg then !inU u us else inU u us)) A
  | .ref a=>∃ us,A a=some (.lst us)/\u.flat=true/\us.all U.flat=true/\Q (.bl (if neg then !inU u us else inU u us)) A
  | _=>False
noncomputable abbrev xIn:=xInB false
theorem in_ref {x:V} {p:Addr} {H:Hp} {Q:VK} {xs:List V} (fx:flatV x=true) (h:∃ xs,Sq K H p xs/\flatV x=true/\xs.all flatV=true/\Q (.bl (inV x xs)) H):uIn K x (.ref p) H Q:=by
  cases x <;> exact h
theorem in_go {x:V} {u:U} {us:List U} {vs:List V} {p:Addr} {H:Hp} {A:AHp} {Q':AVK} {Q:VK} (hu:RU K H u x) (hs:Sq K H p vs) (r:RUs K H us vs) (g:HR K H A) (f:u.flat=true) (fs:us.all U.flat=true) (h:Q' (.bl (inU u us)) A) (k:Aft K H Q' Q):uIn K x (.ref p) H Q:=by
  obtain ⟨e1,f1⟩:=hu.flat f
  obtain ⟨e2,f2⟩:=r.flats fs
  refine in_ref (xs:=vs) f1 ⟨vs,hs,f1,f2,k _ _ _ _ (.refl H) g (.bl _) ?_⟩
  rw [e1,e2];exact h
theorem ab_in:AbR K (uIn K) xIn:=fun x y u w A H Q' Q hu hw g h k=>by
  unfold xIn xInB at h
  split at h
  . obtain ⟨i,rfl,h⟩:=h
    cases hw;cases hu;exact k _ _ _ _ (.refl H) g (.bl _) h
  . cases hw with
    | tup h1 r1=>exact in_go hu (.inr h1) r1 g h.1 h.2.1 h.2.2 k
  . cases hw with
    | rol h1 r1=>exact in_go hu (.inl h1.sq) r1 g h.1 h.2.1 h.2.2 k
  . cases hw
    obtain ⟨us,e,h⟩:=h
    obtain ⟨vs,h1,r1⟩:=g.list e
    exact in_go hu (.inl (SqL.of h1)) r1 g h.1 h.2.1 h.2.2 k
  . exact h.elim
theorem RUs.at {H:Hp} {us:List U} {vs:List V} {i:Int} {u:U} (r:RUs K H us vs) (h:atI us i=some u):∃ v,atI vs i=some v/\RU K H u v:=by
  unfold atI at h ⊢
  rw [<- r.length]
  cases e:ixN us.length i with
  | none=>rw [e] at h;cases h
  | some j=>rw [e] at h;exact r.get' h
noncomputable def xIx:AR2:=fun u w A Q=>match u,w with
  | .str z,.int i=>z.length<=sizeLine/\∃ c,atI z.cps.toList i=some c/\Q (.str ⟨#[c]⟩) A
  | .tup us,.int i=>∃ x,atI us i=some x/\Q x A
  | .rol us,.int i=>∃ x,atI us i=some x/\Q x A
  | .ref a,.int i=>∃ us x,A a=some (.lst us)/\atI us i=some x/\Q x A
  | _,_=>False
theorem ab_ix:AbR K (uIx K) xIx:=fun x y u w A H Q' Q hu hw g h k=>by
  unfold xIx at h
  split at h
  . cases hu;cases hw
    obtain ⟨hz,c,e,h⟩:=h
    exact ⟨hz,c,e,k _ _ _ _ (.refl H) g (.str _) h⟩
  . cases hw
    obtain ⟨x,e,h⟩:=h
    cases hu with
    | tup h1 r1 =>
      obtain ⟨v,e2,rv⟩:=r1.at e
      exact ⟨_,v,.inr h1,e2,k _ _ _ _ (.refl H) g rv h⟩
  . cases hw
    obtain ⟨x,e,h⟩:=h
    cases hu with
    | rol h1 r1 =>
      obtain ⟨v,e2,rv⟩:=r1.at e
      exact ⟨_,v,.inl h1.sq,e2,k _ _ _ _ (.refl H) g rv h⟩
  . cases hw;cases hu
    obtain ⟨us,x,e0,e,h⟩:=h
    obtain ⟨vs,h1,r1⟩:=g.list e0
    obtain ⟨v,e2,rv⟩:=r1.at e
    exact ⟨_,v,.inl (SqL.of h1),e2,k _ _ _ _ (.refl H) g rv h⟩
  . exact h.elim
noncomputable def cutU (xs:List U) (lo hi:Option Int):List U:=(xs.drop (HT.sIx xs.length 0 lo)).take (HT.sIx xs.length xs.length hi - HT.sIx xs.length 0 lo)
theorem RUs.cut {H:Hp} {us:List U} {vs:List V} (r:RUs K H us vs) (lo hi:Option Int):RUs K H (cutU us lo hi) (cutV vs lo hi):=by
  unfold cutU cutV
  rw [r.length]
  exact (r.drop _).take _
noncomputable def xSl:U->Option Int->Option Int->AHp->AVK->Prop:=fun u lo hi A Q=>match u with
  | .str z=>z.length<=sizeLine/\Q (.str (cutS z lo hi)) A
  | .tup us=>Q (.tup (cutU us lo hi)) A
  | .rol us=>∀ p,A p=none->Q (.ref p) (updA A p (.lst (cutU us lo hi)))
  | .ref a=>∃ us,A a=some (.lst us)/\∀ p,A p=none->Q (.ref p) (updA A p (.lst (cutU us lo hi)))
  | _=>False
theorem ab_xsl:AbSl K (uSlW K) xSl:=fun x u lo hi A H Q' Q hu g h k=>by
  unfold xSl at h
  split at h
  . cases hu;exact ⟨h.1,k _ _ _ _ (.refl H) g (.str _) h.2⟩
  . cases hu with
    | tup h1 r1=>exact .inr ⟨_,h1,fun p H' s hp=>k _ _ _ _ s.kp (g.grow s) (.tup hp ((r1.cut lo hi).same s.kp)) h⟩
  . cases hu with
    | rol h1 r1=>exact .inl ⟨_,h1.sq,fun p hp=>k _ _ _ _ (Same.upd_new hp).kp (g.newL hp (r1.cut lo hi)) (.ref p) (h p (g.none hp))⟩
  . cases hu
    obtain ⟨us,e,h⟩:=h
    obtain ⟨vs,h1,r1⟩:=g.list e
    exact .inl ⟨_,SqL.of h1,fun p hp=>k _ _ _ _ (Same.upd_new hp).kp (g.newL hp (r1.cut lo hi)) (.ref p) (h p (g.none hp))⟩
  . exact h.elim
noncomputable def xLen:List U->AHp->AVK->Prop:=fun us A Q=>match us with
  | [.str z]=>z.length<=sizeLine/\Q (.int z.length) A
  | [.tup us]=>Q (.int us.length) A
  | [.rol us]=>Q (.int us.length) A
  | [.ref a]=>∃ us,A a=some (.lst us)/\Q (.int us.length) A
  | _=>False
theorem RUs.inv1 {H:Hp} {u:U} {vs:List V} (h:RUs K H [u] vs):∃ v,vs=[v]/\RU K H u v:=by
  cases h with
  | cons h r=>cases r;exact ⟨_,rfl,h⟩
theorem RUs.inv2 {H:Hp} {u w:U} {vs:List V} (h:RUs K H [u,w] vs):∃ v x,vs=[v,x]/\RU K H u v/\RU K H w x:=by
  cases h with
  | cons h r=>obtain ⟨x,rfl,r'⟩:=r.inv1;exact ⟨_,x,rfl,h,r'⟩
theorem ab_len:AbL K (uLen K) xLen:=fun xs us A H Q' Q r g h k=>by
  unfold xLen at h
  split at h
  . obtain ⟨v,rfl,r'⟩:=r.inv1;cases r';exact ⟨h.1,k _ _ _ _ (.refl H) g (.int _) h.2⟩
  . obtain ⟨v,rfl,r'⟩:=r.inv1
    cases r' with
    | tup h1 r1=>exact ⟨_,.inr h1,k _ _ _ _ (.refl H) g (.int _) (by rw [<- r1.length];exact h)⟩
  . obtain ⟨v,rfl,r'⟩:=r.inv1
    cases r' with
    | rol h1 r1=>exact ⟨_,.inl h1.sq,k _ _ _ _ (.refl H) g (.int _) (by rw [<- r1.length];exact h)⟩
  . obtain ⟨v,rfl,r'⟩:=r.inv1
    cases r'
    obtain ⟨us,e,h⟩:=h
    obtain ⟨vs,h1,r1⟩:=g.list e
    exact ⟨_,.inl (SqL.of h1),k _ _ _ _ (.refl H) g (.int _) (by rw [<- r1.length];exact h)⟩
  . exact h.elim
noncomputable def xMin:List U->AHp->AVK->Prop:=fun us A Q=>match us with
  | [.int i,.int j]=>Q (.int (min i j)) A
  | [.ref a]=>∃ ns:List Int,A a=some (.lst (ns.map U.int))/\1<=ns.length/\∀ m,m∈ns->(∀ x∈ns,m<=x)->Q (.int m) A
  | _=>False
noncomputable def xMax:List U->AHp->AVK->Prop:=fun us A Q=>match us with
  | [.int i,.int j]=>Q (.int (max i j)) A
  | [.ref a]=>∃ ns:List Int,A a=some (.lst (ns.map U.int))/\1<=ns.length/\∀ m,m∈ns->(∀ x∈ns,x<=m)->Q (.int m) A
  | _=>False
theorem ab_min:AbL K (uMinA K) xMin:=fun xs us A H Q' Q r g h k=>by
  unfold xMin at h
  split at h
  . obtain ⟨v,x,rfl,r1,r2⟩:=r.inv2;cases r1;cases r2;exact k _ _ _ _ (.refl H) g (.int _) h
  . obtain ⟨v,rfl,r'⟩:=r.inv1;cases r'
    obtain ⟨ns,e,hn,h⟩:=h
    obtain ⟨vs,h1,r1⟩:=g.list e
    exact ⟨ns,SqL.of (by rw [h1,r1.ints]),hn,fun m hm hx=>k _ _ _ _ (.refl H) g (.int _) (h m hm hx)⟩
  . exact h.elim
theorem ab_max:AbL K (uMaxA K) xMax:=fun xs us A H Q' Q r g h k=>by
  unfold xMax at h
  split at h
  . obtain ⟨v,x,rfl,r1,r2⟩:=r.inv2;cases r1;cases r2;exact k _ _ _ _ (.refl H) g (.int _) h
  . obtain ⟨v,rfl,r'⟩:=r.inv1;cases r'
    obtain ⟨ns,e,hn,h⟩:=h
    obtain ⟨vs,h1,r1⟩:=g.list e
    exact ⟨ns,SqL.of (by rw [h1,r1.ints]),hn,fun m hm hx=>k _ _ _ _ (.refl H) g (.int _) (h m hm hx)⟩
  . exact h.elim
noncomputable def xSum:List U->AHp->AVK->Prop:=fun us A Q=>match us with
  | [.ref a]=>∃ ns:List Int,A a=some (.lst (ns.map U.int))/\Q (.int ns.sum) A
  | _=>False
theorem ab_sum:AbL K (uSum K) xSum:=fun xs us A H Q' Q r g h k=>by
  unfold xSum at h
  split at h
  . obtain ⟨v,rfl,r'⟩:=r.inv1;cases r'
    obtain ⟨ns,e,h⟩:=h
    obtain ⟨vs,h1,r1⟩:=g.list e
    exact ⟨ns,SqL.of (by rw [h1,r1.ints]),k _ _ _ _ (.refl H) g (.int _) h⟩
  . exact h.elim
noncomputable def xListOf:List U->AHp->AVK->Prop:=fun us A Q=>match us with
  | [.tup us]=>∀ p,A p=none->Q (.ref p) (updA A p (.lst us))
  | [.rol us]=>∀ p,A p=none->Q (.ref p) (updA A p (.lst us))
  | [.ref a]=>∃ us,A a=some (.lst us)/\∀ p,A p=none->Q (.ref p) (updA A p (.lst us))
  | _=>False
theorem ab_listof:AbL K (uListOf K) xListOf:=fun xs us A H Q' Q r g h k=>by
  unfold xListOf at h
  split at h
  . obtain ⟨v,rfl,r'⟩:=r.inv1
    cases r' with
    | tup h1 r1=>exact ⟨_,.inr h1,fun p hp=>k _ _ _ _ (Same.upd_new hp).kp (g.newL hp r1) (.ref p) (h p (g.none hp))⟩
  . obtain ⟨v,rfl,r'⟩:=r.inv1
    cases r' with
    | rol h1 r1=>exact ⟨_,.inl h1.sq,fun p hp=>k _ _ _ _ (Same.upd_new hp).kp (g.newL hp r1) (.ref p) (h p (g.none hp))⟩
  . obtain ⟨v,rfl,r'⟩:=r.inv1
    cases r'
    obtain ⟨us,e,h⟩:=h
    obtain ⟨vs,h1,r1⟩:=g.list e
    exact ⟨_,.inl (SqL.of h1),fun p hp=>k _ _ _ _ (Same.upd_new hp).kp (g.newL hp r1) (.ref p) (h p (g.none hp))⟩
  . exact h.elim
noncomputable def xTupOf:List U->AHp->AVK->Prop:=fun us A Q=>match us with
  | [.tup us]=>Q (.tup us) A
  | [.rol us]=>Q (.tup us) A
  | [.ref a]=>∃ us,A a=some (.lst us)/\Q (.tup us) A
  | _=>False
noncomputable def xInt:List U->AHp->AVK->Prop:=fun us A Q=>match us with
  | [.int i]=>Q (.int i) A
  | [.bl k]=>Q (.int (if k then 1 else 0)) A
  | _=>False
theorem ab_xint:AbL K uInt xInt:=fun xs us A H Q' Q r g h k=>by
  unfold xInt at h
  split at h
  . obtain ⟨v,rfl,r'⟩:=r.inv1;cases r';exact k _ _ _ _ (.refl H) g (.int _) h
  . obtain ⟨v,rfl,r'⟩:=r.inv1;cases r';exact k _ _ _ _ (.refl H) g (.int _) h
  . exact h.elim
theorem ab_neg:AbU K (rU fun i=>.int (-i)) (fun u A Q=>∃ i,u=.int i/\Q (.int (-i)) A):=fun x u A H Q' Q r g hq0 k=>by
  obtain ⟨i,e,h⟩:=hq0
  subst e;cases r;exact ⟨i,rfl,k _ _ _ _ (.refl H) g (.int _) h⟩
noncomputable def isLst:U->AHp->Prop:=fun u A=>match u with
  | .ref a=>∃ us,A a=some (.lst us)
  | _=>False
theorem ab_isLst:AbY K "list" isLst:=fun x u A H r g h=>by
  unfold isLst at h
  split at h
  . cases r
    obtain ⟨us,e⟩:=h
    obtain ⟨vs,h1,r1⟩:=g.list e
    exact .inl ⟨rfl,vs,SqL.of h1⟩
  . exact h.elim
noncomputable def isTupU:U->AHp->Prop:=fun u _=>match u with
  | .tup _=>True
  | _=>False
noncomputable def mApp:U->List U->AHp->AVK->Prop:=fun u us A Q=>match u,us with
  | .ref a,[w]=>∃ xs,A a=some (.lst xs)/\xs.length < sizeLine/\Q .non (updA A a (.lst (xs++[w])))
  | _,_=>False
theorem ab_mapp:AbMt K rAppend mApp:=fun x u xs us A H Q' Q r rs g h k=>by
  unfold mApp at h
  split at h
  . cases r
    obtain ⟨v,rfl,rv⟩:=rs.inv1
    obtain ⟨zs,e,hz,h⟩:=h
    obtain ⟨vs,h1,r1⟩:=g.list e
    exact ⟨_,vs,_,rfl,rfl,h1,by rw [<- r1.length];exact hz,k _ _ _ _ (Kp.lst h1) (g.setL h1 (r1.app (.one rv))) .non h⟩
  . exact h.elim
noncomputable def mPop:U->List U->AHp->AVK->Prop:=fun u us A Q=>match u,us with
  | .ref a,[]=>∃ xs y,A a=some (.lst (xs++[y]))/\Q y (updA A a (.lst xs))
  | _,_=>False
theorem ab_mpop:AbMt K rPop mPop:=fun x u xs us A H Q' Q r rs g h k=>by
  unfold mPop at h
  split at h
  . cases r;cases rs
    obtain ⟨zs,y,e,h⟩:=h
    obtain ⟨vs,h1,r1⟩:=g.list e
    have hl:=r1.length
    rw [List.length_append,List.length_singleton] at hl
    obtain ⟨v,hv,rv⟩:=r1.get' (i:=zs.length) (u:=y) (by simp)
    refine ⟨_,vs,v,rfl,rfl,h1,by rw [<- hl];exact hv,k _ _ _ _ (Kp.lst h1) (g.setL h1 ?_) (rv.same (Kp.lst h1)) h⟩
    have:=r1.dropLast
    rw [List.dropLast_concat] at this
    exact this
  . exact h.elim
end
end L2
namespace L2
open PySem PySem.Spec PyProof.Rows
theorem cutU_tail (x:U) (xs:List U):cutU (x::xs) (some 1) none=xs:=by
  unfold cutU
  have:HT.sIx (x::xs).length 0 (some 1)=1:=by
    have:=HT.sIx_nat (x::xs).length 0 1
    rw [show ((1:Nat):Int)=1 from rfl] at this
    rw [this,List.length_cons];lia
  rw [this,HT.sIx_none,List.drop_succ_cons,List.drop_zero,List.length_cons,Nat.add_sub_cancel,List.take_length]
section
variable {u:U} {ρ:ASt} {A:AHp} {Q:AVK} {a b:AE} {c d:AT} {B:Bool->AHp->Prop} {l:AA} {L:List U->AHp->Prop} {D:AEnds}
theorem q_var0 :(aVar 0 (some u::ρ) A Q)=(Q u A):=rfl
theorem q_nm0 {a0:Option U} {g:ASt->AHp->Prop} :(bName 0 u (a0::ρ) A g)=(g (some u::ρ) A):=rfl
theorem q_get0 {k:U->Prop} :(aGet (some u::ρ) 0 k)=(k u):=rfl
theorem q_varS {i:Nat} {a0:Option U}:(aVar (i + 1) (a0::ρ) A Q)=(aVar i ρ A Q):=rfl
theorem q_nmS {i:Nat} {a0:Option U} {g:ASt->AHp->Prop}:(bName (i + 1) u (a0::ρ) A g)=(bName i u ρ A fun ρ2 A2=>g (a0::ρ2) A2):=rfl
theorem q_getS {i:Nat} {a0:Option U} {k:U->Prop}:(aGet (a0::ρ) (i + 1) k)=(aGet ρ i k):=rfl
theorem q_c :(aC u ρ A Q)=(Q u A):=rfl
theorem q_op {r:AR2}:(aOp r a b ρ A Q)=(a ρ A fun x A1=>b ρ A1 fun y A2=>r x y A2 Q):=rfl
theorem q_un {r:U->AHp->AVK->Prop}:(aUn r a ρ A Q)=(a ρ A fun x A1=>r x A1 Q):=rfl
theorem q_tb :(aB a ρ A B)=(a ρ A fun x A1=>∃ c,x=.bl c/\B c A1):=rfl
theorem q_bl {k:Bool} {F:Bool->Prop}:(∃ c,U.bl k=.bl c/\F c)=(F k):=by simp
theorem q_int {i:Int} {F:Int->Prop}:(∃ c,U.int i=.int c/\F c)=(F i):=by simp
theorem q_and :(aAnd c d ρ A B)=(c ρ A fun k A1=>if k=true then d ρ A1 B else B false A1):=rfl
theorem q_or :(aOr c d ρ A B)=(c ρ A fun k A1=>if k=true then B true A1 else d ρ A1 B):=rfl
theorem q_not :(aNot c ρ A B)=(c ρ A fun k A1=>B (!k) A1):=rfl
theorem q_true :(aTrue ρ A B)=(B true A):=rfl
theorem q_nil :(aNil ρ A L)=(L [] A):=rfl
theorem q_cons :(aCons a l ρ A L)=(a ρ A fun x A1=>l ρ A1 fun xs A2=>L (x::xs) A2):=rfl
theorem q_const {us:List U}:(aConst us ρ A L)=(L us A):=rfl
theorem q_tup :(aTup l ρ A Q)=(l ρ A fun xs A1=>xs.length<=sizeLine/\Q (.tup xs) A1):=rfl
theorem q_lst :(aLst l ρ A Q)=(l ρ A fun xs A1=>xs.length<=sizeLine/\∀ p,A1 p=none->Q (.ref p) (updA A1 p (.lst xs))):=rfl
theorem q_cb {r:List U->AHp->AVK->Prop}:(aCB r l ρ A Q)=(l ρ A fun us A1=>r us A1 Q):=rfl
theorem q_call {sp:ASp}:(aCall sp l ρ A Q)=(l ρ A fun us A1=>sp us A1 Q):=rfl
theorem q_nopart {O:Option Int->AHp->Prop}:(aNoPart ρ A O)=(O none A):=rfl
theorem q_part {O:Option Int->AHp->Prop}:(aPart a ρ A O)=(a ρ A fun x A1=>∃ i,x=.int i/\O (some i) A1):=rfl
theorem q_sl {r:U->Option Int->Option Int->AHp->AVK->Prop} {lo hi:AP1}:(aSl r a lo hi ρ A Q)=(a ρ A fun x A1=>lo ρ A1 fun i A2=>hi ρ A2 fun j A3=>r x i j A3 Q):=rfl
theorem q_bm0 {y:U->AHp->Prop} {r:U->List U->AHp->AVK->Prop}:(aBM0 y r a ρ A Q)=(a ρ A fun x A1=>y x A1/\r x [] A1 Q):=rfl
theorem q_bm {y:U->AHp->Prop} {r:U->List U->AHp->AVK->Prop}:(aBM y r a l ρ A Q)=(a ρ A fun x A1=>y x A1/\l ρ A1 fun us A2=>r x us A2 Q):=rfl
theorem q_next :(aNext D ρ A)=(D.nx ρ A):=rfl
theorem q_seq {t t2:AS}:(aSeq t t2 D ρ A)=(t { D with nx:=t2 D } ρ A):=rfl
theorem q_drop :(aDrop a D ρ A)=(a ρ A fun _ A1=>D.nx ρ A1):=rfl
theorem q_ret :(aRet a D ρ A)=(a ρ A D.rt):=rfl
theorem q_ifs {t t2:AS}:(aIfS c t t2 D ρ A)=(c ρ A fun k A1=>if k=true then t D ρ A1 else t2 D ρ A1):=rfl
theorem q_asg {g:AG}:(aAsg a g D ρ A)=(a ρ A fun x A1=>g x ρ A1 D.nx):=rfl
theorem q_par {i j:Nat}:(aPar i j l D ρ A)=(l ρ A fun us A1=>∃ v w,us=[v,w]/\D.nx ((ρ.set i (some v)).set j (some w)) A1):=rfl
theorem q_two {v w:U} {F:U->U->Prop}:(∃ a b,[v,w]=[a,b]/\F a b)=(F v w):=propext ⟨fun hq0=>by obtain ⟨a,b,e,h⟩:=hq0;injection e with e1 e2;injection e2 with e2 _;subst e1 e2;exact h,fun h=>⟨_,_,rfl,h⟩⟩
theorem q_for {wi:AI} {g:AG} {t:AS}:(aFor wi g t D ρ A)=(wi ρ A fun J A1=>aLoop J g t D ρ A1):=rfl
theorem q_jof {y:U->AHp->(AIt->AHp->Prop)->Prop} {R:AIt->AHp->Prop}:(aJof y a ρ A R)=(a ρ A fun x A1=>y x A1 R):=rfl
theorem q_jargs {y:List U->AHp->(AIt->AHp->Prop)->Prop} {R:AIt->AHp->Prop}:(aJargs y l ρ A R)=(l ρ A fun us A1=>y us A1 R):=rfl
theorem q_ylr {R:AIt->AHp->Prop} {p:Addr}:(yList (.ref p) A R)=((∃ us,A p=some (.lst us))/\R (jLst p) A):=rfl
theorem q_ylo {R:AIt->AHp->Prop} {us:List U}:(yList (.rol us) A R)=(R (jFix us) A):=rfl
theorem q_yt {R:AIt->AHp->Prop} {us:List U}:(yTup (.tup us) A R)=(R (jFix us) A):=rfl
theorem q_yr1 {R:AIt->AHp->Prop} {j:Int}:(yRng1 [.int j] A R)=(-(2 ^ 62)<=j/\j < 2 ^ 62/\R (jFix (rngU 0 j.toNat)) A):=rfl
theorem q_yer {R:AIt->AHp->Prop} {p:Addr}:(yEnum [.ref p] A R)=((∃ us,A p=some (.lst us))/\R (jEnum p) A):=rfl
theorem q_yeo {R:AIt->AHp->Prop} {us:List U}:(yEnum [.rol us] A R)=(R (jFix (enU us)) A):=rfl
theorem q_yet {R:AIt->AHp->Prop} {us:List U}:(yEnumT [.tup us] A R)=(R (jFix (enU us)) A):=rfl
theorem q_comp {nt:Nat} {frs:List (Str × Nat)} {wi:AI} {g:AG} {tt:AT} {te:AE}:(aComp nt frs wi g tt te ρ A Q)=(wi ρ A fun J A1=>∀ l,A1 l=none->aCL J g tt te l Q (aCompStart nt frs ρ) (updA A1 l (.lst []))):=rfl
theorem q_gtup {n:Nat} {t:AGs} {N:ASt->AHp->Prop} {us:List U}:(bTup n t (.tup us) ρ A N)=(us.length=n/\t us ρ A N):=propext ⟨fun hq0=>by obtain ⟨vs,e,h⟩:=hq0;cases e;exact h,fun h=>⟨_,rfl,h⟩⟩
theorem q_gcons {t:AG} {ts:AGs} {N:ASt->AHp->Prop} {us:List U}:(bCons t ts (u::us) ρ A N)=(t u ρ A fun ρ2 A2=>ts us ρ2 A2 N):=propext ⟨fun hq0=>by obtain ⟨v,r,e,h⟩:=hq0;cases e;exact h,fun h=>⟨_,_,rfl,h⟩⟩
theorem q_gnil {N:ASt->AHp->Prop}:(bNil [] ρ A N)=(N ρ A):=propext ⟨fun h=>h.2,fun h=>⟨rfl,h⟩⟩
theorem q_addi {i j:Int}:(xAdd (.int i) (.int j) A Q)=(Q (.int (i + j)) A):=rfl
theorem q_adds {x y:Str}:(xAdd (.str x) (.str y) A Q)=(x.length + y.length<=sizeLine/\Q (.str (x++y)) A):=rfl
theorem q_addt {us ws:List U}:(xAdd (.tup us) (.tup ws) A Q)=(us.length + ws.length<=sizeLine/\Q (.tup (us++ws)) A):=rfl
theorem q_addr {p q:Addr}:(xAdd (.ref p) (.ref q) A Q)=(∃ xs ys,A p=some (.lst xs)/\A q=some (.lst ys)/\xs.length + ys.length<=sizeLine/\∀ p,A p=none->Q (.ref p) (updA A p (.lst (xs++ys)))):=rfl
theorem q_xi {i j:Int} {f:Int->Int->U}:(xI f (.int i) (.int j) A Q)=(Q (f i j) A):=rfl
theorem q_xi2 {i j:Int} {f:Int->Int->U} {C:Int->Int->Prop}:(xI2 C f (.int i) (.int j) A Q)=(C i j/\Q (f i j) A):=rfl
theorem q_mul {i j:Int}:(xMul (.int i) (.int j) A Q)=(IntMulOk i j/\Q (.int (i * j)) A):=rfl
theorem q_rep {p:Addr} {m:Int}:(xMul (.ref p) (.int m) A Q)=(∃ xs,A p=some (.lst xs)/\-(2 ^ 63)<=m/\m < 2 ^ 63/\xs.length * m.toNat<=sizeLine/\∀ p,A p=none->Q (.ref p) (updA A p (.lst (List.replicate m.toNat xs).flatten))):=rfl
theorem q_lti {i j:Int}:(xLt (.int i) (.int j) A Q)=(Q (.bl (decide (i < j))) A):=rfl
theorem q_eqi {i j:Int}:(xEq (.int i) (.int j) A Q)=(Q (.bl (decide (i=j))) A):=rfl
theorem q_eqs {x y:Str}:(xEq (.str x) (.str y) A Q)=(Q (.bl (decide (x=y))) A):=rfl
theorem q_eqb {k m:Bool}:(xEq (.bl k) (.bl m) A Q)=(Q (.bl (decide (k=m))) A):=rfl
theorem q_eqt {us ws:List U}:(xEq (.tup us) (.tup ws) A Q)=(xDeep false (.tup us) (.tup ws) A Q):=rfl
theorem q_eqr {p q:Addr}:(xEq (.ref p) (.ref q) A Q)=(xDeep false (.ref p) (.ref q) A Q):=rfl
theorem q_nei {i j:Int}:(xNe (.int i) (.int j) A Q)=(Q (.bl (!decide (i=j))) A):=rfl
theorem q_nes {x y:Str}:(xNe (.str x) (.str y) A Q)=(Q (.bl (!decide (x=y))) A):=rfl
theorem q_neb {k m:Bool}:(xNe (.bl k) (.bl m) A Q)=(Q (.bl (!decide (k=m))) A):=rfl
theorem q_net {us ws:List U}:(xNe (.tup us) (.tup ws) A Q)=(xDeep true (.tup us) (.tup ws) A Q):=rfl
theorem q_ner {p q:Addr}:(xNe (.ref p) (.ref q) A Q)=(xDeep true (.ref p) (.ref q) A Q):=rfl
theorem q_int_ {us:List U}:(xInB false u (.tup us) A Q)=(u.flat=true/\us.all U.flat=true/\Q (.bl (inU u us)) A):=rfl
theorem q_inr_ {p:Addr}:(xInB false u (.ref p) A Q)=(∃ us,A p=some (.lst us)/\u.flat=true/\us.all U.flat=true/\Q (.bl (inU u us)) A):=rfl
theorem q_ins_ {x y:Str}:(xInB false (.str x) (.str y) A Q)=(Q (.bl (occ y x)) A):=propext ⟨fun hq0=>by obtain ⟨i,e,h⟩:=hq0;cases e;exact h,fun h=>⟨_,rfl,h⟩⟩
theorem q_ixs {z:Str} {i:Int}:(xIx (.str z) (.int i) A Q)=(z.length<=sizeLine/\∃ c,atI z.cps.toList i=some c/\Q (.str ⟨#[c]⟩) A):=rfl
theorem q_ix0 {us:List U}:(xIx (.tup (u::us)) (.int 0) A Q)=(Q u A):=propext ⟨fun hq0=>by obtain ⟨x,e,h⟩:=hq0;rw [show atI (u::us) 0=some u from atI_nat (j:=0) rfl] at e;cases e;exact h,fun h=>⟨_,atI_nat (j:=0) rfl,h⟩⟩
theorem q_ix1 {w:U} {us:List U}:(xIx (.tup (u::w::us)) (.int 1) A Q)=(Q w A):=propext ⟨fun hq0=>by obtain ⟨x,e,h⟩:=hq0;rw [show atI (u::w::us) 1=some w from atI_nat (j:=1) rfl] at e;cases e;exact h,fun h=>⟨_,atI_nat (j:=1) rfl,h⟩⟩
theorem q_ix2 {w x:U} {us:List U}:(xIx (.tup (u::w::x::us)) (.int 2) A Q)=(Q x A):=propext ⟨fun hq0=>by obtain ⟨z,e,h⟩:=hq0;rw [show atI (u::w::x::us) 2=some x from atI_nat (j:=2) rfl] at e;cases e;exact h,fun h=>⟨_,atI_nat (j:=2) rfl,h⟩⟩
theorem q_ixt {us:List U} {i:Int}:(xIx (.tup us) (.int i) A Q)=(∃ x,atI us i=some x/\Q x A):=rfl
theorem q_ixo {us:List U} {i:Int}:(xIx (.rol us) (.int i) A Q)=(∃ x,atI us i=some x/\Q x A):=rfl
theorem q_ixr {p:Addr} {i:Int}:(xIx (.ref p) (.int i) A Q)=(∃ us x,A p=some (.lst us)/\atI us i=some x/\Q x A):=rfl
theorem q_sls {lo hi:Option Int} {z:Str}:(xSl (.str z) lo hi A Q)=(z.length<=sizeLine/\Q (.str (cutS z lo hi)) A):=rfl
theorem q_slt1 {us:List U}:(xSl (.tup (u::us)) (some 1) none A Q)=(Q (.tup us) A):=by show Q (.tup (cutU (u::us) (some 1) none)) A=_;rw [cutU_tail]
theorem q_slt {lo hi:Option Int} {us:List U}:(xSl (.tup us) lo hi A Q)=(Q (.tup (cutU us lo hi)) A):=rfl
theorem q_slo {lo hi:Option Int} {us:List U}:(xSl (.rol us) lo hi A Q)=(∀ p,A p=none->Q (.ref p) (updA A p (.lst (cutU us lo hi)))):=rfl
theorem q_slr {lo hi:Option Int} {p:Addr}:(xSl (.ref p) lo hi A Q)=(∃ us,A p=some (.lst us)/\∀ p,A p=none->Q (.ref p) (updA A p (.lst (cutU us lo hi)))):=rfl
theorem q_lens {z:Str}:(xLen [.str z] A Q)=(z.length<=sizeLine/\Q (.int z.length) A):=rfl
theorem q_lent {us:List U}:(xLen [.tup us] A Q)=(Q (.int us.length) A):=rfl
theorem q_leno {us:List U}:(xLen [.rol us] A Q)=(Q (.int us.length) A):=rfl
theorem q_lenr {p:Addr}:(xLen [.ref p] A Q)=(∃ us,A p=some (.lst us)/\Q (.int us.length) A):=rfl
theorem q_min2 {i j:Int}:(xMin [.int i,.int j] A Q)=(Q (.int (min i j)) A):=rfl
theorem q_max2 {i j:Int}:(xMax [.int i,.int j] A Q)=(Q (.int (max i j)) A):=rfl
theorem q_minl {p:Addr}:(xMin [.ref p] A Q)=(∃ ns:List Int,A p=some (.lst (ns.map U.int))/\1<=ns.length/\∀ m,m∈ns->(∀ x∈ns,m<=x)->Q (.int m) A):=rfl
theorem q_maxl {p:Addr}:(xMax [.ref p] A Q)=(∃ ns:List Int,A p=some (.lst (ns.map U.int))/\1<=ns.length/\∀ m,m∈ns->(∀ x∈ns,x<=m)->Q (.int m) A):=rfl
theorem q_sum {p:Addr}:(xSum [.ref p] A Q)=(∃ ns:List Int,A p=some (.lst (ns.map U.int))/\Q (.int ns.sum) A):=rfl
theorem q_lot {us:List U}:(xListOf [.tup us] A Q)=(∀ p,A p=none->Q (.ref p) (updA A p (.lst us))):=rfl
theorem q_loo {us:List U}:(xListOf [.rol us] A Q)=(∀ p,A p=none->Q (.ref p) (updA A p (.lst us))):=rfl
theorem q_lor {p:Addr}:(xListOf [.ref p] A Q)=(∃ us,A p=some (.lst us)/\∀ p,A p=none->Q (.ref p) (updA A p (.lst us))):=rfl
theorem q_tot {us:List U}:(xTupOf [.tup us] A Q)=(Q (.tup us) A):=rfl
theorem q_tor {p:Addr}:(xTupOf [.ref p] A Q)=(∃ us,A p=some (.lst us)/\Q (.tup us) A):=rfl
theorem q_xint {i:Int}:(xInt [.int i] A Q)=(Q (.int i) A):=rfl
theorem q_isl {p:Addr}:(isLst (.ref p) A)=(∃ us,A p=some (.lst us)):=rfl
theorem q_ist {us:List U}:(isTupU (.tup us) A)=(True):=rfl
theorem q_app {p:Addr}:(mApp (.ref p) [u] A Q)=(∃ xs,A p=some (.lst xs)/\xs.length < sizeLine/\Q .non (updA A p (.lst (xs++[u])))):=rfl
theorem q_pop {p:Addr}:(mPop (.ref p) [] A Q)=(∃ xs y,A p=some (.lst (xs++[y]))/\Q y (updA A p (.lst xs))):=rfl
theorem q_neg {i:Int}:((fun (u:U) (A:AHp) (Q:AVK)=>∃ i,u=.int i/\Q (.int (-i)) A) (.int i) A Q)=(Q (.int (-i)) A):=by simp
end
end L2
namespace L2
open PySem PySem.Spec PyProof.Rows
noncomputable def Ext (A A':AHp):Prop:=∀ a o,A a=some o->A' a=some o
theorem Ext.refl (A:AHp):Ext A A:=fun _ _ h=>h
theorem Ext.trans {A B C:AHp} (h:Ext A B) (k:Ext B C):Ext A C:=fun a o e=>k a o (h a o e)
theorem Ext.new {A:AHp} {l:Addr} {o:AO} (h:A l=none):Ext A (updA A l o):=fun b u e=>by
  rw [updA_ne (fun z=>by rw [z,h] at e;cases e)];exact e
theorem HR.ext {K:PySem.W.Frag} {H:Hp} {A A':AHp} (e:Ext A A') (h:HR K H A'):HR K H A:=fun a o q=>h a o (e a o q)
noncomputable def Fg (Q:AVK):AVK:=fun u A=>∃ A',Ext A' A/\Q u A'
noncomputable def aStart (N:List Str) (us:List U):ASt:=us.map some++List.replicate (N.length - us.length) none
section
variable {P:Program} {w:World} {K:PySem.W.Frag} {mg:Str->Option Value} {base:Heap}
theorem RSt.nones {H:Hp}:∀ n,RSt K H (List.replicate n none) (List.replicate n none)
  | 0=>.nil
  | n + 1=>.skip (RSt.nones n)
theorem RSt.start {H:Hp} (N:List Str) {us:List U} {vs:List V} (r:RUs K H us vs):RSt K H (aStart N us) (L2.start N vs):=by
  unfold aStart L2.start
  rw [r.length]
  generalize N.length - vs.length=n
  induction us generalizing vs with
  | nil=>cases r;exact RSt.nones n
  | cons u us ih =>
    cases r with
    | cons h r=>exact .cons h (ih r)
theorem Fun.okA {x qual:Str} {st:Stmt} {f:Addr} {fd:FuncData} {N ps:List Str} {k:Nat} {asp:ASp} {sc:Scope} {body:List Stmt} {as:AS} (F:Fun K x qual st f fd) (hs:defScope st=sc) (hb:defBody st=body) (S:FnScope N ps (defScope st))
    (hbody:FnScope N ps sc->∀ (cdv:Value) (A:Around) (outer:List Env) (s:Shared) (H:Hp) (E:XK),Room k (A.deeper (envOfC qual sc s.heap.objs.size f cdv)) ->
      ∃ t,PSs (cxOf CX0 P w K mg base N qual sc f cdv A outer s H E).nox body t/\AbS K t as)
    (hsp:∀ us A Q,asp us A Q->us.length=ps.length/\as { nx:=fun _ A'=>Fg Q .non A',rt:=Fg Q } (aStart N us) A):FnOk P w K mg base CX0 (k + 1) f fd ps (spOf K asp):=by
  refine F.ok2 hs hb S (fun vs H Q E ⟨us,A,Q',r,g,h,_⟩=>?_) fun S cdv A outer s H vs Q E hr ⟨us,A',Q',r,g,h,k⟩=>?_
  . rw [<- r.length];exact (hsp us A Q' h).1
  . obtain ⟨t,ht,ha⟩:=hbody S cdv A outer s H E hr
    exact ⟨t,ht,ha _ _ _ _ _ _ (RSt.start N r) g (hsp us A' Q' h).2 ⟨fun ρ A σ H' k' g' s' ⟨A3,e,q'⟩=>k _ _ _ _ k' (g'.ext e) .non q',fun u A v H' k' g' r' ⟨A3,e,q'⟩=>k _ _ _ _ k' (g'.ext e) r' q',fun _ _ _ _ _ _ _ q=>q.elim,fun _ _ _ _ _ _ _ q=>q.elim⟩⟩
noncomputable def aspLaw:ASp:=fun us A Q=>∃ ns:List Int,us=[.rol (ns.map U.int)]/\ns.length<=63/\∀ A',Q (.bl true) A'
theorem law_in {H:Hp} {a:Addr} {ns:List Int} {E:XK} (hl:ns.length<=63) (hO:Only H) (hS:SqL K H a (ns.map V.int)):spOf K aspLaw [.ref a] H (fun v _=>v=.bl true) E:=by
  have hR:SqR K H a (ns.map V.int):=by
    rcases hS with (h | h) | h
    . rcases hO a with e | ⟨o,xs,e⟩ <;> rw [e] at h <;> cases h
    . exact .inl h
    . exact .inr h
  exact ⟨[.rol (ns.map U.int)],fun _=>none,fun u _=>u=.bl true,.one (.rol hR RUs.of_ints),(fun a o e=>by cases e),⟨ns,rfl,hl,fun _=>rfl⟩,fun u A v H' _ _ r e=>by subst e;cases r;rfl⟩
end
noncomputable def truU:U->AHp->(Bool->AHp->Prop)->Prop:=fun x A1 Q=>match x with
  | .ref p=>∃ us,A1 p=some (.lst us)/\Q (!us.isEmpty) A1
  | .tup us=>Q (!us.isEmpty) A1
  | .bl b=>Q b A1
  | .int i=>Q (i != 0) A1
  | .non=>Q false A1
  | _=>False
noncomputable def aTru (a:AE):AT:=fun ρ A Q=>a ρ A fun x A1=>truU x A1 Q
theorem q_tru {a:AE} {ρ:ASt} {A:AHp} {B:Bool->AHp->Prop}:(aTru a ρ A B)=(a ρ A fun x A1=>truU x A1 B):=rfl
theorem q_trul {A:AHp} {B:Bool->AHp->Prop} {p:Addr}:(truU (.ref p) A B)=(∃ us,A p=some (.lst us)/\B (!us.isEmpty) A):=rfl
theorem q_trut {A:AHp} {B:Bool->AHp->Prop} {us:List U}:(truU (.tup us) A B)=(B (!us.isEmpty) A):=rfl
theorem q_trub {A:AHp} {B:Bool->AHp->Prop} {k:Bool}:(truU (.bl k) A B)=(B k A):=rfl
section
variable {J:AIt} {g:AG} {b:AS} {D:AEnds} {ρ:ASt} {A:AHp}
theorem for_J (items:List U) (Pv:Nat->ASt->AHp->Prop) (h0:Pv 0 ρ A) (hJ:∀ k ρ A,k<=items.length->Pv k ρ A->J k A items[k]?)
    (hs:∀ k u ρ A,items[k]? = some u->Pv k ρ A->g u ρ A fun ρ2 A2=>b { D with nx:=Pv (k + 1),ct:=Pv (k + 1),bk:=D.nx } ρ2 A2) (hd:∀ ρ A,Pv items.length ρ A->D.nx ρ A):aLoop J g b D ρ A:=by
  refine ⟨fun k m ρ A=>m=items.length - k/\k<=items.length/\Pv k ρ A,⟨_,rfl,Nat.zero_le _,h0⟩,?_⟩
  rintro k m ρ A ⟨rfl,hk,p⟩
  have j:=hJ k ρ A hk p
  by_cases hlt:k < items.length
  . rw [List.getElem?_eq_getElem hlt] at j
    exact .inr ⟨_,j,Pv (k + 1),fun ρ' A' p'=>⟨items.length - (k + 1),by lia,rfl,hlt,p'⟩,hs k _ ρ A (List.getElem?_eq_getElem hlt) p⟩
  . have e:k=items.length:=by lia
    subst e
    rw [List.getElem?_eq_none (Nat.le_refl _)] at j
    exact .inl ⟨j,hd ρ A p⟩
theorem for_fix {us:List U} (Pv:Nat->ASt->AHp->Prop) (h0:Pv 0 ρ A)
    (hs:∀ k u ρ A,us[k]? = some u->Pv k ρ A->g u ρ A fun ρ2 A2=>b { D with nx:=Pv (k + 1),ct:=Pv (k + 1),bk:=D.nx } ρ2 A2) (hd:∀ ρ A,Pv us.length ρ A->D.nx ρ A):aLoop (jFix us) g b D ρ A :=
  for_J us Pv h0 (fun _ _ _ _ _=>rfl) hs hd
theorem for_lst {a:Addr} (us:List U) (Pv:Nat->ASt->AHp->Prop) (h0:Pv 0 ρ A) (hl:∀ k ρ A,k<=us.length->Pv k ρ A->A a=some (.lst us))
    (hs:∀ k u ρ A,us[k]? = some u->Pv k ρ A->g u ρ A fun ρ2 A2=>b { D with nx:=Pv (k + 1),ct:=Pv (k + 1),bk:=D.nx } ρ2 A2) (hd:∀ ρ A,Pv us.length ρ A->D.nx ρ A):aLoop (jLst a) g b D ρ A :=
  for_J us Pv h0 (fun k ρ A hk p=>⟨us,hl k ρ A hk p,rfl⟩) hs hd
theorem for_enumA {a:Addr} (us:List U) (Pv:Nat->ASt->AHp->Prop) (h0:Pv 0 ρ A) (hl:∀ k ρ A,k<=us.length->Pv k ρ A->A a=some (.lst us))
    (hs:∀ (k:Nat) u ρ A,us[k]? = some u->Pv k ρ A->g (.tup [.int k,u]) ρ A fun ρ2 A2=>b { D with nx:=Pv (k + 1),ct:=Pv (k + 1),bk:=D.nx } ρ2 A2) (hd:∀ ρ A,Pv us.length ρ A->D.nx ρ A):aLoop (jEnum a) g b D ρ A :=
  for_J (enU us) Pv h0 (fun k ρ A hk p=>⟨us,hl k ρ A (by rw [enU_len] at hk;exact hk) p,rfl⟩) (fun k u ρ A hu p=>by
    rw [enU_get] at hu
    obtain ⟨x,hx,rfl⟩:=Option.map_eq_some_iff.mp hu
    exact hs k x ρ A hx p) (by rw [enU_len];exact hd)
theorem for_rng {lo:Int} {n:Nat} (Pv:Nat->ASt->AHp->Prop) (h0:Pv 0 ρ A)
    (hs:∀ (k:Nat) ρ A,k < n->Pv k ρ A->g (.int (lo + k)) ρ A fun ρ2 A2=>b { D with nx:=Pv (k + 1),ct:=Pv (k + 1),bk:=D.nx } ρ2 A2) (hd:∀ ρ A,Pv n ρ A->D.nx ρ A):aLoop (jFix (rngU lo n)) g b D ρ A :=
  for_J (rngU lo n) Pv h0 (fun k ρ A hk p=>rfl) (fun k u ρ A hu p=>by
    rw [rngU_get] at hu
    by_cases h:k < n
    . rw [if_pos h] at hu;cases hu;exact hs k ρ A h p
    . rw [if_neg h] at hu;cases hu) (by rw [rngU_len];exact hd)
end
theorem neA {A:AHp} {a b:Addr} {o:AO} (h:A a=some o) (h':A b=none):a≠b:=fun e=>by rw [e,h'] at h;cases h
section
variable {J:AIt} {g:AG} {tt:AT} {te:AE} {l:Addr} {Q:AVK} {τ:ASt} {A:AHp}
theorem cl_gen (items:List U) (p:Nat->Bool) (f:Nat->U) (T:ASt->Prop) (h0:T τ) (hl:A l=none) (hn:items.length<=100000) (hJ:∀ k A2,k<=items.length->Ext A A2->J k A2 items[k]?)
    (hs : ∀ k u τ A2,items[k]? = some u->T τ->Ext A A2->∀ (Cy:ASt->U->AHp->Prop) (Cn:ASt->AHp->Prop),(p k=true->∀ τ2,T τ2->Cy τ2 (f k) A2)->(p k=false->∀ τ2,T τ2->Cn τ2 A2) ->
      g u τ A2 fun τ2 A3=>tt τ2 A3 fun ok A4=>if ok=true then te τ2 A4 (Cy τ2) else Cn τ2 A4)
    (hd:Q (.ref l) (updA A l (.lst (((List.range items.length).filter p).map f)))):aCL J g tt te l Q τ (updA A l (.lst [])):=by
  refine ⟨fun i m τ A2=>m=items.length - i/\i<=items.length/\T τ/\A2=updA A l (.lst (((List.range i).filter p).map f)),⟨_,rfl,Nat.zero_le _,h0,rfl⟩,?_⟩
  rintro i m τ A2 ⟨rfl,hi,ht,rfl⟩
  have j:=hJ i _ hi (Ext.new (o:=.lst (((List.range i).filter p).map f)) hl)
  by_cases hlt:i < items.length
  . have hu:items[i]? = some items[i]:=List.getElem?_eq_getElem hlt
    rw [hu] at j
    refine .inr ⟨_,j,hs i _ τ _ hu ht (Ext.new hl) _ _ (fun hp τ2 ht2=>⟨_,updA_same,?_,_,?_,rfl,hlt,ht2,?_⟩) (fun hp τ2 ht2=>⟨_,?_,rfl,hlt,ht2,?_⟩)⟩
    . have:(((List.range i).filter p).map f).length<=i:=by rw [List.length_map];exact Nat.le_trans (List.length_filter_le ..) (by simp)
      have:(100000:Nat) < sizeLine:=by decide
      lia
    . lia
    . rw [updA_updA,List.range_succ,List.filter_append,List.map_append];simp [hp]
    . lia
    . rw [List.range_succ,List.filter_append,List.map_append];simp [hp]
  . have e:i=items.length:=by lia
    subst e
    rw [List.getElem?_eq_none (Nat.le_refl _)] at j
    exact .inl ⟨j,hd⟩
theorem cl_map {x0:Option U} {fr:ASt} (items ys:List U) (hlen:ys.length=items.length) (hl:A l=none) (hn:items.length<=100000) (hJ:∀ k A2,k<=items.length->Ext A A2->J k A2 items[k]?)
    (hs:∀ (k:Nat) u y A2,items[k]? = some u->ys[k]? = some y->Ext A A2->∀ Cy:U->AHp->Prop,Cy y A2->te (some u::fr) A2 Cy)
    (hd:Q (.ref l) (updA A l (.lst ys))):aCL J (bName 0) aTrue te l Q (x0::fr) (updA A l (.lst [])):=by
  refine cl_gen items (fun _=>true) (fun k=>(ys[k]?).getD .non) (fun τ=>∃ x,τ=x::fr) ⟨_,rfl⟩ hl hn hJ ?_ ?_
  . rintro k u τ A2 hu ⟨x,rfl⟩ he Cy Cn hy hno
    show if true=true then te (some u::fr) A2 (Cy (some u::fr)) else Cn (some u::fr) A2
    rw [if_pos rfl]
    have hk:k < ys.length:=by rw [hlen];exact (List.getElem?_eq_some_iff.mp hu).1
    have hyk:ys[k]? = some ys[k]:=List.getElem?_eq_getElem hk
    refine hs k u _ A2 hu hyk he _ ?_
    have:=hy rfl (some u::fr) ⟨_,rfl⟩
    rw [hyk] at this
    exact this
  . have e:((List.range items.length).filter fun _=>true).map (fun k=>(ys[k]?).getD .non)=ys:=by
      rw [List.filter_eq_self.mpr (fun _ _=>rfl),<- hlen]
      apply List.ext_getElem
      . simp
      . intro i h1 h2;simp [List.getElem?_eq_getElem h2]
    rw [e];exact hd
end
section
variable {X:Cx}
noncomputable def U.tyName:U->Option String
  | .non=>some "NoneType"
  | .bl _=>some "bool"
  | .int _=>some "int"
  | .str _=>some "str"
  | .tup _=>some "tuple"
  | _=>none
inductive TyW (K:PySem.W.Frag) (H:Hp):V->Value->Prop
  | of {x:V} {t:Value}:TyOf K H x t->TyW K H x t
  | tup {a:Addr} {xs:List V}:SqT K H a xs->TyW K H (.ref a) (.type "tuple")
noncomputable def uIsW (K:PySem.W.Frag):List V->Hp->VK->Prop:=fun xs H Q=>match xs with
  | [x,.ty n]=>∃ t b,TyW K H x t/\PySem.W.kitOne K t (.type n)=some b/\Q (.bl b) H
  | [x,.ref c]=>∃ t b,TyW K H x t/\PySem.W.kitOne K t (.ref c)=some b/\Q (.bl b) H
  | _=>False
theorem c_isW:CallR X (.builtin "isinstance") (uIsW X.K):=by
  intro pins s σ H xs us Q I r h
  have go:∀ (x:V) (u t:Value) (c:Value) (b:Bool),RelV x u->TyW X.K H x t->PySem.W.kitOne X.K t c=some b->Q (.bl b) H->wpAny (model X.prog X.w) X.A (call (.builtin "isinstance") [u,c]) (EP X pins σ Q) X.xe s:=by
    intro x u t c b rx ty e q
    cases ty with
    | of ty=>exact isinst_ok I rx ty e fun tk=>⟨.bl b,H,I.tok _,rfl,q⟩
    | tup hq =>
      cases rx
      obtain ⟨its,rv,⟨o,h1,h2,h3⟩,hz⟩:=I.tuple hq
      exact PySem.W.kia_one PySem.W.kitx_tuple I.kIn ⟨o,h1,h2⟩ e (fun z=>nomatch z) fun tk=>⟨.bl b,H,I.tok _,rfl,q⟩
  unfold uIsW at h
  split at h
  . obtain ⟨t,b,ty,e,q⟩:=h
    cases r with
    | cons r1 r2 =>
      cases r2 with
      | cons r2 r3 =>
        cases r3;cases r2
        exact go _ _ _ _ _ r1 ty e q
  . obtain ⟨t,b,ty,e,q⟩:=h
    cases r with
    | cons r1 r2 =>
      cases r2 with
      | cons r2 r3 =>
        cases r3;cases r2
        exact go _ _ _ _ _ r1 ty e q
  . exact h.elim
end
section
variable {K:PySem.W.Frag}
noncomputable def isTy (u:U) (n:String):Bool:=match u with
  | .non=>n == "NoneType"
  | .bl _=>n == "bool" || n == "int"
  | .int _=>n == "int"
  | .str _=>n == "str"
  | .tup _=>n == "tuple"
  | _=>false
noncomputable def xIsi:List U->AHp->AVK->Prop:=fun us A Q=>match us with
  | [u,.ty n]=>(n="int"\/n="bool"\/n="str"\/n="tuple")/\(match u with | .rol _=>False | .ref _=>False | .ty _=>False | _=>True)/\Q (.bl (isTy u n)) A
  | _=>False
theorem ab_isi:AbL K (uIsW K) xIsi:=fun xs us A H Q' Q r g h k=>by
  unfold xIsi at h
  split at h
  . rename_i u n
    obtain ⟨hn,hu,h⟩:=h
    obtain ⟨v,x,rfl,r1,r2⟩:=r.inv2
    cases r2
    cases r1 with
    | non=>rcases hn with rfl | rfl | rfl | rfl <;> exact ⟨_,_,.of .non,rfl,k _ _ _ _ (.refl H) g (.bl _) h⟩
    | bl b=>rcases hn with rfl | rfl | rfl | rfl <;> exact ⟨_,_,.of (.bl b),rfl,k _ _ _ _ (.refl H) g (.bl _) h⟩
    | int b=>rcases hn with rfl | rfl | rfl | rfl <;> exact ⟨_,_,.of (.int b),rfl,k _ _ _ _ (.refl H) g (.bl _) h⟩
    | str b=>rcases hn with rfl | rfl | rfl | rfl <;> exact ⟨_,_,.of (.str b),rfl,k _ _ _ _ (.refl H) g (.bl _) h⟩
    | tup h1 r1=>rcases hn with rfl | rfl | rfl | rfl <;> exact ⟨_,_,.tup h1,rfl,k _ _ _ _ (.refl H) g (.bl _) h⟩
    | ty _=>exact hu.elim
    | ref _=>exact hu.elim
    | rol _ _=>exact hu.elim
  . exact h.elim
theorem q_isi {A:AHp} {Q:AVK} {u:U} {n:String}:(xIsi [u,.ty n] A Q)=((n="int"\/n="bool"\/n="str"\/n="tuple")/\(match u with | .rol _=>False | .ref _=>False | .ty _=>False | _=>True)/\Q (.bl (isTy u n)) A):=rfl
end
end L2
namespace L2
open PySem PySem.Spec PyProof.Rows
theorem tup1 {x:U}:[x].length<=sizeLine:=by show 1<=sizeLine;decide
theorem tup2 {x y:U}:[x,y].length<=sizeLine:=by show 2<=sizeLine;decide
theorem tup3 {x y z:U}:[x,y,z].length<=sizeLine:=by show 3<=sizeLine;decide
theorem line1000 {n:Nat} (h:n<=100000):n<=sizeLine:=Nat.le_trans h (by decide)
theorem line1000' {n:Nat} (h:n<=100000):n < sizeLine:=Nat.lt_of_le_of_lt h (by decide)
theorem fg {Q:AVK} {u:U} {A:AHp} (h:Q u A):Fg Q u A:=⟨A,Ext.refl A,h⟩
theorem fgx {Q:AVK} {u:U} {A A':AHp} (e:Ext A A') (h:Q u A):Fg Q u A':=⟨A,e,h⟩
theorem iteB {b:Bool} {X Y:Prop} (h1:b=true->X) (h2:b=false->Y):if b=true then X else Y:=by
  cases b
  . exact iteN (by decide) (h2 rfl)
  . exact iteP rfl (h1 rfl)
theorem iteTt {X Y:Prop} {b:Bool} (hb:b=true) (h:X):if b=true then X else Y:=iteP hb h
theorem iteFf {X Y:Prop} {b:Bool} (hb:b=false) (h:Y):if b=true then X else Y:=iteN (by rw [hb];decide) h
theorem Ext.put {A A2:AHp} {a:Addr} {o:AO} (e:Ext A A2):Ext (updA A a o) (updA A2 a o):=fun b u h=>by
  by_cases hb:b=a
  . subst hb;rw [updA_same] at h ⊢;exact h
  . rw [updA_ne hb] at h ⊢;exact e b u h
theorem updA_swap {A:AHp} {a l:Addr} {x y:AO} (h:a≠l):updA (updA A a x) l y=updA (updA A l y) a x:=by
  funext b
  unfold updA
  by_cases h1:b=l
  . rw [if_pos h1,if_neg (fun e=>h (e.symm.trans h1)),if_pos h1]
  . rw [if_neg h1]
    by_cases h2:b=a
    . rw [if_pos h2,if_pos h2]
    . rw [if_neg h2,if_neg h2,if_neg h1]
theorem atI_intsU {ns:List Int} {i:Int} (h0:0<=i) (h:i < ns.length):∃ z,atI (ns.map U.int) i=some (.int z)/\ns[i.toNat]? = some z:=by
  obtain ⟨v,h1,h2⟩:=atI_lt (xs:=ns.map U.int) (i:=i) h0 (by rw [List.length_map];exact h)
  rw [List.getElem?_map] at h2
  obtain ⟨z,hz,rfl⟩:=Option.map_eq_some_iff.mp h2
  exact ⟨z,h1,hz⟩
theorem map_get {α β:Type} {f:α->β} {xs:List α} {k:Nat} {u:β} (h:(xs.map f)[k]? = some u):∃ x,xs[k]? = some x/\u=f x:=by
  rw [List.getElem?_map] at h
  obtain ⟨x,hx,rfl⟩:=Option.map_eq_some_iff.mp h
  exact ⟨x,hx,rfl⟩
theorem none_yet {P:Program} {w:World} {K:PySem.W.Frag} {mg:Str->Option Value} {base:Heap} {x qual:Str} {st:Stmt} {f:Addr} {fd:FuncData} {N ps:List Str} {k:Nat} {asp:ASp} (F:Fun K x qual st f fd) (S:FnScope N ps (defScope st)) (h:∀ us A Q,¬ asp us A Q):FnOk P w K mg base CX0 k f fd ps (spOf K asp) :=
  ⟨fun vs H Q E ⟨us,A,Q',_,_,q,_⟩=>(h us A Q' q).elim,fun A outer s H args us vs Q E _ _ _ _ ⟨ws,A',Q',_,_,q,_⟩=>(h ws A' Q' q).elim⟩
end L2
namespace L2
open PySem PySem.Spec PyProof.Rows
end L2
namespace L2
open PySem PySem.Spec PyProof.Rows
theorem ki (i j:Nat):(((i:Nat):Int) == ((j:Nat):Int))=(i == j):=by
  by_cases h:i=j
  . subst h;simp
  . rw [beq_eq_false_iff_ne.mpr h,beq_eq_false_iff_ne.mpr (by lia)]
end L2
namespace L2
open PySem PySem.Spec PyProof.Rows
noncomputable def uSeqI (K:PySem.W.Frag):V->Hp->(It->Hp->Prop)->Prop:=fun x H R=>uList K x H R\/uTupI K x H R
section
variable {X:Cx} {tg a:Expr} {te:TE} {ta:TA} {p pos tp:Pos} {elts:List Expr} {k0:Nat}
theorem pj_seq (hl:PE X a te):PI X tg a (jOf (uSeqI X.K) te):=by
  intro pins s σ H R I h
  refine thn (hl pins s σ H _ I h) fun v s1 h_q=>?_
  obtain ⟨x,H1,I1,r1,q1⟩:=h_q
  have fp:∀ b∈[s1.heap.objs.size],FpOk X pins H1 b:=fun b hb=>by
    obtain rfl:b=s1.heap.objs.size:=by simpa using hb
    exact I1.fpOk (Nat.le_refl _) (I1.hok.fresh (Nat.le_refl _))
  have J1:∀ o,Inv X pins σ H1 { s1 with heap:=s1.heap.push o }:=fun o=>I1.kept (t':=s1.toks) fun b u e=>Heap.get?_push_of_some _ e
  cases x with
  | ref l =>
    cases r1
    rcases q1 with ⟨⟨xs,hq⟩,q⟩ | ⟨⟨xs,hq⟩,q⟩
    . obtain ⟨its,rv,pl,hz⟩:=I1.list hq
      exact wpAny_pyIter_list pl.isList ⟨s1.heap.objs.size,[s1.heap.objs.size],_,_,H1,rfl,J1 _,turn_list l _,⟨_,Heap.get?_push_size _ rfl,rfl,rfl⟩,fp,q⟩
    . obtain ⟨its,rv,pl,hz⟩:=I1.tuple hq
      exact wpAny_pyIter_tuple (show s1.heap.IsTuple l its.toArray from pl) ⟨s1.heap.objs.size,[s1.heap.objs.size],_,_,H1,rfl,J1 _,turn_tuple l _,⟨_,Heap.get?_push_size _ rfl,rfl,rfl⟩,fp,q⟩
  | _=>rcases q1 with q | q <;> exact q.elim
noncomputable def uEnumS (K:PySem.W.Frag):List V->Hp->(It->Hp->Prop)->Prop:=fun vs H R=>uEnum K vs H R\/uEnumT K vs H R
theorem pj_enumS (hg:Gl X "enumerate") (hm:X.mg "enumerate"=none) (ha:PA X [a] ta) (hs:starEach [a] X.env=[(false,eval a X.env)]:=by rfl) :
    PI X (.Tuple elts k0 tp) (.Call (.Name "enumerate" p) [a] [] pos) (jArgs (uEnumS X.K) ta):=by
  intro pins s σ H R I h
  refine Call_ (ld_blt I hg hm boot_enumerate (PyProof.Rows.callWith_type1 (thn (ha pos pins s σ H _ I h) fun us s1 ⟨vs,H1,I1,r1,q1⟩=>?_) hs rfl))
  have fp:∀ b∈[s1.heap.objs.size + 1,s1.heap.objs.size],FpOk X pins H1 b:=fun b hb=>by
    have hb':s1.heap.objs.size<=b:=by
      simp only [List.mem_cons,List.not_mem_nil,or_false] at hb
      rcases hb with e | e <;> subst e <;> first | exact Nat.le_add_right _ _ | exact Nat.le_refl _
    exact I1.fpOk hb' (I1.hok.fresh hb')
  rcases q1 with q1 | q1
  . unfold uEnum at q1
    split at q1
    . obtain ⟨⟨xs,hx⟩,q⟩:=q1
      cases r1 with
      | cons r rr =>
        cases rr;cases r
        obtain ⟨its,rv,pl,_⟩:=I1.list hx
        exact call_enumerate_list pl.isList fun h' a1 a2 a3 hk=>wpAny_pyIter_enum a1 ⟨s1.heap.objs.size + 1,_,_,_,H1,rfl,I1.kept (t':=s1.toks) hk,turn_enum (Nat.succ_ne_self _),⟨⟨_,a1⟩,a2⟩,fp,q⟩
    . exact q1.elim
  . unfold uEnumT at q1
    split at q1
    . obtain ⟨⟨xs,hx⟩,q⟩:=q1
      cases r1 with
      | cons r rr =>
        cases rr;cases r
        obtain ⟨its,rv,pl,_⟩:=I1.tuple hx
        exact call_enum_tup pl fun h' a1 a2 hk=>wpAny_pyIter_enum a1 ⟨s1.heap.objs.size + 1,_,_,_,H1,rfl,I1.kept (t':=s1.toks) hk,turn_enumT (Nat.succ_ne_self _),⟨⟨_,a1⟩,a2⟩,fp,q⟩
    . exact q1.elim
end
section
variable {K:PySem.W.Frag}
noncomputable def ySeq:U->AHp->(AIt->AHp->Prop)->Prop:=fun u A R=>match u with
  | .ref a=>(∃ us,A a=some (.lst us))/\R (jLst a) A
  | .rol us=>R (jFix us) A
  | .tup us=>R (jFix us) A
  | _=>False
theorem ab_yseq:AbY1 K (uSeqI K) ySeq:=fun x v A H R' R r g w k=>by
  cases r with
  | ref a=>exact .inl (ab_ylist (.ref a) _ A H R' R (.ref a) g w k)
  | rol h1 r1=>exact .inl (ab_ylist _ _ A H R' R (.rol h1 r1) g w k)
  | tup h1 r1=>exact .inr (ab_ytup _ _ A H R' R (.tup h1 r1) g w k)
  | _=>exact w.elim
noncomputable def yEnumS:List U->AHp->(AIt->AHp->Prop)->Prop:=fun us A R=>match us with
  | [.ref a]=>(∃ us,A a=some (.lst us))/\R (jEnum a) A
  | [.rol us]=>R (jFix (enU us)) A
  | [.tup us]=>R (jFix (enU us)) A
  | _=>False
theorem ab_yenumS:AbYs K (uEnumS K) yEnumS:=fun x v A H R' R r g w k=>by
  unfold yEnumS at w
  split at w
  . exact .inl (ab_yenum _ _ A H R' R r g w k)
  . exact .inl (ab_yenum _ _ A H R' R r g w k)
  . exact .inr (ab_yenumT _ _ A H R' R r g w k)
  . exact w.elim
variable {A:AHp} {R:AIt->AHp->Prop} {p:Addr} {us:List U}
theorem q_ysr:(ySeq (.ref p) A R)=((∃ us,A p=some (.lst us))/\R (jLst p) A):=rfl
theorem q_yso:(ySeq (.rol us) A R)=(R (jFix us) A):=rfl
theorem q_yst:(ySeq (.tup us) A R)=(R (jFix us) A):=rfl
theorem q_yesr:(yEnumS [.ref p] A R)=((∃ us,A p=some (.lst us))/\R (jEnum p) A):=rfl
theorem q_yeso:(yEnumS [.rol us] A R)=(R (jFix (enU us)) A):=rfl
theorem q_yest:(yEnumS [.tup us] A R)=(R (jFix (enU us)) A):=rfl
end
noncomputable def cutL {α:Type} (xs:List α) (lo hi:Option Int):List α:=(xs.drop (HT.sIx xs.length 0 lo)).take (HT.sIx xs.length xs.length hi - HT.sIx xs.length 0 lo)
theorem cutU_map {α:Type} (f:α->U) (xs:List α) (lo hi:Option Int):cutU (xs.map f) lo hi=(cutL xs lo hi).map f:=by
  unfold cutU cutL
  rw [List.length_map,List.map_take,List.map_drop]
end L2
namespace L2
open PySem PySem.Spec PyProof.Rows
end L2
set_option maxHeartbeats 1000000
namespace SortA
open PySem PySem.W PyProof.Rows
end SortA
namespace N2
open PySem PyProof.Rows
end N2
namespace N2
open PySem PyProof.Rows PySem.F
end N2
namespace L2
open PySem PySem.Spec PyProof.Rows N2
theorem Kp.ext {K:PySem.W.Frag} {H:Hp} {l:Addr} {φ:Heap->Prop} {o':HO} (h:H l=some (.ext φ)):Kp K H (upd H l o'):=⟨fun a xs q=>by
  rcases q with (q | ⟨o,q⟩) | q
  . exact .inl (.inl (by rw [upd_ne (ne_of q h (by intro z;cases z))];exact q))
  . exact .inl (.inr ⟨o,by rw [upd_ne (ne_of q h (by intro z;cases z))];exact q⟩)
  . exact .inr q,fun a xs q=>by
  rcases q with ⟨o,q⟩ | q
  . exact .inl ⟨o,by rw [upd_ne (ne_of q h (by intro z;cases z))];exact q⟩
  . exact .inr q,fun a o u q=>by rw [upd_ne (ne_of q h (by intro z;cases z))];exact q⟩
theorem HR.putO {K:PySem.W.Frag} {H:Hp} {A:AHp} {a:Addr} {ob:HO} {o:AO} (h:HR K H A) (kp:Kp K H (upd H a ob)) (new:RO K (upd H a ob) a o):HR K (upd H a ob) (updA A a o):=fun b u q=>by
  by_cases hb:b=a
  . subst hb
    rw [updA_same] at q
    cases q
    exact new
  . rw [updA_ne hb] at q
    exact (h b u q).keep kp (upd_ne hb)
end L2
namespace L2
open PySem PySem.Spec PySem.W PyProof.Rows
end L2
namespace L2
open PySem PySem.Spec PyProof.Rows
section
variable {K:PySem.W.Frag} {H H':Hp} {A:AHp}
theorem RFs.cons_inv {x:Str × U} {fs:List (Str × U)} {gs:List (Str × V)} (h:RFs K H (x::fs) gs):∃ v gs',gs=(x.1,v)::gs'/\RU K H x.2 v/\RFs K H fs gs':=by
  obtain ⟨h1,h2⟩:=h
  cases gs with
  | nil=>simp at h1
  | cons y gs =>
    obtain ⟨n,v⟩:=y
    simp only [List.map_cons,List.cons.injEq] at h1
    cases h2 with
    | cons p q=>exact ⟨v,gs,by rw [h1.1],p,h1.2,q⟩
theorem RFs.look {f:Str} {u:U}:∀ {fs:List (Str × U)} {gs:List (Str × V)},RFs K H fs gs->fs.lookup f=some u->∃ v,gs.lookup f=some v/\RU K H u v
  | [],_,_,e=>by simp at e
  | (n, w)::fs,gs,h,e=>by
    obtain ⟨v,gs',rfl,r,t⟩:=h.cons_inv
    by_cases c:f == n
    . rw [List.lookup_cons,c] at e;cases e
      exact ⟨v,by rw [List.lookup_cons,c],r⟩
    . have c':(f == n)=false:=by simpa using c
      rw [List.lookup_cons,c'] at e
      obtain ⟨v',h1,h2⟩:=RFs.look t e
      exact ⟨v',by rw [List.lookup_cons,c'];exact h1,h2⟩
theorem RFs.miss {f:Str}:∀ {fs:List (Str × U)} {gs:List (Str × V)},RFs K H fs gs->fs.lookup f=none->gs.lookup f=none
  | [],_,⟨h1,_⟩,_=>by
    cases ‹List (Str × V)› with
    | nil=>rfl
    | cons y gs=>simp at h1
  | (n, w)::fs,gs,h,e=>by
    obtain ⟨v,gs',rfl,r,t⟩:=h.cons_inv
    by_cases c:f == n
    . rw [List.lookup_cons,c] at e;cases e
    . have c':(f == n)=false:=by simpa using c
      rw [List.lookup_cons,c'] at e ⊢
      exact RFs.miss t e
theorem RFs.len {fs:List (Str × U)} {gs:List (Str × V)} (h:RFs K H fs gs):fs.length=gs.length:=by
  have:=congrArg List.length h.1
  simpa using this
theorem RFs.same {fs:List (Str × U)} {gs:List (Str × V)} (e:Kp K H H') (h:RFs K H fs gs):RFs K H' fs gs:=⟨h.1,h.2.same e⟩
noncomputable def putU (f:Str) (u:U):List (Str × U)->List (Str × U)
  | []=>[(f,u)]
  | (g,x)::r=>if g=f then (g,u)::r else (g,x)::putU f u r
theorem RFs.put {f:Str} {u:U} {v:V} (hu:RU K H u v):∀ {fs:List (Str × U)} {gs:List (Str × V)},RFs K H fs gs->RFs K H (putU f u fs) (putF f v gs)
  | [],gs,h=>by
    cases gs with
    | nil=>exact ⟨rfl,.one hu⟩
    | cons y gs=>have:=h.1;simp at this
  | (n, w)::fs,gs,h=>by
    obtain ⟨x,gs',rfl,r,t⟩:=h.cons_inv
    by_cases c:n=f
    . simp only [putU,putF,if_pos c]
      exact ⟨by simp [t.1],.cons hu t.2⟩
    . simp only [putU,putF,if_neg c]
      have:=RFs.put (f:=f) hu t
      exact ⟨by simp [this.1],.cons r this.2⟩
theorem HR.ins {a C dx:Addr} {fs:List (Str × U)} (g:HR K H A) (e:A a=some (.ins C dx fs)):∃ gs,H a=some (.ins C dx gs)/\RFs K H fs gs:=g a _ e
theorem HR.setI {a C dx:Addr} {fs:List (Str × U)} {gs gs0:List (Str × V)} (g:HR K H A) (e:H a=some (.ins C dx gs0)) (r:RFs K H fs gs):HR K (upd H a (.ins C dx gs)) (updA A a (.ins C dx fs)) :=
  g.putO (Kp.ins e) ⟨gs,upd_same,r.same (Kp.ins e)⟩
noncomputable def aFld (K:PySem.W.Frag) (aa:AE) (f:Str):AE:=fun ρ A Q=>aa ρ A fun x A1=>∃ a C dx fs u,x=.ref a/\A1 a=some (.ins C dx fs)/\Cls K C/\NoAttr K C f/\fs.lookup f=some u/\Q u A1
theorem ab_fld {ta:TE} {aa:AE} {f:Str} (h:AbE K ta aa):AbE K (tFld K ta f) (aFld K aa f):=fun ρ A σ H Q' Q hs g w k =>
  h ρ A σ H _ _ hs g w fun x A1 v H1 k1 g1 r1 hq0=>by
    obtain ⟨a,C,dx,fs,u,e1,e2,c,n,l,q⟩:=hq0
    subst e1
    cases r1
    obtain ⟨gs,h1,h2⟩:=g1.ins e2
    obtain ⟨v,h3,h4⟩:=h2.look l
    exact ⟨a,C,dx,gs,v,rfl,h1,c,n,h3,k _ _ _ _ k1 g1 h4 q⟩
noncomputable def asFld (K:PySem.W.Frag) (aa av:AE) (f:Str):AS:=fun D ρ A=>av ρ A fun y A1=>aa ρ A1 fun x A2=>∃ a C dx fs,x=.ref a/\A2 a=some (.ins C dx fs)/\Cls K C/\NoAttr K C f/\fs.length < 1000/\D.nx ρ (updA A2 a (.ins C dx (putU f y fs)))
theorem ab_sfld {ta tv:TE} {aa av:AE} {f:Str} (ha:AbE K ta aa) (hv:AbE K tv av):AbS K (sFld K ta tv f) (asFld K aa av f):=fun ρ A σ H D' D hs g w k =>
  hv ρ A σ H _ _ hs g w fun y A1 v1 H1 k1 g1 r1 q1=>ha ρ A1 σ H1 _ _ (hs.same k1) g1 q1 fun x A2 v2 H2 k2 g2 r2 hq0=>by
    obtain ⟨a,C,dx,fs,e1,e2,c,n,l,q⟩:=hq0
    subst e1
    cases r2
    obtain ⟨gs,h1,h2⟩:=g2.ins e2
    have kp:Kp K H2 (upd H2 a (.ins C dx (putF f v1 gs))):=Kp.ins h1
    exact ⟨a,C,dx,gs,rfl,h1,c,n,by rw [<- h2.len];exact l,k.nx _ _ _ _ (k1.trans (k2.trans kp)) (g2.setI h1 (h2.put (r1.same k2))) (hs.same (k1.trans (k2.trans kp))) q⟩
noncomputable def asAug (K:PySem.W.Frag) (aa av:AE) (ar:AR2) (f:Str):AS:=fun D ρ A=>aa ρ A fun x A1=>∃ a C dx fs u,x=.ref a/\A1 a=some (.ins C dx fs)/\Cls K C/\NoAttr K C f/\fs.lookup f=some u /\
  av ρ A1 fun y A2=>ar u y A2 fun z A3=>∃ dx' fs',A3 a=some (.ins C dx' fs')/\fs'.length < 1000/\D.nx ρ (updA A3 a (.ins C dx' (putU f z fs')))
noncomputable def aMeth (C:Addr) (m:Str) (asp:ASp) (aa:AE) (l:AA):AE:=fun ρ A Q=>aa ρ A fun x A1=>∃ a dx fs,x=.ref a/\A1 a=some (.ins C dx fs)/\fs.lookup m=none/\l ρ A1 fun us A2=>asp (x::us) A2 Q
noncomputable def aMake (C:Addr) (asp:ASp) (l:AA):AE:=fun ρ A Q=>l ρ A fun us A1=>∀ x dx,A1 x=none->asp (.ref x::us) (updA A1 x (.ins C dx [])) (fun u A2=>u=.non/\Q (.ref x) A2)
theorem ab_make {C:Addr} {asp:ASp} {E:XK} {t:TA} {l:AA} (hl:AbA K t l):AbE K (tMake C (spOf K asp) [] E t) (aMake C asp l):=fun ρ A σ H Q' Q hs g w k =>
  hl ρ A σ H _ _ hs g w fun us A1 vs H1 k1 g1 r1 q1 x dx hx hdx hne=>by
    have s1:Same H1 (upd H1 dx (.own x)):=Same.upd_new hdx
    have hx':upd H1 dx (.own x) x=none:=by rw [upd_ne (Ne.symm hne)];exact hx
    have s2:Same (upd H1 dx (.own x)) (upd (upd H1 dx (.own x)) x (.ins C dx [])):=Same.upd_new hx'
    have g2:HR K (upd (upd H1 dx (.own x)) x (.ins C dx [])) (updA A1 x (.ins C dx [])):=(g1.grow s1).putO s2.kp ⟨[],upd_same,rfl,.nil⟩
    refine ⟨.ref x::us,_,_,.cons (.ref x) (by rw [List.append_nil];exact r1.same (s1.kp.trans s2.kp)),g2,q1 x dx (g1.none hx),fun u A3 v3 H3 k3 g3 r3 h_q=>?_⟩
    obtain ⟨e,q3⟩:=h_q
    subst e
    cases r3
    exact ⟨rfl,k _ _ _ _ (k1.trans ((s1.kp.trans s2.kp).trans k3)) g3 (.ref x) q3⟩
end
end L2
namespace L2
open PySem PySem.Spec PyProof.Rows
section
variable {X:Cx}
theorem vals_strs:∀ {ts:List Str} {us:List Value},Vals (ts.map V.str) us->∃ l:List (Str × Tok),us=strValues l/\l.map (·.1)=ts
  | [],_,.nil=>⟨[],rfl,rfl⟩
  | z :: ts,_,.cons r h=>by
    obtain ⟨t,rfl⟩:=r
    obtain ⟨l,rfl,e⟩:=vals_strs h
    exact ⟨(z,t)::l,rfl,by rw [List.map_cons,e]⟩
end
section
variable {K:PySem.W.Frag} {H H':Hp} {A:AHp}
noncomputable def aNo:AS:=fun _ _ _=>False
noncomputable def isStrU:U->AHp->Prop:=fun u _=>match u with
  | .str _=>True
  | _=>False
noncomputable def mJoin:U->List U->AHp->AVK->Prop:=fun u us A Q=>match u,us with
  | .str z,[.ref p]=>∃ ts,A p=some (.lst (ts.map U.str))/\JoinOk z ts=true/\Q (.str (Txt.join z ts)) A
  | _,_=>False
noncomputable def mSplit:U->List U->AHp->AVK->Prop:=fun u us A Q=>match u,us with
  | .str z,[.str y]=>(y.length == 0)=false/\z.length<=sizeLine/\(Builtin.Str.partsBetween z (Builtin.Str.occurrences z y 0 z.length (z.length + 1)) y.length).length<=sizeLine/\(Txt.split z y).length<=sizeLine/\∀ p,A p=none->Q (.ref p) (updA A p (.lst ((Txt.split z y).map U.str)))
  | _,_=>False
end
section
variable {K:PySem.W.Frag} {a:Addr} {kus:List (Str × U)}
noncomputable def xInDC (a:Addr) (kus:List (Str × U)):AR2:=fun x y A Q=>∃ z,x=.str z/\y=.ref a/\Q (.bl (kus.lookup z).isSome) A
noncomputable def xIxDC (a:Addr) (kus:List (Str × U)):AR2:=fun x y A Q=>∃ z u,x=.ref a/\y=.str z/\kus.lookup z=some u/\Q u A
noncomputable def xRadd:AR2:=fun x y A Q=>∃ i j,x=.int i/\y=.int j/\Q (.int (i + j)) A
variable {u:U} {ρ:ASt} {A:AHp} {Q:AVK} {aa av:AE} {l:AA} {D:AEnds} {f m:Str} {C:Addr} {asp:ASp} {ar:AR2}
theorem q_join {z:Str} {p:Addr}:mJoin (.str z) [.ref p] A Q=∃ ts,A p=some (.lst (ts.map U.str))/\JoinOk z ts=true/\Q (.str (Txt.join z ts)) A:=rfl
theorem q_split {z y:Str}:mSplit (.str z) [.str y] A Q=((y.length == 0)=false/\z.length<=sizeLine/\(Builtin.Str.partsBetween z (Builtin.Str.occurrences z y 0 z.length (z.length + 1)) y.length).length<=sizeLine/\(Txt.split z y).length<=sizeLine/\∀ p,A p=none->Q (.ref p) (updA A p (.lst ((Txt.split z y).map U.str)))):=rfl
theorem q_isStr {z:Str}:isStrU (.str z) A=True:=rfl
theorem q_raddi {i j:Int}:xRadd (.int i) (.int j) A Q=Q (.int (i + j)) A:=propext ⟨fun hq0=>by obtain ⟨_,_,e1,e2,h⟩:=hq0;cases e1;cases e2;exact h,fun h=>⟨_,_,rfl,rfl,h⟩⟩
theorem q_no:aNo D ρ A=False:=rfl
theorem q_inDC {z:Str}:xInDC a kus (.str z) (.ref a) A Q=Q (.bl (kus.lookup z).isSome) A:=propext ⟨fun hq0=>by obtain ⟨_,e,_,h⟩:=hq0;cases e;exact h,fun h=>⟨_,rfl,rfl,h⟩⟩
theorem q_ixDC {z:Str}:xIxDC a kus (.ref a) (.str z) A Q=∃ u,kus.lookup z=some u/\Q u A:=propext ⟨fun hq0=>by obtain ⟨_,u,_,e,h⟩:=hq0;cases e;exact ⟨u,h⟩,fun ⟨u,h⟩=>⟨_,u,rfl,rfl,h⟩⟩
theorem q_fld:aFld K aa f ρ A Q=aa ρ A fun x A1=>∃ a C dx fs u,x=.ref a/\A1 a=some (.ins C dx fs)/\Cls K C/\NoAttr K C f/\fs.lookup f=some u/\Q u A1:=rfl
theorem q_sfld:asFld K aa av f D ρ A=av ρ A fun y A1=>aa ρ A1 fun x A2=>∃ a C dx fs,x=.ref a/\A2 a=some (.ins C dx fs)/\Cls K C/\NoAttr K C f/\fs.length < 1000/\D.nx ρ (updA A2 a (.ins C dx (putU f y fs))):=rfl
theorem q_saug:asAug K aa av ar f D ρ A=aa ρ A fun x A1=>∃ a C dx fs u,x=.ref a/\A1 a=some (.ins C dx fs)/\Cls K C/\NoAttr K C f/\fs.lookup f=some u /\
  av ρ A1 fun y A2=>ar u y A2 fun z A3=>∃ dx' fs',A3 a=some (.ins C dx' fs')/\fs'.length < 1000/\D.nx ρ (updA A3 a (.ins C dx' (putU f z fs'))):=rfl
theorem q_meth:aMeth C m asp aa l ρ A Q=aa ρ A fun x A1=>∃ a dx fs,x=.ref a/\A1 a=some (.ins C dx fs)/\fs.lookup m=none/\l ρ A1 fun us A2=>asp (x::us) A2 Q:=rfl
theorem q_make:aMake C asp l ρ A Q=l ρ A fun us A1=>∀ x dx,A1 x=none->asp (.ref x::us) (updA A1 x (.ins C dx [])) (fun u A2=>u=.non/\Q (.ref x) A2):=rfl
end
noncomputable def aIfH (c:AT) (t e:AS):AS:=aIfS c t e
theorem ab_ifH {K:PySem.W.Frag} {tc:TT} {t1 t2:TS} {c:AT} {a1 a2:AS} (hc:AbT K tc c) (h1:AbS K t1 a1) (h2:AbS K t2 a2):AbS K (tIfS tc t1 t2) (aIfH c a1 a2):=ab_ifs hc h1 h2
theorem if_open {c:AT} {t e:AS} {D:AEnds} {ρ:ASt} {A:AHp} (k:Bool) (h1:∀ B:Bool->AHp->Prop,B k A->c ρ A B) (h2:if k=true then t D ρ A else e D ρ A):aIfH c t e D ρ A:=h1 _ h2
theorem q_xintb {A:AHp} {Q:AVK} {k:Bool}:xInt [.bl k] A Q=Q (.int (if k then 1 else 0)) A:=rfl
theorem if_yes {c:AT} {t e:AS} {D:AEnds} {ρ:ASt} {A:AHp} (h1:∀ B:Bool->AHp->Prop,B true A->c ρ A B) (h2:t D ρ A):aIfH c t e D ρ A:=h1 _ (iteP rfl h2)
theorem if_no {c:AT} {t e:AS} {D:AEnds} {ρ:ASt} {A:AHp} (h1:∀ B:Bool->AHp->Prop,B false A->c ρ A B) (h2:e D ρ A):aIfH c t e D ρ A:=h1 _ (iteN Bool.false_ne_true h2)
end L2
namespace L2
open PySem PySem.Spec PyProof.Rows
noncomputable abbrev blk:Str:=" "
theorem Str.toL_inj {x y:Str} (h:x.cps.toList=y.cps.toList):x=y:=Str.ext' (Array.toList_inj.mp h)
noncomputable def lettersL:Str:="abcdefghijklmnopqrstuvwxyz"
noncomputable def keptsL:List Str:=["nothing","bead","or","by","row","bag","choice","ring","of","left","right"]
noncomputable def wdB (x:Str):Bool:=x.cps.toList.all (fun c=>decide (c∈lettersL.cps.toList)) && (decide (1<=x.length) && decide (x.length<=8)) && !keptsL.contains x
theorem wdB_of {x:Str} (h:wdB x=true):(∀ c∈x.cps.toList,97<=c/\c<=122)/\1<=x.length/\x.length<=8/\x ∉ keptsL:=by
  unfold wdB at h
  simp only [Bool.and_eq_true,List.all_eq_true,decide_eq_true_eq,Bool.not_eq_true',List.contains_eq_mem,decide_eq_false_iff_not] at h
  refine ⟨fun c hc=>?_,h.1.2.1,h.1.2.2,h.2⟩
  have:=h.1.1 c hc
  have key:∀ c∈lettersL.cps.toList,97<=c/\c<=122:=by decide +kernel
  exact key c this
theorem wdB_ok {x:Str} (h:wdB x=true):PyData.strOk x=true:=by
  unfold PyData.strOk
  rw [<- Array.all_toList,List.all_eq_true]
  intro c hc
  have:=(wdB_of h).1 c hc
  simp only [decide_eq_true_eq]
  lia
noncomputable def opn:Nat->Str
  | 0=>"["
  | 1=>"{"
  | 2=>"<"
  | _=>"(("
noncomputable def cls:Nat->Str
  | 0=>"]"
  | 1=>"}"
  | 2=>">"
  | _=>"))"
mutual
noncomputable def Wr.wd:Wr->Bool
  | .nothing=>true
  | .bead c=>wdB c
  | .side _ f=>f.wd
  | .pair f g=>f.wd && g.wd
  | .many k ps=>wdL ps
noncomputable def wdL:List Wr->Bool
  | []=>true
  | w::ws=>w.wd && wdL ws
end
mutual
noncomputable def Wr.toks:Wr->List Str
  | .nothing=>["nothing"]
  | .bead c=>[c]
  | .side b f=>sname b::f.toks
  | .pair f g=>"("::(f.toks++(g.toks++[(")":Str)]))
  | .many k ps=>opn k::(toksL ps++[cls k])
noncomputable def toksL:List Wr->List Str
  | []=>[]
  | w::ws=>w.toks++toksL ws
end
end L2
namespace L2
open PySem PySem.Spec PyProof.Rows
inductive Kd where
  | whole | side (b:Bool) | pair | many (k:Nat)
noncomputable def Kd.name:Kd->Str
  | .whole=>"whole"
  | .side b=>sname b
  | .pair=>"pair"
  | .many k=>mname k
noncomputable def Kd.close:Kd->List Str
  | .whole=>[]
  | .side _=>[]
  | .pair=>[")"]
  | .many k=>[cls k]
noncomputable def Kd.made:Kd->List Wr->Wr
  | .whole,[x]=>x
  | .side b,[x]=>.side b x
  | .pair,[x,y]=>.pair x y
  | .many k,ps=>.many k ps
  | _,_=>.nothing
structure Fr where
  kd:Kd
  dn:List Wr
  td:List Wr
noncomputable def rem:List Fr->List Str
  | []=>[]
  | f::fs=>toksL f.td++(f.kd.close++rem fs)
noncomputable def plug (x:Wr):List Fr->Wr
  | []=>x
  | f::fs=>plug (f.kd.made (f.dn++x::f.td)) fs
noncomputable def fin:List Fr->Wr
  | []=>.nothing
  | f::fs=>plug (f.kd.made (f.dn++f.td)) fs
end L2
namespace L2
open PySem PySem.Spec PyProof.Rows
end L2
namespace L2
open PySem PySem.Spec PyProof.Rows
noncomputable def tMethD (m:Str) (tbl:List (Addr × Sp)) (E:XK) (ta:TE) (t:TA):TE:=fun σ H Q=>ta σ H fun x H1=>∃ a dx fs C sp,x=.ref a/\H1 a=some (.ins C dx fs)/\(C,sp)∈tbl/\fs.lookup m=none/\t σ H1 fun vs H2=>sp (x::vs) H2 Q E
noncomputable def MOk (P:Program) (w:World) (K:PySem.W.Frag) (mg:Str->Option Value) (base:Heap) (CX:CXT) (k:Nat) (m:Str) (tbl:List (Addr × Sp)):Prop:=∀ C sp,(C,sp)∈tbl->∃ f fd ps,Cls K C/\Meth K C m f/\FnOk P w K mg base CX k f fd ps sp/\Binds K fd ps []
theorem MOk.mono {P:Program} {w:World} {K:PySem.W.Frag} {mg:Str->Option Value} {base:Heap} {CX:CXT} {j k:Nat} {m:Str} {tbl:List (Addr × Sp)} (h:MOk P w K mg base CX j m tbl) (l:j<=k):MOk P w K mg base CX k m tbl:=fun C sp hin=>by
  obtain ⟨f,fd,ps,h1,h2,h3,h4⟩:=h C sp hin
  exact ⟨f,fd,ps,h1,h2,h3.mono l,h4⟩
section
variable {X:Cx} {CX:CXT} {k:Nat} {m:Str} {tbl:List (Addr × Sp)} {E:XK} {pos apos:Pos} {e o:Expr} {es:List Expr} {ta:TE} {t:TA}
theorem pe_methD {pl:Sem Bool} (he:PE X o ta) (hT:MOk X.prog X.w X.K X.mg X.base CX k m tbl) (hr:Room k X.A) (hx:Passes CX X E) (ha:PA X (e::es) t)
    (hst:starEach (e::es) X.env=(false,eval e X.env)::starEach es X.env:=by rfl) (hpl:(backTo pos (starEach es X.env)).any (·.1)=false:=by rfl)
    (ht : eval (.Call (.Attribute o m apos) (e::es) [] pos) X.env=(do
      let ov <- eval o X.env
      standAt apos.atName
      let (f,first) <- holding [ov] (getMethod ov m pl)
      callWith pos f first (backTo pos (starEach (e::es) X.env)) (backToKw pos (keywordEach [] X.env))):=by rfl) :
    PE X (.Call (.Attribute o m apos) (e::es) [] pos) (tMethD m tbl E ta t):=by
  intro pins s σ H Q I h
  refine PySem.W.methodCall_KW (pl:=pl) (thn (he pins s σ H _ I h) fun u s1 ⟨x,H1,I1,rx,a,dx,fs,C,sp,ex,ea,hin,l,q⟩=>?_) ht
  subst ex
  obtain rfl:u=Value.ref a:=rx
  obtain ⟨f,fd,ps,c,hm,F,hb⟩:=hT C sp hin
  refine getmeth_ok I1 ea c hm l ?_
  refine PySem.W.callWith_K (first:=[.ref a]) (h₀:=X.base) I.ok.mod.kin hm.kp (thn (ha pos pins s1 σ H1 _ I1 q) fun us s2 ⟨vs,H2,I2,r,q2⟩=>⟨I2.kIn,?_⟩) hst hpl
  exact run_fn (us:=.ref a::us) (vs:=.ref a::vs) (dvs:=[]) (ds:=[]) F hr hb .nil hx I2 (.cons rfl r) (by rw [List.append_nil];exact q2)
theorem pe_methD0 {pl:Sem Bool} (he:PE X o ta) (hT:MOk X.prog X.w X.K X.mg X.base CX k m tbl) (hr:Room k X.A) (hx:Passes CX X E)
    (ht : eval (.Call (.Attribute o m apos) [] [] pos) X.env=(do
      let ov <- eval o X.env
      standAt apos.atName
      let (f,first) <- holding [ov] (getMethod ov m pl)
      callWith pos f first (backTo pos (starEach [] X.env)) (backToKw pos (keywordEach [] X.env))):=by rfl) :
    PE X (.Call (.Attribute o m apos) [] [] pos) (tMethD m tbl E ta tNil):=by
  intro pins s σ H Q I h
  refine PySem.W.methodCall_KW (pl:=pl) (thn (he pins s σ H _ I h) fun u s1 ⟨x,H1,I1,rx,a,dx,fs,C,sp,ex,ea,hin,l,q⟩=>?_) ht
  subst ex
  obtain rfl:u=Value.ref a:=rx
  obtain ⟨f,fd,ps,c,hm,F,hb⟩:=hT C sp hin
  refine getmeth_ok I1 ea c hm l ?_
  exact PySem.W.callWith_K0 (first:=[.ref a]) I1.kIn hm.kp (run_fn (us:=[.ref a]) (vs:=[.ref a]) (dvs:=[]) (ds:=[]) F hr hb .nil hx I1 (.cons rfl .nil) q)
end
section
variable {K:PySem.W.Frag}
noncomputable def aMethD (m:Str) (tbl:List (Addr × ASp)) (aa:AE) (l:AA):AE:=fun ρ A Q=>aa ρ A fun x A1=>∃ a dx fs C asp,x=.ref a/\A1 a=some (.ins C dx fs)/\(C,asp)∈tbl/\fs.lookup m=none/\l ρ A1 fun us A2=>asp (x::us) A2 Q
theorem ab_methD {m:Str} {tbl:List (Addr × ASp)} {E:XK} {ta:TE} {aa:AE} {t:TA} {l:AA} (ha:AbE K ta aa) (hl:AbA K t l):AbE K (tMethD m (tbl.map fun p=>(p.1,spOf K p.2)) E ta t) (aMethD m tbl aa l):=fun ρ A σ H Q' Q hs g w k =>
  ha ρ A σ H _ _ hs g w fun x A1 v1 H1 k1 g1 r1 hq0=>by
    obtain ⟨a,dx,fs,C,asp,e1,e2,hin,e3,q⟩:=hq0
    subst e1
    cases r1
    obtain ⟨gs,h1,h2⟩:=g1.ins e2
    refine ⟨a,dx,gs,C,spOf K asp,rfl,h1,List.mem_map.mpr ⟨(C,asp),hin,rfl⟩,h2.miss e3,hl ρ A1 σ H1 _ _ (hs.same k1) g1 q fun us A2 vs H2 k2 g2 r2 q2=>⟨.ref a::us,A2,Q',.cons (.ref a) r2,g2,q2,fun z A3 v3 H3 k3 h3 r3 q3=>k _ _ _ _ (k1.trans (k2.trans k3)) h3 r3 q3⟩⟩
theorem q_methD {m:Str} {tbl:List (Addr × ASp)} {aa:AE} {l:AA} {ρ:ASt} {A:AHp} {Q:AVK}:aMethD m tbl aa l ρ A Q=aa ρ A fun x A1=>∃ a dx fs C asp,x=.ref a/\A1 a=some (.ins C dx fs)/\(C,asp)∈tbl/\fs.lookup m=none/\l ρ A1 fun us A2=>asp (x::us) A2 Q:=rfl
end
noncomputable def IsC (K:PySem.W.Frag) (C c:Addr) (b:Bool):Prop:=Cls K C/\PySem.W.findIn K (.ref C) "__class__"=some (some (.builtin "object.__class__"))/\PySem.W.specialIn K (.builtin "object.__class__") "__get__"=some (some (.builtin "getset_descriptor.__get__")) /\
  PySem.W.takesIn K (.builtin "object.__class__")=some true/\PySem.W.mroIn K C (.type "object")=some true/\PySem.W.kitOne K (.ref C) (.ref c)=some b
noncomputable def rIsC (K:PySem.W.Frag):List V->Hp->VK->Prop:=fun xs H Q=>∃ a C dx fs c b,xs=[.ref a,.ref c]/\H a=some (.ins C dx fs)/\IsC K C c b/\Q (.bl b) H
theorem c_isC {X:Cx}:CallR X (.builtin "isinstance") (rIsC X.K):=by
  intro pins s σ H xs us Q I r h
  obtain ⟨a,C,dx,fs,c,b,rfl,hH,⟨h1,h2,h3,h4,h5,h6⟩,q⟩:=h
  obtain ⟨u,v,rfl,ru,rv⟩:=r.two
  cases rv
  exact isinst_ok I ru (.ins hH h1 h2 h3 h4 h5) h6 fun tk=>⟨.bl b,H,I.tok tk,rfl,q⟩
section
variable {K:PySem.W.Frag}
noncomputable def xIsC (K:PySem.W.Frag):List U->AHp->AVK->Prop:=fun us A Q=>∃ a C dx fs c b,us=[.ref a,.ref c]/\A a=some (.ins C dx fs)/\IsC K C c b/\Q (.bl b) A
theorem ab_isC:AbL K (rIsC K) (xIsC K):=fun xs us A H Q' Q r g h k=>by
  obtain ⟨a,C,dx,fs,c,b,rfl,e,hi,q⟩:=h
  cases r with
  | cons r1 r=>cases r with
    | cons r2 r =>
      cases r;cases r1;cases r2
      obtain ⟨gs,h1,_⟩:=g.ins e
      exact ⟨a,C,dx,gs,c,b,rfl,h1,hi,k _ _ _ _ (.refl H) g (.bl b) q⟩
theorem q_isC {us:List U} {A:AHp} {Q:AVK}:xIsC K us A Q=∃ a C dx fs c b,us=[.ref a,.ref c]/\A a=some (.ins C dx fs)/\IsC K C c b/\Q (.bl b) A:=rfl
end
end L2
namespace L2
open PySem PySem.Spec PyProof.Rows
noncomputable abbrev TJ:=Str->St->Hp->(Str->Hp->Prop)->Prop
section
variable {K:PySem.W.Frag}
noncomputable abbrev AJ:=Str->ASt->AHp->(Str->AHp->Prop)->Prop
noncomputable def ajNil:AJ:=fun out _ A Q=>out.length<=sizeLine/\Q out A
noncomputable def ajCons (ae:AE) (t:AJ):AJ:=fun out ρ A Q=>ae ρ A fun u A1=>∃ y,u=.str y/\(out++y).length<=sizeLine/\t (out++y) ρ A1 Q
noncomputable def aFmt (ae:AE):AE:=fun ρ A Q=>ae ρ A fun u A1=>∃ y,u=.str y/\y.length<=sizeLine/\Q (.str y) A1
noncomputable def aFs (t:AJ):AE:=fun ρ A Q=>t Str.empty ρ A fun z A'=>Q (.str z) A'
variable {out:Str} {ρ:ASt} {A:AHp} {Q:AVK} {R:Str->AHp->Prop} {ae:AE} {t:AJ}
theorem q_jnil:ajNil out ρ A R=(out.length<=sizeLine/\R out A):=rfl
theorem q_jcons:ajCons ae t out ρ A R=ae ρ A fun u A1=>∃ y,u=.str y/\(out++y).length<=sizeLine/\t (out++y) ρ A1 R:=rfl
theorem q_fmt:aFmt ae ρ A Q=ae ρ A fun u A1=>∃ y,u=.str y/\y.length<=sizeLine/\Q (.str y) A1:=rfl
theorem q_fs:aFs t ρ A Q=t Str.empty ρ A fun z A'=>Q (.str z) A':=rfl
end
end L2
namespace L2
open PySem PySem.Spec PyProof.Rows
structure Mk0 (K:PySem.W.Frag) (C:Addr):Prop where
  makes:PySem.W.makesIn K C=true
  init:PySem.W.findIn K (.ref C) "__init__"=some (some (.builtin "object.__init__"))
  kp:PySem.W.keepIn K (.ref C)=true
noncomputable def tMake0 (C:Addr):TE:=fun _ H Q=>∀ x dx,H x=none->H dx=none->dx≠x->Q (.ref x) (upd (upd H dx (.own x)) x (.ins C dx []))
section
variable {X:Cx} {C:Addr} {x:Str} {p pos:Pos}
theorem run_make0 {pins:List (Addr × Obj)} {σ:St} {H:Hp} {s:Shared} {Q:VK} (M:Mk0 X.K C) (I:Inv X pins σ H s) (h:∀ x dx,H x=none->H dx=none->dx≠x->Q (.ref x) (upd (upd H dx (.own x)) x (.ins C dx []))) :
    wpAny (model X.prog X.w) X.A (call (.ref C) []) (EP X pins σ Q) X.xe s:=by
  have hq:=h (s.heap.objs.size + 1) s.heap.objs.size (I.hok.fresh (Nat.le_succ _)) (I.hok.fresh (Nat.le_refl _)) (Nat.ne_of_lt (Nat.lt_succ_self _))
  have I2:=Inv.made (C:=C) I
  have Y:=PySem.W.makes_of (M:=model X.prog X.w) I.kIn M.makes
  have e2:((s.heap.push PySem.W.emptyDict).push (PySem.W.instObj C s.heap.objs.size)).get? (s.heap.objs.size + 1)=some (PySem.W.instObj C s.heap.objs.size):=by
    have:=Heap.get?_push_size (s.heap.push PySem.W.emptyDict) (o:=PySem.W.instObj C s.heap.objs.size) rfl
    rwa [Heap.size_push] at this
  refine wpAny_call (make_map0 I.kIn M.makes M.init (fun self=>PySem.W.Looks.of_pure (PySem.W.oi_bind self)) ?_)
  have t1:PySem.W.Looks (model X.prog X.w) ((s.heap.push PySem.W.emptyDict).push (PySem.W.instObj C s.heap.objs.size)) (typeOf (.ref (s.heap.objs.size + 1))) (.ref C):=(PySem.W.Looks.ld e2).andThen .now
  have t2:PySem.W.Looks (model X.prog X.w) ((s.heap.push PySem.W.emptyDict).push (PySem.W.instObj C s.heap.objs.size)) (isInstance (.ref (s.heap.objs.size + 1)) (.type "object")) true:=t1.andThen (Y.top.keeps fun b o e=>Heap.get?_push_of_some _ (Heap.get?_push_of_some _ e))
  refine codeAny_call_builtin PySem.W.oi_plain PySem.W.entry_oi (@PySem.W.check_slot (model X.prog X.w) _ _ _ "object.__init__" "object" "__init__" (.ref (s.heap.objs.size + 1)) [] [] _ PySem.W.oi_kind PySem.W.oi_split t2 (PySem.W.oi_args (.ref (s.heap.objs.size + 1))) ?_)
  rw [PySem.W.oi_run]
  exact wpAny_pure (And.intro rfl ⟨.ref (s.heap.objs.size + 1),_,I2,rfl,hq⟩)
theorem pe_mk0 (M:Mk0 X.K C) (hg:Gl X x) (hm:X.mg x=some (.ref C)) (hdb:(x == ("__debug__":Str))=false:=by decide):PE X (.Call (.Name x p) [] [] pos) (tMake0 C):=by
  intro pins s σ H Q I h
  refine wpAny_Call_Name_kw (ld_glob I hg hm ?_ hdb)
  exact PySem.W.callWith_K0 I.kIn M.kp (run_make0 M I h)
end
section
variable {K:PySem.W.Frag} {C:Addr}
noncomputable def aMake0 (C:Addr):AE:=fun _ A Q=>∀ x dx,A x=none->Q (.ref x) (updA A x (.ins C dx []))
theorem ab_mk0:AbE K (tMake0 C) (aMake0 C):=fun ρ A σ H Q' Q hs g q k x dx hx hdx hne=>by
  have s1:Same H (upd H dx (.own x)):=Same.upd_new hdx
  have hx':upd H dx (.own x) x=none:=by rw [upd_ne (Ne.symm hne)];exact hx
  have s2:Same (upd H dx (.own x)) (upd (upd H dx (.own x)) x (.ins C dx [])):=Same.upd_new hx'
  have g2:HR K (upd (upd H dx (.own x)) x (.ins C dx [])) (updA A x (.ins C dx [])):=(g.grow s1).putO s2.kp ⟨[],upd_same,rfl,.nil⟩
  exact k _ _ _ _ (s1.kp.trans s2.kp) g2 (.ref x) (q x dx (g.none hx))
theorem q_mk0 {ρ:ASt} {A:AHp} {Q:AVK}:aMake0 C ρ A Q=∀ x dx,A x=none->Q (.ref x) (updA A x (.ins C dx [])):=rfl
end
end L2
namespace L2
open PySem PySem.Spec PyProof.Rows
noncomputable def IsCs (K:PySem.W.Frag) (C:Addr) (cs:List Addr) (b:Bool):Prop:=Cls K C/\PySem.W.findIn K (.ref C) "__class__"=some (some (.builtin "object.__class__"))/\PySem.W.specialIn K (.builtin "object.__class__") "__get__"=some (some (.builtin "getset_descriptor.__get__")) /\
  PySem.W.takesIn K (.builtin "object.__class__")=some true/\PySem.W.mroIn K C (.type "object")=some true/\PySem.W.kitAny K (.ref C) (cs.map Value.ref)=some b
section
variable {K:PySem.W.Frag}
noncomputable def xIsCs (K:PySem.W.Frag):List U->AHp->AVK->Prop:=fun us A Q=>∃ a C dx fs cs b,us=[.ref a,.tup (cs.map U.ref)]/\A a=some (.ins C dx fs)/\IsCs K C cs b/\Q (.bl b) A
theorem q_isCs {us:List U} {A:AHp} {Q:AVK}:xIsCs K us A Q=∃ a C dx fs cs b,us=[.ref a,.tup (cs.map U.ref)]/\A a=some (.ins C dx fs)/\IsCs K C cs b/\Q (.bl b) A:=rfl
end
end L2
namespace L2
open PySem PySem.Spec PyProof.Rows
inductive Rl where
  | nothing | bead (c:Str) | named (c:Str) | or (x y:Rl) | by_ (x y:Rl) | hold (k:Nat) (x:Rl)
noncomputable def Rl.toU:Rl->U
  | .nothing=>.tup [.str "nothing"]
  | .bead c=>.tup [.str "bead",.str c]
  | .named c=>.tup [.str "name",.str c]
  | .or x y=>.tup [.str "or",x.toU,y.toU]
  | .by_ x y=>.tup [.str "by",x.toU,y.toU]
  | .hold k x=>.tup [.str (mname k),x.toU]
noncomputable def Rl.lvl:Rl->Nat
  | .or _ _=>0
  | .by_ _ _=>1
  | _=>2
noncomputable def shut (n l:Nat) (ts:List Str):List Str:=if l < n then ("(":Str)::(ts++[(")":Str)]) else ts
noncomputable def Rl.tk:Rl->List Str
  | .nothing=>["nothing"]
  | .bead c=>["bead",c]
  | .named c=>[c]
  | .or x y=>shut 0 x.lvl x.tk++(("or":Str)::shut 1 y.lvl y.tk)
  | .by_ x y=>shut 1 x.lvl x.tk++(("by":Str)::shut 2 y.lvl y.tk)
  | .hold k x=>mname k::"of"::shut 2 x.lvl x.tk
noncomputable def Rl.dep:Rl->Nat
  | .nothing=>1
  | .bead _=>1
  | .named _=>1
  | .or x y=>1 + max x.dep y.dep
  | .by_ x y=>1 + max x.dep y.dep
  | .hold _ x=>1 + x.dep
end L2
namespace L2
open PySem PySem.Spec PyProof.Rows
noncomputable def Rl.txt (r:Rl):Str:=Txt.join blk r.tk
noncomputable def RlO (cs:Nat->Addr) (A:AHp):Addr->Rl->Prop
  | a,.nothing=>∃ dx,A a=some (.ins (cs 0) dx [])
  | a,.bead c=>∃ dx,A a=some (.ins (cs 1) dx [("colour",.str c)])
  | a,.named c=>∃ dx,A a=some (.ins (cs 2) dx [("name",.str c)])
  | a,.or x y=>∃ dx p q,A a=some (.ins (cs 3) dx [("one",.ref p),("other",.ref q)])/\RlO cs A p x/\RlO cs A q y
  | a,.by_ x y=>∃ dx p q,A a=some (.ins (cs 4) dx [("one",.ref p),("other",.ref q)])/\RlO cs A p x/\RlO cs A q y
  | a,.hold k x=>∃ dx p,A a=some (.ins (cs (5 + min k 3)) dx [("part",.ref p)])/\RlO cs A p x
theorem RlO.ext {cs:Nat->Addr} {A A':AHp} (e:Ext A A'):∀ {a:Addr} {r:Rl},RlO cs A a r->RlO cs A' a r
  | _,.nothing,⟨dx,h⟩=>⟨dx,e _ _ h⟩
  | _,.bead _,⟨dx,h⟩=>⟨dx,e _ _ h⟩
  | _,.named _,⟨dx,h⟩=>⟨dx,e _ _ h⟩
  | _,.or x y,⟨dx,p,q,h,h1,h2⟩=>⟨dx,p,q,e _ _ h,h1.ext e,h2.ext e⟩
  | _,.by_ x y,⟨dx,p,q,h,h1,h2⟩=>⟨dx,p,q,e _ _ h,h1.ext e,h2.ext e⟩
  | _,.hold k x,⟨dx,p,h,h1⟩=>⟨dx,p,e _ _ h,h1.ext e⟩
noncomputable def Rl.wd:Rl->Bool
  | .nothing=>true
  | .bead c=>wdB c
  | .named c=>wdB c
  | .or x y=>x.wd && y.wd
  | .by_ x y=>x.wd && y.wd
  | .hold _ x=>x.wd
noncomputable def Rl.size:Rl->Nat
  | .nothing=>1
  | .bead _=>1
  | .named _=>1
  | .or x y=>x.size + y.size + 1
  | .by_ x y=>x.size + y.size + 1
  | .hold _ x=>x.size + 1
noncomputable def Rl.ci:Rl->Nat
  | .nothing=>0
  | .bead _=>1
  | .named _=>2
  | .or _ _=>3
  | .by_ _ _=>4
  | .hold k _=>5 + min k 3
theorem Rl.ci_lt (r:Rl):r.ci < 9:=by cases r <;> simp only [Rl.ci] <;> lia
theorem RlO.cls {cs:Nat->Addr} {A:AHp} {a:Addr} {r:Rl} {m:Str} (h:RlO cs A a r) (hm:m ∉ (["colour","name","one","other","part"]:List Str)):∃ dx fs,A a=some (.ins (cs r.ci) dx fs)/\fs.lookup m=none:=by
  simp only [List.mem_cons,List.not_mem_nil,or_false,not_or] at hm
  obtain ⟨h1,h2,h3,h4,h5⟩:=hm
  cases r with
  | nothing=>obtain ⟨dx,h⟩:=h;exact ⟨dx,_,h,rfl⟩
  | bead c=>obtain ⟨dx,h⟩:=h;exact ⟨dx,_,h,by simp [List.lookup,beq_eq_false_iff_ne.mpr h1]⟩
  | named c=>obtain ⟨dx,h⟩:=h;exact ⟨dx,_,h,by simp [List.lookup,beq_eq_false_iff_ne.mpr h2]⟩
  | or x y=>obtain ⟨dx,p,q,h,_⟩:=h;exact ⟨dx,_,h,by simp [List.lookup,beq_eq_false_iff_ne.mpr h3,beq_eq_false_iff_ne.mpr h4]⟩
  | by_ x y=>obtain ⟨dx,p,q,h,_⟩:=h;exact ⟨dx,_,h,by simp [List.lookup,beq_eq_false_iff_ne.mpr h3,beq_eq_false_iff_ne.mpr h4]⟩
  | hold k x=>obtain ⟨dx,p,h,_⟩:=h;exact ⟨dx,_,h,by simp [List.lookup,beq_eq_false_iff_ne.mpr h5]⟩
end L2
namespace L2
open PySem PySem.Spec PySem.W PyProof.Rows
end L2
namespace L2
open PySem PySem.Spec PySem.W PyProof.Rows
end L2
namespace L2
open PySem PySem.Spec PySem.W PyProof.Rows
end L2
namespace L2
open PySem PySem.Spec PySem.W PyProof.Rows
end L2
namespace L2
open PySem
end L2
namespace L2
open PySem PySem.W
end L2
namespace L2
open PySem
end L2
namespace L2
open PySem PySem.Spec PyProof.Rows
theorem len0 {α:Type} {P:List α->Prop} (h:P []):∀ us:List α,us.length=0->P us:=fun us e=>by
  cases us with
  | nil=>exact h
  | cons a us=>simp at e
theorem len1 {α:Type} {P:List α->Prop} (h:∀ a,P [a]):∀ us:List α,us.length=1->P us:=fun us e=>by
  cases us with
  | nil=>simp at e
  | cons a us=>exact len0 (P:=fun us=>P (a::us)) (h a) us (by simpa using e)
theorem len2 {α:Type} {P:List α->Prop} (h:∀ a b,P [a,b]):∀ us:List α,us.length=2->P us:=fun us e=>by
  cases us with
  | nil=>simp at e
  | cons a us=>exact len1 (P:=fun us=>P (a::us)) (h a) us (by simpa using e)
theorem len3 {α:Type} {P:List α->Prop} (h:∀ a b c,P [a,b,c]):∀ us:List α,us.length=3->P us:=fun us e=>by
  cases us with
  | nil=>simp at e
  | cons a us=>exact len2 (P:=fun us=>P (a::us)) (h a) us (by simpa using e)
end L2
namespace L2
open PySem PySem.Spec PyProof.Rows
noncomputable def csL (l:List Addr) (i:Nat):Addr:=l.getD i 0
structure IsTab (K:PySem.W.Frag) (l:List Addr) (rt:Addr):Prop where
  sp:PySem.W.specialIn K (.builtin "object.__class__") "__get__"=some (some (.builtin "getset_descriptor.__get__"))
  tk:PySem.W.takesIn K (.builtin "object.__class__")=some true
  fi:l.map (fun c=>PySem.W.findIn K (.ref c) "__class__")=l.map fun _=>some (some (.builtin "object.__class__"))
  mr:l.map (fun c=>PySem.W.mroIn K c (.type "object"))=l.map fun _=>some true
  ki:l.map (fun c=>l.map fun d=>PySem.W.kitOne K (.ref c) (.ref d))=(List.range l.length).map fun i=>(List.range l.length).map fun j=>some (i == j)
  kr:l.map (fun c=>PySem.W.kitOne K (.ref c) (.ref rt))=l.map fun _=>some true
theorem map_at {α β:Type} {f g:α->β} {l:List α} (h:l.map f=l.map g) {x:α} (hx:x∈l):f x=g x:=List.map_inj_left.mp h x hx
theorem csL_mem {l:List Addr} {i:Nat} (h:i < l.length):csL l i∈l:=by
  unfold csL
  rw [List.getD_eq_getElem?_getD,List.getElem?_eq_getElem h]
  exact List.getElem_mem h
variable {K:PySem.W.Frag} {l:List Addr} {rt:Addr}
theorem IsTab.isR (h:IsTab K l rt) (hL:∀ c∈l,Cls K c) {i:Nat} (hi:i < 9) (hn:l.length=9:=by rfl):IsC K (csL l i) rt true:=by
  rw [<- hn] at hi
  exact ⟨hL _ (csL_mem hi),map_at h.fi (csL_mem hi),h.sp,h.tk,map_at h.mr (csL_mem hi),map_at h.kr (csL_mem hi)⟩
end L2
namespace L2
open PySem PySem.Spec PyProof.Rows
theorem Rl.ci3 {r:Rl} (h:r.ci=3):∃ x y,r=.or x y:=by cases r <;> simp only [Rl.ci] at h <;> first | exact ⟨_,_,rfl⟩ | lia
theorem Rl.ci4 {r:Rl} (h:r.ci=4):∃ x y,r=.by_ x y:=by cases r <;> simp only [Rl.ci] at h <;> first | exact ⟨_,_,rfl⟩ | lia
theorem Rl.ci1 {r:Rl} (h:r.ci=1):∃ c,r=.bead c:=by cases r <;> simp only [Rl.ci] at h <;> first | exact ⟨_,rfl⟩ | lia
theorem Rl.ci2 {r:Rl} (h:r.ci=2):∃ c,r=.named c:=by cases r <;> simp only [Rl.ci] at h <;> first | exact ⟨_,rfl⟩ | lia
theorem Rl.ci5 {r:Rl} {j:Nat} (hj:j<=3) (h:r.ci=5 + j):∃ k x,r=.hold k x/\min k 3=j:=by cases r <;> simp only [Rl.ci] at h <;> first | exact ⟨_,_,rfl,by lia⟩ | lia
theorem Rl.dep_pos (r:Rl):1<=r.dep:=by cases r <;> simp only [Rl.dep] <;> lia
end L2
namespace L2
open PySem PySem.Spec PyProof.Rows
variable {C dx p wa:Addr} {B:AHp} {ts:List Str} {n:Nat}
theorem spOf_imp {K:PySem.W.Frag} {asp asp':ASp} (h:∀ us A Q,asp' us A Q->asp us A Q):∀ vs H Q E,spOf K asp' vs H Q E->spOf K asp vs H Q E:=fun vs H Q E ⟨us,A,Q',r,g,a,k⟩=>⟨us,A,Q',r,g,h _ _ _ a,k⟩
end L2
namespace L2
open PySem PySem.Spec PyProof.Rows
theorem mn_ne (k:Nat) {z:Str} (hz:z∈(["nothing","bead","name","or","by"]:List Str)):mname k≠z:=by
  have key:∀ t∈(["row","bag","choice","ring"]:List Str),∀ z∈(["nothing","bead","name","or","by"]:List Str),t≠z:=by decide +kernel
  refine key _ ?_ _ hz
  match k with
  | 0=>decide +kernel
  | 1=>decide +kernel
  | 2=>decide +kernel
  | k + 3=>exact (by decide +kernel:mname 3∈(["row","bag","choice","ring"]:List Str))
noncomputable def asp_ltext (n:Nat):ASp:=fun us A Q=>∃ r:Rl,us=[r.toU]/\r.dep<=n/\r.wd=true/\r.size<=100/\Q (.str r.txt) A
noncomputable def asp_lobj (cs:Nat->Addr) (n:Nat):ASp:=fun us A Q=>∃ r:Rl,us=[r.toU]/\r.dep<=n/\∀ B b,Ext A B->RlO cs B b r->Q (.ref b) B
theorem ltext0:∀ us A Q,¬ asp_ltext 0 us A Q:=fun us A Q hq0=>by obtain ⟨r,_,h,_⟩:=hq0;have:=r.dep_pos;lia
theorem lobj0 {cs:Nat->Addr}:∀ us A Q,¬ asp_lobj cs 0 us A Q:=fun us A Q hq0=>by obtain ⟨r,_,h,_⟩:=hq0;have:=r.dep_pos;lia
end L2
namespace L2
open PySem PySem.Spec PyProof.Rows
section
variable {K:PySem.W.Frag}
noncomputable def mIdxB:U->List U->AHp->AVK->Prop:=fun u us A Q=>∃ (a:Addr) (bs:List Bool) (z:Bool) (j:Nat),u=.ref a/\A a=some (.lst (bs.map U.bl))/\us=[.bl z]/\bs[j]? = some z/\(∀ m,m < j->bs[m]?≠some z)/\Q (.int j) A
theorem q_idxB {A:AHp} {Q:AVK} {p:Addr} {z:Bool}:mIdxB (.ref p) [.bl z] A Q=(∃ (bs:List Bool) (j:Nat),A p=some (.lst (bs.map U.bl))/\bs[j]? = some z/\(∀ m,m < j->bs[m]?≠some z)/\Q (.int j) A):=propext ⟨fun hq0=>by obtain ⟨_,bs,_,j,e1,h1,e2,h⟩:=hq0;cases e1;cases e2;exact ⟨bs,j,h1,h⟩,fun ⟨bs,j,h1,h⟩=>⟨p,bs,z,j,rfl,h1,rfl,h⟩⟩
end
end L2
namespace L2
open PySem PySem.Spec PyProof.Rows
theorem mn_at {j:Nat} (hj:j<=3):atI [U.str "row",U.str "bag",U.str "choice",U.str "ring"] (j:Int)=some (.str (mname j)):=by
  rcases j with _ | _ | _ | _ | j <;> first | rfl | lia
end L2
namespace L2
open PySem PySem.Spec PyProof.Rows
noncomputable def stU (r:Rl):U:=.tup [r.toU,.int r.size,.int r.dep]
theorem stU_or {x y:Rl}:U.tup [.tup [.str "or",x.toU,y.toU],.int ((x.size:Int) + (y.size:Int) + 1),.int (1 + max (x.dep:Int) (y.dep:Int))]=stU (.or x y):=by
  have h1:((Rl.or x y).size:Int)=(x.size:Int) + (y.size:Int) + 1:=by simp only [Rl.size];lia
  have h2:((Rl.or x y).dep:Int)=1 + max (x.dep:Int) (y.dep:Int):=by simp only [Rl.dep];lia
  unfold stU
  rw [h1,h2]
  rfl
theorem stU_by {x y:Rl}:U.tup [.tup [.str "by",x.toU,y.toU],.int ((x.size:Int) + (y.size:Int) + 1),.int (1 + max (x.dep:Int) (y.dep:Int))]=stU (.by_ x y):=by
  have h1:((Rl.by_ x y).size:Int)=(x.size:Int) + (y.size:Int) + 1:=by simp only [Rl.size];lia
  have h2:((Rl.by_ x y).dep:Int)=1 + max (x.dep:Int) (y.dep:Int):=by simp only [Rl.dep];lia
  unfold stU
  rw [h1,h2]
  rfl
theorem stU_hold {k:Nat} {x:Rl}:U.tup [.tup [.str (mname k),x.toU],.int ((x.size:Int) + 1),.int ((x.dep:Int) + 1)]=stU (.hold k x):=by
  have h1:((Rl.hold k x).size:Int)=(x.size:Int) + 1:=by simp only [Rl.size];lia
  have h2:((Rl.hold k x).dep:Int)=(x.dep:Int) + 1:=by simp only [Rl.dep];lia
  unfold stU
  rw [h1,h2]
  rfl
theorem q_st0 {r:Rl} {A:AHp} {Q:AVK}:xIx (stU r) (.int 0) A Q=Q r.toU A:=propext ⟨fun hq0=>by obtain ⟨_,e,h⟩:=hq0;cases e;exact h,fun h=>⟨_,rfl,h⟩⟩
theorem q_st1 {r:Rl} {A:AHp} {Q:AVK}:xIx (stU r) (.int 1) A Q=Q (.int r.size) A:=propext ⟨fun hq0=>by obtain ⟨_,e,h⟩:=hq0;cases e;exact h,fun h=>⟨_,rfl,h⟩⟩
theorem q_st2 {r:Rl} {A:AHp} {Q:AVK}:xIx (stU r) (.int 2) A Q=Q (.int r.dep) A:=propext ⟨fun hq0=>by obtain ⟨_,e,h⟩:=hq0;cases e;exact h,fun h=>⟨_,rfl,h⟩⟩
theorem last2 {α:Type} {ws:List α} (h:1 < ws.length):∃ ws0 x y,ws=ws0++[x]++[y]:=by
  rcases List.eq_nil_or_concat ws with rfl | ⟨a,b,rfl⟩
  . exact absurd h (by simp)
  . rcases List.eq_nil_or_concat a with rfl | ⟨c,d,rfl⟩
    . exact absurd h (by simp)
    . exact ⟨c,d,b,by simp⟩
theorem last1 {α:Type} {ws:List α} (h:0 < ws.length):∃ ws0 x,ws=ws0++[x]:=by
  rcases List.eq_nil_or_concat ws with rfl | ⟨a,b,rfl⟩
  . exact absurd h (by simp)
  . exact ⟨a,b,by simp⟩
theorem op_at {k:Int} (h:k=6\/k=7) {x y:Rl}:∃ (z:Str) (r:Rl),atI [U.str "or",U.str "by"] (k - 6)=some (.str z)/\U.tup [.tup [.str z,x.toU,y.toU],.int ((x.size:Int) + (y.size:Int) + 1),.int (1 + max (x.dep:Int) (y.dep:Int))]=stU r/\r.wd=(x.wd && y.wd):=by
  rcases h with rfl | rfl
  . exact ⟨_,_,rfl,stU_or,rfl⟩
  . exact ⟨_,_,rfl,stU_by,rfl⟩
theorem mn_atI {k:Int} (h0:0<=k) (h3:k < 4):∃ j:Nat,atI [U.str "row",U.str "bag",U.str "choice",U.str "ring"] k=some (.str (mname j)):=by
  obtain ⟨j,rfl⟩:∃ j:Nat,k=j:=⟨k.toNat,by lia⟩
  exact ⟨j,mn_at (by lia)⟩
theorem upd_ov {A:AHp} {x p:Addr} {o u v:AO} (h:updA A x o p=none):A p=none/\updA (updA (updA A x o) p u) x v=updA (updA A p u) x v/\updA (updA A x o) p u x=some o:=by
  have hne:p≠x:=fun e=>by rw [e,updA_same] at h;cases h
  refine ⟨by rwa [updA_ne hne] at h,?_,by rw [updA_ne (Ne.symm hne),updA_same]⟩
  funext b
  unfold updA
  by_cases e:b=x
  . rw [if_pos e,if_pos e]
  . rw [if_neg e,if_neg e,if_neg e]
noncomputable def wdR (ws:List Rl):Prop:=∀ r∈ws,r.wd=true
noncomputable def totR (ws:List Rl):Nat:=(ws.map Rl.size).sum + ws.length
theorem totR_app (a b:List Rl):totR (a++b)=totR a + totR b:=by unfold totR;simp only [List.map_append,List.sum_append,List.length_append];lia
theorem totR_one (r:Rl):totR [r]=r.size + 1:=by simp [totR]
theorem len_tot (ws:List Rl):ws.length<=totR ws:=by unfold totR;lia
theorem sum_cast (ws:List Rl):(ws.map fun r=>(r.size:Int)).sum=((ws.map Rl.size).sum:Nat):=by
  induction ws with
  | nil=>rfl
  | cons r ws ih=>simp only [List.map_cons,List.sum_cons,ih];lia
noncomputable def asp_total:ASp:=fun us A Q=>∃ (a:Addr) (ws:List Rl),us=[.ref a]/\A a=some (.lst (ws.map stU))/\ws.length<=100/\Q (.int ((totR ws:Int) - 1)) A
noncomputable def asp_op:ASp:=fun us A Q=>∃ (a:Addr) (z:Int) (ws:List Rl),us=[.ref a,.int z]/\A a=some (.lst (ws.map stU))/\wdR ws/\ws.length<=90/\∀ (ws0:List Rl) (r:Rl),ws0 <+: ws->r.wd=true->(ws=[]->r.size=1/\r.dep=1)->Q .non (updA A a (.lst ((ws0++[r]).map stU)))
noncomputable def asp_tree:ASp:=fun us A Q=>∃ (a:Addr) (ns:List Int),us=[.ref a]/\A a=some (.lst (ns.map U.int))/\1<=ns.length/\ns.length<=60/\∀ r:Rl,r.wd=true->r.dep<=30->r.size<=60->Q r.toU A
end L2
namespace L2
open PySem PySem.Spec PyProof.Rows
theorem layNew_led (t:SetTable) (es:Array (Int × Value)) (h:Int) (x:Value):(layNew t es h x).2.1.led=t.led:=by
  unfold layNew
  split
  . dsimp only
    unfold SetTable.orStandIn
    split
    . rfl
    . rfl
  . rfl
theorem relay_led (t:SetTable) (es:Array (Int × Value)) (n:Nat):(relayAll t es n).2.1.led=t.led/\(t.plain=false->(relayAll t es n).2.1.plain=false):=by
  unfold relayAll
  split
  . rename_i t' order e
    dsimp only
    split
    . unfold SetTable.relaid SetTable.laid at e
      obtain ⟨ow,_,e⟩:=Option.bind_eq_some_iff.mp e
      cases e
      exact ⟨rfl,id⟩
    . exact ⟨rfl,fun _=>rfl⟩
  . exact ⟨rfl,fun _=>rfl⟩
noncomputable def WSet (P:Program) (w:World) (h:Heap) (a:Addr) (ks:List Str):Prop :=
  ∃ o es ep t,h.get? a=some o/\o.ExactSet/\o.data=.set es ep t/\ElemsOf (strKind P w) es.toList/\(∃ l:List (Str × Tok),es.toList.map (·.2)=strValues l/\(l.map (·.1)).Perm ks)/\es.size < scanBound/\t.fits es.size=true /\
    (w.params.followText "set-order"=true\/t.led=true)/\(es.size=0\/t.plain=false)
variable {P:Program} {w:World} {A:Around} {E:Value->Shared->Prop} {s:Shared} {a:Addr} {ks:List Str} {h:Heap}
theorem isStr_str {z:Str} {x:Str} {tk:Tok}:Value.isStrOf z (.str x tk)=decide (x=z):=by
  show (x == z)=_
  by_cases e:x=z <;> simp [e]
theorem WSet.typeIs (hS:WSet P w s.heap a ks):s.TypeIs (.ref a) "set":=let ⟨o,_,_,_,e,x,_⟩:=hS;⟨o,e,x.1⟩
theorem mem_vals {es:List (Int × Value)} {l:List (Str × Tok)} (h:es.map (·.2)=strValues l) (z:Str):(∃ e∈es,Value.isStrOf z e.2=true) ↔ z∈l.map (·.1):=by
  constructor
  . rintro ⟨e,he,hz⟩
    have h1:e.2∈strValues l:=h ▸ List.mem_map_of_mem he
    obtain ⟨p,hp,e2⟩:=List.mem_map.mp h1
    rw [<- e2,isStr_str,decide_eq_true_eq] at hz
    exact List.mem_map.mpr ⟨p,hp,hz⟩
  . intro hz
    obtain ⟨p,hp,rfl⟩:=List.mem_map.mp hz
    have h1:Value.str p.1 p.2∈es.map (·.2):=h ▸ List.mem_map.mpr ⟨p,hp,rfl⟩
    obtain ⟨e,he,e2⟩:=List.mem_map.mp h1
    exact ⟨e,he,by rw [e2,isStr_str];exact decide_eq_true rfl⟩
theorem vals_perm {es es':List (Int × Value)} {l:List (Str × Tok)} (h:es.map (·.2)=strValues l) (p:es'.Perm es):∃ l',es'.map (·.2)=strValues l'/\l'.Perm l:=by
  induction p generalizing l with
  | nil=>cases l with
    | nil=>exact ⟨[],rfl,.nil⟩
    | cons=>cases h
  | @cons x l1 l2 p ih=>cases l with
    | nil=>cases h
    | cons y l =>
      injection h with h1 h2
      obtain ⟨l',e,q⟩:=ih h2
      exact ⟨y::l',by rw [List.map_cons,e,show x.2=Value.str y.1 y.2 from h1];rfl,q.cons y⟩
  | @swap x y l1=>cases l with
    | nil=>cases h
    | cons u l=>cases l with
      | nil=>injection h with h1 h2;cases h2
      | cons v l =>
        injection h with h1 h2
        injection h2 with h2 h3
        exact ⟨v::u::l,by rw [List.map_cons,List.map_cons,show x.2=Value.str u.1 u.2 from h1,show y.2=Value.str v.1 v.2 from h2,h3];rfl,.swap ..⟩
  | trans p q ih1 ih2 =>
    obtain ⟨l1,e1,q1⟩:=ih2 h
    obtain ⟨l2,e2,q2⟩:=ih1 e1
    exact ⟨l2,e2,q2.trans q1⟩
theorem set_store {o:Obj} {es es':Array (Int × Value)} {ep:Nat} {t t':SetTable} (ho:h.get? a=some o) (hd:o.data=.set es ep t) :
    (h.update a (Obj.putSet es' t')).get? a=some { o with data:=.set es' (ep + 1) t' }:=by
  rw [<- putSet_of es' t' hd]
  exact Heap.get?_update_self _ ho (by rw [putSet_of es' t' hd];rfl)
theorem add_end {g:Bool->Sem Unit} (hg:∀ b s1 Q1,Q1 () s1->wpAny (model P w) A (g b) Q1 E s1) {o:Obj} {es es1:Array (Int × Value)} {ep:Nat} {t t2:SetTable} {ks':List Str} {l:List (Str × Tok)} {dm:Bool} {R:Option Bool->Shared->Prop}
    (ho:s.heap.get? a=some o) (hx:o.ExactSet) (hd:o.data=.set es ep t) (he:ElemsOf (strKind P w) es1.toList) (hl:es1.toList.map (·.2)=strValues l) (hp:(l.map (·.1)).Perm ks') (hb:es1.size < scanBound) (hf:t2.fits es1.size=true)
    (h1:w.params.followText "set-order"=true\/t2.led=true) (h2:t2.plain=false) (k:∀ h',Heap.SameBut a s.heap h'->WSet P w h' a ks'->R (some true) { s with heap:=h' }) :
    wpAny (model P w) A (do
      storeSet a es1 t2
      if (!dm && t2.tooFull)=true then do
          g (relayAll t2 es1 (SetTable.grown es1.size)).2.2
          storeSet a (relayAll t2 es1 (SetTable.grown es1.size)).1 (relayAll t2 es1 (SetTable.grown es1.size)).2.1
          pure (some true)
        else pure (some true)) R E s:=by
  refine wpAny_bind (wpAny_storeSet_of ho hd ?_ (fits_of_scanBound hb))
  have g1:=set_store (es':=es1) (t':=t2) ho hd
  have sb:=Heap.SameBut.update s.heap a (Obj.putSet es1 t2)
  split
  . have pr:=relayAll_perm t2 es1 (SetTable.grown es1.size)
    have fr:=relayAll_fits t2 es1 (SetTable.grown es1.size)
    obtain ⟨le,pl⟩:=relay_led t2 es1 (SetTable.grown es1.size)
    generalize relayAll t2 es1 (SetTable.grown es1.size)=Z at pr fr le pl ⊢
    obtain ⟨es2,t3,gv⟩:=Z
    dsimp only at pr fr le pl ⊢
    have sz:es2.size=es1.size:=by rw [<- Array.length_toList,pr.length_eq,Array.length_toList]
    obtain ⟨l2,e2,p2⟩:=vals_perm hl pr
    refine wpAny_bind (hg _ _ _ (wpAny_bind (wpAny_storeSet_of g1 rfl (wpAny_pure (k _ (sb.trans (Heap.SameBut.update _ a _)) ?_)) (fits_of_scanBound (sz ▸ hb)))))
    exact ⟨_,es2,_,t3,set_store g1 rfl,hx,rfl,he.perm pr,⟨l2,e2,(p2.map _).trans hp⟩,sz ▸ hb,fr,by rw [le];exact h1,.inr (pl h2)⟩
  . exact wpAny_pure (k _ sb ⟨_,es1,_,t2,g1,hx,rfl,he,⟨l,hl,hp⟩,hb,hf,h1,.inr h2⟩)
noncomputable def addT (ks:List Str) (z:Str):List Str:=if z∈ks then ks else ks++[z]
theorem add_hashed {z:Str} {tk:Tok} {Q:Bool->Shared->Prop} (hS:WSet P w s.heap a ks) (hr:ks.length + 1 < scanBound) (k:∀ h' b,Heap.SameBut a s.heap h'->WSet P w h' a (addT ks z)->Q b { s with heap:=h' }) :
    wpAny (model P w) A (setAddHashed a (.str z tk) ((strKind P w).hash z)) Q E s:=by
  obtain ⟨o,es,ep,t,ho,hx,hd,he,⟨l,hl,hp⟩,hb,hf,h1,h2⟩:=hS
  have hkey:(strKind P w).is z (.str z tk)=true:=strKind_is P w z tk
  have hsz:es.size=ks.length:=by
    have:=congrArg List.length hl
    rw [List.length_map,Array.length_toList] at this
    rw [this,strValues,List.length_map,<- List.length_map (f:=(·.1)),hp.length_eq]
  unfold setAddHashed setAddHashedIn
  refine wpAny_holding (wpAny_bind (wpAny_setState_of ho hd hf ?_))
  dsimp only
  rw [byScan_of (knd:=strKind P w) (x:=.str z tk) rfl hb he]
  simp only [↓reduceIte]
  unfold setAddByScan
  refine wpAny_bind (wpAny_bind (wpAny_rule (wpAny_bind (wpAny_setScan_of hkey ho hd hf he ?_))))
  cases hq:List.findIdx? (fun e=>(strKind P w).is z e.2) es.toList with
  | some j =>
    dsimp only
    obtain ⟨hj,hpj,_⟩:=List.findIdx?_eq_some_iff_getElem.mp hq
    have hz:z∈ks:=hp.mem_iff.mp ((mem_vals hl z).mp ⟨_,List.getElem_mem hj,hpj⟩)
    refine wpAny_pure (wpAny_pure ?_)
    have:=k s.heap false (Heap.SameBut.refl a s.heap) (by unfold addT;rw [if_pos hz];exact ⟨o,es,ep,t,ho,hx,hd,he,⟨l,hl,hp⟩,hb,hf,h1,h2⟩)
    exact this
  | none =>
    dsimp only
    have hz:z ∉ ks:=fun m=>by
      obtain ⟨e,me,hh⟩:=(mem_vals hl z).mpr (hp.mem_iff.mpr m)
      have:=List.findIdx?_eq_none_iff.mp hq e me
      rw [show (strKind P w).is z e.2=true from hh] at this
      cases this
    have pm:=layNew_perm t es ((strKind P w).hash z) (.str z tk)
    have ft:=layNew_fits t es ((strKind P w).hash z) (.str z tk)
    have ld:=layNew_led t es ((strKind P w).hash z) (.str z tk)
    generalize layNew t es ((strKind P w).hash z) (.str z tk)=L at pm ft ld ⊢
    obtain ⟨es1,t1,dm,gv⟩:=L
    dsimp only at pm ft ld ⊢
    rw [Array.toList_push] at pm
    have hs1:es1.size=es.size + 1:=by rw [<- Array.length_toList,pm.length_eq,List.length_append,Array.length_toList];rfl
    have hl1:(es.toList++[((strKind P w).hash z,Value.str z tk)]).map (·.2)=strValues (l++[(z,tk)]):=by rw [List.map_append,hl];simp [strValues]
    obtain ⟨l1,e1,q1⟩:=vals_perm hl1 pm
    have q2:(l1.map (·.1)).Perm (addT ks z):=by
      refine (q1.map _).trans ?_
      unfold addT
      rw [if_neg hz,List.map_append]
      exact hp.append_right _
    have hb1:es1.size < scanBound:=by rw [hs1,hsz];exact hr
    have he1:ElemsOf (strKind P w) es1.toList:=(he.push hkey rfl).perm pm
    have gw:∀ (b:Bool) (s1:Shared) (Q1:Unit->Shared->Prop),Q1 () s1->wpAny (model P w) A (match b with | true=>rule "set.scan.the-table-gave-way" | false=>pure ()) Q1 E s1:=fun b s1 Q1 q=>by
      cases b
      . exact wpAny_pure q
      . exact wpAny_rule q
    refine wpAny_bind (gw _ _ _ ?_)
    split
    . refine wpAny_bind ?_
      rw [hashByValue_scannable 8 rfl]
      refine wpAny_pure ?_
      refine add_end (P:=P) (w:=w) (fun b s1 Q1 q=>gw b s1 Q1 q) ho hx hd he1 e1 q2 hb1 (SetTable.fits_plain_off ft) (by rcases h1 with h1 | h1;exact .inl h1;exact .inr (ld.trans h1)) rfl fun h' sb hS'=>?_
      exact wpAny_pure (k h' true sb hS')
    . rename_i hpl
      refine wpAny_bind (wpAny_pure ?_)
      simp only [↓reduceIte]
      refine add_end (P:=P) (w:=w) (fun b s1 Q1 q=>gw b s1 Q1 q) ho hx hd he1 e1 q2 hb1 ft (by rcases h1 with h1 | h1;exact .inl h1;exact .inr (ld.trans h1)) (by simpa using hpl) fun h' sb hS'=>?_
      exact wpAny_pure (k h' true sb hS')
theorem call_add {z:Str} {tk:Tok} {Q:Value->Shared->Prop} (hS:WSet P w s.heap a ks) (hr:ks.length + 1 < scanBound) (k:∀ h',Heap.SameBut a s.heap h'->WSet P w h' a (addT ks z)->Q .none { s with heap:=h',toks:=s.toks + 1 }) :
    wpAny (model P w) A (call (.builtin "set.add") [.ref a,.str z tk]) Q E s:=by
  refine wpAny_call_entry F.slot_set_add hS.typeIs F.entry_set_add ?_ (F.args_set_add_2 _ _)
  unfold Builtin.«set.add» Builtin.Frozenset.oneOther
  simp only [List.isEmpty_nil,bind_assoc]
  unfold Builtin.Frozenset.addrOf setAdd
  refine wpAny_bind (wpAny_pure (wpAny_bind (wpAny_pure (wpAny_bind (wpAny_holding (wpAny_bind ((strKind P w).pyHash (strKind_is P w z tk) ?_)))))))
  refine add_hashed (s:={ s with toks:=s.toks + 1 }) hS hr fun h' b sb hS'=>?_
  exact wpAny_pure ⟨_,rfl,k h' sb hS'⟩
end L2
namespace L2
open PySem PySem.Spec PyProof.Rows
noncomputable abbrev setO (w:World):Obj:={ cls:=.type "set",dict:=none,data:=.set #[] 0 (.fresh 0 0 (!w.params.followText "set-order")) }
variable {P:Program} {w:World} {A:Around} {E:Value->Shared->Prop} {s:Shared} {a:Addr} {ks:List Str} {h:Heap}
theorem setO_w (e:h.get? a=some (setO w)):WSet P w h a []:=by
  refine ⟨_,#[],0,_,e,⟨rfl,rfl,rfl⟩,rfl,fun x hx=>absurd hx (by simp),⟨[],rfl,.nil⟩,by decide,?_,?_,.inl rfl⟩
  . cases w.params.followText "set-order" <;> rfl
  . cases e:w.params.followText "set-order"
    . exact .inr rfl
    . exact .inl rfl
theorem new_led {r : List Value} {Q1:Value->Shared->Prop} (hc:checkBuiltinCall "set.__new__" ⟨.type "set"::r,[]⟩=pure ()) (k:Q1 (.ref s.heap.objs.size) { s with heap:=s.heap.push (setO w) }) :
    codeAny (model P w) A (.call (.builtin "set.__new__") ⟨.type "set"::r,[]⟩) (wants Q1 E) s:=by
  refine codeAny_of_tree ?_
  show wpAny _ A.in1 (do checkBuiltinCall "set.__new__" ⟨.type "set"::r,[]⟩
                         again (.builtin "set.__new__" ⟨.type "set"::r,[]⟩)) _ _ s
  refine wpAny_bind (wpAny_of_eq hc (wpAny_pure ⟨plainId_quiet F.plain_set_new _,codeAny_builtin F.entry_set_new ?_⟩))
  rw [Around.under_plainId F.plain_set_new _]
  unfold Builtin.«set.__new__» Builtin.Frozenset.newClass
  have sb:=sub_set_self
  obtain ⟨hp,g,d,tk,os⟩:=s
  dsimp only
  wp_walk
  refine wpAny_askSetting (wpAny_pure ?_)
  dsimp only
  simp only [newObj]
  exact wpAny_bind (wpAny_alloc (wpAny_pure (wpAny_pure k)))
theorem make_set0 {Q:Value->Shared->Prop} (k:Q (.ref s.heap.objs.size) { s with heap:=s.heap.push (setO w) }):wpAny (model P w) A (call (.type "set") []) Q E s:=by
  obtain ⟨c,tl,hmro⟩:=F.called_set.mro
  have q1:=F.called_set.made
  have q2:=F.called_set.sub
  refine wpAny_call (codeAny_of_tree ?_)
  show wpAny _ _ (callAny (.type "set") ⟨[],[]⟩) _ _ _
  refine wpAny_pure ⟨Code.quiet_builtin _ (by decide +kernel),codeAny_builtin F.entry_type_call ?_⟩
  rw [Around.under_plain (weight_type_call_type "set" [] []) rfl]
  have q3:=F.called_set.notType
  have q4:=F.called_set.canCreate
  have q5:=F.typeCall_set_0
  repeat (any_goals (first | assumption | wp_step))
  refine codeAny_mono (new_led (P:=P) (w:=w) (r:=[]) (E:=E) (Q1:=fun ob s1=>ob=.ref s.heap.objs.size/\s1={ s with heap:=s.heap.push (setO w) }) F.newCall_set_0 ⟨rfl,rfl⟩) fun r s1 hr=>?_
  cases r with
  | error e=>exact hr
  | ok fl =>
    cases fl with
    | ret ob =>
      obtain ⟨rfl,rfl⟩:=hr
      have hT:Shared.TypeIs { s with heap:=s.heap.push (setO w) } (.ref s.heap.objs.size) "set":=⟨_,Heap.get?_push_size _ rfl,rfl⟩
      have q6:=F.called_set.init.lookup
      have q7:=F.called_set.init.bind (.ref s.heap.objs.size)
      have hS:(s.heap.push (setO w)).get? s.heap.objs.size=some (setO w):=Heap.get?_push_size _ rfl
      repeat (any_goals (first | assumption | wp_step))
      refine codeAny_mono (codeAny_call_builtin (R:=wants (fun r s2=>r=.none/\Q (.ref s.heap.objs.size) s2) E) F.called_set.init.plain F.entry_set_init (check_set_init hT ?_)) fun r2 s2 hr2=>?_
      . unfold Builtin.«set.__init__» noKeywords
        wp_walk
        exact ⟨rfl,k⟩
      . cases r2 with
        | error e=>exact hr2
        | ok f2 =>
          cases f2 with
          | ret r =>
            obtain ⟨rfl,hq⟩:=hr2
            repeat (any_goals (first | assumption | wp_step))
          | _=>exact hr2.elim
    | _=>exact hr.elim
theorem addT_len (ks:List Str) (z:Str):(addT ks z).length<=ks.length + 1:=by unfold addT;split <;> simp
noncomputable def addTs (zs:List Str) (i:Nat):List Str:=(zs.take i).foldl addT []
theorem addTs_len (zs:List Str):∀ i,(addTs zs i).length<=i
  | 0=>by simp [addTs]
  | i + 1=>by
    unfold addTs
    rcases Nat.lt_or_ge i zs.length with h | h
    . rw [List.take_succ_eq_append_getElem h,List.foldl_append]
      exact Nat.le_trans (addT_len _ _) (Nat.succ_le_succ (addTs_len zs i))
    . rw [List.take_of_length_le (by lia),<- List.take_of_length_le h]
      exact Nat.le_succ_of_le (addTs_len zs i)
theorem addTs_succ {zs:List Str} {i:Nat} {z:Str} (h:zs[i]? = some z):addTs zs (i + 1)=addT (addTs zs i) z:=by
  obtain ⟨hl,e⟩:=List.getElem?_eq_some_iff.mp h
  unfold addTs
  rw [List.take_succ_eq_append_getElem hl,List.foldl_append,e];rfl
section
variable {R:Result->Shared->Prop} {I:Addr} {fp wr:List Addr} {G:Array GenState->Array GenState->Prop} {n:Nat} {Pv:Nat->Value->Prop} {St:Nat->Shared->Prop}
theorem WSet.moved {s':Shared} (hS:WSet P w s.heap a ks) (hm:Moved wr G s s') (hn:a ∉ wr):WSet P w s'.heap a ks:=by
  obtain ⟨o,es,ep,t,ho,r⟩:=hS
  exact ⟨o,es,ep,t,hm.heap a _ hn ho,r⟩
theorem upd_loop (W:WalksS P w A.in1 I fp wr G n Pv St) (S:Addr) (hf:S ∉ fp) (zs:List Str) (hz:zs.length=n) (hv:∀ i v,Pv i v->∃ z t,zs[i]? = some z/\v=.str z t) (hb:n + 1 < scanBound) :
    ∀ (k i:Nat) (s:Shared),n - i=k->i<=n->St i s->WSet P w s.heap S (addTs zs i)->(∀ s',Moved (S::wr) G s s'->WSet P w s'.heap S (addTs zs n)->R (.ok (.ret .none)) s') ->
      codeAny (model P w) A (.builtin "set.update.loop" ⟨[.ref S,.ref I],[]⟩) R s:=by
  have hw:S ∉ wr:=fun x=>hf (W.sub _ x)
  have su:∀ b∈wr,b∈S::wr:=fun b x=>List.mem_cons_of_mem _ x
  intro k
  induction k with
  | zero =>
    intro i s hk hi st hS hR
    obtain rfl:i=n:=by lia
    refine codeAny_builtin F.entry_set_update_loop ?_
    rw [Around.under_plainId F.plain_set_update_loop _]
    show wpAny _ A.in1 (pyNext (.ref I) >>= _) _ _ s
    refine wpAny_bind (W.done s _ _ st fun s' hm=>?_)
    exact wpAny_pure (hR s' (hm.mono su) (hS.moved hm hw))
  | succ k ih =>
    intro i s hk hi st hS hR
    have lt:i < n:=by lia
    refine codeAny_builtin F.entry_set_update_loop ?_
    rw [Around.under_plainId F.plain_set_update_loop _]
    show wpAny _ A.in1 (pyNext (.ref I) >>= _) _ _ s
    refine wpAny_bind (W.item i s _ _ lt st fun v s' pv st' hm=>?_)
    obtain ⟨z,t,ez,rfl⟩:=hv i v pv
    have hl:=addTs_len zs i
    have hS1:=hS.moved hm hw
    refine wpAny_bind (wpAny_holding ?_)
    unfold setAdd
    refine wpAny_holding (wpAny_bind ((strKind P w).pyHash (strKind_is P w z t) ?_))
    refine add_hashed (s:={ s' with toks:=s'.toks + 1 }) hS1 (by lia) fun h' b sb hS2=>?_
    rw [<- addTs_succ ez] at hS2
    refine wpAny_pure ⟨plainId_quiet F.plain_set_update_loop _,ih (i + 1) _ (by lia) lt (W.frame _ s' _ _ st' (Nat.le_succ _) fun b hb o e=>?_) hS2 fun s2 hm2 hS3=>?_⟩
    . rw [sb.2 b (fun x:b=S=>hf (x ▸ hb))];exact e
    . refine hR s2 (Moved.trans W.gtrans ((hm.mono su).then_heap (Nat.le_succ _) fun b o hb e=>?_) hm2) hS3
      rw [sb.2 b (fun x:b=S=>hb (x ▸ List.mem_cons_self))];exact e
end
end L2
namespace L2
open PySem PySem.Spec PyProof.Rows
variable {P:Program} {w:World} {A:Around} {E:Value->Shared->Prop} {s:Shared} {a:Addr} {ks:List Str} {h:Heap}
theorem make_setL {l:Addr} {its:Array Value} {zs:List Str} {Q:Value->Shared->Prop} (hh:A.handled=none) (hl:s.heap.IsList l its) (hv:∀ (i:Nat) (v:Value),its[i]? = some v->∃ z t,zs[i]? = some z/\v=.str z t) (hz:zs.length=its.size) (hb:its.size + 1 < scanBound)
    (k:∀ (h':Heap) (tk:Nat),s.toks<=tk->WSet P w h' s.heap.objs.size (addTs zs its.size)->(∀ b o,b < s.heap.objs.size->s.heap.get? b=some o->h'.get? b=some o)->Q (.ref s.heap.objs.size) { s with heap:=h',toks:=tk }) :
    wpAny (model P w) A (call (.type "set") [.ref l]) Q E s:=by
  obtain ⟨c,tl,hmro⟩:=F.called_set.mro
  have q1:=F.called_set.made
  have q2:=F.called_set.sub
  refine wpAny_call (codeAny_of_tree ?_)
  show wpAny _ _ (callAny (.type "set") ⟨[.ref l],[]⟩) _ _ _
  refine wpAny_pure ⟨Code.quiet_builtin _ (by decide +kernel),codeAny_builtin F.entry_type_call ?_⟩
  rw [Around.under_plain (weight_type_call_type "set" [.ref l] []) rfl]
  have q3:=F.called_set.notType
  have q4:=F.called_set.canCreate
  have q5:=F.typeCall_set_1 (.ref l)
  repeat (any_goals (first | assumption | wp_step))
  refine codeAny_mono (new_led (P:=P) (w:=w) (r:=[.ref l]) (E:=E) (Q1:=fun ob s1=>ob=.ref s.heap.objs.size/\s1={ s with heap:=s.heap.push (setO w) }) (F.newCall_set_1 (.ref l)) ⟨rfl,rfl⟩) fun r s1 hr=>?_
  cases r with
  | error e=>exact hr
  | ok fl =>
    cases fl with
    | ret ob =>
      obtain ⟨rfl,rfl⟩:=hr
      have hT:Shared.TypeIs { s with heap:=s.heap.push (setO w) } (.ref s.heap.objs.size) "set":=⟨_,Heap.get?_push_size _ rfl,rfl⟩
      have q6:=F.called_set.init.lookup
      have q7:=F.called_set.init.bind (.ref s.heap.objs.size)
      have hS:(s.heap.push (setO w)).get? s.heap.objs.size=some (setO w):=Heap.get?_push_size _ rfl
      repeat (any_goals (first | assumption | wp_step))
      refine codeAny_mono (codeAny_call_builtin (R:=wants (fun r s2=>r=.none/\∃ h' tk,s2={ s with heap:=h',toks:=tk }/\s.toks<=tk/\WSet P w h' s.heap.objs.size (addTs zs its.size)/\∀ b o,b < s.heap.objs.size->s.heap.get? b=some o->h'.get? b=some o) E) F.called_set.init.plain F.entry_set_init (check_set_init_1 hT ?_)) fun r2 s2 hr2=>?_
      . obtain ⟨ol,hol,hcl,nl,hdl⟩:=hl
        obtain ⟨oc,od,oda,os⟩:=ol
        simp only at hcl hdl
        subst hcl hdl
        have hol':(s.heap.push (setO w)).get? l=some { cls:=.type "list",dict:=od,data:=.seq its nl,slots:=os }:=Heap.get?_push_of_some _ hol
        have z1:=F.sub_list_set
        have z2:=F.sub_list_frozenset
        have z3:(Value.type "list" == Value.type "dict")=false:=by decide
        have hl1:(s.heap.push (setO w)).IsList l its:=⟨_,hol',rfl,nl,rfl⟩
        unfold Builtin.«set.__init__» noKeywords Builtin.Frozenset.updateFrom
        generalize hPI:pyIter=PI
        wp_walk
        subst hPI
        refine wpAny_pyIter_list hl1 (wpAny_bind (wpAny_runValue ?_))
        have hls:l < s.heap.objs.size:=Heap.lt_size hol
        have h3:A.in1.in1.in1.handled=none:=by simp [hh]
        have hne:l≠(s.heap.push (setO w)).objs.size:=by rw [Heap.size_push];exact Nat.ne_of_lt (Nat.lt_succ_of_lt hls)
        have hnf:s.heap.objs.size ∉ [(s.heap.push (setO w)).objs.size,l]:=by
          rw [Heap.size_push]
          simp only [List.mem_cons,List.not_mem_nil,or_false,not_or]
          exact ⟨Nat.ne_of_lt (Nat.lt_succ_self _),Nat.ne_of_gt hls⟩
        refine upd_loop ((Walks.list h3 _ l hne its).toS) s.heap.objs.size hnf zs hz hv hb (its.size - 0) 0 _ (by lia) (Nat.zero_le _) ⟨⟨_,Heap.get?_push_size _ rfl,rfl,rfl⟩,hl1.push _⟩ (setO_w (Heap.get?_push_of_some _ hS)) ?_
        intro s' hm hS'
        obtain ⟨h',g',d',tk',os'⟩:=s'
        cases (show g'=s.gens from hm.gens)
        cases (show d'=s.drawn from hm.drawn)
        cases (show os'=s.os from hm.os)
        refine wpAny_pure ?_
        show wpAny _ _ (ret Value.none) _ _ _
        refine wpAny_pure ⟨rfl,h',tk',rfl,?_,hS',fun b o hb e=>hm.heap b o ?_ (Heap.get?_push_of_some _ (Heap.get?_push_of_some _ e))⟩
        . exact hm.toks
        . rw [Heap.size_push]
          simp only [List.mem_cons,List.not_mem_nil,or_false,not_or]
          exact ⟨Nat.ne_of_lt hb,Nat.ne_of_lt (Nat.lt_succ_of_lt hb)⟩
      . cases r2 with
        | error e=>exact hr2
        | ok f2 =>
          cases f2 with
          | ret r =>
            obtain ⟨rfl,h',tk,rfl,ht,hS',hk'⟩:=hr2
            repeat (any_goals (first | assumption | wp_step))
            exact k _ _ ht hS' hk'
          | _=>exact hr2.elim
    | _=>exact hr.elim
end L2
namespace L2
open PySem PySem.Spec PyProof.Rows
namespace SI
theorem e_iter:entryFor table "set.__iter__"=some Builtin.«frozenset.__iter__»:=entryFor_alias (id':="frozenset.__iter__") (by kernel_rfl) rfl (by decide +kernel) (by kernel_rfl)
theorem e_next:entryFor table "set_iterator.__next__"=some Builtin.«set_iterator.__next__»:=entryFor_of_tree (by kernel_rfl)
theorem s_next:Slot "set_iterator" "__next__" "set_iterator.__next__":=by
  refine .of (owner:="set_iterator") (n:="__next__") ?_ (by decide +kernel) (by decide +kernel) (by decide +kernel) ?_ ?_
  . rw [typeLookup_type,builtinLookup_eq_fast];kernel_rfl
  . first | exact .inl (by decide +kernel) | exact .inr (by decide +kernel)
  . rw [isSubtype_type];kernel_rfl
theorem ow:Manifest.owners.lookup (String.ofList ['r','o','t','a','r','e','t','i','_','t','e','s'].reverse)=some Manifest.sig_set_iterator:=by kernel_rfl
theorem a_next (a:Value):argsOk "set_iterator.__next__" ⟨[a],[]⟩:=by
  unfold argsOk
  rw [signature?_of (id:="set_iterator.__next__") (n:=['_','_','t','x','e','n','_','_']) (o:=['r','o','t','a','r','e','t','i','_','t','e','s']) (by kernel_rfl) ow]
  kernel_rfl
end SI
end L2
namespace L2
open PySem PySem.Spec PyProof.Rows
section
variable {M:Model} {A:Around} {E:Value->Shared->Prop}
theorem any_choose {src:Source} {n:Nat} {s:Shared} {Q:Nat->Shared->Prop} (hn:n≠0) (h:∀ i d,i < n->Q i { s with drawn:=d }):wpAny M A (choose src n) Q E s:=fun Γ p hΓ=>by
  unfold choose
  rw [Sem.wp_choose]
  exact ⟨hn,by rw [Sem.wp_pure];exact h _ _ (Nat.mod_lt _ (Nat.pos_of_ne_zero hn))⟩
theorem erase_perm {α:Type} {xs:List α} {i:Nat} {x:α} (h:xs[i]? = some x):(x::xs.eraseIdx i).Perm xs:=by
  obtain ⟨hl,e⟩:=List.getElem?_eq_some_iff.mp h
  rw [List.eraseIdx_eq_take_drop_succ,<- e]
  have:xs=xs.take i++xs[i]::xs.drop (i + 1):=by rw [List.getElem_cons_drop,List.take_append_drop]
  exact List.perm_middle.symm.trans (by rw [<- this])
theorem any_draw {α:Type}:∀ (n:Nat) (xs:List α) (s:Shared) (Q:List α->Shared->Prop),xs.length=n->(∀ ys d,ys.Perm xs->Q ys { s with drawn:=d })->wpAny M A (drawOrder n xs) Q E s
  | 0, xs,s,Q,hn,h=>by
    have:=List.length_eq_zero_iff.mp hn
    subst this
    exact wpAny_pure (h [] s.drawn .nil)
  | n + 1,[],s,Q,hn,h=>by cases hn
  | n + 1,x::xs,s,Q,hn,h=>by
    unfold drawOrder
    refine wpAny_bind (any_choose (by simp) fun i d hi=>?_)
    obtain ⟨y,hy⟩:∃ y,(x::xs)[i]? = some y:=⟨_,List.getElem?_eq_getElem hi⟩
    rw [hy]
    dsimp only
    refine wpAny_bind (any_draw n _ _ _ (by rw [List.length_eraseIdx,if_pos hi];simpa using hn) fun ys d' hp=>?_)
    exact wpAny_pure (h (y::ys) d' ((hp.cons y).trans (erase_perm hy)))
end
theorem pick_go {α:Type} (next:Nat->Nat):∀ (n k:Nat) (l:List α) (out:Array α),l.length=n->(pickOrder.go next n k l out).toList.Perm (out.toList++l)
  | 0, k,l,out,hn=>by
    rw [List.length_eq_zero_iff.mp hn]
    simp [pickOrder.go]
  | n + 1,k,l,out,hn=>by
    unfold pickOrder.go
    have hlt:next k % l.length < l.length:=Nat.mod_lt _ (by lia)
    obtain ⟨y,hy⟩:∃ y,l[next k % l.length]? = some y:=⟨_,List.getElem?_eq_getElem hlt⟩
    rw [hy]
    dsimp only
    refine (pick_go next n (k + 1) _ _ (by rw [List.length_eraseIdx,if_pos hlt,hn];rfl)).trans ?_
    rw [Array.toList_push,List.append_assoc]
    exact List.Perm.append_left _ (erase_perm hy)
theorem pick_perm {α:Type} (next:Nat->Nat) (xs:Array α):(pickOrder next xs).toList.Perm xs.toList:=by
  unfold pickOrder
  exact (pick_go next _ 0 xs.toList #[] (by simp)).trans (by simp)
theorem below_one0 (j:Nat):SetTable.below #[j] 0=0:=by
  simp [SetTable.below,SetTable.below.go]
theorem below_one1 (j:Nat):SetTable.below #[j] (j + 1)=1:=by
  simp [SetTable.below,SetTable.below.go]
end L2
namespace L2
open PySem PySem.Spec PyProof.Rows
noncomputable def SetIt (h:Heap) (I:Addr) (f:Value) (i:Nat) (a:Addr) (n ep:Nat):Prop:=∃ o,h.get? I=some o/\o.cls=.type "set_iterator"/\o.data=.fields #[f,.int i 0,.ref a,.int n 0,.int ep 0]
variable {P:Program} {w:World} {A:Around} {E:Value->Shared->Prop} {s:Shared} {I a:Addr} {i n ep:Nat} {o:Obj} {es:Array (Int × Value)} {t:SetTable}
theorem SetIt.typeIs {f:Value} (h:SetIt s.heap I f i a n ep):s.TypeIs (.ref I) "set_iterator":=let ⟨o,e,c,_⟩:=h;⟨o,e,c⟩
theorem nx_item {j nx:Nat} {x:Value} {Q:Option Value->Shared->Prop} (hit:SetIt s.heap I (.int j 0) i a n ep) (ho:s.heap.get? a=some o) (hd:o.data=.set es ep t) (hf:t.fits es.size=true) (hn:es.size=n)
    (hx:∀ (A':Around) (E':Value->Shared->Prop) (Q':Option (Value × Nat)->Shared->Prop),Q' (some (x,nx)) s->wpAny (model P w) A' (setNext a j i ep) Q' E' s)
    (k:∀ h',SetIt h' I (.int nx 0) (i + 1) a n ep->Heap.SameBut I s.heap h'->Q (some x) { s with heap:=h' }):wpAny (model P w) A (pyNext (.ref I)) Q E s:=by
  obtain ⟨oi,hi,hc,hdi⟩:=id hit
  unfold pyNext
  refine wpAny_bind (wpAny_attempt (wpAny_callSpecial?_slot (name:=Str.ofString "__next__") hit.typeIs SI.s_next (wpAny_call_entry SI.s_next hit.typeIs SI.e_next ?_ (SI.a_next _))))
  unfold Builtin.«set_iterator.__next__»
  refine wpAny_bind (wpAny_pure ?_)
  dsimp only
  refine wpAny_bind (wpAny_fieldsOf hi hdi ?_)
  dsimp only
  refine wpAny_bind (wpAny_setEntries_of ho hd hf ?_)
  rw [if_neg (by rw [hn];simp)]
  rw [show ((j:Int)).toNat=j from rfl,show ((i:Int)).toNat=i from rfl,show ((ep:Int)).toNat=ep from rfl]
  refine wpAny_bind (hx _ _ _ ?_)
  dsimp only
  refine wpAny_bind (wpAny_setField hi hdi (by simp) ?_)
  have g1:=Heap.get?_update_self (Obj.mapFields (·.setIfInBounds 0 (rawInt (nx:Int)))) hi (Obj.isFreed_of_fields (Obj.data_mapFields hdi _))
  have d1:=Obj.data_mapFields hdi (·.setIfInBounds 0 (rawInt (nx:Int)))
  refine wpAny_bind (wpAny_setField g1 d1 (by simp) ?_)
  have g2:=Heap.get?_update_self (Obj.mapFields (·.setIfInBounds 1 (rawInt ((i:Int) + 1)))) g1 (Obj.isFreed_of_fields (Obj.data_mapFields d1 _))
  have d2:=Obj.data_mapFields d1 (·.setIfInBounds 1 (rawInt ((i:Int) + 1)))
  refine wpAny_pure ⟨x,rfl,wpAny_pure (k _ ⟨_,g2,(Obj.cls_mapFields ..).trans ((Obj.cls_mapFields ..).trans hc),?_⟩ ((Heap.SameBut.update ..).trans (Heap.SameBut.update ..)))⟩
  rw [d2]
  simp [rawInt]
theorem nx_done {j:Nat} {Q:Option Value->Shared->Prop} (hh:A.handled=none) (hit:SetIt s.heap I (.int j 0) i a n ep) (ho:s.heap.get? a=some o) (hd:o.data=.set es ep t) (hf:t.fits es.size=true) (hn:es.size=n)
    (hx:∀ (A':Around) (E':Value->Shared->Prop) (Q':Option (Value × Nat)->Shared->Prop),Q' none s->wpAny (model P w) A' (setNext a j i ep) Q' E' s)
    (k:∀ h',Heap.ExtBut I s.heap h'->Q none { s with heap:=h' }):wpAny (model P w) A (pyNext (.ref I)) Q E s:=by
  obtain ⟨oi,hi,hc,hdi⟩:=id hit
  unfold pyNext
  refine wpAny_bind (wpAny_attempt (wpAny_callSpecial?_slot (name:=Str.ofString "__next__") hit.typeIs SI.s_next (wpAny_call_entry SI.s_next hit.typeIs SI.e_next ?_ (SI.a_next _))))
  unfold Builtin.«set_iterator.__next__»
  refine wpAny_bind (wpAny_pure ?_)
  dsimp only
  refine wpAny_bind (wpAny_fieldsOf hi hdi ?_)
  dsimp only
  refine wpAny_bind (wpAny_setEntries_of ho hd hf ?_)
  rw [if_neg (by rw [hn];simp)]
  rw [show ((j:Int)).toNat=j from rfl,show ((i:Int)).toNat=i from rfl,show ((ep:Int)).toNat=ep from rfl]
  refine wpAny_bind (hx _ _ _ ?_)
  dsimp only
  refine wpAny_bind (wpAny_setField hi hdi (by simp) ?_)
  refine wpAny_bind ?_
  simp only [newExc,newTuple]
  refine wpAny_bind (wpAny_newObj_type ?_ (by size_fits))
  refine wpAny_bind (m:=firstArgMember _ _) (wpAny_of_eq (a:=Value.none) (by first | rfl | (simp only [firstArgMember];rfl)) ?_)
  refine wpAny_newObj_type ?_ (by size_fits)
  simp only [raiseNew]
  refine wpAny_bind (wpAny_handled ?_)
  rw [show A.in1.handled=none from hh]
  refine wpAny_bind (wpAny_pure (wpAny_throw ?_))
  refine wpAny_bind (wpAny_isInstance (T:="StopIteration") (b:=true) ⟨_,Heap.get?_push_size _ rfl,rfl⟩ isSubtype_stop ?_)
  exact wpAny_pure (k _ (((Heap.SameBut.update ..).extBut.push _).push _))
theorem dr_item {T:Addr} {pl:List Nat} {x:Value} {hs:Int} {q:Nat} {Q:Option Value->Shared->Prop} (hit:SetIt s.heap I (.ref T) i a n ep) (ht:∃ oT m,s.heap.get? T=some oT/\oT.data=.seq (pl.map fun (z:Nat)=>rawInt (z:Int)).toArray m) (ho:s.heap.get? a=some o) (hd:o.data=.set es ep t) (hf:t.fits es.size=true) (hn:es.size=n)
    (hp:pl[i]? = some q) (hx:es[q]? = some (hs,x)) (k:∀ h',SetIt h' I (.ref T) (i + 1) a n ep->Heap.SameBut I s.heap h'->Q (some x) { s with heap:=h' }):wpAny (model P w) A (pyNext (.ref I)) Q E s:=by
  obtain ⟨oi,hi,hc,hdi⟩:=id hit
  obtain ⟨oT,m,hT,hdT⟩:=ht
  unfold pyNext
  refine wpAny_bind (wpAny_attempt (wpAny_callSpecial?_slot (name:=Str.ofString "__next__") hit.typeIs SI.s_next (wpAny_call_entry SI.s_next hit.typeIs SI.e_next ?_ (SI.a_next _))))
  unfold Builtin.«set_iterator.__next__»
  refine wpAny_bind (wpAny_pure ?_)
  dsimp only
  refine wpAny_bind (wpAny_fieldsOf hi hdi ?_)
  dsimp only
  refine wpAny_bind (wpAny_setEntries_of ho hd hf ?_)
  rw [if_neg (by rw [hn];simp)]
  refine wpAny_bind ?_
  unfold seqItems?
  refine wpAny_bind (wpAny_load hT ?_)
  rw [hdT]
  refine wpAny_pure ?_
  dsimp only
  rw [show ((pl.map fun (z:Nat)=>rawInt (z:Int)).toArray)[((i:Int)).toNat]? = some (.int (q:Int) 0) from by rw [show ((i:Int)).toNat=i from rfl,List.getElem?_toArray,List.getElem?_map,hp];rfl]
  dsimp only
  rw [show ((q:Int)).toNat=q from rfl,show ((ep:Int)).toNat=ep from rfl]
  unfold setNextDrawn
  refine wpAny_bind (wpAny_bind (wpAny_setState_of ho hd hf ?_))
  dsimp only
  rw [if_neg (by simp),hx]
  refine wpAny_pure ?_
  refine wpAny_bind (wpAny_setField hi hdi (by simp) ?_)
  have g2:=Heap.get?_update_self (Obj.mapFields (·.setIfInBounds 1 (rawInt ((i:Int) + 1)))) hi (Obj.isFreed_of_fields (Obj.data_mapFields hdi _))
  have d2:=Obj.data_mapFields hdi (·.setIfInBounds 1 (rawInt ((i:Int) + 1)))
  refine wpAny_pure ⟨x,rfl,wpAny_pure (k _ ⟨_,g2,(Obj.cls_mapFields ..).trans hc,?_⟩ (Heap.SameBut.update ..))⟩
  rw [d2]
  simp [rawInt]
theorem dr_done {T:Addr} {pl:List Nat} {Q:Option Value->Shared->Prop} (hh:A.handled=none) (hit:SetIt s.heap I (.ref T) i a n ep) (ht:∃ oT m,s.heap.get? T=some oT/\oT.data=.seq (pl.map fun (z:Nat)=>rawInt (z:Int)).toArray m) (ho:s.heap.get? a=some o) (hd:o.data=.set es ep t) (hf:t.fits es.size=true) (hn:es.size=n)
    (hp:pl[i]? = none) (k:∀ h',Heap.ExtBut I s.heap h'->Q none { s with heap:=h' }):wpAny (model P w) A (pyNext (.ref I)) Q E s:=by
  obtain ⟨oi,hi,hc,hdi⟩:=id hit
  obtain ⟨oT,m,hT,hdT⟩:=ht
  unfold pyNext
  refine wpAny_bind (wpAny_attempt (wpAny_callSpecial?_slot (name:=Str.ofString "__next__") hit.typeIs SI.s_next (wpAny_call_entry SI.s_next hit.typeIs SI.e_next ?_ (SI.a_next _))))
  unfold Builtin.«set_iterator.__next__»
  refine wpAny_bind (wpAny_pure ?_)
  dsimp only
  refine wpAny_bind (wpAny_fieldsOf hi hdi ?_)
  dsimp only
  refine wpAny_bind (wpAny_setEntries_of ho hd hf ?_)
  rw [if_neg (by rw [hn];simp)]
  refine wpAny_bind ?_
  unfold seqItems?
  refine wpAny_bind (wpAny_load hT ?_)
  rw [hdT]
  refine wpAny_pure ?_
  dsimp only
  rw [show ((pl.map fun (z:Nat)=>rawInt (z:Int)).toArray)[((i:Int)).toNat]? = none from by rw [show ((i:Int)).toNat=i from rfl,List.getElem?_toArray,List.getElem?_map,hp];rfl]
  dsimp only
  refine wpAny_bind (wpAny_setField hi hdi (by simp) ?_)
  have g1:=Heap.get?_update_self (Obj.mapFields (·.setIfInBounds 0 (rawInt 0))) hi (Obj.isFreed_of_fields (Obj.data_mapFields hdi _))
  have d1:=Obj.data_mapFields hdi (·.setIfInBounds 0 (rawInt 0))
  refine wpAny_bind (wpAny_setField g1 d1 (by simp) ?_)
  refine wpAny_bind ?_
  simp only [newExc,newTuple]
  refine wpAny_bind (wpAny_newObj_type ?_ (by size_fits))
  refine wpAny_bind (m:=firstArgMember _ _) (wpAny_of_eq (a:=Value.none) (by first | rfl | (simp only [firstArgMember];rfl)) ?_)
  refine wpAny_newObj_type ?_ (by size_fits)
  simp only [raiseNew]
  refine wpAny_bind (wpAny_handled ?_)
  rw [show A.in1.handled=none from hh]
  refine wpAny_bind (wpAny_pure (wpAny_throw ?_))
  refine wpAny_bind (wpAny_isInstance (T:="StopIteration") (b:=true) ⟨_,Heap.get?_push_size _ rfl,rfl⟩ isSubtype_stop ?_)
  exact wpAny_pure (k _ ((((Heap.SameBut.update ..).trans (Heap.SameBut.update ..)).extBut.push _).push _))
end L2
namespace L2
open PySem PySem.Spec PyProof.Rows
variable {P:Program} {w:World} {A:Around} {E:Value->Shared->Prop} {s:Shared} {I a:Addr} {i n ep:Nat} {o:Obj} {es:Array (Int × Value)} {t:SetTable}
theorem sn_text {j:Nat} {Q:Option (Value × Nat)->Shared->Prop} (hb:w.params.followText "set-order"=true) (ho:s.heap.get? a=some o) (hd:o.data=.set es ep t) (hf:t.fits es.size=true)
    (k:Q (((pickOrder (w.params.setOrder a ep) es)[i]?).map fun e=>(e.2,j)) s):wpAny (model P w) A (setNext a j i ep) Q E s:=by
  unfold setNext
  refine wpAny_bind (wpAny_setState_of ho hd hf ?_)
  dsimp only
  unfold setsByText
  refine wpAny_bind (wpAny_bind (wpAny_askSetting (wpAny_pure ?_)))
  rw [if_pos (show (model P w).w.params.followText "set-order"=true from hb),if_neg (by simp)]
  unfold setWalk
  refine wpAny_bind (wpAny_bind (wpAny_setState_of ho hd hf ?_))
  dsimp only
  unfold setsByText
  refine wpAny_bind (wpAny_bind (wpAny_askSetting (wpAny_pure ?_)))
  rw [if_pos (show (model P w).w.params.followText "set-order"=true from hb)]
  exact wpAny_bind (wpAny_askSetting (wpAny_pure (wpAny_pure k)))
theorem sn_one {j:Nat} {Q:Option (Value × Nat)->Shared->Prop} (hb:w.params.followText "set-order"=false) (ho:s.heap.get? a=some o) (hd:o.data=.set es ep t) (hf:t.fits es.size=true) (hl:t.led=true) (h1:es.size<=1)
    (k:Q (match es[SetTable.below t.place j]?,t.place[SetTable.below t.place j]? with | some (_,x),some q=>some (x,q + 1) | _,_=>none) s):wpAny (model P w) A (setNext a j i ep) Q E s:=by
  unfold setNext
  refine wpAny_bind (wpAny_setState_of ho hd hf ?_)
  dsimp only
  unfold setsByText
  refine wpAny_bind (wpAny_bind (wpAny_askSetting (wpAny_pure ?_)))
  rw [if_neg (show ¬ (model P w).w.params.followText "set-order"=true from by rw [show (model P w).w.params.followText "set-order"=false from hb];decide)]
  have hdr:(!t.plain && decide (es.size > 1))=false:=by rw [decide_eq_false (by lia),Bool.and_false]
  show wpAny _ _ (if (!t.plain && decide (es.size > 1))=true then _ else _) _ _ _
  rw [if_neg (by rw [hdr];decide)]
  show wpAny _ _ ((if (!t.led && !es.isEmpty)=true then _ else pure ()) >>= _) _ _ _
  rw [if_neg (by rw [hl];simp)]
  exact wpAny_bind (wpAny_pure (wpAny_pure k))
namespace SI
theorem e_it2:entryFor table "set_iterator.__iter__"=some Builtin.«dict_keyiterator.__iter__»:=entryFor_alias (id':="dict_keyiterator.__iter__") (by kernel_rfl) rfl (by decide +kernel) (by kernel_rfl)
theorem s_it2:Slot "set_iterator" "__iter__" "set_iterator.__iter__":=by
  refine .of (owner:="set_iterator") (n:="__iter__") ?_ (by decide +kernel) (by decide +kernel) (by decide +kernel) ?_ ?_
  . rw [typeLookup_type,builtinLookup_eq_fast];kernel_rfl
  . first | exact .inl (by decide +kernel) | exact .inr (by decide +kernel)
  . rw [isSubtype_type];kernel_rfl
theorem a_it2 (a:Value):argsOk "set_iterator.__iter__" ⟨[a],[]⟩:=by
  unfold argsOk
  rw [signature?_of (id:="set_iterator.__iter__") (n:=['_','_','r','e','t','i','_','_']) (o:=['r','o','t','a','r','e','t','i','_','t','e','s']) (by kernel_rfl) ow]
  kernel_rfl
end SI
theorem it_self {f:Value} {Q:Value->Shared->Prop} (hit:SetIt s.heap I f i a n ep) (k:Q (.ref I) s):wpAny (model P w) A (pyIter (.ref I)) Q E s:=by
  refine wpAny_pyIter_slot hit.typeIs SI.s_it2 (wpAny_call_entry SI.s_it2 hit.typeIs SI.e_it2 ?_ (SI.a_it2 _))
  show wpAny _ _ (ret (.ref I)) _ _ s
  exact wpAny_pure ⟨_,rfl,"set_iterator",_,hit.typeIs,SI.s_next.lookup,k⟩
theorem SetIt.at {h h':Heap} {f:Value} (x:SetIt h I f i a n ep) (e:∀ o,h.get? I=some o->h'.get? I=some o):SetIt h' I f i a n ep:=let ⟨o,g,r⟩:=x;⟨o,e o g,r⟩
noncomputable abbrev GEq:Array GenState->Array GenState->Prop:=fun a b=>b=a
theorem moved_same {h':Heap} (sb:Heap.SameBut I s.heap h'):Moved [I] GEq s { s with heap:=h' }:=⟨fun b o hb e=>by rw [sb.2 b (fun z=>hb (by simp [z]))];exact e,rfl,rfl,rfl,Nat.le_refl _⟩
theorem moved_ext {h':Heap} (sb:Heap.ExtBut I s.heap h'):Moved [I] GEq s { s with heap:=h' }:=⟨fun b o hb e=>sb b o (fun z=>hb (by simp [z])) e,rfl,rfl,rfl,Nat.le_refl _⟩
theorem walk_text (hh:A.handled=none) (hb:w.params.followText "set-order"=true) (hne:a≠I) (hd:o.data=.set es ep t) (hf:t.fits es.size=true) (hn:es.size=n) :
    WalksS P w A I [I,a] [I] GEq n (fun i v=>((pickOrder (w.params.setOrder a ep) es).toList.map (·.2))[i]? = some v) (fun i s=>SetIt s.heap I (.int (0:Nat) 0) i a n ep/\s.heap.get? a=some o) where
  sub:=fun b hb=>by simp at hb;simp [hb]
  grefl:=fun _=>rfl
  gtrans:=fun _ _ _ h1 h2=>h2.trans h1
  frame:=fun i s h' tk st _ hk=>⟨st.1.at fun o e=>hk I (by simp) o e,hk a (by simp) _ st.2⟩
  item:=fun i s Q E hi st k=>by
    have hz:(pickOrder (w.params.setOrder a ep) es).size=n:=by rw [<- Array.length_toList,(pick_perm _ es).length_eq,Array.length_toList,hn]
    obtain ⟨x,hx⟩:∃ x,(pickOrder (w.params.setOrder a ep) es)[i]? = some x:=⟨_,Array.getElem?_eq_getElem (by lia)⟩
    refine nx_item (x:=x.2) (nx:=0) st.1 st.2 hd hf hn (fun A' E' Q' q=>sn_text hb st.2 hd hf (by rw [hx];exact q)) fun h' hit sb=>k x.2 _ (by rw [List.getElem?_map,Array.getElem?_toList,hx];rfl) ⟨hit,by rw [<- st.2];exact sb.2 a hne⟩ (moved_same sb)
  done:=fun s Q E st k=>by
    have hz:(pickOrder (w.params.setOrder a ep) es).size=n:=by rw [<- Array.length_toList,(pick_perm _ es).length_eq,Array.length_toList,hn]
    exact nx_done hh st.1 st.2 hd hf hn (fun A' E' Q' q=>sn_text hb st.2 hd hf (by rw [Array.getElem?_eq_none (by lia)];exact q)) fun h' sb=>k _ (moved_ext sb)
  self:=fun i s Q E st q=>it_self st.1 q
theorem walk_one (hh:A.handled=none) (hb:w.params.followText "set-order"=false) (hne:a≠I) (hd:o.data=.set es ep t) (hf:t.fits es.size=true) (hl:t.led=true) (h1:es.size<=1) (hn:es.size=n) :
    WalksS P w A I [I,a] [I] GEq n (fun i v=>(es.toList.map (·.2))[i]? = some v) (fun i s=>∃ j:Nat,SetIt s.heap I (.int j 0) i a n ep/\s.heap.get? a=some o/\(i=0->j=0)/\(i=1->∃ q,t.place=#[q]/\j=q + 1)) where
  sub:=fun b hb=>by simp at hb;simp [hb]
  grefl:=fun _=>rfl
  gtrans:=fun _ _ _ h1 h2=>h2.trans h1
  frame:=fun i s h' tk ⟨j,st,st2,r⟩ _ hk=>⟨j,st.at fun o e=>hk I (by simp) o e,hk a (by simp) _ st2,r⟩
  item := fun i s Q E hi hq0 k=>by
    obtain ⟨j,st,st2,r0,r1⟩:=hq0
    obtain rfl:i=0:=by lia
    obtain rfl:=r0 rfl
    have hpz:t.place.size=1:=by
      simp only [SetTable.fits,Bool.and_eq_true,beq_iff_eq] at hf
      lia
    obtain ⟨q,hq⟩:∃ q,t.place=#[q]:=⟨t.place[0],by apply Array.ext;simp [hpz];intro i h1 h2;simp at h2;simp [h2]⟩
    obtain ⟨x,hx⟩:∃ x,es[0]? = some x:=⟨_,Array.getElem?_eq_getElem (by lia)⟩
    refine nx_item (x:=x.2) (nx:=q + 1) st st2 hd hf hn (fun A' E' Q' z=>sn_one hb st2 hd hf hl h1 (by rw [hq,below_one0,hx];exact z)) fun h' hit sb=>k x.2 _ (by rw [List.getElem?_map,Array.getElem?_toList,hx];rfl) ⟨q + 1,hit,by rw [<- st2];exact sb.2 a hne,fun z=>absurd z (by decide),fun _=>⟨q,hq,rfl⟩⟩ (moved_same sb)
  done := fun s Q E hq0 k=>by
    obtain ⟨j,st,st2,r0,r1⟩:=hq0
    refine nx_done hh st st2 hd hf hn (fun A' E' Q' z=>sn_one hb st2 hd hf hl h1 ?_) fun h' sb=>k _ (moved_ext sb)
    rcases Nat.eq_zero_or_pos n with e | e
    . rw [Array.getElem?_eq_none (by lia)];exact z
    . obtain ⟨q,hq,rfl⟩:=r1 (by lia)
      rw [hq,below_one1,Array.getElem?_eq_none (by lia)];exact z
  self:=fun i s Q E ⟨j,st,_⟩ q=>it_self st q
theorem walk_drawn {T:Addr} {pl:List Nat} {oT:Obj} {m:Nat} (hh:A.handled=none) (hne:a≠I) (hnT:T≠I) (hT:oT.data=.seq (pl.map fun (z:Nat)=>rawInt (z:Int)).toArray m) (hp:pl.Perm (List.range n)) (hd:o.data=.set es ep t) (hf:t.fits es.size=true) (hn:es.size=n) :
    WalksS P w A I [I,a,T] [I] GEq n (fun i v=>(pl.map fun q=>(es.getD q (0,.none)).2)[i]? = some v) (fun i s=>SetIt s.heap I (.ref T) i a n ep/\s.heap.get? a=some o/\s.heap.get? T=some oT) where
  sub:=fun b hb=>by simp at hb;simp [hb]
  grefl:=fun _=>rfl
  gtrans:=fun _ _ _ h1 h2=>h2.trans h1
  frame:=fun i s h' tk st _ hk=>⟨st.1.at fun o e=>hk I (by simp) o e,hk a (by simp) _ st.2.1,hk T (by simp) _ st.2.2⟩
  item:=fun i s Q E hi st k=>by
    have hl:pl.length=n:=by rw [hp.length_eq,List.length_range]
    obtain ⟨q,hq⟩:∃ q,pl[i]? = some q:=⟨_,List.getElem?_eq_getElem (by lia)⟩
    have hqn:q < es.size:=by rw [hn];exact List.mem_range.mp (hp.mem_iff.mp (List.mem_of_getElem? hq))
    refine dr_item (q:=q) (hs:=(es[q]).1) (x:=(es[q]).2) st.1 ⟨oT,m,st.2.2,hT⟩ st.2.1 hd hf hn hq (by rw [Array.getElem?_eq_getElem hqn]) fun h' hit sb=>k _ _ (by rw [List.getElem?_map,hq];simp [Array.getD,hqn]) ⟨hit,by rw [<- st.2.1];exact sb.2 a hne,by rw [<- st.2.2];exact sb.2 T hnT⟩ (moved_same sb)
  done:=fun s Q E st k=>by
    have hl:pl.length=n:=by rw [hp.length_eq,List.length_range]
    exact dr_done hh st.1 ⟨oT,m,st.2.2,hT⟩ st.2.1 hd hf hn (List.getElem?_eq_none (by lia)) fun h' sb=>k _ (moved_ext sb)
  self:=fun i s Q E st q=>it_self st.1 q
end L2
namespace L2
open PySem PySem.Spec PyProof.Rows
variable {P:Program} {w:World} {A:Around} {E:Value->Shared->Prop} {s:Shared} {I a:Addr} {i n ep:Nat} {o:Obj} {es:Array (Int × Value)} {t:SetTable} {ks:List Str}
noncomputable def ItMade (P:Program) (w:World) (s:Shared) (a:Addr) (vs:List Value) (I:Addr) (s':Shared):Prop :=
  ∃ (fp:List Addr) (St:Nat->Shared->Prop) (l:List Value),(∀ A:Around,A.handled=none->WalksS P w A I fp [I] GEq l.length (fun i v=>l[i]? = some v) St)/\St 0 s'/\l.Perm vs/\(∀ b o,s.heap.get? b=some o->s'.heap.get? b=some o)/\s'.gens=s.gens/\s'.os=s.os/\s'.toks=s.toks/\(∀ b∈fp,b=a\/s.heap.objs.size<=b)/\(∀ b∈fp,b < s'.heap.objs.size)/\s.heap.objs.size<=I/\s.heap.objs.size<=s'.heap.objs.size/\s'.TypeIs (.ref I) "set_iterator"
noncomputable abbrev setItO (f:Value) (a:Addr) (n ep:Nat):Obj:={ cls:=.type "set_iterator",data:=.fields #[f,rawInt 0,.ref a,rawInt n,rawInt ep] }
theorem range_map (es:Array (Int × Value)):(List.range es.size).map (fun q=>(es.getD q (0,.none)).2)=es.toList.map (·.2):=by
  apply List.ext_getElem
  . simp
  . intro i h1 h2
    simp at h1
    simp [Array.getD,h1]
theorem made_drawn {d:Drawn} {pl:List Nat} (ho:s.heap.get? a=some o) (hd:o.data=.set es ep t) (hf:t.fits es.size=true) (hp:pl.Perm (List.range es.size)) :
    ItMade P w s a (es.toList.map (·.2)) (s.heap.objs.size + 1) { s with heap:=(s.heap.push { cls:=.type "tuple",data:=.seq (pl.map fun (z:Nat)=>rawInt (z:Int)).toArray }).push (setItO (.ref s.heap.objs.size) a es.size ep),drawn:=d }:=by
  have hls:a < s.heap.objs.size:=Heap.lt_size ho
  have hsz:(s.heap.push { cls:=.type "tuple",data:=.seq (pl.map fun (z:Nat)=>rawInt (z:Int)).toArray }).objs.size=s.heap.objs.size + 1:=Heap.size_push ..
  have hl:(pl.map fun q=>(es.getD q (0,.none)).2).length=es.size:=by rw [List.length_map,hp.length_eq,List.length_range]
  refine ⟨[s.heap.objs.size + 1,a,s.heap.objs.size],fun i s'=>SetIt s'.heap (s.heap.objs.size + 1) (.ref s.heap.objs.size) i a es.size ep/\s'.heap.get? a=some o/\s'.heap.get? s.heap.objs.size=some { cls:=.type "tuple",data:=.seq (pl.map fun (z:Nat)=>rawInt (z:Int)).toArray },pl.map fun q=>(es.getD q (0,.none)).2,fun A hA=>?_,⟨?_,?_,?_⟩,?_,?_,rfl,rfl,rfl,?_,?_,Nat.le_succ _,?_,?_⟩
  . rw [hl]
    exact walk_drawn hA (Nat.ne_of_lt (Nat.lt_succ_of_lt hls)) (Nat.ne_of_lt (Nat.lt_succ_self _)) rfl hp hd hf rfl
  . rw [<- hsz];exact ⟨_,Heap.get?_push_size _ rfl,rfl,rfl⟩
  . exact Heap.get?_push_of_some _ (Heap.get?_push_of_some _ ho)
  . exact Heap.get?_push_of_some _ (Heap.get?_push_size _ rfl)
  . exact (hp.map _).trans (by rw [range_map])
  . exact fun b o e=>Heap.get?_push_of_some _ (Heap.get?_push_of_some _ e)
  . intro b hb
    simp only [List.mem_cons,List.not_mem_nil,or_false] at hb
    rcases hb with rfl | rfl | rfl
    . exact .inr (Nat.le_succ _)
    . exact .inl rfl
    . exact .inr (Nat.le_refl _)
  . intro b hb
    simp only [List.mem_cons,List.not_mem_nil,or_false] at hb
    rw [Heap.size_push,hsz]
    rcases hb with rfl | rfl | rfl
    . exact Nat.lt_succ_self _
    . exact Nat.lt_succ_of_lt (Nat.lt_succ_of_lt hls)
    . exact Nat.lt_succ_of_lt (Nat.lt_succ_self _)
  . rw [Heap.size_push,hsz];exact Nat.le_succ_of_le (Nat.le_succ _)
  . rw [<- hsz];exact ⟨_,Heap.get?_push_size _ rfl,rfl⟩
theorem made_num (ho:s.heap.get? a=some o) (hd:o.data=.set es ep t) (hf:t.fits es.size=true) (h1:w.params.followText "set-order"=true\/t.led=true) (h2:es.size=0\/t.plain=false) (hc:¬ (!w.params.followText "set-order" && (!t.plain && decide (es.size > 1)))=true) :
    ItMade P w s a (es.toList.map (·.2)) s.heap.objs.size { s with heap:=s.heap.push (setItO (rawInt 0) a es.size ep) }:=by
  have hls:a < s.heap.objs.size:=Heap.lt_size ho
  have hfp:∀ b∈[s.heap.objs.size,a],b=a\/s.heap.objs.size<=b:=fun b hb=>by
    simp only [List.mem_cons,List.not_mem_nil,or_false] at hb
    rcases hb with rfl | rfl
    . exact .inr (Nat.le_refl _)
    . exact .inl rfl
  have hfl:∀ b∈[s.heap.objs.size,a],b < (s.heap.push (setItO (rawInt 0) a es.size ep)).objs.size:=fun b hb=>by
    rw [Heap.size_push]
    simp only [List.mem_cons,List.not_mem_nil,or_false] at hb
    rcases hb with rfl | rfl
    . exact Nat.lt_succ_self _
    . exact Nat.lt_succ_of_lt hls
  cases hb:w.params.followText "set-order" with
  | true =>
    have hl:((pickOrder (w.params.setOrder a ep) es).toList.map (·.2)).length=es.size:=by rw [List.length_map,(pick_perm _ es).length_eq,Array.length_toList]
    refine ⟨[s.heap.objs.size,a],fun i s'=>SetIt s'.heap s.heap.objs.size (.int (0:Nat) 0) i a es.size ep/\s'.heap.get? a=some o,(pickOrder (w.params.setOrder a ep) es).toList.map (·.2),fun A hA=>?_,⟨⟨_,Heap.get?_push_size _ rfl,rfl,rfl⟩,Heap.get?_push_of_some _ ho⟩,(pick_perm _ es).map _,fun b o e=>Heap.get?_push_of_some _ e,rfl,rfl,rfl,hfp,hfl,Nat.le_refl _,by rw [Heap.size_push];exact Nat.le_succ _,⟨_,Heap.get?_push_size _ rfl,rfl⟩⟩
    rw [hl]
    exact walk_text hA hb (Nat.ne_of_lt hls) hd hf rfl
  | false =>
    have h1':t.led=true:=by
      rcases h1 with h | h
      . rw [hb] at h;cases h
      . exact h
    have hs1:es.size<=1:=by
      rcases h2 with h | h
      . lia
      . rw [hb,h] at hc
        simp at hc
        lia
    refine ⟨[s.heap.objs.size,a],fun i s'=>∃ j:Nat,SetIt s'.heap s.heap.objs.size (.int j 0) i a es.size ep/\s'.heap.get? a=some o/\(i=0->j=0)/\(i=1->∃ q,t.place=#[q]/\j=q + 1),es.toList.map (·.2),fun A hA=>?_,⟨0,⟨_,Heap.get?_push_size _ rfl,rfl,rfl⟩,Heap.get?_push_of_some _ ho,fun _=>rfl,fun z=>absurd z (by decide)⟩,.refl _,fun b o e=>Heap.get?_push_of_some _ e,rfl,rfl,rfl,hfp,hfl,Nat.le_refl _,by rw [Heap.size_push];exact Nat.le_succ _,⟨_,Heap.get?_push_size _ rfl,rfl⟩⟩
    rw [List.length_map,Array.length_toList]
    exact walk_one hA hb (Nat.ne_of_lt hls) hd hf h1' hs1 rfl
theorem iter_set {Q:Value->Shared->Prop} (ho:s.heap.get? a=some o) (hx:o.ExactSet) (hd:o.data=.set es ep t) (hf:t.fits es.size=true) (hz:es.size < scanBound) (h1:w.params.followText "set-order"=true\/t.led=true) (h2:es.size=0\/t.plain=false)
    (k:∀ I s',ItMade P w s a (es.toList.map (·.2)) I s'->Q (.ref I) s'):wpAny (model P w) A (pyIter (.ref a)) Q E s:=by
  have hT:s.TypeIs (.ref a) "set":=⟨o,ho,hx.1⟩
  refine wpAny_pyIter_slot hT F.slot_set_iter (wpAny_call_entry F.slot_set_iter hT SI.e_iter ?_ (F.args_set_iter_1 _))
  unfold Builtin.«frozenset.__iter__»
  refine wpAny_bind (m:=Builtin.Frozenset.slot0 "__iter__" _) (wpAny_pure ?_)
  unfold Builtin.Frozenset.sizeOf
  refine wpAny_bind (wpAny_bind (wpAny_setEntries_of ho hd hf (wpAny_pure ?_)))
  refine wpAny_bind ?_
  unfold setDrawn
  refine wpAny_bind (wpAny_setState_of ho hd hf ?_)
  dsimp only
  unfold setsByText
  refine wpAny_bind (wpAny_bind (wpAny_askSetting (wpAny_pure (wpAny_pure ?_))))
  show wpAny _ _ (if (!w.params.followText "set-order" && (!t.plain && decide (es.size > 1)))=true then _ else _) _ _ _
  by_cases hc:(!w.params.followText "set-order" && (!t.plain && decide (es.size > 1)))=true
  . rw [if_pos hc]
    refine wpAny_bind (any_draw _ _ _ _ (by simp) fun pl d hp=>?_)
    unfold newTuple
    refine wpAny_bind (wpAny_newObj_type ?_ ?_)
    . refine wpAny_bind (wpAny_setEpoch_of (o:=o) (Heap.get?_push_of_some _ ho) hd hf ?_)
      unfold newFields
      refine wpAny_bind (wpAny_newObj_type ?_ (by size_fits))
      refine wpAny_pure ⟨_,rfl,"set_iterator",_,⟨_,Heap.get?_push_size _ rfl,rfl⟩,SI.s_next.lookup,k _ _ ?_⟩
      have:=made_drawn (P:=P) (w:=w) (d:=d) ho hd hf hp
      have hsz:(s.heap.push { cls:=.type "tuple",data:=.seq (pl.map fun (z:Nat)=>rawInt (z:Int)).toArray }).objs.size=s.heap.objs.size + 1:=Heap.size_push ..
      rw [<- hsz] at this
      exact this
    . show (pl.map fun (i:Nat)=>rawInt (i:Int)).toArray.size<=sizeLine
      rw [List.size_toArray,List.length_map,hp.length_eq,List.length_range]
      exact fits_of_scanBound hz
  . rw [if_neg hc]
    refine wpAny_bind (wpAny_pure (wpAny_bind (wpAny_setEpoch_of ho hd hf ?_)))
    unfold newFields
    refine wpAny_bind (wpAny_newObj_type ?_ (by size_fits))
    exact wpAny_pure ⟨_,rfl,"set_iterator",_,⟨_,Heap.get?_push_size _ rfl,rfl⟩,SI.s_next.lookup,k _ _ (made_num ho hd hf h1 h2 hc)⟩
end L2
namespace L2
open PySem PySem.Spec PyProof.Rows
variable {P:Program} {w:World} {A:Around} {E:Value->Shared->Prop} {s:Shared} {I a:Addr} {ks:List Str}
theorem WSet.pushed {h:Heap} {ob:Obj} (hS:WSet P w h a ks):WSet P w (h.push ob) a ks:=by
  obtain ⟨o,es,ep,t,ho,r⟩:=hS
  exact ⟨o,es,ep,t,Heap.get?_push_of_some _ ho,r⟩
theorem items_eq {l:List Value} {acc:Array Value} (h:ItemsOf (fun i v=>l[i]? = some v) acc l.length):acc.toList=l:=by
  apply List.ext_getElem?
  intro i
  rw [Array.getElem?_toList]
  rcases Nat.lt_or_ge i l.length with g | g
  . have:=h.2 i (acc[i]'(by rw [h.1];exact g)) (by rw [Array.getElem?_eq_getElem])
    rw [this,Array.getElem?_eq_getElem]
  . rw [List.getElem?_eq_none g,Array.getElem?_eq_none (by rw [h.1];exact g)]
theorem perm_vals {l:List (Str × Tok)} {vs:List Value} (p:vs.Perm (strValues l)):∃ l',vs=strValues l'/\l'.Perm l:=by
  have e:∀ us:List Value,(us.map fun v=>((0:Int),v)).map (·.2)=us:=fun us=>by rw [List.map_map];exact List.map_id _
  obtain ⟨l',h1,h2⟩:=vals_perm (es':=vs.map fun v=>((0:Int),v)) (es:=(strValues l).map fun v=>((0:Int),v)) (l:=l) (e _) (p.map _)
  exact ⟨l',(e vs).symm.trans h1,h2⟩
theorem collect_set {Q:List Value->Shared->Prop} (hh:A.handled=none) (hS:WSet P w s.heap a ks)
    (k:∀ s' (l:List (Str × Tok)),(l.map (·.1)).Perm ks->(∀ b o,s.heap.get? b=some o->s'.heap.get? b=some o)->s'.gens=s.gens->s'.os=s.os->s.toks<=s'.toks->s.heap.objs.size<=s'.heap.objs.size->Q (strValues l) s'):wpAny (model P w) A (collect (.ref a)) Q E s:=by
  have hS1:WSet P w (s.heap.push { cls:=.type "list",data:=.seq ([]:List Value).toArray }) a ks:=hS.pushed
  obtain ⟨o,es,ep,t,ho,hx,hd,he,⟨l,hl,hp⟩,hz,hf,h1,h2⟩:=hS1
  have hls:a < s.heap.objs.size:=let ⟨_,_,_,_,e,_⟩:=hS;Heap.lt_size e
  have hT:∀ s1:Shared,s1.heap.get? a=some o->s1.TypeIs (.ref a) "set":=fun s1 e=>⟨o,e,hx.1⟩
  unfold collect
  refine wpAny_bind (wpAny_runValue (codeAny_builtin F.entry_proto_collect ?_))
  rw [Around.under_plainId F.plain_proto_collect _]
  show wpAny _ A.in1 (newList [] >>= fun z=>again (.builtin "list.__iadd__" ⟨[z,.ref a],[]⟩)) _ _ s
  refine wpAny_bind (wpAny_newObj_type ?_)
  refine wpAny_pure ⟨plainId_quiet F.plain_list_iadd _,codeAny_builtin F.entry_list_iadd ?_⟩
  rw [Around.under_plainId F.plain_list_iadd _]
  show wpAny _ A.in1 (Builtin.List.listExtendWith (.ref s.heap.objs.size) (.ref a) (.ref s.heap.objs.size)) _ _ _
  unfold Builtin.List.listExtendWith
  refine wpAny_bind (wpAny_typeOf (hT _ ho) ?_)
  have z1:Builtin.List.listSameRef (.ref s.heap.objs.size) (.ref a)=false:=by simp [Builtin.List.listSameRef,Nat.ne_of_gt hls]
  have z2:(Value.type "set" == Value.type "list")=false:=by decide
  have z3:(Value.type "set" == Value.type "tuple")=false:=by decide
  simp only [z1,z2,z3,Bool.or_false,Bool.false_eq_true,if_false]
  refine wpAny_bind (iter_set ho hx hd hf hz h1 h2 fun I s' hm=>?_)
  obtain ⟨fp,St,vs,W,st,pv,hk,hg,hos,htk,hfa,hfl,hI,hsz,hIt⟩:=hm
  have ho':=hk _ _ ho
  refine wpAny_bind (wpAny_holding ?_)
  unfold Builtin.List.listLengthHint
  refine wpAny_bind (wpAny_specialOf (hT _ ho') F.slot_set_len.lookup ?_)
  wp_delta
  refine wpAny_bind (wpAny_isInstance (b:=true) (hT _ ho') (by rw [isSubtype_type];kernel_rfl) ?_)
  show wpAny _ A.in1 (typeOf (Value.ref a) >>= _) _ _ _
  refine wpAny_bind (wpAny_typeOf (hT _ ho') ?_)
  refine wpAny_pure ?_
  rw [if_pos (by decide)]
  refine wpAny_bind (wpAny_rule ?_)
  generalize hH:s.heap.push { cls:=.type "list",data:=.seq ([]:List Value).toArray }=H at *
  have hHs:H.objs.size=s.heap.objs.size + 1:=by rw [<- hH,Heap.size_push]
  have hl0:s'.heap.get? s.heap.objs.size=some { cls:=.type "list",data:=.seq ([]:List Value).toArray }:=hk _ _ (hH ▸ Heap.get?_push_size _ rfl)
  have hnf:s.heap.objs.size ∉ fp:=fun m=>by
    rcases hfa _ m with e | e
    . exact Nat.ne_of_gt hls e
    . exact absurd e (by show ¬ H.objs.size<=_;rw [hHs];exact Nat.not_succ_le_self _)
  have hvl:vs.length<=sizeLine:=by
    rw [pv.length_eq,List.length_map,Array.length_toList]
    exact fits_of_scanBound hz
  refine wpAny_bind ?_
  show wpAny _ A.in1 (updateSeq s.heap.objs.size (fun z=>z.push .none) >>= fun _=>updateSeq s.heap.objs.size (fun z=>z.pop)) _ _ _
  refine wpAny_bind (wpAny_updateSeq hl0 rfl ?_)
  have u1:=Heap.get?_update_self (Obj.mapSeq (fun z=>z.push Value.none)) hl0 rfl
  refine wpAny_updateSeq u1 rfl ?_
  have u2:=Heap.get?_update_self (Obj.mapSeq (fun z=>z.pop)) u1 rfl
  have oth:∀ b o,b≠s.heap.objs.size->s'.heap.get? b=some o->((s'.heap.update s.heap.objs.size (Obj.mapSeq (fun z=>z.push Value.none))).update s.heap.objs.size (Obj.mapSeq (fun z=>z.pop))).get? b=some o:=fun b o hb e=>by
    rw [Heap.get?_update_other _ _ (Ne.symm hb),Heap.get?_update_other _ _ (Ne.symm hb)]
    exact e
  have st2:=(W A.in1 hh).frame 0 s' ((s'.heap.update s.heap.objs.size (Obj.mapSeq (fun z=>z.push Value.none))).update s.heap.objs.size (Obj.mapSeq (fun z=>z.pop))) s'.toks st (Nat.le_refl _) fun b hb o e=>oth b o (fun z=>hnf (z ▸ hb)) e
  refine wpAny_pure ⟨plainId_quiet F.plain_extend_loop _,codeAny_extend_loopS (W A.in1 hh) hvl _ hnf _ vs.length 0 _ _ _ rfl (Nat.zero_le _) st2 u2 (ItemsOf.nil _) fun s2 acc c hm hS2 hacc=>?_⟩
  show wpAny _ A (load s.heap.objs.size >>= _) _ _ s2
  refine wpAny_bind (wpAny_load hS2 ?_)
  obtain ⟨l',e1,p1⟩:=perm_vals (hl ▸ pv)
  have ea:=items_eq hacc
  refine wpAny_pure ?_
  rw [ea,e1]
  refine k s2 l' ((p1.map _).trans hp) (fun b o e=>?_) (hm.gens.trans hg) (hm.os.trans hos) (by rw [<- htk];exact hm.toks) (Nat.le_of_lt (Heap.lt_size hS2))
  have hbl:b < s.heap.objs.size:=Heap.lt_size e
  refine hm.heap b o (fun m=>?_) (oth b o (Nat.ne_of_lt hbl) (hk b o (hH ▸ Heap.get?_push_of_some _ e)))
  rcases List.mem_cons.mp m with z | z
  . exact Nat.ne_of_lt hbl z
  . have:=List.mem_singleton.mp z
    rw [this] at hbl
    exact absurd hI (by show ¬ H.objs.size<=I;rw [hHs];exact Nat.not_le_of_lt (Nat.lt_succ_of_lt hbl))
end L2
namespace L2
open PySem PySem.Spec PyProof.Rows
variable {P:Program} {w:World} {A:Around} {E:Value->Shared->Prop} {s:Shared} {I a:Addr} {ks:List Str}
theorem strsAre_vals:∀ l:List (Str × Tok),StrsAre (strValues l) (l.map (·.1))
  | []=>.nil
  | p::l=>.cons p.1 p.2 (strsAre_vals l)
theorem sorted_set {Q:Value->Shared->Prop} (hh:A.handled=none) (hS:WSet P w s.heap a ks) (h64:ks.length < 64)
    (k:∀ s' D (out:Array Value) (zs:List Str) n,s.heap.objs.size<=D->StrsAre out.toList zs->zs.Perm ks->sortedS zs=true->s'.heap.get? D=some (seqObj "list" out n)->(∀ b o,s.heap.get? b=some o->s'.heap.get? b=some o)->s'.gens=s.gens->s'.os=s.os->s.toks<=s'.toks->Q (.ref D) s') :
    wpAny (model P w) A (call (.builtin "sorted") [.ref a]) Q E s:=by
  refine Calls.call_function_entry kind_sorted plain_sorted entry_sorted (args_sorted1 _) ?_
  unfold Builtin.«sorted»
  refine wpAny_bind (m:=checkCount "sorted" 1 1 _) (wpAny_pure ?_)
  refine wpAny_bind (collect_set hh hS fun s1 l hp hk hg hos htk hsl=>?_)
  have hS1:=strsAre_vals l
  have hlen:(strValues l).length < 64:=by
    rw [strValues,List.length_map,<- List.length_map (f:=(·.1)),hp.length_eq];exact h64
  refine wpAny_bind (wpAny_newList ?_ (by exact Nat.le_trans (Nat.le_of_lt hlen) (by decide)))
  have hoL:(s1.heap.push (seqObj "list" (strValues l).toArray 0)).get? s1.heap.objs.size=some (seqObj "list" (strValues l).toArray 0):=Heap.get?_push_size _ rfl
  refine wpAny_bind (wpAny_holding (wpAny_call_entry slot_list_sort ⟨_,hoL,rfl⟩ entry_list_sort (list_sort_treeK strKind_oneLt hoL hS1.keysOf (fun v1 v2 r e=>keyKind_strs (by rw [<- e];exact hS1)) hlen fun st' a1 a2=>⟨_,rfl,?_⟩) (args_list_sort _)))
  obtain ⟨zs,b1,b2,b3⟩:=sorted_out_str hS1 a1 a2
  obtain ⟨n,hn⟩:=sortedHeap_at (out:=(arrOf st').map (·.2)) hoL
  refine wpAny_pure ⟨_,rfl,k _ s1.heap.objs.size _ zs n hsl b1 (b2.trans hp) b3 hn (fun b o e=>?_) hg hos htk⟩
  have e1:=hk b o e
  have lt:=Heap.lt_size e1
  show (sortedHeap (s1.heap.push (seqObj "list" (strValues l).toArray 0)) s1.heap.objs.size (strValues l) _).get? b=some o
  rw [sortedHeap_old (Nat.ne_of_lt lt) (by rw [size_push'];exact Nat.lt_succ_of_lt lt)]
  exact Heap.get?_push_of_some _ e1
theorem lt_le_lt {a b c:List Nat} (h:a < b) (k:¬ c < b):a < c:=by
  rcases Decidable.em (a < c) with g | g
  . exact g
  . exact absurd (List.lt_of_le_of_lt (List.not_lt.mp g) h) k
theorem rising_mem:∀ (l:List Str) (p:Str),risingS p l=true->∀ x∈l,ltCps x.cps.toList p.cps.toList=false
  | [],p,_,x,hx=>by cases hx
  | y :: l,p,h,x,hx=>by
    have h':(!ltCps y.cps.toList p.cps.toList && risingS y l)=true:=h
    rw [Bool.and_eq_true,Bool.not_eq_true'] at h'
    rcases List.mem_cons.mp hx with rfl | hx
    . exact h'.1
    . have h3:=rising_mem l y h'.2 x hx
      rw [ltCps_eq] at h3 h' ⊢
      simp only [decide_eq_false_iff_not] at h3 h' ⊢
      exact fun z=>h3 (lt_le_lt z h'.1)
theorem sorted_tail {x:Str}:∀ {l:List Str},risingS x l=true->sortedS l=true
  | [],_=>rfl
  | y :: l,h=>by
    have h':(!ltCps y.cps.toList x.cps.toList && risingS y l)=true:=h
    rw [Bool.and_eq_true] at h'
    exact h'.2
theorem sorted_uniq:∀ {a b:List Str},sortedS a=true->sortedS b=true->a.Perm b->a=b
  | [],b,_,_,p=>p.nil_eq
  | x::a,[],_,_,p=>absurd p.length_eq (by simp)
  | x :: a,y::b,ha,hb,p=>by
    have hx:∀ z∈x::a,ltCps z.cps.toList x.cps.toList=false:=fun z hz=>by
      rcases List.mem_cons.mp hz with rfl | hz
      . rw [ltCps_eq];simp [List.lt_irrefl]
      . exact rising_mem a x ha z hz
    have hy:∀ z∈y::b,ltCps z.cps.toList y.cps.toList=false:=fun z hz=>by
      rcases List.mem_cons.mp hz with rfl | hz
      . rw [ltCps_eq];simp [List.lt_irrefl]
      . exact rising_mem b y hb z hz
    have e:x=y:=by
      have h1:=hx y (p.mem_iff.mpr List.mem_cons_self)
      have h2:=hy x (p.mem_iff.mp List.mem_cons_self)
      rw [ltCps_eq,decide_eq_false_iff_not] at h1 h2
      exact Str.toL_inj (List.le_antisymm (List.not_lt.mp h1) (List.not_lt.mp h2))
    subst e
    rw [sorted_uniq (sorted_tail ha) (sorted_tail hb) ((List.perm_cons x).mp p)]
end L2
namespace L2
open PySem PySem.Spec PyProof.Rows
noncomputable def SetW (P:Program) (w:World) (a:Addr) (ks:List Str):HO:=.ext fun h=>WSet P w h a ks
theorem setW_ok {P:Program} {w:World} {H:Hp} {h:Heap} {a:Addr} {ks:List Str} (q:WSet P w h a ks):ObjOk P w H h a (SetW P w a ks) :=
  ⟨q,let ⟨o,_,_,_,e,_⟩:=q;⟨o,e⟩,fun h1 h2 ⟨o,es,ep,t,e,r⟩ k=>⟨o,es,ep,t,k o e,r⟩⟩
section
variable {X:Cx}
noncomputable def rS0 (P:Program) (w:World):List V->Hp->VK->Prop:=fun xs H Q=>xs=[]/\∀ p,H p=none->Q (.ref p) (upd H p (SetW P w p []))
theorem c_s0:CallR X (.type "set") (rS0 X.prog X.w):=by
  intro pins s σ H xs us Q I r h
  obtain ⟨rfl,q⟩:=h
  cases r
  exact make_set0 ⟨.ref s.heap.objs.size,_,I.laid (t':=s.toks) (fun _ _ e=>Heap.get?_push_of_some _ e) (Nat.le_refl _) (setW_ok (setO_w (Heap.get?_push_size _ rfl))),rfl,q _ I.fresh⟩
noncomputable def rSL (P:Program) (w:World):List V->Hp->VK->Prop:=fun xs H Q=>∃ l zs,xs=[.ref l]/\H l=some (.lst (zs.map V.str))/\zs.length + 1 < scanBound/\∀ p,H p=none->Q (.ref p) (upd H p (SetW P w p (addTs zs zs.length)))
theorem c_sL (hc:X.calm=true):CallR X (.type "set") (rSL X.prog X.w):=by
  intro pins s σ H xs us Q I r h
  obtain ⟨l,zs,rfl,hl,hz,q⟩:=h
  obtain ⟨u,rfl,ru⟩:=r.one
  cases ru
  obtain ⟨hle,its,n,rv,hlen,e⟩:=I.lstM hl
  rw [List.length_map] at hlen
  obtain ⟨tl,e1,e2⟩:=vals_strs rv
  subst e1
  have hsz:(strValues tl).toArray.size=zs.length:=by rw [List.size_toArray,<- hlen]
  refine make_setL (I.ok.hd hc) (its:=(strValues tl).toArray) (zs:=zs) ⟨_,e,rfl,n,rfl⟩ (fun i v hv=>?_) hsz.symm (by rw [hsz];exact hz) fun h' tk ht hS hk=>⟨.ref s.heap.objs.size,_,I.laid (t':=tk) (fun b o z=>hk b o (Heap.lt_size z) z) (Nat.le_refl _) (setW_ok (by rw [hsz] at hS;exact hS)),rfl,q _ I.fresh⟩
  rw [List.getElem?_toArray,strValues,List.getElem?_map] at hv
  obtain ⟨p,hp,rfl⟩:=Option.map_eq_some_iff.mp hv
  exact ⟨p.1,p.2,by rw [<- e2,List.getElem?_map,hp];rfl,rfl⟩
theorem inv_drawn {pins:List (Addr × Obj)} {σ:St} {H:Hp} {s:Shared} (d:Drawn) (I:Inv X pins σ H s):Inv X pins σ H { s with drawn:=d }:=⟨I.ok,I.os,I.bare,I.base,I.loc,I.cell,I.free,I.freeC,I.pin,I.hok,I.len⟩
theorem vals_are:∀ {vs:List Value} {zs:List Str},StrsAre vs zs->Vals (zs.map V.str) vs
  | _,_,.nil=>.nil
  | _,_,.cons y t h=>.cons ⟨t,rfl⟩ (vals_are h)
noncomputable def rSortS (P:Program) (w:World):List V->Hp->VK->Prop:=fun xs H Q=>∃ a ks,xs=[.ref a]/\H a=some (SetW P w a ks)/\ks.length < 64/\∀ D zs,H D=none->zs.Perm ks->sortedS zs=true->Q (.ref D) (upd H D (.lst (zs.map V.str)))
theorem c_sortS (hc:X.calm=true):CallR X (.builtin "sorted") (rSortS X.prog X.w):=by
  intro pins s σ H xs us Q I r h
  obtain ⟨a,ks,rfl,ha,h64,q⟩:=h
  obtain ⟨u,rfl,ru⟩:=r.one
  cases ru
  have hS:WSet X.prog X.w s.heap a ks:=(I.hok a _ ha).1
  refine sorted_set (I.ok.hd hc) hS h64 fun s' D out zs n hD hv hp hs hd hk hg hos htk=>?_
  obtain ⟨h',g',d',tk',os'⟩:=s'
  cases (show g'=s.gens from hg)
  cases (show os'=s.os from hos)
  refine ⟨.ref D,upd H D (.lst (zs.map V.str)),?_,rfl,q D zs (I.hok.fresh hD) hp hs⟩
  have I2:=I.laid (a:=D) (o:=.lst (zs.map V.str)) (h':=h') (t':=tk') hk hD ⟨by rw [List.length_map,hp.length_eq];exact Nat.le_trans (Nat.le_of_lt h64) (by decide),out.toList,n,vals_are hv,by rw [Array.toArray_toList];exact hd⟩
  exact inv_drawn d' I2
variable {o e:Expr} {es:List Expr} {apos cpos:Pos} {to:TE} {t:TA}
noncomputable def tAddS (P:Program) (w:World) (to:TE) (t:TA):TE:=fun σ H Q=>to σ H fun x H1=>∃ a ks,x=.ref a/\H1 a=some (SetW P w a ks)/\t σ H1 fun vs H2=>∃ z ks',vs=[.str z]/\H2 a=some (SetW P w a ks')/\ks'.length + 1 < scanBound/\Q .non (upd H2 a (SetW P w a (addT ks' z)))
theorem pe_addS (ho:PE X o to) (ha:PA X (e::es) t) (h1:attributeBase o "add" X.env (eval o X.env)=eval o X.env:=by rfl)
    (h2:((backTo cpos (starEach (e::es) X.env)).all (fun x=>!x.1) && (backToKw cpos (keywordEach [] X.env)).all (fun x=>x.1.isSome) && decide ((e::es).length + ([]:List Keyword).length + (if ([]:List Keyword).isEmpty then 0 else 1) < 30))=true:=by rfl)
    (h3:(apos.endLine == cpos.line)=true:=by rfl) (h4:starEach (e::es) X.env=(false,eval e X.env)::starEach es X.env:=by rfl) (h5:(backTo cpos (starEach es X.env)).any (·.1)=false:=by rfl) :
    PE X (.Call (.Attribute o "add" apos) (e::es) [] cpos) (tAddS X.prog X.w to t):=by
  intro pins s σ H Q I h
  refine wpAny_Call_method_late h1 h2 h3 rfl (thn (ho pins s σ H _ I h) fun v s1 h_q=>?_)
  obtain ⟨x,H1,I1,r1,a,ks,ex,ha1,q1⟩:=h_q
  subst ex
  cases r1
  have hS:WSet X.prog X.w s1.heap a ks:=(I1.hok a _ ha1).1
  refine ⟨"set","set.add",F.plainAttrs_set,F.slot_set_add,F.type_set_add,hS.typeIs,fun b z=>?_,?_⟩
  . cases z
    obtain ⟨ob,_,_,_,eo,hx,_⟩:=hS
    exact ⟨ob,eo,hx.2.1⟩
  . have hA:=ha cpos pins s1 σ H1 _ I1 q1
    rw [h4] at hA ⊢
    refine Calls.callWith_builtin (by show (false || (backTo cpos (starEach es X.env)).any (·.1))=false;rw [h5] <;> rfl) (Calls.evalArgs_plain (thn hA fun us s2 h_q=>?_))
    obtain ⟨vs,H2,I2,r2,z,ks',ev,ha2,hr,q2⟩:=h_q
    subst ev
    obtain ⟨u,rfl,ru⟩:=r2.one
    obtain ⟨tk,rfl⟩:=ru
    have hS2:WSet X.prog X.w s2.heap a ks':=(I2.hok a _ ha2).1
    refine call_add hS2 hr fun h' sb hS'=>⟨.non,_,?_,rfl,q2⟩
    refine I2.write (x:=a) (e:=a) (by rw [ha2];exact trivial) (.inl rfl) (fun b o hb ho=>(sb.2 b hb).trans ho) ?_ (setW_ok hS')
    obtain ⟨ob,_,_,_,eo,_⟩:=hS'
    exact ⟨ob,eo⟩
end
section
variable {K:PySem.W.Frag} {P:Program} {w:World}
noncomputable def tS (P:Program) (w:World) (ks:List Str):AO:=.oth fun _ H a=>H a=some (SetW P w a ks)
theorem HR.set {H:Hp} {A:AHp} {a:Addr} {ks:List Str} (g:HR K H A) (e:A a=some (tS P w ks)):H a=some (SetW P w a ks):=(g a _ e).2.1
theorem tS_ro {H:Hp} {a:Addr} {ks:List Str} (e:H a=some (SetW P w a ks)):RO K H a (tS P w ks):=⟨⟨_,e⟩,e,fun H1 H2 h1 _ h2=>h2.trans h1⟩
theorem HR.newSet {H:Hp} {A:AHp} {a:Addr} {ks:List Str} (g:HR K H A) (e:H a=Option.none):HR K (upd H a (SetW P w a ks)) (updA A a (tS P w ks)):=g.putO (Same.upd_new e).kp (tS_ro upd_same)
noncomputable def xS0 (P:Program) (w:World):List U->AHp->AVK->Prop:=fun us A Q=>us=[]/\∀ p,A p=none->Q (.ref p) (updA A p (tS P w []))
theorem ab_s0:AbL K (rS0 P w) (xS0 P w):=fun xs us A H Q' Q r g h k=>by
  obtain ⟨rfl,q⟩:=h
  cases r
  exact ⟨rfl,fun p hp=>k _ _ _ _ (Same.upd_new hp).kp (g.newSet hp) (.ref p) (q p (g.none hp))⟩
noncomputable def xSL (P:Program) (w:World):List U->AHp->AVK->Prop:=fun us A Q=>∃ l zs,us=[.ref l]/\A l=some (.lst (zs.map U.str))/\zs.length + 1 < scanBound/\∀ p,A p=none->Q (.ref p) (updA A p (tS P w (addTs zs zs.length)))
theorem ab_sL:AbL K (rSL P w) (xSL P w):=fun xs us A H Q' Q r g h k=>by
  obtain ⟨l,zs,rfl,hl,hz,q⟩:=h
  obtain ⟨v,rfl,rv⟩:=r.inv1
  cases rv
  obtain ⟨vs,h1,r1⟩:=g.list hl
  exact ⟨l,zs,rfl,by rw [h1,r1.strs],hz,fun p hp=>k _ _ _ _ (Same.upd_new hp).kp (g.newSet hp) (.ref p) (q p (g.none hp))⟩
noncomputable def xSortS (P:Program) (w:World):List U->AHp->AVK->Prop:=fun us A Q=>∃ a ks,us=[.ref a]/\A a=some (tS P w ks)/\ks.length < 64/\∀ D zs,A D=none->zs.Perm ks->sortedS zs=true->Q (.ref D) (updA A D (.lst (zs.map U.str)))
theorem ab_sortS:AbL K (rSortS P w) (xSortS P w):=fun xs us A H Q' Q r g h k=>by
  obtain ⟨a,ks,rfl,ha,hz,q⟩:=h
  obtain ⟨v,rfl,rv⟩:=r.inv1
  cases rv
  exact ⟨a,ks,rfl,g.set ha,hz,fun D zs hD hp hs=>k _ _ _ _ (Same.upd_new hD).kp (g.newL hD RUs.of_strs) (.ref D) (q D zs (g.none hD) hp hs)⟩
noncomputable def aAddS (P:Program) (w:World) (ao:AE) (l:AA):AE:=fun ρ A Q=>ao ρ A fun x A1=>∃ a ks,x=.ref a/\A1 a=some (tS P w ks)/\l ρ A1 fun us A2=>∃ z ks',us=[.str z]/\A2 a=some (tS P w ks')/\ks'.length + 1 < scanBound/\Q .non (updA A2 a (tS P w (addT ks' z)))
theorem ab_addS {to:TE} {ao:AE} {t:TA} {l:AA} (ho:AbE K to ao) (hl:AbA K t l):AbE K (tAddS P w to t) (aAddS P w ao l):=fun ρ A σ H Q' Q hs g wh k =>
  ho ρ A σ H _ _ hs g wh fun x A1 v1 H1 k1 g1 r1 hq0=>by
    obtain ⟨a,ks,e1,e2,q⟩:=hq0
    subst e1
    cases r1
    refine ⟨a,ks,rfl,g1.set e2,hl ρ A1 σ H1 _ _ (hs.same k1) g1 q fun us A2 vs H2 k2 g2 r2 h_q=>?_⟩
    obtain ⟨z,ks',e3,e4,hz,q2⟩:=h_q
    subst e3
    obtain ⟨v,rfl,rv⟩:=r2.inv1
    cases rv
    have h4:=g2.set e4
    have kp:Kp K H2 (upd H2 a (SetW P w a (addT ks' z))):=Kp.ext h4
    exact ⟨z,ks',rfl,h4,hz,k _ _ _ _ (k1.trans (k2.trans kp)) (g2.putO kp (tS_ro upd_same)) .non q2⟩
variable {A:AHp} {Q:AVK}
theorem q_s0:xS0 P w [] A Q=∀ p,A p=none->Q (.ref p) (updA A p (tS P w [])):=propext ⟨fun h=>h.2,fun h=>⟨rfl,h⟩⟩
theorem q_sL {l:Addr}:xSL P w [.ref l] A Q=∃ zs,A l=some (.lst (zs.map U.str))/\zs.length + 1 < scanBound/\∀ p,A p=none->Q (.ref p) (updA A p (tS P w (addTs zs zs.length))):=propext ⟨fun hq0=>by obtain ⟨_,zs,e,h⟩:=hq0;cases e;exact ⟨zs,h⟩,fun ⟨zs,h⟩=>⟨l,zs,rfl,h⟩⟩
theorem q_sortS {a:Addr}:xSortS P w [.ref a] A Q=∃ ks,A a=some (tS P w ks)/\ks.length < 64/\∀ D zs,A D=none->zs.Perm ks->sortedS zs=true->Q (.ref D) (updA A D (.lst (zs.map U.str))):=propext ⟨fun hq0=>by obtain ⟨_,ks,e,h⟩:=hq0;cases e;exact ⟨ks,h⟩,fun ⟨ks,h⟩=>⟨a,ks,rfl,h⟩⟩
theorem q_addS {ao:AE} {l:AA} {ρ:ASt}:aAddS P w ao l ρ A Q=ao ρ A fun x A1=>∃ a ks,x=.ref a/\A1 a=some (tS P w ks)/\l ρ A1 fun us A2=>∃ z ks',us=[.str z]/\A2 a=some (tS P w ks')/\ks'.length + 1 < scanBound/\Q .non (updA A2 a (tS P w (addT ks' z))):=rfl
end
end L2
namespace L2
open PySem PySem.Spec PyProof.Rows
noncomputable def rIsL:List V->Hp->VK->Prop:=fun xs H Q=>∃ a ys,xs=[.ref a,.ty "list"]/\H a=some (.lst ys)/\Q (.bl true) H
theorem c_isL {X:Cx}:CallR X (.builtin "isinstance") rIsL:=by
  intro pins s σ H xs us Q I r h
  obtain ⟨a,ys,rfl,hH,q⟩:=h
  obtain ⟨u,v,rfl,ru,rv⟩:=r.two
  cases ru
  cases (show v=Value.type "list" from rv)
  obtain ⟨z,its,n,rr,hl,e⟩:=I.lstM hH
  exact PySem.W.kia_one PySem.W.kitx_list I.kIn ⟨_,e,rfl⟩ (b:=true) (by unfold PySem.W.kitOne;rw [if_pos (by decide)]) (fun z=>nomatch z) fun tk=>⟨.bl true,H,I.tok _,rfl,q⟩
section
variable {K:PySem.W.Frag}
noncomputable def xIsL:List U->AHp->AVK->Prop:=fun us A Q=>∃ a ys,us=[.ref a,.ty "list"]/\A a=some (.lst ys)/\Q (.bl true) A
theorem ab_isL:AbL K rIsL xIsL:=fun xs us A H Q' Q r g h k=>by
  obtain ⟨a,ys,rfl,e,q⟩:=h
  cases r with
  | cons r1 r=>cases r with
    | cons r2 r =>
      cases r;cases r1;cases r2
      obtain ⟨vs,h1,_⟩:=g.list e
      exact ⟨a,vs,rfl,h1,k _ _ _ _ (.refl H) g (.bl true) q⟩
noncomputable def mClr:U->List U->AHp->AVK->Prop:=fun u us A Q=>∃ a ys,u=.ref a/\us=[]/\A a=some (.lst ys)/\Q .non (updA A a (.lst []))
theorem ab_mclr:AbMt K rClear mClr:=fun x u xs us A H Q' Q r rs g h k=>by
  obtain ⟨a,ys,rfl,rfl,e,q⟩:=h
  cases r;cases rs
  obtain ⟨vs,h1,_⟩:=g.list e
  exact ⟨a,vs,rfl,rfl,h1,k _ _ _ _ (Kp.lst h1) (g.putO (o:=.lst []) (Kp.lst h1) ⟨[],upd_same,.nil⟩) .non q⟩
variable {A:AHp} {Q:AVK}
theorem q_isL {a:Addr}:xIsL [.ref a,.ty "list"] A Q=∃ ys,A a=some (.lst ys)/\Q (.bl true) A:=propext ⟨fun hq0=>by obtain ⟨_,ys,e,h⟩:=hq0;cases e;exact ⟨ys,h⟩,fun ⟨ys,h⟩=>⟨a,ys,rfl,h⟩⟩
theorem q_clr {a:Addr}:mClr (.ref a) [] A Q=∃ ys,A a=some (.lst ys)/\Q .non (updA A a (.lst [])):=propext ⟨fun hq0=>by obtain ⟨_,ys,e,_,h⟩:=hq0;cases e;exact ⟨ys,h⟩,fun ⟨ys,h⟩=>⟨a,ys,rfl,rfl,h⟩⟩
end
noncomputable def Rl.nms:Rl->List Str
  | .nothing=>[]
  | .bead _=>[]
  | .named c=>[c]
  | .or x y=>x.nms++y.nms
  | .by_ x y=>x.nms++y.nms
  | .hold _ x=>x.nms
noncomputable def Rl.kids:Rl->List Rl
  | .or x y=>[x,y]
  | .by_ x y=>[x,y]
  | .hold _ x=>[x]
  | _=>[]
theorem Rl.nms_len:∀ r:Rl,r.nms.length<=r.size
  | .nothing=>by simp [Rl.nms]
  | .bead _=>by simp [Rl.nms]
  | .named _=>by simp [Rl.nms,Rl.size]
  | .or x y=>by have:=x.nms_len;have:=y.nms_len;simp only [Rl.nms,Rl.size,List.length_append];lia
  | .by_ x y=>by have:=x.nms_len;have:=y.nms_len;simp only [Rl.nms,Rl.size,List.length_append];lia
  | .hold _ x=>by have:=x.nms_len;simp only [Rl.nms,Rl.size];lia
theorem Rl.nms_kids {r:Rl} (h:r.ci≠2):r.nms=(r.kids.map Rl.nms).flatten:=by cases r <;> simp_all [Rl.nms,Rl.kids,Rl.ci]
theorem Rl.kids_dep {r x:Rl} (h:x∈r.kids):x.dep + 1<=r.dep/\x.size + 1<=r.size:=by
  cases r <;> simp only [Rl.kids,List.mem_cons,List.not_mem_nil,or_false] at h <;> simp only [Rl.dep,Rl.size]
  . rcases h with rfl | rfl <;> lia
  . rcases h with rfl | rfl <;> lia
  . subst h;lia
noncomputable def RlOs (cs:Nat->Addr) (A:AHp):List Addr->List Rl->Prop
  | [],[]=>True
  | a::as,r::rs=>RlO cs A a r/\RlOs cs A as rs
  | _,_=>False
theorem RlOs.ext {cs:Nat->Addr} {A A':AHp} (e:Ext A A'):∀ {as:List Addr} {rs:List Rl},RlOs cs A as rs->RlOs cs A' as rs
  | [],[],_=>trivial
  | _::_,_::_,h=>⟨h.1.ext e,h.2.ext e⟩
theorem RlOs.get {cs:Nat->Addr} {A:AHp}:∀ {as:List Addr} {rs:List Rl} {k:Nat} {a:Addr},RlOs cs A as rs->as[k]? = some a->∃ r,rs[k]? = some r/\RlO cs A a r
  | a::as,r::rs,0,b,h,e=>by simp at e;subst e;exact ⟨r,rfl,h.1⟩
  | a::as,r::rs,k + 1,b,h,e=>RlOs.get (k:=k) h.2 e
theorem RlOs.len {cs:Nat->Addr} {A:AHp}:∀ {as:List Addr} {rs:List Rl},RlOs cs A as rs->as.length=rs.length
  | [],[],_=>rfl
  | _::_,_::_,h=>congrArg (· + 1) h.2.len
structure NmOk (r:Rl) (zs:List Str):Prop where
  so:sortedS zs=true
  nd:zs.Nodup
  mem:∀ z,z∈zs ↔ z∈r.nms
  len:zs.length<=r.nms.length
theorem addT_mem {ks:List Str} {x z:Str}:x∈addT ks z ↔ x∈ks\/x=z:=by
  unfold addT
  split
  . rename_i h
    exact ⟨.inl,fun q=>q.elim id fun e=>e ▸ h⟩
  . simp
theorem addT_nd {ks:List Str} {z:Str} (h:ks.Nodup):(addT ks z).Nodup:=by
  unfold addT
  split
  . exact h
  . rename_i g
    rw [List.nodup_append]
    exact ⟨h,by simp,fun a ha b hb e=>g (by rw [List.mem_singleton.mp hb] at e;exact e ▸ ha)⟩
theorem addTs_all (zs:List Str):∀ i,i<=zs.length->(addTs zs i).Nodup/\∀ x,x∈addTs zs i ↔ x∈zs.take i
  | 0,_=>by simp [addTs]
  | i + 1,h=>by
    obtain ⟨h1,h2⟩:=addTs_all zs i (by lia)
    have e:zs[i]? = some (zs[i]'(by lia)):=List.getElem?_eq_getElem (by lia)
    rw [addTs_succ e]
    refine ⟨addT_nd h1,fun x=>?_⟩
    rw [addT_mem,h2,List.take_succ_eq_append_getElem (by lia),List.mem_append,List.mem_singleton]
theorem perm_nd:∀ {a b:List Str},a.Nodup->b.Nodup->(∀ z,z∈a ↔ z∈b)->a.Perm b
  | [],b,_,_,h=>by
    cases b with
    | nil=>exact .nil
    | cons y b=>exact absurd ((h y).mpr List.mem_cons_self) (by simp)
  | x :: a,b,ha,hb,h=>by
    have hx:x∈b:=(h x).mp List.mem_cons_self
    rw [List.nodup_cons] at ha
    have p1:=List.perm_cons_erase hx
    refine ((perm_nd ha.2 (hb.erase x) fun z=>?_).cons x).trans p1.symm
    rw [hb.mem_erase_iff]
    constructor
    . exact fun hz=>⟨fun e=>ha.1 (e ▸ hz),(h z).mp (List.mem_cons_of_mem _ hz)⟩
    . rintro ⟨hz1,hz2⟩
      exact (List.mem_cons.mp ((h z).mpr hz2)).resolve_left hz1
end L2
namespace My
open PySem L2
local macro_rules | `(tactic| walk_at "qd") => do
  let ls <- ("q_var0 q_nm0 q_get0 q_varS q_nmS q_getS q_c q_op q_un q_tb q_bl q_int q_and q_or q_not q_true q_nil q_cons q_const q_tup q_lst q_cb q_call q_nopart q_part q_sl q_bm0 q_bm q_next q_seq q_drop q_ret q_ifs q_asg q_par q_two q_for q_jof q_jargs q_ylr q_ylo q_yt q_yr1 q_yer q_yeo q_yet q_comp q_gtup q_gcons q_gnil q_addi q_adds q_addt q_addr q_xi q_xi2 q_mul q_rep q_lti q_eqi q_eqs q_eqb q_eqt q_eqr q_nei q_nes q_neb q_net q_ner q_int_ q_inr_ q_ins_ q_ixs q_ix0 q_ix1 q_ix2 q_ixo q_ixr q_sls q_slt1 q_slo q_slr q_lens q_lent q_leno q_lenr q_min2 q_max2 q_minl q_maxl q_sum q_lot q_loo q_lor q_tot q_tor q_xint q_isl q_ist q_app q_pop q_neg q_tru q_trul q_trut q_trub q_isi q_ysr q_yso q_yst q_yesr q_yeso q_yest q_join q_split q_isStr q_no q_inDC q_ixDC q_fld q_sfld q_saug q_meth q_make q_raddi q_isCs q_idxB q_s0 q_sL q_sortS q_addS q_isL q_clr q_mk0 q_methD q_isC q_jnil q_jcons q_fmt q_fs".splitOn " ").toArray.mapM fun s => `(Lean.Parser.Tactic.simpLemma| ↓$(Lean.mkIdent (.mkSimple s)):ident)
  `(tactic| (try simp only [$ls,*,List.set_cons_zero,List.set_cons_succ,List.cons_append,List.nil_append]))
local macro_rules | `(tactic| walk_at "qg") => `(tactic| (walk_at "qd"; (try simp only [↓q_ixt, ↓q_slt]); walk_at "qd"))
local macro_rules | `(tactic| walk_at "qs") => `(tactic| (simp only [L2.aStart, List.map_cons, List.map_nil, List.length_cons, List.length_nil, List.replicate, List.cons_append, List.nil_append, Nat.reduceAdd, Nat.reduceSub]))
local macro_rules | `(tactic| walk_at "qc") => `(tactic| (try simp only [L2.aCompStart, List.replicate, List.map_cons, List.map_nil, List.getElem?_cons_zero, List.getElem?_cons_succ, Option.join_some, List.cons_append, List.nil_append]))
noncomputable def top (i:Nat):Stmt:=PySem.Challenge.pw_figurebook_k04_names_of_rules.main.body.getD i (.Pass ⟨0,0,0,0⟩)
noncomputable abbrev s__wall:Stmt:=top 0
noncomputable abbrev s_Rule_inside:Stmt:=inClass (top 2) 0
noncomputable abbrev s_Rule_names:Stmt:=inClass (top 2) 1
noncomputable abbrev s_Nothing_told:Stmt:=inClass (top 3) 0
noncomputable abbrev s_Bead___init__:Stmt:=inClass (top 4) 0
noncomputable abbrev s_Bead_told:Stmt:=inClass (top 4) 1
noncomputable abbrev s_Or___init__:Stmt:=inClass (top 5) 0
noncomputable abbrev s_Or_inside:Stmt:=inClass (top 5) 1
noncomputable abbrev s_Or_told:Stmt:=inClass (top 5) 2
noncomputable abbrev s_By___init__:Stmt:=inClass (top 6) 0
noncomputable abbrev s_By_inside:Stmt:=inClass (top 6) 1
noncomputable abbrev s_By_told:Stmt:=inClass (top 6) 2
noncomputable abbrev s_Row___init__:Stmt:=inClass (top 7) 0
noncomputable abbrev s_Row_inside:Stmt:=inClass (top 7) 1
noncomputable abbrev s_Row_told:Stmt:=inClass (top 7) 2
noncomputable abbrev s_Bag___init__:Stmt:=inClass (top 8) 0
noncomputable abbrev s_Bag_inside:Stmt:=inClass (top 8) 1
noncomputable abbrev s_Bag_told:Stmt:=inClass (top 8) 2
noncomputable abbrev s_Choice___init__:Stmt:=inClass (top 9) 0
noncomputable abbrev s_Choice_inside:Stmt:=inClass (top 9) 1
noncomputable abbrev s_Choice_told:Stmt:=inClass (top 9) 2
noncomputable abbrev s_Ring___init__:Stmt:=inClass (top 10) 0
noncomputable abbrev s_Ring_inside:Stmt:=inClass (top 10) 1
noncomputable abbrev s_Ring_told:Stmt:=inClass (top 10) 2
noncomputable abbrev s_Named___init__:Stmt:=inClass (top 11) 0
noncomputable abbrev s_Named_names:Stmt:=inClass (top 11) 1
noncomputable abbrev s_Named_told:Stmt:=inClass (top 11) 2
noncomputable abbrev s_w_cell:Stmt:=top 13
noncomputable abbrev s_w_kept:Stmt:=top 14
noncomputable abbrev s_w_word:Stmt:=top 15
noncomputable abbrev s_w_total:Stmt:=top 16
noncomputable abbrev s_w_op:Stmt:=top 17
noncomputable abbrev s_w_tree:Stmt:=top 18
noncomputable abbrev s_w_object:Stmt:=top 19
noncomputable abbrev s_w_names:Stmt:=top 20
noncomputable abbrev s_w_mixed:Stmt:=top 21
noncomputable abbrev s_law:Stmt:=top 22
theorem sc__wall:FnScope ["k"] ["k"] (defScope s__wall):=⟨rfl,rfl,rfl,by decide +kernel,rfl,by decide +kernel,by decide +kernel⟩
theorem sc_Rule_inside:FnScope ["self"] ["self"] (defScope s_Rule_inside):=⟨rfl,rfl,rfl,by decide +kernel,rfl,by decide +kernel,by decide +kernel⟩
theorem sc_Rule_names:FnScope ["self","found","rule","name"] ["self"] (defScope s_Rule_names):=⟨rfl,rfl,rfl,by decide +kernel,rfl,by decide +kernel,by decide +kernel⟩
theorem sc_Nothing_told:FnScope ["self"] ["self"] (defScope s_Nothing_told):=⟨rfl,rfl,rfl,by decide +kernel,rfl,by decide +kernel,by decide +kernel⟩
theorem sc_Bead___init__:FnScope ["self","colour"] ["self","colour"] (defScope s_Bead___init__):=⟨rfl,rfl,rfl,by decide +kernel,rfl,by decide +kernel,by decide +kernel⟩
theorem sc_Bead_told:FnScope ["self"] ["self"] (defScope s_Bead_told):=⟨rfl,rfl,rfl,by decide +kernel,rfl,by decide +kernel,by decide +kernel⟩
theorem sc_Or___init__:FnScope ["self","one","other"] ["self","one","other"] (defScope s_Or___init__):=⟨rfl,rfl,rfl,by decide +kernel,rfl,by decide +kernel,by decide +kernel⟩
theorem sc_Or_inside:FnScope ["self"] ["self"] (defScope s_Or_inside):=⟨rfl,rfl,rfl,by decide +kernel,rfl,by decide +kernel,by decide +kernel⟩
theorem sc_Or_told:FnScope ["self"] ["self"] (defScope s_Or_told):=⟨rfl,rfl,rfl,by decide +kernel,rfl,by decide +kernel,by decide +kernel⟩
theorem sc_By___init__:FnScope ["self","one","other"] ["self","one","other"] (defScope s_By___init__):=⟨rfl,rfl,rfl,by decide +kernel,rfl,by decide +kernel,by decide +kernel⟩
theorem sc_By_inside:FnScope ["self"] ["self"] (defScope s_By_inside):=⟨rfl,rfl,rfl,by decide +kernel,rfl,by decide +kernel,by decide +kernel⟩
theorem sc_By_told:FnScope ["self"] ["self"] (defScope s_By_told):=⟨rfl,rfl,rfl,by decide +kernel,rfl,by decide +kernel,by decide +kernel⟩
theorem sc_Row___init__:FnScope ["self","part"] ["self","part"] (defScope s_Row___init__):=⟨rfl,rfl,rfl,by decide +kernel,rfl,by decide +kernel,by decide +kernel⟩
theorem sc_Row_inside:FnScope ["self"] ["self"] (defScope s_Row_inside):=⟨rfl,rfl,rfl,by decide +kernel,rfl,by decide +kernel,by decide +kernel⟩
theorem sc_Row_told:FnScope ["self"] ["self"] (defScope s_Row_told):=⟨rfl,rfl,rfl,by decide +kernel,rfl,by decide +kernel,by decide +kernel⟩
theorem sc_Bag___init__:FnScope ["self","part"] ["self","part"] (defScope s_Bag___init__):=⟨rfl,rfl,rfl,by decide +kernel,rfl,by decide +kernel,by decide +kernel⟩
theorem sc_Bag_inside:FnScope ["self"] ["self"] (defScope s_Bag_inside):=⟨rfl,rfl,rfl,by decide +kernel,rfl,by decide +kernel,by decide +kernel⟩
theorem sc_Bag_told:FnScope ["self"] ["self"] (defScope s_Bag_told):=⟨rfl,rfl,rfl,by decide +kernel,rfl,by decide +kernel,by decide +kernel⟩
theorem sc_Choice___init__:FnScope ["self","part"] ["self","part"] (defScope s_Choice___init__):=⟨rfl,rfl,rfl,by decide +kernel,rfl,by decide +kernel,by decide +kernel⟩
theorem sc_Choice_inside:FnScope ["self"] ["self"] (defScope s_Choice_inside):=⟨rfl,rfl,rfl,by decide +kernel,rfl,by decide +kernel,by decide +kernel⟩
theorem sc_Choice_told:FnScope ["self"] ["self"] (defScope s_Choice_told):=⟨rfl,rfl,rfl,by decide +kernel,rfl,by decide +kernel,by decide +kernel⟩
theorem sc_Ring___init__:FnScope ["self","part"] ["self","part"] (defScope s_Ring___init__):=⟨rfl,rfl,rfl,by decide +kernel,rfl,by decide +kernel,by decide +kernel⟩
theorem sc_Ring_inside:FnScope ["self"] ["self"] (defScope s_Ring_inside):=⟨rfl,rfl,rfl,by decide +kernel,rfl,by decide +kernel,by decide +kernel⟩
theorem sc_Ring_told:FnScope ["self"] ["self"] (defScope s_Ring_told):=⟨rfl,rfl,rfl,by decide +kernel,rfl,by decide +kernel,by decide +kernel⟩
theorem sc_Named___init__:FnScope ["self","name"] ["self","name"] (defScope s_Named___init__):=⟨rfl,rfl,rfl,by decide +kernel,rfl,by decide +kernel,by decide +kernel⟩
theorem sc_Named_names:FnScope ["self"] ["self"] (defScope s_Named_names):=⟨rfl,rfl,rfl,by decide +kernel,rfl,by decide +kernel,by decide +kernel⟩
theorem sc_Named_told:FnScope ["self"] ["self"] (defScope s_Named_told):=⟨rfl,rfl,rfl,by decide +kernel,rfl,by decide +kernel,by decide +kernel⟩
theorem sc_w_cell:FnScope ["_law_script","_law_k"] ["_law_script","_law_k"] (defScope s_w_cell):=⟨rfl,rfl,rfl,by decide +kernel,rfl,by decide +kernel,by decide +kernel⟩
theorem sc_w_kept:FnScope [] [] (defScope s_w_kept):=⟨rfl,rfl,rfl,by decide +kernel,rfl,by decide +kernel,by decide +kernel⟩
theorem sc_w_word:FnScope ["_law_cell_here","_law_word_here","_law_left","_law_k"] ["_law_cell_here"] (defScope s_w_word):=⟨rfl,rfl,rfl,by decide +kernel,rfl,by decide +kernel,by decide +kernel⟩
theorem sc_w_total:FnScope ["_law_stack"] ["_law_stack"] (defScope s_w_total):=⟨rfl,rfl,rfl,by decide +kernel,rfl,by decide +kernel,by decide +kernel⟩
theorem sc_w_op:FnScope ["_law_stack","_law_cell_here","_law_kind","_law_turn","_law_other","_law_one","_law_deep","_law_part"] ["_law_stack","_law_cell_here"] (defScope s_w_op):=⟨rfl,rfl,rfl,by decide +kernel,rfl,by decide +kernel,by decide +kernel⟩
theorem sc_w_tree:FnScope ["_law_cells","_law_stack","_law_cell_here","_law_fresh","_law_whole","_law_k","_law_one","_law_deep"] ["_law_cells"] (defScope s_w_tree):=⟨rfl,rfl,rfl,by decide +kernel,rfl,by decide +kernel,by decide +kernel⟩
theorem sc_w_object:FnScope ["_law_rule","_law_one"] ["_law_rule"] (defScope s_w_object):=⟨rfl,rfl,rfl,by decide +kernel,rfl,by decide +kernel,by decide +kernel⟩
theorem sc_w_names:FnScope ["_law_tree_here","_law_found","_law_part"] ["_law_tree_here"] (defScope s_w_names):=⟨rfl,rfl,rfl,by decide +kernel,rfl,by decide +kernel,by decide +kernel⟩
theorem sc_w_mixed:FnScope ["_law_script","_law_few","_law_many","_law_raw","_law_numbers","_law_k","_law_cell_here"] ["_law_script","_law_few"] (defScope s_w_mixed):=⟨rfl,rfl,rfl,by decide +kernel,rfl,by decide +kernel,by decide +kernel⟩
theorem sc_law:FnScope ["_law_script","_law_few","_law_cells","_law_tree_here","_law_due","_law_rule","_law_turn","_law_found"] ["_law_script"] (defScope s_law):=⟨rfl,rfl,rfl,by decide +kernel,rfl,by decide +kernel,by decide +kernel⟩
/-- what the top has written: each def of the text,its names;what is not the text's own -/
structure TX (K:PySem.W.Frag) (mg:Str->Option Value) (f_Rule_inside f_Rule_names f_Bead___init__ f_Or___init__ f_Or_inside f_By___init__ f_By_inside f_Row___init__ f_Row_inside f_Bag___init__ f_Bag_inside f_Choice___init__ f_Choice_inside f_Ring___init__ f_Ring_inside f_Named___init__ f_Named_names f_w_cell f_w_kept f_w_word f_w_total f_w_op f_w_tree f_w_object f_w_names f_w_mixed f_law a_Rule a_Nothing a_Bead a_Or a_By a_Row a_Bag a_Choice a_Ring a_Named:Addr) (d_Rule_inside d_Rule_names d_Bead___init__ d_Or___init__ d_Or_inside d_By___init__ d_By_inside d_Row___init__ d_Row_inside d_Bag___init__ d_Bag_inside d_Choice___init__ d_Choice_inside d_Ring___init__ d_Ring_inside d_Named___init__ d_Named_names d_w_cell d_w_kept d_w_word d_w_total d_w_op d_w_tree d_w_object d_w_names d_w_mixed d_law:FuncData):Prop where
  F_Rule_inside:Fun K "inside" "Rule.inside" s_Rule_inside f_Rule_inside d_Rule_inside
  B_Rule_inside:Binds K d_Rule_inside ["self"] []
  W_Rule_inside:Meth K a_Rule "inside" f_Rule_inside
  F_Rule_names:Fun K "names" "Rule.names" s_Rule_names f_Rule_names d_Rule_names
  B_Rule_names:Binds K d_Rule_names ["self"] []
  W_Rule_names:Meth K a_Rule "names" f_Rule_names
  F_Bead___init__:Fun K "__init__" "Bead.__init__" s_Bead___init__ f_Bead___init__ d_Bead___init__
  B_Bead___init__:Binds K d_Bead___init__ ["self","colour"] []
  K_Bead:Mk K a_Bead f_Bead___init__
  F_Or___init__:Fun K "__init__" "Or.__init__" s_Or___init__ f_Or___init__ d_Or___init__
  B_Or___init__:Binds K d_Or___init__ ["self","one","other"] []
  K_Or:Mk K a_Or f_Or___init__
  F_Or_inside:Fun K "inside" "Or.inside" s_Or_inside f_Or_inside d_Or_inside
  B_Or_inside:Binds K d_Or_inside ["self"] []
  W_Or_inside:Meth K a_Or "inside" f_Or_inside
  F_By___init__:Fun K "__init__" "By.__init__" s_By___init__ f_By___init__ d_By___init__
  B_By___init__:Binds K d_By___init__ ["self","one","other"] []
  K_By:Mk K a_By f_By___init__
  F_By_inside:Fun K "inside" "By.inside" s_By_inside f_By_inside d_By_inside
  B_By_inside:Binds K d_By_inside ["self"] []
  W_By_inside:Meth K a_By "inside" f_By_inside
  F_Row___init__:Fun K "__init__" "Row.__init__" s_Row___init__ f_Row___init__ d_Row___init__
  B_Row___init__:Binds K d_Row___init__ ["self","part"] []
  K_Row:Mk K a_Row f_Row___init__
  F_Row_inside:Fun K "inside" "Row.inside" s_Row_inside f_Row_inside d_Row_inside
  B_Row_inside:Binds K d_Row_inside ["self"] []
  W_Row_inside:Meth K a_Row "inside" f_Row_inside
  F_Bag___init__:Fun K "__init__" "Bag.__init__" s_Bag___init__ f_Bag___init__ d_Bag___init__
  B_Bag___init__:Binds K d_Bag___init__ ["self","part"] []
  K_Bag:Mk K a_Bag f_Bag___init__
  F_Bag_inside:Fun K "inside" "Bag.inside" s_Bag_inside f_Bag_inside d_Bag_inside
  B_Bag_inside:Binds K d_Bag_inside ["self"] []
  W_Bag_inside:Meth K a_Bag "inside" f_Bag_inside
  F_Choice___init__:Fun K "__init__" "Choice.__init__" s_Choice___init__ f_Choice___init__ d_Choice___init__
  B_Choice___init__:Binds K d_Choice___init__ ["self","part"] []
  K_Choice:Mk K a_Choice f_Choice___init__
  F_Choice_inside:Fun K "inside" "Choice.inside" s_Choice_inside f_Choice_inside d_Choice_inside
  B_Choice_inside:Binds K d_Choice_inside ["self"] []
  W_Choice_inside:Meth K a_Choice "inside" f_Choice_inside
  F_Ring___init__:Fun K "__init__" "Ring.__init__" s_Ring___init__ f_Ring___init__ d_Ring___init__
  B_Ring___init__:Binds K d_Ring___init__ ["self","part"] []
  K_Ring:Mk K a_Ring f_Ring___init__
  F_Ring_inside:Fun K "inside" "Ring.inside" s_Ring_inside f_Ring_inside d_Ring_inside
  B_Ring_inside:Binds K d_Ring_inside ["self"] []
  W_Ring_inside:Meth K a_Ring "inside" f_Ring_inside
  F_Named___init__:Fun K "__init__" "Named.__init__" s_Named___init__ f_Named___init__ d_Named___init__
  B_Named___init__:Binds K d_Named___init__ ["self","name"] []
  K_Named:Mk K a_Named f_Named___init__
  F_Named_names:Fun K "names" "Named.names" s_Named_names f_Named_names d_Named_names
  B_Named_names:Binds K d_Named_names ["self"] []
  W_Named_names:Meth K a_Named "names" f_Named_names
  F_w_cell:Fun K "_law_cell" "_law_cell" s_w_cell f_w_cell d_w_cell
  B_w_cell:Binds K d_w_cell ["_law_script","_law_k"] []
  M_w_cell:mg "_law_cell"=some (.ref f_w_cell)
  F_w_kept:Fun K "_law_kept" "_law_kept" s_w_kept f_w_kept d_w_kept
  B_w_kept:Binds K d_w_kept [] []
  M_w_kept:mg "_law_kept"=some (.ref f_w_kept)
  F_w_word:Fun K "_law_word" "_law_word" s_w_word f_w_word d_w_word
  B_w_word:Binds K d_w_word ["_law_cell_here"] []
  M_w_word:mg "_law_word"=some (.ref f_w_word)
  F_w_total:Fun K "_law_total" "_law_total" s_w_total f_w_total d_w_total
  B_w_total:Binds K d_w_total ["_law_stack"] []
  M_w_total:mg "_law_total"=some (.ref f_w_total)
  F_w_op:Fun K "_law_op" "_law_op" s_w_op f_w_op d_w_op
  B_w_op:Binds K d_w_op ["_law_stack","_law_cell_here"] []
  M_w_op:mg "_law_op"=some (.ref f_w_op)
  F_w_tree:Fun K "_law_tree" "_law_tree" s_w_tree f_w_tree d_w_tree
  B_w_tree:Binds K d_w_tree ["_law_cells"] []
  M_w_tree:mg "_law_tree"=some (.ref f_w_tree)
  F_w_object:Fun K "_law_object" "_law_object" s_w_object f_w_object d_w_object
  B_w_object:Binds K d_w_object ["_law_rule"] []
  M_w_object:mg "_law_object"=some (.ref f_w_object)
  F_w_names:Fun K "_law_names" "_law_names" s_w_names f_w_names d_w_names
  B_w_names:Binds K d_w_names ["_law_tree_here"] []
  M_w_names:mg "_law_names"=some (.ref f_w_names)
  F_w_mixed:Fun K "_law_mixed" "_law_mixed" s_w_mixed f_w_mixed d_w_mixed
  B_w_mixed:Binds K d_w_mixed ["_law_script","_law_few"] []
  M_w_mixed:mg "_law_mixed"=some (.ref f_w_mixed)
  F_law:Fun K "law" "law" s_law f_law d_law
  B_law:Binds K d_law ["_law_script"] []
  M_law:mg "law"=some (.ref f_law)
  m_Rule:mg "Rule"=some (.ref a_Rule)
  L_Rule:Cls K a_Rule
  K_Rule:Mk0 K a_Rule
  m_Nothing:mg "Nothing"=some (.ref a_Nothing)
  L_Nothing:Cls K a_Nothing
  K_Nothing:Mk0 K a_Nothing
  W_Nothing_inside:Meth K a_Nothing "inside" f_Rule_inside
  W_Nothing_names:Meth K a_Nothing "names" f_Rule_names
  m_Bead:mg "Bead"=some (.ref a_Bead)
  L_Bead:Cls K a_Bead
  W_Bead_inside:Meth K a_Bead "inside" f_Rule_inside
  W_Bead_names:Meth K a_Bead "names" f_Rule_names
  N_Bead_colour:NoAttr K a_Bead "colour"
  m_Or:mg "Or"=some (.ref a_Or)
  L_Or:Cls K a_Or
  W_Or_names:Meth K a_Or "names" f_Rule_names
  N_Or_one:NoAttr K a_Or "one"
  N_Or_other:NoAttr K a_Or "other"
  m_By:mg "By"=some (.ref a_By)
  L_By:Cls K a_By
  W_By_names:Meth K a_By "names" f_Rule_names
  N_By_one:NoAttr K a_By "one"
  N_By_other:NoAttr K a_By "other"
  m_Row:mg "Row"=some (.ref a_Row)
  L_Row:Cls K a_Row
  W_Row_names:Meth K a_Row "names" f_Rule_names
  N_Row_part:NoAttr K a_Row "part"
  m_Bag:mg "Bag"=some (.ref a_Bag)
  L_Bag:Cls K a_Bag
  W_Bag_names:Meth K a_Bag "names" f_Rule_names
  N_Bag_part:NoAttr K a_Bag "part"
  m_Choice:mg "Choice"=some (.ref a_Choice)
  L_Choice:Cls K a_Choice
  W_Choice_names:Meth K a_Choice "names" f_Rule_names
  N_Choice_part:NoAttr K a_Choice "part"
  m_Ring:mg "Ring"=some (.ref a_Ring)
  L_Ring:Cls K a_Ring
  W_Ring_names:Meth K a_Ring "names" f_Rule_names
  N_Ring_part:NoAttr K a_Ring "part"
  m_Named:mg "Named"=some (.ref a_Named)
  L_Named:Cls K a_Named
  W_Named_inside:Meth K a_Named "inside" f_Rule_inside
  N_Named_name:NoAttr K a_Named "name"
  IT:IsTab K [a_Nothing,a_Bead,a_Named,a_Or,a_By,a_Row,a_Bag,a_Choice,a_Ring] a_Rule
  n_all:mg "all"=none
  n_any:mg "any"=none
  n_bool:mg "bool"=none
  n_enumerate:mg "enumerate"=none
  n_int:mg "int"=none
  n_isinstance:mg "isinstance"=none
  n_len:mg "len"=none
  n_list:mg "list"=none
  n_max:mg "max"=none
  n_min:mg "min"=none
  n_range:mg "range"=none
  n_reversed:mg "reversed"=none
  n_set:mg "set"=none
  n_sorted:mg "sorted"=none
  n_str:mg "str"=none
  n_sum:mg "sum"=none
  n_tuple:mg "tuple"=none
  n_zip:mg "zip"=none
variable {P:Program} {w:World} {K:PySem.W.Frag} {mg:Str->Option Value} {base:Heap} {f_Rule_inside f_Rule_names f_Bead___init__ f_Or___init__ f_Or_inside f_By___init__ f_By_inside f_Row___init__ f_Row_inside f_Bag___init__ f_Bag_inside f_Choice___init__ f_Choice_inside f_Ring___init__ f_Ring_inside f_Named___init__ f_Named_names f_w_cell f_w_kept f_w_word f_w_total f_w_op f_w_tree f_w_object f_w_names f_w_mixed f_law a_Rule a_Nothing a_Bead a_Or a_By a_Row a_Bag a_Choice a_Ring a_Named:Addr} {d_Rule_inside d_Rule_names d_Bead___init__ d_Or___init__ d_Or_inside d_By___init__ d_By_inside d_Row___init__ d_Row_inside d_Bag___init__ d_Bag_inside d_Choice___init__ d_Choice_inside d_Ring___init__ d_Ring_inside d_Named___init__ d_Named_names d_w_cell d_w_kept d_w_word d_w_total d_w_op d_w_tree d_w_object d_w_names d_w_mixed d_law:FuncData} (T:TX K mg f_Rule_inside f_Rule_names f_Bead___init__ f_Or___init__ f_Or_inside f_By___init__ f_By_inside f_Row___init__ f_Row_inside f_Bag___init__ f_Bag_inside f_Choice___init__ f_Choice_inside f_Ring___init__ f_Ring_inside f_Named___init__ f_Named_names f_w_cell f_w_kept f_w_word f_w_total f_w_op f_w_tree f_w_object f_w_names f_w_mixed f_law a_Rule a_Nothing a_Bead a_Or a_By a_Row a_Bag a_Choice a_Ring a_Named d_Rule_inside d_Rule_names d_Bead___init__ d_Or___init__ d_Or_inside d_By___init__ d_By_inside d_Row___init__ d_Row_inside d_Bag___init__ d_Bag_inside d_Choice___init__ d_Choice_inside d_Ring___init__ d_Ring_inside d_Named___init__ d_Named_names d_w_cell d_w_kept d_w_word d_w_total d_w_op d_w_tree d_w_object d_w_names d_w_mixed d_law)
noncomputable def asp_init1 (C:Addr) (f:Str):ASp:=fun us A Q=>∃ (x dx:Addr) (u:U),us=[.ref x,u]/\A x=some (.ins C dx [])/\Q .non (updA A x (.ins C dx [(f,u)]))
noncomputable def asp_init2 (C:Addr):ASp:=fun us A Q=>∃ (x dx:Addr) (u v:U),us=[.ref x,u,v]/\A x=some (.ins C dx [])/\Q .non (updA A x (.ins C dx [("one",u),("other",v)]))
theorem rpu0 {a:Str} {u:U}:putU a u []=[(a,u)]:=rfl
theorem rpu1 {u v:U}:putU "other" v [(("one":Str),u)]=[(("one":Str),u),(("other":Str),v)]:=by
  have:("one":Str)≠"other":=by decide +kernel
  simp [putU,this]
section
include T
theorem ok_iBead:FnOk P w K mg base CX0 1 f_Bead___init__ d_Bead___init__ ["self","colour"] (spOf K (asp_init1 a_Bead "colour")):=by
  refine' Fun.okA T.F_Bead___init__ (sc:=?sc) (body:=?bd) ?hs ?hb sc_Bead___init__ ?hB ?hS
  case hs=>conv=>lhs;whnf
  case hb=>conv=>lhs;whnf
  case hB=>exact fun S cdv A outer s H E hr=>⟨_,(pss_one (ps_fld (pv 0) (pv 1) rfl)),(ab_sfld ab_var ab_var)⟩
  rintro us A Q ⟨x,dx,u,rfl,hx,q⟩
  refine ⟨rfl,?_⟩
  walk_at "qs"
  walk_at "qd"
  refine ⟨x,_,dx,_,rfl,hx,T.L_Bead,T.N_Bead_colour,by decide,?_⟩
  rw [rpu0]
  exact fg q
theorem ok_iNamed:FnOk P w K mg base CX0 1 f_Named___init__ d_Named___init__ ["self","name"] (spOf K (asp_init1 a_Named "name")):=by
  refine' Fun.okA T.F_Named___init__ (sc:=?sc2) (body:=?bd2) ?hs2 ?hb2 sc_Named___init__ ?hB2 ?hS2
  case hs2=>conv=>lhs;whnf
  case hb2=>conv=>lhs;whnf
  case hB2=>exact fun S cdv A outer s H E hr=>⟨_,(pss_one (ps_fld (pv 0) (pv 1) rfl)),(ab_sfld ab_var ab_var)⟩
  rintro us A Q ⟨x,dx,u,rfl,hx,q⟩
  refine ⟨rfl,?_⟩
  walk_at "qs"
  walk_at "qd"
  refine ⟨x,_,dx,_,rfl,hx,T.L_Named,T.N_Named_name,by decide,?_⟩
  rw [rpu0]
  exact fg q
theorem ok_iRow:FnOk P w K mg base CX0 1 f_Row___init__ d_Row___init__ ["self","part"] (spOf K (asp_init1 a_Row "part")):=by
  refine' Fun.okA T.F_Row___init__ (sc:=?sc3) (body:=?bd3) ?hs3 ?hb3 sc_Row___init__ ?hB3 ?hS3
  case hs3=>conv=>lhs;whnf
  case hb3=>conv=>lhs;whnf
  case hB3=>exact fun S cdv A outer s H E hr=>⟨_,(pss_one (ps_fld (pv 0) (pv 1) rfl)),(ab_sfld ab_var ab_var)⟩
  rintro us A Q ⟨x,dx,u,rfl,hx,q⟩
  refine ⟨rfl,?_⟩
  walk_at "qs"
  walk_at "qd"
  refine ⟨x,_,dx,_,rfl,hx,T.L_Row,T.N_Row_part,by decide,?_⟩
  rw [rpu0]
  exact fg q
theorem ok_iBag:FnOk P w K mg base CX0 1 f_Bag___init__ d_Bag___init__ ["self","part"] (spOf K (asp_init1 a_Bag "part")):=by
  refine' Fun.okA T.F_Bag___init__ (sc:=?sc4) (body:=?bd4) ?hs4 ?hb4 sc_Bag___init__ ?hB4 ?hS4
  case hs4=>conv=>lhs;whnf
  case hb4=>conv=>lhs;whnf
  case hB4=>exact fun S cdv A outer s H E hr=>⟨_,(pss_one (ps_fld (pv 0) (pv 1) rfl)),(ab_sfld ab_var ab_var)⟩
  rintro us A Q ⟨x,dx,u,rfl,hx,q⟩
  refine ⟨rfl,?_⟩
  walk_at "qs"
  walk_at "qd"
  refine ⟨x,_,dx,_,rfl,hx,T.L_Bag,T.N_Bag_part,by decide,?_⟩
  rw [rpu0]
  exact fg q
theorem ok_iChoice:FnOk P w K mg base CX0 1 f_Choice___init__ d_Choice___init__ ["self","part"] (spOf K (asp_init1 a_Choice "part")):=by
  refine' Fun.okA T.F_Choice___init__ (sc:=?sc5) (body:=?bd5) ?hs5 ?hb5 sc_Choice___init__ ?hB5 ?hS5
  case hs5=>conv=>lhs;whnf
  case hb5=>conv=>lhs;whnf
  case hB5=>exact fun S cdv A outer s H E hr=>⟨_,(pss_one (ps_fld (pv 0) (pv 1) rfl)),(ab_sfld ab_var ab_var)⟩
  rintro us A Q ⟨x,dx,u,rfl,hx,q⟩
  refine ⟨rfl,?_⟩
  walk_at "qs"
  walk_at "qd"
  refine ⟨x,_,dx,_,rfl,hx,T.L_Choice,T.N_Choice_part,by decide,?_⟩
  rw [rpu0]
  exact fg q
theorem ok_iRing:FnOk P w K mg base CX0 1 f_Ring___init__ d_Ring___init__ ["self","part"] (spOf K (asp_init1 a_Ring "part")):=by
  refine' Fun.okA T.F_Ring___init__ (sc:=?sc6) (body:=?bd6) ?hs6 ?hb6 sc_Ring___init__ ?hB6 ?hS6
  case hs6=>conv=>lhs;whnf
  case hb6=>conv=>lhs;whnf
  case hB6=>exact fun S cdv A outer s H E hr=>⟨_,(pss_one (ps_fld (pv 0) (pv 1) rfl)),(ab_sfld ab_var ab_var)⟩
  rintro us A Q ⟨x,dx,u,rfl,hx,q⟩
  refine ⟨rfl,?_⟩
  walk_at "qs"
  walk_at "qd"
  refine ⟨x,_,dx,_,rfl,hx,T.L_Ring,T.N_Ring_part,by decide,?_⟩
  rw [rpu0]
  exact fg q
theorem ok_iOr:FnOk P w K mg base CX0 1 f_Or___init__ d_Or___init__ ["self","one","other"] (spOf K (asp_init2 a_Or)):=by
  refine' Fun.okA T.F_Or___init__ (sc:=?sc7) (body:=?bd7) ?hs7 ?hb7 sc_Or___init__ ?hB7 ?hS7
  case hs7=>conv=>lhs;whnf
  case hb7=>conv=>lhs;whnf
  case hB7=>exact fun S cdv A outer s H E hr=>⟨_,(pss_cons (ps_fld (pv 0) (pv 1) rfl)
      (pss_one (ps_fld (pv 0) (pv 2) rfl))),(ab_seq (ab_sfld ab_var ab_var)
      (ab_sfld ab_var ab_var))⟩
  rintro us A Q ⟨x,dx,u,v,rfl,hx,q⟩
  refine ⟨rfl,?_⟩
  walk_at "qs"
  walk_at "qd"
  refine ⟨x,_,dx,_,rfl,hx,T.L_Or,T.N_Or_one,by decide,x,_,dx,_,rfl,updA_same,T.L_Or,T.N_Or_other,by show (1:Nat) < 1000;decide,?_⟩
  rw [updA_updA,rpu0,rpu1]
  exact fg q
theorem ok_iBy:FnOk P w K mg base CX0 1 f_By___init__ d_By___init__ ["self","one","other"] (spOf K (asp_init2 a_By)):=by
  refine' Fun.okA T.F_By___init__ (sc:=?sc8) (body:=?bd8) ?hs8 ?hb8 sc_By___init__ ?hB8 ?hS8
  case hs8=>conv=>lhs;whnf
  case hb8=>conv=>lhs;whnf
  case hB8=>exact fun S cdv A outer s H E hr=>⟨_,(pss_cons (ps_fld (pv 0) (pv 1) rfl)
      (pss_one (ps_fld (pv 0) (pv 2) rfl))),(ab_seq (ab_sfld ab_var ab_var)
      (ab_sfld ab_var ab_var))⟩
  rintro us A Q ⟨x,dx,u,v,rfl,hx,q⟩
  refine ⟨rfl,?_⟩
  walk_at "qs"
  walk_at "qd"
  refine ⟨x,_,dx,_,rfl,hx,T.L_By,T.N_By_one,by decide,x,_,dx,_,rfl,updA_same,T.L_By,T.N_By_other,by show (1:Nat) < 1000;decide,?_⟩
  rw [updA_updA,rpu0,rpu1]
  exact fg q
end
theorem lk1 {a b:Str} {u v:U}:List.lookup a [(a,u),(b,v)]=some u:=by simp [List.lookup]
theorem lk2 {a b:Str} {u v:U} (h:(b == a)=false):List.lookup b [(a,u),(b,v)]=some v:=by simp [List.lookup,h]
theorem inU_strs {x:Str} {ts:List Str} (h:x ∉ ts):inU (.str x) (ts.map U.str)=false:=by
  unfold inU inV
  rw [List.any_eq_false]
  intro y hy
  simp only [List.mem_map] at hy
  obtain ⟨_,⟨z,hz,rfl⟩,rfl⟩:=hy
  simp only [U.toV,eqV]
  intro e
  have:z=x:=by simpa using e
  exact h (this ▸ hz)
theorem lkp {a:Str} {u:U}:List.lookup a [(a,u)]=some u:=by simp [List.lookup]
theorem inU_yes {x:Str} {ts:List Str} (h:x∈ts):inU (.str x) (ts.map U.str)=true:=by
  unfold inU inV
  rw [List.any_eq_true]
  refine ⟨.str x,?_,?_⟩
  . rw [List.map_map];exact List.mem_map.mpr ⟨x,h,rfl⟩
  . exact beq_self_eq_true x
theorem q_inK {u:U} {A:AHp} {Q:AVK} {p:Addr}:xIn u (.ref p) A Q=∃ us,A p=some (.lst us)/\u.flat=true/\us.all U.flat=true/\Q (.bl (inU u us)) A:=rfl
noncomputable def asp_cell:ASp:=fun us A Q=>∃ (ns:List Int) (k:Int),us=[.rol (ns.map U.int),.int k]/\0<=k/\∀ z,Q (.int z) A
noncomputable def asp_mixed:ASp:=fun us A Q=>∃ (ns:List Int) (few:Int),us=[.rol (ns.map U.int),.int few]/\ns.length<=63/\0<=few/\few<=63/\∀ (l:Addr) (ms:List Int),A l=none->ms.length<=63->few<=ms.length->Q (.ref l) (updA A l (.lst (ms.map U.int)))
noncomputable def asp_kept:ASp:=fun us A Q=>us=[]/\∀ l,A l=none->Q (.ref l) (updA A l (.lst (keptsL.map U.str)))
noncomputable def asp_word:ASp:=fun us A Q=>∃ c:Int,us=[.int c]/\∀ x,wdB x=true->Q (.str x) A
section
include T
theorem ok_cell:FnOk P w K mg base CX0 1 f_w_cell d_w_cell ["_law_script","_law_k"] (spOf K asp_cell):=by
  refine' Fun.okA T.F_w_cell (sc:=?sc9) (body:=?bd9) ?hs9 ?hb9 sc_w_cell ?hB9 ?hS9
  case hs9=>conv=>lhs;whnf
  case hb9=>conv=>lhs;whnf
  case hB9=>exact fun S cdv A outer s H E hr=>⟨_,(pss_cons (ps_if (pt_cmpR o_lt (pv 1) (pe_callB c_len (by rfl) T.n_len (by decide +kernel) (pa_cons (pv 0) pa_nil)) (nomark _)) (pss_one (ps_ret (pe_ix o_ix (pv 0) (pv 1) (fun _ _=>rfl)))) pss_nil)
      (pss_one (ps_ret pe_int))),(ab_seq (ab_ifs (ab_test (ab_op ab_lt ab_var (ab_cb ab_len (ab_cons ab_var ab_nil)))) (ab_ret (ab_op ab_ix ab_var ab_var)) ab_next)
      (ab_ret ab_int))⟩
  rintro us A Q ⟨ns,k,rfl,hk,q⟩
  refine ⟨rfl,?_⟩
  walk_at "qs"
  walk_at "qd"
  refine iteB (fun h=>?_) fun _=>fg (q 0)
  have h':k < ns.length:=by simpa using h
  obtain ⟨z,h1,_⟩:=atI_intsU hk h'
  exact ⟨_,h1,fg (q z)⟩
theorem ok_mixed:FnOk P w K mg base CX0 2 f_w_mixed d_w_mixed ["_law_script","_law_few"] (spOf K asp_mixed):=by
  have G_w_cell:=ok_cell (P:=P) (w:=w) (base:=base) T
  refine' Fun.okA T.F_w_mixed (sc:=?sc11) (body:=?bd11) ?hs11 ?hb11 sc_w_mixed ?hB11 ?hS11
  case hs11=>conv=>lhs;whnf
  case hb11=>conv=>lhs;whnf
  case hB11=>exact fun S cdv A outer s H E hr=>⟨_,(pss_cons (ps_set (i:=2) S.nd rfl (Or.inl rfl) (pe_callB (c_maxA rfl) (by rfl) T.n_max (by decide +kernel) (pa_cons (pv 1) (pa_cons (pe_callB (c_minA rfl) (by rfl) T.n_min (by decide +kernel) (pa_cons pe_int (pa_cons (pe_callB c_len (by rfl) T.n_len (by decide +kernel) (pa_cons (pv 0) pa_nil)) pa_nil))) pa_nil))))
      (pss_cons (ps_set (i:=3) S.nd rfl (Or.inl rfl) (pe_cmpR (o_eqD hr) (pe_op o_mod (pe_call (G_w_cell.mono (by first | decide | lia)) hr (by rfl) T.M_w_cell T.F_w_cell.kp T.B_w_cell .nil pass0 (pa_cons (pv 0) (pa_cons pe_int pa_nil))) pe_int) pe_int (nomark _)))
      (pss_cons (ps_set (i:=4) S.nd rfl (Or.inl rfl) (pe_lst pa_nil))
      (pss_cons (ps_for PassesOwn.never rfl (pj_range1 rfl T.n_range (pa_cons (pv 2) pa_nil)) (pg_name (i:=5) S.nd rfl (Or.inl rfl))
      (pss_cons (ps_set (i:=6) S.nd rfl (Or.inl rfl) (pe_op o_fdiv (pe_call (G_w_cell.mono (by first | decide | lia)) hr (by rfl) T.M_w_cell T.F_w_cell.kp T.B_w_cell .nil pass0 (pa_cons (pv 0) (pa_cons (pv 5) pa_nil))) (pe_op o_addW pe_int (pe_callTy c_int (by rfl) T.n_int (by decide +kernel) (pa_cons (pe_cmpR (o_eqD hr) (pv 5) pe_int (nomark _)) pa_nil)))))
      (pss_cons (ps_if ((pw_or (pt_not (pt_val (pv 3))) (pw_or1 (pt_cmpR o_ge (pv 5) (pe_callB c_len (by rfl) T.n_len (by decide +kernel) (pa_cons (pv 0) pa_nil)) (nomark _))))).pt (pss_cons (ps_set (i:=6) S.nd rfl (Or.inl rfl) (pe_op o_mod (pe_op o_mulB (pe_op o_addW (pe_op o_mod (pv 6) (pe_op o_pow pe_int pe_int)) (pe_op o_mulB pe_int (pv 5))) pe_int) pe_int))
      (pss_one (ps_set (i:=6) S.nd rfl (Or.inl rfl) (pe_op o_mod (pe_op o_mulB (pv 6) pe_int) pe_int)))) pss_nil)
      (pss_one (ps_expr (pe_bm PySem.F.plainAttrs_list PySem.F.slot_list_append PySem.F.type_list_append mt_append (pv 4) (pa_cons (pv 6) pa_nil)))))))
      (pss_one (ps_ret (pv 4))))))),(ab_seq (ab_asg (ab_cb ab_max (ab_cons ab_var (ab_cons (ab_cb ab_min (ab_cons ab_int (ab_cons (ab_cb ab_len (ab_cons ab_var ab_nil)) ab_nil))) ab_nil))) ab_name)
      (ab_seq (ab_asg (ab_op ab_eq (ab_op ab_mod (ab_call (ab_cons ab_var (ab_cons ab_int ab_nil))) ab_int) ab_int) ab_name)
      (ab_seq (ab_asg (ab_lst ab_nil) ab_name)
      (ab_seq (ab_for (ab_jrng1 (ab_cons ab_var ab_nil)) ab_name
      (ab_seq (ab_asg (ab_op ab_div (ab_call (ab_cons ab_var (ab_cons ab_var ab_nil))) (ab_op ab_add ab_int (ab_cb ab_xint (ab_cons (ab_op ab_eq ab_var ab_int) ab_nil)))) ab_name)
      (ab_seq (ab_ifH (ab_or (ab_not (ab_tb ab_var)) (ab_test (ab_op ab_ge ab_var (ab_cb ab_len (ab_cons ab_var ab_nil))))) (ab_seq (ab_asg (ab_op ab_mod (ab_op ab_mul (ab_op ab_add (ab_op ab_mod ab_var (ab_op ab_pow ab_int ab_int)) (ab_op ab_mul ab_int ab_var)) ab_int) ab_int) ab_name)
      (ab_asg (ab_op ab_mod (ab_op ab_mul ab_var ab_int) ab_int) ab_name)) ab_next)
      (ab_drop (ab_bm ab_isLst ab_mapp ab_var (ab_cons ab_var ab_nil))))))
      (ab_ret ab_var)))))⟩
  rintro us A Q ⟨ns,few,rfl,hn,h0,h63,q⟩
  refine ⟨rfl,?_⟩
  walk_at "qs"
  walk_at "qd"
  refine ⟨ns,0,rfl,by decide,fun z0=>?_⟩
  walk_at "qd"
  refine ⟨by decide,by decide,fun p hp=>?_⟩
  rw [List.length_map]
  generalize decide (z0 % 2=0)=raw
  walk_at "qd"
  refine ⟨by lia,by lia,?_⟩
  refine for_rng (fun k ρ A2=>∃ (ms:List Int) (x5 x6:Option U),ρ=[some (.rol (ns.map U.int)),some (.int few),some (.int (max few (min 63 ns.length))),some (.bl raw),some (.ref p),x5,x6]/\A2=updA A p (.lst (ms.map U.int))/\ms.length=k) ⟨[],_,_,rfl,rfl,rfl⟩ ?_ ?_
  . rintro k ρ A2 hk ⟨ms,x5,x6,rfl,rfl,hm⟩
    walk_at "qd"
    refine ⟨ns,_,rfl,by lia,fun z=>?_⟩
    walk_at "qd"
    rw [q_xintb]
    walk_at "qd"
    refine ⟨?_,?_⟩
    . split <;> exact ⟨by decide,by decide⟩
    . refine if_open (!raw || decide ((ns.length:Int)<=0 + k)) (fun B hB=>?_) ?_
      . walk_at "qd"
        rw [List.length_map]
        cases raw
        . exact iteTt rfl hB
        . exact iteFf rfl hB
      . generalize (z / (1 + if decide (0 + (k:Int)=0)=true then 1 else 0))=z'
        refine iteB (fun _=>?_) fun _=>?_
        . walk_at "qd"
          exact ⟨⟨by decide,by decide,by decide⟩,(show (0:Int) < 10 ^ Int.toNat 15 by decide),mul_small (.inl ⟨by decide,by decide⟩),mul_small (.inr ⟨by decide,by decide⟩),(show (0:Int) < 2147483647 by decide),mul_small (.inr ⟨by decide,by decide⟩),(show (0:Int) < 2147483629 by decide),
            ⟨_,updA_same⟩,_,updA_same,line1000' (by rw [List.length_map];lia),ms++[_],_,_,rfl,by rw [updA_updA,List.map_append];rfl,by rw [List.length_append,hm];rfl⟩
        . walk_at "qd"
          exact ⟨⟨_,updA_same⟩,_,updA_same,line1000' (by rw [List.length_map];lia),ms++[_],_,_,rfl,by rw [updA_updA,List.map_append];rfl,by rw [List.length_append,hm];rfl⟩
  . rintro ρ A2 ⟨ms,x5,x6,rfl,rfl,hm⟩
    walk_at "qd"
    exact fg (q p ms hp (by lia) (by lia))
theorem ok_kept:FnOk P w K mg base CX0 1 f_w_kept d_w_kept [] (spOf K asp_kept):=(ok_strs T.F_w_kept keptsL rfl rfl (by decide) sc_w_kept).imp fun vs H Q E ⟨us,A,Q',r,g,⟨e,q⟩,k⟩=>⟨by subst e;cases r;rfl,fun l hl=>k _ _ _ _ (Same.upd_new hl).kp (g.newL hl RUs.of_strs) (.ref l) (q l (g.none hl))⟩
theorem ok_word:FnOk P w K mg base CX0 2 f_w_word d_w_word ["_law_cell_here"] (spOf K asp_word):=by
  have G_w_kept:=ok_kept (P:=P) (w:=w) (base:=base) T
  refine' Fun.okA T.F_w_word (sc:=?sc12) (body:=?bd12) ?hs12 ?hb12 sc_w_word ?hB12 ?hS12
  case hs12=>conv=>lhs;whnf
  case hb12=>conv=>lhs;whnf
  case hB12=>exact fun S cdv A outer s H E hr=>⟨_,(pss_cons (ps_set (i:=1) S.nd rfl (Or.inl rfl) pe_str)
      (pss_cons (ps_set (i:=2) S.nd rfl (Or.inl rfl) (pe_op o_fdiv (pv 0) pe_int))
      (pss_cons (ps_for PassesOwn.never rfl (pj_range1 rfl T.n_range (pa_cons (pe_op o_addW pe_int (pe_op o_mod (pv 0) pe_int)) pa_nil)) (pg_name (i:=3) S.nd rfl (Or.inl rfl))
      (pss_cons (ps_set (i:=1) S.nd rfl (Or.inl rfl) (pe_op o_addW (pv 1) (pe_ix o_ix pe_str (pe_op o_mod (pv 2) pe_int) (fun _ _=>rfl))))
      (pss_one (ps_set (i:=2) S.nd rfl (Or.inl rfl) (pe_op o_fdiv (pv 2) pe_int)))))
      (pss_cons (ps_if (pt_cmpR o_in (pv 1) (pe_call0 (G_w_kept.mono (by first | decide | lia)) hr (by rfl) T.M_w_kept T.F_w_kept.kp T.B_w_kept .nil pass0) (by with_unfolding_all rfl)) (pss_one (ps_set (i:=1) S.nd rfl (Or.inl rfl) (pe_op o_addW (pv 1) pe_str))) pss_nil)
      (pss_one (ps_ret (pv 1))))))),(ab_seq (ab_asg ab_str ab_name)
      (ab_seq (ab_asg (ab_op ab_div ab_var ab_int) ab_name)
      (ab_seq (ab_for (ab_jrng1 (ab_cons (ab_op ab_add ab_int (ab_op ab_mod ab_var ab_int)) ab_nil)) ab_name
      (ab_seq (ab_asg (ab_op ab_add ab_var (ab_op ab_ix ab_str (ab_op ab_mod ab_var ab_int))) ab_name)
      (ab_asg (ab_op ab_div ab_var ab_int) ab_name)))
      (ab_seq (ab_ifs (ab_test (ab_op ab_in ab_var (ab_call ab_nil))) (ab_asg (ab_op ab_add ab_var ab_str) ab_name) ab_next)
      (ab_ret ab_var)))))⟩
  rintro us A Q ⟨c,rfl,q⟩
  refine ⟨rfl,?_⟩
  walk_at "qs"
  walk_at "qd"
  refine ⟨⟨by decide,by decide⟩,?_⟩
  walk_at "qd"
  have hc8:0<=c % 8/\c % 8 < 8:=⟨Int.emod_nonneg _ (by decide),Int.emod_lt_of_pos _ (by decide)⟩
  refine ⟨(show (0:Int) < 8 by decide),by lia,by lia,?_⟩
  refine for_rng (fun k ρ A2=>∃ (x:Str) (l:Int) (x3:Option U),ρ=[some (.int c),some (.str x),some (.int l),x3]/\A2=A/\x.length=k/\∀ c∈x.cps.toList,c∈lettersL.cps.toList) ⟨"",_,_,rfl,rfl,by decide +kernel,fun c hc=>absurd hc (by decide +revert +kernel)⟩ ?_ ?_
  . rintro k ρ A2 hk ⟨x,l,x3,rfl,rfl,hx,hc⟩
    walk_at "qd"
    have h26:0<=l % 26/\l % 26 < 26:=⟨Int.emod_nonneg _ (by decide),Int.emod_lt_of_pos _ (by decide)⟩
    obtain ⟨v,hv,hv2⟩:=atI_lt (xs:=(Str.ofString "abcdefghijklmnopqrstuvwxyz").cps.toList) (i:=l % 26) h26.1 (by rw [show (Str.ofString "abcdefghijklmnopqrstuvwxyz").cps.toList.length=26 from by decide +kernel];exact h26.2)
    refine ⟨(show (0:Int) < 26 by decide),by decide +kernel,v,hv,line1000 (by rw [hx];show k + 1<=_;lia),⟨by decide,by decide⟩,x++⟨#[v]⟩,_,_,rfl,trivial,by rw [Str.length_append,hx];rfl,fun d hd=>?_⟩
    rw [Str.cps_append,Array.toList_append,List.mem_append] at hd
    rcases hd with hd | hd
    . exact hc d hd
    . have:d=v:=by simpa using hd
      rw [this]
      exact List.mem_of_getElem? hv2
  . rintro ρ A2 ⟨x,l,x3,rfl,rfl,hx,hc⟩
    walk_at "qd"
    refine ⟨rfl,fun p hp=>?_⟩
    show xIn (.str x) (.ref p) _ _
    rw [q_inK]
    refine ⟨_,updA_same,rfl,rfl,_,rfl,?_⟩
    by_cases h:x∈keptsL
    . refine iteTt (inU_yes h) ⟨line1000 (by rw [hx,show (Str.ofString "x").length=1 from by decide +kernel];lia),fgx (Ext.new hp) (q _ ?_)⟩
      have key:∀ t∈keptsL,wdB (t++Str.ofString "x")=true:=by decide +kernel
      exact key x h
    . refine iteFf (inU_strs h) (fgx (Ext.new hp) (q _ ?_))
      unfold wdB
      rw [Bool.and_eq_true,Bool.and_eq_true,Bool.and_eq_true,List.all_eq_true]
      exact ⟨⟨fun c hcc=>decide_eq_true (hc c hcc),decide_eq_true (by lia),decide_eq_true (by lia)⟩,by simpa using h⟩
end
section
include T
theorem ok_lob (n:Nat):FnOk P w K mg base CX0 (n + 4) f_w_object d_w_object ["_law_rule"] (spOf K (asp_lobj (csL [a_Nothing,a_Bead,a_Named,a_Or,a_By,a_Row,a_Bag,a_Choice,a_Ring]) n)):=by
  induction n with
  | zero=>exact none_yet T.F_w_object sc_w_object lobj0
  | succ n G_w_object =>
    have G_Bead___init__:=ok_iBead (P:=P) (w:=w) (base:=base) T
    have G_Named___init__:=ok_iNamed (P:=P) (w:=w) (base:=base) T
    have G_Or___init__:=ok_iOr (P:=P) (w:=w) (base:=base) T
    have G_By___init__:=ok_iBy (P:=P) (w:=w) (base:=base) T
    have G_Row___init__:=ok_iRow (P:=P) (w:=w) (base:=base) T
    have G_Bag___init__:=ok_iBag (P:=P) (w:=w) (base:=base) T
    have G_Choice___init__:=ok_iChoice (P:=P) (w:=w) (base:=base) T
    have G_Ring___init__:=ok_iRing (P:=P) (w:=w) (base:=base) T
    refine' Fun.okA T.F_w_object (sc:=?sc13) (body:=?bd13) ?hs13 ?hb13 sc_w_object ?hB13 ?hS13
    case hs13=>conv=>lhs;whnf
    case hb13=>conv=>lhs;whnf
    case hB13=>exact fun S cdv A outer s H E hr=>⟨_,(pss_cons (ps_if (pt_cmpR (o_eqD hr) (pe_ix o_ix (pv 0) pe_int (fun _ _=>rfl)) pe_str (nomark _)) (pss_one (ps_ret (pe_mk0 T.K_Nothing (by rfl) T.m_Nothing))) pss_nil)
      (pss_cons (ps_if (pt_cmpR (o_eqD hr) (pe_ix o_ix (pv 0) pe_int (fun _ _=>rfl)) pe_str (nomark _)) (pss_one (ps_ret (pe_make T.K_Bead (G_Bead___init__.mono (by first | decide | lia)) hr (by rfl) T.m_Bead T.B_Bead___init__ .nil pass0 (pa_cons (pe_ix o_ix (pv 0) pe_int (fun _ _=>rfl)) pa_nil)))) pss_nil)
      (pss_cons (ps_if (pt_cmpR (o_eqD hr) (pe_ix o_ix (pv 0) pe_int (fun _ _=>rfl)) pe_str (nomark _)) (pss_one (ps_ret (pe_make T.K_Named (G_Named___init__.mono (by first | decide | lia)) hr (by rfl) T.m_Named T.B_Named___init__ .nil pass0 (pa_cons (pe_ix o_ix (pv 0) pe_int (fun _ _=>rfl)) pa_nil)))) pss_nil)
      (pss_cons (ps_set (i:=1) S.nd rfl (Or.inl rfl) (pe_call (G_w_object.mono (by first | decide | lia)) hr (by rfl) T.M_w_object T.F_w_object.kp T.B_w_object .nil pass0 (pa_cons (pe_ix o_ix (pv 0) pe_int (fun _ _=>rfl)) pa_nil)))
      (pss_cons (ps_if (pt_cmpR (o_eqD hr) (pe_ix o_ix (pv 0) pe_int (fun _ _=>rfl)) pe_str (nomark _)) (pss_one (ps_ret (pe_make T.K_Or (G_Or___init__.mono (by first | decide | lia)) hr (by rfl) T.m_Or T.B_Or___init__ .nil pass0 (pa_cons (pv 1) (pa_cons (pe_call (G_w_object.mono (by first | decide | lia)) hr (by rfl) T.M_w_object T.F_w_object.kp T.B_w_object .nil pass0 (pa_cons (pe_ix o_ix (pv 0) pe_int (fun _ _=>rfl)) pa_nil)) pa_nil))))) pss_nil)
      (pss_cons (ps_if (pt_cmpR (o_eqD hr) (pe_ix o_ix (pv 0) pe_int (fun _ _=>rfl)) pe_str (nomark _)) (pss_one (ps_ret (pe_make T.K_By (G_By___init__.mono (by first | decide | lia)) hr (by rfl) T.m_By T.B_By___init__ .nil pass0 (pa_cons (pv 1) (pa_cons (pe_call (G_w_object.mono (by first | decide | lia)) hr (by rfl) T.M_w_object T.F_w_object.kp T.B_w_object .nil pass0 (pa_cons (pe_ix o_ix (pv 0) pe_int (fun _ _=>rfl)) pa_nil)) pa_nil))))) pss_nil)
      (pss_cons (ps_if (pt_cmpR (o_eqD hr) (pe_ix o_ix (pv 0) pe_int (fun _ _=>rfl)) pe_str (nomark _)) (pss_one (ps_ret (pe_make T.K_Row (G_Row___init__.mono (by first | decide | lia)) hr (by rfl) T.m_Row T.B_Row___init__ .nil pass0 (pa_cons (pv 1) pa_nil)))) pss_nil)
      (pss_cons (ps_if (pt_cmpR (o_eqD hr) (pe_ix o_ix (pv 0) pe_int (fun _ _=>rfl)) pe_str (nomark _)) (pss_one (ps_ret (pe_make T.K_Bag (G_Bag___init__.mono (by first | decide | lia)) hr (by rfl) T.m_Bag T.B_Bag___init__ .nil pass0 (pa_cons (pv 1) pa_nil)))) pss_nil)
      (pss_cons (ps_if (pt_cmpR (o_eqD hr) (pe_ix o_ix (pv 0) pe_int (fun _ _=>rfl)) pe_str (nomark _)) (pss_one (ps_ret (pe_make T.K_Choice (G_Choice___init__.mono (by first | decide | lia)) hr (by rfl) T.m_Choice T.B_Choice___init__ .nil pass0 (pa_cons (pv 1) pa_nil)))) pss_nil)
      (pss_one (ps_ret (pe_make T.K_Ring (G_Ring___init__.mono (by first | decide | lia)) hr (by rfl) T.m_Ring T.B_Ring___init__ .nil pass0 (pa_cons (pv 1) pa_nil))))))))))))),(ab_seq (ab_ifs (ab_test (ab_op ab_eq (ab_op ab_ix ab_var ab_int) ab_str)) (ab_ret ab_mk0) ab_next)
      (ab_seq (ab_ifs (ab_test (ab_op ab_eq (ab_op ab_ix ab_var ab_int) ab_str)) (ab_ret (ab_make (ab_cons (ab_op ab_ix ab_var ab_int) ab_nil))) ab_next)
      (ab_seq (ab_ifs (ab_test (ab_op ab_eq (ab_op ab_ix ab_var ab_int) ab_str)) (ab_ret (ab_make (ab_cons (ab_op ab_ix ab_var ab_int) ab_nil))) ab_next)
      (ab_seq (ab_asg (ab_call (ab_cons (ab_op ab_ix ab_var ab_int) ab_nil)) ab_name)
      (ab_seq (ab_ifs (ab_test (ab_op ab_eq (ab_op ab_ix ab_var ab_int) ab_str)) (ab_ret (ab_make (ab_cons ab_var (ab_cons (ab_call (ab_cons (ab_op ab_ix ab_var ab_int) ab_nil)) ab_nil)))) ab_next)
      (ab_seq (ab_ifs (ab_test (ab_op ab_eq (ab_op ab_ix ab_var ab_int) ab_str)) (ab_ret (ab_make (ab_cons ab_var (ab_cons (ab_call (ab_cons (ab_op ab_ix ab_var ab_int) ab_nil)) ab_nil)))) ab_next)
      (ab_seq (ab_ifs (ab_test (ab_op ab_eq (ab_op ab_ix ab_var ab_int) ab_str)) (ab_ret (ab_make (ab_cons ab_var ab_nil))) ab_next)
      (ab_seq (ab_ifs (ab_test (ab_op ab_eq (ab_op ab_ix ab_var ab_int) ab_str)) (ab_ret (ab_make (ab_cons ab_var ab_nil))) ab_next)
      (ab_seq (ab_ifs (ab_test (ab_op ab_eq (ab_op ab_ix ab_var ab_int) ab_str)) (ab_ret (ab_make (ab_cons ab_var ab_nil))) ab_next)
      (ab_ret (ab_make (ab_cons ab_var ab_nil))))))))))))⟩
    rintro us A Q ⟨r,rfl,hd,q⟩
    refine ⟨rfl,?_⟩
    walk_at "qs"
    cases r with
    | nothing =>
      unfold Rl.toU
      walk_at "qg"
      exact iteTt rfl fun x dx hx=>fg (q _ x (Ext.new hx) ⟨dx,updA_same⟩)
    | bead c =>
      unfold Rl.toU
      walk_at "qg"
      exact iteFf (by decide +kernel) (iteTt rfl fun x dx hx=>⟨x,dx,_,rfl,updA_same,rfl,by rw [updA_updA];exact fg (q _ x (Ext.new hx) ⟨dx,updA_same⟩)⟩)
    | named c =>
      unfold Rl.toU
      walk_at "qg"
      exact iteFf (by decide +kernel) (iteFf (by decide +kernel) (iteTt rfl fun x dx hx=>⟨x,dx,_,rfl,updA_same,rfl,by rw [updA_updA];exact fg (q _ x (Ext.new hx) ⟨dx,updA_same⟩)⟩))
    | or x y =>
      unfold Rl.toU
      walk_at "qg"
      simp only [Rl.dep] at hd
      refine iteFf (by decide +kernel) (iteFf (by decide +kernel) (iteFf (by decide +kernel) (⟨x,rfl,by lia,fun B1 b1 e1 h1=>?_⟩)))
      walk_at "qg"
      refine iteTt rfl ⟨y,rfl,by lia,fun B2 b2 e2 h2 x3 dx hx=>⟨x3,dx,_,_,rfl,updA_same,rfl,?_⟩⟩
      rw [updA_updA]
      exact fg (q _ x3 ((e1.trans e2).trans (Ext.new hx)) ⟨dx,b1,b2,updA_same,(h1.ext e2).ext (Ext.new hx),h2.ext (Ext.new hx)⟩)
    | by_ x y =>
      unfold Rl.toU
      walk_at "qg"
      simp only [Rl.dep] at hd
      refine iteFf (by decide +kernel) (iteFf (by decide +kernel) (iteFf (by decide +kernel) (⟨x,rfl,by lia,fun B1 b1 e1 h1=>?_⟩)))
      walk_at "qg"
      refine iteFf (by decide +kernel) (iteTt rfl ⟨y,rfl,by lia,fun B2 b2 e2 h2 x3 dx hx=>⟨x3,dx,_,_,rfl,updA_same,rfl,?_⟩⟩)
      rw [updA_updA]
      exact fg (q _ x3 ((e1.trans e2).trans (Ext.new hx)) ⟨dx,b1,b2,updA_same,(h1.ext e2).ext (Ext.new hx),h2.ext (Ext.new hx)⟩)
    | hold k x =>
      unfold Rl.toU
      walk_at "qg"
      simp only [Rl.dep] at hd
      have hk:∀ z∈(["nothing","bead","name","or","by"]:List Str),decide (mname k=z)=false:=fun z hz=>decide_eq_false (mn_ne k hz)
      refine iteFf (hk _ (by decide +kernel)) (iteFf (hk _ (by decide +kernel)) (iteFf (hk _ (by decide +kernel)) ⟨x,rfl,by lia,fun B1 b1 e1 h1=>?_⟩))
      walk_at "qg"
      refine iteFf (hk _ (by decide +kernel)) (iteFf (hk _ (by decide +kernel)) ?_)
      have q':∀ (C:Addr) (b dx:Addr),B1 b=none->(csL [a_Nothing,a_Bead,a_Named,a_Or,a_By,a_Row,a_Bag,a_Choice,a_Ring]) (5 + min k 3)=C->Fg Q (.ref b) (updA (updA B1 b (.ins C dx [])) b (.ins C dx [("part",.ref b1)])):=fun C b dx hb e=>by
        subst e
        rw [updA_updA]
        exact fg (q _ b (e1.trans (Ext.new hb)) ⟨dx,b1,updA_same,h1.ext (Ext.new hb)⟩)
      clear hk q
      rcases k with _ | _ | _ | k
      . exact iteTt (by decide +kernel) fun b dx hb=>⟨b,dx,_,rfl,updA_same,rfl,q' _ b dx hb rfl⟩
      . exact iteFf (by decide +kernel) (iteTt (by decide +kernel) fun b dx hb=>⟨b,dx,_,rfl,updA_same,rfl,q' _ b dx hb rfl⟩)
      . exact iteFf (by decide +kernel) (iteFf (by decide +kernel) (iteTt (by decide +kernel) fun b dx hb=>⟨b,dx,_,rfl,updA_same,rfl,q' _ b dx hb rfl⟩))
      . rw [show mname (k + 1 + 1 + 1)=mname 3 from rfl]
        exact iteFf (by decide +kernel) (iteFf (by decide +kernel) (iteFf (by decide +kernel) fun b dx hb=>⟨b,dx,_,rfl,updA_same,rfl,q' _ b dx hb (by rw [Nat.min_eq_right (by lia)];rfl)⟩))
end
section
include T
theorem ok_total:FnOk P w K mg base CX0 1 f_w_total d_w_total ["_law_stack"] (spOf K asp_total):=by
  refine' Fun.okA T.F_w_total (sc:=?sc14) (body:=?bd14) ?hs14 ?hb14 sc_w_total ?hB14 ?hS14
  case hs14=>conv=>lhs;whnf
  case hb14=>conv=>lhs;whnf
  case hB14=>exact fun S cdv A outer s H E hr=>⟨_,(pss_one (ps_ret (pe_op o_sub (pe_op o_addW (pe_callB (c_sum rfl) (by rfl) T.n_sum (by decide +kernel) (pa_cons (pe_comp (ts:=["_law_one"]) (frs':=[]) (cl:=[]) rfl ⟨rfl,rfl,(by decide +kernel),(by decide +kernel),(fun _ z=>nomatch z),(noFree_has rfl rfl),(fun _ z=>nomatch z)⟩ (pj_seq (pv 0)) (fun _ _ _ _=>pg_name (i:=0) nd1 rfl (Or.inl rfl) (.inr rfl)) (fun _ _ _ _=>pifs_nil) (fun _ _ _ _=>by exact (pe_ix (k_ix K rfl) (pv 0) pe_int (fun _ _=>rfl)))) pa_nil)) (pe_callB c_len (by rfl) T.n_len (by decide +kernel) (pa_cons (pv 0) pa_nil))) pe_int))),(ab_ret (ab_op ab_sub (ab_op ab_add (ab_cb ab_sum (ab_cons (ab_comp (ab_jof ab_yseq ab_var) ab_name ab_true (ab_op ab_ix ab_var ab_int)) ab_nil)) (ab_cb ab_len (ab_cons ab_var ab_nil))) ab_int))⟩
  rintro us A Q ⟨a,ws,rfl,ha,hl,q⟩
  refine ⟨rfl,?_⟩
  walk_at "qs"
  walk_at "qd"
  refine ⟨⟨_,ha⟩,fun l hl2=>?_⟩
  walk_at "qc"
  refine cl_map (ws.map stU) (ws.map fun r=>U.int r.size) (by rw [List.length_map,List.length_map]) hl2 (by rw [List.length_map];lia) (fun k A2 _ e2=>⟨_,e2 _ _ ha,rfl⟩) (fun k u y A2 hu hy e2 Cy hC=>?_) ?_
  . rw [List.getElem?_map] at hu hy
    obtain ⟨r,hr,rfl⟩:=Option.map_eq_some_iff.mp hu
    rw [hr] at hy
    cases hy
    walk_at "qd"
    rw [q_st1]
    exact hC
  . walk_at "qd"
    refine ⟨ws.map fun r=>(r.size:Int),by rw [updA_same,List.map_map];rfl,_,Ext.new hl2 _ _ ha,?_⟩
    walk_at "qd"
    rw [List.length_map,show ((ws.map fun r=>(r.size:Int)).sum + (ws.length:Int) - 1)=(totR ws:Int) - 1 from by rw [sum_cast];unfold totR;lia]
    exact fgx (Ext.new hl2) q
theorem ok_op:FnOk P w K mg base CX0 3 f_w_op d_w_op ["_law_stack","_law_cell_here"] (spOf K asp_op):=by
  have G_w_word:=ok_word (P:=P) (w:=w) (base:=base) T
  refine' Fun.okA T.F_w_op (sc:=?sc15) (body:=?bd15) ?hs15 ?hb15 sc_w_op ?hB15 ?hS15
  case hs15=>conv=>lhs;whnf
  case hb15=>conv=>lhs;whnf
  case hB15=>exact fun S cdv A outer s H E hr=>⟨_,(pss_cons (ps_set (i:=2) S.nd rfl (Or.inl rfl) (pe_op o_mod (pv 1) pe_int))
      (pss_cons (ps_set (i:=3) S.nd rfl (Or.inl rfl) (pe_op o_fdiv (pv 1) pe_int))
      (pss_one (ps_if ((pw_and (pt_cmpR o_gt (pv 2) pe_int (nomark _)) (pw_and (pt_cmpR o_gt (pe_callB c_len (by rfl) T.n_len (by decide +kernel) (pa_cons (pv 0) pa_nil)) (pe_op o_mod (pv 2) pe_int) (nomark _)) (pw_and (pt_cmpR o_lt (pv 2) pe_int (nomark _)) (pw_and1 (pt_cmpR o_gt (pe_callB c_len (by rfl) T.n_len (by decide +kernel) (pa_cons (pv 0) pa_nil)) pe_int (nomark _))))))).pt (pss_cons (ps_set (i:=4) S.nd rfl (Or.inl rfl) (pe_bm0 PySem.F.plainAttrs_list PySem.F.slot_list_pop PySem.F.type_list_pop mt_pop (pv 0)))
      (pss_cons (ps_set (i:=5) S.nd rfl (Or.inl rfl) (pe_bm0 PySem.F.plainAttrs_list PySem.F.slot_list_pop PySem.F.type_list_pop mt_pop (pv 0)))
      (pss_cons (ps_set (i:=6) S.nd rfl (Or.inl rfl) (pe_op o_addW pe_int (pe_callB (c_maxA rfl) (by rfl) T.n_max (by decide +kernel) (pa_cons (pe_ix o_ix (pv 5) pe_int (fun _ _=>rfl)) (pa_cons (pe_ix o_ix (pv 4) pe_int (fun _ _=>rfl)) pa_nil)))))
      (pss_one (ps_expr (pe_bm PySem.F.plainAttrs_list PySem.F.slot_list_append PySem.F.type_list_append mt_append (pv 0) (pa_cons (pe_tup (pa_cons (pe_tup (pa_cons (pe_ix o_ix (pe_lst (pa_cons pe_str (pa_cons pe_str pa_nil))) (pe_op o_sub (pv 2) pe_int) (fun _ _=>rfl)) (pa_cons (pe_ix o_ix (pv 5) pe_int (fun _ _=>rfl)) (pa_cons (pe_ix o_ix (pv 4) pe_int (fun _ _=>rfl)) pa_nil)))) (pa_cons (pe_op o_addW (pe_op o_addW (pe_ix o_ix (pv 5) pe_int (fun _ _=>rfl)) (pe_ix o_ix (pv 4) pe_int (fun _ _=>rfl))) pe_int) (pa_cons (pv 6) pa_nil)))) pa_nil))))))) (pss_one (ps_if ((pw_and (pt_cmpR o_gt (pv 2) pe_int (nomark _)) (pw_and1 (pt_cmpR o_gt (pe_callB c_len (by rfl) T.n_len (by decide +kernel) (pa_cons (pv 0) pa_nil)) pe_int (nomark _))))).pt (pss_cons (ps_set (i:=7) S.nd rfl (Or.inl rfl) (pe_bm0 PySem.F.plainAttrs_list PySem.F.slot_list_pop PySem.F.type_list_pop mt_pop (pv 0)))
      (pss_one (ps_expr (pe_bm PySem.F.plainAttrs_list PySem.F.slot_list_append PySem.F.type_list_append mt_append (pv 0) (pa_cons (pe_tup (pa_cons (pe_tup (pa_cons (pe_ix o_ix (pe_lst (pa_strs (xs:=["row","bag","choice","ring"]) rfl)) (pe_op o_sub (pv 2) pe_int) (fun _ _=>rfl)) (pa_cons (pe_ix o_ix (pv 7) pe_int (fun _ _=>rfl)) pa_nil))) (pa_cons (pe_op o_addW (pe_ix o_ix (pv 7) pe_int (fun _ _=>rfl)) pe_int) (pa_cons (pe_op o_addW (pe_ix o_ix (pv 7) pe_int (fun _ _=>rfl)) pe_int) pa_nil)))) pa_nil))))) (pss_one (ps_if (pt_cmpR (o_eqD hr) (pv 2) pe_int (nomark _)) (pss_one (ps_expr (pe_bm PySem.F.plainAttrs_list PySem.F.slot_list_append PySem.F.type_list_append mt_append (pv 0) (pa_cons (pe_tup (pa_cons (pe_tup (pa_cons pe_str pa_nil)) (pa_cons pe_int (pa_cons pe_int pa_nil)))) pa_nil)))) (pss_one (ps_if (pt_cmpR o_lt (pv 2) pe_int (nomark _)) (pss_one (ps_expr (pe_bm PySem.F.plainAttrs_list PySem.F.slot_list_append PySem.F.type_list_append mt_append (pv 0) (pa_cons (pe_tup (pa_cons (pe_tup (pa_cons pe_str (pa_cons (pe_call (G_w_word.mono (by first | decide | lia)) hr (by rfl) T.M_w_word T.F_w_word.kp T.B_w_word .nil pass0 (pa_cons (pv 3) pa_nil)) pa_nil))) (pa_cons pe_int (pa_cons pe_int pa_nil)))) pa_nil)))) (pss_one (ps_expr (pe_bm PySem.F.plainAttrs_list PySem.F.slot_list_append PySem.F.type_list_append mt_append (pv 0) (pa_cons (pe_tup (pa_cons (pe_tup (pa_cons pe_str (pa_cons (pe_call (G_w_word.mono (by first | decide | lia)) hr (by rfl) T.M_w_word T.F_w_word.kp T.B_w_word .nil pass0 (pa_cons (pv 3) pa_nil)) pa_nil))) (pa_cons pe_int (pa_cons pe_int pa_nil)))) pa_nil)))))))))))))),(ab_seq (ab_asg (ab_op ab_mod ab_var ab_int) ab_name)
      (ab_seq (ab_asg (ab_op ab_div ab_var ab_int) ab_name)
      (ab_ifH (ab_and (ab_test (ab_op ab_gt ab_var ab_int)) (ab_and (ab_test (ab_op ab_gt (ab_cb ab_len (ab_cons ab_var ab_nil)) (ab_op ab_mod ab_var ab_int))) (ab_and (ab_test (ab_op ab_lt ab_var ab_int)) (ab_test (ab_op ab_gt (ab_cb ab_len (ab_cons ab_var ab_nil)) ab_int))))) (ab_seq (ab_asg (ab_bm0 ab_isLst ab_mpop ab_var) ab_name)
      (ab_seq (ab_asg (ab_bm0 ab_isLst ab_mpop ab_var) ab_name)
      (ab_seq (ab_asg (ab_op ab_add ab_int (ab_cb ab_max (ab_cons (ab_op ab_ix ab_var ab_int) (ab_cons (ab_op ab_ix ab_var ab_int) ab_nil)))) ab_name)
      (ab_drop (ab_bm ab_isLst ab_mapp ab_var (ab_cons (ab_tup (ab_cons (ab_tup (ab_cons (ab_op ab_ix (ab_lst (ab_cons ab_str (ab_cons ab_str ab_nil))) (ab_op ab_sub ab_var ab_int)) (ab_cons (ab_op ab_ix ab_var ab_int) (ab_cons (ab_op ab_ix ab_var ab_int) ab_nil)))) (ab_cons (ab_op ab_add (ab_op ab_add (ab_op ab_ix ab_var ab_int) (ab_op ab_ix ab_var ab_int)) ab_int) (ab_cons ab_var ab_nil)))) ab_nil)))))) (ab_ifH (ab_and (ab_test (ab_op ab_gt ab_var ab_int)) (ab_test (ab_op ab_gt (ab_cb ab_len (ab_cons ab_var ab_nil)) ab_int))) (ab_seq (ab_asg (ab_bm0 ab_isLst ab_mpop ab_var) ab_name)
      (ab_drop (ab_bm ab_isLst ab_mapp ab_var (ab_cons (ab_tup (ab_cons (ab_tup (ab_cons (ab_op ab_ix (ab_lst ab_strs) (ab_op ab_sub ab_var ab_int)) (ab_cons (ab_op ab_ix ab_var ab_int) ab_nil))) (ab_cons (ab_op ab_add (ab_op ab_ix ab_var ab_int) ab_int) (ab_cons (ab_op ab_add (ab_op ab_ix ab_var ab_int) ab_int) ab_nil)))) ab_nil)))) (ab_ifH (ab_test (ab_op ab_eq ab_var ab_int)) (ab_drop (ab_bm ab_isLst ab_mapp ab_var (ab_cons (ab_tup (ab_cons (ab_tup (ab_cons ab_str ab_nil)) (ab_cons ab_int (ab_cons ab_int ab_nil)))) ab_nil))) (ab_ifH (ab_test (ab_op ab_lt ab_var ab_int)) (ab_drop (ab_bm ab_isLst ab_mapp ab_var (ab_cons (ab_tup (ab_cons (ab_tup (ab_cons ab_str (ab_cons (ab_call (ab_cons ab_var ab_nil)) ab_nil))) (ab_cons ab_int (ab_cons ab_int ab_nil)))) ab_nil))) (ab_drop (ab_bm ab_isLst ab_mapp ab_var (ab_cons (ab_tup (ab_cons (ab_tup (ab_cons ab_str (ab_cons (ab_call (ab_cons ab_var ab_nil)) ab_nil))) (ab_cons ab_int (ab_cons ab_int ab_nil)))) ab_nil)))))))))⟩
  rintro us A Q ⟨a,z,ws,rfl,ha,hw,hl,q⟩
  refine ⟨rfl,?_⟩
  walk_at "qs"
  walk_at "qd"
  have hk:0<=z % 12/\z % 12 < 12:=⟨Int.emod_nonneg _ (by decide),Int.emod_lt_of_pos _ (by decide)⟩
  refine ⟨(show (0:Int) < 12 by decide),⟨by decide,by decide⟩,?_⟩
  generalize z % 12=k at hk ⊢
  generalize z / 12=t
  have hlm:(ws.map stU).length=ws.length:=List.length_map _
  by_cases h1:(k=6\/k=7)/\1 < ws.length
  . refine if_yes (fun B hB=>?_) ?_
    . walk_at "qd"
      refine iteTt (decide_eq_true (by lia)) ⟨_,ha,by decide,iteTt (decide_eq_true (by lia)) (iteTt (decide_eq_true (by lia)) ⟨_,ha,?_⟩)⟩
      rw [decide_eq_true (by lia)]
      exact hB
    . walk_at "qd"
      obtain ⟨ws0,x,y,rfl⟩:=last2 h1.2
      obtain ⟨zz,r,hz,hr,hrw⟩:=op_at h1.1 (x:=x) (y:=y)
      refine ⟨⟨_,ha⟩,(ws0++[x]).map stU,stU y,by rw [ha,List.map_append];rfl,⟨_,updA_same⟩,ws0.map stU,stU x,by rw [updA_same,List.map_append];rfl,?_⟩
      rw [updA_updA]
      simp only [q_st0,q_st1,q_st2]
      walk_at "qd"
      refine ⟨⟨_,updA_same⟩,by decide,fun p hp=>⟨_,_,updA_same,hz,?_⟩⟩
      walk_at "qd"
      obtain ⟨hp0,ho,hg⟩:=upd_ov (u:=.lst [.str "or",.str "by"]) (v:=.lst (ws0.map stU++[stU r])) hp
      refine ⟨tup3,tup3,_,hg,line1000' (by rw [List.length_map];simp only [List.length_append,List.length_cons,List.length_nil] at hl;lia),?_⟩
      rw [hr,ho]
      have:=q ws0 r ⟨[x,y],by simp⟩ (by rw [hrw,hw x (by simp),hw y (by simp)];rfl) (fun z=>by simp at z)
      rw [List.map_append] at this
      exact fgx (Ext.new hp0).put this
  . refine if_no (fun B hB=>?_) ?_
    . walk_at "qd"
      refine iteB (fun g1=>⟨_,ha,by decide,iteB (fun g2=>iteB (fun g3=>⟨_,ha,?_⟩) fun _=>hB) fun _=>hB⟩) fun _=>hB
      have g1:=of_decide_eq_true g1
      have g3:=of_decide_eq_true g3
      rw [decide_eq_false (by lia)]
      exact hB
    by_cases h2:7 < k/\0 < ws.length
    . refine if_yes (fun B hB=>?_) ?_
      . walk_at "qd"
        refine iteTt (decide_eq_true h2.1) ⟨_,ha,?_⟩
        rw [decide_eq_true (by lia)]
        exact hB
      . walk_at "qd"
        obtain ⟨ws0,x,rfl⟩:=last1 h2.2
        obtain ⟨j,hj⟩:=mn_atI (k:=k - 8) (by lia) (by lia)
        refine ⟨⟨_,ha⟩,ws0.map stU,stU x,by rw [ha,List.map_append];rfl,?_⟩
        walk_at "qd"
        refine ⟨⟨_,updA_same⟩,by decide,fun p hp=>⟨_,_,updA_same,hj,?_⟩⟩
        simp only [q_st0,q_st1,q_st2]
        walk_at "qd"
        obtain ⟨hp0,ho,hg⟩:=upd_ov (u:=.lst [.str "row",.str "bag",.str "choice",.str "ring"]) (v:=.lst (ws0.map stU++[stU (.hold j x)])) hp
        refine ⟨tup2,tup3,_,hg,line1000' (by rw [List.length_map];simp only [List.length_append,List.length_cons,List.length_nil] at hl;lia),?_⟩
        rw [stU_hold,ho]
        have:=q ws0 (.hold j x) ⟨[x],rfl⟩ (hw x (by simp)) (fun z=>by simp at z)
        rw [List.map_append] at this
        exact fgx (Ext.new hp0).put this
    . refine if_no (fun B hB=>?_) ?_
      . walk_at "qd"
        refine iteB (fun g1=>⟨_,ha,?_⟩) fun _=>hB
        have g1:=of_decide_eq_true g1
        rw [decide_eq_false (by lia)]
        exact hB
      have fin:∀ (A3:AHp) (r:Rl),Ext A A3->r.wd=true->r.size=1->r.dep=1->Fg Q .non (updA A3 a (.lst (ws.map stU++[stU r]))):=fun A3 r e h1 h2 h3=>by
        have:=q ws r List.prefix_rfl h1 (fun _=>⟨h2,h3⟩)
        rw [List.map_append] at this
        exact fgx e.put this
      by_cases h3:k=0
      . refine if_yes (fun B hB=>?_) ?_
        . walk_at "qd"
          rw [decide_eq_true h3]
          exact hB
        . walk_at "qd"
          exact ⟨⟨_,ha⟩,tup1,tup3,_,ha,line1000' (by lia),fin A .nothing (Ext.refl A) rfl rfl rfl⟩
      . refine if_no (fun B hB=>?_) ?_
        . walk_at "qd"
          rw [decide_eq_false h3]
          exact hB
        refine if_open (decide (k < 4)) (fun B hB=>?_) ?_
        . walk_at "qd"
          exact hB
        refine iteB (fun _=>?_) fun _=>?_
        . walk_at "qd"
          exact ⟨⟨_,ha⟩,t,rfl,fun x hx=>⟨tup2,tup3,_,ha,line1000' (by lia),fin A (.bead x) (Ext.refl A) hx rfl rfl⟩⟩
        . walk_at "qd"
          exact ⟨⟨_,ha⟩,t,rfl,fun x hx=>⟨tup2,tup3,_,ha,line1000' (by lia),fin A (.named x) (Ext.refl A) hx rfl rfl⟩⟩
end
theorem op_at2 {m:Int} (h:m=0\/m=1) {x y:Rl}:∃ (z:Str) (r:Rl),atI [U.str "or",U.str "by"] m=some (.str z)/\U.tup [.tup [.str z,x.toU,y.toU],.int ((x.size:Int) + (y.size:Int) + 1),.int (1 + max (x.dep:Int) (y.dep:Int))]=stU r/\r.wd=(x.wd && y.wd)/\r.size=x.size + y.size + 1/\r.dep=1 + max x.dep y.dep:=by
  rcases h with rfl | rfl
  . exact ⟨_,_,rfl,stU_or,rfl,rfl,rfl⟩
  . exact ⟨_,_,rfl,stU_by,rfl,rfl,rfl⟩
theorem tot_pre {ws0 ws:List Rl} (h:ws0 <+: ws):totR ws0<=totR ws:=by
  obtain ⟨t,rfl⟩:=h
  rw [totR_app];lia
section
include T
theorem ok_tree:FnOk P w K mg base CX0 5 f_w_tree d_w_tree ["_law_cells"] (spOf K asp_tree):=by
  have G_w_op:=ok_op (P:=P) (w:=w) (base:=base) T
  have G_w_total:=ok_total (P:=P) (w:=w) (base:=base) T
  refine' Fun.okA T.F_w_tree (sc:=?sc16) (body:=?bd16) ?hs16 ?hb16 sc_w_tree ?hB16 ?hS16
  case hs16=>conv=>lhs;whnf
  case hb16=>conv=>lhs;whnf
  case hB16=>exact fun S cdv A outer s H E hr=>⟨_,(pss_cons (ps_set (i:=1) S.nd rfl (Or.inl rfl) (pe_lst pa_nil))
      (pss_cons (ps_for PassesOwn.never rfl (pj_seq (pv 0)) (pg_name (i:=2) S.nd rfl (Or.inl rfl))
      (pss_cons (ps_set (i:=3) S.nd rfl (Or.inl rfl) (pe_callTy c_list (by rfl) T.n_list (by decide +kernel) (pa_cons (pv 1) pa_nil)))
      (pss_cons (ps_expr (pe_call (G_w_op.mono (by first | decide | lia)) hr (by rfl) T.M_w_op T.F_w_op.kp T.B_w_op .nil pass0 (pa_cons (pv 3) (pa_cons (pv 2) pa_nil))))
      (pss_one (ps_if ((pw_and (pt_cmpR o_le (pe_call (G_w_total.mono (by first | decide | lia)) hr (by rfl) T.M_w_total T.F_w_total.kp T.B_w_total .nil pass0 (pa_cons (pv 3) pa_nil)) pe_int (nomark _)) (pw_and1 (pt_cmpR o_le (pe_ix o_ix (pe_ix o_ix (pv 3) (pe_un un_neg pe_int) (fun _ _=>rfl)) pe_int (fun _ _=>rfl)) pe_int (nomark _))))).pt (pss_one (ps_set (i:=1) S.nd rfl (Or.inl rfl) (pv 3))) pss_nil)))))
      (pss_cons (ps_set (i:=4) S.nd rfl (Or.inl rfl) (pe_ix o_ix (pv 1) pe_int (fun _ _=>rfl)))
      (pss_cons (ps_for PassesOwn.never rfl (pj_enumS (by rfl) T.n_enumerate (pa_cons (pe_slice o_slW (pv 1) (po_some pe_int) po_none) pa_nil)) (pg_tup (n:=2) rfl (pgs_cons (pg_name (i:=5) S.nd rfl (Or.inl rfl)) (pgs_cons (pg_name (i:=6) S.nd rfl (Or.inl rfl)) pgs_nil)))
      (pss_cons (ps_set (i:=7) S.nd rfl (Or.inl rfl) (pe_op o_addW pe_int (pe_callB (c_maxA rfl) (by rfl) T.n_max (by decide +kernel) (pa_cons (pe_ix o_ix (pv 4) pe_int (fun _ _=>rfl)) (pa_cons (pe_ix o_ix (pv 6) pe_int (fun _ _=>rfl)) pa_nil)))))
      (pss_one (ps_if (pt_cmpR o_le (pv 7) pe_int (nomark _)) (pss_one (ps_set (i:=4) S.nd rfl (Or.inl rfl) (pe_tup (pa_cons (pe_tup (pa_cons (pe_ix o_ix (pe_lst (pa_cons pe_str (pa_cons pe_str pa_nil))) (pe_op o_mod (pv 5) pe_int) (fun _ _=>rfl)) (pa_cons (pe_ix o_ix (pv 4) pe_int (fun _ _=>rfl)) (pa_cons (pe_ix o_ix (pv 6) pe_int (fun _ _=>rfl)) pa_nil)))) (pa_cons (pe_op o_addW (pe_op o_addW (pe_ix o_ix (pv 4) pe_int (fun _ _=>rfl)) (pe_ix o_ix (pv 6) pe_int (fun _ _=>rfl))) pe_int) (pa_cons (pv 7) pa_nil)))))) pss_nil))))
      (pss_one (ps_ret (pe_ix o_ix (pv 4) pe_int (fun _ _=>rfl)))))))),(ab_seq (ab_asg (ab_lst ab_nil) ab_name)
      (ab_seq (ab_for (ab_jof ab_yseq ab_var) ab_name
      (ab_seq (ab_asg (ab_cb ab_listof (ab_cons ab_var ab_nil)) ab_name)
      (ab_seq (ab_drop (ab_call (ab_cons ab_var (ab_cons ab_var ab_nil))))
      (ab_ifH (ab_and (ab_test (ab_op ab_le (ab_call (ab_cons ab_var ab_nil)) ab_int)) (ab_test (ab_op ab_le (ab_op ab_ix (ab_op ab_ix ab_var (ab_un ab_neg ab_int)) ab_int) ab_int))) (ab_asg ab_var ab_name) ab_next))))
      (ab_seq (ab_asg (ab_op ab_ix ab_var ab_int) ab_name)
      (ab_seq (ab_for (ab_jargs ab_yenumS (ab_cons (ab_sl ab_xsl ab_var (ab_part ab_int) ab_nopart) ab_nil)) (ab_gtup (ab_gcons ab_name (ab_gcons ab_name ab_gnil)))
      (ab_seq (ab_asg (ab_op ab_add ab_int (ab_cb ab_max (ab_cons (ab_op ab_ix ab_var ab_int) (ab_cons (ab_op ab_ix ab_var ab_int) ab_nil)))) ab_name)
      (ab_ifH (ab_test (ab_op ab_le ab_var ab_int)) (ab_asg (ab_tup (ab_cons (ab_tup (ab_cons (ab_op ab_ix (ab_lst (ab_cons ab_str (ab_cons ab_str ab_nil))) (ab_op ab_mod ab_var ab_int)) (ab_cons (ab_op ab_ix ab_var ab_int) (ab_cons (ab_op ab_ix ab_var ab_int) ab_nil)))) (ab_cons (ab_op ab_add (ab_op ab_add (ab_op ab_ix ab_var ab_int) (ab_op ab_ix ab_var ab_int)) ab_int) (ab_cons ab_var ab_nil)))) ab_name) ab_next)))
      (ab_ret (ab_op ab_ix ab_var ab_int))))))⟩
  rintro us A Q ⟨a,ns,rfl,ha,h1,h60,q⟩
  refine ⟨rfl,?_⟩
  walk_at "qs"
  walk_at "qd"
  refine ⟨by decide,fun p hp=>⟨⟨_,by rw [updA_ne (neA ha hp)];exact ha⟩,?_⟩⟩
  refine for_lst (ns.map U.int) (fun k ρ A2=>∃ (ws:List Rl) (s:Addr) (x2 x3:Option U),ρ=[some (.ref a),some (.ref s),x2,x3,none,none,none,none]/\Ext A A2/\A2 s=some (.lst (ws.map stU))/\wdR ws/\(∀ r∈ws,r.dep<=30)/\totR ws<=61/\(0 < k->ws≠[])) ⟨[],p,_,_,rfl,Ext.new hp,updA_same,fun _ h=>(by cases h),fun _ h=>(by cases h),by decide,fun h=>absurd h (by decide)⟩ (fun k ρ A2 _ ⟨ws,s,_,_,_,e,_⟩=>e _ _ ha) ?_ ?_
  . rintro k u ρ A2 hu ⟨ws,s,x2,x3,rfl,e2,hs,hw,hd,ht,hne⟩
    obtain ⟨n,_,rfl⟩:=map_get hu
    have hlt:=len_tot ws
    walk_at "qd"
    refine ⟨_,hs,fun l hl=>⟨l,n,ws,rfl,updA_same,hw,by lia,fun ws0 r hp hr h1=>?_⟩⟩
    have hpl:=hp.length_le
    have hpt:=tot_pre hp
    rw [updA_updA]
    have eT:totR (ws0++[r])=totR ws0 + (r.size + 1):=by rw [totR_app,totR_one]
    refine if_open (decide ((totR (ws0++[r]):Int) - 1<=60) && decide (r.dep<=30)) (fun B hB=>?_) ?_
    . walk_at "qd"
      refine ⟨l,ws0++[r],rfl,updA_same,by rw [List.length_append,List.length_cons,List.length_nil];lia,?_⟩
      walk_at "qd"
      by_cases g1:(totR (ws0++[r]):Int) - 1<=60
      . refine iteTt (decide_eq_true g1) ⟨_,_,updA_same,by rw [List.map_append];exact atI_last _ _,?_⟩
        rw [q_st2]
        walk_at "qd"
        rw [decide_eq_true g1,Bool.true_and] at hB
        rw [show decide ((r.dep:Int)<=30)=decide (r.dep<=30) from decide_eq_decide.mpr (by lia)]
        exact hB
      . rw [decide_eq_false g1] at hB
        exact iteFf (decide_eq_false g1) hB
    . refine iteB (fun h=>?_) fun h=>?_
      . rw [Bool.and_eq_true,decide_eq_true_eq,decide_eq_true_eq] at h
        walk_at "qd"
        refine ⟨ws0++[r],l,_,_,rfl,e2.trans (Ext.new hl),updA_same,?_,?_,by lia,fun _=>by simp⟩
        . intro x hx
          rcases List.mem_append.mp hx with hx | hx
          . exact hw x (hp.subset hx)
          . rw [List.mem_singleton.mp hx];exact hr
        . intro x hx
          rcases List.mem_append.mp hx with hx | hx
          . exact hd x (hp.subset hx)
          . rw [List.mem_singleton.mp hx];exact h.2
      . walk_at "qd"
        refine ⟨ws,s,_,_,rfl,e2.trans (Ext.new hl),Ext.new hl _ _ hs,hw,hd,ht,fun _ e=>?_⟩
        obtain ⟨g1,g2⟩:=h1 e
        subst e
        have:ws0=[]:=List.prefix_nil.mp hp
        subst this
        rw [eT,g1,g2] at h
        exact absurd h (by decide)
  . rintro ρ A2 ⟨ws,s,x2,x3,rfl,e2,hs,hw,hd,ht,hne⟩
    have hne:=hne (by rw [List.length_map];lia)
    obtain ⟨w0,ws1,rfl⟩:=List.exists_cons_of_ne_nil hne
    have hlt:=len_tot (w0::ws1)
    walk_at "qd"
    refine ⟨_,_,hs,atI_nat (j:=0) rfl,?_⟩
    walk_at "qd"
    refine ⟨_,hs,fun p2 hp2=>?_⟩
    rw [List.map_cons,cutU_tail]
    have t0:totR (w0::ws1)=w0.size + 1 + totR ws1:=by rw [<- totR_one,<- totR_app];rfl
    refine ⟨⟨_,updA_same⟩,?_⟩
    refine for_enumA (ws1.map stU) (fun k ρ A3=>∃ (r:Rl) (x5 x6 x7:Option U),ρ=[some (.ref a),some (.ref s),x2,x3,some (stU r),x5,x6,x7]/\Ext (updA A2 p2 (.lst (ws1.map stU))) A3/\r.wd=true/\r.dep<=30/\r.size + totR (ws1.drop k)<=60) ⟨w0,_,_,_,rfl,Ext.refl _,hw w0 (by simp),hd w0 (by simp),by rw [List.drop_zero];lia⟩ (fun k ρ A3 _ ⟨r,_,_,_,_,e,_⟩=>e _ _ updA_same) ?_ ?_
    . rintro k u ρ A3 hu ⟨r,x5,x6,x7,rfl,e3,hrw,hrd,hrs⟩
      obtain ⟨y,hy,rfl⟩:=map_get hu
      have hyk:=(List.getElem?_eq_some_iff.mp hy).1
      have hdk:totR (ws1.drop k)=y.size + 1 + totR (ws1.drop (k + 1)):=by
        rw [List.drop_eq_getElem_cons hyk,<- totR_one,<- totR_app]
        have:ws1[k]=y:=by rw [List.getElem?_eq_getElem hyk] at hy;injection hy
        rw [this];rfl
      have hym:y∈w0::ws1:=List.mem_cons_of_mem _ (List.mem_of_getElem? hy)
      walk_at "qd"
      simp only [q_st0,q_st1,q_st2]
      walk_at "qd"
      have hm:(k:Int) % 2=0\/(k:Int) % 2=1:=by lia
      obtain ⟨zz,r2,hz,hr2,hw2,hs2,hd2⟩:=op_at2 hm (x:=r) (y:=y)
      refine ⟨rfl,?_⟩
      refine if_open (decide (1 + max (r.dep:Int) (y.dep:Int)<=30)) (fun B hB=>?_) ?_
      . walk_at "qd"
        exact hB
      refine iteB (fun h=>?_) fun h=>?_
      . have h:=of_decide_eq_true h
        walk_at "qd"
        refine ⟨by decide,fun p3 hp3=>⟨by decide,_,_,updA_same,hz,?_⟩⟩
        simp only [q_st0,q_st1,q_st2]
        walk_at "qd"
        refine ⟨tup3,tup3,r2,_,_,_,by rw [<- hr2],e3.trans (Ext.new hp3),by rw [hw2,hrw,hw y hym];rfl,by lia,by lia⟩
      . walk_at "qd"
        exact ⟨r,_,_,_,rfl,e3,hrw,hrd,by lia⟩
    . rintro ρ A3 ⟨r,x5,x6,x7,rfl,e3,hrw,hrd,hrs⟩
      walk_at "qd"
      rw [q_st0]
      exact fgx ((e2.trans (Ext.new hp2)).trans e3) (q r hrw hrd (by lia))
end
noncomputable def asp_inside (cs:Nat->Addr) (i:Nat):ASp:=fun us A Q=>∃ (a:Addr) (r:Rl),us=[.ref a]/\RlO cs A a r/\r.ci=i/\∀ l ps,A l=none->RlOs cs A ps r.kids->Q (.ref l) (updA A l (.lst (ps.map U.ref)))
noncomputable def asp_insR (cs:Nat->Addr):ASp:=fun us A Q=>∃ (a:Addr) (r:Rl),us=[.ref a]/\RlO cs A a r/\r.kids=[]/\∀ l ps,A l=none->RlOs cs A ps r.kids->Q (.ref l) (updA A l (.lst (ps.map U.ref)))
noncomputable def asp_names (cs:Nat->Addr) (n i:Nat):ASp:=fun us A Q=>∃ (a:Addr) (r:Rl),us=[.ref a]/\RlO cs A a r/\r.ci=i/\r.dep<=n/\r.size<=60/\∀ B l zs,Ext A B->A l=none->B l=some (.lst (zs.map U.str))->NmOk r zs->Q (.ref l) B
noncomputable def asp_namesR (cs:Nat->Addr) (n:Nat):ASp:=fun us A Q=>∃ (a:Addr) (r:Rl),us=[.ref a]/\RlO cs A a r/\r.ci≠2/\r.dep<=n/\r.size<=60/\∀ B l zs,Ext A B->A l=none->B l=some (.lst (zs.map U.str))->NmOk r zs->Q (.ref l) B
noncomputable def tblG (cs:Nat->Addr) (sp:Nat->ASp):List (Addr × ASp):=(List.range 9).map fun i=>(cs i,sp i)
theorem tblG_mem {cs:Nat->Addr} {sp:Nat->ASp} (r:Rl):(cs r.ci,sp r.ci)∈tblG cs sp:=List.mem_map.mpr ⟨r.ci,List.mem_range.mpr r.ci_lt,rfl⟩
theorem mokG {P:Program} {w:World} {K:PySem.W.Frag} {mg:Str->Option Value} {base:Heap} {cs:Nat->Addr} {k:Nat} {m:Str} {sp:Nat->ASp} (h:∀ i,i < 9->∃ f fd ps,Cls K (cs i)/\Meth K (cs i) m f/\FnOk P w K mg base CX0 k f fd ps (spOf K (sp i))/\Binds K fd ps []):MOk P w K mg base CX0 k m ((tblG cs sp).map fun p=>(p.1,spOf K p.2)):=fun C s hin=>by
  obtain ⟨p,hp,e⟩:=List.mem_map.mp hin
  obtain ⟨i,hi,e2⟩:=List.mem_map.mp hp
  subst e2
  cases e
  exact h i (List.mem_range.mp hi)
theorem names_nm:(("names":Str)) ∉ (["colour","name","one","other","part"]:List Str):=by decide +kernel
theorem inside_nm:(("inside":Str)) ∉ (["colour","name","one","other","part"]:List Str):=by decide +kernel
noncomputable def rmA (A:AHp) (f:Addr):AHp:=fun x=>if x=f then none else A x
theorem rmA_put {A:AHp} {f:Addr} {o:AO} (h:A f=some o):updA (rmA A f) f o=A:=by
  funext x
  unfold updA rmA
  by_cases e:x=f
  . rw [if_pos e,e,h]
  . rw [if_neg e,if_neg e]
theorem rmA_no {A:AHp} {f:Addr}:rmA A f f=none:=if_pos rfl
theorem rmA_ne {A:AHp} {f x:Addr} (h:x≠f):rmA A f x=A x:=if_neg h
theorem rmA_ext {B A:AHp} {f:Addr} (e:Ext B A) (h:B f=none):Ext B (rmA A f):=fun x o q=>by
  rw [rmA_ne (fun z=>by rw [z,h] at q;cases q)]
  exact e x o q
theorem ext_none {A B:AHp} {x:Addr} (e:Ext A B) (h:B x=none):A x=none:=by
  cases q:A x with
  | none=>rfl
  | some o=>rw [e x o q] at h;cases h
structure KsOk (ks:List Str) (ds:List Str) (n:Nat):Prop where
  nd:ks.Nodup
  mem:∀ z,z∈ks ↔ z∈ds
  len:ks.length<=n
theorem KsOk.add {ks ds:List Str} {n:Nat} {z:Str} (h:KsOk ks ds n):KsOk (addT ks z) (ds++[z]) (n + 1):=⟨addT_nd h.nd,fun x=>by rw [addT_mem,h.mem,List.mem_append,List.mem_singleton],Nat.le_trans (addT_len ks z) (Nat.succ_le_succ h.len)⟩
theorem ins_go {cs:Nat->Addr} {A:AHp} {a:Addr} {r:Rl} {Q:AVK} (hr:RlO cs A a r) (q:∀ l ps,A l=none->RlOs cs A ps r.kids->Q (.ref l) (updA A l (.lst (ps.map U.ref)))):∃ b dx fs C asp,U.ref a=.ref b/\A b=some (.ins C dx fs)/\(C,asp)∈tblG cs (asp_inside cs)/\fs.lookup (Str.ofString "inside")=none/\asp [.ref a] A Q:=by
  obtain ⟨dx,fs,ha,hl⟩:=hr.cls inside_nm
  exact ⟨a,dx,fs,_,_,rfl,ha,tblG_mem r,hl,a,r,rfl,hr,rfl,q⟩
theorem names_go {cs:Nat->Addr} {A:AHp} {a:Addr} {r:Rl} {n:Nat} {Q:AVK} (hr:RlO cs A a r) (hd:r.dep<=n) (hs:r.size<=60) (q:∀ B l zs,Ext A B->A l=none->B l=some (.lst (zs.map U.str))->NmOk r zs->Q (.ref l) B):∃ b dx fs C asp,U.ref a=.ref b/\A b=some (.ins C dx fs)/\(C,asp)∈tblG cs (asp_names cs n)/\fs.lookup (Str.ofString "names")=none/\asp [.ref a] A Q:=by
  obtain ⟨dx,fs,ha,hl⟩:=hr.cls names_nm
  exact ⟨a,dx,fs,_,_,rfl,ha,tblG_mem r,hl,a,r,rfl,hr,rfl,hd,hs,q⟩
theorem RlO.drop {cs:Nat->Addr} {A:AHp} {p:Addr} {φ:PySem.W.Frag->Hp->Addr->Prop}:∀ {a:Addr} {r:Rl},RlO cs (updA A p (.oth φ)) a r->RlO cs A a r:=by
  have key:∀ {a C dx:Addr} {fs:List (Str × U)},updA A p (.oth φ) a=some (.ins C dx fs)->A a=some (.ins C dx fs):=fun {a C dx fs} h=>by
    by_cases e:a=p
    . rw [e,updA_same] at h;cases h
    . rwa [updA_ne e] at h
  intro a r
  induction r generalizing a with
  | nothing=>exact fun ⟨dx,h⟩=>⟨dx,key h⟩
  | bead c=>exact fun ⟨dx,h⟩=>⟨dx,key h⟩
  | named c=>exact fun ⟨dx,h⟩=>⟨dx,key h⟩
  | or x y ih1 ih2=>exact fun ⟨dx,p,q,h,h1,h2⟩=>⟨dx,p,q,key h,ih1 h1,ih2 h2⟩
  | by_ x y ih1 ih2=>exact fun ⟨dx,p,q,h,h1,h2⟩=>⟨dx,p,q,key h,ih1 h1,ih2 h2⟩
  | hold k x ih=>exact fun ⟨dx,p,h,h1⟩=>⟨dx,p,key h,ih h1⟩
theorem flat_take {α β:Type} (f:α->List β) (l:List α) (k:Nat):((l.take k).map f).flatten.length<=(l.map f).flatten.length:=by
  have:(l.map f).flatten=((l.take k).map f).flatten++((l.drop k).map f).flatten:=by rw [<- List.flatten_append,<- List.map_append,List.take_append_drop]
  rw [this,List.length_append]
  exact Nat.le_add_right _ _
theorem flat_succ {α β:Type} {f:α->List β} {l:List α} {k:Nat} {x:α} (h:l[k]? = some x):((l.take (k + 1)).map f).flatten=((l.take k).map f).flatten++f x:=by
  obtain ⟨hl,e⟩:=List.getElem?_eq_some_iff.mp h
  rw [List.take_succ_eq_append_getElem hl,List.map_append,List.flatten_append,e]
  simp
section
include T
theorem clss:∀ c∈[a_Nothing,a_Bead,a_Named,a_Or,a_By,a_Row,a_Bag,a_Choice,a_Ring],Cls K c:=by
  simp only [List.mem_cons,List.not_mem_nil,or_false,forall_eq_or_imp,forall_eq]
  exact ⟨T.L_Nothing,T.L_Bead,T.L_Named,T.L_Or,T.L_By,T.L_Row,T.L_Bag,T.L_Choice,T.L_Ring⟩
theorem ok_insR:FnOk P w K mg base CX0 1 f_Rule_inside d_Rule_inside ["self"] (spOf K (asp_insR (csL [a_Nothing,a_Bead,a_Named,a_Or,a_By,a_Row,a_Bag,a_Choice,a_Ring]))):=by
  refine' Fun.okA T.F_Rule_inside (sc:=?sc17) (body:=?bd17) ?hs17 ?hb17 sc_Rule_inside ?hB17 ?hS17
  case hs17=>conv=>lhs;whnf
  case hb17=>conv=>lhs;whnf
  case hB17=>exact fun S cdv A outer s H E hr=>⟨_,(pss_one (ps_ret (pe_lst pa_nil))),(ab_ret (ab_lst ab_nil))⟩
  rintro us A Q ⟨a,r,rfl,hr,hk,q⟩
  refine ⟨rfl,?_⟩
  walk_at "qs"
  walk_at "qd"
  refine ⟨by decide,fun l hl=>fg (q l [] hl ?_)⟩
  rw [hk]
  trivial
theorem ok_insOr:FnOk P w K mg base CX0 1 f_Or_inside d_Or_inside ["self"] (spOf K (asp_inside (csL [a_Nothing,a_Bead,a_Named,a_Or,a_By,a_Row,a_Bag,a_Choice,a_Ring]) 3)):=by
  refine' Fun.okA T.F_Or_inside (sc:=?sc18) (body:=?bd18) ?hs18 ?hb18 sc_Or_inside ?hB18 ?hS18
  case hs18=>conv=>lhs;whnf
  case hb18=>conv=>lhs;whnf
  case hB18=>exact fun S cdv A outer s H E hr=>⟨_,(pss_one (ps_ret (pe_lst (pa_cons (pe_fld (pv 0) rfl) (pa_cons (pe_fld (pv 0) rfl) pa_nil))))),(ab_ret (ab_lst (ab_cons (ab_fld ab_var) (ab_cons (ab_fld ab_var) ab_nil))))⟩
  rintro us A Q ⟨a,r,rfl,hr,hc,q⟩
  obtain ⟨x,y,rfl⟩:=Rl.ci3 hc
  obtain ⟨dx,p1,p2,ha,h1,h2⟩:=hr
  refine ⟨rfl,?_⟩
  walk_at "qs"
  walk_at "qd"
  exact ⟨a,_,dx,_,_,rfl,ha,T.L_Or,T.N_Or_one,lk1,a,_,dx,_,_,rfl,ha,T.L_Or,T.N_Or_other,lk2 (by decide +kernel),tup2,fun l hl=>fg (q l [p1,p2] hl ⟨h1,h2,trivial⟩)⟩
theorem ok_insBy:FnOk P w K mg base CX0 1 f_By_inside d_By_inside ["self"] (spOf K (asp_inside (csL [a_Nothing,a_Bead,a_Named,a_Or,a_By,a_Row,a_Bag,a_Choice,a_Ring]) 4)):=by
  refine' Fun.okA T.F_By_inside (sc:=?sc19) (body:=?bd19) ?hs19 ?hb19 sc_By_inside ?hB19 ?hS19
  case hs19=>conv=>lhs;whnf
  case hb19=>conv=>lhs;whnf
  case hB19=>exact fun S cdv A outer s H E hr=>⟨_,(pss_one (ps_ret (pe_lst (pa_cons (pe_fld (pv 0) rfl) (pa_cons (pe_fld (pv 0) rfl) pa_nil))))),(ab_ret (ab_lst (ab_cons (ab_fld ab_var) (ab_cons (ab_fld ab_var) ab_nil))))⟩
  rintro us A Q ⟨a,r,rfl,hr,hc,q⟩
  obtain ⟨x,y,rfl⟩:=Rl.ci4 hc
  obtain ⟨dx,p1,p2,ha,h1,h2⟩:=hr
  refine ⟨rfl,?_⟩
  walk_at "qs"
  walk_at "qd"
  exact ⟨a,_,dx,_,_,rfl,ha,T.L_By,T.N_By_one,lk1,a,_,dx,_,_,rfl,ha,T.L_By,T.N_By_other,lk2 (by decide +kernel),tup2,fun l hl=>fg (q l [p1,p2] hl ⟨h1,h2,trivial⟩)⟩
theorem ok_insRow:FnOk P w K mg base CX0 1 f_Row_inside d_Row_inside ["self"] (spOf K (asp_inside (csL [a_Nothing,a_Bead,a_Named,a_Or,a_By,a_Row,a_Bag,a_Choice,a_Ring]) 5)):=by
  refine' Fun.okA T.F_Row_inside (sc:=?sc20) (body:=?bd20) ?hs20 ?hb20 sc_Row_inside ?hB20 ?hS20
  case hs20=>conv=>lhs;whnf
  case hb20=>conv=>lhs;whnf
  case hB20=>exact fun S cdv A outer s H E hr=>⟨_,(pss_one (ps_ret (pe_lst (pa_cons (pe_fld (pv 0) rfl) pa_nil)))),(ab_ret (ab_lst (ab_cons (ab_fld ab_var) ab_nil)))⟩
  rintro us A Q ⟨a,r,rfl,hr,hc,q⟩
  obtain ⟨k,x,rfl,hk⟩:=Rl.ci5 (j:=0) (by decide) hc
  obtain ⟨dx,p1,ha,h1⟩:=hr
  rw [hk] at ha
  refine ⟨rfl,?_⟩
  walk_at "qs"
  walk_at "qd"
  exact ⟨a,_,dx,_,_,rfl,ha,T.L_Row,T.N_Row_part,lkp,tup1,fun l hl=>fg (q l [p1] hl ⟨h1,trivial⟩)⟩
theorem ok_insBag:FnOk P w K mg base CX0 1 f_Bag_inside d_Bag_inside ["self"] (spOf K (asp_inside (csL [a_Nothing,a_Bead,a_Named,a_Or,a_By,a_Row,a_Bag,a_Choice,a_Ring]) 6)):=by
  refine' Fun.okA T.F_Bag_inside (sc:=?sc21) (body:=?bd21) ?hs21 ?hb21 sc_Bag_inside ?hB21 ?hS21
  case hs21=>conv=>lhs;whnf
  case hb21=>conv=>lhs;whnf
  case hB21=>exact fun S cdv A outer s H E hr=>⟨_,(pss_one (ps_ret (pe_lst (pa_cons (pe_fld (pv 0) rfl) pa_nil)))),(ab_ret (ab_lst (ab_cons (ab_fld ab_var) ab_nil)))⟩
  rintro us A Q ⟨a,r,rfl,hr,hc,q⟩
  obtain ⟨k,x,rfl,hk⟩:=Rl.ci5 (j:=1) (by decide) hc
  obtain ⟨dx,p1,ha,h1⟩:=hr
  rw [hk] at ha
  refine ⟨rfl,?_⟩
  walk_at "qs"
  walk_at "qd"
  exact ⟨a,_,dx,_,_,rfl,ha,T.L_Bag,T.N_Bag_part,lkp,tup1,fun l hl=>fg (q l [p1] hl ⟨h1,trivial⟩)⟩
theorem ok_insChoice:FnOk P w K mg base CX0 1 f_Choice_inside d_Choice_inside ["self"] (spOf K (asp_inside (csL [a_Nothing,a_Bead,a_Named,a_Or,a_By,a_Row,a_Bag,a_Choice,a_Ring]) 7)):=by
  refine' Fun.okA T.F_Choice_inside (sc:=?sc22) (body:=?bd22) ?hs22 ?hb22 sc_Choice_inside ?hB22 ?hS22
  case hs22=>conv=>lhs;whnf
  case hb22=>conv=>lhs;whnf
  case hB22=>exact fun S cdv A outer s H E hr=>⟨_,(pss_one (ps_ret (pe_lst (pa_cons (pe_fld (pv 0) rfl) pa_nil)))),(ab_ret (ab_lst (ab_cons (ab_fld ab_var) ab_nil)))⟩
  rintro us A Q ⟨a,r,rfl,hr,hc,q⟩
  obtain ⟨k,x,rfl,hk⟩:=Rl.ci5 (j:=2) (by decide) hc
  obtain ⟨dx,p1,ha,h1⟩:=hr
  rw [hk] at ha
  refine ⟨rfl,?_⟩
  walk_at "qs"
  walk_at "qd"
  exact ⟨a,_,dx,_,_,rfl,ha,T.L_Choice,T.N_Choice_part,lkp,tup1,fun l hl=>fg (q l [p1] hl ⟨h1,trivial⟩)⟩
theorem ok_insRing:FnOk P w K mg base CX0 1 f_Ring_inside d_Ring_inside ["self"] (spOf K (asp_inside (csL [a_Nothing,a_Bead,a_Named,a_Or,a_By,a_Row,a_Bag,a_Choice,a_Ring]) 8)):=by
  refine' Fun.okA T.F_Ring_inside (sc:=?sc23) (body:=?bd23) ?hs23 ?hb23 sc_Ring_inside ?hB23 ?hS23
  case hs23=>conv=>lhs;whnf
  case hb23=>conv=>lhs;whnf
  case hB23=>exact fun S cdv A outer s H E hr=>⟨_,(pss_one (ps_ret (pe_lst (pa_cons (pe_fld (pv 0) rfl) pa_nil)))),(ab_ret (ab_lst (ab_cons (ab_fld ab_var) ab_nil)))⟩
  rintro us A Q ⟨a,r,rfl,hr,hc,q⟩
  obtain ⟨k,x,rfl,hk⟩:=Rl.ci5 (j:=3) (by decide) hc
  obtain ⟨dx,p1,ha,h1⟩:=hr
  rw [hk] at ha
  refine ⟨rfl,?_⟩
  walk_at "qs"
  walk_at "qd"
  exact ⟨a,_,dx,_,_,rfl,ha,T.L_Ring,T.N_Ring_part,lkp,tup1,fun l hl=>fg (q l [p1] hl ⟨h1,trivial⟩)⟩
theorem ok_inside:MOk P w K mg base CX0 1 "inside" ((tblG (csL [a_Nothing,a_Bead,a_Named,a_Or,a_By,a_Row,a_Bag,a_Choice,a_Ring]) (asp_inside (csL [a_Nothing,a_Bead,a_Named,a_Or,a_By,a_Row,a_Bag,a_Choice,a_Ring]))).map fun p=>(p.1,spOf K p.2)):=by
  have g0:∀ i,i < 3->FnOk P w K mg base CX0 1 f_Rule_inside d_Rule_inside ["self"] (spOf K (asp_inside (csL [a_Nothing,a_Bead,a_Named,a_Or,a_By,a_Row,a_Bag,a_Choice,a_Ring]) i)):=fun i hi=>(ok_insR T).imp (spOf_imp fun us A Q ⟨a,r,e,hr,hc,q⟩=>⟨a,r,e,hr,by cases r <;> simp only [Rl.ci] at hc <;> first | rfl | lia,q⟩)
  refine mokG fun i hi=>?_
  rcases i with _ | i
  . exact ⟨_,_,_,T.L_Nothing,T.W_Nothing_inside,g0 0 (by decide),T.B_Rule_inside⟩
  rcases i with _ | i
  . exact ⟨_,_,_,T.L_Bead,T.W_Bead_inside,g0 1 (by decide),T.B_Rule_inside⟩
  rcases i with _ | i
  . exact ⟨_,_,_,T.L_Named,T.W_Named_inside,g0 2 (by decide),T.B_Rule_inside⟩
  rcases i with _ | i
  . exact ⟨_,_,_,T.L_Or,T.W_Or_inside,ok_insOr T,T.B_Or_inside⟩
  rcases i with _ | i
  . exact ⟨_,_,_,T.L_By,T.W_By_inside,ok_insBy T,T.B_By_inside⟩
  rcases i with _ | i
  . exact ⟨_,_,_,T.L_Row,T.W_Row_inside,ok_insRow T,T.B_Row_inside⟩
  rcases i with _ | i
  . exact ⟨_,_,_,T.L_Bag,T.W_Bag_inside,ok_insBag T,T.B_Bag_inside⟩
  rcases i with _ | i
  . exact ⟨_,_,_,T.L_Choice,T.W_Choice_inside,ok_insChoice T,T.B_Choice_inside⟩
  rcases i with _ | i
  . exact ⟨_,_,_,T.L_Ring,T.W_Ring_inside,ok_insRing T,T.B_Ring_inside⟩
  lia
theorem ok_nNamed {n:Nat}:FnOk P w K mg base CX0 1 f_Named_names d_Named_names ["self"] (spOf K (asp_names (csL [a_Nothing,a_Bead,a_Named,a_Or,a_By,a_Row,a_Bag,a_Choice,a_Ring]) n 2)):=by
  refine' Fun.okA T.F_Named_names (sc:=?sc24) (body:=?bd24) ?hs24 ?hb24 sc_Named_names ?hB24 ?hS24
  case hs24=>conv=>lhs;whnf
  case hb24=>conv=>lhs;whnf
  case hB24=>exact fun S cdv A outer s H E hr=>⟨_,(pss_one (ps_ret (pe_lst (pa_cons (pe_fld (pv 0) rfl) pa_nil)))),(ab_ret (ab_lst (ab_cons (ab_fld ab_var) ab_nil)))⟩
  rintro us A Q ⟨a,r,rfl,hr,hc,hd,hs,q⟩
  obtain ⟨c,rfl⟩:=Rl.ci2 hc
  obtain ⟨dx,ha⟩:=hr
  refine ⟨rfl,?_⟩
  walk_at "qs"
  walk_at "qd"
  refine ⟨a,_,dx,_,_,rfl,ha,T.L_Named,T.N_Named_name,lkp,tup1,fun l hl=>fg (q _ l [c] (Ext.new hl) hl updA_same ⟨rfl,by simp,fun z=>by simp [Rl.nms],by simp [Rl.nms]⟩)⟩
theorem ok_nRule {n:Nat} (HD_names:MOk P w K mg base CX0 (n + 2) "names" ((tblG (csL [a_Nothing,a_Bead,a_Named,a_Or,a_By,a_Row,a_Bag,a_Choice,a_Ring]) (asp_names (csL [a_Nothing,a_Bead,a_Named,a_Or,a_By,a_Row,a_Bag,a_Choice,a_Ring]) n)).map fun p=>(p.1,spOf K p.2))):FnOk P w K mg base CX0 (n + 3) f_Rule_names d_Rule_names ["self"] (spOf K (asp_namesR (csL [a_Nothing,a_Bead,a_Named,a_Or,a_By,a_Row,a_Bag,a_Choice,a_Ring]) (n + 1))):=by
  have HD_inside:=ok_inside (P:=P) (w:=w) (base:=base) T
  refine' Fun.okA T.F_Rule_names (sc:=?sc25) (body:=?bd25) ?hs25 ?hb25 sc_Rule_names ?hB25 ?hS25
  case hs25=>conv=>lhs;whnf
  case hb25=>conv=>lhs;whnf
  case hB25=>exact fun S cdv A outer s H E hr=>⟨_,(pss_cons (ps_set (i:=1) S.nd rfl (Or.inl rfl) (pe_callTy0 c_s0 (by rfl) T.n_set (by decide +kernel)))
      (pss_cons (ps_for PassesOwn.never rfl (pj_seq (pe_methD0 (pv 0) (HD_inside.mono (by first | decide | lia)) hr pass0)) (pg_name (i:=2) S.nd rfl (Or.inl rfl))
      (pss_one (ps_for PassesOwn.never rfl (pj_seq (pe_methD0 (pv 2) (HD_names.mono (by first | decide | lia)) hr pass0)) (pg_name (i:=3) S.nd rfl (Or.inl rfl))
      (pss_one (ps_expr (pe_addS (pv 1) (pa_cons (pv 3) pa_nil)))))))
      (pss_one (ps_ret (pe_callB (c_sortS rfl) (by rfl) T.n_sorted (by decide +kernel) (pa_cons (pv 1) pa_nil)))))),(ab_seq (ab_asg (ab_cb ab_s0 ab_nil) ab_name)
      (ab_seq (ab_for (ab_jof ab_yseq (ab_methD ab_var ab_nil)) ab_name
      (ab_for (ab_jof ab_yseq (ab_methD ab_var ab_nil)) ab_name
      (ab_drop (ab_addS ab_var (ab_cons ab_var ab_nil)))))
      (ab_ret (ab_cb ab_sortS (ab_cons ab_var ab_nil)))))⟩
  rintro us A Q ⟨a,r,rfl,hr,hc,hd,hs,q⟩
  refine ⟨rfl,?_⟩
  walk_at "qs"
  walk_at "qd"
  intro p hp
  refine ins_go (hr.ext (Ext.new hp)) fun l ps hl hps=>?_
  have hpl:p≠l:=neA updA_same hl
  have hl0:A l=none:=ext_none (Ext.new hp) hl
  rw [updA_swap hpl]
  have hp0:updA A l (.lst (ps.map U.ref)) p=none:=by rw [updA_ne hpl];exact hp
  walk_at "qd"
  refine ⟨⟨_,by rw [updA_ne (Ne.symm hpl)];exact updA_same⟩,?_⟩
  refine for_lst (ps.map U.ref) (fun k ρ A2=>∃ (B:AHp) (ks:List Str) (x2 x3:Option U),ρ=[some (.ref a),some (.ref p),x2,x3]/\A2=updA B p (tS P w ks)/\B p=none/\Ext (updA A l (.lst (ps.map U.ref))) B/\KsOk ks ((r.kids.take k).map Rl.nms).flatten ((r.kids.take k).map Rl.nms).flatten.length) ⟨_,[],_,_,rfl,rfl,hp0,Ext.refl _,⟨List.nodup_nil,fun z=>by simp,by simp⟩⟩ (fun k ρ A2 _ hq0=>by obtain ⟨B,ks,_,_,_,e,hBp,eB,_⟩:=hq0;rw [e,updA_ne (Ne.symm hpl)];exact eB _ _ updA_same) ?_ ?_
  . rintro k u ρ A2 hu ⟨B,ks,x2,x3,rfl,rfl,hBp,eB,hks⟩
    obtain ⟨b,hb,rfl⟩:=map_get hu
    obtain ⟨x,hx,hbx⟩:=hps.get hb
    have hbA:RlO (csL [a_Nothing,a_Bead,a_Named,a_Or,a_By,a_Row,a_Bag,a_Choice,a_Ring]) A b x:=RlO.drop hbx
    have hxm:=List.mem_of_getElem? hx
    have hxd:=Rl.kids_dep hxm
    have hnx:=x.nms_len
    have hnr:=r.nms_len
    have hds:=flat_take Rl.nms r.kids k
    rw [<- Rl.nms_kids hc] at hds
    walk_at "qd"
    refine names_go (hbA.ext (((Ext.new hl0).trans eB).trans (Ext.new hBp))) (by lia) (by lia) fun B2 l2 zs e2 hl2 hB2 nm=>?_
    have hnl:=nm.len
    have hlp:l2≠p:=fun e=>by rw [e,updA_same] at hl2;cases hl2
    have hB2p:B2 p=some (tS P w ks):=e2 _ _ updA_same
    walk_at "qd"
    refine ⟨⟨_,hB2⟩,?_⟩
    refine for_lst (zs.map U.str) (fun j ρ A3=>∃ (ks:List Str) (x3:Option U),ρ=[some (.ref a),some (.ref p),some (.ref b),x3]/\A3=updA (rmA B2 p) p (tS P w ks)/\KsOk ks (((r.kids.take k).map Rl.nms).flatten++zs.take j) (((r.kids.take k).map Rl.nms).flatten.length + j)) ⟨ks,_,rfl,(rmA_put hB2p).symm,⟨hks.nd,fun z=>by rw [List.take_zero,List.append_nil];exact hks.mem z,hks.len⟩⟩ (fun j ρ A3 _ hq0=>by obtain ⟨ks,_,_,e,_⟩:=hq0;rw [e,updA_ne hlp,rmA_ne hlp];exact hB2) ?_ ?_
    . rintro j u ρ A3 hu ⟨ks,x3,rfl,rfl,hk2⟩
      obtain ⟨z,hz,rfl⟩:=map_get hu
      have hjl:=(List.getElem?_eq_some_iff.mp hz).1
      have hkl:=hk2.len
      walk_at "qd"
      refine ⟨p,ks,rfl,updA_same,z,ks,rfl,updA_same,by show ks.length + 1 < 4096;lia,addT ks z,_,rfl,updA_updA,?_⟩
      have:=hk2.add (z:=z)
      rw [List.append_assoc,show zs.take j++[z]=zs.take (j + 1) from by rw [List.take_succ_eq_append_getElem hjl];rw [(List.getElem?_eq_some_iff.mp hz).2]] at this
      exact this
    . rintro ρ A3 ⟨ks,x3,rfl,rfl,hk2⟩
      rw [List.length_map,List.take_length] at hk2
      walk_at "qd"
      refine ⟨rmA B2 p,ks,_,_,rfl,rfl,rmA_no,rmA_ext (eB.trans ((Ext.new hBp).trans e2)) hp0,?_⟩
      rw [flat_succ hx]
      exact ⟨hk2.nd,fun z=>by rw [hk2.mem,List.mem_append,List.mem_append,nm.mem],by have:=hk2.len;rw [List.length_append];lia⟩
  . rintro ρ A2 ⟨B,ks,x2,x3,rfl,rfl,hBp,eB,hks⟩
    have hkl:ps.length=r.kids.length:=hps.len
    rw [List.length_map,hkl,List.take_length,<- Rl.nms_kids hc] at hks
    have hnr:=r.nms_len
    have hlen:=hks.len
    walk_at "qd"
    refine ⟨ks,updA_same,by lia,fun D zs hD hpm hso=>fg (q _ D zs (((Ext.new hl0).trans eB).trans ((Ext.new hBp).trans (Ext.new hD))) (ext_none (((Ext.new hl0).trans eB).trans (Ext.new hBp)) hD) updA_same ⟨hso,hpm.nodup_iff.mpr hks.nd,fun z=>by rw [hpm.mem_iff];exact hks.mem z,by rw [hpm.length_eq];exact hlen⟩)⟩
theorem ok_names (n:Nat):MOk P w K mg base CX0 (n + 2) "names" ((tblG (csL [a_Nothing,a_Bead,a_Named,a_Or,a_By,a_Row,a_Bag,a_Choice,a_Ring]) (asp_names (csL [a_Nothing,a_Bead,a_Named,a_Or,a_By,a_Row,a_Bag,a_Choice,a_Ring]) n)).map fun p=>(p.1,spOf K p.2)):=by
  have hz:∀ i us A Q,¬ asp_names (csL [a_Nothing,a_Bead,a_Named,a_Or,a_By,a_Row,a_Bag,a_Choice,a_Ring]) 0 i us A Q:=fun i us A Q hq0=>by obtain ⟨_,r,_,_,_,h,_⟩:=hq0;have:=r.dep_pos;lia
  have go:∀ {k m:Nat} (g0:∀ i,i≠2->FnOk P w K mg base CX0 k f_Rule_names d_Rule_names ["self"] (spOf K (asp_names (csL [a_Nothing,a_Bead,a_Named,a_Or,a_By,a_Row,a_Bag,a_Choice,a_Ring]) m i))) (g2:FnOk P w K mg base CX0 (k) f_Named_names d_Named_names ["self"] (spOf K (asp_names (csL [a_Nothing,a_Bead,a_Named,a_Or,a_By,a_Row,a_Bag,a_Choice,a_Ring]) m 2))),MOk P w K mg base CX0 k "names" ((tblG (csL [a_Nothing,a_Bead,a_Named,a_Or,a_By,a_Row,a_Bag,a_Choice,a_Ring]) (asp_names (csL [a_Nothing,a_Bead,a_Named,a_Or,a_By,a_Row,a_Bag,a_Choice,a_Ring]) m)).map fun p=>(p.1,spOf K p.2)):=fun g0 g2=>by
    refine mokG fun i hi=>?_
    rcases i with _ | i
    . exact ⟨_,_,_,T.L_Nothing,T.W_Nothing_names,g0 0 (by decide),T.B_Rule_names⟩
    rcases i with _ | i
    . exact ⟨_,_,_,T.L_Bead,T.W_Bead_names,g0 1 (by decide),T.B_Rule_names⟩
    rcases i with _ | i
    . exact ⟨_,_,_,T.L_Named,T.W_Named_names,g2,T.B_Named_names⟩
    rcases i with _ | i
    . exact ⟨_,_,_,T.L_Or,T.W_Or_names,g0 3 (by decide),T.B_Rule_names⟩
    rcases i with _ | i
    . exact ⟨_,_,_,T.L_By,T.W_By_names,g0 4 (by decide),T.B_Rule_names⟩
    rcases i with _ | i
    . exact ⟨_,_,_,T.L_Row,T.W_Row_names,g0 5 (by decide),T.B_Rule_names⟩
    rcases i with _ | i
    . exact ⟨_,_,_,T.L_Bag,T.W_Bag_names,g0 6 (by decide),T.B_Rule_names⟩
    rcases i with _ | i
    . exact ⟨_,_,_,T.L_Choice,T.W_Choice_names,g0 7 (by decide),T.B_Rule_names⟩
    rcases i with _ | i
    . exact ⟨_,_,_,T.L_Ring,T.W_Ring_names,g0 8 (by decide),T.B_Rule_names⟩
    lia
  induction n with
  | zero=>exact go (fun i _=>none_yet T.F_Rule_names sc_Rule_names (hz i)) ((ok_nNamed T).mono (by lia))
  | succ n ih=>exact go (fun i hi=>((ok_nRule T ih).imp (spOf_imp fun us A Q ⟨a,r,e,hr,hc,h⟩=>⟨a,r,e,hr,by rw [hc];exact hi,h⟩)).mono (by lia)) ((ok_nNamed T).mono (by lia))
end
theorem if_any {c:AT} {t e:AS} {D:AEnds} {ρ:ASt} {A:AHp} (h1:∀ B:Bool->AHp->Prop,(∀ k,B k A)->c ρ A B) (h2:∀ k:Bool,if k=true then t D ρ A else e D ρ A):aIfH c t e D ρ A:=h1 _ h2
theorem Rl.nms_wd:∀ {r:Rl} {z:Str},r.wd=true->z∈r.nms->wdB z=true
  | .nothing,z,_,h=>by cases h
  | .bead _,z,_,h=>by cases h
  | .named c,z,hw,h=>by rw [List.mem_singleton.mp h];exact hw
  | .or x y,z,hw,h=>by
    simp only [Rl.wd,Bool.and_eq_true] at hw
    exact (List.mem_append.mp h).elim (Rl.nms_wd hw.1) (Rl.nms_wd hw.2)
  | .by_ x y,z,hw,h=>by
    simp only [Rl.wd,Bool.and_eq_true] at hw
    exact (List.mem_append.mp h).elim (Rl.nms_wd hw.1) (Rl.nms_wd hw.2)
  | .hold k x,z,hw,h=>Rl.nms_wd (r:=x) hw h
theorem strs_data {A:AHp}:∀ {zs:List Str},(∀ z∈zs,PyData.strOk z=true)->DUs A (zs.map U.str) (zs.map PyData.str)/\PyData.canLayAll0 (zs.map PyData.str)=true/\PyData.depthAll (zs.map PyData.str)<=2/\PyData.eqvAll (zs.map PyData.str) (zs.map PyData.str)=true
  | [],_=>⟨.nil,by simp [PyData.canLayAll0],by simp [PyData.depthAll],by simp [PyData.eqvAll]⟩
  | z :: zs,h=>by
    obtain ⟨h1,h2,h3,h4⟩:=strs_data (A:=A) (zs:=zs) fun y hy=>h y (List.mem_cons_of_mem _ hy)
    refine ⟨.cons (.str z) h1,?_,?_,?_⟩
    . simp only [List.map_cons,PyData.canLayAll0,PyData.canLay0,h z List.mem_cons_self,h2,Bool.and_true]
    . simp only [List.map_cons,PyData.depthAll,PyData.depth]
      lia
    . simp only [List.map_cons,PyData.eqvAll,PyData.eqv,h4,Bool.and_true]
      simp
theorem ne_lists {A:AHp} {Q:AVK} {p q:Addr} {zs:List Str} (hz:∀ z∈zs,PyData.strOk z=true) (h1:A p=some (.lst (zs.map U.str))) (h2:A q=some (.lst (zs.map U.str))) (h:Q (.bl false) A):xDeep true (.ref p) (.ref q) A Q:=by
  obtain ⟨g1,g2,g3,g4⟩:=strs_data (A:=A) hz
  refine ⟨.list (zs.map PyData.str),.list (zs.map PyData.str),.lst h1 g1,.lst h2 g1,?_,?_,?_,?_⟩
  . simp only [PyData.canLay0,g2]
  . simp only [PyData.canLay0,g2]
  . simp only [PyData.depth];lia
  . rw [if_pos rfl,show PyData.eqv (.list (zs.map PyData.str)) (.list (zs.map PyData.str))=true from by simp only [PyData.eqv,g4]]
    exact h
theorem toU_kids {r:Rl} (h:r.ci≠2) (h1:r.ci≠1):∃ z:Str,z≠"name"/\r.toU=.tup (.str z::r.kids.map Rl.toU):=by
  cases r with
  | nothing=>exact ⟨_,by decide +kernel,rfl⟩
  | bead c=>exact absurd rfl h1
  | named c=>exact absurd rfl h
  | or x y=>exact ⟨_,by decide +kernel,rfl⟩
  | by_ x y=>exact ⟨_,by decide +kernel,rfl⟩
  | hold k x=>exact ⟨_,mn_ne k (by decide +kernel),rfl⟩
theorem isTy_rl (x:Rl):isTy x.toU "tuple"=true:=by cases x <;> rfl
theorem rl_match (x:Rl):(match x.toU with | .rol _=>False | .ref _=>False | .ty _=>False | _=>True):=by cases x <;> trivial
noncomputable def asp_lnms (n:Nat):ASp:=fun us A Q=>∃ r:Rl,us=[r.toU]/\r.dep<=n/\r.size<=100/\∀ B l,Ext A B->B l=some (.lst (r.nms.map U.str))->Q (.ref l) B
theorem lnms0:∀ us A Q,¬ asp_lnms 0 us A Q:=fun us A Q hq0=>by obtain ⟨r,_,h,_⟩:=hq0;have:=r.dep_pos;lia
section
include T
theorem ok_lnms (n:Nat):FnOk P w K mg base CX0 (n + 2) f_w_names d_w_names ["_law_tree_here"] (spOf K (asp_lnms n)):=by
  induction n with
  | zero=>exact none_yet T.F_w_names sc_w_names lnms0
  | succ n G_w_names =>
    refine' Fun.okA T.F_w_names (sc:=?sc26) (body:=?bd26) ?hs26 ?hb26 sc_w_names ?hB26 ?hS26
    case hs26=>conv=>lhs;whnf
    case hb26=>conv=>lhs;whnf
    case hB26=>exact fun S cdv A outer s H E hr=>⟨_,(pss_cons (ps_if (pt_cmpR (o_eqD hr) (pe_ix o_ix (pv 0) pe_int (fun _ _=>rfl)) pe_str (nomark _)) (pss_one (ps_ret (pe_lst (pa_cons (pe_ix o_ix (pv 0) pe_int (fun _ _=>rfl)) pa_nil)))) pss_nil)
      (pss_cons (ps_set (i:=1) S.nd rfl (Or.inl rfl) (pe_lst pa_nil))
      (pss_cons (ps_for PassesOwn.never rfl (pj_seq (pe_slice o_slW (pv 0) (po_some pe_int) po_none)) (pg_name (i:=2) S.nd rfl (Or.inl rfl))
      (pss_one (ps_if (pt_val (pe_callB c_isW (by rfl) T.n_isinstance (by decide +kernel) (pa_cons (pv 2) (pa_cons (pe_ty (T:="tuple") (by rfl) T.n_tuple (by decide +kernel)) pa_nil)))) (pss_one (ps_set (i:=1) S.nd rfl (Or.inl rfl) (pe_op o_addW (pv 1) (pe_call (G_w_names.mono (by first | decide | lia)) hr (by rfl) T.M_w_names T.F_w_names.kp T.B_w_names .nil pass0 (pa_cons (pv 2) pa_nil))))) pss_nil)))
      (pss_one (ps_ret (pv 1)))))),(ab_seq (ab_ifH (ab_test (ab_op ab_eq (ab_op ab_ix ab_var ab_int) ab_str)) (ab_ret (ab_lst (ab_cons (ab_op ab_ix ab_var ab_int) ab_nil))) ab_next)
      (ab_seq (ab_asg (ab_lst ab_nil) ab_name)
      (ab_seq (ab_for (ab_jof ab_yseq (ab_sl ab_xsl ab_var (ab_part ab_int) ab_nopart)) ab_name
      (ab_ifH (ab_tb (ab_cb ab_isi (ab_cons ab_var (ab_cons ab_ty ab_nil)))) (ab_asg (ab_op ab_add ab_var (ab_call (ab_cons ab_var ab_nil))) ab_name) ab_next))
      (ab_ret ab_var))))⟩
    rintro us A Q ⟨r,rfl,hd,hs,q⟩
    refine ⟨rfl,?_⟩
    walk_at "qs"
    by_cases h2:r.ci=2
    . obtain ⟨c,rfl⟩:=Rl.ci2 h2
      unfold Rl.toU
      walk_at "qg"
      refine if_yes (fun B hB=>?_) ?_
      . walk_at "qg"
        exact hB
      walk_at "qg"
      exact ⟨tup1,fun l hl=>fg (q _ l (Ext.new hl) updA_same)⟩
    by_cases h1:r.ci=1
    . obtain ⟨c,rfl⟩:=Rl.ci1 h1
      unfold Rl.toU
      walk_at "qg"
      refine if_no (fun B hB=>?_) ?_
      . walk_at "qg"
        rw [decide_eq_false (by decide +kernel)]
        exact hB
      walk_at "qg"
      refine ⟨by decide,fun p hp=>?_⟩
      refine for_fix (us:=[.str c]) (fun k ρ A2=>∃ x2,ρ=[some (.tup [.str "bead",.str c]),some (.ref p),x2]/\A2=updA A p (.lst [])) ⟨_,rfl,rfl⟩ ?_ ?_
      . rintro k u ρ A2 hu ⟨x2,rfl,rfl⟩
        rcases k with _ | k
        . injection hu with hu
          subst hu
          walk_at "qd"
          refine if_no (fun B hB=>?_) ?_
          . walk_at "qd"
            exact ⟨.inr (.inr (.inr trivial)),trivial,hB⟩
          walk_at "qd"
          exact ⟨_,rfl,trivial⟩
        . cases hu
      . rintro ρ A2 ⟨x2,rfl,rfl⟩
        walk_at "qd"
        exact fg (q _ p (Ext.new hp) updA_same)
    obtain ⟨z,hz,eU⟩:=toU_kids h2 h1
    rw [eU]
    walk_at "qg"
    refine if_no (fun B hB=>?_) ?_
    . walk_at "qg"
      rw [decide_eq_false hz]
      exact hB
    walk_at "qg"
    refine ⟨by decide,fun p hp=>?_⟩
    refine for_fix (us:=r.kids.map Rl.toU) (fun k ρ A2=>∃ (l:Addr) (x2:Option U),ρ=[some (.tup (.str z::r.kids.map Rl.toU)),some (.ref l),x2]/\Ext A A2/\A2 l=some (.lst (((r.kids.take k).map Rl.nms).flatten.map U.str))) ⟨p,_,rfl,Ext.new hp,updA_same⟩ ?_ ?_
    . rintro k u ρ A2 hu ⟨l,x2,rfl,e2,hl⟩
      obtain ⟨x,hx,rfl⟩:=map_get hu
      have hxd:=Rl.kids_dep (List.mem_of_getElem? hx)
      walk_at "qd"
      refine if_yes (fun B hB=>?_) ?_
      . walk_at "qd"
        refine ⟨.inr (.inr (.inr trivial)),rl_match x,?_⟩
        rw [isTy_rl]
        exact hB
      walk_at "qd"
      refine ⟨x,rfl,by lia,by lia,fun B b eB hb=>?_⟩
      walk_at "qd"
      have hnr:=r.nms_len
      have hnx:=x.nms_len
      have hds:=flat_take Rl.nms r.kids k
      rw [<- Rl.nms_kids h2] at hds
      refine ⟨_,_,eB _ _ hl,hb,?_,fun p3 hp3=>⟨p3,_,rfl,(e2.trans eB).trans (Ext.new hp3),?_⟩⟩
      . exact line1000 (by rw [List.length_map,List.length_map];lia)
      . rw [updA_same,flat_succ hx,List.map_append]
    . rintro ρ A2 ⟨l,x2,rfl,e2,hl⟩
      rw [List.length_map,List.take_length,<- Rl.nms_kids h2] at hl
      walk_at "qd"
      exact fg (q _ l e2 hl)
noncomputable def asp_cellL:ASp:=fun us A Q=>∃ (l:Addr) (ns:List Int) (k:Int),us=[.ref l,.int k]/\A l=some (.lst (ns.map U.int))/\0<=k/\∀ z,Q (.int z) A
theorem ok_cellL:FnOk P w K mg base CX0 1 f_w_cell d_w_cell ["_law_script","_law_k"] (spOf K asp_cellL):=by
  refine' Fun.okA T.F_w_cell (sc:=?sc10) (body:=?bd10) ?hs10 ?hb10 sc_w_cell ?hB10 ?hS10
  case hs10=>conv=>lhs;whnf
  case hb10=>conv=>lhs;whnf
  case hB10=>exact fun S cdv A outer s H E hr=>⟨_,(pss_cons (ps_if (pt_cmpR o_lt (pv 1) (pe_callB c_len (by rfl) T.n_len (by decide +kernel) (pa_cons (pv 0) pa_nil)) (nomark _)) (pss_one (ps_ret (pe_ix o_ix (pv 0) (pv 1) (fun _ _=>rfl)))) pss_nil)
      (pss_one (ps_ret pe_int))),(ab_seq (ab_ifs (ab_test (ab_op ab_lt ab_var (ab_cb ab_len (ab_cons ab_var ab_nil)))) (ab_ret (ab_op ab_ix ab_var ab_var)) ab_next)
      (ab_ret ab_int))⟩
  rintro us A Q ⟨l,ns,k,rfl,hl,hk,q⟩
  refine ⟨rfl,?_⟩
  walk_at "qs"
  walk_at "qd"
  refine ⟨_,hl,?_⟩
  rw [List.length_map]
  refine iteB (fun h=>?_) fun _=>fg (q 0)
  have h':k < ns.length:=by simpa using h
  obtain ⟨z,h1,_⟩:=atI_intsU hk h'
  exact ⟨_,_,hl,h1,fg (q z)⟩
theorem ok_law:FnOk P w K mg base CX0 60 f_law d_law ["_law_script"] (spOf K aspLaw):=by
  have G_w_mixed:=ok_mixed (P:=P) (w:=w) (base:=base) T
  have G_w_cell:=ok_cellL (P:=P) (w:=w) (base:=base) T
  have G_w_tree:=ok_tree (P:=P) (w:=w) (base:=base) T
  have G_w_names:=ok_lnms (P:=P) (w:=w) (base:=base) T 30
  have G_w_object:=ok_lob (P:=P) (w:=w) (base:=base) T 30
  have HD_names:=ok_names (P:=P) (w:=w) (base:=base) T 30
  refine' Fun.okA T.F_law (sc:=?sc27) (body:=?bd27) ?hs27 ?hb27 sc_law ?hB27 ?hS27
  case hs27=>conv=>lhs;whnf
  case hb27=>conv=>lhs;whnf
  case hB27=>exact fun S cdv A outer s H E hr=>⟨_,(pss_cons (ps_set (i:=0) S.nd rfl (Or.inl rfl) (pe_call (G_w_mixed.mono (by first | decide | lia)) hr (by rfl) T.M_w_mixed T.F_w_mixed.kp T.B_w_mixed .nil pass0 (pa_cons (pv 0) (pa_cons pe_int pa_nil))))
      (pss_cons (ps_set (i:=1) S.nd rfl (Or.inr rfl) (pe_op o_addW pe_int (pe_op o_mod (pe_call (G_w_cell.mono (by first | decide | lia)) hr (by rfl) T.M_w_cell T.F_w_cell.kp T.B_w_cell .nil pass0 (pa_cons (pv 0) (pa_cons pe_int pa_nil))) pe_int)))
      (pss_cons (ps_setC (i:=2) S.nd rfl (Or.inl rfl) (by with_unfolding_all rfl) (ts:=["_law_cell_here"]) (frs':=[("_law_few",1)]) (cl:=_) rfl ⟨(by rfl),rfl,(by decide +kernel),(by decide +kernel),(allm_cons (by rfl) allm_nil),(free_has (by rfl) (by rfl)),(allm_cons ⟨(by rfl),(by first | exact .inl rfl | exact .inr rfl),(by first | exact .inl rfl | exact .inr rfl),(by rfl)⟩ allm_nil)⟩ (pj_seq (pe_slice o_slW (pv 0) (po_some pe_int) (po_some pe_int))) (fun _ _ _ _=>pg_name (i:=0) (show List.Nodup (["_law_cell_here","_law_few"]:List Str) from by decide +kernel) rfl (Or.inl rfl) (.inr rfl)) (fun _ _ _ _=>pifs_nil) (fun _ _ _ _=>by exact (pe_op (k_addW K rfl) (pe_op o_mod (pv 0) pe_int) (pe_op o_mulB pe_int (pe_op o_mod (pe_op o_mod (pe_op o_fdiv (pv 0) pe_int) (pe_op o_pow pe_int pe_int)) (pv 1))))))
      (pss_cons (ps_if (pt_cmpR (o_eqD hr) (pe_op o_mod (pe_op o_fdiv (pe_call (G_w_cell.mono (by first | decide | lia)) hr (by rfl) T.M_w_cell T.F_w_cell.kp T.B_w_cell .nil pass0 (pa_cons (pv 0) (pa_cons pe_int pa_nil))) pe_int) pe_int) pe_int (nomark _)) (pss_one (ps_set (i:=2) S.nd rfl (Or.inl rfl) (pe_slice o_slW (pv 0) (po_some pe_int) (po_some pe_int)))) pss_nil)
      (pss_cons (ps_set (i:=3) S.nd rfl (Or.inl rfl) (pe_call (G_w_tree.mono (by first | decide | lia)) hr (by rfl) T.M_w_tree T.F_w_tree.kp T.B_w_tree .nil pass0 (pa_cons (pv 2) pa_nil)))
      (pss_cons (ps_set (i:=4) S.nd rfl (Or.inl rfl) (pe_callB (c_sortS rfl) (by rfl) T.n_sorted (by decide +kernel) (pa_cons (pe_callTy (c_sL rfl) (by rfl) T.n_set (by decide +kernel) (pa_cons (pe_call (G_w_names.mono (by first | decide | lia)) hr (by rfl) T.M_w_names T.F_w_names.kp T.B_w_names .nil pass0 (pa_cons (pv 3) pa_nil)) pa_nil)) pa_nil)))
      (pss_cons (ps_set (i:=5) S.nd rfl (Or.inl rfl) (pe_call (G_w_object.mono (by first | decide | lia)) hr (by rfl) T.M_w_object T.F_w_object.kp T.B_w_object .nil pass0 (pa_cons (pv 3) pa_nil)))
      (pss_cons (ps_if (pt_not (pt_val (pe_callB c_isC (by rfl) T.n_isinstance (by decide +kernel) (pa_cons (pv 5) (pa_cons (pe_glob (v:=.ref _) (by rfl) T.m_Rule rfl) pa_nil))))) (pss_one (ps_ret pe_bl)) pss_nil)
      (pss_cons (ps_for PassesOwn.never rfl (pj_range1 rfl T.n_range (pa_cons pe_int pa_nil)) (pg_name (i:=6) S.nd rfl (Or.inl rfl))
      (pss_cons (ps_set (i:=7) S.nd rfl (Or.inl rfl) (pe_methD0 (pv 5) (HD_names.mono (by first | decide | lia)) hr pass0))
      (pss_cons (ps_if ((pw_or (pt_not (pt_val (pe_callB c_isL (by rfl) T.n_isinstance (by decide +kernel) (pa_cons (pv 7) (pa_cons (pe_ty (T:="list") (by rfl) T.n_list (by decide +kernel)) pa_nil))))) (pw_or1 (pt_cmpR (o_neD hr) (pv 7) (pv 4) (nomark _))))).pt (pss_one (ps_ret pe_bl)) pss_nil)
      (pss_one (ps_expr (pe_bm0 PySem.F.plainAttrs_list PySem.F.slot_list_clear PySem.F.type_list_clear mt_clear (pv 7)))))))
      (pss_one (ps_ret pe_bl))))))))))),(ab_seq (ab_asg (ab_call (ab_cons ab_var (ab_cons ab_int ab_nil))) ab_name)
      (ab_seq (ab_asg (ab_op ab_add ab_int (ab_op ab_mod (ab_call (ab_cons ab_var (ab_cons ab_int ab_nil))) ab_int)) ab_name)
      (ab_seq (ab_asg (ab_comp (ab_jof ab_yseq (ab_sl ab_xsl ab_var (ab_part ab_int) (ab_part ab_int))) ab_name ab_true (ab_op ab_add (ab_op ab_mod ab_var ab_int) (ab_op ab_mul ab_int (ab_op ab_mod (ab_op ab_mod (ab_op ab_div ab_var ab_int) (ab_op ab_pow ab_int ab_int)) ab_var)))) ab_name)
      (ab_seq (ab_ifH (ab_test (ab_op ab_eq (ab_op ab_mod (ab_op ab_div (ab_call (ab_cons ab_var (ab_cons ab_int ab_nil))) ab_int) ab_int) ab_int)) (ab_asg (ab_sl ab_xsl ab_var (ab_part ab_int) (ab_part ab_int)) ab_name) ab_next)
      (ab_seq (ab_asg (ab_call (ab_cons ab_var ab_nil)) ab_name)
      (ab_seq (ab_asg (ab_cb ab_sortS (ab_cons (ab_cb ab_sL (ab_cons (ab_call (ab_cons ab_var ab_nil)) ab_nil)) ab_nil)) ab_name)
      (ab_seq (ab_asg (ab_call (ab_cons ab_var ab_nil)) ab_name)
      (ab_seq (ab_ifH (ab_not (ab_tb (ab_cb ab_isC (ab_cons ab_var (ab_cons ab_ref ab_nil))))) (ab_ret ab_bl) ab_next)
      (ab_seq (ab_for (ab_jrng1 (ab_cons ab_int ab_nil)) ab_name
      (ab_seq (ab_asg (ab_methD ab_var ab_nil) ab_name)
      (ab_seq (ab_ifH (ab_or (ab_not (ab_tb (ab_cb ab_isL (ab_cons ab_var (ab_cons ab_ty ab_nil))))) (ab_test (ab_op ab_ne ab_var ab_var))) (ab_ret ab_bl) ab_next)
      (ab_drop (ab_bm0 ab_isLst ab_mclr ab_var)))))
      (ab_ret ab_bl))))))))))⟩
  rintro us A Q ⟨ns,rfl,hl,q⟩
  refine ⟨rfl,?_⟩
  walk_at "qs"
  walk_at "qd"
  refine ⟨ns,7,rfl,hl,by decide,by decide,fun l ms hl0 hml h7=>?_⟩
  have a0:updA A l (.lst (ms.map U.int)) l=some (.lst (ms.map U.int)):=updA_same
  generalize updA A l (.lst (ms.map U.int))=A0 at a0 ⊢
  walk_at "qd"
  refine ⟨l,ms,0,rfl,a0,by decide,fun z0=>?_⟩
  walk_at "qd"
  have h6:0<=z0 % 6/\z0 % 6 < 6:=⟨Int.emod_nonneg _ (by decide),Int.emod_lt_of_pos _ (by decide)⟩
  have hcl:(cutL ms (some 1) (some 56)).length=min 56 ms.length - 1:=by
    unfold cutL
    rw [List.length_take,List.length_drop,show HT.sIx ms.length ms.length (some 56)=min 56 ms.length from HT.sIx_nat ms.length ms.length 56,show HT.sIx ms.length 0 (some 1)=min 1 ms.length from HT.sIx_nat ms.length 0 1]
    lia
  refine ⟨(show (0:Int) < 6 by decide),_,a0,fun p hp=>?_⟩
  rw [cutU_map]
  refine ⟨⟨_,updA_same⟩,fun l1 hl1=>?_⟩
  walk_at "qc"
  refine cl_map ((cutL ms (some 1) (some 56)).map U.int) ((cutL ms (some 1) (some 56)).map fun z=>U.int (z % 12 + 12 * (z / 12 % 10 ^ Int.toNat 9 % (1 + z0 % 6)))) (by rw [List.length_map,List.length_map]) hl1 (by rw [List.length_map];lia) (fun k A2 _ e2=>⟨_,e2 _ _ updA_same,rfl⟩) (fun k u y A2 hu hy e2 Cy hC=>?_) ?_
  . rw [List.getElem?_map] at hu hy
    obtain ⟨z,hz,rfl⟩:=Option.map_eq_some_iff.mp hu
    rw [hz] at hy
    cases hy
    walk_at "qd"
    exact ⟨by decide,⟨by decide,by decide⟩,⟨by decide,by decide,by decide⟩,(show (0:Int) < 10 ^ Int.toNat 9 by decide),by lia,mul_small (.inl ⟨by decide,by decide⟩),hC⟩
  . have hA1:Ext A0 (updA (updA A0 p (.lst ((cutL ms (some 1) (some 56)).map U.int))) l1 (.lst ((cutL ms (some 1) (some 56)).map fun z=>U.int (z % 12 + 12 * (z / 12 % 10 ^ Int.toNat 9 % (1 + z0 % 6)))))):=(Ext.new hp).trans (Ext.new hl1)
    have hc1:updA (updA A0 p (.lst ((cutL ms (some 1) (some 56)).map U.int))) l1 (.lst ((cutL ms (some 1) (some 56)).map fun z=>U.int (z % 12 + 12 * (z / 12 % 10 ^ Int.toNat 9 % (1 + z0 % 6))))) l1=some (.lst (((cutL ms (some 1) (some 56)).map fun z=>z % 12 + 12 * (z / 12 % 10 ^ Int.toNat 9 % (1 + z0 % 6))).map U.int)):=by rw [updA_same,List.map_map];rfl
    generalize updA (updA A0 p (.lst ((cutL ms (some 1) (some 56)).map U.int))) l1 (.lst ((cutL ms (some 1) (some 56)).map fun z=>U.int (z % 12 + 12 * (z / 12 % 10 ^ Int.toNat 9 % (1 + z0 % 6)))))=A1 at hA1 hc1 ⊢
    have a1:=hA1 _ _ a0
    refine if_any (fun B hB=>?_) fun k=>?_
    . walk_at "qd"
      refine ⟨l,ms,0,rfl,a1,by decide,fun z=>?_⟩
      walk_at "qd"
      exact ⟨⟨by decide,by decide⟩,by decide,hB _⟩
    cases k with
    | false =>
      refine iteFf rfl ?_
      walk_at "qd"
      obtain ⟨c2,ns2,hc2,hn1,hn2,e⟩:∃ (c2:Addr) (ns2:List Int),A1 c2=some (.lst (ns2.map U.int))/\1<=ns2.length/\ns2.length<=60/\c2=l1:=⟨l1,_,hc1,by rw [List.length_map];lia,by rw [List.length_map];lia,rfl⟩
      rw [<- e]
      refine ⟨c2,ns2,rfl,hc2,hn1,hn2,fun r hw hd hs=>?_⟩
      clear hc2 hn1 hn2
      walk_at "qd"
      have hnl:=r.nms_len
      refine ⟨r,rfl,hd,by lia,fun B nl eB hnl2=>?_⟩
      walk_at "qd"
      have hal:=addTs_len r.nms r.nms.length
      refine ⟨r.nms,hnl2,by show r.nms.length + 1 < 4096;lia,fun p3 hp3=>?_⟩
      walk_at "qd"
      refine ⟨_,updA_same,by lia,fun D zs hD hpm hso=>?_⟩
      have hdue:updA (updA B p3 (tS P w (addTs r.nms r.nms.length))) D (.lst (zs.map U.str)) D=some (.lst (zs.map U.str)):=updA_same
      generalize updA (updA B p3 (tS P w (addTs r.nms r.nms.length))) D (.lst (zs.map U.str))=A4 at hdue ⊢
      obtain ⟨hnd,hmm⟩:=addTs_all r.nms r.nms.length (Nat.le_refl _)
      have hzm:∀ z,z∈zs ↔ z∈r.nms:=fun z=>by rw [hpm.mem_iff,hmm,List.take_length]
      have hzn:zs.Nodup:=hpm.nodup_iff.mpr hnd
      walk_at "qd"
      refine ⟨r,rfl,hd,fun B5 b e5 hb=>?_⟩
      have hdue5:=e5 _ _ hdue
      walk_at "qd"
      obtain ⟨dx,fs,ha,_⟩:=hb.cls names_nm
      refine if_no (fun B6 hB=>?_) ?_
      . walk_at "qd"
        exact ⟨b,_,dx,fs,_,_,rfl,ha,T.IT.isR (clss T) r.ci_lt,hB⟩
      walk_at "qd"
      refine ⟨by decide,by decide,?_⟩
      refine for_rng (n:=2) (fun k ρ A6=>∃ x6 x7,ρ=[some (.ref l),some (.int (1 + z0 % 6)),some (.ref c2),some r.toU,some (.ref D),some (.ref b),x6,x7]/\Ext B5 A6) ⟨_,_,rfl,Ext.refl _⟩ ?_ ?_
      . rintro k ρ A6 hk ⟨x6,x7,rfl,e6⟩
        walk_at "qd"
        refine names_go (hb.ext e6) hd hs fun B7 l7 zs7 e7 hl7 hB7 nm7=>?_
        have heq:zs7=zs:=sorted_uniq nm7.so hso (perm_nd nm7.nd hzn fun z=>(nm7.mem z).trans (hzm z).symm)
        rw [heq] at hB7
        have hdue7:=e7 _ _ (e6 _ _ hdue5)
        refine if_no (fun B8 hB=>?_) ?_
        . walk_at "qd"
          refine ⟨_,hB7,?_⟩
          walk_at "qd"
          exact iteFf rfl (ne_lists (fun z hz=>wdB_ok (Rl.nms_wd hw ((hzm z).mp hz))) hB7 hdue7 ⟨_,rfl,hB⟩)
        walk_at "qd"
        refine ⟨⟨_,hB7⟩,_,hB7,_,_,rfl,fun x o hx=>?_⟩
        have h6:=e6 _ _ hx
        rw [updA_ne (fun z=>by rw [z,hl7] at h6;cases h6)]
        exact e7 _ _ h6
      . rintro ρ A6 ⟨x6,x7,rfl,e6⟩
        walk_at "qd"
        exact fg (q _)
    | true =>
      refine iteTt rfl ?_
      walk_at "qd"
      refine ⟨_,a1,fun c2 hc2n=>?_⟩
      rw [cutU_map]
      have hc2:updA A1 c2 (.lst ((cutL ms (some 1) (some 56)).map U.int)) c2=some (.lst ((cutL ms (some 1) (some 56)).map U.int)):=updA_same
      generalize updA A1 c2 (.lst ((cutL ms (some 1) (some 56)).map U.int))=A2 at hc2 ⊢
      have hn1:1<=(cutL ms (some 1) (some 56)).length:=by lia
      have hn2:(cutL ms (some 1) (some 56)).length<=60:=by lia
      generalize cutL ms (some 1) (some 56)=ns2 at *
      walk_at "qd"
      refine ⟨c2,ns2,rfl,hc2,hn1,hn2,fun r hw hd hs=>?_⟩
      clear hc2 hn1 hn2
      walk_at "qd"
      have hnl:=r.nms_len
      refine ⟨r,rfl,hd,by lia,fun B nl eB hnl2=>?_⟩
      walk_at "qd"
      have hal:=addTs_len r.nms r.nms.length
      refine ⟨r.nms,hnl2,by show r.nms.length + 1 < 4096;lia,fun p3 hp3=>?_⟩
      walk_at "qd"
      refine ⟨_,updA_same,by lia,fun D zs hD hpm hso=>?_⟩
      have hdue:updA (updA B p3 (tS P w (addTs r.nms r.nms.length))) D (.lst (zs.map U.str)) D=some (.lst (zs.map U.str)):=updA_same
      generalize updA (updA B p3 (tS P w (addTs r.nms r.nms.length))) D (.lst (zs.map U.str))=A4 at hdue ⊢
      obtain ⟨hnd,hmm⟩:=addTs_all r.nms r.nms.length (Nat.le_refl _)
      have hzm:∀ z,z∈zs ↔ z∈r.nms:=fun z=>by rw [hpm.mem_iff,hmm,List.take_length]
      have hzn:zs.Nodup:=hpm.nodup_iff.mpr hnd
      walk_at "qd"
      refine ⟨r,rfl,hd,fun B5 b e5 hb=>?_⟩
      have hdue5:=e5 _ _ hdue
      walk_at "qd"
      obtain ⟨dx,fs,ha,_⟩:=hb.cls names_nm
      refine if_no (fun B6 hB=>?_) ?_
      . walk_at "qd"
        exact ⟨b,_,dx,fs,_,_,rfl,ha,T.IT.isR (clss T) r.ci_lt,hB⟩
      walk_at "qd"
      refine ⟨by decide,by decide,?_⟩
      refine for_rng (n:=2) (fun k ρ A6=>∃ x6 x7,ρ=[some (.ref l),some (.int (1 + z0 % 6)),some (.ref c2),some r.toU,some (.ref D),some (.ref b),x6,x7]/\Ext B5 A6) ⟨_,_,rfl,Ext.refl _⟩ ?_ ?_
      . rintro k ρ A6 hk ⟨x6,x7,rfl,e6⟩
        walk_at "qd"
        refine names_go (hb.ext e6) hd hs fun B7 l7 zs7 e7 hl7 hB7 nm7=>?_
        have heq:zs7=zs:=sorted_uniq nm7.so hso (perm_nd nm7.nd hzn fun z=>(nm7.mem z).trans (hzm z).symm)
        rw [heq] at hB7
        have hdue7:=e7 _ _ (e6 _ _ hdue5)
        refine if_no (fun B8 hB=>?_) ?_
        . walk_at "qd"
          refine ⟨_,hB7,?_⟩
          walk_at "qd"
          exact iteFf rfl (ne_lists (fun z hz=>wdB_ok (Rl.nms_wd hw ((hzm z).mp hz))) hB7 hdue7 ⟨_,rfl,hB⟩)
        walk_at "qd"
        refine ⟨⟨_,hB7⟩,_,hB7,_,_,rfl,fun x o hx=>?_⟩
        have h6:=e6 _ _ hx
        rw [updA_ne (fun z=>by rw [z,hl7] at h6;cases h6)]
        exact e7 _ _ h6
      . rintro ρ A6 ⟨x6,x7,rfl,e6⟩
        walk_at "qd"
        exact fg (q _)
end
theorem all_mk {l:PySem.W.OpenLaw} {w:World} {K:PySem.W.Frag} {h:Heap} {mg:Str->Option Value} {fa:Addr} {a_Rule a_Nothing a_Bead a_Or a_By a_Row a_Bag a_Choice a_Ring a_Named:Addr} {f_Rule_inside f_Rule_names f_Bead___init__ f_Or___init__ f_Or_inside f_By___init__ f_By_inside f_Row___init__ f_Row_inside f_Bag___init__ f_Bag_inside f_Choice___init__ f_Choice_inside f_Ring___init__ f_Ring_inside f_Named___init__ f_Named_names f_w_cell f_w_kept f_w_word f_w_total f_w_op f_w_tree f_w_object f_w_names f_w_mixed f_law:Addr} {od_Rule_inside an_Rule_inside od_Rule_names an_Rule_names od_Bead___init__ an_Bead___init__ od_Or___init__ an_Or___init__ od_Or_inside an_Or_inside od_By___init__ an_By___init__ od_By_inside an_By_inside od_Row___init__ an_Row___init__ od_Row_inside an_Row_inside od_Bag___init__ an_Bag___init__ od_Bag_inside an_Bag_inside od_Choice___init__ an_Choice___init__ od_Choice_inside an_Choice_inside od_Ring___init__ an_Ring___init__ od_Ring_inside an_Ring_inside od_Named___init__ an_Named___init__ od_Named_names an_Named_names od_w_cell an_w_cell od_w_kept an_w_kept od_w_word an_w_word od_w_total an_w_total od_w_op an_w_op od_w_tree an_w_tree od_w_object an_w_object od_w_names an_w_names od_w_mixed an_w_mixed od_law an_law:Option Addr} {sl_Rule_inside sl_Rule_names sl_Bead___init__ sl_Or___init__ sl_Or_inside sl_By___init__ sl_By_inside sl_Row___init__ sl_Row_inside sl_Bag___init__ sl_Bag_inside sl_Choice___init__ sl_Choice_inside sl_Ring___init__ sl_Ring_inside sl_Named___init__ sl_Named_names sl_w_cell sl_w_kept sl_w_word sl_w_total sl_w_op sl_w_tree sl_w_object sl_w_names sl_w_mixed sl_law:Array (Option Value)} {oc_Rule_inside kV_Rule_inside dc_Rule_inside pm_Rule_inside ct_Rule_inside cd_Rule_inside oc_Rule_names kV_Rule_names dc_Rule_names pm_Rule_names ct_Rule_names cd_Rule_names oc_Bead___init__ kV_Bead___init__ dc_Bead___init__ pm_Bead___init__ ct_Bead___init__ cd_Bead___init__ oc_Or___init__ kV_Or___init__ dc_Or___init__ pm_Or___init__ ct_Or___init__ cd_Or___init__ oc_Or_inside kV_Or_inside dc_Or_inside pm_Or_inside ct_Or_inside cd_Or_inside oc_By___init__ kV_By___init__ dc_By___init__ pm_By___init__ ct_By___init__ cd_By___init__ oc_By_inside kV_By_inside dc_By_inside pm_By_inside ct_By_inside cd_By_inside oc_Row___init__ kV_Row___init__ dc_Row___init__ pm_Row___init__ ct_Row___init__ cd_Row___init__ oc_Row_inside kV_Row_inside dc_Row_inside pm_Row_inside ct_Row_inside cd_Row_inside oc_Bag___init__ kV_Bag___init__ dc_Bag___init__ pm_Bag___init__ ct_Bag___init__ cd_Bag___init__ oc_Bag_inside kV_Bag_inside dc_Bag_inside pm_Bag_inside ct_Bag_inside cd_Bag_inside oc_Choice___init__ kV_Choice___init__ dc_Choice___init__ pm_Choice___init__ ct_Choice___init__ cd_Choice___init__ oc_Choice_inside kV_Choice_inside dc_Choice_inside pm_Choice_inside ct_Choice_inside cd_Choice_inside oc_Ring___init__ kV_Ring___init__ dc_Ring___init__ pm_Ring___init__ ct_Ring___init__ cd_Ring___init__ oc_Ring_inside kV_Ring_inside dc_Ring_inside pm_Ring_inside ct_Ring_inside cd_Ring_inside oc_Named___init__ kV_Named___init__ dc_Named___init__ pm_Named___init__ ct_Named___init__ cd_Named___init__ oc_Named_names kV_Named_names dc_Named_names pm_Named_names ct_Named_names cd_Named_names oc_w_cell kV_w_cell dc_w_cell pm_w_cell ct_w_cell cd_w_cell oc_w_kept kV_w_kept dc_w_kept pm_w_kept ct_w_kept cd_w_kept oc_w_word kV_w_word dc_w_word pm_w_word ct_w_word cd_w_word oc_w_total kV_w_total dc_w_total pm_w_total ct_w_total cd_w_total oc_w_op kV_w_op dc_w_op pm_w_op ct_w_op cd_w_op oc_w_tree kV_w_tree dc_w_tree pm_w_tree ct_w_tree cd_w_tree oc_w_object kV_w_object dc_w_object pm_w_object ct_w_object cd_w_object oc_w_names kV_w_names dc_w_names pm_w_names ct_w_names cd_w_names oc_w_mixed kV_w_mixed dc_w_mixed pm_w_mixed ct_w_mixed cd_w_mixed oc_law kV_law dc_law pm_law ct_law cd_law:Value} (X:K.In h) (G:h.Ns mainGlobals mg) (hfa:mg "law"=some (.ref fa))
 (l_Rule_inside:K.lookup f_Rule_inside=some ⟨oc_Rule_inside,od_Rule_inside,.func (PySem.W.fnOf "inside" "Rule.inside" (defArgs s_Rule_inside) (defBody s_Rule_inside) (defScope s_Rule_inside) .none kV_Rule_inside dc_Rule_inside pm_Rule_inside an_Rule_inside cd_Rule_inside ct_Rule_inside),sl_Rule_inside⟩) (x_Rule_inside:PySem.W.codeIn K cd_Rule_inside "Rule.inside"=true) (k_Rule_inside:PySem.W.keepIn K (.ref f_Rule_inside)=true) (W_Rule_inside:Meth K a_Rule "inside" f_Rule_inside)
 (l_Rule_names:K.lookup f_Rule_names=some ⟨oc_Rule_names,od_Rule_names,.func (PySem.W.fnOf "names" "Rule.names" (defArgs s_Rule_names) (defBody s_Rule_names) (defScope s_Rule_names) .none kV_Rule_names dc_Rule_names pm_Rule_names an_Rule_names cd_Rule_names ct_Rule_names),sl_Rule_names⟩) (x_Rule_names:PySem.W.codeIn K cd_Rule_names "Rule.names"=true) (k_Rule_names:PySem.W.keepIn K (.ref f_Rule_names)=true) (W_Rule_names:Meth K a_Rule "names" f_Rule_names)
 (l_Bead___init__:K.lookup f_Bead___init__=some ⟨oc_Bead___init__,od_Bead___init__,.func (PySem.W.fnOf "__init__" "Bead.__init__" (defArgs s_Bead___init__) (defBody s_Bead___init__) (defScope s_Bead___init__) .none kV_Bead___init__ dc_Bead___init__ pm_Bead___init__ an_Bead___init__ cd_Bead___init__ ct_Bead___init__),sl_Bead___init__⟩) (x_Bead___init__:PySem.W.codeIn K cd_Bead___init__ "Bead.__init__"=true) (k_Bead___init__:PySem.W.keepIn K (.ref f_Bead___init__)=true) (K_Bead:Mk K a_Bead f_Bead___init__)
 (l_Or___init__:K.lookup f_Or___init__=some ⟨oc_Or___init__,od_Or___init__,.func (PySem.W.fnOf "__init__" "Or.__init__" (defArgs s_Or___init__) (defBody s_Or___init__) (defScope s_Or___init__) .none kV_Or___init__ dc_Or___init__ pm_Or___init__ an_Or___init__ cd_Or___init__ ct_Or___init__),sl_Or___init__⟩) (x_Or___init__:PySem.W.codeIn K cd_Or___init__ "Or.__init__"=true) (k_Or___init__:PySem.W.keepIn K (.ref f_Or___init__)=true) (K_Or:Mk K a_Or f_Or___init__)
 (l_Or_inside:K.lookup f_Or_inside=some ⟨oc_Or_inside,od_Or_inside,.func (PySem.W.fnOf "inside" "Or.inside" (defArgs s_Or_inside) (defBody s_Or_inside) (defScope s_Or_inside) .none kV_Or_inside dc_Or_inside pm_Or_inside an_Or_inside cd_Or_inside ct_Or_inside),sl_Or_inside⟩) (x_Or_inside:PySem.W.codeIn K cd_Or_inside "Or.inside"=true) (k_Or_inside:PySem.W.keepIn K (.ref f_Or_inside)=true) (W_Or_inside:Meth K a_Or "inside" f_Or_inside)
 (l_By___init__:K.lookup f_By___init__=some ⟨oc_By___init__,od_By___init__,.func (PySem.W.fnOf "__init__" "By.__init__" (defArgs s_By___init__) (defBody s_By___init__) (defScope s_By___init__) .none kV_By___init__ dc_By___init__ pm_By___init__ an_By___init__ cd_By___init__ ct_By___init__),sl_By___init__⟩) (x_By___init__:PySem.W.codeIn K cd_By___init__ "By.__init__"=true) (k_By___init__:PySem.W.keepIn K (.ref f_By___init__)=true) (K_By:Mk K a_By f_By___init__)
 (l_By_inside:K.lookup f_By_inside=some ⟨oc_By_inside,od_By_inside,.func (PySem.W.fnOf "inside" "By.inside" (defArgs s_By_inside) (defBody s_By_inside) (defScope s_By_inside) .none kV_By_inside dc_By_inside pm_By_inside an_By_inside cd_By_inside ct_By_inside),sl_By_inside⟩) (x_By_inside:PySem.W.codeIn K cd_By_inside "By.inside"=true) (k_By_inside:PySem.W.keepIn K (.ref f_By_inside)=true) (W_By_inside:Meth K a_By "inside" f_By_inside)
 (l_Row___init__:K.lookup f_Row___init__=some ⟨oc_Row___init__,od_Row___init__,.func (PySem.W.fnOf "__init__" "Row.__init__" (defArgs s_Row___init__) (defBody s_Row___init__) (defScope s_Row___init__) .none kV_Row___init__ dc_Row___init__ pm_Row___init__ an_Row___init__ cd_Row___init__ ct_Row___init__),sl_Row___init__⟩) (x_Row___init__:PySem.W.codeIn K cd_Row___init__ "Row.__init__"=true) (k_Row___init__:PySem.W.keepIn K (.ref f_Row___init__)=true) (K_Row:Mk K a_Row f_Row___init__)
 (l_Row_inside:K.lookup f_Row_inside=some ⟨oc_Row_inside,od_Row_inside,.func (PySem.W.fnOf "inside" "Row.inside" (defArgs s_Row_inside) (defBody s_Row_inside) (defScope s_Row_inside) .none kV_Row_inside dc_Row_inside pm_Row_inside an_Row_inside cd_Row_inside ct_Row_inside),sl_Row_inside⟩) (x_Row_inside:PySem.W.codeIn K cd_Row_inside "Row.inside"=true) (k_Row_inside:PySem.W.keepIn K (.ref f_Row_inside)=true) (W_Row_inside:Meth K a_Row "inside" f_Row_inside)
 (l_Bag___init__:K.lookup f_Bag___init__=some ⟨oc_Bag___init__,od_Bag___init__,.func (PySem.W.fnOf "__init__" "Bag.__init__" (defArgs s_Bag___init__) (defBody s_Bag___init__) (defScope s_Bag___init__) .none kV_Bag___init__ dc_Bag___init__ pm_Bag___init__ an_Bag___init__ cd_Bag___init__ ct_Bag___init__),sl_Bag___init__⟩) (x_Bag___init__:PySem.W.codeIn K cd_Bag___init__ "Bag.__init__"=true) (k_Bag___init__:PySem.W.keepIn K (.ref f_Bag___init__)=true) (K_Bag:Mk K a_Bag f_Bag___init__)
 (l_Bag_inside:K.lookup f_Bag_inside=some ⟨oc_Bag_inside,od_Bag_inside,.func (PySem.W.fnOf "inside" "Bag.inside" (defArgs s_Bag_inside) (defBody s_Bag_inside) (defScope s_Bag_inside) .none kV_Bag_inside dc_Bag_inside pm_Bag_inside an_Bag_inside cd_Bag_inside ct_Bag_inside),sl_Bag_inside⟩) (x_Bag_inside:PySem.W.codeIn K cd_Bag_inside "Bag.inside"=true) (k_Bag_inside:PySem.W.keepIn K (.ref f_Bag_inside)=true) (W_Bag_inside:Meth K a_Bag "inside" f_Bag_inside)
 (l_Choice___init__:K.lookup f_Choice___init__=some ⟨oc_Choice___init__,od_Choice___init__,.func (PySem.W.fnOf "__init__" "Choice.__init__" (defArgs s_Choice___init__) (defBody s_Choice___init__) (defScope s_Choice___init__) .none kV_Choice___init__ dc_Choice___init__ pm_Choice___init__ an_Choice___init__ cd_Choice___init__ ct_Choice___init__),sl_Choice___init__⟩) (x_Choice___init__:PySem.W.codeIn K cd_Choice___init__ "Choice.__init__"=true) (k_Choice___init__:PySem.W.keepIn K (.ref f_Choice___init__)=true) (K_Choice:Mk K a_Choice f_Choice___init__)
 (l_Choice_inside:K.lookup f_Choice_inside=some ⟨oc_Choice_inside,od_Choice_inside,.func (PySem.W.fnOf "inside" "Choice.inside" (defArgs s_Choice_inside) (defBody s_Choice_inside) (defScope s_Choice_inside) .none kV_Choice_inside dc_Choice_inside pm_Choice_inside an_Choice_inside cd_Choice_inside ct_Choice_inside),sl_Choice_inside⟩) (x_Choice_inside:PySem.W.codeIn K cd_Choice_inside "Choice.inside"=true) (k_Choice_inside:PySem.W.keepIn K (.ref f_Choice_inside)=true) (W_Choice_inside:Meth K a_Choice "inside" f_Choice_inside)
 (l_Ring___init__:K.lookup f_Ring___init__=some ⟨oc_Ring___init__,od_Ring___init__,.func (PySem.W.fnOf "__init__" "Ring.__init__" (defArgs s_Ring___init__) (defBody s_Ring___init__) (defScope s_Ring___init__) .none kV_Ring___init__ dc_Ring___init__ pm_Ring___init__ an_Ring___init__ cd_Ring___init__ ct_Ring___init__),sl_Ring___init__⟩) (x_Ring___init__:PySem.W.codeIn K cd_Ring___init__ "Ring.__init__"=true) (k_Ring___init__:PySem.W.keepIn K (.ref f_Ring___init__)=true) (K_Ring:Mk K a_Ring f_Ring___init__)
 (l_Ring_inside:K.lookup f_Ring_inside=some ⟨oc_Ring_inside,od_Ring_inside,.func (PySem.W.fnOf "inside" "Ring.inside" (defArgs s_Ring_inside) (defBody s_Ring_inside) (defScope s_Ring_inside) .none kV_Ring_inside dc_Ring_inside pm_Ring_inside an_Ring_inside cd_Ring_inside ct_Ring_inside),sl_Ring_inside⟩) (x_Ring_inside:PySem.W.codeIn K cd_Ring_inside "Ring.inside"=true) (k_Ring_inside:PySem.W.keepIn K (.ref f_Ring_inside)=true) (W_Ring_inside:Meth K a_Ring "inside" f_Ring_inside)
 (l_Named___init__:K.lookup f_Named___init__=some ⟨oc_Named___init__,od_Named___init__,.func (PySem.W.fnOf "__init__" "Named.__init__" (defArgs s_Named___init__) (defBody s_Named___init__) (defScope s_Named___init__) .none kV_Named___init__ dc_Named___init__ pm_Named___init__ an_Named___init__ cd_Named___init__ ct_Named___init__),sl_Named___init__⟩) (x_Named___init__:PySem.W.codeIn K cd_Named___init__ "Named.__init__"=true) (k_Named___init__:PySem.W.keepIn K (.ref f_Named___init__)=true) (K_Named:Mk K a_Named f_Named___init__)
 (l_Named_names:K.lookup f_Named_names=some ⟨oc_Named_names,od_Named_names,.func (PySem.W.fnOf "names" "Named.names" (defArgs s_Named_names) (defBody s_Named_names) (defScope s_Named_names) .none kV_Named_names dc_Named_names pm_Named_names an_Named_names cd_Named_names ct_Named_names),sl_Named_names⟩) (x_Named_names:PySem.W.codeIn K cd_Named_names "Named.names"=true) (k_Named_names:PySem.W.keepIn K (.ref f_Named_names)=true) (W_Named_names:Meth K a_Named "names" f_Named_names)
    (a_w_cell:PySem.W.nsIn K mainGlobals "_law_cell"=some (some (.ref f_w_cell))) (l_w_cell:K.lookup f_w_cell=some ⟨oc_w_cell,od_w_cell,.func (PySem.W.fnOf "_law_cell" "_law_cell" (defArgs s_w_cell) (defBody s_w_cell) (defScope s_w_cell) .none kV_w_cell dc_w_cell pm_w_cell an_w_cell cd_w_cell ct_w_cell),sl_w_cell⟩) (x_w_cell:PySem.W.codeIn K cd_w_cell "_law_cell"=true) (k_w_cell:PySem.W.keepIn K (.ref f_w_cell)=true)
    (a_w_kept:PySem.W.nsIn K mainGlobals "_law_kept"=some (some (.ref f_w_kept))) (l_w_kept:K.lookup f_w_kept=some ⟨oc_w_kept,od_w_kept,.func (PySem.W.fnOf "_law_kept" "_law_kept" (defArgs s_w_kept) (defBody s_w_kept) (defScope s_w_kept) .none kV_w_kept dc_w_kept pm_w_kept an_w_kept cd_w_kept ct_w_kept),sl_w_kept⟩) (x_w_kept:PySem.W.codeIn K cd_w_kept "_law_kept"=true) (k_w_kept:PySem.W.keepIn K (.ref f_w_kept)=true)
    (a_w_word:PySem.W.nsIn K mainGlobals "_law_word"=some (some (.ref f_w_word))) (l_w_word:K.lookup f_w_word=some ⟨oc_w_word,od_w_word,.func (PySem.W.fnOf "_law_word" "_law_word" (defArgs s_w_word) (defBody s_w_word) (defScope s_w_word) .none kV_w_word dc_w_word pm_w_word an_w_word cd_w_word ct_w_word),sl_w_word⟩) (x_w_word:PySem.W.codeIn K cd_w_word "_law_word"=true) (k_w_word:PySem.W.keepIn K (.ref f_w_word)=true)
    (a_w_total:PySem.W.nsIn K mainGlobals "_law_total"=some (some (.ref f_w_total))) (l_w_total:K.lookup f_w_total=some ⟨oc_w_total,od_w_total,.func (PySem.W.fnOf "_law_total" "_law_total" (defArgs s_w_total) (defBody s_w_total) (defScope s_w_total) .none kV_w_total dc_w_total pm_w_total an_w_total cd_w_total ct_w_total),sl_w_total⟩) (x_w_total:PySem.W.codeIn K cd_w_total "_law_total"=true) (k_w_total:PySem.W.keepIn K (.ref f_w_total)=true)
    (a_w_op:PySem.W.nsIn K mainGlobals "_law_op"=some (some (.ref f_w_op))) (l_w_op:K.lookup f_w_op=some ⟨oc_w_op,od_w_op,.func (PySem.W.fnOf "_law_op" "_law_op" (defArgs s_w_op) (defBody s_w_op) (defScope s_w_op) .none kV_w_op dc_w_op pm_w_op an_w_op cd_w_op ct_w_op),sl_w_op⟩) (x_w_op:PySem.W.codeIn K cd_w_op "_law_op"=true) (k_w_op:PySem.W.keepIn K (.ref f_w_op)=true)
    (a_w_tree:PySem.W.nsIn K mainGlobals "_law_tree"=some (some (.ref f_w_tree))) (l_w_tree:K.lookup f_w_tree=some ⟨oc_w_tree,od_w_tree,.func (PySem.W.fnOf "_law_tree" "_law_tree" (defArgs s_w_tree) (defBody s_w_tree) (defScope s_w_tree) .none kV_w_tree dc_w_tree pm_w_tree an_w_tree cd_w_tree ct_w_tree),sl_w_tree⟩) (x_w_tree:PySem.W.codeIn K cd_w_tree "_law_tree"=true) (k_w_tree:PySem.W.keepIn K (.ref f_w_tree)=true)
    (a_w_object:PySem.W.nsIn K mainGlobals "_law_object"=some (some (.ref f_w_object))) (l_w_object:K.lookup f_w_object=some ⟨oc_w_object,od_w_object,.func (PySem.W.fnOf "_law_object" "_law_object" (defArgs s_w_object) (defBody s_w_object) (defScope s_w_object) .none kV_w_object dc_w_object pm_w_object an_w_object cd_w_object ct_w_object),sl_w_object⟩) (x_w_object:PySem.W.codeIn K cd_w_object "_law_object"=true) (k_w_object:PySem.W.keepIn K (.ref f_w_object)=true)
    (a_w_names:PySem.W.nsIn K mainGlobals "_law_names"=some (some (.ref f_w_names))) (l_w_names:K.lookup f_w_names=some ⟨oc_w_names,od_w_names,.func (PySem.W.fnOf "_law_names" "_law_names" (defArgs s_w_names) (defBody s_w_names) (defScope s_w_names) .none kV_w_names dc_w_names pm_w_names an_w_names cd_w_names ct_w_names),sl_w_names⟩) (x_w_names:PySem.W.codeIn K cd_w_names "_law_names"=true) (k_w_names:PySem.W.keepIn K (.ref f_w_names)=true)
    (a_w_mixed:PySem.W.nsIn K mainGlobals "_law_mixed"=some (some (.ref f_w_mixed))) (l_w_mixed:K.lookup f_w_mixed=some ⟨oc_w_mixed,od_w_mixed,.func (PySem.W.fnOf "_law_mixed" "_law_mixed" (defArgs s_w_mixed) (defBody s_w_mixed) (defScope s_w_mixed) .none kV_w_mixed dc_w_mixed pm_w_mixed an_w_mixed cd_w_mixed ct_w_mixed),sl_w_mixed⟩) (x_w_mixed:PySem.W.codeIn K cd_w_mixed "_law_mixed"=true) (k_w_mixed:PySem.W.keepIn K (.ref f_w_mixed)=true)
    (a_law:PySem.W.nsIn K mainGlobals "law"=some (some (.ref f_law))) (l_law:K.lookup f_law=some ⟨oc_law,od_law,.func (PySem.W.fnOf "law" "law" (defArgs s_law) (defBody s_law) (defScope s_law) .none kV_law dc_law pm_law an_law cd_law ct_law),sl_law⟩) (x_law:PySem.W.codeIn K cd_law "law"=true) (k_law:PySem.W.keepIn K (.ref f_law)=true)
    (m_Rule:PySem.W.nsIn K mainGlobals "Rule"=some (some (.ref a_Rule))) (L_Rule:Cls K a_Rule) (K_Rule:Mk0 K a_Rule)
    (m_Nothing:PySem.W.nsIn K mainGlobals "Nothing"=some (some (.ref a_Nothing))) (L_Nothing:Cls K a_Nothing) (K_Nothing:Mk0 K a_Nothing) (W_Nothing_inside:Meth K a_Nothing "inside" f_Rule_inside) (W_Nothing_names:Meth K a_Nothing "names" f_Rule_names)
    (m_Bead:PySem.W.nsIn K mainGlobals "Bead"=some (some (.ref a_Bead))) (L_Bead:Cls K a_Bead) (W_Bead_inside:Meth K a_Bead "inside" f_Rule_inside) (W_Bead_names:Meth K a_Bead "names" f_Rule_names) (N_Bead_colour:NoAttr K a_Bead "colour")
    (m_Or:PySem.W.nsIn K mainGlobals "Or"=some (some (.ref a_Or))) (L_Or:Cls K a_Or) (W_Or_names:Meth K a_Or "names" f_Rule_names) (N_Or_one:NoAttr K a_Or "one") (N_Or_other:NoAttr K a_Or "other")
    (m_By:PySem.W.nsIn K mainGlobals "By"=some (some (.ref a_By))) (L_By:Cls K a_By) (W_By_names:Meth K a_By "names" f_Rule_names) (N_By_one:NoAttr K a_By "one") (N_By_other:NoAttr K a_By "other")
    (m_Row:PySem.W.nsIn K mainGlobals "Row"=some (some (.ref a_Row))) (L_Row:Cls K a_Row) (W_Row_names:Meth K a_Row "names" f_Rule_names) (N_Row_part:NoAttr K a_Row "part")
    (m_Bag:PySem.W.nsIn K mainGlobals "Bag"=some (some (.ref a_Bag))) (L_Bag:Cls K a_Bag) (W_Bag_names:Meth K a_Bag "names" f_Rule_names) (N_Bag_part:NoAttr K a_Bag "part")
    (m_Choice:PySem.W.nsIn K mainGlobals "Choice"=some (some (.ref a_Choice))) (L_Choice:Cls K a_Choice) (W_Choice_names:Meth K a_Choice "names" f_Rule_names) (N_Choice_part:NoAttr K a_Choice "part")
    (m_Ring:PySem.W.nsIn K mainGlobals "Ring"=some (some (.ref a_Ring))) (L_Ring:Cls K a_Ring) (W_Ring_names:Meth K a_Ring "names" f_Rule_names) (N_Ring_part:NoAttr K a_Ring "part")
    (m_Named:PySem.W.nsIn K mainGlobals "Named"=some (some (.ref a_Named))) (L_Named:Cls K a_Named) (W_Named_inside:Meth K a_Named "inside" f_Rule_inside) (N_Named_name:NoAttr K a_Named "name")
    (IT:IsTab K [a_Nothing,a_Bead,a_Named,a_Or,a_By,a_Row,a_Bag,a_Choice,a_Ring] a_Rule)
    (n_all:PySem.W.nsIn K mainGlobals "all"=some none)
    (n_any:PySem.W.nsIn K mainGlobals "any"=some none)
    (n_bool:PySem.W.nsIn K mainGlobals "bool"=some none)
    (n_enumerate:PySem.W.nsIn K mainGlobals "enumerate"=some none)
    (n_int:PySem.W.nsIn K mainGlobals "int"=some none)
    (n_isinstance:PySem.W.nsIn K mainGlobals "isinstance"=some none)
    (n_len:PySem.W.nsIn K mainGlobals "len"=some none)
    (n_list:PySem.W.nsIn K mainGlobals "list"=some none)
    (n_max:PySem.W.nsIn K mainGlobals "max"=some none)
    (n_min:PySem.W.nsIn K mainGlobals "min"=some none)
    (n_range:PySem.W.nsIn K mainGlobals "range"=some none)
    (n_reversed:PySem.W.nsIn K mainGlobals "reversed"=some none)
    (n_set:PySem.W.nsIn K mainGlobals "set"=some none)
    (n_sorted:PySem.W.nsIn K mainGlobals "sorted"=some none)
    (n_str:PySem.W.nsIn K mainGlobals "str"=some none)
    (n_sum:PySem.W.nsIn K mainGlobals "sum"=some none)
    (n_tuple:PySem.W.nsIn K mainGlobals "tuple"=some none)
    (n_zip:PySem.W.nsIn K mainGlobals "zip"=some none) :
    ∃ fd:FuncData,(∀ (s:Shared) (v:Value),BindsTo s fd ⟨[v],[]⟩ [("_law_script",v)])/\∀ base:Heap,K.In base->base.Ns mainGlobals mg->FnOk l.prog w K mg base CX0 60 fa fd ["_law_script"] (spOf K aspLaw):=by
  have e:=hfa.symm.trans (PySem.W.mg_of X G a_law)
  cases e
  have F_Rule_inside:=fun_mk (st:=s_Rule_inside) l_Rule_inside x_Rule_inside k_Rule_inside
  have B_Rule_inside:=F_Rule_inside.binds (ps:=["self"]) fun _ _ _ _ _ _=>by refine len1 ?_;intros;rfl
  have F_Rule_names:=fun_mk (st:=s_Rule_names) l_Rule_names x_Rule_names k_Rule_names
  have B_Rule_names:=F_Rule_names.binds (ps:=["self"]) fun _ _ _ _ _ _=>by refine len1 ?_;intros;rfl
  have F_Bead___init__:=fun_mk (st:=s_Bead___init__) l_Bead___init__ x_Bead___init__ k_Bead___init__
  have B_Bead___init__:=F_Bead___init__.binds (ps:=["self","colour"]) fun _ _ _ _ _ _=>by refine len2 ?_;intros;rfl
  have F_Or___init__:=fun_mk (st:=s_Or___init__) l_Or___init__ x_Or___init__ k_Or___init__
  have B_Or___init__:=F_Or___init__.binds (ps:=["self","one","other"]) fun _ _ _ _ _ _=>by refine len3 ?_;intros;rfl
  have F_Or_inside:=fun_mk (st:=s_Or_inside) l_Or_inside x_Or_inside k_Or_inside
  have B_Or_inside:=F_Or_inside.binds (ps:=["self"]) fun _ _ _ _ _ _=>by refine len1 ?_;intros;rfl
  have F_By___init__:=fun_mk (st:=s_By___init__) l_By___init__ x_By___init__ k_By___init__
  have B_By___init__:=F_By___init__.binds (ps:=["self","one","other"]) fun _ _ _ _ _ _=>by refine len3 ?_;intros;rfl
  have F_By_inside:=fun_mk (st:=s_By_inside) l_By_inside x_By_inside k_By_inside
  have B_By_inside:=F_By_inside.binds (ps:=["self"]) fun _ _ _ _ _ _=>by refine len1 ?_;intros;rfl
  have F_Row___init__:=fun_mk (st:=s_Row___init__) l_Row___init__ x_Row___init__ k_Row___init__
  have B_Row___init__:=F_Row___init__.binds (ps:=["self","part"]) fun _ _ _ _ _ _=>by refine len2 ?_;intros;rfl
  have F_Row_inside:=fun_mk (st:=s_Row_inside) l_Row_inside x_Row_inside k_Row_inside
  have B_Row_inside:=F_Row_inside.binds (ps:=["self"]) fun _ _ _ _ _ _=>by refine len1 ?_;intros;rfl
  have F_Bag___init__:=fun_mk (st:=s_Bag___init__) l_Bag___init__ x_Bag___init__ k_Bag___init__
  have B_Bag___init__:=F_Bag___init__.binds (ps:=["self","part"]) fun _ _ _ _ _ _=>by refine len2 ?_;intros;rfl
  have F_Bag_inside:=fun_mk (st:=s_Bag_inside) l_Bag_inside x_Bag_inside k_Bag_inside
  have B_Bag_inside:=F_Bag_inside.binds (ps:=["self"]) fun _ _ _ _ _ _=>by refine len1 ?_;intros;rfl
  have F_Choice___init__:=fun_mk (st:=s_Choice___init__) l_Choice___init__ x_Choice___init__ k_Choice___init__
  have B_Choice___init__:=F_Choice___init__.binds (ps:=["self","part"]) fun _ _ _ _ _ _=>by refine len2 ?_;intros;rfl
  have F_Choice_inside:=fun_mk (st:=s_Choice_inside) l_Choice_inside x_Choice_inside k_Choice_inside
  have B_Choice_inside:=F_Choice_inside.binds (ps:=["self"]) fun _ _ _ _ _ _=>by refine len1 ?_;intros;rfl
  have F_Ring___init__:=fun_mk (st:=s_Ring___init__) l_Ring___init__ x_Ring___init__ k_Ring___init__
  have B_Ring___init__:=F_Ring___init__.binds (ps:=["self","part"]) fun _ _ _ _ _ _=>by refine len2 ?_;intros;rfl
  have F_Ring_inside:=fun_mk (st:=s_Ring_inside) l_Ring_inside x_Ring_inside k_Ring_inside
  have B_Ring_inside:=F_Ring_inside.binds (ps:=["self"]) fun _ _ _ _ _ _=>by refine len1 ?_;intros;rfl
  have F_Named___init__:=fun_mk (st:=s_Named___init__) l_Named___init__ x_Named___init__ k_Named___init__
  have B_Named___init__:=F_Named___init__.binds (ps:=["self","name"]) fun _ _ _ _ _ _=>by refine len2 ?_;intros;rfl
  have F_Named_names:=fun_mk (st:=s_Named_names) l_Named_names x_Named_names k_Named_names
  have B_Named_names:=F_Named_names.binds (ps:=["self"]) fun _ _ _ _ _ _=>by refine len1 ?_;intros;rfl
  have F_w_cell:=fun_mk (st:=s_w_cell) l_w_cell x_w_cell k_w_cell
  have B_w_cell:=F_w_cell.binds (ps:=["_law_script","_law_k"]) fun _ _ _ _ _ _=>by refine len2 ?_;intros;rfl
  have F_w_kept:=fun_mk (st:=s_w_kept) l_w_kept x_w_kept k_w_kept
  have B_w_kept:=F_w_kept.binds (ps:=[]) fun _ _ _ _ _ _=>by refine len0 ?_;intros;rfl
  have F_w_word:=fun_mk (st:=s_w_word) l_w_word x_w_word k_w_word
  have B_w_word:=F_w_word.binds (ps:=["_law_cell_here"]) fun _ _ _ _ _ _=>by refine len1 ?_;intros;rfl
  have F_w_total:=fun_mk (st:=s_w_total) l_w_total x_w_total k_w_total
  have B_w_total:=F_w_total.binds (ps:=["_law_stack"]) fun _ _ _ _ _ _=>by refine len1 ?_;intros;rfl
  have F_w_op:=fun_mk (st:=s_w_op) l_w_op x_w_op k_w_op
  have B_w_op:=F_w_op.binds (ps:=["_law_stack","_law_cell_here"]) fun _ _ _ _ _ _=>by refine len2 ?_;intros;rfl
  have F_w_tree:=fun_mk (st:=s_w_tree) l_w_tree x_w_tree k_w_tree
  have B_w_tree:=F_w_tree.binds (ps:=["_law_cells"]) fun _ _ _ _ _ _=>by refine len1 ?_;intros;rfl
  have F_w_object:=fun_mk (st:=s_w_object) l_w_object x_w_object k_w_object
  have B_w_object:=F_w_object.binds (ps:=["_law_rule"]) fun _ _ _ _ _ _=>by refine len1 ?_;intros;rfl
  have F_w_names:=fun_mk (st:=s_w_names) l_w_names x_w_names k_w_names
  have B_w_names:=F_w_names.binds (ps:=["_law_tree_here"]) fun _ _ _ _ _ _=>by refine len1 ?_;intros;rfl
  have F_w_mixed:=fun_mk (st:=s_w_mixed) l_w_mixed x_w_mixed k_w_mixed
  have B_w_mixed:=F_w_mixed.binds (ps:=["_law_script","_law_few"]) fun _ _ _ _ _ _=>by refine len2 ?_;intros;rfl
  have F_law:=fun_mk (st:=s_law) l_law x_law k_law
  have B_law:=F_law.binds (ps:=["_law_script"]) fun _ _ _ _ _ _=>by refine len1 ?_;intros;rfl
  have T:TX K mg _ _ _ _ _ _ _ _ _ _ _ _ _ _ _ _ _ _ _ _ _ _ _ _ _ _ _ _ _ _ _ _ _ _ _ _ _ _ _ _ _ _ _ _ _ _ _ _ _ _ _ _ _ _ _ _ _ _ _ _ _ _ _ _:=⟨F_Rule_inside,B_Rule_inside,W_Rule_inside,F_Rule_names,B_Rule_names,W_Rule_names,F_Bead___init__,B_Bead___init__,K_Bead,F_Or___init__,B_Or___init__,K_Or,F_Or_inside,B_Or_inside,W_Or_inside,F_By___init__,B_By___init__,K_By,F_By_inside,B_By_inside,W_By_inside,F_Row___init__,B_Row___init__,K_Row,F_Row_inside,B_Row_inside,W_Row_inside,F_Bag___init__,B_Bag___init__,K_Bag,F_Bag_inside,B_Bag_inside,W_Bag_inside,F_Choice___init__,B_Choice___init__,K_Choice,F_Choice_inside,B_Choice_inside,W_Choice_inside,F_Ring___init__,B_Ring___init__,K_Ring,F_Ring_inside,B_Ring_inside,W_Ring_inside,F_Named___init__,B_Named___init__,K_Named,F_Named_names,B_Named_names,W_Named_names,F_w_cell,B_w_cell,PySem.W.mg_of X G a_w_cell,F_w_kept,B_w_kept,PySem.W.mg_of X G a_w_kept,F_w_word,B_w_word,PySem.W.mg_of X G a_w_word,F_w_total,B_w_total,PySem.W.mg_of X G a_w_total,F_w_op,B_w_op,PySem.W.mg_of X G a_w_op,F_w_tree,B_w_tree,PySem.W.mg_of X G a_w_tree,F_w_object,B_w_object,PySem.W.mg_of X G a_w_object,F_w_names,B_w_names,PySem.W.mg_of X G a_w_names,F_w_mixed,B_w_mixed,PySem.W.mg_of X G a_w_mixed,F_law,B_law,PySem.W.mg_of X G a_law,PySem.W.mg_of X G m_Rule,L_Rule,K_Rule,PySem.W.mg_of X G m_Nothing,L_Nothing,K_Nothing,W_Nothing_inside,W_Nothing_names,PySem.W.mg_of X G m_Bead,L_Bead,W_Bead_inside,W_Bead_names,N_Bead_colour,PySem.W.mg_of X G m_Or,L_Or,W_Or_names,N_Or_one,N_Or_other,PySem.W.mg_of X G m_By,L_By,W_By_names,N_By_one,N_By_other,PySem.W.mg_of X G m_Row,L_Row,W_Row_names,N_Row_part,PySem.W.mg_of X G m_Bag,L_Bag,W_Bag_names,N_Bag_part,PySem.W.mg_of X G m_Choice,L_Choice,W_Choice_names,N_Choice_part,PySem.W.mg_of X G m_Ring,L_Ring,W_Ring_names,N_Ring_part,PySem.W.mg_of X G m_Named,L_Named,W_Named_inside,N_Named_name,IT,PySem.W.mg_none_of X G n_all,PySem.W.mg_none_of X G n_any,PySem.W.mg_none_of X G n_bool,PySem.W.mg_none_of X G n_enumerate,PySem.W.mg_none_of X G n_int,PySem.W.mg_none_of X G n_isinstance,PySem.W.mg_none_of X G n_len,PySem.W.mg_none_of X G n_list,PySem.W.mg_none_of X G n_max,PySem.W.mg_none_of X G n_min,PySem.W.mg_none_of X G n_range,PySem.W.mg_none_of X G n_reversed,PySem.W.mg_none_of X G n_set,PySem.W.mg_none_of X G n_sorted,PySem.W.mg_none_of X G n_str,PySem.W.mg_none_of X G n_sum,PySem.W.mg_none_of X G n_tuple,PySem.W.mg_none_of X G n_zip⟩
  exact ⟨_,fun s v=>.of_eq rfl,fun base _ _=>ok_law T⟩
theorem walk {l:PySem.W.OpenLaw} {q:Program} {loose:List Str} {XP:(Str->Option Value)->Heap->Prop} {YP:World->Heap->Prop} {d:DefRec} {K:Params->PySem.W.Frag} (hn:l.most=some 63) (hdf:d.params.defaults=[])
    (hY:∀ (w:World) (h:Heap),YP w h->(K w.params).In h)
    (F : ∀ (w:World) (mg:Str->Option Value) (fa:Addr) (h:Heap),(K w.params).In h->h.Ns mainGlobals mg->mg d.name=some (.ref fa) ->
      ∃ fd:FuncData,(∀ (s:Shared) (u:Value),BindsTo s fd ⟨[u],[]⟩ [("_law_script",u)])/\∀ base:Heap,(K w.params).In base->base.Ns mainGlobals mg->FnOk l.prog w (K w.params) mg base CX0 60 fa fd ["_law_script"] (spOf (K w.params) aspLaw)) :
    PySem.W.WalkO q loose XP YP l.row.toRowW d [] (fun f vs=>PySem.call f vs) :=
  L2.walk_of (n:=63) (k:=60) (x:="_law_script") (CX:=fun _=>CX0) (sp:=fun w=>spOf (K w.params) aspLaw) hn (by decide) hdf ⟨rfl,by decide,by decide⟩ hY F (fun _ _ a ns hl hO hS=>law_in hl hO hS) fun _ _ _ _ _ z=>z
theorem pr0:(("a":String) == "a" && Nat.beq [PySem.W.boot_o_0].length 1)=true:=by k_qdec
noncomputable def hq:Program:=PySem.W.view PySem.Challenge.pw_figurebook_k04_names_of_rules [22]
noncomputable def hloose:List Str:=(["_wall","Rule","Nothing","Bead","Or","By","Row","Bag","Choice","Ring","Named","_law_cell","_law_kept","_law_word","_law_total","_law_op","_law_tree","_law_object","_law_names","_law_mixed"]:List Str)
noncomputable def hKl (P:Params):List (Addr × Obj):=[(2,(Obj.mk .none none (.dict #[] 0) #[])),
  (3,hNs 30 [hEnt P "__name__" 165 (.str "law_figurebook_k04_names_of_rules" 565),hEnt P "__doc__" 166 .none,hEnt P "__package__" 167 .none,hEnt P "__loader__" 168 (.builtin "__main__.__loader__#opaque"),hEnt P "__spec__" 169 .none,hEnt P "__annotations__" 170 (.ref 6),hEnt P "__builtins__" 171 (.ref 4),hEnt P "__file__" 173 (.str "/claim/cut.py" 172),hEnt P "__cached__" 174 .none,hEnt P "_wall" 193 (.ref 21),hEnt P "Rule" 232 (.ref 45),hEnt P "Nothing" 255 (.ref 66),hEnt P "Bead" 287 (.ref 92),hEnt P "Or" 328 (.ref 125),hEnt P "By" 369 (.ref 158),hEnt P "Row" 408 (.ref 191),hEnt P "Bag" 447 (.ref 224),hEnt P "Choice" 486 (.ref 257),hEnt P "Ring" 525 (.ref 290),hEnt P "Named" 564 (.ref 323),hEnt P "_law_cell" 574 (.ref 332),hEnt P "_law_kept" 580 (.ref 339),hEnt P "_law_word" 590 (.ref 346),hEnt P "_law_total" 596 (.ref 351),hEnt P "_law_op" 610 (.ref 358),hEnt P "_law_tree" 624 (.ref 365),hEnt P "_law_object" 632 (.ref 372),hEnt P "_law_names" 641 (.ref 379),hEnt P "_law_mixed" 654 (.ref 386),hEnt P "law" 660 (.ref 391)]),
  (34,hCode "inside" "Rule.inside" 208 7 1 3 29 30 (some 31) (some 32) 33 212 213),
  (35,hFun s_Rule_inside "inside" "Rule.inside" (.str "figurebook.rules" 194) 34),
  (41,hCode "names" "Rule.names" 215 10 1 3 36 37 (some 38) (some 39) 40 222 223),
  (42,hFun s_Rule_names "names" "Rule.names" (.str "figurebook.rules" 194) 41),
  (44,hNs 4 [hEnt P "__module__" 203 (.str "figurebook.rules" 194),hEnt P "__firstlineno__" 207 (.int 5 206),hEnt P "inside" 214 (.ref 35),hEnt P "names" 224 (.ref 42),hEnt P "__static_attributes__" 225 (.ref 43),hEnt P "__dict__" 227 (.ref 46),hEnt P "__weakref__" 229 (.ref 47),hEnt P "__doc__" 230 .none]),
  (45,Obj.mk (.type "type") none (.cls (ClassData.mk "Rule" [(.type "object")] [(.ref 45),(.type "object")] 44 "Rule" true [] [(.ref 66),(.ref 92),(.ref 125),(.ref 158),(.ref 191),(.ref 224),(.ref 257),(.ref 290),(.ref 323)] false none false)) #[none,none,(some (.str "Rule" 196)),(some (.str "Rule" 204)),(some (.builtin "object.__new__")),(some (.bool true))]),
  (65,hNs 2 [hEnt P "__module__" 240 (.str "figurebook.rules" 194),hEnt P "__firstlineno__" 244 (.int 16 243),hEnt P "told" 251 (.ref 63),hEnt P "__static_attributes__" 252 (.ref 64),hEnt P "__doc__" 253 .none]),
  (66,Obj.mk (.type "type") none (.cls (ClassData.mk "Nothing" [(.ref 45)] [(.ref 66),(.ref 45),(.type "object")] 65 "Nothing" true [] [] false none false)) #[(some (.ref 50)),none,(some (.str "Nothing" 233)),(some (.str "Nothing" 241)),(some (.builtin "object.__new__")),(some (.bool true))]),
  (81,hCode "__init__" "Bead.__init__" 268 22 2 3 76 77 (some 78) (some 79) 80 273 274),
  (82,hFun s_Bead___init__ "__init__" "Bead.__init__" (.str "figurebook.rules" 194) 81),
  (91,hNs 2 [hEnt P "__module__" 263 (.str "figurebook.rules" 194),hEnt P "__firstlineno__" 267 (.int 20 266),hEnt P "__init__" 275 (.ref 82),hEnt P "told" 282 (.ref 89),hEnt P "__static_attributes__" 284 (.ref 90),hEnt P "__doc__" 285 .none]),
  (92,Obj.mk (.type "type") none (.cls (ClassData.mk "Bead" [(.ref 45)] [(.ref 92),(.ref 45),(.type "object")] 91 "Bead" true [] [] false none false)) #[(some (.ref 69)),none,(some (.str "Bead" 256)),(some (.str "Bead" 264)),(some (.builtin "object.__new__")),(some (.bool true))]),
  (107,hCode "__init__" "Or.__init__" 300 29 3 3 102 103 (some 104) (some 105) 106 306 307),
  (108,hFun s_Or___init__ "__init__" "Or.__init__" (.str "figurebook.rules" 194) 107),
  (114,hCode "inside" "Or.inside" 309 33 1 3 109 110 (some 111) (some 112) 113 313 314),
  (115,hFun s_Or_inside "inside" "Or.inside" (.str "figurebook.rules" 194) 114),
  (124,hNs 2 [hEnt P "__module__" 295 (.str "figurebook.rules" 194),hEnt P "__firstlineno__" 299 (.int 27 298),hEnt P "__init__" 308 (.ref 108),hEnt P "inside" 315 (.ref 115),hEnt P "told" 322 (.ref 122),hEnt P "__static_attributes__" 325 (.ref 123),hEnt P "__doc__" 326 .none]),
  (125,Obj.mk (.type "type") none (.cls (ClassData.mk "Or" [(.ref 45)] [(.ref 125),(.ref 45),(.type "object")] 124 "Or" true [] [] false none false)) #[(some (.ref 95)),none,(some (.str "Or" 288)),(some (.str "Or" 296)),(some (.builtin "object.__new__")),(some (.bool true))]),
  (140,hCode "__init__" "By.__init__" 341 40 3 3 135 136 (some 137) (some 138) 139 347 348),
  (141,hFun s_By___init__ "__init__" "By.__init__" (.str "figurebook.rules" 194) 140),
  (147,hCode "inside" "By.inside" 350 44 1 3 142 143 (some 144) (some 145) 146 354 355),
  (148,hFun s_By_inside "inside" "By.inside" (.str "figurebook.rules" 194) 147),
  (157,hNs 2 [hEnt P "__module__" 336 (.str "figurebook.rules" 194),hEnt P "__firstlineno__" 340 (.int 38 339),hEnt P "__init__" 349 (.ref 141),hEnt P "inside" 356 (.ref 148),hEnt P "told" 363 (.ref 155),hEnt P "__static_attributes__" 366 (.ref 156),hEnt P "__doc__" 367 .none]),
  (158,Obj.mk (.type "type") none (.cls (ClassData.mk "By" [(.ref 45)] [(.ref 158),(.ref 45),(.type "object")] 157 "By" true [] [] false none false)) #[(some (.ref 128)),none,(some (.str "By" 329)),(some (.str "By" 337)),(some (.builtin "object.__new__")),(some (.bool true))]),
  (173,hCode "__init__" "Row.__init__" 382 51 2 3 168 169 (some 170) (some 171) 172 387 388),
  (174,hFun s_Row___init__ "__init__" "Row.__init__" (.str "figurebook.rules" 194) 173),
  (180,hCode "inside" "Row.inside" 390 54 1 3 175 176 (some 177) (some 178) 179 394 395),
  (181,hFun s_Row_inside "inside" "Row.inside" (.str "figurebook.rules" 194) 180),
  (190,hNs 2 [hEnt P "__module__" 377 (.str "figurebook.rules" 194),hEnt P "__firstlineno__" 381 (.int 49 380),hEnt P "__init__" 389 (.ref 174),hEnt P "inside" 396 (.ref 181),hEnt P "told" 403 (.ref 188),hEnt P "__static_attributes__" 405 (.ref 189),hEnt P "__doc__" 406 .none]),
  (191,Obj.mk (.type "type") none (.cls (ClassData.mk "Row" [(.ref 45)] [(.ref 191),(.ref 45),(.type "object")] 190 "Row" true [] [] false none false)) #[(some (.ref 161)),none,(some (.str "Row" 370)),(some (.str "Row" 378)),(some (.builtin "object.__new__")),(some (.bool true))]),
  (206,hCode "__init__" "Bag.__init__" 421 61 2 3 201 202 (some 203) (some 204) 205 426 427),
  (207,hFun s_Bag___init__ "__init__" "Bag.__init__" (.str "figurebook.rules" 194) 206),
  (213,hCode "inside" "Bag.inside" 429 64 1 3 208 209 (some 210) (some 211) 212 433 434),
  (214,hFun s_Bag_inside "inside" "Bag.inside" (.str "figurebook.rules" 194) 213),
  (223,hNs 2 [hEnt P "__module__" 416 (.str "figurebook.rules" 194),hEnt P "__firstlineno__" 420 (.int 59 419),hEnt P "__init__" 428 (.ref 207),hEnt P "inside" 435 (.ref 214),hEnt P "told" 442 (.ref 221),hEnt P "__static_attributes__" 444 (.ref 222),hEnt P "__doc__" 445 .none]),
  (224,Obj.mk (.type "type") none (.cls (ClassData.mk "Bag" [(.ref 45)] [(.ref 224),(.ref 45),(.type "object")] 223 "Bag" true [] [] false none false)) #[(some (.ref 194)),none,(some (.str "Bag" 409)),(some (.str "Bag" 417)),(some (.builtin "object.__new__")),(some (.bool true))]),
  (239,hCode "__init__" "Choice.__init__" 460 71 2 3 234 235 (some 236) (some 237) 238 465 466),
  (240,hFun s_Choice___init__ "__init__" "Choice.__init__" (.str "figurebook.rules" 194) 239),
  (246,hCode "inside" "Choice.inside" 468 74 1 3 241 242 (some 243) (some 244) 245 472 473),
  (247,hFun s_Choice_inside "inside" "Choice.inside" (.str "figurebook.rules" 194) 246),
  (256,hNs 2 [hEnt P "__module__" 455 (.str "figurebook.rules" 194),hEnt P "__firstlineno__" 459 (.int 69 458),hEnt P "__init__" 467 (.ref 240),hEnt P "inside" 474 (.ref 247),hEnt P "told" 481 (.ref 254),hEnt P "__static_attributes__" 483 (.ref 255),hEnt P "__doc__" 484 .none]),
  (257,Obj.mk (.type "type") none (.cls (ClassData.mk "Choice" [(.ref 45)] [(.ref 257),(.ref 45),(.type "object")] 256 "Choice" true [] [] false none false)) #[(some (.ref 227)),none,(some (.str "Choice" 448)),(some (.str "Choice" 456)),(some (.builtin "object.__new__")),(some (.bool true))]),
  (272,hCode "__init__" "Ring.__init__" 499 81 2 3 267 268 (some 269) (some 270) 271 504 505),
  (273,hFun s_Ring___init__ "__init__" "Ring.__init__" (.str "figurebook.rules" 194) 272),
  (279,hCode "inside" "Ring.inside" 507 84 1 3 274 275 (some 276) (some 277) 278 511 512),
  (280,hFun s_Ring_inside "inside" "Ring.inside" (.str "figurebook.rules" 194) 279),
  (289,hNs 2 [hEnt P "__module__" 494 (.str "figurebook.rules" 194),hEnt P "__firstlineno__" 498 (.int 79 497),hEnt P "__init__" 506 (.ref 273),hEnt P "inside" 513 (.ref 280),hEnt P "told" 520 (.ref 287),hEnt P "__static_attributes__" 522 (.ref 288),hEnt P "__doc__" 523 .none]),
  (290,Obj.mk (.type "type") none (.cls (ClassData.mk "Ring" [(.ref 45)] [(.ref 290),(.ref 45),(.type "object")] 289 "Ring" true [] [] false none false)) #[(some (.ref 260)),none,(some (.str "Ring" 487)),(some (.str "Ring" 495)),(some (.builtin "object.__new__")),(some (.bool true))]),
  (305,hCode "__init__" "Named.__init__" 538 91 2 3 300 301 (some 302) (some 303) 304 543 544),
  (306,hFun s_Named___init__ "__init__" "Named.__init__" (.str "figurebook.rules" 194) 305),
  (312,hCode "names" "Named.names" 546 94 1 3 307 308 (some 309) (some 310) 311 550 551),
  (313,hFun s_Named_names "names" "Named.names" (.str "figurebook.rules" 194) 312),
  (322,hNs 2 [hEnt P "__module__" 533 (.str "figurebook.rules" 194),hEnt P "__firstlineno__" 537 (.int 89 536),hEnt P "__init__" 545 (.ref 306),hEnt P "names" 552 (.ref 313),hEnt P "told" 559 (.ref 320),hEnt P "__static_attributes__" 561 (.ref 321),hEnt P "__doc__" 562 .none]),
  (323,Obj.mk (.type "type") none (.cls (ClassData.mk "Named" [(.ref 45)] [(.ref 323),(.ref 45),(.type "object")] 322 "Named" true [] [] false none false)) #[(some (.ref 293)),none,(some (.str "Named" 526)),(some (.str "Named" 534)),(some (.builtin "object.__new__")),(some (.bool true))]),
  (331,hCode "_law_cell" "_law_cell" 567 100 2 3 326 327 (some 328) (some 329) 330 572 573),
  (332,hFun s_w_cell "_law_cell" "_law_cell" (.str "law_figurebook_k04_names_of_rules" 565) 331),
  (338,hCode "_law_kept" "_law_kept" 575 104 0 3 333 334 (some 335) (some 336) 337 578 579),
  (339,hFun s_w_kept "_law_kept" "_law_kept" (.str "law_figurebook_k04_names_of_rules" 565) 338),
  (345,hCode "_law_word" "_law_word" 581 106 1 3 340 341 (some 342) (some 343) 344 588 589),
  (346,hFun s_w_word "_law_word" "_law_word" (.str "law_figurebook_k04_names_of_rules" 565) 345),
  (350,hCode "_law_total" "_law_total" 591 115 1 3 347 348 none none 349 594 595),
  (351,hFun s_w_total "_law_total" "_law_total" (.str "law_figurebook_k04_names_of_rules" 565) 350),
  (357,hCode "_law_op" "_law_op" 597 117 2 3 352 353 (some 354) (some 355) 356 608 609),
  (358,hFun s_w_op "_law_op" "_law_op" (.str "law_figurebook_k04_names_of_rules" 565) 357),
  (364,hCode "_law_tree" "_law_tree" 611 134 1 3 359 360 (some 361) (some 362) 363 622 623),
  (365,hFun s_w_tree "_law_tree" "_law_tree" (.str "law_figurebook_k04_names_of_rules" 565) 364),
  (371,hCode "_law_object" "_law_object" 625 147 1 3 366 367 (some 368) (some 369) 370 630 631),
  (372,hFun s_w_object "_law_object" "_law_object" (.str "law_figurebook_k04_names_of_rules" 565) 371),
  (378,hCode "_law_names" "_law_names" 633 166 1 3 373 374 (some 375) (some 376) 377 639 640),
  (379,hFun s_w_names "_law_names" "_law_names" (.str "law_figurebook_k04_names_of_rules" 565) 378),
  (385,hCode "_law_mixed" "_law_mixed" 642 174 2 3 380 381 (some 382) (some 383) 384 652 653),
  (386,hFun s_w_mixed "_law_mixed" "_law_mixed" (.str "law_figurebook_k04_names_of_rules" 565) 385),
  (390,hCode "law" "law" 655 185 1 3 387 388 none none 389 658 659),
  (391,hFun s_law "law" "law" (.str "law_figurebook_k04_names_of_rules" 565) 390)]
noncomputable def hK (P:Params):PySem.W.Frag:=hKl P
noncomputable def hAs:List Addr:=[2,3,34,35,41,42,44,45,65,66,81,82,91,92,107,108,114,115,124,125,140,141,147,148,157,158,173,174,180,181,190,191,206,207,213,214,223,224,239,240,246,247,256,257,272,273,279,280,289,290,305,306,312,313,322,323,331,332,338,339,345,346,350,351,357,358,364,365,371,372,378,379,385,386,390,391]
noncomputable def hTs:List Addr:=[]
noncomputable abbrev hH:PySem.W.Hook:=PySem.W.kmHook hK hAs (fun _=>rfl) hTs
noncomputable abbrev hXt:Shared->Bool:=fun s=>PySem.W.xlAt hq [] s && PySem.W.recOk (PySem.W.RowW.records (PySem.W.OpenRow.toRowW (PySem.W.OpenLaw.row PySem.Challenge.rw_figurebook_k04_names_of_rules))) s
noncomputable def hL (w:World) (os:OsState):=headT PySem.Challenge.pw_figurebook_k04_names_of_rules w os 11 (some (.ref 6)) 40000 (fun s=>(PySem.W.staticsOk (importedModules PySem.Challenge.pw_figurebook_k04_names_of_rules.main.body) (PySem.W.boot_heap w.params) s.heap && PySem.W.namesBound PySem.Challenge.pw_figurebook_k04_names_of_rules s.heap && PySem.W.gensDone s && PySem.W.laidKept (PySem.W.boot_heap w.params) s.heap,PySem.W.openSeen hq hloose (importedModules PySem.Challenge.pw_figurebook_k04_names_of_rules.main.body) hXt true s,(hAs.map s.heap.get?,hTs.map s.heap.get?)))
noncomputable def hR (w:World) (_:OsState):=some (true,PySem.W.openGood hq hloose,((hKl w.params).map fun p=>some p.2,hTs.map fun _=>some (PySem.W.tabObj #[])))
lay_quick My.hL My.hR L2.hBoot
theorem h_run (w:World) (os:OsState):hL w os=hR w os:=(congrFun (congrFun PySem.W.Fast.te13887445390003487561 w) os).trans (Eq.trans (by kernel_rfl) (congrFun (congrFun PySem.W.Fast.te6075038599416009561 w) os).symm)
theorem h_boot (w:World):hBoot w=(true,11,some (.ref 6)):=(congrFun PySem.W.Fast.te16037136179764453472 w).trans (by kernel_rfl)
theorem h_left:PySem.W.LeftO PySem.Challenge.pw_figurebook_k04_names_of_rules hq hloose hXt (PySem.W.Hook.obs hH) (PySem.W.Hook.val hH) 40000:=left_whole (by rfl) (by decide) (fun s=>rfl) h_boot h_run
end My
open PySem PySem.W PyProof.Rows
set_option maxRecDepth 100000 in
set_option maxHeartbeats 0 in
theorem PySem.Challenge.cw_figurebook_k04_names_of_rules_holds : PySem.Challenge.rw_figurebook_k04_names_of_rules.Holds := by
  w_on;o_law
  refine holds_open (q:=My.hq) (loose:=My.hloose) (Xt:=My.hXt) (XP:=XL My.hq []) (Yf:=Hook.obs My.hH) (Ya:=Hook.val My.hH) (YP:=Hook.says My.hH) (N:=40000) My.h_left (Hook.of My.hH) (Hook.keeps My.hH) (fun s e=>xl_of s (Bool.and_eq_true_iff.mp e).1) XL.keeps (by rfl) (by rfl) (by rfl) (fun s e=>recFacts_of (Bool.and_eq_true_iff.mp e).2) (by rfl) (by first | assumption | decide +kernel) (by decide +kernel) ⟨rfl,rfl,rfl,rfl,rfl,by decide +kernel⟩ ?hw ?hc
  case hw=>w_witness2
  k_fill
  refine My.walk (l:=PySem.Challenge.rw_figurebook_k04_names_of_rules) rfl rfl (fun w h Y=>PySem.W.km_in_of Y) ?F
  case F =>
    intro w mg fa h KX G hmg
    refine' My.all_mk KX G hmg ?l_Rule_inside ?x_Rule_inside ?k_Rule_inside ?W_Rule_inside ?l_Rule_names ?x_Rule_names ?k_Rule_names ?W_Rule_names ?l_Bead___init__ ?x_Bead___init__ ?k_Bead___init__ ?K_Bead ?l_Or___init__ ?x_Or___init__ ?k_Or___init__ ?K_Or ?l_Or_inside ?x_Or_inside ?k_Or_inside ?W_Or_inside ?l_By___init__ ?x_By___init__ ?k_By___init__ ?K_By ?l_By_inside ?x_By_inside ?k_By_inside ?W_By_inside ?l_Row___init__ ?x_Row___init__ ?k_Row___init__ ?K_Row ?l_Row_inside ?x_Row_inside ?k_Row_inside ?W_Row_inside ?l_Bag___init__ ?x_Bag___init__ ?k_Bag___init__ ?K_Bag ?l_Bag_inside ?x_Bag_inside ?k_Bag_inside ?W_Bag_inside ?l_Choice___init__ ?x_Choice___init__ ?k_Choice___init__ ?K_Choice ?l_Choice_inside ?x_Choice_inside ?k_Choice_inside ?W_Choice_inside ?l_Ring___init__ ?x_Ring___init__ ?k_Ring___init__ ?K_Ring ?l_Ring_inside ?x_Ring_inside ?k_Ring_inside ?W_Ring_inside ?l_Named___init__ ?x_Named___init__ ?k_Named___init__ ?K_Named ?l_Named_names ?x_Named_names ?k_Named_names ?W_Named_names ?a_w_cell ?l_w_cell ?x_w_cell ?k_w_cell ?a_w_kept ?l_w_kept ?x_w_kept ?k_w_kept ?a_w_word ?l_w_word ?x_w_word ?k_w_word ?a_w_total ?l_w_total ?x_w_total ?k_w_total ?a_w_op ?l_w_op ?x_w_op ?k_w_op ?a_w_tree ?l_w_tree ?x_w_tree ?k_w_tree ?a_w_object ?l_w_object ?x_w_object ?k_w_object ?a_w_names ?l_w_names ?x_w_names ?k_w_names ?a_w_mixed ?l_w_mixed ?x_w_mixed ?k_w_mixed ?a_law ?l_law ?x_law ?k_law ?m_Rule ?L_Rule ?K_Rule ?m_Nothing ?L_Nothing ?K_Nothing ?W_Nothing_inside ?W_Nothing_names ?m_Bead ?L_Bead ?W_Bead_inside ?W_Bead_names ?N_Bead_colour ?m_Or ?L_Or ?W_Or_names ?N_Or_one ?N_Or_other ?m_By ?L_By ?W_By_names ?N_By_one ?N_By_other ?m_Row ?L_Row ?W_Row_names ?N_Row_part ?m_Bag ?L_Bag ?W_Bag_names ?N_Bag_part ?m_Choice ?L_Choice ?W_Choice_names ?N_Choice_part ?m_Ring ?L_Ring ?W_Ring_names ?N_Ring_part ?m_Named ?L_Named ?W_Named_inside ?N_Named_name ?IT ?n_all ?n_any ?n_bool ?n_enumerate ?n_int ?n_isinstance ?n_len ?n_list ?n_max ?n_min ?n_range ?n_reversed ?n_set ?n_sorted ?n_str ?n_sum ?n_tuple ?n_zip
    (case l_Rule_inside=>exact (by kernel_rfl:(My.hK w.params).lookup 35=some ⟨.type "function",none,.func (PySem.W.fnOf "inside" "Rule.inside" (L2.defArgs My.s_Rule_inside) (L2.defBody My.s_Rule_inside) (L2.defScope My.s_Rule_inside) .none .none .none (.str "figurebook.rules" 194) none (.ref 34) .none),#[]⟩))
    (case x_Rule_inside=>exact (by kernel_rfl:PySem.W.codeIn (My.hK w.params) (.ref 34) "Rule.inside"=true))
    (case k_Rule_inside=>exact (by kernel_rfl:PySem.W.keepIn (My.hK w.params) (.ref 35)=true))
    (case W_Rule_inside=>exact (⟨(by kernel_rfl),(by kernel_rfl),(by kernel_rfl)⟩:L2.Meth (My.hK w.params) 45 "inside" 35))
    (case l_Rule_names=>exact (by kernel_rfl:(My.hK w.params).lookup 42=some ⟨.type "function",none,.func (PySem.W.fnOf "names" "Rule.names" (L2.defArgs My.s_Rule_names) (L2.defBody My.s_Rule_names) (L2.defScope My.s_Rule_names) .none .none .none (.str "figurebook.rules" 194) none (.ref 41) .none),#[]⟩))
    (case x_Rule_names=>exact (by kernel_rfl:PySem.W.codeIn (My.hK w.params) (.ref 41) "Rule.names"=true))
    (case k_Rule_names=>exact (by kernel_rfl:PySem.W.keepIn (My.hK w.params) (.ref 42)=true))
    (case W_Rule_names=>exact (⟨(by kernel_rfl),(by kernel_rfl),(by kernel_rfl)⟩:L2.Meth (My.hK w.params) 45 "names" 42))
    (case l_Bead___init__=>exact (by kernel_rfl:(My.hK w.params).lookup 82=some ⟨.type "function",none,.func (PySem.W.fnOf "__init__" "Bead.__init__" (L2.defArgs My.s_Bead___init__) (L2.defBody My.s_Bead___init__) (L2.defScope My.s_Bead___init__) .none .none .none (.str "figurebook.rules" 194) none (.ref 81) .none),#[]⟩))
    (case x_Bead___init__=>exact (by kernel_rfl:PySem.W.codeIn (My.hK w.params) (.ref 81) "Bead.__init__"=true))
    (case k_Bead___init__=>exact (by kernel_rfl:PySem.W.keepIn (My.hK w.params) (.ref 82)=true))
    (case K_Bead=>exact (⟨(by kernel_rfl),(by kernel_rfl),(by kernel_rfl),(by kernel_rfl)⟩:L2.Mk (My.hK w.params) 92 82))
    (case l_Or___init__=>exact (by kernel_rfl:(My.hK w.params).lookup 108=some ⟨.type "function",none,.func (PySem.W.fnOf "__init__" "Or.__init__" (L2.defArgs My.s_Or___init__) (L2.defBody My.s_Or___init__) (L2.defScope My.s_Or___init__) .none .none .none (.str "figurebook.rules" 194) none (.ref 107) .none),#[]⟩))
    (case x_Or___init__=>exact (by kernel_rfl:PySem.W.codeIn (My.hK w.params) (.ref 107) "Or.__init__"=true))
    (case k_Or___init__=>exact (by kernel_rfl:PySem.W.keepIn (My.hK w.params) (.ref 108)=true))
    (case K_Or=>exact (⟨(by kernel_rfl),(by kernel_rfl),(by kernel_rfl),(by kernel_rfl)⟩:L2.Mk (My.hK w.params) 125 108))
    (case l_Or_inside=>exact (by kernel_rfl:(My.hK w.params).lookup 115=some ⟨.type "function",none,.func (PySem.W.fnOf "inside" "Or.inside" (L2.defArgs My.s_Or_inside) (L2.defBody My.s_Or_inside) (L2.defScope My.s_Or_inside) .none .none .none (.str "figurebook.rules" 194) none (.ref 114) .none),#[]⟩))
    (case x_Or_inside=>exact (by kernel_rfl:PySem.W.codeIn (My.hK w.params) (.ref 114) "Or.inside"=true))
    (case k_Or_inside=>exact (by kernel_rfl:PySem.W.keepIn (My.hK w.params) (.ref 115)=true))
    (case W_Or_inside=>exact (⟨(by kernel_rfl),(by kernel_rfl),(by kernel_rfl)⟩:L2.Meth (My.hK w.params) 125 "inside" 115))
    (case l_By___init__=>exact (by kernel_rfl:(My.hK w.params).lookup 141=some ⟨.type "function",none,.func (PySem.W.fnOf "__init__" "By.__init__" (L2.defArgs My.s_By___init__) (L2.defBody My.s_By___init__) (L2.defScope My.s_By___init__) .none .none .none (.str "figurebook.rules" 194) none (.ref 140) .none),#[]⟩))
    (case x_By___init__=>exact (by kernel_rfl:PySem.W.codeIn (My.hK w.params) (.ref 140) "By.__init__"=true))
    (case k_By___init__=>exact (by kernel_rfl:PySem.W.keepIn (My.hK w.params) (.ref 141)=true))
    (case K_By=>exact (⟨(by kernel_rfl),(by kernel_rfl),(by kernel_rfl),(by kernel_rfl)⟩:L2.Mk (My.hK w.params) 158 141))
    (case l_By_inside=>exact (by kernel_rfl:(My.hK w.params).lookup 148=some ⟨.type "function",none,.func (PySem.W.fnOf "inside" "By.inside" (L2.defArgs My.s_By_inside) (L2.defBody My.s_By_inside) (L2.defScope My.s_By_inside) .none .none .none (.str "figurebook.rules" 194) none (.ref 147) .none),#[]⟩))
    (case x_By_inside=>exact (by kernel_rfl:PySem.W.codeIn (My.hK w.params) (.ref 147) "By.inside"=true))
    (case k_By_inside=>exact (by kernel_rfl:PySem.W.keepIn (My.hK w.params) (.ref 148)=true))
    (case W_By_inside=>exact (⟨(by kernel_rfl),(by kernel_rfl),(by kernel_rfl)⟩:L2.Meth (My.hK w.params) 158 "inside" 148))
    (case l_Row___init__=>exact (by kernel_rfl:(My.hK w.params).lookup 174=some ⟨.type "function",none,.func (PySem.W.fnOf "__init__" "Row.__init__" (L2.defArgs My.s_Row___init__) (L2.defBody My.s_Row___init__) (L2.defScope My.s_Row___init__) .none .none .none (.str "figurebook.rules" 194) none (.ref 173) .none),#[]⟩))
    (case x_Row___init__=>exact (by kernel_rfl:PySem.W.codeIn (My.hK w.params) (.ref 173) "Row.__init__"=true))
    (case k_Row___init__=>exact (by kernel_rfl:PySem.W.keepIn (My.hK w.params) (.ref 174)=true))
    (case K_Row=>exact (⟨(by kernel_rfl),(by kernel_rfl),(by kernel_rfl),(by kernel_rfl)⟩:L2.Mk (My.hK w.params) 191 174))
    (case l_Row_inside=>exact (by kernel_rfl:(My.hK w.params).lookup 181=some ⟨.type "function",none,.func (PySem.W.fnOf "inside" "Row.inside" (L2.defArgs My.s_Row_inside) (L2.defBody My.s_Row_inside) (L2.defScope My.s_Row_inside) .none .none .none (.str "figurebook.rules" 194) none (.ref 180) .none),#[]⟩))
    (case x_Row_inside=>exact (by kernel_rfl:PySem.W.codeIn (My.hK w.params) (.ref 180) "Row.inside"=true))
    (case k_Row_inside=>exact (by kernel_rfl:PySem.W.keepIn (My.hK w.params) (.ref 181)=true))
    (case W_Row_inside=>exact (⟨(by kernel_rfl),(by kernel_rfl),(by kernel_rfl)⟩:L2.Meth (My.hK w.params) 191 "inside" 181))
    (case l_Bag___init__=>exact (by kernel_rfl:(My.hK w.params).lookup 207=some ⟨.type "function",none,.func (PySem.W.fnOf "__init__" "Bag.__init__" (L2.defArgs My.s_Bag___init__) (L2.defBody My.s_Bag___init__) (L2.defScope My.s_Bag___init__) .none .none .none (.str "figurebook.rules" 194) none (.ref 206) .none),#[]⟩))
    (case x_Bag___init__=>exact (by kernel_rfl:PySem.W.codeIn (My.hK w.params) (.ref 206) "Bag.__init__"=true))
    (case k_Bag___init__=>exact (by kernel_rfl:PySem.W.keepIn (My.hK w.params) (.ref 207)=true))
    (case K_Bag=>exact (⟨(by kernel_rfl),(by kernel_rfl),(by kernel_rfl),(by kernel_rfl)⟩:L2.Mk (My.hK w.params) 224 207))
    (case l_Bag_inside=>exact (by kernel_rfl:(My.hK w.params).lookup 214=some ⟨.type "function",none,.func (PySem.W.fnOf "inside" "Bag.inside" (L2.defArgs My.s_Bag_inside) (L2.defBody My.s_Bag_inside) (L2.defScope My.s_Bag_inside) .none .none .none (.str "figurebook.rules" 194) none (.ref 213) .none),#[]⟩))
    (case x_Bag_inside=>exact (by kernel_rfl:PySem.W.codeIn (My.hK w.params) (.ref 213) "Bag.inside"=true))
    (case k_Bag_inside=>exact (by kernel_rfl:PySem.W.keepIn (My.hK w.params) (.ref 214)=true))
    (case W_Bag_inside=>exact (⟨(by kernel_rfl),(by kernel_rfl),(by kernel_rfl)⟩:L2.Meth (My.hK w.params) 224 "inside" 214))
    (case l_Choice___init__=>exact (by kernel_rfl:(My.hK w.params).lookup 240=some ⟨.type "function",none,.func (PySem.W.fnOf "__init__" "Choice.__init__" (L2.defArgs My.s_Choice___init__) (L2.defBody My.s_Choice___init__) (L2.defScope My.s_Choice___init__) .none .none .none (.str "figurebook.rules" 194) none (.ref 239) .none),#[]⟩))
    (case x_Choice___init__=>exact (by kernel_rfl:PySem.W.codeIn (My.hK w.params) (.ref 239) "Choice.__init__"=true))
    (case k_Choice___init__=>exact (by kernel_rfl:PySem.W.keepIn (My.hK w.params) (.ref 240)=true))
    (case K_Choice=>exact (⟨(by kernel_rfl),(by kernel_rfl),(by kernel_rfl),(by kernel_rfl)⟩:L2.Mk (My.hK w.params) 257 240))
    (case l_Choice_inside=>exact (by kernel_rfl:(My.hK w.params).lookup 247=some ⟨.type "function",none,.func (PySem.W.fnOf "inside" "Choice.inside" (L2.defArgs My.s_Choice_inside) (L2.defBody My.s_Choice_inside) (L2.defScope My.s_Choice_inside) .none .none .none (.str "figurebook.rules" 194) none (.ref 246) .none),#[]⟩))
    (case x_Choice_inside=>exact (by kernel_rfl:PySem.W.codeIn (My.hK w.params) (.ref 246) "Choice.inside"=true))
    (case k_Choice_inside=>exact (by kernel_rfl:PySem.W.keepIn (My.hK w.params) (.ref 247)=true))
    (case W_Choice_inside=>exact (⟨(by kernel_rfl),(by kernel_rfl),(by kernel_rfl)⟩:L2.Meth (My.hK w.params) 257 "inside" 247))
    (case l_Ring___init__=>exact (by kernel_rfl:(My.hK w.params).lookup 273=some ⟨.type "function",none,.func (PySem.W.fnOf "__init__" "Ring.__init__" (L2.defArgs My.s_Ring___init__) (L2.defBody My.s_Ring___init__) (L2.defScope My.s_Ring___init__) .none .none .none (.str "figurebook.rules" 194) none (.ref 272) .none),#[]⟩))
    (case x_Ring___init__=>exact (by kernel_rfl:PySem.W.codeIn (My.hK w.params) (.ref 272) "Ring.__init__"=true))
    (case k_Ring___init__=>exact (by kernel_rfl:PySem.W.keepIn (My.hK w.params) (.ref 273)=true))
    (case K_Ring=>exact (⟨(by kernel_rfl),(by kernel_rfl),(by kernel_rfl),(by kernel_rfl)⟩:L2.Mk (My.hK w.params) 290 273))
    (case l_Ring_inside=>exact (by kernel_rfl:(My.hK w.params).lookup 280=some ⟨.type "function",none,.func (PySem.W.fnOf "inside" "Ring.inside" (L2.defArgs My.s_Ring_inside) (L2.defBody My.s_Ring_inside) (L2.defScope My.s_Ring_inside) .none .none .none (.str "figurebook.rules" 194) none (.ref 279) .none),#[]⟩))
    (case x_Ring_inside=>exact (by kernel_rfl:PySem.W.codeIn (My.hK w.params) (.ref 279) "Ring.inside"=true))
    (case k_Ring_inside=>exact (by kernel_rfl:PySem.W.keepIn (My.hK w.params) (.ref 280)=true))
    (case W_Ring_inside=>exact (⟨(by kernel_rfl),(by kernel_rfl),(by kernel_rfl)⟩:L2.Meth (My.hK w.params) 290 "inside" 280))
    (case l_Named___init__=>exact (by kernel_rfl:(My.hK w.params).lookup 306=some ⟨.type "function",none,.func (PySem.W.fnOf "__init__" "Named.__init__" (L2.defArgs My.s_Named___init__) (L2.defBody My.s_Named___init__) (L2.defScope My.s_Named___init__) .none .none .none (.str "figurebook.rules" 194) none (.ref 305) .none),#[]⟩))
    (case x_Named___init__=>exact (by kernel_rfl:PySem.W.codeIn (My.hK w.params) (.ref 305) "Named.__init__"=true))
    (case k_Named___init__=>exact (by kernel_rfl:PySem.W.keepIn (My.hK w.params) (.ref 306)=true))
    (case K_Named=>exact (⟨(by kernel_rfl),(by kernel_rfl),(by kernel_rfl),(by kernel_rfl)⟩:L2.Mk (My.hK w.params) 323 306))
    (case l_Named_names=>exact (by kernel_rfl:(My.hK w.params).lookup 313=some ⟨.type "function",none,.func (PySem.W.fnOf "names" "Named.names" (L2.defArgs My.s_Named_names) (L2.defBody My.s_Named_names) (L2.defScope My.s_Named_names) .none .none .none (.str "figurebook.rules" 194) none (.ref 312) .none),#[]⟩))
    (case x_Named_names=>exact (by kernel_rfl:PySem.W.codeIn (My.hK w.params) (.ref 312) "Named.names"=true))
    (case k_Named_names=>exact (by kernel_rfl:PySem.W.keepIn (My.hK w.params) (.ref 313)=true))
    (case W_Named_names=>exact (⟨(by kernel_rfl),(by kernel_rfl),(by kernel_rfl)⟩:L2.Meth (My.hK w.params) 323 "names" 313))
    (case a_w_cell=>exact (by kernel_rfl:PySem.W.nsIn (My.hK w.params) mainGlobals "_law_cell"=some (some (.ref 332))))
    (case l_w_cell=>exact (by kernel_rfl:(My.hK w.params).lookup 332=some ⟨.type "function",none,.func (PySem.W.fnOf "_law_cell" "_law_cell" (L2.defArgs My.s_w_cell) (L2.defBody My.s_w_cell) (L2.defScope My.s_w_cell) .none .none .none (.str "law_figurebook_k04_names_of_rules" 565) none (.ref 331) .none),#[]⟩))
    (case x_w_cell=>exact (by kernel_rfl:PySem.W.codeIn (My.hK w.params) (.ref 331) "_law_cell"=true))
    (case k_w_cell=>exact (by kernel_rfl:PySem.W.keepIn (My.hK w.params) (.ref 332)=true))
    (case a_w_kept=>exact (by kernel_rfl:PySem.W.nsIn (My.hK w.params) mainGlobals "_law_kept"=some (some (.ref 339))))
    (case l_w_kept=>exact (by kernel_rfl:(My.hK w.params).lookup 339=some ⟨.type "function",none,.func (PySem.W.fnOf "_law_kept" "_law_kept" (L2.defArgs My.s_w_kept) (L2.defBody My.s_w_kept) (L2.defScope My.s_w_kept) .none .none .none (.str "law_figurebook_k04_names_of_rules" 565) none (.ref 338) .none),#[]⟩))
    (case x_w_kept=>exact (by kernel_rfl:PySem.W.codeIn (My.hK w.params) (.ref 338) "_law_kept"=true))
    (case k_w_kept=>exact (by kernel_rfl:PySem.W.keepIn (My.hK w.params) (.ref 339)=true))
    (case a_w_word=>exact (by kernel_rfl:PySem.W.nsIn (My.hK w.params) mainGlobals "_law_word"=some (some (.ref 346))))
    (case l_w_word=>exact (by kernel_rfl:(My.hK w.params).lookup 346=some ⟨.type "function",none,.func (PySem.W.fnOf "_law_word" "_law_word" (L2.defArgs My.s_w_word) (L2.defBody My.s_w_word) (L2.defScope My.s_w_word) .none .none .none (.str "law_figurebook_k04_names_of_rules" 565) none (.ref 345) .none),#[]⟩))
    (case x_w_word=>exact (by kernel_rfl:PySem.W.codeIn (My.hK w.params) (.ref 345) "_law_word"=true))
    (case k_w_word=>exact (by kernel_rfl:PySem.W.keepIn (My.hK w.params) (.ref 346)=true))
    (case a_w_total=>exact (by kernel_rfl:PySem.W.nsIn (My.hK w.params) mainGlobals "_law_total"=some (some (.ref 351))))
    (case l_w_total=>exact (by kernel_rfl:(My.hK w.params).lookup 351=some ⟨.type "function",none,.func (PySem.W.fnOf "_law_total" "_law_total" (L2.defArgs My.s_w_total) (L2.defBody My.s_w_total) (L2.defScope My.s_w_total) .none .none .none (.str "law_figurebook_k04_names_of_rules" 565) none (.ref 350) .none),#[]⟩))
    (case x_w_total=>exact (by kernel_rfl:PySem.W.codeIn (My.hK w.params) (.ref 350) "_law_total"=true))
    (case k_w_total=>exact (by kernel_rfl:PySem.W.keepIn (My.hK w.params) (.ref 351)=true))
    (case a_w_op=>exact (by kernel_rfl:PySem.W.nsIn (My.hK w.params) mainGlobals "_law_op"=some (some (.ref 358))))
    (case l_w_op=>exact (by kernel_rfl:(My.hK w.params).lookup 358=some ⟨.type "function",none,.func (PySem.W.fnOf "_law_op" "_law_op" (L2.defArgs My.s_w_op) (L2.defBody My.s_w_op) (L2.defScope My.s_w_op) .none .none .none (.str "law_figurebook_k04_names_of_rules" 565) none (.ref 357) .none),#[]⟩))
    (case x_w_op=>exact (by kernel_rfl:PySem.W.codeIn (My.hK w.params) (.ref 357) "_law_op"=true))
    (case k_w_op=>exact (by kernel_rfl:PySem.W.keepIn (My.hK w.params) (.ref 358)=true))
    (case a_w_tree=>exact (by kernel_rfl:PySem.W.nsIn (My.hK w.params) mainGlobals "_law_tree"=some (some (.ref 365))))
    (case l_w_tree=>exact (by kernel_rfl:(My.hK w.params).lookup 365=some ⟨.type "function",none,.func (PySem.W.fnOf "_law_tree" "_law_tree" (L2.defArgs My.s_w_tree) (L2.defBody My.s_w_tree) (L2.defScope My.s_w_tree) .none .none .none (.str "law_figurebook_k04_names_of_rules" 565) none (.ref 364) .none),#[]⟩))
    (case x_w_tree=>exact (by kernel_rfl:PySem.W.codeIn (My.hK w.params) (.ref 364) "_law_tree"=true))
    (case k_w_tree=>exact (by kernel_rfl:PySem.W.keepIn (My.hK w.params) (.ref 365)=true))
    (case a_w_object=>exact (by kernel_rfl:PySem.W.nsIn (My.hK w.params) mainGlobals "_law_object"=some (some (.ref 372))))
    (case l_w_object=>exact (by kernel_rfl:(My.hK w.params).lookup 372=some ⟨.type "function",none,.func (PySem.W.fnOf "_law_object" "_law_object" (L2.defArgs My.s_w_object) (L2.defBody My.s_w_object) (L2.defScope My.s_w_object) .none .none .none (.str "law_figurebook_k04_names_of_rules" 565) none (.ref 371) .none),#[]⟩))
    (case x_w_object=>exact (by kernel_rfl:PySem.W.codeIn (My.hK w.params) (.ref 371) "_law_object"=true))
    (case k_w_object=>exact (by kernel_rfl:PySem.W.keepIn (My.hK w.params) (.ref 372)=true))
    (case a_w_names=>exact (by kernel_rfl:PySem.W.nsIn (My.hK w.params) mainGlobals "_law_names"=some (some (.ref 379))))
    (case l_w_names=>exact (by kernel_rfl:(My.hK w.params).lookup 379=some ⟨.type "function",none,.func (PySem.W.fnOf "_law_names" "_law_names" (L2.defArgs My.s_w_names) (L2.defBody My.s_w_names) (L2.defScope My.s_w_names) .none .none .none (.str "law_figurebook_k04_names_of_rules" 565) none (.ref 378) .none),#[]⟩))
    (case x_w_names=>exact (by kernel_rfl:PySem.W.codeIn (My.hK w.params) (.ref 378) "_law_names"=true))
    (case k_w_names=>exact (by kernel_rfl:PySem.W.keepIn (My.hK w.params) (.ref 379)=true))
    (case a_w_mixed=>exact (by kernel_rfl:PySem.W.nsIn (My.hK w.params) mainGlobals "_law_mixed"=some (some (.ref 386))))
    (case l_w_mixed=>exact (by kernel_rfl:(My.hK w.params).lookup 386=some ⟨.type "function",none,.func (PySem.W.fnOf "_law_mixed" "_law_mixed" (L2.defArgs My.s_w_mixed) (L2.defBody My.s_w_mixed) (L2.defScope My.s_w_mixed) .none .none .none (.str "law_figurebook_k04_names_of_rules" 565) none (.ref 385) .none),#[]⟩))
    (case x_w_mixed=>exact (by kernel_rfl:PySem.W.codeIn (My.hK w.params) (.ref 385) "_law_mixed"=true))
    (case k_w_mixed=>exact (by kernel_rfl:PySem.W.keepIn (My.hK w.params) (.ref 386)=true))
    (case a_law=>exact (by kernel_rfl:PySem.W.nsIn (My.hK w.params) mainGlobals "law"=some (some (.ref 391))))
    (case l_law=>exact (by kernel_rfl:(My.hK w.params).lookup 391=some ⟨.type "function",none,.func (PySem.W.fnOf "law" "law" (L2.defArgs My.s_law) (L2.defBody My.s_law) (L2.defScope My.s_law) .none .none .none (.str "law_figurebook_k04_names_of_rules" 565) none (.ref 390) .none),#[]⟩))
    (case x_law=>exact (by kernel_rfl:PySem.W.codeIn (My.hK w.params) (.ref 390) "law"=true))
    (case k_law=>exact (by kernel_rfl:PySem.W.keepIn (My.hK w.params) (.ref 391)=true))
    (case m_Rule=>exact (by kernel_rfl:PySem.W.nsIn (My.hK w.params) mainGlobals "Rule"=some (some (.ref 45))))
    (case L_Rule=>exact (⟨(by kernel_rfl),(by kernel_rfl),(by kernel_rfl),(by kernel_rfl)⟩:L2.Cls (My.hK w.params) 45))
    (case K_Rule=>exact (⟨(by kernel_rfl),(by kernel_rfl),(by kernel_rfl)⟩:L2.Mk0 (My.hK w.params) 45))
    (case m_Nothing=>exact (by kernel_rfl:PySem.W.nsIn (My.hK w.params) mainGlobals "Nothing"=some (some (.ref 66))))
    (case L_Nothing=>exact (⟨(by kernel_rfl),(by kernel_rfl),(by kernel_rfl),(by kernel_rfl)⟩:L2.Cls (My.hK w.params) 66))
    (case K_Nothing=>exact (⟨(by kernel_rfl),(by kernel_rfl),(by kernel_rfl)⟩:L2.Mk0 (My.hK w.params) 66))
    (case W_Nothing_inside=>exact (⟨(by kernel_rfl),(by kernel_rfl),(by kernel_rfl)⟩:L2.Meth (My.hK w.params) 66 "inside" 35))
    (case W_Nothing_names=>exact (⟨(by kernel_rfl),(by kernel_rfl),(by kernel_rfl)⟩:L2.Meth (My.hK w.params) 66 "names" 42))
    (case m_Bead=>exact (by kernel_rfl:PySem.W.nsIn (My.hK w.params) mainGlobals "Bead"=some (some (.ref 92))))
    (case L_Bead=>exact (⟨(by kernel_rfl),(by kernel_rfl),(by kernel_rfl),(by kernel_rfl)⟩:L2.Cls (My.hK w.params) 92))
    (case W_Bead_inside=>exact (⟨(by kernel_rfl),(by kernel_rfl),(by kernel_rfl)⟩:L2.Meth (My.hK w.params) 92 "inside" 35))
    (case W_Bead_names=>exact (⟨(by kernel_rfl),(by kernel_rfl),(by kernel_rfl)⟩:L2.Meth (My.hK w.params) 92 "names" 42))
    (case N_Bead_colour=>exact (by kernel_rfl:PySem.W.findIn (My.hK w.params) (.ref 92) "colour"=some none))
    (case m_Or=>exact (by kernel_rfl:PySem.W.nsIn (My.hK w.params) mainGlobals "Or"=some (some (.ref 125))))
    (case L_Or=>exact (⟨(by kernel_rfl),(by kernel_rfl),(by kernel_rfl),(by kernel_rfl)⟩:L2.Cls (My.hK w.params) 125))
    (case W_Or_names=>exact (⟨(by kernel_rfl),(by kernel_rfl),(by kernel_rfl)⟩:L2.Meth (My.hK w.params) 125 "names" 42))
    (case N_Or_one=>exact (by kernel_rfl:PySem.W.findIn (My.hK w.params) (.ref 125) "one"=some none))
    (case N_Or_other=>exact (by kernel_rfl:PySem.W.findIn (My.hK w.params) (.ref 125) "other"=some none))
    (case m_By=>exact (by kernel_rfl:PySem.W.nsIn (My.hK w.params) mainGlobals "By"=some (some (.ref 158))))
    (case L_By=>exact (⟨(by kernel_rfl),(by kernel_rfl),(by kernel_rfl),(by kernel_rfl)⟩:L2.Cls (My.hK w.params) 158))
    (case W_By_names=>exact (⟨(by kernel_rfl),(by kernel_rfl),(by kernel_rfl)⟩:L2.Meth (My.hK w.params) 158 "names" 42))
    (case N_By_one=>exact (by kernel_rfl:PySem.W.findIn (My.hK w.params) (.ref 158) "one"=some none))
    (case N_By_other=>exact (by kernel_rfl:PySem.W.findIn (My.hK w.params) (.ref 158) "other"=some none))
    (case m_Row=>exact (by kernel_rfl:PySem.W.nsIn (My.hK w.params) mainGlobals "Row"=some (some (.ref 191))))
    (case L_Row=>exact (⟨(by kernel_rfl),(by kernel_rfl),(by kernel_rfl),(by kernel_rfl)⟩:L2.Cls (My.hK w.params) 191))
    (case W_Row_names=>exact (⟨(by kernel_rfl),(by kernel_rfl),(by kernel_rfl)⟩:L2.Meth (My.hK w.params) 191 "names" 42))
    (case N_Row_part=>exact (by kernel_rfl:PySem.W.findIn (My.hK w.params) (.ref 191) "part"=some none))
    (case m_Bag=>exact (by kernel_rfl:PySem.W.nsIn (My.hK w.params) mainGlobals "Bag"=some (some (.ref 224))))
    (case L_Bag=>exact (⟨(by kernel_rfl),(by kernel_rfl),(by kernel_rfl),(by kernel_rfl)⟩:L2.Cls (My.hK w.params) 224))
    (case W_Bag_names=>exact (⟨(by kernel_rfl),(by kernel_rfl),(by kernel_rfl)⟩:L2.Meth (My.hK w.params) 224 "names" 42))
    (case N_Bag_part=>exact (by kernel_rfl:PySem.W.findIn (My.hK w.params) (.ref 224) "part"=some none))
    (case m_Choice=>exact (by kernel_rfl:PySem.W.nsIn (My.hK w.params) mainGlobals "Choice"=some (some (.ref 257))))
    (case L_Choice=>exact (⟨(by kernel_rfl),(by kernel_rfl),(by kernel_rfl),(by kernel_rfl)⟩:L2.Cls (My.hK w.params) 257))
    (case W_Choice_names=>exact (⟨(by kernel_rfl),(by kernel_rfl),(by kernel_rfl)⟩:L2.Meth (My.hK w.params) 257 "names" 42))
    (case N_Choice_part=>exact (by kernel_rfl:PySem.W.findIn (My.hK w.params) (.ref 257) "part"=some none))
    (case m_Ring=>exact (by kernel_rfl:PySem.W.nsIn (My.hK w.params) mainGlobals "Ring"=some (some (.ref 290))))
    (case L_Ring=>exact (⟨(by kernel_rfl),(by kernel_rfl),(by kernel_rfl),(by kernel_rfl)⟩:L2.Cls (My.hK w.params) 290))
    (case W_Ring_names=>exact (⟨(by kernel_rfl),(by kernel_rfl),(by kernel_rfl)⟩:L2.Meth (My.hK w.params) 290 "names" 42))
    (case N_Ring_part=>exact (by kernel_rfl:PySem.W.findIn (My.hK w.params) (.ref 290) "part"=some none))
    (case m_Named=>exact (by kernel_rfl:PySem.W.nsIn (My.hK w.params) mainGlobals "Named"=some (some (.ref 323))))
    (case L_Named=>exact (⟨(by kernel_rfl),(by kernel_rfl),(by kernel_rfl),(by kernel_rfl)⟩:L2.Cls (My.hK w.params) 323))
    (case W_Named_inside=>exact (⟨(by kernel_rfl),(by kernel_rfl),(by kernel_rfl)⟩:L2.Meth (My.hK w.params) 323 "inside" 35))
    (case N_Named_name=>exact (by kernel_rfl:PySem.W.findIn (My.hK w.params) (.ref 323) "name"=some none))
    (case IT=>exact (⟨(by kernel_rfl),(by kernel_rfl),(by kernel_rfl),(by kernel_rfl),(by kernel_rfl),(by kernel_rfl)⟩:L2.IsTab (My.hK w.params) [66,92,323,125,158,191,224,257,290] 45))
    (case n_all=>exact (by kernel_rfl:PySem.W.nsIn (My.hK w.params) mainGlobals "all"=some none))
    (case n_any=>exact (by kernel_rfl:PySem.W.nsIn (My.hK w.params) mainGlobals "any"=some none))
    (case n_bool=>exact (by kernel_rfl:PySem.W.nsIn (My.hK w.params) mainGlobals "bool"=some none))
    (case n_enumerate=>exact (by kernel_rfl:PySem.W.nsIn (My.hK w.params) mainGlobals "enumerate"=some none))
    (case n_int=>exact (by kernel_rfl:PySem.W.nsIn (My.hK w.params) mainGlobals "int"=some none))
    (case n_isinstance=>exact (by kernel_rfl:PySem.W.nsIn (My.hK w.params) mainGlobals "isinstance"=some none))
    (case n_len=>exact (by kernel_rfl:PySem.W.nsIn (My.hK w.params) mainGlobals "len"=some none))
    (case n_list=>exact (by kernel_rfl:PySem.W.nsIn (My.hK w.params) mainGlobals "list"=some none))
    (case n_max=>exact (by kernel_rfl:PySem.W.nsIn (My.hK w.params) mainGlobals "max"=some none))
    (case n_min=>exact (by kernel_rfl:PySem.W.nsIn (My.hK w.params) mainGlobals "min"=some none))
    (case n_range=>exact (by kernel_rfl:PySem.W.nsIn (My.hK w.params) mainGlobals "range"=some none))
    (case n_reversed=>exact (by kernel_rfl:PySem.W.nsIn (My.hK w.params) mainGlobals "reversed"=some none))
    (case n_set=>exact (by kernel_rfl:PySem.W.nsIn (My.hK w.params) mainGlobals "set"=some none))
    (case n_sorted=>exact (by kernel_rfl:PySem.W.nsIn (My.hK w.params) mainGlobals "sorted"=some none))
    (case n_str=>exact (by kernel_rfl:PySem.W.nsIn (My.hK w.params) mainGlobals "str"=some none))
    (case n_sum=>exact (by kernel_rfl:PySem.W.nsIn (My.hK w.params) mainGlobals "sum"=some none))
    (case n_tuple=>exact (by kernel_rfl:PySem.W.nsIn (My.hK w.params) mainGlobals "tuple"=some none))
    (case n_zip=>exact (by kernel_rfl:PySem.W.nsIn (My.hK w.params) mainGlobals "zip"=some none))
