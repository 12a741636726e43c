import PyProof.Rows.All
import Wide.All
import OpenK.AllK
import Wide.FinOn
import Lean
import PyProof.EqAt
import PyProof.EqKinds
import PyProof.TupleCall
import PyProof.NeKinds
import PySem.Challenge.RW_loveboon_k05_lowest_and_highest
noncomputable section
set_option Elab.async false
set_option linter.all false
set_option maxRecDepth 100000
namespace L2
open PySem PySem.Spec PyProof.Rows
noncomputable abbrev Key:=Sum Int Str
noncomputable def keyIs:Key->Value->Bool
 | .inl k,v=>Value.isInt k v
 | .inr x,v=>Value.isStrOf x v
noncomputable def keyH (w:World):Key->Int
 | .inl k=>hashInt k
 | .inr x=>hashStr w x
theorem keyIs_shape:∀ {k:Key} {v:Value},keyIs k v=true->(∃ i t,k=Sum.inl i/\v=Value.int i t)∨(∃ x t,k=Sum.inr x/\v=Value.str x t)
 | .inl i,v,h=>by
  obtain⟨t,e⟩:=Value.isInt_shape (k:=i) (v:=v) h
  exact .inl ⟨i,t,rfl,e⟩
 | .inr x,v,h=>by
  obtain⟨t,e⟩:=Value.isStrOf_shape (x:=x) (v:=v) h
  exact .inr ⟨x,t,rfl,e⟩
theorem key_ll (a b:Int):decide ((Sum.inl a:Key)=Sum.inl b)=(a == b):=by
 by_cases e:a=b
 ·subst e; simp
 ·have h:¬ (Sum.inl a:Key)=Sum.inl b:=fun q=>e (Sum.inl.inj q)
  rw[decide_eq_false h]
  exact (beq_eq_false_iff_ne.mpr e).symm
theorem key_rr (a b:Str):decide ((Sum.inr a:Key)=Sum.inr b)=decide (a=b):=by
 by_cases e:a=b
 ·subst e; simp
 ·have h:¬ (Sum.inr a:Key)=Sum.inr b:=fun q=>e (Sum.inr.inj q)
  rw[decide_eq_false h,decide_eq_false e]
theorem key_lr (a:Int) (b:Str):decide ((Sum.inl a:Key)=Sum.inr b)=false:=decide_eq_false (fun q=>nomatch q)
theorem key_rl (a:Str) (b:Int):decide ((Sum.inr a:Key)=Sum.inl b)=false:=decide_eq_false (fun q=>nomatch q)
noncomputable def mixKind (prog:Program) (w:World):PySem.KeyKind prog w Key where
 is:=keyIs
 hash:=keyH w
 inj:=fun v a b ha hb=>by
  rcases keyIs_shape ha with⟨i,t,rfl,rfl⟩ | ⟨x,t,rfl,rfl⟩
  ·rcases keyIs_shape hb with⟨j,u,rfl,e⟩ | ⟨y,u,rfl,e⟩
   ·injection e with e1 _; rw[e1]
   ·exact nomatch e
  ·rcases keyIs_shape hb with⟨j,u,rfl,e⟩ | ⟨y,u,rfl,e⟩
   ·exact nomatch e
   ·injection e with e1 _; rw[e1]
 byValue:=fun k v h=>by
  rcases keyIs_shape h with⟨i,t,rfl,rfl⟩ | ⟨x,t,rfl,rfl⟩ <;> rfl
 pyHash:=fun hv h=>by
  rcases keyIs_shape hv with⟨i,t,rfl,rfl⟩ | ⟨x,t,rfl,rfl⟩
  ·exact wpAny_pyHash_int h
  ·exact wpAny_pyHash_str h
 eqBool:=fun hu hv h=>by
  rcases keyIs_shape hu with⟨i,t,rfl,rfl⟩ | ⟨x,t,rfl,rfl⟩
  ·rcases keyIs_shape hv with⟨j,u,rfl,rfl⟩ | ⟨y,u,rfl,rfl⟩
   ·rw[key_ll] at h; exact wpAny_eqBool_int h
   ·rw[key_lr] at h; exact SeqAt.EqAt.int_str i t y u _ _ _ _ h
  ·rcases keyIs_shape hv with⟨j,u,rfl,rfl⟩ | ⟨y,u,rfl,rfl⟩
   ·rw[key_rl] at h; exact SeqAt.EqAt.str_int x t j u _ _ _ _ h
   ·rw[key_rr] at h; exact wpAny_eqBool_str h
 «strs»:=fun k x t v h=>by
  rcases keyIs_shape h with⟨i,u,rfl,e⟩ | ⟨y,u,rfl,e⟩
  ·exact nomatch e
  ·injection e with e1 _
   subst e1
   cases v <;> rfl
end L2
namespace L2
open PySem PySem.Spec PyProof.Rows
inductive V where
 | non | bl (b:Bool) | int (i:Int) | str (x:Str) | byt (b:Array UInt8) | flt (b:UInt64) | ref (a:Addr) | ty (n:String)
 deriving DecidableEq
noncomputable def RelV:V->Value->Prop
 | .non,u=>u=Value.none
 | .bl b,u=>u=Value.bool b
 | .int i,u=>∃ t,u=Value.int i t
 | .str x,u=>∃ t,u=Value.str x t
 | .byt b,u=>∃ t,u=Value.bytes b t
 | .flt b,u=>∃ t,u=Value.float b t
 | .ref a,u=>u=Value.ref a
 | .ty n,u=>u=Value.type n
noncomputable abbrev Vals:List V->List Value->Prop:=Paired RelV
theorem Vals.length {xs:List V} {us:List Value} (r:Vals xs us):xs.length=us.length:=Paired.length r
theorem Vals.get:∀ {xs:List V} {us:List Value} {i:Nat} {x:V},Vals xs us->xs[i]? = some x->∃ u,us[i]? = some u/\RelV x u
 | _,_,_,_,.nil,e=>by simp at e
 | _,_,0,_,.cons r _,e=>by simp at e; subst e; exact⟨_,rfl,r⟩
 | _,_,i+1,x,.cons _ t,e=>by
  obtain⟨u,h1,h2⟩:=Vals.get (i:=i) (x:=x) t (by simpa using e)
  exact⟨u,by simpa using h1,h2⟩
theorem Vals.set {x:V} {u:Value} (r:RelV x u):∀ {xs:List V} {us:List Value} (i:Nat),Vals xs us->Vals (xs.set i x) (us.set i u)
 | _,_,_,.nil=>.nil
 | _,_,0,.cons _ t=>.cons r t
 | _,_,i+1,.cons q t=>.cons q (Vals.set r i t)
theorem Vals.append:∀ {xs ys:List V} {us ws:List Value},Vals xs us->Vals ys ws->Vals (xs++ys) (us++ws)
 | _,_,_,_,.nil,s=>s
 | _,_,_,_,.cons r t,s=>.cons r (Vals.append t s)
theorem Vals.take:∀ {xs:List V} {us:List Value} (n:Nat),Vals xs us->Vals (xs.take n) (us.take n)
 | _,_,0,_=>.nil
 | _,_,_+1,.nil=>.nil
 | _,_,n+1,.cons r t=>.cons r (Vals.take n t)
theorem Vals.drop:∀ {xs:List V} {us:List Value} (n:Nat),Vals xs us->Vals (xs.drop n) (us.drop n)
 | _,_,0,r=>r
 | _,_,_+1,.nil=>.nil
 | _,_,n+1,.cons _ t=>Vals.drop n t
noncomputable def RelO:Option V->Option Value->Prop
 | some v,some u=>RelV v u
 | none,none=>True
 | _,_=>False
noncomputable def KV {κ:Type}:List (κ × V)->List (κ × Value)->Prop:=Paired fun (p:κ × V) (q:κ × Value)=>p.1=q.1/\RelV p.2 q.2
noncomputable def kV:Key->V
 | .inl i=>.int i
 | .inr x=>.str x
inductive HO where
 /-- a list -/
 | lst (xs:List V)
 /-- a tuple (never changes) -/
 | tup (xs:List V)
 /-- a dict whose keys are ints and texts; one whose keys are tuples of ints and texts (the empty one is both) -/
 | dK (kvs:List (Key × V)) | dT (kvs:List (List Key × V))
 /-- a set of ints: its members,its size -/
 | set (S:Int->Bool) (n:Nat)
 /-- an instance of the class at C,its dict at dx,its attributes -/
 | ins (C dx:Addr) (fs:List (Str × V))
 /-- the dict of the instance at x -/
 | own (x:Addr)
 /-- the dict of an exception -/
 | xd (fs:List (Str × V))
 /-- a bound method,f of x -/
 | met (f x:Addr)
 /-- a range object lo,lo+1,.. below hi -/
 | rng (lo hi:Int)
 /-- a thing that is known to the object (the script; a dict while a loop walks it): read,never written while it is so -/
 | frz (o:Obj) (u:HO)
 /-- a code object's table -/
 | tbl (ps:Array Value)
 /-- any other thing,by what is true of its one object (a def of one's own: SetO a S n:=HO.ext fun h=>..) -/
 | ext (φ:Heap->Prop)
noncomputable abbrev Hp:=Addr->Option HO
noncomputable def upd (H:Hp) (a:Addr) (o:HO):Hp:=fun b=>if b=a then some o else H b
theorem upd_same {H:Hp} {a:Addr} {o:HO}:upd H a o a=some o:=by unfold upd; rw[if_pos rfl]
theorem upd_ne {H:Hp} {a b:Addr} {o:HO} (h:b≠a):upd H a o b=H b:=by unfold upd; rw[if_neg h]
theorem ne_of_none {H:Hp} {a b:Addr} {o:HO} (h:H a=some o) (h':H b=none):a≠b:=by
 intro e; subst e; rw[h] at h'; cases h'
section
variable (P:Program) (w:World)
noncomputable def ObjOk (H:Hp) (h:Heap) (a:Addr):HO->Prop
 | .lst xs=>xs.length<=sizeLine/\∃ (its:List Value) (n:Nat),Vals xs its/\h.get? a=some { cls:=.type "list",data:=.seq its.toArray n }
 | .tup xs=>xs.length<=sizeLine/\∃ its:List Value,Vals xs its/\IsTup h a its.toArray
 | .dK kvs=>kvs.length<=sizeLine/\(a == sysModules)=false/\∃ vs,KV kvs vs/\h.DictOf (mixKind P w) a vs
 | .dT kvs=>kvs.length<=sizeLine/\(a == sysModules)=false/\∃ xs:List (List Key × Addr × Value),
   Paired (fun (p:List Key × V) (q:List Key × Addr × Value)=>p.1=q.1/\H q.2.1=some (.tup (p.1.map kV))/\RelV p.2 q.2.2) kvs xs ∧
   ∃ o es ep,h.get? a=some o/\o.ExactDict/\o.data = .dict es ep/\es.toList=xs.map (entryOfKey (tupleKind (mixKind P w)))/\(xs.map (·.1)).Nodup
 | .set S n=>h.SetOf (intKind P w) a S n
 | .ins C dx fs=>H dx=some (.own a)/\fs.length<=1000/\dx≠a/\h.get? a=some (PySem.W.instObj C dx) ∧
   ∃ mA,h.Ns1 dx mA/\(∀ f,RelO (fs.lookup f) (mA f))/\PySem.Within mA (fs.map (·.1))
 | .own _=>∃ o,h.get? a=some o
 | .xd fs=>∃ mA,h.Ns1 a mA/\∀ f,RelO (fs.lookup f) (mA f)
 | .rng lo hi=>∃ t u v,h.get? a=some { cls:=.type "range",data:=.fields #[.int lo t,.int hi u,.int 1 v] }
 | .frz o u=>h.get? a=some o/\ObjOk H h a u
 | .tbl ps=>h.get? a=some { cls:=.none,data:=.fields ps }
 | .met f x=>h.get? a=some (PySem.W.methodObj (.ref f) (.ref x))
 | .ext φ=>φ h/\(∃ o,h.get? a=some o)/\∀ h1 h2:Heap,φ h1->(∀ o,h1.get? a=some o->h2.get? a=some o)->φ h2
noncomputable def HOk (H:Hp) (h:Heap):Prop:=∀ a o,H a=some o->ObjOk P w H h a o
end
section
variable {P:Program} {w:World} {H H':Hp} {h h':Heap} {a:Addr} {o:HO}
theorem ObjOk.lt (x:ObjOk P w H h a o):a < h.objs.size:=by
 cases o with
 | lst xs=>obtain⟨_,_,_,_,e⟩:=x; exact Heap.lt_size e
 | tup xs=>obtain⟨_,_,_,p⟩:=x; exact p.lt
 | dK kvs=>obtain⟨_,_,_,_,o,_,_,e,_⟩:=x; exact Heap.lt_size e
 | dT kvs=>obtain⟨_,_,_,_,o,_,_,e,_⟩:=x; exact Heap.lt_size e
 | set S n=>obtain⟨o,_,_,_,e,_⟩:=x; exact Heap.lt_size e
 | ins C dx fs=>obtain⟨_,_,_,e,_⟩:=x; exact Heap.lt_size e
 | own y=>obtain⟨_,e⟩:=x; exact Heap.lt_size e
 | xd fs=>obtain⟨_,⟨_,_,_,e,_⟩,_⟩:=x; exact Heap.lt_size e
 | rng lo hi=>obtain⟨_,_,_,e⟩:=x; exact Heap.lt_size e
 | frz ob u=>obtain⟨e,_⟩:=x; exact Heap.lt_size e
 | tbl ps=>exact Heap.lt_size (show h.get? a=some _ from x)
 | met f y=>exact Heap.lt_size (show h.get? a=some _ from x)
 | ext φ=>obtain⟨_,⟨_,e⟩,_⟩:=x; exact Heap.lt_size e
theorem Paired.mapP {α β:Type} {F G:α->β->Prop}:∀ {l₁:List α} {l₂:List β},Paired F l₁ l₂->(∀ a b,F a b->G a b)->Paired G l₁ l₂
 | _,_,.nil,_=>.nil
 | _,_,.cons r t,f=>.cons (f _ _ r) (Paired.mapP t f)
theorem ObjOk.stay (x:ObjOk P w H h a o) (k:∀ b u,(b=a∨H b=some (.own a))->h.get? b=some u->h'.get? b=some u)
  (ho:∀ b,H b=some (.own a)->H' b=some (.own a)) (ht:∀ b xs,H b=some (.tup xs)->H' b=some (.tup xs)):ObjOk P w H' h' a o:=by
 induction o with
 | lst xs=>obtain⟨z,its,n,r,e⟩:=x; exact⟨z,its,n,r,k _ _ (.inl rfl) e⟩
 | tup xs=>obtain⟨z,its,r,ob,e,c⟩:=x; exact⟨z,its,r,ob,k _ _ (.inl rfl) e,c⟩
 | dK kvs=>obtain⟨z,y,vs,r,ob,es,ep,e,c⟩:=x; exact⟨z,y,vs,r,ob,es,ep,k _ _ (.inl rfl) e,c⟩
 | dT kvs =>
  obtain⟨z,y,xs,r,ob,es,ep,e,c⟩:=x
  exact⟨z,y,xs,Paired.mapP r fun p q z=>⟨z.1,ht _ _ z.2.1,z.2.2⟩,ob,es,ep,k _ _ (.inl rfl) e,c⟩
 | set S n=>obtain⟨ob,es,ep,t,e,c⟩:=x; exact⟨ob,es,ep,t,k _ _ (.inl rfl) e,c⟩
 | ins C dx fs =>
  obtain⟨d,z,ne,e,mA,⟨od,es,ep,e2,c⟩,r⟩:=x
  exact⟨ho _ d,z,ne,k _ _ (.inl rfl) e,mA,⟨od,es,ep,k _ _ (.inr d) e2,c⟩,r⟩
 | own y=>obtain⟨ob,e⟩:=x; exact⟨ob,k _ _ (.inl rfl) e⟩
 | xd fs=>obtain⟨mA,⟨od,es,ep,e,c⟩,r⟩:=x; exact⟨mA,⟨od,es,ep,k _ _ (.inl rfl) e,c⟩,r⟩
 | rng lo hi=>obtain⟨t,u,v,e⟩:=x; exact⟨t,u,v,k _ _ (.inl rfl) e⟩
 | frz ob u ih=>obtain⟨e,q⟩:=x; exact⟨k _ _ (.inl rfl) e,ih q⟩
 | tbl ps =>
  have e:h.get? a=some { cls:=.none,data:=.fields ps }:=x
  show h'.get? a=some { cls:=.none,data:=.fields ps }
  exact k a _ (.inl rfl) e
 | met f y =>
  have e:h.get? a=some (PySem.W.methodObj (.ref f) (.ref y)):=x
  show h'.get? a=some (PySem.W.methodObj (.ref f) (.ref y))
  exact k a _ (.inl rfl) e
 | ext φ=>obtain⟨p,⟨o,e⟩,st⟩:=x; exact⟨st _ _ p fun o q=>k _ _ (.inl rfl) q,⟨o,k _ _ (.inl rfl) e⟩,st⟩
theorem HOk.lt (x:HOk P w H h) (e:H a=some o):a < h.objs.size:=(x a o e).lt
theorem HOk.fresh (x:HOk P w H h) (e:h.objs.size<=a):H a=none:=by
 cases q:H a with
 | none=>rfl
 | some u=>exact absurd (Nat.lt_of_lt_of_le (x.lt q) e) (Nat.lt_irrefl _)
theorem HOk.kept (x:HOk P w H h) (k:∀ b u,h.get? b=some u->h'.get? b=some u):HOk P w H h':=fun a o e =>
 (x a o e).stay (fun b u _ q=>k b u q) (fun _ q=>q) fun _ _ q=>q
theorem HOk.laid (x:HOk P w H h) (k:∀ b u,h.get? b=some u->h'.get? b=some u) (hp:h.objs.size<=a) (new:ObjOk P w (upd H a o) h' a o):HOk P w (upd H a o) h':=fun b u e=>by
 have hn:=x.fresh hp
 by_cases hb:b=a
 ·subst hb; rw[upd_same] at e; cases e; exact new
 ·rw[upd_ne hb] at e
  exact (x b u e).stay (fun c v _ q=>k c v q) (fun c q=>by rw[upd_ne (ne_of_none q hn)]; exact q) fun c xs q=>by rw[upd_ne (ne_of_none q hn)]; exact q
end
noncomputable def Rd (H:Hp) (a:Addr) (u:HO):Prop:=H a=some u∨∃ o,H a=some (.frz o u)
theorem Rd.of {H:Hp} {a:Addr} {u:HO} (h:H a=some u):Rd H a u:=.inl h
theorem Rd.ok {P:Program} {w:World} {H:Hp} {h:Heap} {a:Addr} {u:HO} (r:Rd H a u) (x:HOk P w H h):ObjOk P w H h a u:=by
 rcases r with r | ⟨o,r⟩
 ·exact x a u r
 ·obtain⟨_,q⟩:=x a _ r
  exact q
noncomputable def Mut:Option HO->Prop
 | some (.lst _)=>True
 | some (.dK _)=>True
 | some (.dT _)=>True
 | some (.set _ _)=>True
 | some (.ins _ _ _)=>True
 | some (.ext _)=>True
 | _=>False
section
variable {P:Program} {w:World} {H:Hp} {h h':Heap} {x e:Addr} {o':HO}
theorem HOk.write (ok:HOk P w H h) (mu:Mut (H x)) (he:e=x∨H e=some (.own x)) (k:∀ b u,b≠e->h.get? b=some u->h'.get? b=some u) (heo:∃ u,h'.get? e=some u)
  (new:ObjOk P w (upd H x o') h' x o'):HOk P w (upd H x o') h':=fun b u q=>by
 have nown:∀ c y,H c=some (.own y)->c≠x:=fun c y r z=>by subst z; rw[r] at mu; exact mu
 have ntup:∀ c xs,H c=some (.tup xs)->c≠x:=fun c xs r z=>by subst z; rw[r] at mu; exact mu
 by_cases hb:b=x
 ·subst hb; rw[upd_same] at q; cases q; exact new
 ·rw[upd_ne hb] at q
  by_cases hbe:b=e
  ·have q':H b=some (.own x):=by
    rcases he with z | z
    ·exact absurd (hbe.trans z) hb
    ·rw[hbe]; exact z
   rw[q] at q'; cases q'
   obtain⟨v,hv⟩:=heo
   exact⟨v,by rw[hbe]; exact hv⟩
  ·refine (ok b u q).stay (fun c v hc r=>k c v ?_ r) (fun c r=>by rw[upd_ne (nown c b r)]; exact r) fun c xs r=>by rw[upd_ne (ntup c xs r)]; exact r
   rcases hc with rfl | hc
   ·exact hbe
   ·rintro rfl
    rcases he with z | z
    ·exact nown c b hc z
    ·rw[hc] at z; cases z; exact hb rfl
end
structure Un (fs ex:List Addr) (H H':Hp) (h h':Heap):Prop where
 keep:∀ b o,h.get? b=some o->H b=none->b ∉ fs->b ∉ ex->h'.get? b=some o
 slot:∀ b o,h.get? b=some o->H b=none->b∈fs->b ∉ ex->∃ sl,h'.get? b=some { o with slots:=sl }
 free:∀ b o,h.get? b=some o->H b=none->b ∉ ex->H' b=none
 there:∀ b o,h.get? b=some o->b ∉ ex->∃ o',h'.get? b=some o'
 tups:∀ b xs,H b=some (.tup xs)->H' b=some (.tup xs)
 frzs:∀ b o u,H b=some (.frz o u)->H' b=some (.frz o u)
 tbls:∀ b ps,H b=some (.tbl ps)->∃ more,H' b=some (.tbl (ps++more))
section
variable {fs fs' ex ex':List Addr} {H H1 H2:Hp} {h h1 h2 h':Heap} {a x e:Addr} {o:HO}
theorem Un.any (u:Un fs ex H H1 h h1) {b:Addr} {ob:Obj} (q:h.get? b=some ob) (n:H b=none) (hx:b ∉ ex):∃ sl,h1.get? b=some { ob with slots:=sl }:=by
 by_cases hb:b∈fs
 ·exact u.slot b ob q n hb hx
 ·exact⟨ob.slots,u.keep b ob q n hb hx⟩
theorem Un.trans (a:Un fs ex H H1 h h1) (b:Un fs ex H1 H2 h1 h2):Un fs ex H H2 h h2 where
 keep:=fun c ob q n hc hx=>b.keep c ob (a.keep c ob q n hc hx) (a.free c ob q n hx) hc hx
 slot:=fun c ob q n hc hx=>by
  obtain⟨sl,e1⟩:=a.slot c ob q n hc hx
  obtain⟨sl',e2⟩:=b.slot c _ e1 (a.free c ob q n hx) hc hx
  exact⟨sl',e2⟩
 free:=fun c ob q n hx=>by
  obtain⟨o',e1⟩:=a.there c ob q hx
  exact b.free c o' e1 (a.free c ob q n hx) hx
 there:=fun c ob q hx=>by
  obtain⟨o',e1⟩:=a.there c ob q hx
  exact b.there c o' e1 hx
 tups:=fun c xs q=>b.tups c xs (a.tups c xs q)
 frzs:=fun c ob xs q=>b.frzs c ob xs (a.frzs c ob xs q)
 tbls:=fun c ps q=>by
  obtain⟨m1,e1⟩:=a.tbls c ps q
  obtain⟨m2,e2⟩:=b.tbls c _ e1
  exact⟨m1++m2,by rw[e2,Array.append_assoc]⟩
theorem Un.kept (k:∀ b u,h.get? b=some u->h'.get? b=some u):Un fs ex H H h h' :=
 ⟨fun b ob q _ _ _=>k b ob q,fun b ob q _ _ _=>⟨ob.slots,k b ob q⟩,fun _ _ _ n _=>n,fun b ob q _=>⟨ob,k b ob q⟩,fun _ _ q=>q,fun _ _ _ q=>q,fun _ ps q=>⟨#[],by rw[q]; simp⟩⟩
theorem Un.refl:Un fs ex H H h h:=Un.kept fun _ _ q=>q
theorem Un.laid (k:∀ b u,h.get? b=some u->h'.get? b=some u) (hp:h.objs.size<=a) (hn:H a=none):Un fs ex H (upd H a o) h h' where
 keep:=fun b u q _ _ _=>k b u q
 slot:=fun b u q _ _ _=>⟨u.slots,k b u q⟩
 free:=fun b u q n _=>by rw[upd_ne (Nat.ne_of_lt (Nat.lt_of_lt_of_le (Heap.lt_size q) hp))]; exact n
 there:=fun b u q _=>⟨u,k b u q⟩
 tups:=fun b xs q=>by rw[upd_ne (ne_of_none q hn)]; exact q
 frzs:=fun b u xs q=>by rw[upd_ne (ne_of_none q hn)]; exact q
 tbls:=fun b ps q=>⟨#[],by rw[upd_ne (ne_of_none q hn),q]; simp⟩
theorem Un.write (mu:Mut (H x)) (he:e=x∨H e=some (.own x)) (k:∀ b u,b≠e->h.get? b=some u->h'.get? b=some u) (heo:∃ u,h'.get? e=some u):Un fs ex H (upd H x o) h h':=by
 have hx:∀ b,H b=none->b≠x:=fun b n z=>by subst z; rw[n] at mu; exact mu
 have hb:∀ b,H b=none->b≠e:=fun b n z=>by
  subst z
  rcases he with r | r
  ·exact hx b n r
  ·rw[n] at r; cases r
 have hm:∀ b u,H b=some u->¬ Mut (some u)->b≠x:=fun b u q nm z=>by subst z; rw[q] at mu; exact nm mu
 refine⟨fun b u q n _ _=>k b u (hb b n) q,fun b u q n _ _=>⟨u.slots,k b u (hb b n) q⟩,fun b u q n _=>by rw[upd_ne (hx b n)]; exact n,fun b u q _=>?_,
  fun b xs q=>by rw[upd_ne (hm b _ q fun z=>z)]; exact q,fun b u xs q=>by rw[upd_ne (hm b _ q fun z=>z)]; exact q,fun b ps q=>⟨#[],by rw[upd_ne (hm b _ q fun z=>z),q]; simp⟩⟩
 by_cases hbe:b=e
 ·subst hbe; exact heo
 ·exact⟨u,k b u hbe q⟩
theorem Un.mono (u:Un fs ex H H1 h h1) (hs:∀ b∈fs,b∈fs') (hx:∀ b∈ex,b∈ex'):Un fs' ex' H H1 h h1 :=
 ⟨fun b ob q n hb he=>u.keep b ob q n (fun z=>hb (hs b z)) fun z=>he (hx b z),fun _ _ q n _ he=>u.any q n fun z=>he (hx _ z),fun b ob q n he=>u.free b ob q n fun z=>he (hx b z),fun b ob q he=>u.there b ob q fun z=>he (hx b z),u.tups,u.frzs,u.tbls⟩
end
noncomputable def trk (h:Heap) (H:Hp):List Addr:=(List.range h.objs.size).filter fun a=>(H a).isSome
noncomputable def hidT (h:Heap) (H:Hp):Heap:=PySem.W.hideAll h (trk h H)
theorem hidT_size (h:Heap) (H:Hp):(hidT h H).objs.size=h.objs.size:=PySem.W.hideAll_size _ _
theorem hidT_get {h:Heap} {H:Hp} {b:Addr} {o:Obj} (e:h.get? b=some o) (n:H b=none):(hidT h H).get? b=some o :=
 PySem.W.hideAll_get _ e fun hm=>by
  have q:(H b).isSome=true:=(List.mem_filter.mp hm).2
  rw[n] at q; simp at q
theorem of_hidT {h:Heap} {H:Hp} {b:Addr} {o:Obj} (e:(hidT h H).get? b=some o):h.get? b=some o/\H b=none:=by
 have e':h.get? b=some o:=PySem.W.of_hideAll (trk h H) e
 refine⟨e',?_⟩
 cases q:H b with
 | none=>rfl
 | some x =>
  have hm:b∈trk h H:=List.mem_filter.mpr ⟨List.mem_range.mpr (Heap.lt_size e'),by simp [q]⟩
  have z:(hidT h H).get? b=none:=PySem.W.hideAll_none (trk h H) hm
  rw[z] at e; cases e
noncomputable def allNews (g h:Heap) (L:Addr):List (Addr × Obj):=(List.range h.objs.size).filterMap fun a=>if a=L∨(g.get? a).isSome=true then none else (h.get? a).map fun o=>(a,o)
noncomputable def rest (g h:Heap) (L d:Addr):List (Addr × Obj):=(allNews g h L).filter fun p=>decide (p.1≠d)
end L2
namespace L2
open PySem PySem.Spec PyProof.Rows
structure Mod (K:PySem.W.Frag) (mg:Str->Option Value) (base:Heap):Prop where
 kin:K.In base
 glob:base.Ns mainGlobals mg
 blt:∃ mb,base.Ns builtinsNs mb/\∀ x:Str,x≠"__name__"->mb x=bootBuiltins x
 nolimit:base.NoLimit
structure Cx where
 prog:Program
 w:World
 K:PySem.W.Frag
 mg:Str->Option Value
 base:Heap
 A:Around
 N:List Str
 s₀:Shared
 H₀:Hp
 env:Env
 outer:List Env
 stack:List Env
 ex:List Addr
 fn:Str->Bool
 calm:Bool
 pn:List (Addr × Obj)
 xe:Value->Shared->Prop
noncomputable def frs (l:List Env):List Addr:=l.filterMap (·.frame)
noncomputable abbrev Cx.fs (X:Cx):List Addr:=frs X.outer
noncomputable def Vis (sc:Scope) (x:Str):Prop:=sc.names.lookup x=some .local∨sc.names.lookup x=some .cell∨sc.names.lookup x=some .free
noncomputable def Loc (sc:Scope) (x:Str):Prop:=sc.names.lookup x=some .local∨sc.names.lookup x=some .cell
noncomputable def Look (env:Env) (h:Heap) (m:Str->Option Value) (x:Str) (u:Value):Prop :=
 (env.kindOf x=some .local/\m x=some u)∨((env.kindOf x=some .cell∨env.kindOf x=some .free)/\∃ c,env.cells.lookup x=some c/\h.IsCell c (some u))
structure Cx.Ok (X:Cx):Prop where
 mod:Mod X.K X.mg X.base
 kind:X.env.scope.kind = .function
 glob:X.env.globals=mainGlobals
 blt:X.env.builtins=builtinsNs
 above:X.s₀.heap.objs.size<=X.env.locals
 inj:∀ x y c,X.env.cells.lookup x=some c->X.env.cells.lookup y=some c->x=y
 has:∀ x,(X.env.kindOf x=some .cell∨X.env.kindOf x=some .free)->∃ c,X.env.cells.lookup x=some c
 cab:∀ x c,X.fn x=true->X.env.cells.lookup x=some c->X.s₀.heap.objs.size<=c
 hd:X.calm=true->X.A.handled=none
 frames:X.A.frames=some X.stack
 stk:X.stack=X.outer∨(X.stack=X.env::X.outer/\X.env.frame=some X.env.locals)
 exf:∀ b∈X.ex,b≠X.env.locals/\∀ x c,X.env.cells.lookup x=some c->c≠b
 bs:∀ b o,X.base.get? b=some o->X.s₀.heap.get? b=some o/\X.H₀ b=none
 bsz:X.base.objs.size<=X.s₀.heap.objs.size
 noex:∀ b o,X.base.get? b=some o->b ∉ X.ex
 exfs:∀ b∈X.ex,b ∉ X.fs
 funs:X.s₀.heap.FunFrames X.base X.outer
 frf:∀ b∈X.fs,X.H₀ b=none
structure Inv (X:Cx) (pins:List (Addr × Obj)) (σ:List (Option V)) (H:Hp) (s:Shared):Prop where
 ok:X.Ok
 os:s.os=X.s₀.os
 bare:AllBare s.gens
 base:Un X.fs X.ex X.H₀ H X.s₀.heap s.heap
 loc:∃ m,s.heap.Ns X.env.locals m/\∀ (i:Nat) (x:Str) (v:V),X.N[i]? = some x->σ[i]? = some (some v)->Vis X.env.scope x->∃ u,RelV v u/\Look X.env s.heap m x u
 cell:∀ x c,X.env.cells.lookup x=some c->∃ v,s.heap.IsCell c v
 free:H X.env.locals=none
 freeC:∀ x c,X.env.cells.lookup x=some c->H c=none
 pin:∀ p∈X.pn++pins,s.heap.get? p.1=some p.2/\H p.1=none/\p.1≠X.env.locals/\p.1 ∉ X.fs/\∀ v,p.2.data≠.cell v
 hok:HOk X.prog X.w H s.heap
 len:σ.length=X.N.length
section
variable {X:Cx} {pins:List (Addr × Obj)} {σ:List (Option V)} {H H':Hp} {s:Shared} {h':Heap}
theorem Cx.Ok.nofr (ok:X.Ok) {b:Addr} {o:Obj} (e:X.base.get? b=some o):b ∉ X.fs:=fun hb=>by
 have:=(ok.funs.mem hb).1
 rw[e] at this; cases this
theorem Inv.bs (I:Inv X pins σ H s):∀ b o,X.base.get? b=some o->s.heap.get? b=some o/\H b=none:=fun b o e =>
 ⟨I.base.keep b o (I.ok.bs b o e).1 (I.ok.bs b o e).2 (I.ok.nofr e) (I.ok.noex b o e),I.base.free b o (I.ok.bs b o e).1 (I.ok.bs b o e).2 (I.ok.noex b o e)⟩
theorem Inv.bk (I:Inv X pins σ H s):∀ b o,X.base.get? b=some o->s.heap.get? b=some o:=fun b o e=>(I.bs b o e).1
theorem Inv.mod (I:Inv X pins σ H s):Mod X.K X.mg X.base:=I.ok.mod
theorem Inv.kIn (I:Inv X pins σ H s):X.K.In s.heap:=I.ok.mod.kin.keeps I.bk
theorem Inv.nolimit (I:Inv X pins σ H s):s.heap.NoLimit:=I.ok.mod.nolimit.keeps I.bk
theorem Inv.fr (I:Inv X pins σ H s):∃ m,Fr X.base X.env.locals s.heap m :=
 let ⟨m,hn,_⟩:=I.loc
 ⟨m,hn,I.bk,Nat.le_trans I.ok.bsz I.ok.above⟩
theorem Inv.lt (I:Inv X pins σ H s):X.env.locals < s.heap.objs.size:=let ⟨_,hn,_⟩:=I.loc; hn.lt
theorem Inv.sz (I:Inv X pins σ H s):X.s₀.heap.objs.size<=s.heap.objs.size:=Nat.le_trans I.ok.above (Nat.le_of_lt I.lt)
theorem Inv.nofs (I:Inv X pins σ H s) {a:Addr} (h:s.heap.objs.size<=a):a ∉ X.fs:=fun hb=>by
 obtain⟨_,o,ho,_⟩:=I.ok.funs.mem hb
 exact absurd (Nat.lt_of_lt_of_le (Heap.lt_size ho) (Nat.le_trans I.sz h)) (Nat.lt_irrefl _)
theorem Inv.cne (I:Inv X pins σ H s):∀ x c,X.env.cells.lookup x=some c->c≠X.env.locals:=fun x c e z=>by
 obtain⟨v,o,ho,hd⟩:=I.cell x c e
 obtain⟨m,⟨o',es,ep,ho',hd',_⟩,_⟩:=I.loc
 rw[z,ho'] at ho; cases ho; rw[hd'] at hd; cases hd
theorem Inv.funs (I:Inv X pins σ H s):s.heap.FunFrames X.base X.outer:=by
 have all:∀ (l:List Env),(∀ b∈frs l,b∈X.fs)->X.s₀.heap.FunFrames X.base l->s.heap.FunFrames X.base l:=by
  intro l
  induction l with
  | nil=>intro _ _; trivial
  | cons env r ih =>
   intro hs hl
   obtain⟨hk,⟨L,o,hf,hn,ho,hd⟩,hr⟩:=hl
   have hL:L∈X.fs:=hs L (by unfold frs; rw[List.filterMap_cons,hf]; exact List.mem_cons_self)
   obtain⟨sl,e⟩:=I.base.slot L o ho (I.ok.frf L hL) hL fun z=>I.ok.exfs L z hL
   exact⟨hk,⟨L,_,hf,hn,e,hd⟩,ih (fun b hb=>hs b (by unfold frs; rw[List.filterMap_cons,hf]; exact List.mem_cons_of_mem _ hb)) hr⟩
 exact all X.outer (fun _ hb=>hb) I.ok.funs
theorem Inv.stack (I:Inv X pins σ H s):s.heap.FunFrames X.base X.stack:=by
 rcases I.ok.stk with e | ⟨e,hf⟩
 ·rw[e]; exact I.funs
 ·rw[e]
  obtain⟨m,hn,_⟩:=I.loc
  refine .cons (by rw[I.ok.kind]; decide) hf hn ?_ I.funs
  exact Heap.get?_none_of_le (Nat.le_trans I.ok.bsz I.ok.above)
theorem Inv.stkSub (I:Inv X pins σ H s):∀ b∈frs X.stack,b∈X.env.locals::X.fs:=fun b hb=>by
 rcases I.ok.stk with e | ⟨e,hf⟩
 ·rw[e] at hb; exact List.mem_cons_of_mem _ hb
 ·rw[e] at hb
  unfold frs at hb
  rw[List.filterMap_cons,hf] at hb
  exact hb
theorem Inv.stkFree (I:Inv X pins σ H s):∀ b∈frs X.stack,H b=none:=fun b hb=>by
 rcases List.mem_cons.mp (I.stkSub b hb) with e | hb
 ·rw[e]; exact I.free
 ·obtain⟨_,o,ho,_⟩:=I.ok.funs.mem hb
  exact I.base.free b o ho (I.ok.frf b hb) fun z=>I.ok.exfs b z hb
theorem Inv.step {g':Array GenState} {t':Nat} {d':Drawn} {ch:List Addr} (I:Inv X pins σ H s)
  (hch:∀ b∈ch,(b∈X.ex∨X.s₀.heap.objs.size<=b)/\b≠X.env.locals/\(∀ x c,X.env.cells.lookup x=some c->c≠b)/\∀ p∈X.pn++pins,p.1≠b)
  (keep:∀ b o,b≠X.env.locals->b ∉ X.fs->b ∉ ch->s.heap.get? b=some o->H b=none->h'.get? b=some o)
  (slot:∀ b o,b≠X.env.locals->b∈X.fs->b ∉ ch->s.heap.get? b=some o->H b=none->∃ sl,h'.get? b=some { o with slots:=sl }) (free:∀ b o,b ∉ ch->s.heap.get? b=some o->H b=none->H' b=none)
  (there:∀ b o,b ∉ ch->s.heap.get? b=some o->∃ o',h'.get? b=some o')
  (tups:∀ b xs,H b=some (.tup xs)->H' b=some (.tup xs)) (frzs:∀ b o u,H b=some (.frz o u)->H' b=some (.frz o u)) (tbls:∀ b ps,H b=some (.tbl ps)->∃ more,H' b=some (.tbl (ps++more)))
  (ns:∀ m,s.heap.Ns X.env.locals m->h'.Ns X.env.locals m) (hok:HOk X.prog X.w H' h') (hg:AllBare g') :
  Inv X pins σ H' { s with heap:=h',gens:=g',drawn:=d',toks:=t' }:=by
 have neL:∀ b o,X.s₀.heap.get? b=some o->b≠X.env.locals:=fun b o e=>Nat.ne_of_lt (Nat.lt_of_lt_of_le (Heap.lt_size e) I.ok.above)
 have neC:∀ b o,X.s₀.heap.get? b=some o->b ∉ X.ex->b ∉ ch:=fun b o e hx hb=>by
  rcases (hch b hb).1 with z | z
  ·exact hx z
  ·exact absurd (Nat.lt_of_lt_of_le (Heap.lt_size e) z) (Nat.lt_irrefl _)
 have cellK:∀ x c,X.env.cells.lookup x=some c->∀ v,s.heap.IsCell c v->h'.IsCell c v:=fun x c e v ⟨o,ho,hd⟩=>by
  have nch:c ∉ ch:=fun z=>(hch c z).2.2.1 x c e rfl
  by_cases hc:c∈X.fs
  ·obtain⟨sl,q⟩:=slot c o (I.cne x c e) hc nch ho (I.freeC x c e)
   exact⟨_,q,hd⟩
  ·exact⟨o,keep c o (I.cne x c e) hc nch ho (I.freeC x c e),hd⟩
 refine⟨I.ok,I.os,hg,⟨fun b o e n hb hx=>?_,fun b o e n hb hx=>?_,fun b o e n hx=>?_,fun b o e hx=>?_,fun b xs e=>tups b xs (I.base.tups b xs e),fun b o xs e=>frzs b o xs (I.base.frzs b o xs e),fun b ps e=>?_⟩,?_,fun x c e=>?_,?_,fun x c e=>?_,fun p hp=>?_,hok,I.len⟩
 ·exact keep b o (neL b o e) hb (neC b o e hx) (I.base.keep b o e n hb hx) (I.base.free b o e n hx)
 ·obtain⟨sl,e1⟩:=I.base.slot b o e n hb hx
  obtain⟨sl',e2⟩:=slot b _ (neL b o e) hb (neC b o e hx) e1 (I.base.free b o e n hx)
  exact⟨sl',e2⟩
 ·obtain⟨o',e1⟩:=I.base.there b o e hx
  exact free b o' (neC b o e hx) e1 (I.base.free b o e n hx)
 ·obtain⟨o',e1⟩:=I.base.there b o e hx
  exact there b o' (neC b o e hx) e1
 ·obtain⟨m1,e1⟩:=I.base.tbls b ps e
  obtain⟨m2,e2⟩:=tbls b _ e1
  exact⟨m1++m2,by rw[e2,Array.append_assoc]⟩
 ·obtain⟨m,hn,hl⟩:=I.loc
  refine⟨m,ns m hn,fun i x v e1 e2 e3=>?_⟩
  obtain⟨u,r,l⟩:=hl i x v e1 e2 e3
  refine⟨u,r,?_⟩
  rcases l with l | ⟨k,c,e,z⟩
  ·exact .inl l
  ·exact .inr ⟨k,c,e,cellK x c e _ z⟩
 ·obtain⟨v,z⟩:=I.cell x c e
  exact⟨v,cellK x c e v z⟩
 ·obtain⟨m,⟨o,_,_,ho,_⟩,_⟩:=I.loc
  exact free _ o (fun z=>(hch _ z).2.1 rfl) ho I.free
 ·obtain⟨v,o,ho,hd⟩:=I.cell x c e
  exact free c o (fun z=>(hch c z).2.2.1 x c e rfl) ho (I.freeC x c e)
 ·obtain⟨e,n,ne,nf,d⟩:=I.pin p hp
  have nch:p.1 ∉ ch:=fun z=>(hch p.1 z).2.2.2 p hp rfl
  exact⟨keep p.1 p.2 ne nf nch e n,free p.1 p.2 nch e n,ne,nf,d⟩
theorem Inv.un {t':Nat} (I:Inv X pins σ H s) (u:Un X.fs [] H H' s.heap h') (hok:HOk X.prog X.w H' h'):Inv X pins σ H' { s with heap:=h',toks:=t' }:=by
 obtain⟨m,⟨o,es,ep,ho,r⟩,_⟩:=id I.loc
 obtain⟨sl,hL⟩:=u.any ho I.free (by simp)
 exact I.step (g':=s.gens) (d':=s.drawn) (ch:=[]) (fun _ z=>nomatch z) (fun b o _ hb _ e n=>u.keep b o e n hb (by simp)) (fun b o _ hb _ e n=>u.slot b o e n hb (by simp)) (fun b o _ e n=>u.free b o e n (by simp)) (fun b o _ e=>u.there b o e (by simp)) u.tups u.frzs u.tbls (fun m' hm=>by
  obtain⟨o',es',ep',ho',r'⟩:=hm
  rw[ho] at ho'; cases ho'
  exact⟨_,es',ep',hL,r'⟩) hok I.bare
theorem Inv.call {g':Array GenState} {t':Nat} {d':Drawn} {ch:List Addr} (I:Inv X pins σ H s) (u:Un (frs X.stack) ch H H' s.heap h') (hok:HOk X.prog X.w H' h') (hg:AllBare g')
  (hch:∀ b∈ch,(b∈X.ex∨X.s₀.heap.objs.size<=b)/\b≠X.env.locals/\(∀ x c,X.env.cells.lookup x=some c->c≠b)/\∀ p∈X.pn++pins,p.1≠b) :
  Inv X pins σ H' { s with heap:=h',gens:=g',drawn:=d',toks:=t' }:=by
 obtain⟨m,⟨o,es,ep,ho,r⟩,_⟩:=id I.loc
 obtain⟨sl,hL⟩:=u.any ho I.free fun z=>(hch _ z).2.1 rfl
 exact I.step (ch:=ch) hch (fun b o hL hb hc e n=>u.keep b o e n (fun z=>(List.mem_cons.mp (I.stkSub b z)).elim hL hb) hc) (fun b o _ _ hc e n=>u.any e n hc) (fun b o hc e n=>u.free b o e n hc) (fun b o hc e=>u.there b o e hc) u.tups u.frzs u.tbls (fun m' hm=>by
  obtain⟨o',es',ep',ho',r'⟩:=hm
  rw[ho] at ho'; cases ho'
  exact⟨_,es',ep',hL,r'⟩) hok hg
theorem Inv.turned {t':Nat} {it:Addr} (I:Inv X pins σ H s) (k:∀ b o,b≠it->s.heap.get? b=some o->h'.get? b=some o) (hn:H it=none) (hL:it≠X.env.locals)
  (h1:it∈X.ex∨X.s₀.heap.objs.size<=it) (h2:∀ x c,X.env.cells.lookup x=some c->c≠it) (h3:∀ p∈X.pn++pins,p.1≠it):Inv X pins σ H { s with heap:=h',toks:=t' }:=by
 have nit:∀ b u,H b=some u->b≠it:=fun b u e z=>by rw[z,hn] at e; cases e
 refine I.step (g':=s.gens) (d':=s.drawn) (ch:=[it]) (fun b hb=>?_) (fun b o _ _ hc e _=>k b o (fun z=>hc (by simp [z])) e) (fun b o _ _ hc e _=>⟨o.slots,k b o (fun z=>hc (by simp [z])) e⟩) (fun _ _ _ _ n=>n)
  (fun b o hc e=>⟨o,k b o (fun z=>hc (by simp [z])) e⟩) (fun _ _ e=>e) (fun _ _ _ e=>e) (fun b ps e=>⟨#[],by rw[e]; simp⟩) (fun m hm=>?_) (fun b u e=>?_) I.bare
 ·have e:b=it:=by simpa using hb
  subst e
  exact⟨h1,hL,h2,h3⟩
 ·obtain⟨o,es,ep,ho,r⟩:=hm
  exact⟨o,es,ep,k _ o (Ne.symm hL) ho,r⟩
 ·refine (I.hok b u e).stay (fun c v hc q=>k c v ?_ q) (fun _ q=>q) fun _ _ q=>q
  rcases hc with z | z
  ·rw[z]; exact nit b u e
  ·exact nit c _ z
theorem Inv.tok (I:Inv X pins σ H s) (t:Nat):Inv X pins σ H { s with toks:=t }:=I.un (h':=s.heap) (t':=t) Un.refl I.hok
theorem Inv.kept {t':Nat} (I:Inv X pins σ H s) (k:∀ b u,s.heap.get? b=some u->h'.get? b=some u):Inv X pins σ H { s with heap:=h',toks:=t' }:=I.un (Un.kept k) (I.hok.kept k)
theorem Inv.laid {a:Addr} {o:HO} {t':Nat} (I:Inv X pins σ H s) (k:∀ b u,s.heap.get? b=some u->h'.get? b=some u) (hp:s.heap.objs.size<=a) (new:ObjOk X.prog X.w (upd H a o) h' a o) :
  Inv X pins σ (upd H a o) { s with heap:=h',toks:=t' }:=I.un (Un.laid k hp (I.hok.fresh hp)) (I.hok.laid k hp new)
theorem Inv.write {x e:Addr} {o:HO} {t':Nat} (I:Inv X pins σ H s) (mu:Mut (H x)) (he:e=x∨H e=some (.own x)) (k:∀ b u,b≠e->s.heap.get? b=some u->h'.get? b=some u) (heo:∃ u,h'.get? e=some u)
  (new:ObjOk X.prog X.w (upd H x o) h' x o):Inv X pins σ (upd H x o) { s with heap:=h',toks:=t' }:=I.un (Un.write mu he k heo) (I.hok.write mu he k heo new)
theorem Inv.pins_of {pins':List (Addr × Obj)} (I:Inv X pins σ H s) (h:∀ p∈pins',s.heap.get? p.1=some p.2/\H p.1=none/\p.1≠X.env.locals/\p.1 ∉ X.fs/\∀ v,p.2.data≠.cell v):Inv X pins' σ H s :=
 ⟨I.ok,I.os,I.bare,I.base,I.loc,I.cell,I.free,I.freeC,fun p hp=>(List.mem_append.mp hp).elim (fun z=>I.pin p (List.mem_append_left _ z)) (h p),I.hok,I.len⟩
theorem nodup_ix {N:List Str} (hN:N.Nodup) {i j:Nat} {x:Str} (a:N[i]? = some x) (b:N[j]? = some x):i=j:=by
 obtain⟨h1,e1⟩:=List.getElem?_eq_some_iff.mp a
 obtain⟨h2,e2⟩:=List.getElem?_eq_some_iff.mp b
 exact (List.getElem_inj hN).mp (e1.trans e2.symm)
theorem store_ok2 {M:Model} {A:Around} {E:Value->Shared->Prop} {i:Nat} {x:Str} {v:V} {u:Value} {Q:Unit->Shared->Prop} (I:Inv X pins σ H s) (hN:X.N.Nodup) (hi:X.N[i]? = some x) (hx:Loc X.env.scope x) (r:RelV v u)
  (h:∀ s',Inv X pins (σ.set i (some v)) H s'->(∃ a,Heap.SameBut a s.heap s'.heap/\(a=X.env.locals∨X.env.cells.lookup x=some a))->Q () s') (hf:X.fn x=true∨X.env.scope.names.lookup x=some .local:=by first | exact .inl rfl | exact .inr rfl | assumption):wpAny M A (storeName X.env x u) Q E s:=by
 obtain⟨m,hn,hl⟩:=id I.loc
 have hcls:(X.env.scope.kind == .class || (X.env.scope.kind == .module && X.env.locals != X.env.globals))=false:=by rw[I.ok.kind]; rfl
 have hiσ:i < σ.length:=by rw[I.len]; exact (List.getElem?_eq_some_iff.mp hi).1
 have cne:=I.cne
 have tracked:∀ {a:Addr} {h':Heap},(∃ o,s.heap.get? a=some o/\H a=none)->Heap.SameBut a s.heap h'->HOk X.prog X.w H h':=fun {a h'} ha hs b ob e=>by
  obtain⟨_,_,hfree⟩:=ha
  refine (I.hok b ob e).stay (fun c w' hc q=>(hs.2 c ?_).trans q) (fun _ q=>q) fun _ _ q=>q
  rintro rfl
  rcases hc with rfl | hc
  ·rw[hfree] at e; cases e
  ·rw[hfree] at hc; cases hc
 rcases hx with hk | hk
 ·refine wpAny_storeName_local hk hn (fun h' hn' hs=>?_) hcls
  obtain⟨oL,_,_,hoL,_⟩:=id hn
  refine h _ ⟨I.ok,I.os,I.bare,⟨fun b o e n hb hx=>?_,fun b o e n hb hx=>?_,I.base.free,fun b o e hx=>?_,I.base.tups,I.base.frzs,I.base.tbls⟩,⟨_,hn',fun j y v' e1 e2 e3=>?_⟩,fun y c e=>?_,I.free,I.freeC,fun p hp=>?_,tracked ⟨oL,hoL,I.free⟩ hs,by simpa using I.len⟩ ⟨_,hs,.inl rfl⟩
  ·exact (hs.2 b (Nat.ne_of_lt (Nat.lt_of_lt_of_le (Heap.lt_size e) I.ok.above))).trans (I.base.keep b o e n hb hx)
  ·obtain⟨sl,e1⟩:=I.base.slot b o e n hb hx
   exact⟨sl,(hs.2 b (Nat.ne_of_lt (Nat.lt_of_lt_of_le (Heap.lt_size e) I.ok.above))).trans e1⟩
  ·obtain⟨o',e1⟩:=I.base.there b o e hx
   exact⟨o',(hs.2 b (Nat.ne_of_lt (Nat.lt_of_lt_of_le (Heap.lt_size e) I.ok.above))).trans e1⟩
  ·by_cases hj:j=i
   ·subst hj
    rw[hi] at e1; cases e1
    rw[List.getElem?_set_self hiσ] at e2
    cases e2
    exact⟨u,r,.inl ⟨hk,by simp⟩⟩
   ·rw[List.getElem?_set_ne (Ne.symm hj)] at e2
    obtain⟨u',r',q⟩:=hl j y v' e1 e2 e3
    refine⟨u',r',?_⟩
    rcases q with⟨k,e⟩ | ⟨k,c,e,z⟩
    ·refine .inl ⟨k,?_⟩
     have:y≠x:=fun e=>hj (nodup_ix hN e1 (e▸hi))
     simp [this,e]
    ·exact .inr ⟨k,c,e,z.sameBut hs (cne y c e)⟩
  ·obtain⟨w',z⟩:=I.cell y c e
   exact⟨w',z.sameBut hs (cne y c e)⟩
  ·obtain⟨e,n,ne,nf,d⟩:=I.pin p hp
   exact⟨(hs.2 p.1 ne).trans e,n,ne,nf,d⟩
 ·have hfn:X.fn x=true:=by
   rcases hf with z | z
   ·exact z
   ·rw[z] at hk; cases hk
  obtain⟨c,hc⟩:=I.ok.has x (.inl hk)
  obtain⟨w',z⟩:=I.cell x c hc
  refine wpAny_storeName_cell I.ok.kind hk hc z (fun h' hc' hs=>?_)
  obtain⟨oc,hoc,hocd⟩:=id z
  refine h { s with heap:=h' } ⟨I.ok,I.os,I.bare,⟨fun b o e n hb hx=>?_,fun b o e n hb hx=>?_,I.base.free,fun b o e hx=>?_,I.base.tups,I.base.frzs,I.base.tbls⟩,⟨m,hn.sameBut hs (Ne.symm (cne x c hc)),fun j y v' e1 e2 e3=>?_⟩,fun y c' e=>?_,I.free,I.freeC,fun p hp=>?_,tracked ⟨oc,hoc,I.freeC x c hc⟩ hs,by simpa using I.len⟩ ⟨c,hs,.inr hc⟩
  ·exact (hs.2 b (Nat.ne_of_lt (Nat.lt_of_lt_of_le (Heap.lt_size e) (I.ok.cab x c hfn hc)))).trans (I.base.keep b o e n hb hx)
  ·obtain⟨sl,e1⟩:=I.base.slot b o e n hb hx
   exact⟨sl,(hs.2 b (Nat.ne_of_lt (Nat.lt_of_lt_of_le (Heap.lt_size e) (I.ok.cab x c hfn hc)))).trans e1⟩
  ·obtain⟨o',e1⟩:=I.base.there b o e hx
   exact⟨o',(hs.2 b (Nat.ne_of_lt (Nat.lt_of_lt_of_le (Heap.lt_size e) (I.ok.cab x c hfn hc)))).trans e1⟩
  ·by_cases hj:j=i
   ·subst hj
    rw[hi] at e1; cases e1
    rw[List.getElem?_set_self hiσ] at e2
    cases e2
    exact⟨u,r,.inr ⟨.inl hk,c,hc,hc'⟩⟩
   ·rw[List.getElem?_set_ne (Ne.symm hj)] at e2
    obtain⟨u',r',q⟩:=hl j y v' e1 e2 e3
    refine⟨u',r',?_⟩
    rcases q with q | ⟨k,c',e,z'⟩
    ·exact .inl q
    ·refine .inr ⟨k,c',e,z'.sameBut hs ?_⟩
     rintro rfl
     exact hj (nodup_ix hN e1 (I.ok.inj _ _ _ e hc▸hi))
  ·by_cases hcc:c'=c
   ·subst hcc; exact⟨_,hc'⟩
   ·obtain⟨w2,z2⟩:=I.cell y c' e
    exact⟨w2,z2.sameBut hs hcc⟩
  ·obtain⟨e,n,ne,nf,d⟩:=I.pin p hp
   refine⟨(hs.2 p.1 ?_).trans e,n,ne,nf,d⟩
   intro q
   rw[q,hoc] at e
   have q':oc=p.2:=Option.some.inj e
   exact d w' (by rw[← q']; exact hocd)
theorem store_ok {M:Model} {A:Around} {E:Value->Shared->Prop} {i:Nat} {x:Str} {v:V} {u:Value} {Q:Unit->Shared->Prop} (I:Inv X pins σ H s) (hN:X.N.Nodup) (hi:X.N[i]? = some x) (hx:Loc X.env.scope x) (r:RelV v u)
  (h:∀ s',Inv X pins (σ.set i (some v)) H s'->Q () s') (hf:X.fn x=true∨X.env.scope.names.lookup x=some .local:=by first | exact .inl rfl | exact .inr rfl | assumption):wpAny M A (storeName X.env x u) Q E s :=
 store_ok2 I hN hi hx r (fun s' I' _=>h s' I') hf
theorem Inv.call' {s':Shared} {ch:List Addr} (I:Inv X pins σ H s) (ho:s'.os=s.os) (u:Un (frs X.stack) ch H H' s.heap s'.heap) (hok:HOk X.prog X.w H' s'.heap) (hg:AllBare s'.gens)
  (hch:∀ b∈ch,(b∈X.ex∨X.s₀.heap.objs.size<=b)/\b≠X.env.locals/\(∀ x c,X.env.cells.lookup x=some c->c≠b)/\∀ p∈X.pn++pins,p.1≠b):Inv X pins σ H' s':=by
 obtain⟨h',g',d',t',o'⟩:=s'
 have e:o'=s.os:=ho
 subst e
 exact I.call (g':=g') (t':=t') (d':=d') u hok hg hch
end
noncomputable abbrev XK:=Value->Option Addr->Hp->Prop
noncomputable abbrev St:=List (Option V)
noncomputable abbrev VK:=V->Hp->Prop
noncomputable abbrev TE:=St->Hp->VK->Prop
noncomputable abbrev TT:=St->Hp->(Bool->Hp->Prop)->Prop
noncomputable abbrev TA:=St->Hp->(List V->Hp->Prop)->Prop
structure Ends where
 nx:St->Hp->Prop
 rt:VK
 bk:St->Hp->Prop:=fun _ _=>False
 ct:St->Hp->Prop:=fun _ _=>False
noncomputable abbrev TS:=Ends->St->Hp->Prop
inductive EP (X:Cx) (pins:List (Addr × Obj)) (σ:St) (Q:VK) (u:Value) (s':Shared):Prop where
 | mk (v:V) (H':Hp) (z0:Inv X pins σ H' s') (z1:RelV v u) (z2:Q v H'):EP X pins σ Q u s'
noncomputable def TP (X:Cx) (pins:List (Addr × Obj)) (σ:St) (Q:Bool->Hp->Prop) (b:Bool) (s':Shared):Prop:=∃ H',Inv X pins σ H' s'/\Q b H'
inductive AP (X:Cx) (pins:List (Addr × Obj)) (σ:St) (Q:List V->Hp->Prop) (us:List Value) (s':Shared):Prop where
 | mk (vs:List V) (H':Hp) (z0:Inv X pins σ H' s') (z1:Vals vs us) (z2:Q vs H'):AP X pins σ Q us s'
noncomputable def SP (X:Cx) (pins:List (Addr × Obj)) (D:Ends) (f:Flow) (s':Shared):Prop :=
 match f with
 | .next=>∃ σ' H',Inv X pins σ' H' s'/\D.nx σ' H'
 | .brk=>∃ σ' H',Inv X pins σ' H' s'/\D.bk σ' H'
 | .cont=>∃ σ' H',Inv X pins σ' H' s'/\D.ct σ' H'
 | .ret u=>∃ v σ' H',Inv X pins σ' H' s'/\RelV v u/\D.rt v H'
noncomputable def PE (X:Cx) (e:Expr) (t:TE):Prop :=
 ∀ (pins:List (Addr × Obj)) (s:Shared) (σ:St) (H:Hp) (Q:VK),Inv X pins σ H s->t σ H Q->wpAny (model X.prog X.w) X.A (eval e X.env) (EP X pins σ Q) X.xe s
noncomputable def PT (X:Cx) (e:Expr) (t:TT):Prop :=
 ∀ (pins:List (Addr × Obj)) (s:Shared) (σ:St) (H:Hp) (Q:Bool->Hp->Prop),Inv X pins σ H s->t σ H Q->wpAny (model X.prog X.w) X.A (isTrue e X.env (eval e X.env)) (TP X pins σ Q) X.xe s
noncomputable def PW (X:Cx) (e:Expr) (t:TT):Prop :=
 ∀ (whole:Sem Value) (pins:List (Addr × Obj)) (s:Shared) (σ:St) (H:Hp) (Q:Bool->Hp->Prop),Inv X pins σ H s->t σ H Q->wpAny (model X.prog X.w) X.A (isTrue e X.env whole) (TP X pins σ Q) X.xe s
theorem PW.pt {X:Cx} {e:Expr} {t:TT} (h:PW X e t):PT X e t:=h _
noncomputable def PA (X:Cx) (es:List Expr) (t:TA):Prop :=
 ∀ (pos:Pos) (pins:List (Addr × Obj)) (s:Shared) (σ:St) (H:Hp) (Q:List V->Hp->Prop),Inv X pins σ H s->t σ H Q->wpAny (model X.prog X.w) X.A (spliced (backTo pos (starEach es X.env))) (AP X pins σ Q) X.xe s
noncomputable def PS (X:Cx) (st:Stmt) (t:TS):Prop :=
 ∀ (pins:List (Addr × Obj)) (s:Shared) (σ:St) (H:Hp) (D:Ends),Inv X pins σ H s->t D σ H->wpAny (model X.prog X.w) X.A (exec st X.env) (SP X pins D) X.xe s
noncomputable def PSs (X:Cx) (st:List Stmt) (t:TS):Prop :=
 ∀ (pins:List (Addr × Obj)) (s:Shared) (σ:St) (H:Hp) (D:Ends),Inv X pins σ H s->t D σ H->wpAny (model X.prog X.w) X.A (execs st X.env) (SP X pins D) X.xe s
theorem thn {α:Type} {t:Sem α} {Q Q':α->Shared->Prop} {M:Model} {A:Around} {E:Value->Shared->Prop} {s:Shared} (h:wpAny M A t Q E s) (hQ:∀ a s,Q a s->Q' a s):wpAny M A t Q' E s:=wpAny_mono h hQ fun _ _ x=>x
end L2
namespace L2
open PySem PySem.Spec PyProof.Rows
section
variable {X:Cx}
inductive ExB (x:V) (P:Bool->Prop):Prop where
 | mk (c:Bool) (z0:x = .bl c) (z1:P c):ExB x P
inductive TVarI (i:Nat) (σ:St) (H:Hp) (Q:VK):Prop where
 | mk (v:V) (z0:σ[i]? = some (some v)) (z1:Q v H):TVarI i σ H Q
noncomputable def tVar (i:Nat):TE:=fun σ H Q=>TVarI i σ H Q
noncomputable def tC (v:V):TE:=fun _ H Q=>Q v H
theorem pe_var {i:Nat} {x:Str} {pos:Pos} (hN:X.N[i]? = some x) (hv:Vis X.env.scope x) (hd:(x == ("__debug__" : Str))=false:=by decide) (hcd:(x == ("__classdict__" : Str))=false:=by decide):PE X (.Name x pos) (tVar i):=by
 intro pins s σ H Q I h
 obtain⟨v,e,h⟩:=h
 obtain⟨m,hn,hl⟩:=I.loc
 obtain⟨u,r,l⟩:=hl i x v hN e hv
 have fin:EP X pins σ Q u s:=⟨v,H,I,r,h⟩
 rcases l with⟨hk,hm⟩ | ⟨hk,c,hc,hcell⟩
 ·exact wpAny_Name (wpAny_loadName_local I.ok.kind hk hn hm fin) hd
 ·rcases hk with hk | hk
  ·exact wpAny_Name (wpAny_loadName_cell I.ok.kind hk hc hcell fin) hd
  ·exact wpAny_Name (wpAny_loadName_free I.ok.kind hk hc hcell fin hcd) hd
theorem pe_int {i j pos}:PE X (.Constant (.int i) j pos) (tC (.int i)):=fun _ _ _ H _ I h=>wpAny_Constant_int ⟨.int i,H,I.tok _,⟨_,rfl⟩,h⟩
theorem pe_bl {b j pos}:PE X (.Constant (.bool b) j pos) (tC (.bl b)):=fun _ _ _ H _ I h=>Constant_bool ⟨.bl b,H,I,rfl,h⟩
noncomputable def Gl (X:Cx) (x:Str):Prop:=X.env.kindOf x=some .globalImplicit
theorem ld_glob {E:Value->Shared->Prop} {pins:List (Addr × Obj)} {s:Shared} {σ:St} {H:Hp} {x:Str} {u:Value} {pos:Pos} {Q:Value->Shared->Prop} (I:Inv X pins σ H s) (hg:Gl X x) (hm:X.mg x=some u) (h:Q u s)
  (hd:(x == ("__debug__" : Str))=false:=by decide):wpAny (model X.prog X.w) X.A (eval (.Name x pos) X.env) Q E s :=
 Calls.Name_function_global I.ok.kind hg (Calls.loadGlobal_global (by rw[I.ok.glob]; exact I.mod.glob.keeps I.bk) hm h) hd
theorem ld_blt {E:Value->Shared->Prop} {pins:List (Addr × Obj)} {s:Shared} {σ:St} {H:Hp} {x:Str} {u:Value} {pos:Pos} {Q:Value->Shared->Prop} (I:Inv X pins σ H s) (hg:Gl X x) (hm:X.mg x=none) (hv:bootBuiltins x=some u) (h:Q u s)
  (hn:x≠"__name__":=by decide) (hd:(x == ("__debug__" : Str))=false:=by decide):wpAny (model X.prog X.w) X.A (eval (.Name x pos) X.env) Q E s:=by
 obtain⟨mb,h1,h2⟩:=I.mod.blt
 exact Calls.Name_function_global I.ok.kind hg (Calls.loadGlobal_builtin (by rw[I.ok.glob]; exact I.mod.glob.keeps I.bk) hm (by rw[I.ok.blt]; exact h1.keeps I.bk) ((h2 x hn).trans hv) h) hd
theorem pe_bltn {x:Str} {v:V} {u:Value} {pos:Pos} (hg:Gl X x) (hm:X.mg x=none) (hv:bootBuiltins x=some u) (r:RelV v u) (hn:x≠"__name__":=by decide) (hd:(x == ("__debug__" : Str))=false:=by decide):PE X (.Name x pos) (tC v) :=
 fun _ _ _ H _ I h=>ld_blt I hg hm hv ⟨v,H,I,r,h⟩ hn hd
variable {a b:Expr} {ta tb:TE} {pos:Pos}
noncomputable def PC (X:Cx) (op:CmpOp) (a b:Expr) (t:TE):Prop :=
 ∀ (pins:List (Addr × Obj)) (s:Shared) (σ:St) (H:Hp) (Q:VK),Inv X pins σ H s->t σ H Q →
  wpAny (model X.prog X.w) X.A (eval a X.env) (fun v s₁=>wpAny (model X.prog X.w) X.A (eval b X.env) (fun u s₂=>wpAny (model X.prog X.w) X.A (compareOp op v u) (EP X pins σ Q) X.xe s₂) X.xe s₁) X.xe s
theorem nobehind (b:Expr) {op:CmpOp} (h:op≠.In) (h2:op≠.NotIn):behindInMarks op b=false:=by
 have e1:(op == CmpOp.In)=false:=by cases op <;> first | rfl | exact absurd rfl h
 have e2:(op == CmpOp.NotIn)=false:=by cases op <;> first | rfl | exact absurd rfl h2
 cases b <;> simp [behindInMarks,e1,e2]
noncomputable def tIsN (ta:TE):TE:=fun σ H Q=>ta σ H fun x H1=>Q (.bl (decide (x = .non))) H1
theorem RelV.none_iff {x:V} {v:Value} (r:RelV x v):(v == Value.none)=decide (x = .non):=by
 cases x with
 | non=>cases r; rfl
 | bl _=>cases r; rfl
 | int _=>obtain⟨t,rfl⟩:=r; rfl
 | str _=>obtain⟨t,rfl⟩:=r; rfl
 | byt _=>obtain⟨t,rfl⟩:=r; rfl
 | flt _=>obtain⟨t,rfl⟩:=r; rfl
 | ref _=>cases r; rfl
 | ty _=>cases r; rfl
theorem pc_isN {j pos'} (ha:PE X a ta):PC X .Is a (.Constant .none j pos') (tIsN ta):=by
 intro pins s σ H Q I h
 refine thn (ha pins s σ H _ I h) fun v s1 ⟨x,H1,I1,r1,q1⟩=>?_
 exact Constant_none (is_none_gen ⟨.bl _,H1,I1,by rw[r1.none_iff]; rfl,q1⟩)
noncomputable def tB (t:TE):TT:=fun σ H Q=>t σ H fun x H1=>ExB x fun c=>Q c H1
theorem pe_cmp {op:CmpOp} {t:TE} (h:PC X op a b t) (h1:behindInMarks op b=false:=by first | exact nobehind _ (by decide) (by decide) | rfl):PE X (.Compare a [op] [b] pos) t:=fun pins s σ H Q I hw=>wpAny_Compare1 (h pins s σ H Q I hw) h1
theorem pt_cmp {op:CmpOp} {t:TE} (h:PC X op a b t) (h1:behindInMarks op b=false:=by first | exact nobehind _ (by decide) (by decide) | rfl):PT X (.Compare a [op] [b] pos) (tB t):=by
 intro pins s σ H Q I hw
 refine wpAny_isTrue_Compare1 (thn (h pins s σ H _ I hw) fun v s1 h1=>thn h1 fun u s2 h2=>thn h2 fun c s3 ⟨x,H1,I1,r1,q1⟩=>?_) h1
 obtain⟨d,rfl,q⟩:=q1
 cases r1
 exact wpAny_truthy_bool ⟨H1,I1,q⟩
theorem pt_val {e:Expr} {t:TE} (h:PE X e t) (he:∀ whole,isTrue e X.env whole=(do let v ← whole; standAt e.pos; holding [v] (truthy v)):=by intro _; rfl):PT X e (tB t):=by
 intro pins s σ H Q I hw
 refine isTrue_plain (thn (h pins s σ H _ I hw) fun v s1 ⟨x,H1,I1,r1,q1⟩=>?_) (he _)
 obtain⟨d,rfl,q⟩:=q1
 cases r1
 exact wpAny_truthy_bool ⟨H1,I1,q⟩
variable {tA tB':TT} {rest:List Expr}
noncomputable def tAnd (t u:TT):TT:=fun σ H Q=>t σ H fun c H1=>if c=true then u σ H1 Q else Q false H1
noncomputable def tOr (t u:TT):TT:=fun σ H Q=>t σ H fun c H1=>if c=true then Q true H1 else u σ H1 Q
noncomputable def tNot (t:TT):TT:=fun σ H Q=>t σ H fun c H1=>Q (!c) H1
theorem pw_and1 (ha:PT X a tA):PW X (.BoolOp .And [a] pos) tA:=by
 intro wh pins s σ H Q I h
 refine isTrue_and (thn (ha pins s σ H Q I h) fun c s1 e=>?_)
 cases c with
 | true=>exact isTrue_and_nil e
 | false=>exact e
theorem pw_or1 (ha:PT X a tA):PW X (.BoolOp .Or [a] pos) tA:=by
 intro wh pins s σ H Q I h
 refine isTrue_or (thn (ha pins s σ H Q I h) fun c s1 e=>?_)
 cases c with
 | false=>exact isTrue_or_nil e
 | true=>exact e
theorem pw_and (ha:PT X a tA) (hb:PW X (.BoolOp .And (b::rest) pos) tB'):PW X (.BoolOp .And (a::b::rest) pos) (tAnd tA tB'):=by
 intro wh pins s σ H Q I h
 refine isTrue_and (thn (ha pins s σ H _ I h) fun c s1 ⟨H1,I1,q1⟩=>?_)
 cases c with
 | true=>exact hb wh pins s1 σ H1 Q I1 q1
 | false=>exact⟨H1,I1,q1⟩
theorem pw_or (ha:PT X a tA) (hb:PW X (.BoolOp .Or (b::rest) pos) tB'):PW X (.BoolOp .Or (a::b::rest) pos) (tOr tA tB'):=by
 intro wh pins s σ H Q I h
 refine isTrue_or (thn (ha pins s σ H _ I h) fun c s1 ⟨H1,I1,q1⟩=>?_)
 cases c with
 | true=>exact⟨H1,I1,q1⟩
 | false=>exact hb wh pins s1 σ H1 Q I1 q1
theorem pt_not (ha:PT X a tA):PT X (.UnaryOp .Not a pos) (tNot tA):=by
 intro pins s σ H Q I h
 exact isTrue_not (ha pins s σ H (fun c H1=>Q (!c) H1) I h)
noncomputable def tAndV (ta tb:TE):TE:=fun σ H Q=>ta σ H fun x H1=>ExB x fun c=>if c=true then tb σ H1 Q else Q (.bl false) H1
theorem pe_one {op} {t:TE} (h:PE X a t):PE X (.BoolOp op [a] pos) t:=fun pins s σ H Q I hw=>BoolOp_one (h pins s σ H Q I hw)
theorem pe_and (ha:PE X a ta) (hb:PE X (.BoolOp .And (b::rest) pos) tb):PE X (.BoolOp .And (a::b::rest) pos) (tAndV ta tb):=by
 intro pins s σ H Q I h
 refine BoolOp_and (thn (ha pins s σ H _ I h) fun v s1 ⟨x,H1,I1,r1,q1⟩=>?_)
 obtain⟨c,rfl,q1⟩:=q1
 cases r1
 refine wpAny_truthy_bool ?_
 cases c with
 | true=>exact hb pins s1 σ H1 Q I1 q1
 | false=>exact⟨.bl false,H1,I1,rfl,q1⟩
end
end L2
namespace L2
open PySem PySem.Spec PyProof.Rows
noncomputable def SqL (K:PySem.W.Frag) (H:Hp) (a:Addr) (xs:List V):Prop :=
 Rd H a (.lst xs) ∨
  ∃ (o:Obj) (its:Array Value) (n:Nat),K.lookup a=some o/\o.cls = .type "list"/\o.dict=none/\o.data = .seq its n/\its.size<=sizeLine/\Vals xs its.toList
noncomputable def SqT (K:PySem.W.Frag) (H:Hp) (a:Addr) (xs:List V):Prop :=
 Rd H a (.tup xs) ∨
  ∃ (o:Obj) (its:Array Value) (n:Nat),K.lookup a=some o/\o.cls = .type "tuple"/\o.data = .seq its n/\its.size<=sizeLine/\Vals xs its.toList
noncomputable def absV:Value->Option V
 | .none=>some .non
 | .bool b=>some (.bl b)
 | .int i _=>some (.int i)
 | .str x _=>some (.str x)
 | .bytes b _=>some (.byt b)
 | .float b _=>some (.flt b)
 | .ref a=>some (.ref a)
 | .type n=>some (.ty n)
 | _=>none
theorem RelV.abs {x:V} {u:Value} (r:RelV x u):absV u=some x:=by
 cases x with
 | non=>cases r; rfl
 | bl _=>cases r; rfl
 | int _=>obtain⟨t,rfl⟩:=r; rfl
 | str _=>obtain⟨t,rfl⟩:=r; rfl
 | byt _=>obtain⟨t,rfl⟩:=r; rfl
 | flt _=>obtain⟨t,rfl⟩:=r; rfl
 | ref _=>cases r; rfl
 | ty _=>cases r; rfl
theorem RelV.inj {x y:V} {u:Value} (r:RelV x u) (q:RelV y u):x=y:=Option.some.inj (r.abs.symm.trans q.abs)
theorem Vals.inj:∀ {xs ys:List V} {us:List Value},Vals xs us->Vals ys us->xs=ys
 | _,_,_,.nil,.nil=>rfl
 | _,_,_,.cons r t,.cons r' t'=>by rw[r.inj r',Vals.inj t t']
section
variable {X:Cx} {pins:List (Addr × Obj)} {σ:St} {H:Hp} {s:Shared} {a:Addr} {xs ys:List V}
theorem SqL.of {K:PySem.W.Frag} (h:H a=some (.lst xs)):SqL K H a xs:=.inl (.inl h)
theorem SqT.of {K:PySem.W.Frag} (h:H a=some (.tup xs)):SqT K H a xs:=.inl (.inl h)
theorem Inv.list (I:Inv X pins σ H s) (h:SqL X.K H a xs):∃ its:List Value,Vals xs its/\PlainL s.heap a its.toArray/\xs.length<=sizeLine:=by
 rcases h with h | ⟨o,its,n,hk,hc,hd,hs,hz,r⟩
 ·obtain⟨z,its,n,r,e⟩:=h.ok I.hok
  exact⟨its,r,⟨_,n,e,rfl,rfl,rfl⟩,z⟩
 ·refine⟨its.toList,r,⟨o,n,I.kIn a o hk,hc,hd,by simpa using hs⟩,?_⟩
  have e:=r.length
  simp only[Array.length_toList] at e
  lia
theorem Inv.tuple (I:Inv X pins σ H s) (h:SqT X.K H a xs):∃ its:List Value,Vals xs its/\IsTup s.heap a its.toArray/\xs.length<=sizeLine:=by
 rcases h with h | ⟨o,its,n,hk,hc,hs,hz,r⟩
 ·obtain⟨z,its,r,p⟩:=h.ok I.hok
  exact⟨its,r,p,z⟩
 ·refine⟨its.toList,r,⟨o,I.kIn a o hk,hc,n,by simpa using hs⟩,?_⟩
  have e:=r.length
  simp only[Array.length_toList] at e
  lia
theorem Inv.list_inj (I:Inv X pins σ H s) (h:SqL X.K H a xs) (h':SqL X.K H a ys):xs=ys:=by
 obtain⟨its,r,⟨o,n,e,_,_,d⟩,_⟩:=I.list h
 obtain⟨its',r',⟨o',n',e',_,_,d'⟩,_⟩:=I.list h'
 rw[e] at e'; cases e'
 rw[d] at d'
 injection d' with d1 _
 have:its=its':=by simpa using congrArg Array.toList d1
 subst this
 exact r.inj r'
theorem Inv.tuple_inj (I:Inv X pins σ H s) (h:SqT X.K H a xs) (h':SqT X.K H a ys):xs=ys:=by
 obtain⟨its,r,⟨o,e,_,n,d⟩,_⟩:=I.tuple h
 obtain⟨its',r',⟨o',e',_,n',d'⟩,_⟩:=I.tuple h'
 rw[e] at e'; cases e'
 rw[d] at d'
 injection d' with d1 _
 have:its=its':=by simpa using congrArg Array.toList d1
 subst this
 exact r.inj r'
end
noncomputable abbrev Cx.wish (X:Cx) (E:Value->Shared->Prop):Cx:={ X with xe:=E }
noncomputable abbrev Cx.nox (X:Cx):Cx:=X.wish fun _ _=>False
theorem Cx.Ok.wish {X:Cx} (ok:X.Ok) (E:Value->Shared->Prop):(X.wish E).Ok :=
 ⟨ok.mod,ok.kind,ok.glob,ok.blt,ok.above,ok.inj,ok.has,ok.cab,ok.hd,ok.frames,ok.stk,ok.exf,ok.bs,ok.bsz,ok.noex,ok.exfs,ok.funs,ok.frf⟩
theorem Cx.Ok.unwish {X:Cx} {E:Value->Shared->Prop} (ok:(X.wish E).Ok):X.Ok :=
 ⟨ok.mod,ok.kind,ok.glob,ok.blt,ok.above,ok.inj,ok.has,ok.cab,ok.hd,ok.frames,ok.stk,ok.exf,ok.bs,ok.bsz,ok.noex,ok.exfs,ok.funs,ok.frf⟩
section
variable {X:Cx} {pins:List (Addr × Obj)} {σ:St} {H:Hp} {s:Shared} {E:Value->Shared->Prop}
theorem Inv.wish (I:Inv X pins σ H s) (E:Value->Shared->Prop):Inv (X.wish E) pins σ H s:=⟨I.ok.wish E,I.os,I.bare,I.base,I.loc,I.cell,I.free,I.freeC,I.pin,I.hok,I.len⟩
theorem Inv.unwish (I:Inv (X.wish E) pins σ H s):Inv X pins σ H s:=⟨I.ok.unwish,I.os,I.bare,I.base,I.loc,I.cell,I.free,I.freeC,I.pin,I.hok,I.len⟩
theorem SP.unwish {D:Ends} {f:Flow} {s':Shared} (h:SP (X.wish E) pins D f s'):SP X pins D f s':=by
 cases f with
 | next=>obtain⟨σ',H',I,q⟩:=h; exact⟨σ',H',I.unwish,q⟩
 | brk=>obtain⟨σ',H',I,q⟩:=h; exact⟨σ',H',I.unwish,q⟩
 | cont=>obtain⟨σ',H',I,q⟩:=h; exact⟨σ',H',I.unwish,q⟩
 | ret u=>obtain⟨v,σ',H',I,r,q⟩:=h; exact⟨v,σ',H',I.unwish,r,q⟩
theorem PE.nox {e:Expr} {t:TE} (h:PE X.nox e t):PE X e t:=fun pins s σ H Q I hw =>
 wpAny_mono (h pins s σ H Q (I.wish _) hw) (fun _ _ ⟨v,H',I',r,q⟩=>⟨v,H',I'.unwish,r,q⟩) fun _ _ z=>False.elim z
theorem PT.nox {e:Expr} {t:TT} (h:PT X.nox e t):PT X e t:=fun pins s σ H Q I hw =>
 wpAny_mono (h pins s σ H Q (I.wish _) hw) (fun _ _ ⟨H',I',q⟩=>⟨H',I'.unwish,q⟩) fun _ _ z=>False.elim z
theorem PSs.nox {st:List Stmt} {t:TS} (h:PSs X.nox st t):PSs X st t:=fun pins s σ H D I hw =>
 wpAny_mono (h pins s σ H D (I.wish _) hw) (fun _ _ q=>q.unwish) fun _ _ z=>False.elim z
end
section
variable {X:Cx} {st:Stmt} {rest:List Stmt} {t u:TS} {e:Expr} {te:TE} {pos:Pos}
noncomputable def tNext:TS:=fun D σ H=>D.nx σ H
noncomputable def tSeq (t u:TS):TS:=fun D σ H=>t { D with nx:=u D } σ H
theorem pss_nil:PSs X [] tNext:=fun _ _ σ H _ I h=>wpAny_execs_nil ⟨σ,H,I,h⟩
theorem pss_cons (h1:PS X st t) (h2:PSs X rest u):PSs X (st::rest) (tSeq t u):=by
 intro pins s σ H D I h
 refine wpAny_execs_cons (thn (h1 pins s σ H { D with nx:=u D } I h) fun f s1 q=>?_)
 cases f with
 | next =>
  obtain⟨σ',H',I',q⟩:=q
  exact h2 pins s1 σ' H' D I' q
 | ret v=>exact q
 | brk=>exact q
 | cont=>exact q
theorem pss_one (h1:PS X st t):PSs X [st] t:=by
 intro pins s σ H D I h
 refine wpAny_execs_cons (thn (h1 pins s σ H D I h) fun f s1 q=>?_)
 cases f with
 | next=>exact wpAny_execs_nil q
 | ret v=>exact q
 | brk=>exact q
 | cont=>exact q
theorem Inv.quiet {pins:List (Addr × Obj)} {σ:St} {H:Hp} {s:Shared} (I:Inv X pins σ H s):interactive X.env=false:=by simp [interactive,I.ok.kind]
noncomputable def tDrop (te:TE):TS:=fun D σ H=>te σ H fun _ H1=>D.nx σ H1
theorem ps_expr (he:PE X e te) (hs:swapsWith e none pos.line X.env=pure false:=by rfl):PS X (.Expr e pos) (tDrop te):=by
 intro pins s σ H D I h
 exact wpAny_Expr_any (thn (he pins s σ H _ I h) fun v s1 ⟨x,H1,I1,r1,q1⟩=>⟨σ,H1,I1,q1⟩) I.quiet hs
noncomputable def tRet (te:TE):TS:=fun D σ H=>te σ H D.rt
theorem ps_ret (he:PE X e te):PS X (.Return (some e) pos) (tRet te):=by
 intro pins s σ H D I h
 exact wpAny_Return_some (thn (he pins s σ H _ I h) fun v s1 ⟨x,H1,I1,r1,q1⟩=>⟨x,σ,H1,I1,r1,q1⟩)
noncomputable def tIfS (c:TT) (t u:TS):TS:=fun D σ H=>c σ H fun b H1=>if b=true then t D σ H1 else u D σ H1
theorem ps_if {c:Expr} {a b:List Stmt} {tc:TT} (hc:PT X c tc) (ha:PSs X a t) (hb:PSs X b u):PS X (.If c a b pos) (tIfS tc t u):=by
 intro pins s σ H D I h
 refine wpAny_If (thn (hc pins s σ H _ I h) fun d s1 ⟨H1,I1,q1⟩=>?_)
 cases d with
 | true=>exact ha pins s1 σ H1 D I1 q1
 | false=>exact hb pins s1 σ H1 D I1 q1
end
noncomputable abbrev TG:=V->St->Hp->(St->Hp->Prop)->Prop
noncomputable abbrev TGs:=List V->St->Hp->(St->Hp->Prop)->Prop
noncomputable def PG (X:Cx) (target:Expr) (t:TG):Prop :=
 ∀ (pins:List (Addr × Obj)) (s:Shared) (σ:St) (H:Hp) (v:V) (u:Value) (Q:St->Hp->Prop),Inv X pins σ H s->RelV v u->t v σ H Q →
  wpAny (model X.prog X.w) X.A (assign target X.env u) (fun _ s'=>∃ σ' H',Inv X pins σ' H' s'/\Q σ' H') X.xe s
noncomputable def PGs (X:Cx) (ts:List Expr) (t:TGs):Prop :=
 ∀ (pins:List (Addr × Obj)) (s:Shared) (σ:St) (H:Hp) (vs:List V) (us:List Value) (Q:St->Hp->Prop),Inv X pins σ H s->Vals vs us->t vs σ H Q →
  wpAny (model X.prog X.w) X.A (assignInOrder ((assignEach ts X.env).map (·.2)) us) (fun _ s'=>∃ σ' H',Inv X pins σ' H' s'/\Q σ' H') X.xe s
section
variable {X:Cx} {pos:Pos}
noncomputable def gName (i:Nat):TG:=fun v σ H Q=>Q (σ.set i (some v)) H
theorem pg_name {i:Nat} {x:Str} (hN:X.N.Nodup) (hi:X.N[i]? = some x) (hx:Loc X.env.scope x) (hf:X.fn x=true∨X.env.scope.names.lookup x=some .local:=by first | exact .inl rfl | exact .inr rfl | assumption):PG X (.Name x pos) (gName i):=by
 intro pins s σ H v u Q I r h
 exact wpAny_assign_Name (store_ok I hN hi hx r (fun s' I'=>⟨_,H,I',h⟩) hf)
noncomputable def gNil:TGs:=fun vs σ H Q=>vs=[]/\Q σ H
inductive GConsI (t:TG) (u:TGs) (vs:List V) (σ:St) (H:Hp) (Q:St->Hp->Prop):Prop where
 | mk (v:V) (r:List V) (z0:vs=v::r) (z1:t v σ H fun σ' H'=>u r σ' H' Q):GConsI t u vs σ H Q
noncomputable def gCons (t:TG) (u:TGs):TGs:=fun vs σ H Q=>GConsI t u vs σ H Q
theorem pgs_nil:PGs X [] gNil:=by
 intro pins s σ H vs us Q I r h
 obtain⟨e,h⟩:=h
 subst e
 cases r
 exact assignInOrder_nil ⟨σ,H,I,h⟩
theorem pgs_cons {e:Expr} {es:List Expr} {t:TG} {u:TGs} (h1:PG X e t) (h2:PGs X es u)
  (hs:(assignEach (e::es) X.env).map (·.2)=assign e X.env::(assignEach es X.env).map (·.2):=by rfl):PGs X (e::es) (gCons t u):=by
 intro pins s σ H vs us Q I r h
 obtain⟨v,vr,e1,h⟩:=h
 subst e1
 cases r with
 | cons r rr =>
  rw[hs]
  refine assignInOrder_cons (thn (h1 pins s σ H _ _ _ I r h) fun _ s1 ⟨σ1,H1,I1,q1⟩=>?_)
  exact h2 pins s1 σ1 H1 _ _ Q I1 rr q1
inductive GTupI (K:PySem.W.Frag) (n:Nat) (t:TGs) (v:V) (σ:St) (H:Hp) (Q:St->Hp->Prop):Prop where
 | mk (a:Addr) (xs:List V) (z0:v = .ref a) (z1:SqT K H a xs) (z2:xs.length=n) (z3:t xs σ H Q):GTupI K n t v σ H Q
noncomputable def gTup (K:PySem.W.Frag) (n:Nat) (t:TGs):TG:=fun v σ H Q=>GTupI K n t v σ H Q
theorem pg_tup {es:List Expr} {k:Nat} {t:TGs} {n:Nat} (hc:X.calm=true) (h:PGs X es t)
  (hn:(assignEach es X.env).length=n:=by rfl) (hst:(assignEach es X.env).findIdx? (·.1)=none:=by rfl):PG X (.Tuple es k pos) (gTup X.K n t):=by
 intro pins s σ H v u Q I r hw
 obtain⟨a,xs,e1,hq,hl,hw⟩:=hw
 subst e1
 cases r
 obtain⟨its,rv,ht,hz⟩:=I.tuple hq
 refine assign_Tuple_tuple (I.ok.hd hc) ht (by simp [hn,← hl,rv.length]) hst fun h' hx=>?_
 have I1:Inv X pins σ H { s with heap:=h' }:=I.kept (t':=s.toks) fun b o e=>hx b o (Nat.ne_of_lt (Heap.lt_size e)) e
 exact h pins _ σ H xs _ Q I1 (by simpa using rv) hw
noncomputable def tAsg (te:TE) (g:TG):TS:=fun D σ H=>te σ H fun x H1=>g x σ H1 D.nx
theorem ps_set {i:Nat} {x:Str} {e:Expr} {te:TE} {pos':Pos} (hN:X.N.Nodup) (hi:X.N[i]? = some x) (hx:Loc X.env.scope x) (he:PE X e te) (hs:swapsWith e (some (.Name x pos')) pos.line X.env=pure false:=by rfl) (hf:X.fn x=true∨X.env.scope.names.lookup x=some .local:=by first | exact .inl rfl | exact .inr rfl | assumption) :
  PS X (.Assign [.Name x pos'] e pos) (tAsg te (gName i)):=by
 intro pins s σ H D I h
 refine wpAny_Assign_Name (thn (he pins s σ H _ I h) fun v s1 ⟨y,H1,I1,r1,q1⟩=>?_) hs
 exact store_ok I1 hN hi hx r1 (fun s2 I2=>⟨_,H1,I2,q1⟩) hf
end
section
variable {X:Cx} {pos:Pos}
end
structure It where
 go:Nat->Hp->Prop
 yld:Nat->Hp->V->Hp->Prop
 stop:Nat->Hp->Prop
noncomputable def FpOk (X:Cx) (pins:List (Addr × Obj)) (H:Hp) (b:Addr):Prop :=
 H b=none/\b≠X.env.locals/\b ∉ X.fs/\(b∈X.ex∨X.s₀.heap.objs.size<=b)/\(∀ x c,X.env.cells.lookup x=some c->c≠b)/\∀ p∈X.pn++pins,p.1≠b
theorem Inv.fpOk {X:Cx} {pins:List (Addr × Obj)} {σ:St} {H H':Hp} {s:Shared} {b:Addr} (I:Inv X pins σ H s) (hb:s.heap.objs.size<=b) (hn:H' b=none):FpOk X pins H' b:=by
 refine⟨hn,Nat.ne_of_gt (Nat.lt_of_lt_of_le I.lt hb),I.nofs hb,.inr (Nat.le_trans I.sz hb),fun x c e z=>?_,fun p hp z=>?_⟩
 ·obtain⟨v,q⟩:=I.cell x c e
  exact absurd (Nat.lt_of_lt_of_le q.lt (by rw[z]; exact hb)) (Nat.lt_irrefl _)
 ·exact absurd (Nat.lt_of_lt_of_le (Heap.lt_size (I.pin p hp).1) (by rw[z]; exact hb)) (Nat.lt_irrefl _)
structure Turn (P:Program) (w:World) (K:PySem.W.Frag) (tg:Expr) (J:It) (fp:List Addr) (it:Addr) (tn:Nat->Heap->Prop):Prop where
 mem:it∈fp
 obj:∀ i h,tn i h->∀ b∈fp,∃ o,h.get? b=some o/\∀ v,o.data≠.cell v
 keep:∀ i h h',tn i h->(∀ b∈fp,∀ o,h.get? b=some o->h'.get? b=some o)->tn i h'
 item:∀ (X:Cx),X.prog=P->X.w=w->X.K=K->X.calm=true->∀ (i:Nat) (pins:List (Addr × Obj)) (s:Shared) (σ:St) (H:Hp) (E:Value->Shared->Prop),Inv X pins σ H s->(∀ b∈fp,FpOk X pins H b)->tn i s.heap->J.go i H →
  wpAny (model P w) X.A (pyNext (.ref it)) (fun r s1=>∃ u,r=some u ∧
   wpAny (model P w) X.A (letOwnedTupleGo tg (.ref it) u) (fun _ s2=>∃ x H',Inv X pins σ H' s2/\RelV x u/\J.yld i H x H'/\tn (i+1) s2.heap/\∀ b∈fp,H' b=none) E s1) E s
 done:∀ (X:Cx),X.prog=P->X.w=w->X.K=K->X.calm=true->∀ (i:Nat) (pins:List (Addr × Obj)) (s:Shared) (σ:St) (H:Hp) (E:Value->Shared->Prop),Inv X pins σ H s->(∀ b∈fp,FpOk X pins H b)->tn i s.heap->J.stop i H →
  wpAny (model P w) X.A (pyNext (.ref it)) (fun r s1=>r=none/\Inv X pins σ H s1) E s
 self:∀ (A:Around) (i:Nat) (s:Shared) (Q:Value->Shared->Prop) (E:Value->Shared->Prop),tn i s.heap->Q (.ref it) s->wpAny (model P w) A (pyIter (.ref it)) Q E s
noncomputable abbrev TI:=St->Hp->(It->Hp->Prop)->Prop
noncomputable def PIE (X:Cx) (pins:List (Addr × Obj)) (σ:St) (tg:Expr) (R:It->Hp->Prop) (itv:Value) (s2:Shared):Prop :=
 ∃ (it:Addr) (fp:List Addr) (tn:Nat->Heap->Prop) (J:It) (H':Hp),itv = .ref it/\Inv X pins σ H' s2/\Turn X.prog X.w X.K tg J fp it tn/\tn 0 s2.heap/\(∀ b∈fp,FpOk X pins H' b)/\R J H'
noncomputable def PI (X:Cx) (tg iter:Expr) (wi:TI):Prop :=
 ∀ (pins:List (Addr × Obj)) (s:Shared) (σ:St) (H:Hp) (R:It->Hp->Prop),Inv X pins σ H s->wi σ H R →
  wpAny (model X.prog X.w) X.A (eval iter X.env) (fun v s1=>wpAny (model X.prog X.w) X.A (pyIter v) (PIE X pins σ tg R) X.xe s1) X.xe s
theorem go_of {M : Model} {A : Around} {E : Value → Shared → Prop} {s : Shared} {tg : Expr} {it : Addr} {u : Value} {o : Obj} {n : String} {vs : Array Value} {Q : Unit → Shared → Prop} (ho : s.heap.get? it = some o) (hc : o.cls = .type n) (hd : o.data = .fields vs)
    (hn : ["enumerate", "zip", "dict_itemiterator", "dict_reverseitemiterator", "odict_iterator", "itertools.zip_longest", "itertools.pairwise"].contains n = false) (hQ : Q () s) : wpAny M A (letOwnedTupleGo tg (.ref it) u) Q E s := by
  unfold letOwnedTupleGo
  cases tg <;> first
    | exact wpAny_pure hQ
    | (cases u <;> first
        | exact wpAny_pure hQ
        | (refine wpAny_bind (wpAny_load ho ?_)
           rw [hc, hd]
           show wpAny M A (if (["enumerate", "zip", "dict_itemiterator", "dict_reverseitemiterator", "odict_iterator", "itertools.zip_longest", "itertools.pairwise"].contains n && vs[0]? == some (rawInt _)) = true then _ else _) Q E s
           rw [if_neg (by intro h; rw [hn, Bool.false_and] at h; cases h)]
           exact wpAny_pure hQ))
noncomputable def Itl (K:PySem.W.Frag) (a:Addr):It :=
 ⟨fun i H=>∃ xs x,SqL K H a xs/\xs[i]? = some x,fun i H x H'=>H'=H/\∀ xs,SqL K H a xs->xs[i]? = some x,fun i H=>∃ xs,SqL K H a xs/\xs.length<=i⟩
noncomputable def Itr (lo:Int) (n:Nat):It:=⟨fun i _=>i < n,fun i H x H'=>H'=H/\x = .int (lo+i),fun i _=>n<=i⟩
theorem turn_list {P:Program} {w:World} {K:PySem.W.Frag} {tg:Expr} (a it:Addr):Turn P w K tg (Itl K a) [it] it (fun i h=>h.IsListIter it a i) where
 mem:=by simp
 obj:=fun i h st b hb=>by
  have e:b=it:=by simpa using hb
  subst e
  obtain⟨o,e,c,d⟩:=st
  exact⟨o,e,fun v z=>by rw[d] at z; cases z⟩
 keep:=fun i h h' st k=>st.at fun o e=>k it (by simp) o e
 item:=by
  intro X hP hw hK hc i pins s σ H E I hf st hg
  subst hP hw hK
  obtain⟨xs,x,hq,hx⟩:=hg
  obtain⟨its,rv,p,hz⟩:=I.list hq
  obtain⟨u,hu,ru⟩:=rv.get hx
  obtain⟨f0,f1,f2,f3,f4,f5⟩:=hf it (by simp)
  refine wpAny_pyNext_list_item st p.isList (x:=u) (by simpa using hu) fun h' st' sb=>?_
  have I1:Inv X pins σ H { s with heap:=h' }:=I.turned (t':=s.toks) (fun b o hb e=>(sb.2 b hb).trans e) f0 f1 f3 f4 f5
  obtain⟨o,e,c,d⟩:=id st'
  exact⟨u,rfl,go_of (s:={ s with heap:=h' }) e c d (by decide) ⟨x,H,I1,ru,⟨rfl,fun ys hy=>by rw[I.list_inj hy hq]; exact hx⟩,st',fun b hb=>(hf b hb).1⟩⟩
 done:=by
  intro X hP hw hK hc i pins s σ H E I hf st hg
  subst hP hw hK
  obtain⟨xs,hq,hx⟩:=hg
  obtain⟨its,rv,p,hz⟩:=I.list hq
  obtain⟨f0,f1,f2,f3,f4,f5⟩:=hf it (by simp)
  have hl:=rv.length
  exact wpAny_pyNext_list_end (I.ok.hd hc) st p.isList (by simp; lia) fun h' eb=>⟨rfl,I.turned (t':=s.toks) (fun b o hb e=>eb b o hb e) f0 f1 f3 f4 f5⟩
 self:=fun _ _ _ _ _ st h=>wpAny_pyIter_listiter st h
theorem turn_range {P:Program} {w:World} {K:PySem.W.Frag} {tg:Expr} (it:Addr) (lo:Int) (n:Nat):Turn P w K tg (Itr lo n) [it] it (fun i h=>IsRangeIter h it (lo+(i:Nat) * 1) ((n:Int) - (i:Nat)) 1) where
 mem:=by simp
 obj:=fun i h st b hb=>by
  have e:b=it:=by simpa using hb
  subst e
  exact⟨_,st,fun v z=>by
   have z':Data.fields _=Data.cell v:=z
   cases z'⟩
 keep:=fun i h h' st k=>k it (by simp) _ st
 item:=by
  intro X hP hw hK hc i pins s σ H E I hf st hg
  subst hP hw hK
  obtain⟨f0,f1,f2,f3,f4,f5⟩:=hf it (by simp)
  have W:=Walks.range (prog:=X.prog) (w:=X.w) (I.ok.hd hc) it lo 1 n
  refine W.item i s _ _ hg st fun v h' tk hv st' kk=>?_
  obtain⟨t,rfl⟩:=hv
  have I1:Inv X pins σ H { s with heap:=h',toks:=tk }:=I.turned (fun b o hb e=>kk b o (by simpa using hb) e) f0 f1 f3 f4 f5
  refine⟨_,rfl,go_of (s:={ s with heap:=h',toks:=tk }) (n:="range_iterator") st' rfl rfl (by decide) ⟨.int (lo+i),H,I1,⟨t,?_⟩,⟨rfl,rfl⟩,st',fun b hb=>(hf b hb).1⟩⟩
  rw[Int.mul_one]
 done:=by
  intro X hP hw hK hc i pins s σ H E I hf st hg
  subst hP hw hK
  obtain⟨f0,f1,f2,f3,f4,f5⟩:=hf it (by simp)
  exact wpAny_pyNext_range_end (I.ok.hd hc) st (by have:n<=i:=hg; lia) fun h' eb=>⟨rfl,I.turned (t':=s.toks) (fun b o hb e=>eb b o hb e) f0 f1 f3 f4 f5⟩
 self:=fun _ _ _ _ _ st h=>wpAny_pyIter_rangeiter st h
end L2
namespace L2
open PySem PySem.Spec PyProof.Rows
section
variable {X:Cx} {tg:Expr}
noncomputable def iList (K:PySem.W.Frag) (tl:TE):TI:=fun σ H R=>tl σ H fun x H1=>∃ a,x = .ref a/\(∃ xs,SqL K H1 a xs)/\R (Itl K a) H1
theorem pi_list {l:Expr} {tl:TE} (hl:PE X l tl):PI X tg l (iList X.K tl):=by
 intro pins s σ H R I h
 refine thn (hl pins s σ H _ I h) fun v s1 ⟨x,H1,I1,r1,q1⟩=>?_
 obtain⟨a,e,⟨xs,hq⟩,q⟩:=q1
 subst e
 cases r1
 obtain⟨its,rv,p,hz⟩:=I1.list hq
 refine wpAny_pyIter_list p.isList ?_
 refine⟨s1.heap.objs.size,[s1.heap.objs.size],_,_,H1,rfl,I1.kept (t':=s1.toks) fun b o e=>Heap.get?_push_of_some _ e,turn_list a _,⟨_,Heap.get?_push_size _ rfl,rfl,rfl⟩,fun b hb=>?_,q⟩
 have e:b=s1.heap.objs.size:=by simpa using hb
 subst e
 exact I1.fpOk (Nat.le_refl _) (I1.hok.fresh (Nat.le_refl _))
theorem range_it {pins:List (Addr × Obj)} {σ:St} {H:Hp} {s:Shared} {R:It->Hp->Prop} {E:Value->Shared->Prop} {lo hi:Int} {t u v:Tok} {tk:Nat} (I:Inv X pins σ H s) (h1 : -(2 ^ 62)<=lo) (h2:lo < 2 ^ 62) (h3 : -(2 ^ 62)<=hi) (h4:hi < 2 ^ 62)
  (q:R (Itr lo (hi - lo).toNat) H):wpAny (model X.prog X.w) X.A (pyIter (.ref s.heap.objs.size)) (PIE X pins σ tg R) E { s with heap:=s.heap.push { cls:=.type "range",data:=.fields #[.int lo t,.int hi u,.int 1 v] },toks:=tk }:=by
 refine wpAny_pyIter_range (IsRange.new ..) (small_one h1 h2 h3 h4) ?_
 have I1:Inv X pins σ H { s with heap:=s.heap.push { cls:=.type "range",data:=.fields #[.int lo t,.int hi u,.int 1 v] },toks:=tk }:=I.kept fun b o e=>Heap.get?_push_of_some _ e
 refine⟨(s.heap.push { cls:=.type "range",data:=.fields #[.int lo t,.int hi u,.int 1 v] }).objs.size,[(s.heap.push { cls:=.type "range",data:=.fields #[.int lo t,.int hi u,.int 1 v] }).objs.size],_,_,H,rfl,
  I1.kept (t':=tk) fun b o e=>Heap.get?_push_of_some _ e,turn_range _ lo (hi - lo).toNat,?_,fun b hb=>?_,q⟩
 ·have e1:lo+((0:Nat):Int) * 1=lo:=by simp
  have e2:(((hi - lo).toNat:Nat):Int) - ((0:Nat):Int)=Builtin.Range.rangeSize lo hi 1:=by rw[rangeSize_one]; split <;> lia
  show IsRangeIter _ _ (lo+((0:Nat):Int) * 1) ((((hi - lo).toNat:Nat):Int) - ((0:Nat):Int)) 1
  rw[e1,e2]
  exact Heap.get?_push_size _ rfl
 ·have e:b=(s.heap.push { cls:=.type "range",data:=.fields #[.int lo t,.int hi u,.int 1 v] }).objs.size:=by simpa using hb
  subst e
  exact I1.fpOk (Nat.le_refl _) (I1.hok.fresh (Nat.le_refl _))
noncomputable def iRng1 (ta:TA):TI:=fun σ H R=>ta σ H fun vs H1=>∃ j:Int,vs=[.int j]/\-(2 ^ 62)<=j/\j < 2 ^ 62/\R (Itr 0 j.toNat) H1
theorem pi_range1 {a:Expr} {ta:TA} {p pos:Pos} (hg:Gl X "range") (hm:X.mg "range" = none) (ha:PA X [a] ta) (hs:starEach [a] X.env=[(false,eval a X.env)]:=by rfl):PI X tg (.Call (.Name "range" p) [a] [] pos) (iRng1 ta):=by
 intro pins s σ H R I h
 refine Call_ (ld_blt I hg hm boot_range (PyProof.Rows.callWith_type1 (thn (ha pos pins s σ H _ I h) fun us s1 ⟨vs,H1,I1,r1,q1⟩=>?_) hs rfl))
 obtain⟨j,e,q1,q2,q⟩:=q1
 subst e
 cases r1 with
 | cons r rr =>
  cases rr
  obtain⟨t,rfl⟩:=r
  exact call_range_1 (range_it I1 (by lia) (by lia) q1 q2 (by simpa using q))
noncomputable def tFor (wi:TI) (g:TG) (tb:TS):TS:=fun D σ H=>wi σ H fun J H1=>∃ W:Nat->Nat->St->Hp->Prop,(∃ m,W 0 m σ H1)/\∀ i m σ H,W i m σ H →
 (J.stop i H/\D.nx σ H)∨(J.go i H/\∃ N:St->Hp->Prop,(∀ σ' H',N σ' H'->∃ m',m' < m/\W (i+1) m' σ' H')/\∀ x H',J.yld i H x H'->g x σ H' fun σ2 H2=>tb { D with nx:=N,ct:=N,bk:=D.nx } σ2 H2)
noncomputable def pinsAt (fp:List Addr) (h:Heap):List (Addr × Obj):=fp.filterMap fun b=>(h.get? b).map fun o=>(b,o)
theorem mem_pinsAt {fp:List Addr} {h:Heap} {b:Addr} {o:Obj} (hb:b∈fp) (e:h.get? b=some o):(b,o)∈pinsAt fp h:=List.mem_filterMap.mpr ⟨b,hb,by rw[e]; rfl⟩
theorem of_pinsAt {fp:List Addr} {h:Heap} {p:Addr × Obj} (hp:p∈pinsAt fp h):p.1∈fp/\h.get? p.1=some p.2:=by
 obtain⟨b,hb,e⟩:=List.mem_filterMap.mp hp
 cases q:h.get? b with
 | none=>rw[q] at e; cases e
 | some o =>
  rw[q] at e
  have e':(b,o)=p:=Option.some.inj e
  subst e'
  exact⟨hb,q⟩
theorem Inv.pinned {pins:List (Addr × Obj)} {σ:St} {H:Hp} {s:Shared} {fp:List Addr} (I:Inv X pins σ H s) (hf:∀ b∈fp,FpOk X pins H b) (ho:∀ b∈fp,∃ o,s.heap.get? b=some o/\∀ v,o.data≠.cell v):Inv X (pins++pinsAt fp s.heap) σ H s :=
 I.pins_of fun p hp=>(List.mem_append.mp hp).elim (fun z=>I.pin p (List.mem_append_right _ z)) fun z=>by
  obtain⟨hb,e⟩:=of_pinsAt z
  obtain⟨f0,f1,f2,_⟩:=hf p.1 hb
  obtain⟨o,e',d⟩:=ho p.1 hb
  rw[e] at e'; cases e'
  exact⟨e,f0,f1,f2,d⟩
theorem Inv.unpinned {pins pl:List (Addr × Obj)} {σ:St} {H:Hp} {s:Shared} (I:Inv X (pins++pl) σ H s):Inv X pins σ H s:=I.pins_of fun p hp=>I.pin p (List.mem_append_right _ (List.mem_append_left _ hp))
theorem ps_for {iter:Expr} {body:List Stmt} {wi:TI} {g:TG} {tb:TS} {pos:Pos} (hp:PassesOwn (model X.prog X.w) X.A X.env X.xe) (hc:X.calm=true) (hi:PI X tg iter wi) (hg:PG X tg g) (hb:PSs X body tb)
  (hs:∀ x,foldedSetIterable iter X.env x=pure x:=by intro _; rfl):PS X (.For tg iter body [] pos) (tFor wi g tb):=by
 intro pins s σ H D I h
 refine wpAny_For (thn (hi pins s σ H _ I h) fun v s1 h1=>thn h1 fun itv s2 h2=>?_) hs
 obtain⟨it,fp,tn,J,H2,e,I2,T,st2,f2,W,⟨m0,w0⟩,turn⟩:=h2
 subst e
 have stat:∀ {H':Hp},(∀ b∈fp,H' b=none)->∀ b∈fp,FpOk X pins H' b:=fun hn b hb=>⟨hn b hb,(f2 b hb).2⟩
 refine codeAny_forLoop_any (fun n s'=>∃ i σ' H',Inv X pins σ' H' s'/\tn i s'.heap/\(∀ b∈fp,H' b=none)/\W i n σ' H') ?_ m0 ⟨0,σ,H2,I2,st2,fun b hb=>(f2 b hb).1,w0⟩
 rintro n s3 ⟨i,σ3,H3,I3,st3,fr3,w3⟩
 rcases turn i n σ3 H3 w3 with⟨stop,qn⟩ | ⟨go,N,hN,step⟩
 ·refine wpAny_passesOwn hp (thn (T.done X rfl rfl rfl hc i pins s3 σ3 H3 X.xe I3 (stat fr3) st3 stop) fun r s4 ⟨hr,I4⟩=>?_)
  subst hr
  exact wpAny_execs_nil ⟨σ3,H3,I4,qn⟩
 ·refine wpAny_passesOwn hp (thn (T.item X rfl rfl rfl hc i pins s3 σ3 H3 X.xe I3 (stat fr3) st3 go) fun r s4 ⟨u,hr,h4⟩=>?_)
  subst hr
  refine wpAny_passesOwn hp (thn h4 fun _ s5 ⟨x,H5,I5,r5,y5,st5,fr5⟩=>?_)
  have I5':=I5.pinned (stat fr5) (T.obj _ _ st5)
  refine wpAny_passesOwn hp (thn (hg _ s5 σ3 H5 x u _ I5' r5 (step x H5 y5)) fun _ s6 ⟨σ6,H6,I6,q6⟩=>?_)
  refine wpAny_passesOwn hp (thn (hb _ s6 σ6 H6 _ I6 q6) fun f s7 q7=>?_)
  have again:∀ {σ7:St} {H7:Hp},Inv X (pins++pinsAt fp s5.heap) σ7 H7 s7->N σ7 H7->∃ m,m < n/\∃ i σ' H',Inv X pins σ' H' s7/\tn i s7.heap/\(∀ b∈fp,H' b=none)/\W i m σ' H':=fun {σ7 H7} I7 n7=>by
   obtain⟨m',hm,w7⟩:=hN σ7 H7 n7
   refine⟨m',hm,i+1,σ7,H7,I7.unpinned,T.keep _ _ _ st5 fun b hb o e=>(I7.pin (b,o) (List.mem_append_right _ (List.mem_append_right _ (mem_pinsAt hb e)))).1,fun b hb=>?_,w7⟩
   obtain⟨o,e,d⟩:=T.obj _ _ st5 b hb
   exact (I7.pin (b,o) (List.mem_append_right _ (List.mem_append_right _ (mem_pinsAt hb e)))).2.1
  cases f with
  | next=>obtain⟨σ7,H7,I7,n7⟩:=q7; exact again I7 n7
  | cont=>obtain⟨σ7,H7,I7,n7⟩:=q7; exact again I7 n7
  | brk=>obtain⟨σ7,H7,I7,q7⟩:=q7; exact⟨σ7,H7,I7.unpinned,q7⟩
  | ret v=>obtain⟨x7,σ7,H7,I7,r7,q7⟩:=q7; exact⟨x7,σ7,H7,I7.unpinned,r7,q7⟩
end
theorem for_list {K:PySem.W.Frag} {a:Addr} {xs:List V} {g:TG} {tb:TS} {D:Ends} {σ:St} {H:Hp} (Pv:Nat->St->Hp->Prop) (h0:Pv 0 σ H) (hl:∀ i σ H,i<=xs.length->Pv i σ H->SqL K H a xs)
  (hs:∀ i x σ H,xs[i]? = some x->Pv i σ H->g x σ H fun σ2 H2=>tb { D with nx:=Pv (i+1),ct:=Pv (i+1),bk:=D.nx } σ2 H2) (hd:∀ σ H,Pv xs.length σ H->D.nx σ H) :
  ∃ W:Nat->Nat->St->Hp->Prop,(∃ m,W 0 m σ H)/\∀ i m σ H,W i m σ H →
   ((Itl K a).stop i H/\D.nx σ H)∨((Itl K a).go i H/\∃ N:St->Hp->Prop,(∀ σ' H',N σ' H'->∃ m',m' < m/\W (i+1) m' σ' H')/\∀ x H',(Itl K a).yld i H x H'->g x σ H' fun σ2 H2=>tb { D with nx:=N,ct:=N,bk:=D.nx } σ2 H2):=by
 refine⟨fun i m σ H=>m=xs.length - i/\i<=xs.length/\Pv i σ H,⟨xs.length,by simp,Nat.zero_le _,h0⟩,?_⟩
 rintro i m σ H ⟨rfl,hi,p⟩
 have q:=hl i σ H hi p
 by_cases hlt:i < xs.length
 ·refine .inr ⟨⟨xs,xs[i],q,by simp [hlt]⟩,Pv (i+1),fun σ' H' p'=>⟨xs.length - (i+1),by lia,rfl,hlt,p'⟩,fun x H' y=>?_⟩
  obtain⟨e,y⟩:=y
  subst e
  exact hs i x σ _ (y xs q) p
 ·have e:i=xs.length:=by lia
  subst e
  exact .inl ⟨⟨xs,q,Nat.le_refl _⟩,hd σ H p⟩
theorem for_range {lo:Int} {n:Nat} {g:TG} {tb:TS} {D:Ends} {σ:St} {H:Hp} (Pv:Nat->St->Hp->Prop) (h0:Pv 0 σ H)
  (hs:∀ i σ H,i < n->Pv i σ H->g (.int (lo+i)) σ H fun σ2 H2=>tb { D with nx:=Pv (i+1),ct:=Pv (i+1),bk:=D.nx } σ2 H2) (hd:∀ σ H,Pv n σ H->D.nx σ H) :
  ∃ W:Nat->Nat->St->Hp->Prop,(∃ m,W 0 m σ H)/\∀ i m σ H,W i m σ H →
   ((Itr lo n).stop i H/\D.nx σ H)∨((Itr lo n).go i H/\∃ N:St->Hp->Prop,(∀ σ' H',N σ' H'->∃ m',m' < m/\W (i+1) m' σ' H')/\∀ x H',(Itr lo n).yld i H x H'->g x σ H' fun σ2 H2=>tb { D with nx:=N,ct:=N,bk:=D.nx } σ2 H2):=by
 refine⟨fun i m σ H=>m=n - i/\i<=n/\Pv i σ H,⟨n,by simp,Nat.zero_le _,h0⟩,?_⟩
 rintro i m σ H ⟨rfl,hi,p⟩
 by_cases hlt:i < n
 ·refine .inr ⟨hlt,Pv (i+1),fun σ' H' p'=>⟨n - (i+1),by lia,rfl,hlt,p'⟩,fun x H' y=>?_⟩
  obtain⟨e,y⟩:=y
  subst e y
  exact hs i σ _ hlt p
 ·have e:i=n:=by lia
  subst e
  exact .inl ⟨Nat.le_refl _,hd σ H p⟩
end L2
namespace L2
open PySem PySem.Spec PyProof.Rows
noncomputable abbrev R2:=V->V->Hp->VK->Prop
noncomputable def OpR (X:Cx) (f:Value->Value->Sem Value) (r:R2):Prop :=
 ∀ (pins:List (Addr × Obj)) (s:Shared) (σ:St) (H:Hp) (x y:V) (v u:Value) (Q:VK),Inv X pins σ H s->RelV x v->RelV y u->r x y H Q →
  wpAny (model X.prog X.w) X.A (f v u) (EP X pins σ Q) X.xe s
noncomputable def UnR (X:Cx) (f:Value->Sem Value) (r:V->Hp->VK->Prop):Prop :=
 ∀ (pins:List (Addr × Obj)) (s:Shared) (σ:St) (H:Hp) (x:V) (v:Value) (Q:VK),Inv X pins σ H s->RelV x v->r x H Q →
  wpAny (model X.prog X.w) X.A (f v) (EP X pins σ Q) X.xe s
noncomputable def CallR (X:Cx) (f:Value) (r:List V->Hp->VK->Prop):Prop :=
 ∀ (pins:List (Addr × Obj)) (s:Shared) (σ:St) (H:Hp) (xs:List V) (us:List Value) (Q:VK),Inv X pins σ H s->Vals xs us->r xs H Q →
  wpAny (model X.prog X.w) X.A (call f us) (EP X pins σ Q) X.xe s
noncomputable def tOp (r:R2) (ta tb:TE):TE:=fun σ H Q=>ta σ H fun x H1=>tb σ H1 fun y H2=>r x y H2 Q
noncomputable def tUn (r:V->Hp->VK->Prop) (ta:TE):TE:=fun σ H Q=>ta σ H fun x H1=>r x H1 Q
inductive RII (C:Int->Int->Prop) (g:Int->Int->V) (x:V) (y:V) (H:Hp) (Q:VK):Prop where
 | mk (i:Int) (j:Int) (z0:x = .int i) (z1:y = .int j) (z2:C i j) (z3:Q (g i j) H):RII C g x y H Q
noncomputable def rI (C:Int->Int->Prop) (g:Int->Int->V):R2:=fun x y H Q=>RII C g x y H Q
inductive RI0I (g:Int->Int->V) (x:V) (y:V) (H:Hp) (Q:VK):Prop where
 | mk (i:Int) (j:Int) (z0:x = .int i) (z1:y = .int j) (z2:Q (g i j) H):RI0I g x y H Q
noncomputable def rI0 (g:Int->Int->V):R2:=fun x y H Q=>RI0I g x y H Q
inductive RUI (g:Int->V) (x:V) (H:Hp) (Q:VK):Prop where
 | mk (i:Int) (z0:x = .int i) (z1:Q (g i) H):RUI g x H Q
noncomputable def rU (g:Int->V):V->Hp->VK->Prop:=fun x H Q=>RUI g x H Q
section
variable {X:Cx} {a b c:Expr} {ta tb tc:TE} {pos:Pos}
theorem binT (ha:PE X a ta) (hb:PE X b tb) {pins:List (Addr × Obj)} {s:Shared} {σ:St} {H:Hp} {R:V->V->Hp->Prop} (I:Inv X pins σ H s)
  (h:ta σ H fun x H1=>tb σ H1 fun y H2=>R x y H2) {Q:Value->Shared->Prop} {f:Value->Value->Sem Value}
  (hf:∀ v u s2 x y H2,Inv X pins σ H2 s2->RelV x v->RelV y u->R x y H2->wpAny (model X.prog X.w) X.A (f v u) Q X.xe s2) :
  wpAny (model X.prog X.w) X.A (eval a X.env) (fun v s₁=>wpAny (model X.prog X.w) X.A (eval b X.env) (fun u s₂=>wpAny (model X.prog X.w) X.A (f v u) Q X.xe s₂) X.xe s₁) X.xe s:=by
 refine thn (ha pins s σ H _ I h) fun v s1 ⟨x,H1,I1,r1,q1⟩=>?_
 refine thn (hb pins s1 σ H1 _ I1 q1) fun u s2 ⟨y,H2,I2,r2,q2⟩=>?_
 exact hf v u s2 x y H2 I2 r1 r2 q2
theorem pe_op {op:Operator} {r:R2} (ho:OpR X (binaryOp op) r) (ha:PE X a ta) (hb:PE X b tb):PE X (.BinOp a op b pos) (tOp r ta tb):=by
 intro pins s σ H Q I h
 exact wpAny_BinOp (binT ha hb I h fun v u s2 x y H2 I2 rx ry q=>ho pins s2 σ H2 x y v u Q I2 rx ry q)
theorem pe_un {op:UnaryOp} {r:V->Hp->VK->Prop} (ho:UnR X (unaryOp op) r) (ha:PE X a ta):PE X (.UnaryOp op a pos) (tUn r ta):=by
 intro pins s σ H Q I h
 exact UnaryOp_ (thn (ha pins s σ H _ I h) fun v s1 ⟨x,H1,I1,r1,q1⟩=>ho pins s1 σ H1 x v Q I1 r1 q1)
theorem opI {f:Value->Value->Sem Value} {C:Int->Int->Prop} {g:Int->Int->Int}
  (rule:∀ (i j:Int) (t u:Tok) (s:Shared) (Q:Value->Shared->Prop) (E:Value->Shared->Prop),C i j->Q (.int (g i j) s.toks) { s with toks:=s.toks+1 }->wpAny (model X.prog X.w) X.A (f (.int i t) (.int j u)) Q E s) :
  OpR X f (rI C fun i j=>.int (g i j)):=by
 intro pins s σ H x y v u Q I rx ry h
 obtain⟨i,j,rfl,rfl,hc,q⟩:=h
 obtain⟨t,rfl⟩:=rx
 obtain⟨t',rfl⟩:=ry
 exact rule i j t t' s _ _ hc ⟨.int (g i j),H,I.tok _,⟨_,rfl⟩,q⟩
theorem opI0 {f:Value->Value->Sem Value} {g:Int->Int->Int}
  (rule:∀ (i j:Int) (t u:Tok) (s:Shared) (Q:Value->Shared->Prop) (E:Value->Shared->Prop),Q (.int (g i j) s.toks) { s with toks:=s.toks+1 }->wpAny (model X.prog X.w) X.A (f (.int i t) (.int j u)) Q E s) :
  OpR X f (rI0 fun i j=>.int (g i j)):=by
 intro pins s σ H x y v u Q I rx ry h
 obtain⟨i,j,rfl,rfl,q⟩:=h
 obtain⟨t,rfl⟩:=rx
 obtain⟨t',rfl⟩:=ry
 exact rule i j t t' s _ _ ⟨.int (g i j),H,I.tok _,⟨_,rfl⟩,q⟩
theorem opB0 {f:Value->Value->Sem Value} {g:Int->Int->Bool}
  (rule:∀ (i j:Int) (t u:Tok) (s:Shared) (Q:Value->Shared->Prop) (E:Value->Shared->Prop),Q (.bool (g i j)) s->wpAny (model X.prog X.w) X.A (f (.int i t) (.int j u)) Q E s) :
  OpR X f (rI0 fun i j=>.bl (g i j)):=by
 intro pins s σ H x y v u Q I rx ry h
 obtain⟨i,j,rfl,rfl,q⟩:=h
 obtain⟨t,rfl⟩:=rx
 obtain⟨t',rfl⟩:=ry
 exact rule i j t t' s _ _ ⟨.bl (g i j),H,I,rfl,q⟩
noncomputable def CDiv (i j:Int):Prop:=0 < j/\j < 1073741824
noncomputable def CPow (i j:Int):Prop:=0<=j/\j<=1000000/\i.natAbs < 2 ^ 64
noncomputable def CMul (i j:Int):Prop:=(-(2 ^ 64) < i/\i < 2 ^ 64)∨(-(2 ^ 64) < j/\j < 2 ^ 64)
theorem CMul.ok {i j:Int} (h:CMul i j):IntMulOk i j:=by
 rcases h with⟨h1,h2⟩ | ⟨h1,h2⟩
 ·exact .of_left (intBits_le_64 h1 h2)
 ·exact .of_right (intBits_le_64 h1 h2)
theorem op_add:OpR X (binaryOp .Add) (rI0 fun i j=>.int (i+j)):=opI0 fun _ _ _ _ _ _ _ q=>add_int q
theorem op_sub:OpR X (binaryOp .Sub) (rI0 fun i j=>.int (i - j)):=opI0 fun _ _ _ _ _ _ _ q=>sub_int q
theorem op_mul:OpR X (binaryOp .Mult) (rI CMul fun i j=>.int (i * j)):=opI fun _ _ _ _ _ _ _ hc q=>mul_int q hc.ok
theorem op_fdiv:OpR X (binaryOp .FloorDiv) (rI CDiv fun i j=>.int (i / j)):=opI fun i j _ _ _ _ _ hc q=>by
 have h1:(0:Int) < j:=hc.1
 have h2:j < 1073741824:=hc.2
 exact floordiv_int (by lia) (by rw[Int.fdiv_eq_ediv_of_nonneg i (by lia)]; exact q) (.inl (PyProof.noPylong_small (by lia)))
theorem op_mod:OpR X (binaryOp .Mod) (rI (fun _ j=>0 < j) fun i j=>.int (i % j)):=opI fun i j _ _ _ _ _ hc q=>by
 have h1:(0:Int) < j:=hc
 exact mod_int' (by lia) (by rw[Int.fmod_eq_emod_of_nonneg i (by lia)]; exact q)
theorem op_pow:OpR X (binaryOp .Pow) (rI CPow fun i j=>.int (i ^ j.toNat)):=opI fun _ _ _ _ _ _ _ hc q=>pow_int_small hc.1 hc.2.1 hc.2.2 q
theorem unI {f:Value->Sem Value} {g:Int->Int}
  (rule:∀ (i:Int) (t:Tok) (s:Shared) (Q:Value->Shared->Prop) (E:Value->Shared->Prop),Q (.int (g i) s.toks) { s with toks:=s.toks+1 }->wpAny (model X.prog X.w) X.A (f (.int i t)) Q E s) :
  UnR X f (rU fun i=>.int (g i)):=by
 intro pins s σ H x v Q I rx h
 obtain⟨i,rfl,q⟩:=h
 obtain⟨t,rfl⟩:=rx
 exact rule i t s _ _ ⟨.int (g i),H,I.tok _,⟨_,rfl⟩,q⟩
theorem un_neg:UnR X (unaryOp .USub) (rU fun i=>.int (-i)):=unI fun _ _ _ _ _ q=>neg_int q
end
noncomputable def scal:V->V->Bool
 | .non,.non=>true | .non,.int _=>true | .int _,.non=>true | .non,.bl _=>true | .bl _,.non=>true | .non,.str _=>true | .str _,.non=>true
 | .int _,.int _=>true | .bl _,.bl _=>true | .str _,.str _=>true | .byt _,.byt _=>true
 | .int _,.str _=>true | .str _,.int _=>true | .bl _,.str _=>true | .str _,.bl _=>true
 | _,_=>false
noncomputable def rEq:R2:=fun x y H Q=>scal x y=true/\Q (.bl (decide (x=y))) H
noncomputable def rNe:R2:=fun x y H Q=>scal x y=true/\Q (.bl (!decide (x=y))) H
theorem dec_int {i j:Int}:decide (V.int i=V.int j)=(i == j):=by
 rw[Bool.eq_iff_iff]
 simp
theorem dec_bl {i j:Bool}:decide (V.bl i=V.bl j)=(i == j):=by
 rw[Bool.eq_iff_iff]
 simp
theorem dec_str {i j:Str}:decide (V.str i=V.str j)=(i == j):=by
 rw[Bool.eq_iff_iff]
 simp
theorem dec_byt {i j:Array UInt8}:decide (V.byt i=V.byt j)=(i.toList == j.toList):=by
 rw[Bool.eq_iff_iff]
 cases i
 cases j
 simp
section
variable {X:Cx} {a b c:Expr} {ta tb tc:TE} {pos:Pos}
theorem fin_bl {pins:List (Addr × Obj)} {σ:St} {H:Hp} {s:Shared} {Q:VK} {k k':Bool} (I:Inv X pins σ H s) (q:Q (.bl k) H) (e:k=k'):EP X pins σ Q (.bool k') s:=by
 subst e
 exact⟨.bl k,H,I,rfl,q⟩
theorem op_eq:OpR X (compareOp .Eq) rEq:=by
 intro pins s σ H x y v u Q I rx ry h
 obtain⟨hs,q⟩:=h
 cases x with
 | non =>
  cases rx
  cases y with
  | non=>cases ry; exact PySem.EqNone.eq_none_none (fin_bl I q (by simp))
  | bl j=>cases ry; exact PySem.EqNone.eq_none_bool (fin_bl I q (by simp))
  | int j=>obtain⟨t',rfl⟩:=ry; exact PySem.EqNone.eq_none_int (fin_bl I q (by simp))
  | str j=>obtain⟨t',rfl⟩:=ry; exact PySem.EqNone.eq_none_str (fin_bl I q (by simp))
  | _=>exact absurd (show false=true from hs) Bool.false_ne_true
 | bl i =>
  cases rx
  cases y with
  | non=>cases ry; exact PySem.EqNone.eq_bool_none (fin_bl I q (by simp))
  | bl j=>cases ry; exact eq_bool (fin_bl I q dec_bl)
  | str j=>obtain⟨t',rfl⟩:=ry; exact PySem.EqMixed.eq_bool_str (fin_bl I q (by simp))
  | _=>exact absurd (show false=true from hs) Bool.false_ne_true
 | int i =>
  obtain⟨t,rfl⟩:=rx
  cases y with
  | non=>cases ry; exact PySem.EqNone.eq_int_none (fin_bl I q (by simp))
  | int j=>obtain⟨t',rfl⟩:=ry; exact eq_int (fin_bl I q dec_int)
  | str j=>obtain⟨t',rfl⟩:=ry; exact PySem.EqMixed.eq_int_str (fin_bl I q (by simp))
  | _=>exact absurd (show false=true from hs) Bool.false_ne_true
 | str i =>
  obtain⟨t,rfl⟩:=rx
  cases y with
  | non=>cases ry; exact PySem.EqNone.eq_str_none (fin_bl I q (by simp))
  | bl j=>cases ry; exact PySem.EqMixed.eq_str_bool (fin_bl I q (by simp))
  | int j=>obtain⟨t',rfl⟩:=ry; exact PySem.EqMixed.eq_str_int (fin_bl I q (by simp))
  | str j=>obtain⟨t',rfl⟩:=ry; exact eq_str (fin_bl I q dec_str)
  | _=>exact absurd (show false=true from hs) Bool.false_ne_true
 | byt i =>
  obtain⟨t,rfl⟩:=rx
  cases y with
  | byt j=>obtain⟨t',rfl⟩:=ry; exact PySem.W.eq_bytes (fin_bl I q dec_byt)
  | _=>exact absurd (show false=true from hs) Bool.false_ne_true
 | _=>cases y <;> exact absurd (show false=true from hs) Bool.false_ne_true
theorem op_ne:OpR X (compareOp .NotEq) rNe:=by
 intro pins s σ H x y v u Q I rx ry h
 obtain⟨hs,q⟩:=h
 cases x with
 | non =>
  cases rx
  cases y with
  | non=>cases ry; exact PySem.EqNone.ne_none_none (fin_bl I q (by simp))
  | bl j=>cases ry; exact PySem.EqNone.ne_none_bool (fin_bl I q (by simp))
  | int j=>obtain⟨t',rfl⟩:=ry; exact PySem.EqNone.ne_none_int (fin_bl I q (by simp))
  | str j=>obtain⟨t',rfl⟩:=ry; exact PySem.EqNone.ne_none_str (fin_bl I q (by simp))
  | _=>exact absurd (show false=true from hs) Bool.false_ne_true
 | bl i =>
  cases rx
  cases y with
  | non=>cases ry; exact PySem.EqNone.ne_bool_none (fin_bl I q (by simp))
  | bl j=>cases ry; exact ne_bool (fin_bl I q (congrArg not dec_bl))
  | str j=>obtain⟨t',rfl⟩:=ry; exact PySem.EqMixed.ne_bool_str (fin_bl I q (by simp))
  | _=>exact absurd (show false=true from hs) Bool.false_ne_true
 | int i =>
  obtain⟨t,rfl⟩:=rx
  cases y with
  | non=>cases ry; exact PySem.EqNone.ne_int_none (fin_bl I q (by simp))
  | int j=>obtain⟨t',rfl⟩:=ry; exact ne_int (fin_bl I q (congrArg not dec_int))
  | str j=>obtain⟨t',rfl⟩:=ry; exact PySem.EqMixed.ne_int_str (fin_bl I q (by simp))
  | _=>exact absurd (show false=true from hs) Bool.false_ne_true
 | str i =>
  obtain⟨t,rfl⟩:=rx
  cases y with
  | non=>cases ry; exact PySem.EqNone.ne_str_none (fin_bl I q (by simp))
  | bl j=>cases ry; exact PySem.EqMixed.ne_str_bool (fin_bl I q (by simp))
  | int j=>obtain⟨t',rfl⟩:=ry; exact PySem.EqMixed.ne_str_int (fin_bl I q (by simp))
  | str j=>obtain⟨t',rfl⟩:=ry; exact ne_str (fin_bl I q (congrArg not dec_str))
  | _=>exact absurd (show false=true from hs) Bool.false_ne_true
 | byt i =>
  obtain⟨t,rfl⟩:=rx
  cases y with
  | byt j=>obtain⟨t',rfl⟩:=ry; exact PySem.W.ne_bytes (fin_bl I q (congrArg not dec_byt))
  | _=>exact absurd (show false=true from hs) Bool.false_ne_true
 | _=>cases y <;> exact absurd (show false=true from hs) Bool.false_ne_true
theorem op_lt:OpR X (compareOp .Lt) (rI0 fun i j=>.bl (decide (i < j))):=opB0 fun _ _ _ _ _ _ _ q=>lt_int q
theorem op_ge:OpR X (compareOp .GtE) (rI0 fun i j=>.bl (decide (j<=i))):=opB0 fun _ _ _ _ _ _ _ q=>ge_int q
theorem OpR.or {f:Value->Value->Sem Value} {r r':R2} (h:OpR X f r) (h':OpR X f r'):OpR X f (fun x y H Q=>r x y H Q∨r' x y H Q):=by
 intro pins s σ H x y v u Q I rx ry q
 rcases q with q | q
 ·exact h pins s σ H x y v u Q I rx ry q
 ·exact h' pins s σ H x y v u Q I rx ry q
theorem nomark (b:Expr) {op:CmpOp} (h:op≠.In:=by decide) (h2:op≠.NotIn:=by decide):behindInMarks op b=false:=by
 have e1:(op == CmpOp.In)=false:=by cases op <;> first | rfl | exact absurd rfl h
 have e2:(op == CmpOp.NotIn)=false:=by cases op <;> first | rfl | exact absurd rfl h2
 cases b <;> simp [behindInMarks,e1,e2]
theorem pe_cmpR {op:CmpOp} {r:R2} (ho:OpR X (compareOp op) r) (ha:PE X a ta) (hb:PE X b tb) (hm:behindInMarks op b=false):PE X (.Compare a [op] [b] pos) (tOp r ta tb):=by
 intro pins s σ H Q I h
 exact wpAny_Compare1 (binT ha hb I h fun v u s2 x y H2 I2 rx ry q=>ho pins s2 σ H2 x y v u Q I2 rx ry q) hm
noncomputable def tTest (t:TE):TT:=fun σ H Q=>t σ H fun x H'=>ExB x fun k=>Q k H'
theorem pt_cmpR {op:CmpOp} {r:R2} (ho:OpR X (compareOp op) r) (ha:PE X a ta) (hb:PE X b tb) (hm:behindInMarks op b=false):PT X (.Compare a [op] [b] pos) (tTest (tOp r ta tb)):=by
 intro pins s σ H Q I h
 refine wpAny_isTrue_Compare1 (thn (ha pins s σ H _ I h) fun v s1 ⟨x,H1,I1,r1,q1⟩=>thn (hb pins s1 σ H1 _ I1 q1) fun u s2 ⟨y,H2,I2,r2,q2⟩ =>
  thn (ho pins s2 σ H2 x y v u _ I2 r1 r2 q2) fun c s3 ⟨z,H3,I3,r3,k,e,q3⟩=>?_) hm
 subst e
 cases r3
 exact wpAny_truthy_bool ⟨H3,I3,q3⟩
theorem line63:(sizeLine:Nat) < 2 ^ 63:=by rw[sizeLine_eq]; decide
theorem vals1 {x:V} {us:List Value} (r:Vals [x] us):∃ u,us=[u]/\RelV x u:=by
 cases r with
 | cons r1 r2=>cases r2; exact⟨_,rfl,r1⟩
theorem vals2 {x y:V} {us:List Value} (r:Vals [x,y] us):∃ u w',us=[u,w']/\RelV x u/\RelV y w':=by
 cases r with
 | cons r1 r2 =>
  cases r2 with
  | cons r3 r4=>cases r4; exact⟨_,_,rfl,r1,r3⟩
theorem call_abs:CallR X (.builtin "abs") (fun xs H Q=>∃ i,xs=[.int i]/\Q (.int (if i < 0 then -i else i)) H):=by
 intro pins s σ H xs us Q I r h
 obtain⟨i,rfl,q⟩:=h
 obtain⟨u,rfl,t,rfl⟩:=vals1 r
 exact call_abs_int fun u tk=>⟨.int (if i < 0 then -i else i),H,I.tok _,⟨_,rfl⟩,q⟩
theorem call_int1:CallR X (.type "int") (fun xs H Q=>(∃ i,xs=[.int i]/\Q (.int i) H)∨∃ k,xs=[.bl k]/\Q (.int (if k then 1 else 0)) H):=by
 intro pins s σ H xs us Q I r h
 rcases h with⟨i,rfl,q⟩ | ⟨k,rfl,q⟩
 ·obtain⟨u,rfl,t,rfl⟩:=vals1 r
  exact call_int_int ⟨.int i,H,I,⟨_,rfl⟩,q⟩
 ·obtain⟨u,rfl,r1⟩:=vals1 r
  cases r1
  exact call_int_bool ⟨.int (if k then 1 else 0),H,I.tok _,⟨_,rfl⟩,q⟩
end
end L2
namespace L2
open PySem PySem.Spec PyProof.Rows
structure ObjM (h:Heap) (x dx C:Addr) (mA:Str->Option Value):Prop where
 obj:h.get? x=some (PySem.W.instObj C dx)
 ns:h.Ns1 dx mA
 ne:dx≠x
theorem lookIn_ns {h:Heap} {dx:Addr} {mA:Str->Option Value} (n:h.Ns1 dx mA):∃ od,h.get? dx=some od/\∀ name,PySem.W.lookIn name od=some (mA name):=by
 obtain⟨o,es,ep,ho,hd,hk,_,hm⟩:=n
 refine⟨o,ho,fun name=>?_⟩
 have e:=hm name
 unfold nsFind findBy at e
 rw[← Array.find?_toList] at e
 unfold PySem.W.lookIn
 rw[hd]
 dsimp only
 split
 ·rename_i y q
  rw[q] at e
  exact congrArg some e
 ·rename_i q
  rw[q] at e
  have a:es.toList.any (·.refKey)=false:=by
   rw[List.any_eq_false]
   intro y hy
   obtain⟨z,t,hkey⟩:=hk y (Array.mem_toList_iff.mp hy)
   simp [DictEntry.refKey,hkey]
  have a':¬ es.toList.any (·.refKey)=true:=by rw[a]; exact Bool.false_ne_true
  rw[if_neg a']
  exact congrArg some e
theorem ObjM.look {h:Heap} {x dx C:Addr} {mA:Str->Option Value} (I:ObjM h x dx C mA):∃ od,PySem.W.InstAt h x (PySem.W.instObj C dx) C (some od)/\∀ name,PySem.W.lookIn name od=some (mA name) :=
 let ⟨od,ho,hl⟩:=lookIn_ns I.ns
 ⟨od,⟨I.obj,rfl,rfl,ho⟩,hl⟩
section
variable {prog:Program} {w:World} {A:Around} {E:Value->Shared->Prop} {s:Shared} {K:PySem.W.Frag} {x dx C f:Addr} {mA:Str->Option Value} {name:Str} {v:Value}
end
section
variable {P:Program} {w:World} {H H':Hp} {h h':Heap} {a C dx:Addr} {fs fs':List (Str × V)}
theorem ins_get (hok:HOk P w H h) (e:H a=some (.ins C dx fs)):∃ mA,ObjM h a dx C mA/\(∀ f,RelO (fs.lookup f) (mA f))/\PySem.Within mA (fs.map (·.1))/\fs.length<=1000/\H dx=some (.own a):=by
 obtain⟨d,z,ne,ob,mA,n,r,q⟩:=(show ObjOk P w H h a (.ins C dx fs) from hok a _ e)
 exact⟨mA,⟨ob,n,ne⟩,r,q,z,d⟩
end
structure Cls (K:PySem.W.Frag) (C:Addr):Prop where
 pg:PySem.W.plainGet K C Str.empty=true
 hd:PySem.W.hasDictIn K C=true
 po:PySem.W.plainOver K C=true
 sa:PySem.W.findIn K (.ref C) "__setattr__" = some (some (.builtin "object.__setattr__"))
theorem Cls.get {K:PySem.W.Frag} {C:Addr} (c:Cls K C) (f:Str):PySem.W.plainGet K C f=true:=c.pg
structure Con (K:PySem.W.Frag) (C:Addr) (f:Str) (v:V) (u:Value):Prop where
 at_:PySem.W.findIn K (.ref C) f=some (some u)
 rel:RelV v u
 get:PySem.W.specialIn K u "__get__" = some none
 cp:PySem.W.copiedNames.contains f=false
structure Meth (K:PySem.W.Frag) (C:Addr) (m:Str) (f:Addr):Prop where
 at_:PySem.W.findIn K (.ref C) m=some (some (.ref f))
 fn:PySem.W.isFn K (.ref f)=true
 kp:PySem.W.keepIn K (.ref f)=true
section
variable {X:Cx} {pins:List (Addr × Obj)} {σ:St} {H:Hp} {s:Shared} {a C dx:Addr} {fs:List (Str × V)} {f:Str} {v:V} {A:Around} {E:Value->Shared->Prop}
theorem Inv.made (I:Inv X pins σ H s):Inv X pins σ (upd (upd H s.heap.objs.size (.own (s.heap.objs.size+1))) (s.heap.objs.size+1) (.ins C s.heap.objs.size []))
  {s with heap:=(s.heap.push PySem.W.emptyDict).push (PySem.W.instObj C s.heap.objs.size) }:=by
 have e1:(s.heap.push PySem.W.emptyDict).get? s.heap.objs.size=some PySem.W.emptyDict:=Heap.get?_push_size s.heap rfl
 have e2:((s.heap.push PySem.W.emptyDict).push (PySem.W.instObj C s.heap.objs.size)).get? (s.heap.objs.size+1)=some (PySem.W.instObj C s.heap.objs.size):=by
  have:=Heap.get?_push_size (s.heap.push PySem.W.emptyDict) (o:=PySem.W.instObj C s.heap.objs.size) rfl
  rwa [Heap.size_push] at this
 have e3:(s.heap.push PySem.W.emptyDict).Ns s.heap.objs.size (fun _=>none):=⟨PySem.W.emptyDict,#[],_,e1,rfl,(fun e he=>absurd he (by simp)),fun _=>rfl⟩
 have I1:=I.laid (a:=s.heap.objs.size) (o:=.own (s.heap.objs.size+1)) (h':=s.heap.push PySem.W.emptyDict) (t':=s.toks) (fun b u q=>Heap.get?_push_of_some _ q) (Nat.le_refl _) ⟨_,e1⟩
 refine I1.laid (a:=s.heap.objs.size+1) (o:=.ins C s.heap.objs.size []) (t':=s.toks) (fun b u q=>Heap.get?_push_of_some _ q) (Nat.le_of_eq (Heap.size_push _ _)) ?_
 have ne:s.heap.objs.size≠s.heap.objs.size+1:=Nat.ne_of_lt (Nat.lt_succ_self _)
 refine⟨by rw[upd_ne ne,upd_same],Nat.zero_le _,ne,e2,fun _=>none,(Heap.Ns1.of_empty e3).at fun o q=>Heap.get?_push_of_some _ q,fun _=>True.intro,fun y hy=>absurd rfl hy⟩
end
section
variable {X:Cx} {o e value:Expr} {f:Str} {pos pos' tpos:Pos} {ta tv:TE}
end
section
variable {X:Cx} {pins:List (Addr × Obj)} {σ:St} {H:Hp} {s:Shared} {A:Around} {E:Value->Shared->Prop} {Q:Value->Shared->Prop} {c:Value} {b:Bool}
inductive TyOf (K:PySem.W.Frag) (H:Hp):V->Value->Prop where
 | non:TyOf K H .non (.type "NoneType")
 | bl (x:Bool):TyOf K H (.bl x) (.type "bool")
 | int (i:Int):TyOf K H (.int i) (.type "int")
 | str (x:Str):TyOf K H (.str x) (.type "str")
 | flt (x:UInt64):TyOf K H (.flt x) (.type "float")
 | lst {a:Addr} {xs:List V} (e:H a=some (.lst xs)):TyOf K H (.ref a) (.type "list")
 | frz {a:Addr} {o:Obj} {xs:List V} (e:H a=some (.frz o (.lst xs))):TyOf K H (.ref a) (.type "list")
 | tup {a:Addr} {xs:List V} (e:H a=some (.tup xs)):TyOf K H (.ref a) (.type "tuple")
 | dK {a:Addr} {kvs:List (Key × V)} (e:H a=some (.dK kvs)):TyOf K H (.ref a) (.type "dict")
 | dT {a:Addr} {kvs:List (List Key × V)} (e:H a=some (.dT kvs)):TyOf K H (.ref a) (.type "dict")
 | ins {a C dx:Addr} {fs:List (Str × V)} (e:H a=some (.ins C dx fs)) (cl:Cls K C) (ha:PySem.W.findIn K (.ref C) "__class__" = some (some (.builtin "object.__class__")))
   (hn:PySem.W.specialIn K (.builtin "object.__class__") "__get__" = some (some (.builtin "getset_descriptor.__get__"))) (htk:PySem.W.takesIn K (.builtin "object.__class__")=some true)
   (hm:PySem.W.mroIn K C (.type "object")=some true):TyOf K H (.ref a) (.ref C)
theorem isinst_ok {x:V} {u t:Value} (I:Inv X pins σ H s) (rx:RelV x u) (ty:TyOf X.K H x t) (e:PySem.W.kitOne X.K t c=some b) (h:∀ tk,Q (.bool b) { s with toks:=tk }) :
  wpAny (model X.prog X.w) A (call (.builtin "isinstance") [u,c]) Q E s:=by
 cases ty with
 | non=>cases (show u=Value.none from rx); exact PySem.W.kia_one PySem.W.kitx_none I.kIn True.intro e (fun z=>nomatch z) h
 | bl y=>cases (show u=Value.bool y from rx); exact PySem.W.kia_one PySem.W.kitx_bool I.kIn True.intro e (fun z=>nomatch z) h
 | int i=>obtain⟨t,q⟩:=(show ∃ t,u=Value.int i t from rx); cases q; exact PySem.W.kia_one PySem.W.kitx_int I.kIn True.intro e (fun z=>nomatch z) h
 | str y=>obtain⟨t,q⟩:=(show ∃ t,u=Value.str y t from rx); cases q; exact PySem.W.kia_one PySem.W.kitx_str I.kIn True.intro e (fun z=>nomatch z) h
 | flt y=>obtain⟨t,q⟩:=(show ∃ t,u=Value.float y t from rx); cases q; exact PySem.W.kia_one PySem.W.kitx_float I.kIn True.intro e (fun z=>nomatch z) h
 | @lst a xs ea =>
  cases (show u=Value.ref a from rx)
  obtain⟨_,_,n,_,h1⟩:=(show ObjOk X.prog X.w H s.heap a (.lst xs) from I.hok a _ ea)
  exact PySem.W.kia_one PySem.W.kitx_list I.kIn ⟨_,h1,rfl⟩ e (fun z=>nomatch z) h
 | @frz a ob xs ea =>
  cases (show u=Value.ref a from rx)
  obtain⟨_,_,_,n,_,h1⟩:=(show ObjOk X.prog X.w H s.heap a (.frz ob (.lst xs)) from I.hok a _ ea)
  exact PySem.W.kia_one PySem.W.kitx_list I.kIn ⟨_,h1,rfl⟩ e (fun z=>nomatch z) h
 | @tup a xs ea =>
  cases (show u=Value.ref a from rx)
  obtain⟨_,_,_,p⟩:=(show ObjOk X.prog X.w H s.heap a (.tup xs) from I.hok a _ ea)
  obtain⟨o,h1,h2,_⟩:=p
  exact PySem.W.kia_one PySem.W.kitx_tuple I.kIn ⟨o,h1,h2⟩ e (fun z=>nomatch z) h
 | @dK a kvs ea =>
  cases (show u=Value.ref a from rx)
  obtain⟨_,_,vs,_,p⟩:=(show ObjOk X.prog X.w H s.heap a (.dK kvs) from I.hok a _ ea)
  obtain⟨o,es,ep,h1,h2,_⟩:=p
  exact PySem.W.kia_one PySem.W.kitx_dict I.kIn ⟨o,h1,h2.1⟩ e (fun z=>nomatch z) h
 | @dT a kvs ea =>
  cases (show u=Value.ref a from rx)
  obtain⟨_,_,xs,_,o,es,ep,h1,h2,_⟩:=(show ObjOk X.prog X.w H s.heap a (.dT kvs) from I.hok a _ ea)
  exact PySem.W.kia_one PySem.W.kitx_dict I.kIn ⟨o,h1,h2.1⟩ e (fun z=>nomatch z) h
 | @ins a C dx fs ea cl ha hn htk hm =>
  cases (show u=Value.ref a from rx)
  obtain⟨mA,O,_⟩:=ins_get I.hok ea
  obtain⟨od,J,_⟩:=O.look
  exact PySem.W.kia_one (PySem.W.kitx_own (cl.get _) cl.hd ha hn htk hm) I.kIn J e (fun z=>nomatch z) h
end
end L2
namespace L2
open PySem PySem.Spec PyProof.Rows
structure Room (k:Nat) (A:Around):Prop where
 hd:A.handled=none
 dp:A.depth+3 * k+5 < recursionLimit
 un:A.units+16 * k+200 < cLine
theorem Room.mono {j k:Nat} {A:Around} (r:Room k A) (h:j<=k):Room j A:=⟨r.hd,by have:=r.dp; lia,by have:=r.un; lia⟩
theorem Room.deeper {k:Nat} {A:Around} (r:Room (k+1) A) (env:Env):Room k (A.deeper env) :=
 ⟨r.hd,by have:=r.dp; show A.depth+1+3 * k+5 < _; lia,by have:=r.un; show A.units+3+16 * k+200 < _; lia⟩
theorem Room.in1 {k:Nat} {A:Around} (r:Room (k+1) A):Room k A.in1 :=
 ⟨r.hd,by have:=r.dp; show A.depth+3 * k+5 < _; lia,by have:=r.un; show A.units+1+16 * k+200 < _; lia⟩
theorem Room.depth {k:Nat} {A:Around} (r:Room k A):A.depth < recursionLimit:=by have:=r.dp; lia
theorem Room.units {k:Nat} {A:Around} (r:Room k A):A.units+64 < cLine:=by have:=r.un; lia
theorem Room.units0 {k:Nat} {A:Around} (r:Room k A):A.units < cLine:=by have:=r.un; lia
noncomputable def tNil:TA:=fun _ H Q=>Q [] H
noncomputable def tCons (ta:TE) (tr:TA):TA:=fun σ H Q=>ta σ H fun x H1=>tr σ H1 fun xs H2=>Q (x::xs) H2
section
variable {X:Cx} {e:Expr} {es:List Expr} {te:TE} {t:TA} {pos:Pos}
theorem pa_nil:PA X [] tNil:=fun _ _ _ _ H Q I h=>Calls.spliced_nil ⟨[],H,I,.nil,h⟩
theorem pa_cons (ha:PE X e te) (hr:PA X es t) (hs:starEach (e::es) X.env=(false,eval e X.env)::starEach es X.env:=by rfl):PA X (e::es) (tCons te t):=by
 intro pos pins s σ H Q I h
 rw[hs]
 show wpAny _ _ (spliced ((false,eval e X.env)::backTo pos (starEach es X.env))) _ _ s
 refine Calls.spliced_cons (thn (ha pins s σ H _ I h) fun u s1 ⟨x,H1,I1,r1,q1⟩=>?_)
 exact thn (hr pos pins s1 σ H1 _ I1 q1) fun us s2 ⟨xs,H2,I2,r2,q2⟩=>⟨x::xs,H2,I2,.cons r1 r2,q2⟩
noncomputable def tTup (t:TA):TE:=fun σ H Q=>t σ H fun xs H1=>xs.length<=sizeLine/\∀ p,H1 p=none->Q (.ref p) (upd H1 p (.tup xs))
noncomputable def tLst (t:TA):TE:=fun σ H Q=>t σ H fun xs H1=>xs.length<=sizeLine/\∀ p,H1 p=none->Q (.ref p) (upd H1 p (.lst xs))
theorem pe_tup {x1} (h:PA X es t):PE X (.Tuple es x1 pos) (tTup t):=by
 intro pins s σ H Q I hq
 refine wpAny_Tuple_spliced (thn (h pos pins s σ H _ I hq) fun us s1 ⟨xs,H1,I1,r,z,q⟩=>⟨by rw[← r.length]; exact z,?_⟩)
 have hf:H1 s1.heap.objs.size=none:=I1.hok.fresh (Nat.le_refl _)
 refine⟨.ref s1.heap.objs.size,upd H1 s1.heap.objs.size (.tup xs),I1.laid (t':=s1.toks) (fun b u e=>Heap.get?_push_of_some _ e) (Nat.le_refl _) ?_,rfl,q _ hf⟩
 exact⟨z,us,r,⟨_,Heap.get?_push_size _ rfl,rfl,_,rfl⟩⟩
theorem pe_lst (h:PA X es t):PE X (.List es pos) (tLst t):=by
 intro pins s σ H Q I hq
 refine wpAny_List_spliced (thn (h pos pins s σ H _ I hq) fun us s1 ⟨xs,H1,I1,r,z,q⟩=>⟨by rw[← r.length]; exact z,?_⟩)
 have hf:H1 s1.heap.objs.size=none:=I1.hok.fresh (Nat.le_refl _)
 refine⟨.ref s1.heap.objs.size,upd H1 s1.heap.objs.size (.lst xs),I1.laid (t':=s1.toks) (fun b u e=>Heap.get?_push_of_some _ e) (Nat.le_refl _) ?_,rfl,q _ hf⟩
 exact⟨z,us,0,r,Heap.get?_push_size _ rfl⟩
end
noncomputable abbrev Sp:=List V->Hp->VK->XK->Prop
noncomputable abbrev CXT:=List Env->Hp->Shared->XK->Value->Shared->Prop
structure Env0 (P:Program) (w:World) (K:PySem.W.Frag) (mg:Str->Option Value) (base:Heap) (A:Around) (outer:List Env) (s:Shared) (H:Hp):Prop where
 frames:A.frames=some outer
 mod:Mod K mg base
 bs:∀ b o,base.get? b=some o->s.heap.get? b=some o/\H b=none
 bsz:base.objs.size<=s.heap.objs.size
 funs:s.heap.FunFrames base outer
 frf:∀ b∈frs outer,H b=none
 hok:HOk P w H s.heap
 bare:AllBare s.gens
noncomputable def CE (outer:List Env) (P:Program) (w:World) (H:Hp) (s:Shared) (Q:VK) (u:Value) (s':Shared):Prop :=
 ∃ v H',s'.os=s.os/\AllBare s'.gens/\Un (frs outer) [] H H' s.heap s'.heap/\HOk P w H' s'.heap/\RelV v u/\Q v H'
noncomputable def CR (CX:CXT) (outer:List Env) (P:Program) (w:World) (H:Hp) (s:Shared) (Q:VK) (E:XK) (r:Result) (s':Shared):Prop :=
 match r with
 | .ok (.ret u)=>CE outer P w H s Q u s'
 | .ok _=>False
 | .error e=>CX outer H s E e s'
structure FnOk (P:Program) (w:World) (K:PySem.W.Frag) (mg:Str->Option Value) (base:Heap) (CX:CXT) (k:Nat) (f:Addr) (fd:FuncData) (ps:List Str) (sp:Sp):Prop where
 len:∀ vs H Q E,sp vs H Q E->vs.length=ps.length
 run:∀ (A:Around) (outer:List Env) (s:Shared) (H:Hp) (args:Args) (us:List Value) (vs:List V) (Q:VK) (E:XK),Room k A->Env0 P w K mg base A outer s H->BindsTo s fd args (ps.zip us)->Vals vs us->sp vs H Q E →
  codeAny (model P w) A (.call (.ref f) args) (CR CX outer P w H s Q E) s
theorem FnOk.mono {P:Program} {w:World} {K:PySem.W.Frag} {mg:Str->Option Value} {base:Heap} {CX:CXT} {j k:Nat} {f:Addr} {fd:FuncData} {ps:List Str} {sp:Sp} (F:FnOk P w K mg base CX j f fd ps sp) (h:j<=k) :
  FnOk P w K mg base CX k f fd ps sp:=⟨F.len,fun A outer s H args us vs Q E hr=>F.run A outer s H args us vs Q E (hr.mono h)⟩
theorem FnOk.imp {P:Program} {w:World} {K:PySem.W.Frag} {mg:Str->Option Value} {base:Heap} {CX:CXT} {k:Nat} {f:Addr} {fd:FuncData} {ps:List Str} {sp sp':Sp} (F:FnOk P w K mg base CX k f fd ps sp)
  (h:∀ vs H Q E,sp' vs H Q E->sp vs H Q E):FnOk P w K mg base CX k f fd ps sp' :=
 ⟨fun vs H Q E q=>F.len vs H Q E (h _ _ _ _ q),fun A outer s H args us vs Q E hr he hb hv hs=>F.run A outer s H args us vs Q E hr he hb hv (h _ _ _ _ hs)⟩
theorem Env0.in1 {P:Program} {w:World} {K:PySem.W.Frag} {mg:Str->Option Value} {base:Heap} {A:Around} {outer:List Env} {s:Shared} {H:Hp} (e:Env0 P w K mg base A outer s H) :
  Env0 P w K mg base A.in1 outer s H:=⟨e.frames,e.mod,e.bs,e.bsz,e.funs,e.frf,e.hok,e.bare⟩
section
variable {X:Cx} {pins:List (Addr × Obj)} {σ:St} {H:Hp} {s s':Shared}
theorem Inv.env0 (I:Inv X pins σ H s):Env0 X.prog X.w X.K X.mg X.base X.A X.stack s H :=
 ⟨I.ok.frames,I.ok.mod,I.bs,Nat.le_trans I.ok.bsz I.sz,I.stack,I.stkFree,I.hok,I.bare⟩
theorem Inv.after {Q:VK} {u:Value} (I:Inv X pins σ H s) (h:CE X.stack X.prog X.w H s Q u s'):EP X pins σ Q u s':=by
 obtain⟨v,H',os,bare,un,hok,r,q⟩:=h
 obtain⟨hh,g,d,t,os'⟩:=s'
 obtain rfl:os'=s.os:=os
 exact⟨v,H',I.call (h':=hh) (g':=g) (d':=d) (t':=t) (ch:=[]) un hok bare (fun b z=>absurd z (by simp)),r,q⟩
end
noncomputable def tCall (sp:Sp) (dvs:List V) (E:XK) (t:TA):TE:=fun σ H Q=>t σ H fun vs H1=>sp (vs++dvs) H1 Q E
noncomputable def Binds (K:PySem.W.Frag) (fd:FuncData) (ps:List Str) (ds:List Value):Prop :=
 ∀ (s:Shared) (us:List Value),K.In s.heap->(us++ds).length=ps.length->BindsTo s fd ⟨us,[]⟩ (ps.zip (us++ds))
theorem Binds.all {K:PySem.W.Frag} {fd:FuncData} {ps:List Str} (h:∀ us:List Value,us.length=ps.length->bindArgs fd ⟨us,[]⟩=pure (ps.zip us)):Binds K fd ps []:=fun s us _ hl=>by
 rw[List.append_nil] at hl ⊢
 exact .of_eq (h us hl)
noncomputable def Passes (CX:CXT) (X:Cx) (E:XK):Prop:=∀ (pins:List (Addr × Obj)) (σ:St) (H:Hp) (s:Shared) (e:Value) (s':Shared),Inv X pins σ H s->CX X.stack H s E e s'->X.xe e s'
section
variable {X:Cx} {CX:CXT} {k:Nat} {f C:Addr} {fd:FuncData} {ps:List Str} {sp:Sp} {dvs:List V} {ds:List Value} {E:XK} {x m:Str} {p pos apos:Pos} {e o:Expr} {es:List Expr} {ta:TE} {t:TA}
theorem run_fn {pins:List (Addr × Obj)} {σ:St} {H:Hp} {s:Shared} {Q:VK} {us:List Value} {vs:List V} (F:FnOk X.prog X.w X.K X.mg X.base CX k f fd ps sp) (hr:Room k X.A) (hb:Binds X.K fd ps ds) (hd:Vals dvs ds) (hx:Passes CX X E)
  (I:Inv X pins σ H s) (r:Vals vs us) (h:sp (vs++dvs) H Q E):wpAny (model X.prog X.w) X.A (call (.ref f) us) (EP X pins σ Q) X.xe s:=by
 have r2:Vals (vs++dvs) (us++ds):=r.append hd
 have hl:(us++ds).length=ps.length:=by rw[← r2.length]; exact F.len _ _ _ _ h
 refine wpAny_call (codeAny_mono (F.run X.A X.stack s H ⟨us,[]⟩ (us++ds) (vs++dvs) Q E hr I.env0 (hb s us I.kIn hl) r2 h) fun r s' hq=>?_)
 cases r with
 | error e=>exact hx pins σ H s e s' I hq
 | ok fl =>
  cases fl with
  | ret u=>exact I.after hq
  | next=>exact False.elim hq
  | brk=>exact False.elim hq
  | cont=>exact False.elim hq
theorem pe_call (F:FnOk X.prog X.w X.K X.mg X.base CX k f fd ps sp) (hr:Room k X.A) (hg:Gl X x) (hm:X.mg x=some (.ref f)) (hk:PySem.W.keepIn X.K (.ref f)=true) (hb:Binds X.K fd ps ds) (hd:Vals dvs ds) (hx:Passes CX X E)
  (ha:PA X (e::es) t) (hdb:(x == ("__debug__" : Str))=false:=by decide) (he:starEach (e::es) X.env=(false,eval e X.env)::starEach es X.env:=by rfl) (hpl:(backTo pos (starEach es X.env)).any (·.1)=false:=by rfl) :
  PE X (.Call (.Name x p) (e::es) [] pos) (tCall sp dvs E t):=by
 intro pins s σ H Q I h
 refine wpAny_Call_Name_kw (ld_glob I hg hm ?_ hdb)
 refine PySem.W.callWith_K (h₀:=X.base) I.ok.mod.kin hk (thn (ha pos pins s σ H _ I h) fun us s1 ⟨vs,H1,I1,r,q⟩=>⟨I1.kIn,?_⟩) he hpl
 exact run_fn F hr hb hd hx I1 r q
structure Mk (K:PySem.W.Frag) (C f:Addr):Prop where
 makes:PySem.W.makesIn K C=true
 init:PySem.W.findIn K (.ref C) "__init__" = some (some (.ref f))
 fn:PySem.W.isFn K (.ref f)=true
 kp:PySem.W.keepIn K (.ref C)=true
end
section
variable {X:Cx} {CX:CXT} {k:Nat} {f C:Addr} {fd:FuncData} {ps ks:List Str} {sp:Sp} {E:XK} {x m:Str} {p pos apos kpos:Pos} {e o:Expr} {es:List Expr} {kws:List Keyword} {te ta:TE} {t tk:TA} {nm:Option Str}
structure KBinds (K:PySem.W.Frag) (fd:FuncData) (ps ks:List Str) (g:List Value->List Value->List Value) (gV:List V->List V->List V):Prop where
 to:∀ (s:Shared) (us ws:List Value),K.In s.heap->(g us ws).length=ps.length->BindsTo s fd ⟨us,ks.zip ws⟩ (ps.zip (g us ws))
 rel:∀ {vs:List V} {us:List Value} {zs:List V} {ws:List Value},Vals vs us->Vals zs ws->Vals (gV vs zs) (g us ws)
variable {g:List Value->List Value->List Value} {gV:List V->List V->List V}
end
structure FnScope (N P:List Str) (sc:Scope):Prop where
 kind:sc.kind = .function
 co:sc.isCoroutine=false
 gen:sc.isGenerator=false
 nd:N.Nodup
 pre:N.take P.length=P
 par:∀ x∈P,sc.names.lookup x=some .local∨sc.names.lookup x=some .cell
 nofree:∀ y∈sc.names,y.2≠.free
theorem bindL_out {kindOf:Str->Option NameKind} {x:Str}:∀ {binds:List (Str × Value)} {m:Str->Option Value},(∀ v,(x,v) ∉ binds)->bindL kindOf binds m x=m x
 | [],_,_=>rfl
 | (n,v)::r,m,h=>by
  unfold bindL
  rw[bindL_out fun w hw=>h w (List.mem_cons_of_mem _ hw)]
  split
  ·have:x≠n:=by rintro rfl; exact h v List.mem_cons_self
   simp [this]
  ·rfl
theorem bindC_out {kindOf:Str->Option NameKind} {x:Str}:∀ {binds:List (Str × Value)} {m:Str->Option Value},(∀ v,(x,v) ∉ binds)->bindC kindOf binds m x=m x
 | [],_,_=>rfl
 | (n,v)::r,m,h=>by
  unfold bindC
  rw[bindC_out fun w hw=>h w (List.mem_cons_of_mem _ hw)]
  split
  ·rfl
  ·have:x≠n:=by rintro rfl; exact h v List.mem_cons_self
   simp [this]
theorem bindL_get {kindOf:Str->Option NameKind} {x:Str} {v:Value}:∀ {P:List Str} {vs:List Value} {i:Nat} {m:Str->Option Value},P.Nodup->P[i]? = some x->vs[i]? = some v->kindOf x=some .local →
  bindL kindOf (P.zip vs) m x=some v
 | [],_,_,_,_,h,_,_=>by simp at h
 | _::_,[],_,_,_,_,h,_=>by simp at h
 | p::P,w::vs,0,m,nd,h1,h2,hk=>by
  simp at h1 h2; subst h1; subst h2
  show bindL kindOf ((p,w)::P.zip vs) m p=_
  unfold bindL
  rw[bindL_out fun v hv=>(List.nodup_cons.mp nd).1 (List.of_mem_zip hv).1,if_pos hk]
  simp
 | p::P,w::vs,i+1,m,nd,h1,h2,hk=>by
  show bindL kindOf ((p,w)::P.zip vs) m x=_
  unfold bindL
  exact bindL_get (i:=i) (List.nodup_cons.mp nd).2 (by simpa using h1) (by simpa using h2) hk
theorem bindC_get {kindOf:Str->Option NameKind} {x:Str} {v:Value}:∀ {P:List Str} {vs:List Value} {i:Nat} {m:Str->Option Value},P.Nodup->P[i]? = some x->vs[i]? = some v->kindOf x≠some .local →
  bindC kindOf (P.zip vs) m x=some v
 | [],_,_,_,_,h,_,_=>by simp at h
 | _::_,[],_,_,_,_,h,_=>by simp at h
 | p::P,w::vs,0,m,nd,h1,h2,hk=>by
  simp at h1 h2; subst h1; subst h2
  show bindC kindOf ((p,w)::P.zip vs) m p=_
  unfold bindC
  rw[bindC_out fun v hv=>(List.nodup_cons.mp nd).1 (List.of_mem_zip hv).1,if_neg hk]
  simp
 | p::P,w::vs,i+1,m,nd,h1,h2,hk=>by
  show bindC kindOf ((p,w)::P.zip vs) m x=_
  unfold bindC
  exact bindC_get (i:=i) (List.nodup_cons.mp nd).2 (by simpa using h1) (by simpa using h2) hk
noncomputable def start (N:List Str) (vs:List V):St:=vs.map some++List.replicate (N.length - vs.length) none
noncomputable def cxOf (CX:CXT) (P:Program) (w:World) (K:PySem.W.Frag) (mg:Str->Option Value) (base:Heap) (N:List Str) (qual:Str) (scope:Scope) (f:Addr) (cd:Value) (A:Around) (outer:List Env) (s:Shared) (H:Hp) (E:XK):Cx where
 prog:=P
 w:=w
 K:=K
 mg:=mg
 base:=base
 A:=A.deeper (envOfC qual scope s.heap.objs.size f cd)
 N:=N
 s₀:=s
 H₀:=H
 env:=envOfC qual scope s.heap.objs.size f cd
 outer:=outer
 stack:=envOfC qual scope s.heap.objs.size f cd::outer
 ex:=[]
 calm:=true
 fn:=fun _=>true
 pn:=[]
 xe:=fun e s'=>wpAny (model P w) (A.deeper (envOfC qual scope s.heap.objs.size f cd)) (leaving (envOfC qual scope s.heap.objs.size f cd) e) (fun _ s''=>CX outer H s E e s'') (fun e' s''=>CX outer H s E e' s'') s'
theorem cell_has {sc:Scope} {n:Nat} {x:Str} (h:sc.names.lookup x=some .cell):∃ c,(cellsFrom n sc.names []).lookup x=some c:=by
 have q:=PySem.W.cellsFrom_some sc.names n [] (.inl h)
 exact Option.isSome_iff_exists.mp q
theorem inv_start {CX:CXT} {P:Program} {w:World} {K:PySem.W.Frag} {mg:Str->Option Value} {base:Heap} {N ps:List Str} {qual:Str} {scope:Scope} {f:Addr} {cd:Value} {A:Around} {outer:List Env} {s s1:Shared} {H:Hp} {E:XK} {us:List Value} {vs:List V}
  (S:FnScope N ps scope) (hd:A.handled=none) (e0:Env0 P w K mg base A outer s H) (hl:vs.length=ps.length) (r:Vals vs us)
  (x:InCallC s s.heap.objs.size (bindL (envOfC qual scope s.heap.objs.size f cd).kindOf (ps.zip us) fun _=>none) (cellsFrom (s.heap.objs.size+1) scope.names []) (bindC (envOfC qual scope s.heap.objs.size f cd).kindOf (ps.zip us) fun _=>none) s1) :
  Inv (cxOf CX P w K mg base N qual scope f cd A outer s H E) [] (start N vs) H s1:=by
 have hpl:ps.length<=N.length:=by have:=congrArg List.length S.pre; rw[List.length_take] at this; lia
 obtain⟨h1,tk,rfl,hk⟩:=x.done
 have noA:∀ b:Addr,b ∉ (cxOf CX P w K mg base N qual scope f cd A outer s H E).ex:=fun b z=>absurd (show b∈([]:List Addr) from z) (by simp)
 refine⟨⟨e0.mod,S.kind,rfl,rfl,Nat.le_refl _,fun y z c h1 h2=>?_,fun y hy=>?_,fun y c _ h=>?_,fun _=>hd,Around.frames_deeper e0.frames,.inr ⟨rfl,rfl⟩,fun b z=>absurd z (noA b),e0.bs,e0.bsz,fun b _ _=>noA b,fun b z=>absurd z (noA b),e0.funs,e0.frf⟩,
  rfl,e0.bare,Un.kept hk,⟨_,x.toInCall.ns,fun i y v h1 h2 h3=>?_⟩,fun y c h=>⟨_,x.cell y c h⟩,e0.hok.fresh (Nat.le_refl _),fun y c h=>?_,fun p hp=>absurd (show p∈([]:List (Addr × Obj)) from hp) (by simp),e0.hok.kept hk,?_⟩
 ·exact name_of_addr x.apart (PySem.mem_of_lookup h1) (PySem.mem_of_lookup h2)
 ·have hy:scope.names.lookup y=some .cell∨scope.names.lookup y=some .free:=hy
  rcases hy with hy | hy
  ·exact cell_has hy
  ·exact absurd rfl (S.nofree _ (PySem.mem_of_lookup hy))
 ·exact Nat.le_of_lt (x.above y c (PySem.mem_of_lookup h))
 ·have hi:i < vs.length:=by
   unfold start at h2
   by_cases hi:i < vs.length
   ·exact hi
   ·rw[List.getElem?_append_right (by simpa using hi)] at h2
    rw[List.getElem?_replicate] at h2
    split at h2 <;> cases h2
  have ha:vs[i]? = some v:=by
   unfold start at h2
   rw[List.getElem?_append_left (by simpa using hi),List.getElem?_map] at h2
   cases e:vs[i]? with
   | none=>rw[e] at h2; cases h2
   | some a=>rw[e] at h2; cases h2; rfl
  obtain⟨u,hu,rv⟩:=r.get ha
  have hp:ps[i]? = some y:=by
   rw[← S.pre,List.getElem?_take_of_lt (by lia)]; exact h1
  have ndP:ps.Nodup:=by rw[← S.pre]; exact S.nd.sublist (List.take_sublist _ _)
  refine⟨u,rv,?_⟩
  rcases S.par y (List.mem_of_getElem? hp) with k | k
  ·exact .inl ⟨k,bindL_get ndP hp hu k⟩
  ·obtain⟨c,e⟩:=cell_has (n:=s.heap.objs.size+1) k
   refine .inr ⟨.inl k,c,e,?_⟩
   have q:=x.cell y c e
   rw[bindC_get ndP hp hu (by show scope.names.lookup y≠_; rw[k]; decide)] at q
   exact q
 ·exact e0.hok.fresh (Nat.le_of_lt (x.above y c (PySem.mem_of_lookup h)))
 ·unfold start
  show _=N.length
  rw[List.length_append,List.length_map,List.length_replicate]
  lia
theorem fn_of {CX:CXT} {P:Program} {w:World} {K:PySem.W.Frag} {mg:Str->Option Value} {base:Heap} {k:Nat} {f:Addr} {name qual:Str} {params:Arguments} {body:List Stmt} {scope:Scope} {dV kV doc pm cdv ct oc:Value} {an od:Option Addr}
  {osl:Array (Option Value)} {N ps:List Str} {sp:Sp} (lk:K.lookup f=some ⟨oc,od,.func (PySem.W.fnOf name qual params body scope dV kV doc pm an cdv ct),osl⟩) (hcd:PySem.W.codeIn K cdv qual=true) (S:FnScope N ps scope)
  (len:∀ vs H Q E,sp vs H Q E->vs.length=ps.length)
  (hbody:∀ (A:Around) (outer:List Env) (s:Shared) (H:Hp) (vs:List V) (Q:VK) (E:XK),Room k (A.deeper (envOfC qual scope s.heap.objs.size f cdv))->sp vs H Q E →
   ∃ t,PSs (cxOf CX P w K mg base N qual scope f cdv A outer s H E) body t/\t { nx:=fun _ H'=>Q .non H',rt:=Q } (start N vs) H) :
  FnOk P w K mg base CX (k+1) f (PySem.W.fnOf name qual params body scope dV kV doc pm an cdv ct) ps sp:=by
 refine⟨len,fun A outer s H args us vs Q E hr e0 hb r hsp=>?_⟩
 have hl:=len _ _ _ _ hsp
 have KX:K.In s.heap:=e0.mod.kin.keeps fun b o e=>(e0.bs b o e).1
 have lim:s.heap.NoLimit:=e0.mod.nolimit.keeps fun b o e=>(e0.bs b o e).1
 have hkind:∀ y∈ps.zip us,scope.names.lookup y.1=some .local∨(scope.names.lookup y.1=some .cell/\((cellsFrom (s.heap.objs.size+1) scope.names []).lookup y.1).isSome=true):=fun⟨n,v⟩ hy=>by
  rcases S.par n (List.of_mem_zip hy).1 with q | q
  ·exact .inl q
  ·exact .inr ⟨q,PySem.W.cellsFrom_some _ _ _ (.inl q)⟩
 refine codeAny_call_function hr.depth (KX _ _ lk) rfl S.co S.gen rfl (PySem.W.codeRec_of KX hcd) (hb _ _ _ _ ?_)
 refine wpAny_newFunctionEnv_cells S.kind hkind fun env he s1 x=>?_
 subst he
 refine⟨lim.keeps x.toInCall.keep,codeAny_func ?_⟩
 obtain⟨t,ht,hq⟩:=hbody A outer s H vs Q E (hr.deeper _) hsp
 have I:Inv (cxOf CX P w K mg base N qual scope f cdv A outer s H E) [] (start N vs) H s1:=inv_start S hr.hd e0 hl r x
 refine wpAny_mono (ht [] s1 (start N vs) H _ I hq) (fun fl s' hs=>?_) fun e s' hs=>hs
 have fin:∀ {σ':St} {H':Hp} {v:V} {u:Value},Inv (cxOf CX P w K mg base N qual scope f cdv A outer s H E) [] σ' H' s'->RelV v u->Q v H'->CE outer P w H s Q u s' :=
  fun {σ' H' v u} J rv q=>⟨v,H',J.os,J.bare,J.base,J.hok,rv,q⟩
 cases fl with
 | ret u =>
  obtain⟨v,σ',H',J,rv,q⟩:=hs
  exact fin J rv q
 | next =>
  obtain⟨σ',H',J,q⟩:=hs
  exact fin (v:=V.non) (u:=Value.none) J rfl q
 | brk =>
  obtain⟨_,_,_,q⟩:=hs
  exact False.elim q
 | cont =>
  obtain⟨_,_,_,q⟩:=hs
  exact False.elim q
end L2
namespace L2
open PySem PySem.Spec PyProof.Rows
section
variable {X:Cx} {x:Str} {p pos:Pos} {e:Expr} {es:List Expr} {t:TA} {id T:String} {r:List V->Hp->VK->Prop}
noncomputable def tCB (r:List V->Hp->VK->Prop) (t:TA):TE:=fun σ H Q=>t σ H fun vs H1=>r vs H1 Q
theorem pe_callB (hc:CallR X (.builtin id) r) (hg:Gl X x) (hm:X.mg x=none) (hv:bootBuiltins x=some (.builtin id)) (ha:PA X (e::es) t) (hn:x≠"__name__":=by decide) (hdb:(x == ("__debug__" : Str))=false:=by decide)
  (he:starEach (e::es) X.env=(false,eval e X.env)::starEach es X.env:=by rfl) (hpl:(backTo pos (starEach es X.env)).any (·.1)=false:=by rfl):PE X (.Call (.Name x p) (e::es) [] pos) (tCB r t):=by
 intro pins s σ H Q I h
 refine wpAny_Call_Name_kw (ld_blt I hg hm hv ?_ hn hdb)
 exact PyProof.Rows.callWith_builtin1 (thn (ha pos pins s σ H _ I h) fun us s1 ⟨vs,H1,I1,r1,q1⟩=>hc pins s1 σ H1 vs us Q I1 r1 q1) he hpl
theorem pe_callTy (hc:CallR X (.type T) r) (hg:Gl X x) (hm:X.mg x=none) (hv:bootBuiltins x=some (.type T)) (ha:PA X (e::es) t) (hn:x≠"__name__":=by decide) (hdb:(x == ("__debug__" : Str))=false:=by decide)
  (he:starEach (e::es) X.env=(false,eval e X.env)::starEach es X.env:=by rfl) (hpl:(backTo pos (starEach es X.env)).any (·.1)=false:=by rfl):PE X (.Call (.Name x p) (e::es) [] pos) (tCB r t):=by
 intro pins s σ H Q I h
 refine wpAny_Call_Name_kw (ld_blt I hg hm hv ?_ hn hdb)
 exact PyProof.Rows.callWith_type1 (thn (ha pos pins s σ H _ I h) fun us s1 ⟨vs,H1,I1,r1,q1⟩=>hc pins s1 σ H1 vs us Q I1 r1 q1) he hpl
end
end L2
namespace HT
open PySem PyProof.Rows
noncomputable def lexLt:List Int->List Int->Bool
 | [],[]=>false
 | [],_::_=>true
 | _::_,[]=>false
 | x::xs,y::ys=>if x=y then lexLt xs ys else decide (x < y)
theorem lexLt_cons (x y:Int) (xs ys:List Int):lexLt (x::xs) (y::ys)=if x=y then lexLt xs ys else decide (x < y):=rfl
section
open PySem.SeqAt
open PySem.AutoSeq1 (wpAny_loadPart')
open PySem.MeetsSeq PySem.MeetsSeq2 PySem.MeetsSeq3
end
section
variable {prog:Program} {w:World} {A:Around} {E:Value->Shared->Prop} {s:Shared}
noncomputable def sIx (n d:Nat):Option Int->Nat
 | none=>d
 | some v=>if v < 0 then (v+(n:Int)).toNat else min v.toNat n
theorem sIx_none (n d:Nat):sIx n d none=d:=rfl
theorem sIx_nat (n d k:Nat):sIx n d (some (k:Int))=min k n:=by
 show (if (k:Int) < 0 then ((k:Int)+(n:Int)).toNat else min (k:Int).toNat n)=min k n
 rw[if_neg (by lia),Int.toNat_natCast]
end
end HT
namespace L2
open PySem PySem.Spec PyProof.Rows
noncomputable abbrev TO:=St->Hp->(Option Int->Hp->Prop)->Prop
noncomputable def PO (X:Cx) (e:Option Expr) (t:TO):Prop :=
 ∀ (pins:List (Addr × Obj)) (s:Shared) (σ:St) (H:Hp) (Q:Option Int->Hp->Prop),Inv X pins σ H s->t σ H Q →
  wpAny (model X.prog X.w) X.A (evalPart e X.env) (fun u s'=>∃ o H',Inv X pins σ H' s'/\IsPart u o/\Q o H') X.xe s
noncomputable def tNoPart:TO:=fun _ H Q=>Q none H
noncomputable def tPart (t:TE):TO:=fun σ H Q=>t σ H fun x H1=>∃ i,x = .int i/\Q (some i) H1
theorem intsAre_of {ns:List Int}:∀ {us:List Value},Vals (ns.map V.int) us->IntsAre us ns:=by
 induction ns with
 | nil=>intro us r; rw[List.map_nil] at r; cases r; exact .nil
 | cons n ns ih =>
  intro us r
  rw[List.map_cons] at r
  cases r with
  | cons r1 r2 =>
   obtain⟨t,e⟩:=r1
   subst e
   exact .cons n t (ih r2)
section
variable {X:Cx} {e:Expr} {te:TE} {lo hi:Option Expr} {tl th:TO} {pos p2:Pos}
theorem po_none:PO X none tNoPart:=by
 intro pins s σ H Q I h
 rw[evalPart_none]
 exact wpAny_pure ⟨none,H,I,.none,h⟩
theorem po_some (h:PE X e te):PO X (some e) (tPart te):=by
 intro pins s σ H Q I hw
 rw[evalPart_some]
 refine thn (h pins s σ H _ I hw) fun u s1 ⟨x,H1,I1,r1,q1⟩=>?_
 obtain⟨i,rfl,q⟩:=q1
 obtain⟨t,rfl⟩:=r1
 exact⟨some i,H1,I1,.int i t,q⟩
noncomputable def SlR (X:Cx) (r:V->Option Int->Option Int->Hp->VK->Prop):Prop :=
 ∀ (pins:List (Addr × Obj)) (s:Shared) (σ:St) (H:Hp) (x:V) (v vl vu:Value) (lo hi:Option Int) (sl:Addr) (Q:VK),Inv X pins σ H s->RelV x v->s.heap.IsSliceOf sl vl vu .none->IsPart vl lo->IsPart vu hi->r x lo hi H Q →
  ∃ T id,typeLookup (.type T) "__getitem__" = pure (some (.builtin id))/\s.TypeIs v T/\wpAny (model X.prog X.w) X.A (getItem v (.ref sl)) (EP X pins σ Q) X.xe s
theorem SlR.or {r r':V->Option Int->Option Int->Hp->VK->Prop} (h:SlR X r) (h':SlR X r'):SlR X (fun x lo hi H Q=>r x lo hi H Q∨r' x lo hi H Q):=by
 intro pins s σ H x v vl vu lo hi sl Q I rx hs pl pu q
 rcases q with q | q
 ·exact h pins s σ H x v vl vu lo hi sl Q I rx hs pl pu q
 ·exact h' pins s σ H x v vl vu lo hi sl Q I rx hs pl pu q
noncomputable def tSl (r:V->Option Int->Option Int->Hp->VK->Prop) (te:TE) (tl th:TO):TE:=fun σ H Q=>te σ H fun x H1=>tl σ H1 fun l H2=>th σ H2 fun u H3=>r x l u H3 Q
theorem pe_slice {r:V->Option Int->Option Int->Hp->VK->Prop} (hr:SlR X r) (he:PE X e te) (hl:PO X lo tl) (hu:PO X hi th):PE X (.Subscript e (.Slice lo hi none p2) pos) (tSl r te tl th):=by
 intro pins s σ H Q I h
 refine Subscript_ (thn (he pins s σ H _ I h) fun v s1 ⟨x,H1,I1,r1,q1⟩=>?_)
 refine wpAny_Slice (thn (hl pins s1 σ H1 _ I1 q1) fun vl s2 ⟨l,H2,I2,pl,q2⟩=>thn (hu pins s2 σ H2 _ I2 q2) fun vu s3 ⟨u,H3,I3,pu,q3⟩=>?_)
 rw[evalPart_none]
 refine wpAny_pure ?_
 have I4:Inv X pins σ H3 { s3 with heap:=s3.heap.push { cls:=.type "slice",data:=.fields #[vl,vu,.none] } }:=I3.kept (t':=s3.toks) fun b ob q=>Heap.get?_push_of_some _ q
 obtain⟨T,id,hT,ht,hg⟩:=hr pins { s3 with heap:=s3.heap.push { cls:=.type "slice",data:=.fields #[vl,vu,.none] } } σ H3 x v vl vu l u s3.heap.objs.size Q I4 r1 (Heap.IsSliceOf.new ..) pl pu q3
 show wpAny (model X.prog X.w) X.A (subscriptTail e (.Slice lo hi none p2) v (.ref s3.heap.objs.size)) (EP X pins σ Q) X.xe { s3 with heap:=s3.heap.push { cls:=.type "slice",data:=.fields #[vl,vu,.none] } }
 exact tail_any (ops:=[.ref s3.heap.objs.size,v]) ht hT hg (by with_unfolding_all rfl)
noncomputable def cutV (xs:List V) (lo hi:Option Int):List V:=(xs.drop (HT.sIx xs.length 0 lo)).take (HT.sIx xs.length xs.length hi - HT.sIx xs.length 0 lo)
theorem cutV_length (xs:List V) (lo hi:Option Int):(cutV xs lo hi).length<=xs.length:=by
 unfold cutV
 rw[List.length_take,List.length_drop]
 lia
end
end L2
namespace L2
open PySem PySem.Spec PyProof.Rows
noncomputable def ixN (n:Nat) (i:Int):Option Nat:=if 0<=i then (if i < n then some i.toNat else none) else if -(n:Int)<=i then some (i+n).toNat else none
noncomputable def atI {α:Type} (xs:List α) (i:Int):Option α:=(ixN xs.length i).bind fun j=>xs[j]?
theorem ixN_seq {n:Nat} {i:Int} {j:Nat} (h:ixN n i=some j):seqIndex? i n=some j/\j < n/\-(n:Int)<=i/\i < n:=by
 unfold ixN at h
 by_cases h0:0<=i
 ·rw[if_pos h0] at h
  by_cases h1:i < n
  ·rw[if_pos h1] at h
   have e:i.toNat=j:=Option.some.inj h
   exact⟨by rw[seqIndex_of h0 h1,e],by lia,by lia,h1⟩
  ·rw[if_neg h1] at h; cases h
 ·rw[if_neg h0] at h
  by_cases h1 : -(n:Int)<=i
  ·rw[if_pos h1] at h
   have e:(i+n).toNat=j:=Option.some.inj h
   exact⟨by rw[seqIndex_neg (by lia) h1,e],by lia,h1,by lia⟩
  ·rw[if_neg h1] at h; cases h
theorem atI_get {α:Type} {xs:List α} {i:Int} {v:α} (h:atI xs i=some v):∃ j,seqIndex? i xs.length=some j/\xs[j]? = some v/\j < xs.length/\-(xs.length:Int)<=i/\i < xs.length:=by
 unfold atI at h
 cases e:ixN xs.length i with
 | none=>rw[e] at h; cases h
 | some j =>
  rw[e] at h
  obtain⟨h1,h2,h3,h4⟩:=ixN_seq e
  exact⟨j,h1,h,h2,h3,h4⟩
theorem atI_nat {α:Type} {xs:List α} {j:Nat} {v:α} (h:xs[j]? = some v):atI xs (j:Int)=some v:=by
 have hj:j < xs.length:=(List.getElem?_eq_some_iff.mp h).1
 have e:ixN xs.length (j:Int)=some j:=by
  unfold ixN
  rw[if_pos (by lia),if_pos (by lia)]; simp
 unfold atI; rw[e]; exact h
noncomputable def PlainIx (b:Expr):Prop:=∀ o i,subscripted b false o i=operate [o,i] (getItem o i)
noncomputable def IxR (X:Cx) (r:R2):Prop :=
 ∀ (value slice:Expr) (pins:List (Addr × Obj)) (s:Shared) (σ:St) (H:Hp) (x y:V) (v u:Value) (Q:VK),Inv X pins σ H s->RelV x v->RelV y u->r x y H Q →
  subscripted slice false v u=operate [v,u] (getItem v u)->wpAny (model X.prog X.w) X.A (subscriptTail value slice v u) (EP X pins σ Q) X.xe s
noncomputable def MtR (X:Cx) (id:String) (r:V->List V->Hp->VK->Prop):Prop :=
 ∀ (pins:List (Addr × Obj)) (s:Shared) (σ:St) (H:Hp) (x:V) (xs:List V) (v:Value) (us:List Value) (Q:VK),Inv X pins σ H s->RelV x v->Vals xs us->r x xs H Q →
  wpAny (model X.prog X.w) X.A (call (.builtin id) (v::us)) (EP X pins σ Q) X.xe s
section
variable {X:Cx} {a b:Expr} {ta tb:TE} {pos:Pos}
theorem IxR.or {r r':R2} (h:IxR X r) (h':IxR X r'):IxR X (fun x y H Q=>r x y H Q∨r' x y H Q):=by
 intro value slice pins s σ H x y v u Q I rx ry q hs
 rcases q with q | q
 ·exact h value slice pins s σ H x y v u Q I rx ry q hs
 ·exact h' value slice pins s σ H x y v u Q I rx ry q hs
theorem MtR.or {id:String} {r r':V->List V->Hp->VK->Prop} (h:MtR X id r) (h':MtR X id r'):MtR X id (fun x xs H Q=>r x xs H Q∨r' x xs H Q):=by
 intro pins s σ H x xs v us Q I rx rs q
 rcases q with q | q
 ·exact h pins s σ H x xs v us Q I rx rs q
 ·exact h' pins s σ H x xs v us Q I rx rs q
theorem pe_ix {r:R2} (hr:IxR X r) (ha:PE X a ta) (hb:PE X b tb) (hs:PlainIx b):PE X (.Subscript a b pos) (tOp r ta tb):=by
 intro pins s σ H Q I h
 exact Subscript_ (binT ha hb I h fun v u s2 x y H2 I2 rx ry q=>hr a b pins s2 σ H2 x y v u Q I2 rx ry q (hs _ _))
inductive RIxLI (K:PySem.W.Frag) (x:V) (y:V) (H:Hp) (Q:VK):Prop where
 | mk (p:Addr) (xs:List V) (i:Int) (v:V) (z0:x = .ref p) (z1:y = .int i) (z2:SqL K H p xs) (z3:atI xs i=some v) (z4:Q v H):RIxLI K x y H Q
noncomputable def rIxL (K:PySem.W.Frag):R2:=fun x y H Q=>RIxLI K x y H Q
inductive RIxTI (K:PySem.W.Frag) (x:V) (y:V) (H:Hp) (Q:VK):Prop where
 | mk (p:Addr) (xs:List V) (i:Int) (v:V) (z0:x = .ref p) (z1:y = .int i) (z2:SqT K H p xs) (z3:atI xs i=some v) (z4:Q v H):RIxTI K x y H Q
noncomputable def rIxT (K:PySem.W.Frag):R2:=fun x y H Q=>RIxTI K x y H Q
noncomputable def rIxS:R2:=fun x y H Q=>∃ z i c,x = .str z/\y = .int i/\z.length<=sizeLine/\atI z.cps.toList i=some c/\Q (.str ⟨#[c]⟩) H
theorem ix_list:IxR X (rIxL X.K):=by
 intro value slice pins s σ H x y v u Q I rx ry h hs
 obtain⟨p,xs,i,z,rfl,rfl,hq,he,q⟩:=h
 cases rx
 obtain⟨t,rfl⟩:=ry
 obtain⟨its,r,pl,hz⟩:=I.list hq
 obtain⟨j,h1,h2,h3,h4,h5⟩:=atI_get he
 obtain⟨w,ew,rw'⟩:=r.get h2
 have hl:=r.length
 have hn:=line63
 have fin:EP X pins σ Q w s:=⟨z,H,I,rw',q⟩
 by_cases h0:0<=i
 ·have hj:i.toNat=j:=by
   rw[seqIndex_of h0 h5] at h1
   exact Option.some.inj h1
  exact item_listR pl.isList h0 (by lia) (by rw[hj]; simpa using ew) fin hs
 ·have hj:(i+(its.toArray.size:Int)).toNat=j:=by
   rw[seqIndex_neg (by lia) h4] at h1
   rw[List.size_toArray,← hl]
   exact Option.some.inj h1
  exact subscriptTail_builtinR (x:=w) pl.isList.typeIs slot_list_getitem.lookup
   (wpAny_getItem_list_neg (Q:=fun r s'=>r=w/\EP X pins σ Q r s') pl.isList (by lia) (by rw[List.size_toArray] <;> lia) (by lia) (by rw[hj]; simpa using ew) ⟨rfl,fin⟩) hs
theorem ix_tup:IxR X (rIxT X.K):=by
 intro value slice pins s σ H x y v u Q I rx ry h hs
 obtain⟨p,xs,i,z,rfl,rfl,hq,he,q⟩:=h
 cases rx
 obtain⟨t,rfl⟩:=ry
 obtain⟨its,r,pl,hz⟩:=I.tuple hq
 obtain⟨j,h1,h2,h3,h4,h5⟩:=atI_get he
 obtain⟨w,ew,rw'⟩:=r.get h2
 have hl:=r.length
 have hn:=line63
 have fin:EP X pins σ Q w s:=⟨z,H,I,rw',q⟩
 exact subscriptTail_builtinR (x:=w) pl.typeIs slot_tuple_getitem.lookup
  (getItem_tuple (j:=j) (Q:=fun r s'=>r=w/\EP X pins σ Q r s') pl (by lia) (by lia) (by rw[List.size_toArray,← hl]; exact h1) (by simpa using ew) ⟨rfl,fin⟩) hs
theorem ix_str:IxR X rIxS:=by
 intro value slice pins s σ H x y v u Q I rx ry h hs
 obtain⟨z,i,c,rfl,rfl,hz,he,q⟩:=h
 obtain⟨t,rfl⟩:=rx
 obtain⟨t',rfl⟩:=ry
 obtain⟨j,h1,h2,h3,h4,h5⟩:=atI_get he
 have hl:z.cps.toList.length=z.length:=by simp [Str.length]
 rw[hl] at h1 h4 h5
 have hn:=line63
 exact tail_any (typeIs_str s z t) slot_str_getitem.lookup (getItem_str (c:=c) (by
  have e1:decide (i < -(2 ^ 63:Int))=false:=decide_eq_false (by lia)
  have e2:decide (i ≥ 2 ^ 63)=false:=decide_eq_false (by lia)
  rw[e1,e2,Bool.or_false]) (by rw[h1]; simpa using h2) ⟨.str ⟨#[c]⟩,H,I.tok _,⟨_,rfl⟩,q⟩) hs
noncomputable def rIx (K:PySem.W.Frag):R2:=fun x y H Q=>rIxL K x y H Q∨rIxT K x y H Q∨rIxS x y H Q
theorem ix_seq:IxR X (rIx X.K):=ix_list.or (ix_tup.or ix_str)
theorem Inv.lst {pins:List (Addr × Obj)} {σ:St} {H:Hp} {s:Shared} {p:Addr} {xs:List V} (I:Inv X pins σ H s) (h:H p=some (.lst xs)) :
  ∃ (its:List Value) (n:Nat),Vals xs its/\s.heap.get? p=some { cls:=.type "list",data:=.seq its.toArray n }/\xs.length<=sizeLine:=by
 obtain⟨z,its,n,r,e⟩:=I.hok p _ h
 exact⟨its,n,r,e,z⟩
theorem slice_bounds (lo hi:Option Int) (n:Nat):(sliceBounds lo hi none n).1=((HT.sIx n 0 lo:Nat):Int)/\(sliceBounds lo hi none n).2.1=((HT.sIx n n hi:Nat):Int)/\(sliceBounds lo hi none n).2.2=1:=by
 refine⟨?_,?_,rfl⟩
 ·cases lo with
  | none=>simp [sliceBounds,HT.sIx]
  | some i =>
   simp only[sliceBounds,HT.sIx,Option.getD_none,show (1:Int) > 0 by decide,if_true]
   by_cases h:i < 0
   ·simp only[h,if_true] <;> lia
   ·simp only[h,if_false] <;> lia
 ·cases hi with
  | none=>simp [sliceBounds,HT.sIx]
  | some i =>
   simp only[sliceBounds,HT.sIx,Option.getD_none,show (1:Int) > 0 by decide,if_true]
   by_cases h:i < 0
   ·simp only[h,if_true] <;> lia
   ·simp only[h,if_false] <;> lia
theorem slicePick_cut (its:List Value) (lo hi:Option Int):slicePick its.toArray lo hi none=((its.drop (HT.sIx its.length 0 lo)).take (HT.sIx its.length its.length hi - HT.sIx its.length 0 lo)).toArray:=by
 obtain⟨h1,h2,h3⟩:=slice_bounds lo hi its.toArray.size
 unfold slicePick
 rw[h1,h2,h3]
 simp only[sliceRange_one,pick_run,List.size_toArray] <;> rfl
inductive RSlLI (K:PySem.W.Frag) (x:V) (lo:Option Int) (hi:Option Int) (H:Hp) (Q:VK):Prop where
 | mk (a:Addr) (xs:List V) (z0:x = .ref a) (z1:SqL K H a xs) (z2:∀ p,H p=none->Q (.ref p) (upd H p (.lst (cutV xs lo hi)))):RSlLI K x lo hi H Q
noncomputable def rSlL (K:PySem.W.Frag):V->Option Int->Option Int->Hp->VK->Prop:=fun x lo hi H Q=>RSlLI K x lo hi H Q
theorem sl_list:SlR X (rSlL X.K):=by
 intro pins s σ H x v vl vu lo hi sl Q I rx hs pl pu h
 obtain⟨a,xs,rfl,hx,q⟩:=h
 cases rx
 obtain⟨its,r,ht,hz⟩:=I.list hx
 have hlen:=r.length
 refine⟨"list",_,slot_list_getitem.lookup,ht.isList.typeIs,?_⟩
 refine wpAny_getItem_list_slice ht.isList hs pl pu .none (by simp) ?_ (by rw[List.size_toArray] <;> lia)
 rw[slicePick_cut,← hlen]
 refine⟨.ref s.heap.objs.size,_,I.laid (t':=s.toks) (o:=.lst (cutV xs lo hi)) (fun b ob q=>Heap.get?_push_of_some _ q) (Nat.le_refl _) ?_,rfl,q _ (I.hok.fresh (Nat.le_refl _))⟩
 exact⟨Nat.le_trans (cutV_length xs lo hi) hz,_,0,(r.drop (HT.sIx xs.length 0 lo)).take (HT.sIx xs.length xs.length hi - HT.sIx xs.length 0 lo),Heap.get?_push_size _ rfl⟩
theorem call_len_seq:CallR X (.builtin "len") (fun xs H Q=>∃ p ys,xs=[.ref p]/\(SqL X.K H p ys∨SqT X.K H p ys)/\Q (.int ys.length) H):=by
 intro pins s σ H xs us Q I r h
 obtain⟨p,ys,rfl,hq,q⟩:=h
 obtain⟨u,rfl,rx⟩:=vals1 r
 cases rx
 have hn:=line63
 rcases hq with hq | hq
 ·obtain⟨its,r',pl,hz⟩:=I.list hq
  have hlen:=r'.length
  exact Calls.call_len_list pl.isList (by simp only[List.size_toArray] <;> lia) ⟨.int ys.length,H,I.tok _,⟨s.toks+1,by rw[List.size_toArray,hlen]⟩,q⟩
 ·obtain⟨its,r',pl,hz⟩:=I.tuple hq
  have hlen:=r'.length
  exact len_tuple pl (by simp only[List.size_toArray] <;> lia) ⟨.int ys.length,H,I.tok _,⟨s.toks+1,by rw[List.size_toArray,hlen]⟩,q⟩
theorem CallR.or {f:Value} {r r':List V->Hp->VK->Prop} (h:CallR X f r) (h':CallR X f r'):CallR X f (fun xs H Q=>r xs H Q∨r' xs H Q):=by
 intro pins s σ H xs us Q I rs q
 rcases q with q | q
 ·exact h pins s σ H xs us Q I rs q
 ·exact h' pins s σ H xs us Q I rs q
theorem call_list_of:CallR X (.type "list") (fun xs H Q=>∃ p ys,xs=[.ref p]/\(SqL X.K H p ys∨SqT X.K H p ys)/\∀ l,H l=none->Q (.ref l) (upd H l (.lst ys))):=by
 intro pins s σ H xs us Q I r h
 obtain⟨p,ys,rfl,hq,q⟩:=h
 obtain⟨u,rfl,rx⟩:=vals1 r
 cases rx
 have fin:∀ (its:List Value),Vals ys its->ys.length<=sizeLine->∀ (h':Heap) (c':Nat),(∀ b o',s.heap.get? b=some o'->h'.get? b=some o') →
   h'.get? s.heap.objs.size=some { cls:=.type "list",dict:=none,data:=.seq its.toArray c',slots:=#[] }->EP X pins σ Q (.ref s.heap.objs.size) { s with heap:=h' }:=fun its r' hz h' c' kp e =>
  ⟨.ref s.heap.objs.size,_,I.laid (t':=s.toks) kp (Nat.le_refl _) (show ObjOk X.prog X.w _ h' _ (.lst ys) from ⟨hz,its,c',r',e⟩),rfl,q _ (I.hok.fresh (Nat.le_refl _))⟩
 rcases hq with hq | hq
 ·obtain⟨its,r',pl,hz⟩:=I.list hq
  have hlen:=r'.length
  obtain⟨o,ho,hc,n,hd⟩:=pl.isList
  exact call_list_seq p (.inl rfl) ho hc hd (fun h' c' kp e=>fin its r' hz h' c' kp e) (by simp only[List.size_toArray] <;> lia)
 ·obtain⟨its,r',pl,hz⟩:=I.tuple hq
  have hlen:=r'.length
  obtain⟨o,ho,hc,n,hd⟩:=pl
  exact call_list_seq p (.inr rfl) ho hc hd (fun h' c' kp e=>fin its r' hz h' c' kp e) (by simp only[List.size_toArray] <;> lia)
theorem call_tuple_of:CallR X (.type "tuple") (fun xs H Q=>∃ p ys,xs=[.ref p]/\((SqL X.K H p ys/\∀ l,H l=none->Q (.ref l) (upd H l (.tup ys)))∨(SqT X.K H p ys/\Q (.ref p) H))):=by
 intro pins s σ H xs us Q I r h
 obtain⟨p,ys,rfl,h⟩:=h
 obtain⟨u,rfl,rx⟩:=vals1 r
 cases rx
 rcases h with⟨hq,q⟩ | ⟨hq,q⟩
 ·obtain⟨its,r',pl,hz⟩:=I.list hq
  have hlen:=r'.length
  refine call_tuple_list pl.isList (fun h' kp=>?_) (by simp only[List.size_toArray] <;> lia)
  have I1:Inv X pins σ H { s with heap:=h' }:=I.kept (t':=s.toks) kp
  have I2:Inv X pins σ (upd H h'.objs.size (.tup ys)) { s with heap:=h'.push { cls:=.type "tuple",data:=.seq its.toArray } } :=
   I1.laid (t':=s.toks) (fun b o e=>Heap.get?_push_of_some _ e) (Nat.le_refl _) (show ObjOk X.prog X.w _ _ _ (.tup ys) from ⟨hz,its,r',IsTup.new _ _⟩)
  exact⟨.ref h'.objs.size,_,I2,rfl,q _ (I1.hok.fresh (Nat.le_refl _))⟩
 ·obtain⟨its,r',pl,hz⟩:=I.tuple hq
  exact call_tuple_same pl ⟨.ref p,H,I,rfl,q⟩
noncomputable def tyV (K:PySem.W.Frag) (T:String) (x:V) (H:Hp):Prop:=match x with
 | .str _=>T = "str"
 | .int _=>T = "int"
 | .ref p=>(T = "list"/\∃ xs,SqL K H p xs)∨(T = "tuple"/\∃ o,K.lookup p=some o/\o.cls = .type "tuple"/\o.dict=none) ∨
   (T = "dict"/\((∃ kvs,H p=some (.dK kvs))∨∃ kvs,H p=some (.dT kvs)))∨(T = "set"/\∃ S n,H p=some (.set S n))
 | _=>False
theorem tyV_is {pins:List (Addr × Obj)} {σ:St} {H:Hp} {s:Shared} {T:String} {x:V} {v:Value} (I:Inv X pins σ H s) (r:RelV x v) (ty:tyV X.K T x H) :
  s.TypeIs v T/\∀ a,v = .ref a->∃ ob,s.heap.get? a=some ob/\ob.dict=none:=by
 cases x with
 | str z =>
  obtain⟨t,rfl⟩:=r
  cases (show T = "str" from ty)
  exact⟨typeIs_str s z t,fun _ e=>nomatch e⟩
 | int i =>
  obtain⟨t,rfl⟩:=r
  cases (show T = "int" from ty)
  exact⟨typeIs_int s i t,fun _ e=>nomatch e⟩
 | ref p =>
  cases r
  rcases ty with⟨rfl,xs,hq⟩ | ⟨rfl,o,hk,hc,hd⟩ | ⟨rfl,hk⟩ | ⟨rfl,S,n,hk⟩
  ·obtain⟨its,_,pl,_⟩:=I.list hq
   refine⟨pl.isList.typeIs,fun a e=>?_⟩
   cases e
   obtain⟨o,n,e,c,hd,_⟩:=pl
   exact⟨o,e,hd⟩
  ·refine⟨⟨o,I.kIn p o hk,hc⟩,fun a e=>?_⟩
   cases e
   exact⟨o,I.kIn _ o hk,hd⟩
  ·have z:∃ o,s.heap.get? p=some o/\o.ExactDict:=by
    rcases hk with⟨kvs,hk⟩ | ⟨kvs,hk⟩
    ·obtain⟨_,_,_,_,o,_,_,e,ex,_⟩:=I.hok p _ hk
     exact⟨o,e,ex⟩
    ·obtain⟨_,_,_,_,o,_,_,e,ex,_⟩:=I.hok p _ hk
     exact⟨o,e,ex⟩
   obtain⟨o,e,ex⟩:=z
   refine⟨⟨o,e,ex.1⟩,fun a e2=>?_⟩
   cases e2
   exact⟨o,e,ex.2.1⟩
  ·obtain⟨o,_,_,_,e,ex,_⟩:=I.hok p _ hk
   refine⟨⟨o,e,ex.1⟩,fun a e2=>?_⟩
   cases e2
   exact⟨o,e,ex.2.1⟩
 | _=>exact False.elim ty
noncomputable def tBM0 (K:PySem.W.Frag) (T:String) (r:V->List V->Hp->VK->Prop) (to:TE):TE:=fun σ H Q=>to σ H fun x H1=>tyV K T x H1/\r x [] H1 Q
noncomputable def tBM (K:PySem.W.Frag) (T:String) (r:V->List V->Hp->VK->Prop) (to:TE) (t:TA):TE:=fun σ H Q=>to σ H fun x H1=>tyV K T x H1/\t σ H1 fun xs H2=>r x xs H2 Q
variable {o e:Expr} {es:List Expr} {to:TE} {t:TA} {name:Str} {apos cpos:Pos} {T id:String} {r:V->List V->Hp->VK->Prop}
theorem pe_bm0 (pa:PlainAttrs T) (slot:Slot T name id) (hty:typeOf (.builtin id)=pure (.type "method_descriptor")) (hm:MtR X id r) (ho:PE X o to)
  (hbase:attributeBase o name X.env (eval o X.env)=eval o X.env:=by rfl) (hline:(apos.endLine == cpos.line)=true:=by rfl):PE X (.Call (.Attribute o name apos) [] [] cpos) (tBM0 X.K T r to):=by
 intro pins s σ H Q I h
 refine wpAny_Call_method0_late hbase hline (thn (ho pins s σ H _ I h) fun v s1 ⟨x,H1,I1,r1,ty,q1⟩=>?_)
 obtain⟨h1,h2⟩:=tyV_is I1 r1 ty
 exact⟨T,id,pa,slot,hty,h1,h2,Calls.callWith_builtin rfl (PySem.evalArgs_none (hm pins s1 σ H1 x [] v [] Q I1 r1 .nil q1))⟩
theorem pe_bm (pa:PlainAttrs T) (slot:Slot T name id) (hty:typeOf (.builtin id)=pure (.type "method_descriptor")) (hm:MtR X id r) (ho:PE X o to) (ha:PA X (e::es) t)
  (hbase:attributeBase o name X.env (eval o X.env)=eval o X.env:=by rfl)
  (hfew:((backTo cpos (starEach (e::es) X.env)).all (fun x=>!x.1) && (backToKw cpos (keywordEach [] X.env)).all (fun x=>x.1.isSome)
   && decide ((e::es).length+([]:List Keyword).length+(if ([]:List Keyword).isEmpty then 0 else 1) < 30))=true:=by rfl)
  (hline:(apos.endLine == cpos.line)=true:=by rfl) (hs:starEach (e::es) X.env=(false,eval e X.env)::starEach es X.env:=by rfl) (hplain:(backTo cpos (starEach es X.env)).any (·.1)=false:=by rfl) :
  PE X (.Call (.Attribute o name apos) (e::es) [] cpos) (tBM X.K T r to t):=by
 intro pins s σ H Q I h
 refine wpAny_Call_method_late hbase hfew hline rfl (thn (ho pins s σ H _ I h) fun v s1 ⟨x,H1,I1,r1,ty,q1⟩=>?_)
 obtain⟨h1,h2⟩:=tyV_is I1 r1 ty
 refine⟨T,id,pa,slot,hty,h1,h2,?_⟩
 have hA:=ha cpos pins s1 σ H1 _ I1 q1
 rw[hs] at hA ⊢
 refine Calls.callWith_builtin (by show (false || (backTo cpos (starEach es X.env)).any (·.1))=false; rw[hplain] <;> rfl) (Calls.evalArgs_plain ?_)
 exact thn hA fun us s2 ⟨vs,H2,I2,r2,q2⟩=>hm pins s2 σ H2 x vs v us Q I2 r1 r2 q2
/- xs.append(e),list.index on a module's tuple .. are MtR facts of 06m -/
end
end L2
namespace L2
open PySem PySem.Spec PyProof.Rows
noncomputable def MtM (X:Cx) (id:String) (r:V->List V->Hp->VK->Prop):Prop :=
 ∀ (pins:List (Addr × Obj)) (s:Shared) (σ:St) (H:Hp) (x:V) (xs:List V) (v:Value) (us:List Value) (Q:VK),Inv X pins σ H s->RelV x v->Vals xs us->r x xs H Q →
  wpAny (model X.prog X.w) X.A (call (.builtin id) (v::us)) (EP X pins σ Q) X.xe s
theorem Vals.one:∀ {x:V} {us:List Value},Vals [x] us->∃ u,us=[u]/\RelV x u
 | _,_,.cons r .nil=>⟨_,rfl,r⟩
theorem Vals.two:∀ {x y:V} {us:List Value},Vals [x,y] us->∃ u v,us=[u,v]/\RelV x u/\RelV y v
 | _,_,_,.cons r (.cons q .nil)=>⟨_,_,rfl,r,q⟩
theorem Vals.zero:∀ {us:List Value},Vals [] us->us=[]
 | _,.nil=>rfl
theorem Vals.dropLast {xs:List V} {us:List Value} (h:Vals xs us):Vals xs.dropLast us.dropLast:=by
 induction h with
 | nil=>exact .nil
 | cons r t ih =>
  cases t with
  | nil=>exact .nil
  | cons q t'=>exact .cons r ih
theorem Vals.eraseIdx:∀ {xs:List V} {us:List Value} (i:Nat),Vals xs us->Vals (xs.eraseIdx i) (us.eraseIdx i)
 | _,_,_,.nil=>.nil
 | _,_,0,.cons _ t=>t
 | _,_,i+1,.cons r t=>.cons r (Vals.eraseIdx i t)
theorem Vals.reverse {xs:List V} {us:List Value} (h:Vals xs us):Vals xs.reverse us.reverse:=by
 induction h with
 | nil=>exact .nil
 | cons r t ih=>rw[List.reverse_cons,List.reverse_cons]; exact Vals.append ih (.cons r .nil)
theorem Vals.rep {xs:List V} {us:List Value} (h:Vals xs us):∀ k:Nat,Vals (List.replicate k xs).flatten (List.replicate k us).flatten
 | 0=>.nil
 | k+1=>by
  rw[List.replicate_succ,List.replicate_succ,List.flatten_cons,List.flatten_cons]
  exact Vals.append h (Vals.rep h k)
theorem foldl_rep (its:List Value):∀ (k:Nat) (acc:List Value),
  List.foldl (fun x1 x2=>x1++x2) acc.toArray (List.replicate k its.toArray)=(acc++(List.replicate k its).flatten).toArray
 | 0,acc=>by simp
 | k+1,acc=>by
  have e:acc.toArray++its.toArray=(acc++its).toArray:=by simp
  have e2:(acc++its)++(List.replicate k its).flatten=acc++(List.replicate (k+1) its).flatten:=by
   rw[List.replicate_succ,List.flatten_cons,List.append_assoc]
  rw[← e2,← foldl_rep its k (acc++its),← e,List.replicate_succ,List.foldl_cons]
section
variable {X:Cx} {pins:List (Addr × Obj)} {σ:St} {H:Hp} {s:Shared} {l b:Addr} {xs ys zs:List V}
theorem Inv.lset {its its':List Value} {n:Nat} {f:Array Value->Array Value} {t':Nat} (I:Inv X pins σ H s) (hH:H l=some (.lst xs))
  (e:s.heap.get? l=some { cls:=.type "list",data:=.seq its.toArray n }) (hf:f its.toArray=its'.toArray) (hv:Vals ys its') (hz:ys.length<=sizeLine) :
  Inv X pins σ (upd H l (.lst ys)) { s with heap:=s.heap.update l (Obj.mapSeq f),toks:=t' }:=by
 have q:=PySem.IsL.update e f
 rw[hf] at q
 refine I.write (x:=l) (e:=l) (by rw[hH]; exact trivial) (.inl rfl) (fun b' u hb hu=>(Heap.get?_update_other s.heap (Obj.mapSeq f) (Ne.symm hb)).trans hu) ⟨_,q⟩ ?_
 exact⟨hz,its',_,hv,q⟩
theorem Inv.lnew {its:List Value} {t':Nat} (I:Inv X pins σ H s) (hv:Vals ys its) (hz:ys.length<=sizeLine) :
  Inv X pins σ (upd H s.heap.objs.size (.lst ys)) { s with heap:=s.heap.push { cls:=.type "list",data:=.seq its.toArray },toks:=t' } :=
 I.laid (fun _ _ q=>Heap.get?_push_of_some _ q) (Nat.le_refl _) ⟨hz,its,0,hv,Heap.get?_push_size _ rfl⟩
theorem Inv.fresh (I:Inv X pins σ H s):H s.heap.objs.size=none:=I.hok.fresh (Nat.le_refl _)
theorem Inv.lstM (I:Inv X pins σ H s) (hH:H l=some (.lst xs)):xs.length<=sizeLine/\∃ (its:List Value) (n:Nat),Vals xs its/\xs.length=its.length/\s.heap.get? l=some { cls:=.type "list",data:=.seq its.toArray n }:=by
 obtain⟨z,its,n,r,e⟩:=I.hok l _ hH
 exact⟨z,its,n,r,r.length,e⟩
theorem notLongL {n:Nat} (h:n<=sizeLine):Builtin.List.listTooLong n=false:=by
 unfold Builtin.List.listTooLong
 exact decide_eq_false (by lia)
end
section
variable {X:Cx}
inductive RAppendI (x:V) (vs:List V) (H:Hp) (Q:VK):Prop where
 | mk (l:Addr) (xs:List V) (y:V) (z0:x = .ref l) (z1:vs=[y]) (z2:H l=some (.lst xs)) (z3:xs.length < sizeLine) (z4:Q .non (upd H l (.lst (xs++[y])))):RAppendI  x vs H Q
noncomputable def rAppend:V->List V->Hp->VK->Prop:=fun x vs H Q=>RAppendI  x vs H Q
theorem mt_append:MtM X "list.append" rAppend:=by
 intro pins s σ H x vs v us Q I rx rv h
 obtain⟨l,xs,y,rfl,rfl,hH,hz,q⟩:=h
 cases rx
 obtain⟨u,rfl,ru⟩:=rv.one
 obtain⟨z,its,n,r,hl,e⟩:=I.lstM hH
 refine call_meets F.slot_list_append ⟨_,e,rfl⟩ F.entry_list_append (F.args_list_append_2 _ _) (PySem.list_append l its.toArray n u (by rw[List.size_toArray]; lia)) ⟨e,?_⟩
 refine⟨.non,_,I.lset (its':=its++[u]) hH e (by simp) (r.append (.cons ru .nil)) ?_,rfl,q⟩
 rw[List.length_append,List.length_singleton]
 lia
noncomputable def rReverse:V->List V->Hp->VK->Prop:=fun x vs H Q=>∃ l xs,x = .ref l/\vs=[]/\H l=some (.lst xs)/\Q .non (upd H l (.lst xs.reverse))
theorem mt_reverse:MtM X "list.reverse" rReverse:=by
 intro pins s σ H x vs v us Q I rx rv h
 obtain⟨l,xs,rfl,rfl,hH,q⟩:=h
 cases rx
 have hus:=rv.zero
 subst hus
 obtain⟨z,its,n,r,hl,e⟩:=I.lstM hH
 refine call_meets F.slot_list_reverse ⟨_,e,rfl⟩ F.entry_list_reverse (F.args_list_reverse_1 _) (AutoSeq1.list_reverse_list_0 l its.toArray n (by rw[List.size_toArray]; lia)) ⟨e,?_⟩
 refine⟨.non,_,I.lset (its':=its.reverse) hH e (by simp) r.reverse ?_,rfl,q⟩
 rw[List.length_reverse]
 lia
noncomputable def rRep:R2:=fun x y H Q=>∃ l k xs,x = .ref l/\y = .int k/\H l=some (.lst xs)/\-(2 ^ 63)<=k/\k < 2 ^ 63/\xs.length * k.toNat<=sizeLine ∧
 ∀ p,H p=none->Q (.ref p) (upd H p (.lst (List.replicate k.toNat xs).flatten))
theorem len_rep {α:Type} (xs:List α) (k:Nat):(List.replicate k xs).flatten.length=k * xs.length:=by
 induction k with
 | zero=>simp
 | succ k ih=>rw[List.replicate_succ,List.flatten_cons,List.length_append,ih,Nat.succ_mul,Nat.add_comm]
theorem op_rep:OpR X (binaryOp .Mult) rRep:=by
 intro pins s σ H x y v u Q I rx ry h
 obtain⟨l,k,xs,rfl,rfl,hH,h1,h2,hz,q⟩:=h
 cases rx
 obtain⟨t,rfl⟩:=ry
 obtain⟨z,its,n,r,hl,e⟩:=I.lstM hH
 have hlen:its.toArray.size * k.toNat<=sizeLine:=by rw[List.size_toArray,← hl]; exact hz
 have hcap:¬ its.toArray.size * k.toNat > (2 ^ 63 - 1) / 8:=by
  have:(sizeLine:Nat)<=(2 ^ 63 - 1) / 8:=by decide
  lia
 have hfit:¬ (!Builtin.List.listFitsIndex k)=true:=by
  rw[fitsIndex_both h1 h2]
  exact Bool.false_ne_true
 have hlong:¬ Builtin.List.listTooLong (its.toArray.size * k.toNat)=true:=by
  rw[notLongL hlen]
  exact Bool.false_ne_true
 have hnew:List.foldl (fun x1 x2=>x1++x2) #[] (List.replicate (if its.toArray.isEmpty=true then 0 else k.toNat) its.toArray)=(List.replicate k.toNat its).flatten.toArray:=by
  have f0:∀ m:Nat,List.foldl (fun x1 x2=>x1++x2) #[] (List.replicate m its.toArray)=(List.replicate m its).flatten.toArray:=fun m=>by
   have:=foldl_rep its m []
   rw[List.nil_append] at this
   exact this
  rw[f0]
  cases its with
  | nil=>simp
  | cons a r'=>rw[if_neg (by simp)]
 refine wpAny_binaryOp_repeat_ref (T:="list") (U:="int") (by decide) ⟨_,e,rfl⟩ (fun s'=>typeIs_int s' k t) noFill_list_mul F.fills_int_mul F.slot_int_rmul repeat_list F.slot_int_index.lookup
  (call_meets F.slot_int_rmul (typeIs_int s k t) F.entry_int_rmul (F.args_int_rmul_2 _ _) (int___rmul___int_list k t l its.toArray n)
   ⟨e,rfl,⟨_,e,rfl⟩,call_meets F.slot_list_mul ⟨_,e,rfl⟩ F.entry_list_mul (F.args_list_mul_2 _ _) (AutoListH.list___mul___list_int_3 l its.toArray n k t hfit hcap hlong) ⟨e,?_⟩⟩)
 rw[hnew]
 exact⟨.ref _,_,I.lnew (t':=s.toks) (r.rep k.toNat) (by rw[len_rep,Nat.mul_comm]; exact hz),rfl,q _ I.fresh⟩
end
section
variable {prog:Program} {w:World} {A:Around} {E:Value->Shared->Prop} {s:Shared}
set_option maxRecDepth 100000 in
end
section
variable {X:Cx}
end
end L2
namespace Att
open PySem PySem.W PySem.Calls PyProof.Rows
theorem ints_of_wellAll {P:Params} {h:Heap}:∀ (ns:List Int) (vs:List Value),WellAll P h vs (ns.map WData.int)->IntsAre vs ns:=by
 intro ns
 induction ns with
 | nil =>
  intro vs w
  rw[List.map_nil] at w
  cases w
  exact .nil
 | cons n ns ih =>
  intro vs w
  rw[List.map_cons] at w
  cases w with
  | cons a b =>
   cases a
   exact .cons _ _ (ih _ b)
theorem script_of {l:OpenLaw} {n:Nat} (hn:l.most=some n) {P:Params} {h:Heap} {args:List WData} {vals:List Value}
  (hpre:l.row.toRowW.claim.pre args=true) (hwl:WellAll P h vals args) :
  ∃ a vs ns,vals=[Value.ref a]/\args=[WData.list (ns.map WData.int)]/\h.get? a=some { cls:=.type "list",data:=.seq vs.toArray }/\IntsAre vs ns/\ns.length<=n:=by
 have hsh:WShape.hasAll [] args [.list .int]=true:=(pre_splitW hpre).1
 have hc:l.pre.holds [] { args:=args }=true:=(pre_splitW hpre).2
 obtain⟨d,r,rfl,h1,h2⟩:=hasAllW_cons hsh
 obtain rfl:=hasAllW_nil h2
 obtain⟨xs,rfl,h3⟩:=hasW_list h1
 obtain⟨ns,rfl⟩:=items_int h3
 have hlen:ns.length<=n:=by
  unfold OpenLaw.pre at hc
  have h4:(WTm.not (.lt (.lit (.int (n:Int))) (.len (.arg 0)))).holds [] { args:=[.list (ns.map .int)] }=true:=by
   have h4:=(holds_andW hc).1
   rw[hn] at h4
   exact h4
  have h5:=condW_of h4 (w_not (w_lt w_lit (w_len_list (w_arg rfl))))
  rw[List.length_map] at h5
  refine Nat.le_of_not_lt fun q=>?_
  have q':(n:Int) < ((ns.length:Nat):Int):=by lia
  first
   | (rw[decide_eq_true q'] at h5; exact absurd h5 (by decide))
   | (simp at h5; lia)
 cases hwl with
 | cons w1 w2 =>
  cases w2
  cases w1 with
  | list ho hall=>exact⟨_,_,ns,rfl,rfl,ho,ints_of_wellAll ns _ hall,hlen⟩
theorem post_true (l:OpenLaw) (args:List WData):l.row.toRowW.claim.post args (.bool true) args=true :=
 postW_of (r:=l.row.toRowW) (X:=(true == true))
  (show WShape.has [] (.bool true) .bool=true by first | rfl | decide | simp [WShape.has,WShape.arms,WShape.armsAll])
  (show (WTm.eq .res (.lit (.bool true))).value [] { args:=args,res:=some (.bool true),after:=args }=some (.bool (true == true)) from w_eq_bool (w_res rfl) w_lit) rfl
theorem attach_call {l:OpenLaw} {n:Nat} {q:Program} {loose:List Str} {XP:(Str->Option Value)->Heap->Prop} {YP:World->Heap->Prop} {d:DefRec}
  (hn:l.most=some n) (hdf:d.params.defaults=[])
  (call:∀ (w:World) (s₀ s₁:Shared) (mg mb:Str->Option Value) (fa:Addr) (o:Obj) (pm cd doc:Value) (a:Addr) (vs:List Value) (ns:List Int),
   Ground q loose [] XP w s₀ mg mb s₁.heap->YP w s₁.heap →
   s₁.heap.get? fa=some o->o.data = .func (docDef d.name d.params d.body d.scope pm cd doc)->s₁.heap.CodeRec cd d.name->mg d.name=some (.ref fa) →
   s₁.heap.get? a=some { cls:=.type "list",data:=.seq vs.toArray }->IntsAre vs ns->ns.length<=n->s₁.gens = #[] →
   codeAny (model l.prog w) callerA (.call (.ref fa) ⟨[.ref a],[]⟩) (fun r s'=>r = .ok (.ret (.bool true))/\OldK s₁.heap s'.heap/\s'.os=s₁.os/\AllBare s'.gens) s₁) :
  WalkO q loose XP YP l.row.toRowW d [] (fun f vs=>PySem.call f vs):=by
 intro w s₀ s₁ mg mb G Y fa o pm cd doc dV kV ho hd hcd hD hmg hg args vals as hpre hlay hrd hwl hlo
 obtain rfl:dV = .none:=Dflts.none hD hdf
 obtain rfl:kV = .none:=Dflts.noKw hD
 obtain⟨a,vs,ns,rfl,rfl,hobj,hints,hlen⟩:=script_of hn hpre hwl
 refine enter_call (codeAny_mono (call w s₀ s₁ mg mb fa o pm cd doc a vs ns G Y ho (fd_plain hd) hcd hmg hobj hints hlen hg) fun r s' hq=>?_)
 obtain⟨rfl,h2,h3,h4⟩:=hq
 exact⟨.inl ⟨.bool true,.bool true,[],rfl,fun _=>rfl,.bool true,post_true l _,fun _=>⟨List.Pairwise.nil,fun _ hm=>(nomatch hm)⟩⟩,h2,h3,h4⟩
section
variable {prog:Program} {w:World} {A:Around} {E:Value->Shared->Prop} {s:Shared} {K:Frag}
noncomputable def ledger (h:Heap) (L d:Addr):List (Addr × Obj):=(List.range h.objs.size).filterMap fun a=>if a=L∨a=d then none else (h.get? a).map fun o=>(a,o)
end
end Att
namespace L2
open PySem PySem.Spec PyProof.Rows
theorem vals_ints:∀ {vs:List Value} {ns:List Int},IntsAre vs ns->Vals (ns.map V.int) vs
 | _,_,.nil=>.nil
 | _,_,.cons n t h=>.cons ⟨t,rfl⟩ (vals_ints h)
noncomputable def Only (H:Hp):Prop:=∀ b,H b=none∨∃ o xs,H b=some (.frz o (.lst xs))
theorem law_call {P:Program} {w:World} {K:PySem.W.Frag} {mg mb:Str->Option Value} {CX:CXT} {k:Nat} {fa a:Addr} {fd:FuncData} {x:Str} {sp:Sp} {s₁:Shared} {vs:List Value} {ns:List Int}
  (KX:K.In s₁.heap) (hns:s₁.heap.Ns mainGlobals mg) (hb:s₁.heap.Ns builtinsNs mb) (hbb:∀ x:Str,x≠"__name__"->mb x=bootBuiltins x) (hlim:s₁.heap.NoLimit) (hg:s₁.gens = #[])
  (ha:s₁.heap.get? a=some { cls:=.type "list",data:=.seq vs.toArray }) (hi:IntsAre vs ns) (hl:ns.length<=sizeLine) (hr:Room k callerA)
  (F:∀ base:Heap,K.In base->base.Ns mainGlobals mg->FnOk P w K mg base CX k fa fd [x] sp) (hbind:∀ (s:Shared) (u:Value),BindsTo s fd ⟨[u],[]⟩ [(x,u)])
  (hsp:∀ H:Hp,Only H->SqL K H a (ns.map V.int)->sp [.ref a] H (fun v _=>v = .bl true) fun _ _ _=>False)
  (hCX:∀ H e s',CX [] H s₁ (fun _ _ _=>False) e s'->False) :
  codeAny (model P w) callerA (.call (.ref fa) ⟨[.ref a],[]⟩) (fun r s'=>r = .ok (.ret (.bool true))/\OldK s₁.heap s'.heap/\s'.os=s₁.os/\AllBare s'.gens) s₁:=by
 have rv:=vals_ints hi
 have lenV:=hi.length
 have core:∀ H:Hp,Only H->SqL K H a (ns.map V.int)->HOk P w H s₁.heap->(∀ b,H b≠none->b=a)->(H a≠none->K.lookup a=none) →
   codeAny (model P w) callerA (.call (.ref fa) ⟨[.ref a],[]⟩) (fun r s'=>r = .ok (.ret (.bool true))/\OldK s₁.heap s'.heap/\s'.os=s₁.os/\AllBare s'.gens) s₁:=by
  intro H hO hS hok hA hK
  have base_of:∀ {b:Addr} {o:Obj},s₁.heap.get? b=some o->H b=none->(hidT s₁.heap H).get? b=some o:=fun e n=>hidT_get e n
  have noA:∀ {b:Addr} {o:Obj} {es:Array DictEntry} {ep:Nat},s₁.heap.get? b=some o->o.data = .dict es ep->H b=none:=fun {b o es ep} e d=>by
   cases q:H b with
   | none=>rfl
   | some u =>
    have e':b=a:=hA b (by rw[q]; simp)
    subst e'
    rw[ha] at e; cases e
    have d':Data.seq vs.toArray _=Data.dict es ep:=d
    cases d'
  have nsK:∀ {b:Addr} {m:Str->Option Value},s₁.heap.Ns b m->(hidT s₁.heap H).Ns b m:=fun {b m} ⟨o,es,ep,e,d,r⟩=>⟨o,es,ep,base_of e (noA e d),d,r⟩
  have hKb:K.In (hidT s₁.heap H):=fun b o e=>base_of (KX b o e) (by
   cases q:H b with
   | none=>rfl
   | some u =>
    have e':b=a:=hA b (by rw[q]; simp)
    subst e'
    rw[hK (by rw[q]; simp)] at e; cases e)
  have hM:Mod K mg (hidT s₁.heap H):=⟨hKb,nsK hns,⟨mb,nsK hb,hbb⟩,let ⟨mc,h1,h2⟩:=hlim; ⟨mc,nsK h1,h2⟩⟩
  have e0:Env0 P w K mg (hidT s₁.heap H) callerA [] s₁ H:=⟨rfl,hM,fun b o e=>of_hidT e,Nat.le_of_eq (hidT_size _ _),trivial,fun b hb=>absurd (show b∈([]:List Addr) from hb) (by simp),hok,.of_eq hg⟩
  refine codeAny_mono ((F _ hKb (nsK hns)).run callerA [] s₁ H ⟨[.ref a],[]⟩ [.ref a] [.ref a] _ _ hr e0 (hbind s₁ (.ref a)) (.cons rfl .nil) (hsp H hO hS)) fun r s' h=>?_
  cases r with
  | error e=>exact (hCX H e s' h).elim
  | ok fl =>
   cases fl with
   | next=>exact False.elim h
   | brk=>exact False.elim h
   | cont=>exact False.elim h
   | ret u =>
    obtain⟨v,H',os,bare,un,hok',r',q⟩:=h
    have q':v = .bl true:=q
    subst q'
    obtain rfl:u=Value.bool true:=r'
    refine⟨rfl,OldK.of_keep fun b o e=>?_,os,bare⟩
    cases q:H b with
    | none=>exact un.keep b o e q (by intro z; exact absurd (show b∈([]:List Addr) from z) (by simp)) (by simp)
    | some u =>
     rcases hO b with z | ⟨ob,xs,z⟩
     ·rw[q] at z; cases z
     ·have z2:=un.frzs b ob _ z
      obtain⟨e1,_⟩:=hok b _ z
      obtain⟨e2,_⟩:=hok' b _ z2
      rw[e] at e1; cases e1
      exact e2
 cases hk:K.lookup a with
 | some o =>
  have e:=KX a o hk
  rw[ha] at e
  cases e
  refine core (fun _=>none) (fun _=>.inl rfl) (.inr ⟨_,vs.toArray,_,hk,rfl,rfl,rfl,by rw[List.size_toArray,lenV]; exact hl,by simpa using rv⟩) (fun b u z=>by have z':(none:Option HO)=some u:=z; cases z') (fun b z=>absurd rfl z) fun z=>absurd rfl z
 | none =>
  refine core (fun b=>if b=a then some (.frz { cls:=.type "list",data:=.seq vs.toArray } (.lst (ns.map V.int))) else none) (fun b=>?_) (.inl (.inr ⟨{ cls:=.type "list",data:=.seq vs.toArray },if_pos rfl⟩)) (fun b u z=>?_) (fun b z=>?_) fun _=>hk
  ·by_cases hb:b=a
   ·exact .inr ⟨_,_,if_pos hb⟩
   ·exact .inl (if_neg hb)
  ·by_cases hb:b=a
   ·have z':=(if_pos hb).symm.trans z
    cases z'
    subst hb
    exact⟨ha,by rw[List.length_map]; exact hl,vs,_,rv,ha⟩
   ·have z':=(if_neg hb).symm.trans z
    cases z'
  ·by_cases hb:b=a
   ·exact hb
   ·exact absurd (if_neg hb) z
end L2
namespace L2
open PySem PySem.Spec PyProof.Rows
theorem walk_of {l:PySem.W.OpenLaw} {n k:Nat} {q:Program} {loose:List Str} {XP:(Str->Option Value)->Heap->Prop} {YP:World->Heap->Prop} {d:DefRec} {K:Params->PySem.W.Frag} {CX:World->CXT} {sp:World->Sp} {x:Str}
  (hn:l.most=some n) (hn2:n<=sizeLine) (hdf:d.params.defaults=[]) (hr:Room k callerA)
  (hY:∀ (w:World) (h:Heap),YP w h->(K w.params).In h)
  (F:∀ (w:World) (mg:Str->Option Value) (fa:Addr) (h:Heap),(K w.params).In h->h.Ns mainGlobals mg->mg d.name=some (.ref fa) →
   ∃ fd:FuncData,(∀ (s:Shared) (u:Value),BindsTo s fd ⟨[u],[]⟩ [(x,u)]) ∧
    ∀ base:Heap,(K w.params).In base->base.Ns mainGlobals mg->FnOk l.prog w (K w.params) mg base (CX w) k fa fd [x] (sp w))
  (hsp:∀ (w:World) (H:Hp) (a:Addr) (ns:List Int),ns.length<=n->Only H->SqL (K w.params) H a (ns.map V.int)->sp w [.ref a] H (fun v _=>v = .bl true) fun _ _ _=>False)
  (hCX:∀ (w:World) (H:Hp) (s:Shared) (e:Value) (s':Shared),CX w [] H s (fun _ _ _=>False) e s'->False) :
  PySem.W.WalkO q loose XP YP l.row.toRowW d [] (fun f vs=>PySem.call f vs):=by
 refine Att.attach_call hn hdf fun w s₀ s₁ mg mb fa o pm cd doc a vs ns G Y ho hd hcd hmg hobj hints hlen hg=>?_
 have KX:=hY w _ Y
 obtain⟨fd,hb,hF⟩:=F w mg fa _ KX G.T.g hmg
 exact law_call KX G.T.g G.T.b G.T.builtins G.T.nolimit hg hobj hints (Nat.le_trans hlen hn2) hr hF hb (fun H hO hS=>hsp w H a ns hlen hO hS) fun H e s'=>hCX w H s₁ e s'
end L2
namespace L2
open PySem PySem.Spec PyProof.Rows
noncomputable def defArgs (s:Stmt):Arguments:=match s with
 | .FunctionDef _ a _ _ _ _ _ _ _ _=>a
 | _=>{ posonlyargs:=[],args:=[],vararg:=none,kwonlyargs:=[],kw_defaults:=[],kwarg:=none,defaults:=[] }
noncomputable def defBody (s:Stmt):List Stmt:=match s with
 | .FunctionDef _ _ b _ _ _ _ _ _ _=>b
 | _=>[]
noncomputable def defScope (s:Stmt):Scope:=match s with
 | .FunctionDef _ _ _ _ _ _ sc _ _ _=>sc
 | _=>{ kind:=.function,names:=[],isGenerator:=false,isCoroutine:=false }
noncomputable abbrev CX0:CXT:=fun _ _ _ _ _ _=>False
noncomputable abbrev E0:XK:=fun _ _ _=>False
theorem pass0 {X:Cx}:Passes CX0 X E0:=fun _ _ _ _ _ _ _ h=>h.elim
structure Fun (K:PySem.W.Frag) (x qual:Str) (st:Stmt) (f:Addr) (fd:FuncData):Prop where
 ex:∃ (oc:Value) (od:Option Addr) (kV doc pm:Value) (an:Option Addr) (cdv ct:Value) (osl:Array (Option Value)),
  fd=PySem.W.fnOf x qual (defArgs st) (defBody st) (defScope st) .none kV doc pm an cdv ct/\K.lookup f=some ⟨oc,od,.func fd,osl⟩/\PySem.W.codeIn K cdv qual=true
 kp:PySem.W.keepIn K (.ref f)=true
section
variable {P:Program} {w:World} {K:PySem.W.Frag} {mg:Str->Option Value} {base:Heap}
theorem Fun.ok {x qual:Str} {st:Stmt} {f:Addr} {fd:FuncData} {N ps:List Str} {k:Nat} {sp:Sp} (F:Fun K x qual st f fd) (S:FnScope N ps (defScope st)) (len:∀ vs H Q E,sp vs H Q E->vs.length=ps.length)
  (hbody:∀ (cdv:Value) (A:Around) (outer:List Env) (s:Shared) (H:Hp) (vs:List V) (Q:VK) (E:XK),Room k (A.deeper (envOfC qual (defScope st) s.heap.objs.size f cdv))->sp vs H Q E →
   ∃ t,PSs (cxOf CX0 P w K mg base N qual (defScope st) f cdv A outer s H E).nox (defBody st) t/\t { nx:=fun _ H'=>Q .non H',rt:=Q } (start N vs) H):FnOk P w K mg base CX0 (k+1) f fd ps sp:=by
 obtain⟨oc,od,kV,doc,pm,an,cdv,ct,osl,rfl,lk,hcd⟩:=F.ex
 refine fn_of lk hcd S len fun A outer s H vs Q E hr hsp=>?_
 obtain⟨t,h,q⟩:=hbody cdv A outer s H vs Q E hr hsp
 exact⟨t,h.nox,q⟩
theorem Fun.binds {x qual:Str} {st:Stmt} {f:Addr} {fd:FuncData} {ps:List Str} (F:Fun K x qual st f fd)
  (h:∀ (kV doc pm:Value) (an:Option Addr) (cdv ct:Value) (us:List Value),us.length=ps.length->bindArgs (PySem.W.fnOf x qual (defArgs st) (defBody st) (defScope st) .none kV doc pm an cdv ct) ⟨us,[]⟩=pure (ps.zip us)):Binds K fd ps []:=by
 obtain⟨oc,od,kV,doc,pm,an,cdv,ct,osl,rfl,lk,hcd⟩:=F.ex
 exact .all (h kV doc pm an cdv ct)
theorem fun_mk {x qual:Str} {st:Stmt} {f:Addr} {oc:Value} {od an:Option Addr} {osl:Array (Option Value)} {kV doc pm cdv ct:Value} (l:K.lookup f=some ⟨oc,od,.func (PySem.W.fnOf x qual (defArgs st) (defBody st) (defScope st) .none kV doc pm an cdv ct),osl⟩)
  (c:PySem.W.codeIn K cdv qual=true) (k:PySem.W.keepIn K (.ref f)=true):Fun K x qual st f (PySem.W.fnOf x qual (defArgs st) (defBody st) (defScope st) .none kV doc pm an cdv ct):=⟨⟨oc,od,kV,doc,pm,an,cdv,ct,osl,rfl,l,c⟩,k⟩
end
theorem small1000 {n:Nat} (h:n<=1000):n < sizeLine:=Nat.lt_of_le_of_lt h (by decide)
section
variable {X:Cx}
theorem pv (i:Nat) {x:Str} {pos:Pos} (hN:X.N[i]? = some x:=by rfl) (hv:Vis X.env.scope x:=by first | exact Or.inl rfl | exact Or.inr (Or.inl rfl) | exact Or.inr (Or.inr rfl)) (hd:(x == ("__debug__" : Str))=false:=by decide)
  (hcd:(x == ("__classdict__" : Str))=false:=by decide):PE X (.Name x pos) (tVar i):=pe_var hN hv hd hcd
end
theorem iteF {A B:Prop} (h:B):if false=true then A else B:=by
 rw[if_neg Bool.false_ne_true]
 exact h
theorem iteT {A B:Prop} (h:A):if true=true then A else B:=by
 rw[if_pos rfl]
 exact h
theorem ite2 {c A B:Prop} [Decidable c] (h1:c->A) (h2:¬ c->B):if c then A else B:=by
 by_cases h:c
 ·rw[if_pos h]
  exact h1 h
 ·rw[if_neg h]
  exact h2 h
noncomputable def Same (H H':Hp):Prop:=∀ b o,H b=some o->H' b=some o
theorem Same.refl (H:Hp):Same H H:=fun _ _ h=>h
theorem Same.trans {H H1 H2:Hp} (a:Same H H1) (b:Same H1 H2):Same H H2:=fun c o h=>b c o (a c o h)
theorem Same.free {H H':Hp} (e:Same H H') {l:Addr} (h:H' l=Option.none):H l=Option.none:=by
 cases q:H l with
 | none=>rfl
 | some o =>
  rw[e l o q] at h
  cases h
theorem Same.seq {K:PySem.W.Frag} {H H':Hp} {a:Addr} {xs:List V} (e:Same H H') (h:SqL K H a xs):SqL K H' a xs:=by
 rcases h with (h | ⟨o,h⟩) | h
 ·exact .inl (.inl (e _ _ h))
 ·exact .inl (.inr ⟨o,e _ _ h⟩)
 ·exact .inr h
end L2
set_option maxHeartbeats 4000000
namespace L2
open PySem PySem.Spec PyProof.Rows
theorem rl_free {env:Env}:∀ {names:List (Str × NameKind)} {x:Str},names.lookup x=some .free →
  (names.map fun (n,k)=>if (k == NameKind.free && env.scope.kind == .function && env.kindOf n == some .cell) then (n,NameKind.cell) else (n,k)).lookup x=some .cell ∨
  (names.map fun (n,k)=>if (k == NameKind.free && env.scope.kind == .function && env.kindOf n == some .cell) then (n,NameKind.cell) else (n,k)).lookup x=some .free
 | [],_,h=>by simp at h
 | (n,k)::r,x,h=>by
  have ih:=@rl_free env r x
  rw[List.map_cons]
  cases hx:x == n with
  | true =>
   rw[List.lookup_cons,hx] at h
   cases h
   by_cases hc:(NameKind.free == NameKind.free && env.scope.kind == .function && env.kindOf n == some .cell)=true
   ·refine .inl ?_
    dsimp only
    rw[if_pos hc,List.lookup_cons,hx]
   ·refine .inr ?_
    dsimp only
    rw[if_neg hc,List.lookup_cons,hx]
  | false =>
   rw[List.lookup_cons,hx] at h
   dsimp only
   by_cases hc:(k == NameKind.free && env.scope.kind == .function && env.kindOf n == some .cell)=true
   ·rw[if_pos hc,List.lookup_cons,hx]; exact ih h
   ·rw[if_neg hc,List.lookup_cons,hx]; exact ih h
theorem rl_back {env:Env}:∀ {names:List (Str × NameKind)} {x:Str} {k':NameKind},
  (names.map fun (n,k)=>if (k == NameKind.free && env.scope.kind == .function && env.kindOf n == some .cell) then (n,NameKind.cell) else (n,k)).lookup x=some k'->names.lookup x=some k'∨names.lookup x=some .free
 | [],_,_,h=>by simp at h
 | (n,k)::r,x,k',h=>by
  have ih:=@rl_back env r x k'
  rw[List.map_cons] at h
  dsimp only at h
  cases hx:x == n with
  | true =>
   rw[List.lookup_cons,hx]
   by_cases hc:(k == NameKind.free && env.scope.kind == .function && env.kindOf n == some .cell)=true
   ·have hk:k = .free:=by
     rw[Bool.and_eq_true,Bool.and_eq_true] at hc
     exact eq_of_beq hc.1.1
    exact .inr (by rw[hk])
   ·rw[if_neg hc,List.lookup_cons,hx] at h
    exact .inl h
  | false =>
   rw[List.lookup_cons,hx]
   by_cases hc:(k == NameKind.free && env.scope.kind == .function && env.kindOf n == some .cell)=true
   ·rw[if_pos hc,List.lookup_cons,hx] at h; exact ih h
   ·rw[if_neg hc,List.lookup_cons,hx] at h; exact ih h
theorem clos_go {env:Env}:∀ (names:List (Str × NameKind)) (acc:List (Str × Addr)),(∀ y∈names,y.2 = .free->∃ c,env.cells.lookup y.1=some c)->(∀ n c,acc.lookup n=some c->env.cells.lookup n=some c) →
  ∃ cl,(forIn names acc (fun (x:Str × NameKind) (r:List (Str × Addr))=>(match x with | (name,kind)=>if (kind == NameKind.free)=true then (do let c ← cellOf env name; pure (ForInStep.yield ((name,c)::r))) else pure (ForInStep.yield r):Sem (ForInStep (List (Str × Addr))))))=pure cl ∧
   (∀ n c,cl.lookup n=some c->env.cells.lookup n=some c)/\(∀ n c,acc.lookup n=some c->∃ c',cl.lookup n=some c')/\∀ y∈names,y.2 = .free->∃ c,cl.lookup y.1=some c
 | [],acc,_,h=>⟨acc,by rw[List.forIn_nil],h,fun _ c e=>⟨c,e⟩,fun y hy=>by simp at hy⟩
 | (n,k)::r,acc,hf,h=>by
  rw[List.forIn_cons]
  dsimp only
  by_cases hk:(k == NameKind.free)=true
  ·rw[if_pos hk]
   have hk':k = .free:=eq_of_beq hk
   obtain⟨c,hc⟩:=hf (n,k) List.mem_cons_self hk'
   have hc:env.cells.lookup n=some c:=hc
   have ec:cellOf env n=pure c:=by unfold cellOf; rw[hc]
   have h2:∀ m d,((n,c)::acc).lookup m=some d->env.cells.lookup m=some d:=fun m d e=>by
    rw[List.lookup_cons] at e
    cases hx:m == n with
    | true=>rw[hx] at e; cases e; rw[eq_of_beq hx]; exact hc
    | false=>rw[hx] at e; exact h m d e
   obtain⟨cl,e1,e2,e3,e4⟩:=clos_go r ((n,c)::acc) (fun y hy=>hf y (List.mem_cons_of_mem _ hy)) h2
   refine⟨cl,by rw[ec,pure_bind,pure_bind]; exact e1,e2,fun m d e=>?_,fun y hy hyf=>?_⟩
   ·refine (match hx:m == n with | true=>e3 m c (by rw[List.lookup_cons,hx]) | false=>e3 m d (by rw[List.lookup_cons,hx]; exact e))
   ·rcases List.mem_cons.mp hy with rfl | hy
    ·exact e3 n c (by rw[List.lookup_cons,beq_self_eq_true])
    ·exact e4 y hy hyf
  ·rw[if_neg hk]
   obtain⟨cl,e1,e2,e3,e4⟩:=clos_go r acc (fun y hy=>hf y (List.mem_cons_of_mem _ hy)) h
   refine⟨cl,by rw[pure_bind]; exact e1,e2,e3,fun y hy hyf=>?_⟩
   rcases List.mem_cons.mp hy with rfl | hy
   ·exact absurd (by rw[show k=NameKind.free from hyf]; rfl) hk
   ·exact e4 y hy hyf
theorem clos_ok {scope:Scope} {env:Env} (h:∀ y∈scope.names,y.2 = .free->∃ c,env.cells.lookup y.1=some c) :
  ∃ cl,closureFor scope env=pure cl/\(∀ n c,cl.lookup n=some c->env.cells.lookup n=some c)/\∀ y∈scope.names,y.2 = .free->∃ c,cl.lookup y.1=some c:=by
 obtain⟨cl,e1,e2,_,e4⟩:=clos_go scope.names [] h (fun _ _ e=>by simp at e)
 refine⟨cl,?_,e2,e4⟩
 unfold closureFor
 first
  | exact e1
  | (rw[← bind_pure (x:=pure cl),← e1]; rfl)
  | (simp only[bind_pure]; exact e1)
noncomputable def cxComp (X:Cx) (scope:Scope) (cl:List (Str × Addr)) (C:Addr) (N:List Str) (s:Shared) (H:Hp) (fp:List Addr):Cx :=
 {X with N:=N,s₀:=s,H₀:=H,env:=compEnvC scope cl C X.env,outer:=X.stack,ex:=fp,fn:=fun _=>false,pn:=[],xe:=fun _ _=>False }
structure CompOk (X:Cx) (scope:Scope) (F:List Str) (cap:List Nat):Prop where
 kind:scope.kind = .function
 cell:∀ y∈scope.names,y.2≠.cell
 nms:∀ y∈scope.names,y.2 = .local->scope.names.lookup y.1=some .local
 fr:∀ y∈scope.names,y.2 = .free->X.env.kindOf y.1=some .cell∨X.env.kindOf y.1=some .free
 len:cap.length=F.length
 at':∀ (k:Nat) (x:Str),F[k]? = some x->∃ i,cap[k]? = some i/\X.N[i]? = some x/\scope.names.lookup x=some .free
noncomputable def PTs (X:Cx) (ifs:List Expr) (t:TT):Prop :=
 ∀ (pins:List (Addr × Obj)) (s:Shared) (σ:St) (H:Hp) (Q:Bool->Hp->Prop),Inv X pins σ H s->t σ H Q →
  wpAny (model X.prog X.w) X.A (forIn ifs true fun c r=>if r=true then do let ok ← isTrue c X.env (eval c X.env); pure (ForInStep.yield ok) else pure (ForInStep.yield r)) (TP X pins σ Q) X.xe s
noncomputable def tTrue:TT:=fun _ H Q=>Q true H
theorem pts_nil {X:Cx}:PTs X [] tTrue:=fun _ _ _ H _ I h=>wpAny_tests_nil ⟨H,I,h⟩
theorem comp_turns {prog:Program} {w:World} {A:Around} {R:Result->Shared->Prop} {s:Shared} {elt target iter:Expr} {ifs:List Expr} {scope:Scope} {pos:Pos} {it acc:Value} {env:Env} (I:Nat->Shared->Prop)
  (turn:∀ n s,I n s->wpAny (model prog w) A (pyNext it) (fun r s₁=>match r with
   | none=>R (.ok .next) s₁
   | some v=>wpAny (model prog w) A (letOwnedTupleGo target it v) (fun _ s₀=>wpAny (model prog w) A (assign target env v) (fun _ s₂ =>
     wpAny (model prog w) A (forIn ifs true fun c r=>if r=true then do let ok ← isTrue c env (eval c env); pure (ForInStep.yield ok) else pure (ForInStep.yield r)) (fun ok s₃ =>
      if ok=true then wpAny (model prog w) A (eval elt env) (fun x s₄=>wpAny (model prog w) A (call (.builtin "list.append") [acc,x]) (fun _ s₅=>∃ m,m < n/\I m s₅) (fun _ _=>False) s₄) (fun _ _=>False) s₃
      else ∃ m,m < n/\I m s₃) (fun _ _=>False) s₂) (fun _ _=>False) s₀) (fun _ _=>False) s₁) (fun _ _=>False) s)
  (n:Nat) (h:I n s):codeAny (model prog w) A (.compLoop (.ListComp elt [⟨target,iter,ifs,0⟩] scope pos) 0 it acc env) R s:=by
 have no:∀ {E:Value->Shared->Prop} (x:Value) (s':Shared),(fun (_:Value) (_:Shared)=>False) x s'->E x s':=fun _ _ z=>z.elim
 refine codeAny_loop rfl I (fun n s hI=>?_) n h
 refine (show wpAny (model prog w) A ((compTurn (.ListComp elt [⟨target,iter,ifs,0⟩] scope pos) 0 it acc env).onRaise (fun x=>do noteFrame x env; theTreesLotGoes x)) _ _ s from wpAny_noted ?_)
 rw[compTurn_list]
 refine wpAny_bind (wpAny_standAt (wpAny_bind (wpAny_mono (turn n s hI) (fun r s₁ h₁=>?_) no)))
 cases r with
 | none=>exact wpAny_pure h₁
 | some v =>
  refine wpAny_bind (wpAny_mono h₁ (fun _ s₀ h₀=>wpAny_bind (wpAny_mono h₀ (fun _ s₂ h₂=>wpAny_bind (wpAny_mono h₂ (fun ok s₃ h₃=>?_) no)) no)) no)
  cases ok with
  | false=>exact wpAny_pure ⟨rfl,h₃⟩
  | true=>exact wpAny_bind (wpAny_bind (wpAny_mono h₃ (fun x s₄ h₄=>wpAny_bind (wpAny_mono h₄ (fun _ s₅ h₅=>wpAny_pure (wpAny_pure ⟨rfl,h₅⟩)) no)) no))
noncomputable def tCompAt (D:Addr) (σ0:St) (J:It) (g:TG) (tt:TT) (te:TE) (H1:Hp) (Q:Hp->Prop):Prop :=
 ∃ W:Nat->Nat->List V->St->Hp->Prop,(∃ m,W 0 m [] σ0 (upd H1 D (.lst []))) ∧
  ∀ i m ys σ' H',W i m ys σ' H'->H' D=some (.lst ys)/\((J.stop i H'/\Q H')∨(J.go i H'/\∃ N:List V->St->Hp->Prop,(∀ zs σ2 H2,N zs σ2 H2->∃ m',m' < m/\W (i+1) m' zs σ2 H2) ∧
   ∀ x H2,J.yld i H' x H2->g x σ' H2 fun σ3 H3=>tt σ3 H3 fun b H4=>if b=true then te σ3 H4 fun y H5=>H5 D=some (.lst ys)/\ys.length < sizeLine/\N (ys++[y]) σ3 (upd H5 D (.lst (ys++[y]))) else N ys σ3 H4))
noncomputable def capV (n:Nat) (cap:List Nat) (σ:St):St:=List.replicate n none++cap.map fun i=>(σ[i]?).join
noncomputable def tComp (n:Nat) (cap:List Nat) (wi:TI) (g:TG) (tt:TT) (te:TE):TE:=fun σ H Q=>wi σ H fun J H1=>∀ D,H1 D=none->tCompAt D (capV n cap σ) J g tt te H1 fun H2=>Q (.ref D) H2
section
variable {X:Cx} {elt tg iter:Expr} {ifs:List Expr} {scope:Scope} {pos:Pos} {L F:List Str} {cap:List Nat} {wi:TI} {g:TG} {tt:TT} {te:TE}
theorem frs_sub {pins:List (Addr × Obj)} {σ:St} {H:Hp} {s:Shared} (I:Inv X pins σ H s) {b:Addr} (h1:b≠X.env.locals) (h2:b ∉ X.fs):b ∉ frs X.stack:=fun z=>(List.mem_cons.mp (I.stkSub b z)).elim h1 h2
theorem comp_enter {cl:List (Str × Addr)} {pins:List (Addr × Obj)} {σ:St} {H:Hp} {s:Shared} {fp:List Addr} {h₁:Heap} {tk:Nat} (ok:CompOk X scope F cap) (I:Inv X pins σ H s) (hfp:∀ b∈fp,FpOk X pins H b/\b < s.heap.objs.size)
  (sub:∀ n c,cl.lookup n=some c->X.env.cells.lookup n=some c) (all:∀ y∈scope.names,y.2 = .free->∃ c,cl.lookup y.1=some c)
  (ns:h₁.Ns s.heap.objs.size fun _=>none) (kp:∀ b o,s.heap.get? b=some o->h₁.get? b=some o) :
  Inv (cxComp X scope cl s.heap.objs.size (L++F) s H fp) [] (capV L.length cap σ) H { s with heap:=h₁,toks:=tk }:=by
 have frk:∀ x,scope.names.lookup x=some .free->X.env.kindOf x=some .cell∨X.env.kindOf x=some .free:=fun x e=>ok.fr (x,.free) (PySem.mem_of_lookup e) rfl
 have okX:(cxComp X scope cl s.heap.objs.size (L++F) s H fp).Ok:=by
  refine⟨I.ok.mod,ok.kind,I.ok.glob,I.ok.blt,Nat.le_refl _,fun x y c e1 e2=>I.ok.inj x y c (sub x c e1) (sub y c e2),fun x hx=>?_,fun x c hx _=>?_,I.ok.hd,I.ok.frames,.inl rfl,fun b hb=>?_,I.bs,Nat.le_trans I.ok.bsz I.sz,fun b o e hb=>?_,fun b hb=>?_,I.stack,I.stkFree⟩
  ·have e:scope.names.lookup x=some .free:=by
    rcases hx with hx | hx
    ·rcases rl_back (env:=X.env) (show _=some NameKind.cell from hx) with e | e
     ·exact absurd rfl (ok.cell _ (PySem.mem_of_lookup e))
     ·exact e
    ·rcases rl_back (env:=X.env) (show _=some NameKind.free from hx) with e | e <;> exact e
   exact all (x,.free) (PySem.mem_of_lookup e) rfl
  ·exact absurd (show false=true from hx) Bool.false_ne_true
  ·exact⟨Nat.ne_of_lt (hfp b hb).2,fun x c e=>(hfp b hb).1.2.2.2.2.1 x c (sub x c e)⟩
  ·obtain⟨_,_,_,f3,_⟩:=(hfp b hb).1
   rcases f3 with z | z
   ·exact I.ok.noex b o e z
   ·exact absurd (Nat.lt_of_lt_of_le (Heap.lt_size e) (Nat.le_trans I.ok.bsz z)) (Nat.lt_irrefl _)
  ·obtain⟨_,f1,f2,_⟩:=(hfp b hb).1
   exact frs_sub I f1 f2
 refine⟨okX,rfl,I.bare,Un.kept kp,⟨_,ns,fun i x v e1 e2 e3=>?_⟩,fun x c e=>?_,I.hok.fresh (Nat.le_refl _),fun x c e=>I.freeC x c (sub x c e),fun p hp=>absurd (show p∈([]:List (Addr × Obj)) from hp) (by simp),I.hok.kept kp,?_⟩
 ·have e1:(L++F)[i]? = some x:=e1
  have e2:(List.replicate L.length none++cap.map fun i=>(σ[i]?).join)[i]? = some (some v):=e2
  have hL:¬ i < L.length:=fun hi=>by
   rw[List.getElem?_append_left (by simpa using hi),List.getElem?_replicate] at e2
   split at e2 <;> cases e2
  have hi:L.length<=i:=Nat.le_of_not_lt hL
  rw[List.getElem?_append_right hi] at e1
  rw[List.getElem?_append_right (by simpa using hi),List.length_replicate,List.getElem?_map] at e2
  obtain⟨j,hj,hN,hk⟩:=ok.at' _ _ e1
  rw[hj] at e2
  have e4:(σ[j]?).join=some v:=by simpa using e2
  have e5:σ[j]? = some (some v):=by
   cases q:σ[j]? with
   | none=>rw[q] at e4; cases e4
   | some a=>rw[q] at e4; exact congrArg some e4
  obtain⟨m,hn,hl⟩:=I.loc
  have kd:=frk x hk
  obtain⟨u,r,lk⟩:=hl j x v hN e5 (kd.elim (fun z=>.inr (.inl z)) fun z=>.inr (.inr z))
  obtain⟨c,hc,hcell⟩:∃ c,X.env.cells.lookup x=some c/\s.heap.IsCell c (some u):=by
   rcases lk with⟨z,_⟩ | ⟨_,c,z1,z2⟩
   ·rcases kd with y | y <;> (rw[y] at z; cases z)
   ·exact⟨c,z1,z2⟩
  obtain⟨c',hc'⟩:=all (x,.free) (PySem.mem_of_lookup hk) rfl
  have ec:c'=c:=by
   have:=sub x c' hc'
   rw[hc] at this
   exact (Option.some.inj this).symm
  subst ec
  obtain⟨o,ho,hd⟩:=hcell
  exact⟨u,r,.inr ⟨(rl_free (env:=X.env) hk),c',hc',o,kp _ _ ho,hd⟩⟩
 ·obtain⟨v,o,ho,hd⟩:=I.cell x c (sub x c e)
  exact⟨v,o,kp _ _ ho,hd⟩
 ·show (List.replicate L.length (none:Option V)++cap.map fun i=>(σ[i]?).join).length=(L++F).length
  rw[List.length_append,List.length_append,List.length_replicate,List.length_map,ok.len]
theorem comp_run {cl:List (Str × Addr)} {pins:List (Addr × Obj)} {σ:St} {s2:Shared} {H2:Hp} {it:Addr} {fp:List Addr} {tn:Nat->Heap->Prop} {J:It} {use:Option (Value->Sem Unit)} {QQ:Value->Shared->Prop} {Z:Hp->Prop} {E:Value->Shared->Prop}
  (hc:X.calm=true) (ok:CompOk X scope F cap)
  (sub:∀ n c,cl.lookup n=some c->X.env.cells.lookup n=some c) (all:∀ y∈scope.names,y.2 = .free->∃ c,cl.lookup y.1=some c)
  (hg:∀ cl C s H fp,PG (cxComp X scope cl C (L++F) s H fp) tg g) (ht:∀ cl C s H fp,PTs (cxComp X scope cl C (L++F) s H fp) ifs tt) (he:∀ cl C s H fp,PE (cxComp X scope cl C (L++F) s H fp) elt te)
  (I2:Inv X pins σ H2 s2) (T:Turn X.prog X.w X.K tg J fp it tn) (st2:tn 0 s2.heap) (f2:∀ b∈fp,FpOk X pins H2 b)
  (q2:tCompAt s2.heap.objs.size (capV L.length cap σ) J g tt te H2 Z)
  (fin:∀ (C:Addr) (s':Shared) (H':Hp),Z H'->Inv X pins σ H' s'->(∃ m,s'.heap.Ns C m)->H' C=none->C≠X.env.locals->X.s₀.heap.objs.size<=C->(∀ x c,X.env.cells.lookup x=some c->c≠C)->(∀ p∈X.pn++pins,p.1≠C) →
   compPost (model X.prog X.w) X.A E use QQ (.ref s2.heap.objs.size) C (.ok .next) s') :
  wpAny (model X.prog X.w) X.A (newList []) (fun acc s₃=>wpAny (model X.prog X.w) X.A (newFunctionEnv scope X.env.globals cl [] X.env.qual none .none (some X.env)) (fun cenv s₄ =>
   codeAny (model X.prog X.w) X.A (.compStart (.ListComp elt [⟨tg,iter,ifs,0⟩] scope pos) 0 (.ref it) acc { cenv with scope:=relabel scope X.env }) (compPost (model X.prog X.w) X.A E use QQ acc cenv.locals) s₄) E s₃) E s2:=by
 have hD:H2 s2.heap.objs.size=none:=I2.fresh
 refine wpAny_newObj_type (wpAny_newFunctionEnv ok.cell (by intro y hy; simp at hy) (fun h₁ hns₁ hsb₁=>?_) ok.kind)
 dsimp only at hns₁ hsb₁ ⊢
 have I3:Inv X pins σ (upd H2 s2.heap.objs.size (.lst [])) { s2 with heap:=s2.heap.push { cls:=.type "list",data:=.seq ([]:List Value).toArray } }:=I2.lnew (t':=s2.toks) (ys:=[]) (its:=[]) .nil (Nat.zero_le _)
 have blt:∀ b∈fp,b < s2.heap.objs.size:=fun b hb=>let ⟨_,e,_⟩:=T.obj 0 _ st2 b hb; Heap.lt_size e
 have szC:(s2.heap.push { cls:=.type "list",data:=.seq ([]:List Value).toArray }).objs.size=s2.heap.objs.size+1:=Heap.size_push _ _
 generalize hs3:({ s2 with heap:=s2.heap.push { cls:=.type "list",data:=.seq ([]:List Value).toArray } }:Shared)=s3 at I3
 have es3:s3.heap=s2.heap.push { cls:=.type "list",data:=.seq ([]:List Value).toArray }:=by rw[← hs3]
 have eos:s3.os=s2.os:=by rw[← hs3]
 have fok:∀ b∈fp,FpOk X pins (upd H2 s2.heap.objs.size (.lst [])) b/\b < s3.heap.objs.size:=fun b hb=>by
  obtain⟨f0,fr⟩:=f2 b hb
  refine⟨⟨by rw[upd_ne (Nat.ne_of_lt (blt b hb))]; exact f0,fr⟩,?_⟩
  rw[es3,szC]
  exact Nat.lt_succ_of_lt (blt b hb)
 have hkp:∀ b o,s3.heap.get? b=some o->h₁.get? b=some o:=fun b o e=>by
  have e':b < s3.heap.objs.size:=Heap.lt_size e
  rw[es3] at e e'
  exact (hsb₁.2 b (Nat.ne_of_lt e')).trans (Heap.get?_push_of_some _ e)
 have hns:h₁.Ns s3.heap.objs.size fun _=>none:=by
  rw[es3]
  exact hns₁
 have I4:∀ tk,Inv (cxComp X scope cl s3.heap.objs.size (L++F) s3 (upd H2 s2.heap.objs.size (.lst [])) fp) [] (capV L.length cap σ) (upd H2 s2.heap.objs.size (.lst [])) { s3 with heap:=h₁,toks:=tk }:=fun tk =>
  comp_enter (L:=L) ok I3 fok sub all hns hkp
 have stat:∀ {H':Hp},(∀ b∈fp,H' b=none)->∀ b∈fp,FpOk (cxComp X scope cl s3.heap.objs.size (L++F) s3 (upd H2 s2.heap.objs.size (.lst [])) fp) [] H' b:=fun {H'} hn b hb=>by
  obtain⟨⟨_,g1,g2,g3,g4,g5⟩,g6⟩:=fok b hb
  exact⟨hn b hb,Nat.ne_of_lt g6,frs_sub I3 g1 g2,.inl hb,fun x c e=>g4 x c (sub x c e),fun p hp=>absurd (show p∈([]:List (Addr × Obj)) from hp) (by simp)⟩
 have loop:∀ tk,codeAny (model X.prog X.w) X.A (.compLoop (.ListComp elt [⟨tg,iter,ifs,0⟩] scope pos) 0 (.ref it) (.ref s2.heap.objs.size) (compEnvC scope cl s3.heap.objs.size X.env))
   (compPost (model X.prog X.w) X.A E use QQ (.ref s2.heap.objs.size) s3.heap.objs.size) { s3 with heap:=h₁,toks:=tk }:=fun tk=>by
  obtain⟨W,⟨m0,w0⟩,turn⟩:=q2
  have st3:tn 0 h₁:=T.keep 0 _ _ st2 fun b hb o e=>hkp b o (by rw[es3]; exact Heap.get?_push_of_some _ e)
  refine comp_turns (fun n s'=>∃ i ys σ' H',Inv (cxComp X scope cl s3.heap.objs.size (L++F) s3 (upd H2 s2.heap.objs.size (.lst [])) fp) [] σ' H' s'/\tn i s'.heap/\(∀ b∈fp,H' b=none)/\W i n ys σ' H') ?_ m0
   ⟨0,[],_,_,I4 tk,st3,fun b hb=>(fok b hb).1.1,w0⟩
  rintro n s5 ⟨i,ys,σ5,H5,I5,st5,fr5,w5⟩
  obtain⟨hDl,alt⟩:=turn i n ys σ5 H5 w5
  rcases alt with⟨stop,qz⟩ | ⟨go,N,hN,step⟩
  ·refine thn (T.done (cxComp X scope cl s3.heap.objs.size (L++F) s3 (upd H2 s2.heap.objs.size (.lst [])) fp) rfl rfl rfl hc i [] s5 σ5 H5 _ I5 (stat fr5) st5 stop) fun r s6 ⟨hr,I6⟩=>?_
   subst hr
   have un:Un (frs X.stack) fp H2 H5 s2.heap s6.heap:=by
    have u1:Un (frs X.stack) fp H2 (upd H2 s2.heap.objs.size (.lst [])) s2.heap s3.heap:=by
     rw[es3]
     exact Un.laid (fun _ _ q=>Heap.get?_push_of_some _ q) (Nat.le_refl _) hD
    exact u1.trans I6.base
   have J1:Inv X pins σ H5 s6:=I2.call' (I6.os.trans eos) un I6.hok I6.bare fun b hb=>by
    obtain⟨_,g1,_,g3,g4,g5⟩:=f2 b hb
    exact⟨g3,g1,g4,g5⟩
   have hC:s2.heap.objs.size<=s3.heap.objs.size:=by rw[es3,szC]; exact Nat.le_succ _
   obtain⟨m,hm,_⟩:=I6.loc
   refine fin s3.heap.objs.size s6 H5 qz J1 ⟨m,hm⟩ I6.free (Nat.ne_of_gt (Nat.lt_of_lt_of_le I2.lt hC)) (Nat.le_trans I2.sz hC) (fun x c e z=>?_) (fun p hp z=>?_)
   ·obtain⟨v,q⟩:=I2.cell x c e
    exact absurd (Nat.lt_of_lt_of_le q.lt (by rw[z]; exact hC)) (Nat.lt_irrefl _)
   ·exact absurd (Nat.lt_of_lt_of_le (Heap.lt_size (I2.pin p hp).1) (by rw[z]; exact hC)) (Nat.lt_irrefl _)
  ·refine thn (T.item (cxComp X scope cl s3.heap.objs.size (L++F) s3 (upd H2 s2.heap.objs.size (.lst [])) fp) rfl rfl rfl hc i [] s5 σ5 H5 _ I5 (stat fr5) st5 go) fun r s6 ⟨u,hr,h6⟩=>?_
   subst hr
   refine thn h6 fun _ s7 ⟨x,H7,I7,r7,y7,st7,fr7⟩=>?_
   have I7':=I7.pinned (stat fr7) (T.obj _ _ st7)
   refine thn (hg _ _ _ _ _ _ s7 σ5 H7 x u _ I7' r7 (step x H7 y7)) fun _ s8 ⟨σ8,H8,I8,q8⟩=>?_
   have again:∀ {σ9:St} {H9:Hp} {s9:Shared} {zs:List V},Inv (cxComp X scope cl s3.heap.objs.size (L++F) s3 (upd H2 s2.heap.objs.size (.lst [])) fp) ([]++pinsAt fp s7.heap) σ9 H9 s9->N zs σ9 H9 →
     ∃ m,m < n/\∃ i ys σ' H',Inv (cxComp X scope cl s3.heap.objs.size (L++F) s3 (upd H2 s2.heap.objs.size (.lst [])) fp) [] σ' H' s9/\tn i s9.heap/\(∀ b∈fp,H' b=none)/\W i m ys σ' H':=fun {σ9 H9 s9 zs} I9 n9=>by
    obtain⟨m',hm,w9⟩:=hN zs σ9 H9 n9
    refine⟨m',hm,i+1,zs,σ9,H9,I9.unpinned,T.keep _ _ _ st7 fun b hb o e=>(I9.pin (b,o) (List.mem_append_right _ (List.mem_append_right _ (mem_pinsAt hb e)))).1,fun b hb=>?_,w9⟩
    obtain⟨o,e,d⟩:=T.obj _ _ st7 b hb
    exact (I9.pin (b,o) (List.mem_append_right _ (List.mem_append_right _ (mem_pinsAt hb e)))).2.1
   refine thn (ht _ _ _ _ _ _ s8 σ8 H8 _ I8 q8) fun okb s9 ⟨H9,I9,q9⟩=>?_
   cases okb with
   | false =>
    rw[if_neg Bool.false_ne_true] at q9 ⊢
    exact again I9 q9
   | true =>
    rw[if_pos rfl] at q9 ⊢
    refine thn (he _ _ _ _ _ _ s9 σ8 H9 _ I9 q9) fun y s10 ⟨yv,H10,I10,r10,e10,z10,n10⟩=>?_
    refine thn (mt_append _ s10 σ8 H10 (.ref s2.heap.objs.size) [yv] (.ref s2.heap.objs.size) [y] (fun _ H'=>N (ys++[yv]) σ8 H') I10 rfl (.cons r10 .nil) ⟨_,ys,yv,rfl,rfl,e10,z10,n10⟩) fun _ s11 ⟨_,H11,I11,_,n11⟩=>?_
    exact again I11 n11
 have eC:(s2.heap.push { cls:=.type "list",data:=.seq ([]:List Value).toArray }).objs.size=s3.heap.objs.size:=by rw[es3]
 have goal:∀ tk,codeAny (model X.prog X.w) X.A (.compStart (.ListComp elt [⟨tg,iter,ifs,0⟩] scope pos) 0 (.ref it) (.ref s2.heap.objs.size) (compEnvC scope cl s3.heap.objs.size X.env))
   (compPost (model X.prog X.w) X.A E use QQ (.ref s2.heap.objs.size) s3.heap.objs.size) { s3 with heap:=h₁,toks:=tk }:=fun tk =>
  codeAny_compStart_list (loop tk) (T.self _ 0 _ _ _ (T.keep 0 _ _ st2 fun b hb o e=>hkp b o (by rw[es3]; exact Heap.get?_push_of_some _ e)) (loop tk))
 have g0:=goal (s2.toks+([]:List (Str × Value)).length)
 subst hs3
 exact g0
theorem pe_comp (hc:X.calm=true) (ok:CompOk X scope F cap) (hi:PI X tg iter wi)
  (hg:∀ cl C s H fp,PG (cxComp X scope cl C (L++F) s H fp) tg g) (ht:∀ cl C s H fp,PTs (cxComp X scope cl C (L++F) s H fp) ifs tt) (he:∀ cl C s H fp,PE (cxComp X scope cl C (L++F) s H fp) elt te)
  (hs:∀ x,foldedSetIterable iter X.env x=pure x:=by intro _; rfl):PE X (.ListComp elt [⟨tg,iter,ifs,0⟩] scope pos) (tComp L.length cap wi g tt te):=by
 intro pins s σ H Q I h
 obtain⟨cl,e1,e2,e3⟩:=clos_ok (scope:=scope) (env:=X.env) (fun y hy hf=>I.ok.has _ (ok.fr y hy hf))
 rw[eval_ListComp]
 refine wpAny_comprehension_free (use:=none) rfl hs e1 ok.kind ok.nms (thn (hi pins s σ H _ I h) fun v s1 h1=>thn h1 fun itv s2 h2=>?_)
 obtain⟨it,fp,tn,J,H2,e,I2,T,st2,f2,q2⟩:=h2
 subst e
 refine comp_run (Z:=fun H'=>Q (.ref s2.heap.objs.size) H') hc ok e2 e3 hg ht he I2 T st2 f2 (q2 _ I2.fresh) fun C s' H' z J m hCf hCl hCs hCc hCp=>?_
 ·obtain⟨m,hm⟩:=m
  exact⟨m,hm,fun h' hs'=>⟨.ref _,H',J.turned (t':=s'.toks) (fun b o hb e=>(hs'.2 b hb).trans e) hCf hCl (.inr hCs) hCc hCp,rfl,z⟩⟩
end
end L2
namespace L2
open PySem PySem.Spec PyProof.Rows
structure Df (P:Program) (w:World) (K:PySem.W.Frag) (mg:Str->Option Value) (base:Heap) (x:Str) (k:Nat) (ps:List Str) (sp:Sp):Prop where
 ex:∃ (f:Addr) (fd:FuncData),FnOk P w K mg base CX0 k f fd ps sp/\mg x=some (.ref f)/\PySem.W.keepIn K (.ref f)=true/\Binds K fd ps []
section
variable {X:Cx} {k j:Nat} {x:Str} {ps:List Str} {sp:Sp} {p pos:Pos} {e:Expr} {es:List Expr} {t:TA}
theorem pe_df (D:Df X.prog X.w X.K X.mg X.base x k ps sp) (hr:Room j X.A) (ha:PA X (e::es) t) (hk:k<=j:=by first | decide | exact Nat.le_refl _ | lia) (hg:Gl X x:=by rfl)
  (hdb:(x == ("__debug__" : Str))=false:=by decide) (he:starEach (e::es) X.env=(false,eval e X.env)::starEach es X.env:=by rfl) (hpl:(backTo pos (starEach es X.env)).any (·.1)=false:=by rfl) :
  PE X (.Call (.Name x p) (e::es) [] pos) (tCall sp [] E0 t):=by
 obtain⟨f,fd,F,hm,hkp,hb⟩:=D.ex
 exact pe_call F (hr.mono hk) hg hm hkp hb .nil pass0 ha hdb he hpl
theorem pe_ty {T:String} (hm:X.mg x=none) (hv:bootBuiltins x=some (.type T)) (hg:Gl X x:=by rfl) (hn:x≠"__name__":=by decide) (hd:(x == ("__debug__" : Str))=false:=by decide):PE X (.Name x pos) (tC (.ty T)):=pe_bltn hg hm hv rfl hn hd
inductive RIsiI (K:W.Frag) (xs:List V) (H:Hp) (Q:VK):Prop where
 | mk (x:V) (T:String) (t:Value) (b:Bool) (z0:xs=[x,.ty T]) (z1:TyOf K H x t) (z2:W.kitOne K t (.type T)=some b) (z3:Q (.bl b) H):RIsiI K xs H Q
noncomputable def rIsi (K:W.Frag):List V->Hp->VK->Prop:=fun xs H Q=>RIsiI K xs H Q
theorem call_isi:CallR X (.builtin "isinstance") (rIsi X.K):=by
 intro pins s σ H xs us Q I r h
 obtain⟨x,T,t,b,rfl,ty,e,q⟩:=h
 obtain⟨u,v,rfl,ru,rv⟩:=vals2 r
 cases (show v=Value.type T from rv)
 exact isinst_ok I ru ty e fun tk=>⟨.bl b,H,I.tok tk,rfl,q⟩
noncomputable def rLen (K:W.Frag):List V->Hp->VK->Prop:=fun xs H Q=>∃ (p:Addr) (ys:List V),xs=[.ref p]/\(SqL K H p ys∨SqT K H p ys)/\Q (.int ys.length) H
theorem call_lenK:CallR X (.builtin "len") (rLen X.K):=call_len_seq
noncomputable def rListOf (K:W.Frag):List V->Hp->VK->Prop:=fun xs H Q=>∃ (p:Addr) (ys:List V),xs=[.ref p]/\(SqL K H p ys∨SqT K H p ys)/\∀ l,H l=none->Q (.ref l) (upd H l (.lst ys))
theorem call_listK:CallR X (.type "list") (rListOf X.K):=call_list_of
noncomputable def rTupOf (K:W.Frag):List V->Hp->VK->Prop:=fun xs H Q=>∃ (p:Addr) (ys:List V),xs=[.ref p]/\((SqL K H p ys/\∀ l,H l=none->Q (.ref l) (upd H l (.tup ys)))∨(SqT K H p ys/\Q (.ref p) H))
theorem call_tupleK:CallR X (.type "tuple") (rTupOf X.K):=call_tuple_of
theorem range_all_getD:∀ bs:List Bool,(List.range bs.length).all (fun i=>bs.getD i true)=bs.all fun b=>b
 | []=>rfl
 | b::r=>by
  have ih:=range_all_getD r
  rw[List.length_cons,List.range_succ_eq_map,List.all_cons,List.all_map,List.all_cons,← ih]
  rfl
inductive RAllBI (K:W.Frag) (xs:List V) (H:Hp) (Q:VK):Prop where
 | mk (p:Addr) (bs:List Bool) (z0:xs=[.ref p]) (z1:SqL K H p (bs.map V.bl)) (z2:Q (.bl (bs.all fun b=>b)) H):RAllBI K xs H Q
noncomputable def rAllB (K:W.Frag):List V->Hp->VK->Prop:=fun xs H Q=>RAllBI K xs H Q
theorem call_allB (hc:X.calm=true):CallR X (.builtin "all") (rAllB X.K):=by
 intro pins s σ H xs us Q I r h
 obtain⟨p,bs,rfl,hq,q⟩:=h
 obtain⟨u,rfl,ru⟩:=vals1 r
 cases ru
 obtain⟨its,rv,pl,hz⟩:=I.list hq
 have hlen:bs.length=its.length:=by simpa using rv.length
 refine call_all_walk (wpAny_pyIter_list pl.isList ?_)
 have I1:Inv X pins σ H { s with heap:=s.heap.push { cls:=.type "list_iterator",data:=.fields #[.ref p,.int 0 0] } }:=I.kept (t':=s.toks) fun b o e=>Heap.get?_push_of_some _ e
 have hne:p≠s.heap.objs.size:=by
  obtain⟨o,ho,_⟩:=pl.isList
  exact Nat.ne_of_lt (Heap.lt_size ho)
 refine⟨s.heap.objs.size,_,_,_,_,_,fun i=>bs.getD i true,rfl,Walks.list (A:=X.A.in1) (I.ok.hd hc) s.heap.objs.size p hne its.toArray,⟨⟨_,Heap.get?_push_size _ rfl,rfl,rfl⟩,?_⟩,?_,fun h' tk hk=>?_⟩
 ·obtain⟨o,ho,hr⟩:=pl.isList
  exact⟨o,Heap.get?_push_of_some _ ho,hr⟩
 ·intro i v s' Q' E' hP hQ
  have hP:its[i]? = some v:=by simpa using hP
  have hi:i < bs.length:=by
   rw[hlen]
   exact (List.getElem?_eq_some_iff.mp hP).1
  obtain⟨u',hu',ru'⟩:=rv.get (i:=i) (x:=V.bl bs[i]) (by rw[List.getElem?_map,List.getElem?_eq_getElem hi]; rfl)
  rw[hP] at hu'
  cases hu'
  cases (show v=Value.bool bs[i] from ru')
  refine wpAny_truthy_bool ?_
  have eg:bs.getD i true=bs[i]:=by rw[List.getD_eq_getElem?_getD,List.getElem?_eq_getElem hi]; rfl
  have hQ':Q' (bs.getD i true) s':=hQ
  rw[eg] at hQ'
  exact hQ'
 ·have f:=I.fpOk (b:=s.heap.objs.size) (H':=H) (Nat.le_refl _) I.fresh
  have eall:(List.range its.toArray.size).all (fun i=>bs.getD i true)=bs.all fun b=>b:=by
   have el:its.toArray.size=bs.length:=by rw[List.size_toArray,hlen]
   rw[el]
   exact range_all_getD bs
  rw[eall]
  exact⟨.bl _,H,I1.turned (t':=tk) (it:=s.heap.objs.size) (fun b o hb e=>hk b o (by simpa using hb) e) f.1 f.2.1 f.2.2.2.1 f.2.2.2.2.1 f.2.2.2.2.2,rfl,q⟩
end
end L2
namespace L2
open PySem PySem.Spec PyProof.Rows
noncomputable def compChk (osc:Scope) (oN:List Str) (sc:Scope) (F:List Str) (cap:List Nat):Bool :=
 decide (sc.kind = .function) && sc.names.all (fun y=>!decide (y.2 = .cell)) && sc.names.all (fun y=>!decide (y.2 = .local) || decide (sc.names.lookup y.1=some .local)) &&
 sc.names.all (fun y=>!decide (y.2 = .free) || decide (osc.names.lookup y.1=some .cell) || decide (osc.names.lookup y.1=some .free)) && decide (cap.length=F.length) &&
 (List.range F.length).all fun k=>(decide (F[k]? = none) || decide ((cap[k]?.bind fun i=>oN[i]?)=F[k]?)) && decide ((F[k]?.bind fun x=>sc.names.lookup x)=some .free)
theorem comp_ok {X:Cx} {osc sc:Scope} {oN F:List Str} {cap:List Nat} (ho:X.env.scope=osc) (hN:X.N=oN) (h:compChk osc oN sc F cap=true):CompOk X sc F cap:=by
 unfold compChk at h
 simp only[Bool.and_eq_true] at h
 obtain⟨⟨⟨⟨⟨h1,h2⟩,h3⟩,h4⟩,h5⟩,h6⟩:=h
 refine⟨of_decide_eq_true h1,fun y hy e=>?_,fun y hy e=>?_,fun y hy e=>?_,of_decide_eq_true h5,fun k x e=>?_⟩
 ·have:=List.all_eq_true.mp h2 y hy
  rw[e] at this
  exact absurd this (by decide)
 ·have:=List.all_eq_true.mp h3 y hy
  rw[decide_eq_true e] at this
  exact of_decide_eq_true (by simpa using this)
 ·have:=List.all_eq_true.mp h4 y hy
  rw[decide_eq_true e] at this
  have z:decide (osc.names.lookup y.1=some .cell)=true∨decide (osc.names.lookup y.1=some .free)=true:=by
   rw[Bool.not_true,Bool.false_or,Bool.or_eq_true] at this
   exact this
  show X.env.scope.names.lookup y.1=_∨X.env.scope.names.lookup y.1=_
  rw[ho]
  exact z.elim (fun q=>.inl (of_decide_eq_true q)) fun q=>.inr (of_decide_eq_true q)
 ·have hk:k < F.length:=(List.getElem?_eq_some_iff.mp e).1
  have q:=List.all_eq_true.mp h6 k (List.mem_range.mpr hk)
  rw[e,Bool.and_eq_true] at q
  obtain⟨q1,q2⟩:=q
  have q1:(cap[k]?.bind fun i=>oN[i]?)=some x:=by
   rw[Bool.or_eq_true] at q1
   rcases q1 with z | z
   ·exact absurd (of_decide_eq_true z) (by simp)
   ·exact of_decide_eq_true z
  have q2:sc.names.lookup x=some .free:=of_decide_eq_true q2
  cases hc:cap[k]? with
  | none=>rw[hc] at q1; cases q1
  | some i =>
   rw[hc] at q1
   exact⟨i,rfl,by rw[hN]; exact q1,q2⟩
theorem comp_nd {X:Cx} {scope:Scope} {cl:List (Str × Addr)} {C:Addr} {N:List Str} {s:Shared} {H:Hp} {fp:List Addr} (h:N.Nodup):(cxComp X scope cl C N s H fp).N.Nodup:=h
section
variable {K:W.Frag} {a D:Addr} {xs:List V} {g:TG} {tt:TT} {te:TE} {H1:Hp} {Q:Hp->Prop} {σ0:St}
theorem comp_range {lo:Int} {n:Nat} (Pv:Nat->List V->St->Hp->Prop) (h0:Pv 0 [] σ0 (upd H1 D (.lst []))) (hl:∀ i ys σ H,i<=n->Pv i ys σ H->H D=some (.lst ys))
  (hs:∀ i ys σ H,i < n->Pv i ys σ H->g (.int (lo+i)) σ H fun σ3 H3=>tt σ3 H3 fun b H4=>if b=true then te σ3 H4 fun y H5=>H5 D=some (.lst ys)/\ys.length < sizeLine/\Pv (i+1) (ys++[y]) σ3 (upd H5 D (.lst (ys++[y]))) else Pv (i+1) ys σ3 H4)
  (hd:∀ ys σ H,Pv n ys σ H->Q H):tCompAt D σ0 (Itr lo n) g tt te H1 Q:=by
 refine⟨fun i m ys σ H=>m=n - i/\i<=n/\Pv i ys σ H,⟨n,by simp,Nat.zero_le _,h0⟩,?_⟩
 rintro i m ys σ H ⟨rfl,hi,p⟩
 refine⟨hl i ys σ H hi p,?_⟩
 by_cases hlt:i < n
 ·refine .inr ⟨hlt,Pv (i+1),fun zs σ' H' p'=>⟨n - (i+1),by lia,rfl,hlt,p'⟩,fun x H' y=>?_⟩
  obtain⟨e,y⟩:=y
  subst e y
  exact hs i ys σ _ hlt p
 ·have e:i=n:=by lia
  subst e
  exact .inl ⟨Nat.le_refl _,hd ys σ H p⟩
end
structure Bt (mg:Str->Option Value):Prop where
 len_:mg "len" = none
 range_:mg "range" = none
 all_:mg "all" = none
 isinstance_:mg "isinstance" = none
 int_:mg "int" = none
 bool_:mg "bool" = none
 str_:mg "str" = none
 list_:mg "list" = none
 tuple_:mg "tuple" = none
 abs_:mg "abs" = none
 max_:mg "max" = none
 min_:mg "min" = none
 sum_:mg "sum" = none
 sorted_:mg "sorted" = none
 zip_:mg "zip" = none
 reversed_:mg "reversed" = none
 divmod_:mg "divmod" = none
 set_:mg "set" = none
 any_:mg "any" = none
 enumerate_:mg "enumerate" = none
theorem bt_len:bootBuiltins "len" = some (.builtin "len"):=PySem.boot_len
theorem bt_all:bootBuiltins "all" = some (.builtin "all"):=by decide+kernel
theorem bt_isinstance:bootBuiltins "isinstance" = some (.builtin "isinstance"):=by decide+kernel
theorem bt_abs:bootBuiltins "abs" = some (.builtin "abs"):=by decide+kernel
theorem bt_int:bootBuiltins "int" = some (.type "int"):=by decide+kernel
theorem bt_bool:bootBuiltins "bool" = some (.type "bool"):=by decide+kernel
theorem bt_str:bootBuiltins "str" = some (.type "str"):=by decide+kernel
theorem bt_list:bootBuiltins "list" = some (.type "list"):=by decide+kernel
theorem bt_tuple:bootBuiltins "tuple" = some (.type "tuple"):=by decide+kernel
theorem ki_eq (K:W.Frag) (T:String):W.kitOne K (.type T) (.type T)=some true:=by
 unfold PySem.W.kitOne
 rw[if_pos (beq_self_eq_true _)]
theorem ki_int_bool (K:W.Frag):W.kitOne K (.type "int") (.type "bool")=some false:=by kernel_rfl
theorem ki_bool_int (K:W.Frag):W.kitOne K (.type "bool") (.type "int")=some true:=by kernel_rfl
theorem ki_int_str (K:W.Frag):W.kitOne K (.type "int") (.type "str")=some false:=by kernel_rfl
theorem ki_bool_str (K:W.Frag):W.kitOne K (.type "bool") (.type "str")=some false:=by kernel_rfl
theorem ki_tuple_str (K:W.Frag):W.kitOne K (.type "tuple") (.type "str")=some false:=by kernel_rfl
theorem ki_list_str (K:W.Frag):W.kitOne K (.type "list") (.type "str")=some false:=by kernel_rfl
theorem ki_tuple_int (K:W.Frag):W.kitOne K (.type "tuple") (.type "int")=some false:=by kernel_rfl
theorem ki_list_int (K:W.Frag):W.kitOne K (.type "list") (.type "int")=some false:=by kernel_rfl
theorem ki_tuple_list (K:W.Frag):W.kitOne K (.type "tuple") (.type "list")=some false:=by kernel_rfl
theorem ki_list_tuple (K:W.Frag):W.kitOne K (.type "list") (.type "tuple")=some false:=by kernel_rfl
end L2
namespace L2
open PySem PySem.Spec PyProof.Rows
inductive Dm where
 | non | bl (b:Bool) | int (i:Int) | str (x:Str) | tup (ds:List Dm) | lst (ds:List Dm)
mutual
noncomputable def Dm.dep:Dm->Nat
 | .tup ds=>depL ds+1
 | .lst ds=>depL ds+1
 | _=>0
noncomputable def depL:List Dm->Nat
 | []=>0
 | d::r=>max d.dep (depL r)
end
mutual
inductive Rep (H:Hp):V->Dm->Prop where
 | non:Rep H .non .non
 | bl (b:Bool):Rep H (.bl b) (.bl b)
 | int (i:Int):Rep H (.int i) (.int i)
 | str (x:Str):Rep H (.str x) (.str x)
 | tup {a:Addr} {xs:List V} {ds:List Dm}:H a=some (.tup xs)->xs.length<=100000->RepL H xs ds->Rep H (.ref a) (.tup ds)
 | lst {a:Addr} {xs:List V} {ds:List Dm}:H a=some (.lst xs)->xs.length<=100000->RepL H xs ds->Rep H (.ref a) (.lst ds)
inductive RepL (H:Hp):List V->List Dm->Prop where
 | nil:RepL H [] []
 | cons {v:V} {d:Dm} {vs:List V} {ds:List Dm}:Rep H v d->RepL H vs ds->RepL H (v::vs) (d::ds)
end
mutual
theorem Rep.mono {H H':Hp} (e:Same H H'):∀ {v:V} {d:Dm},Rep H v d->Rep H' v d
 | _,_,.non=>.non
 | _,_,.bl b=>.bl b
 | _,_,.int i=>.int i
 | _,_,.str x=>.str x
 | _,_,.tup h l r=>.tup (e _ _ h) l (RepL.mono e r)
 | _,_,.lst h l r=>.lst (e _ _ h) l (RepL.mono e r)
theorem RepL.mono {H H':Hp} (e:Same H H'):∀ {vs:List V} {ds:List Dm},RepL H vs ds->RepL H' vs ds
 | _,_,.nil=>.nil
 | _,_,.cons h r=>.cons (Rep.mono e h) (RepL.mono e r)
end
theorem RepL.length {H:Hp}:∀ {vs:List V} {ds:List Dm},RepL H vs ds->vs.length=ds.length
 | _,_,.nil=>rfl
 | _,_,.cons _ r=>by rw[List.length_cons,List.length_cons,RepL.length r]
theorem RepL.get {H:Hp}:∀ {vs:List V} {ds:List Dm} {i:Nat},RepL H vs ds->i < vs.length->∃ v d,vs[i]? = some v/\ds[i]? = some d/\Rep H v d
 | _,_,_,.nil,h=>absurd h (Nat.not_lt_zero _)
 | _,_,0,.cons h _,_=>⟨_,_,rfl,rfl,h⟩
 | _,_,i+1,.cons _ r,h=>by
  obtain⟨v,d,e1,e2,e3⟩:=RepL.get (i:=i) r (Nat.lt_of_succ_lt_succ h)
  exact⟨v,d,by simpa using e1,by simpa using e2,e3⟩
theorem depL_get:∀ {ds:List Dm} {i:Nat} {d:Dm},ds[i]? = some d->d.dep<=depL ds
 | [],_,_,h=>by simp at h
 | d::r,0,_,h=>by
  cases (show some d=some _ from h)
  rw[depL]
  exact Nat.le_max_left _ _
 | d::r,i+1,_,h=>by
  rw[depL]
  exact Nat.le_trans (depL_get (i:=i) (ds:=r) (by simpa using h)) (Nat.le_max_right _ _)
theorem repL_ints {H:Hp}:∀ ns:List Int,RepL H (ns.map V.int) (ns.map Dm.int)
 | []=>.nil
 | n::r=>.cons (.int n) (repL_ints r)
section
variable {X:Cx}
inductive RNeNI (K:W.Frag) (x:V) (y:V) (H:Hp) (Q:VK):Prop where
 | mk (a b:Addr) (xs:List V) (z0:x = .ref a) (z1:y = .ref b) (z2:SqL K H a xs) (z3:SqL K H b []) (z4:Q (.bl (!xs.isEmpty)) H):RNeNI K x y H Q
noncomputable def rNeN (K:W.Frag):R2:=fun x y H Q=>RNeNI K x y H Q
theorem op_neN (hu:X.A.units < cLine):OpR X (compareOp .NotEq) (rNeN X.K):=by
 intro pins s σ H x y v u Q I rx ry h
 obtain⟨a,b,xs,rfl,rfl,ha,hb,q⟩:=h
 cases rx
 cases ry
 obtain⟨its,r1,p1,_⟩:=I.list ha
 obtain⟨its2,r2,p2,_⟩:=I.list hb
 cases r2
 cases r1 with
 | nil=>exact SeqAt.RcNeAt.lists (e:=fun _=>true) p1.isList p2.isList rfl hu (fun j h1 _=>absurd h1 (by simp)) X.prog X.w X.xe _ ⟨.bl false,H,I,rfl,q⟩
 | cons r t=>exact SeqAt.RcNeAt.lists_lengths p1.isList p2.isList (by simp) hu X.prog X.w X.xe _ ⟨.bl true,H,I,rfl,q⟩
end
end L2
namespace L2
open PySem PySem.Spec PyProof.Rows
section
variable {prog:Program} {w:World} {A:Around} {E:Value->Shared->Prop} {s:Shared}
theorem nt_item {it t:Addr} {i:Nat} {its:Array Value} {x:Value} {Q:Value->Shared->Prop} (j:s.heap.IsTupleIter it t i) (ht:s.heap.IsTuple t its) (hx:its[i]? = some x)
  (k:∀ h',h'.IsTupleIter it t (i+1)->Heap.SameBut it s.heap h'->Q x { s with heap:=h' }):wpAny (model prog w) A (Builtin.SmallTypes.nextOf (.ref it)) Q E s:=by
 obtain⟨o,e1,c1,d1⟩:=id j; obtain⟨o2,e2,_,n2,d2⟩:=ht; unfold Builtin.SmallTypes.nextOf
 refine wpAny_bind (wpAny_callSpecial?_slot (name:=Str.ofString "__next__") j.typeIs F.slot_tuple_iterator_next (wpAny_call_entry F.slot_tuple_iterator_next j.typeIs F.entry_tuple_iterator_next ?_ (F.args_tuple_iterator_next_1 _)))
 show wpAny _ _ (field (.ref it) 0 >>= _) _ _ s; refine wpAny_bind (wpAny_field e1 d1 (x:=.ref t) rfl ?_)
 show wpAny _ _ (if (Value.ref t == Value.none)=true then _ else _) _ _ s; rw[if_neg (show ¬ ((Value.ref t == Value.none)=true) from Bool.false_ne_true)]
 show wpAny _ _ (field (.ref it) 1 >>= _) _ _ s; refine wpAny_bind (wpAny_field e1 d1 (x:=.int i 0) rfl ?_)
 show wpAny _ _ (seqItems? (.ref t) >>= _) _ _ s; refine wpAny_bind (wpAny_seqItems e2 d2 ?_); simp only[Int.toNat_natCast,hx]
 refine wpAny_bind (wpAny_setField e1 d1 (by simp) (wpAny_pure ⟨x,rfl,wpAny_pure (k _ ?_ (Heap.SameBut.update ..))⟩))
 exact⟨_,Heap.get?_update_self _ e1 (Obj.isFreed_of_fields (Obj.data_mapFields d1 _)),(Obj.cls_mapFields ..).trans c1,by rw[Obj.data_mapFields d1]; simp [rawInt]⟩
theorem nt_end {it t:Addr} {i:Nat} {its:Array Value} {Q:Value->Shared->Prop} (hh:A.handled=none) (j:s.heap.IsTupleIter it t i) (ht:s.heap.IsTuple t its) (hx:its[i]? = none)
  (k:∀ h' e,Heap.ExtBut it s.heap h'->(∃ o,h'.get? e=some o/\o.cls = .type "StopIteration")->E (.ref e) { s with heap:=h' }):wpAny (model prog w) A (Builtin.SmallTypes.nextOf (.ref it)) Q E s:=by
 obtain⟨o,e1,c1,d1⟩:=id j; obtain⟨o2,e2,_,n2,d2⟩:=ht; unfold Builtin.SmallTypes.nextOf
 refine wpAny_bind (wpAny_callSpecial?_slot (name:=Str.ofString "__next__") j.typeIs F.slot_tuple_iterator_next (wpAny_call_entry F.slot_tuple_iterator_next j.typeIs F.entry_tuple_iterator_next ?_ (F.args_tuple_iterator_next_1 _)))
 show wpAny _ _ (field (.ref it) 0 >>= _) _ _ s; refine wpAny_bind (wpAny_field e1 d1 (x:=.ref t) rfl ?_)
 show wpAny _ _ (if (Value.ref t == Value.none)=true then _ else _) _ _ s; rw[if_neg (show ¬ ((Value.ref t == Value.none)=true) from Bool.false_ne_true)]
 show wpAny _ _ (field (.ref it) 1 >>= _) _ _ s; refine wpAny_bind (wpAny_field e1 d1 (x:=.int i 0) rfl ?_)
 show wpAny _ _ (seqItems? (.ref t) >>= _) _ _ s; refine wpAny_bind (wpAny_seqItems e2 d2 ?_); simp only[Int.toNat_natCast,hx]
 refine wpAny_bind (wpAny_rule (wpAny_bind (wpAny_setField e1 d1 (by simp) ?_))); show wpAny _ _ (newExc (.type "StopIteration") [] >>= _) _ _ _
 refine wpAny_bind ?_; simp only[newExc,newTuple]; refine wpAny_bind (wpAny_newObj_type ?_ (by size_fits))
 refine wpAny_bind (m:=firstArgMember _ _) (wpAny_of_eq (a:=Value.none) (by first | rfl | (simp only[firstArgMember]; rfl)) ?_); refine wpAny_newObj_type ?_ (by size_fits)
 simp only[raiseNew]; refine wpAny_bind (wpAny_handled ?_); first | rw[show A.in1.handled=none from hh] | rw[hh]
 refine wpAny_bind (wpAny_pure (wpAny_throw ?_)); exact k _ _ (((Heap.SameBut.update ..).extBut.push _).push _) ⟨_,Heap.get?_push_size _ rfl,rfl⟩
structure Zap (z p q i1 i2 l1 l2:Addr):Prop where
 pz:p≠z
 qz:q≠z
 az:i1≠z
 bz:i2≠z
 pq:p≠q
 pa:p≠i1
 pb:p≠i2
 qa:q≠i1
 qb:q≠i2
 ab:i1≠i2
 xz:l1≠z
 xq:l1≠q
 xa:l1≠i1
 xb:l1≠i2
 yz:l2≠z
 yq:l2≠q
 ya:l2≠i1
 yb:l2≠i2
theorem tup_sb {h h':Heap} {a t:Addr} {its:Array Value} (ht:h.IsTuple t its) (sb:Heap.SameBut a h h') (ne:t≠a):h'.IsTuple t its:=by
 obtain⟨o,e,r⟩:=ht
 exact⟨o,(sb.2 t ne).trans e,r⟩
theorem itr_sb {h h':Heap} {a it t:Addr} {i:Nat} (ht:h.IsTupleIter it t i) (sb:Heap.SameBut a h h') (ne:it≠a):h'.IsTupleIter it t i:=by
 obtain⟨o,e,r⟩:=ht
 exact⟨o,(sb.2 it ne).trans e,r⟩
theorem zt_item {z p q i1 i2 l1 l2:Addr} {k:Nat} {xs ys:Array Value} {x y a b:Value} {Q:Option Value->Shared->Prop} (D:Zap z p q i1 i2 l1 l2)
  (hz:IsZip s.heap z p q .none) (hp:IsPair s.heap p (.ref i1) (.ref i2)) (hq:IsPair s.heap q a b) (j1:s.heap.IsTupleIter i1 l1 k) (j2:s.heap.IsTupleIter i2 l2 k) (t1:s.heap.IsTuple l1 xs) (t2:s.heap.IsTuple l2 ys)
  (hx:xs[k]? = some x) (hy:ys[k]? = some y)
  (hQ:∀ h',IsZip h' z p q (rawInt s.heap.objs.size)->IsPair h' q x y->h'.IsTupleIter i1 l1 (k+1)->h'.IsTupleIter i2 l2 (k+1)->IsPair h' s.heap.objs.size x y->h'.objs.size=s.heap.objs.size+1 →
   (∀ c o,c≠z->c≠q->c≠i1->c≠i2->s.heap.get? c=some o->h'.get? c=some o)->Q (some (.ref s.heap.objs.size)) { s with heap:=h' }):wpAny (model prog w) A (pyNext (.ref z)) Q E s:=by
 have hT:s.TypeIs (.ref z) "zip":=⟨_,hz,rfl⟩; unfold pyNext
 refine wpAny_bind (wpAny_attempt (wpAny_callSpecial?_slot (name:=Str.ofString "__next__") hT F.slot_zip_next (wpAny_call_entry F.slot_zip_next hT F.entry_zip_next ?_ (F.args_zip_next_1 _))))
 show wpAny _ _ (field (.ref z) 2 >>= _) _ _ _; refine wpAny_bind (wpAny_field hz rfl (x:=.bool false) rfl ?_)
 show wpAny _ _ (field (.ref z) 3 >>= _) _ _ _; refine wpAny_bind (wpAny_field hz rfl (x:=.ref p) rfl ?_); refine wpAny_bind (wpAny_seqItems hp rfl ?_)
 show wpAny _ _ (Builtin.SmallTypes.ownedTupleIsFree (.ref z) >>= _) _ _ _; refine wpAny_bind ?_; unfold Builtin.SmallTypes.ownedTupleIsFree
 refine wpAny_bind (wpAny_field hz rfl (x:=.none) rfl (wpAny_pure ?_)); simp only[if_true]; refine wpAny_bind (wpAny_rule ?_); refine wpAny_bind (wpAny_field hz rfl (x:=.ref q) rfl ?_)
 refine wpAny_bind (wpAny_setField_rec hz (by simp) fun h1 z1 b1=>?_); replace z1:IsZip h1 z p q .ellipsis:=z1
 refine wpAny_bind ?_; simp only[List.zipIdx_cons,List.zipIdx_nil,List.forIn_cons,List.forIn_nil]; refine wpAny_bind (wpAny_bind (wpAny_onRaise ?_))
 show wpAny _ _ (Builtin.SmallTypes.nextOf (.ref i1) >>= _) _ _ _; refine wpAny_bind (nt_item (itr_sb j1 b1 D.az) (tup_sb t1 b1 D.xz) hx fun h2 u1 b2=>wpAny_pure ?_)
 have q2:IsPair h2 q a b:=(b2.2 _ D.qa).trans ((b1.2 _ D.qz).trans hq); refine wpAny_bind (wpAny_seqItems q2 rfl ?_); refine wpAny_bind (wpAny_updateSeq_pair q2 fun h3 q3 b3=>?_)
 replace q3:IsPair h3 q x b:=q3; refine wpAny_bind (wpAny_letGo (wpAny_pure ?_)); refine wpAny_bind (wpAny_bind (wpAny_onRaise ?_))
 show wpAny _ _ (Builtin.SmallTypes.nextOf (.ref i2) >>= _) _ _ _
 refine wpAny_bind (nt_item (itr_sb (itr_sb (itr_sb j2 b1 D.bz) b2 D.ab.symm) b3 D.qb.symm) (tup_sb (tup_sb (tup_sb t2 b1 D.yz) b2 D.ya) b3 D.yq) hy fun h4 u2 b4=>wpAny_pure ?_)
 have q4:IsPair h4 q x b:=(b4.2 _ D.qb).trans q3; refine wpAny_bind (wpAny_seqItems q4 rfl ?_); refine wpAny_bind (wpAny_updateSeq_pair q4 fun h5 q5 b5=>?_)
 replace q5:IsPair h5 q x y:=q5; refine wpAny_bind (wpAny_letGo (wpAny_pure (wpAny_pure ?_))); refine wpAny_bind (wpAny_seqItems q5 rfl ?_); refine wpAny_bind (wpAny_newTuple ?_)
 have sz:h5.objs.size=s.heap.objs.size:=by rw[b5.1,b4.1,b3.1,b2.1,b1.1]
 have z5:IsZip h5 z p q .ellipsis:=(b5.2 _ D.qz.symm).trans ((b4.2 _ D.bz.symm).trans ((b3.2 _ D.qz.symm).trans ((b2.2 _ D.az.symm).trans z1)))
 have kp:∀ c o,c≠z->c≠q->c≠i1->c≠i2->s.heap.get? c=some o->h5.get? c=some o:=fun c o c1 c2 c3 c4 e=>(b5.2 c c2).trans ((b4.2 c c4).trans ((b3.2 c c2).trans ((b2.2 c c3).trans ((b1.2 c c1).trans e))))
 have u15:h5.IsTupleIter i1 l1 (k+1):=itr_sb (itr_sb (itr_sb u1 b3 D.qa.symm) b4 D.ab) b5 D.qa.symm
 have u25:h5.IsTupleIter i2 l2 (k+1):=itr_sb u2 b5 D.qb.symm
 have zl:z < h5.objs.size:=Heap.lt_size z5
 show wpAny _ _ (Builtin.SmallTypes.ownedTupleHandOut (.ref z) (.ref h5.objs.size) >>= _) _ _ _; refine wpAny_bind ?_; unfold Builtin.SmallTypes.ownedTupleHandOut
 have z6:IsZip (h5.push { cls:=.type "tuple",data:=.seq #[x,y] }) z p q .ellipsis:=Heap.get?_push_of_some _ z5
 refine wpAny_bind (wpAny_setField_rec z6 (by simp) fun h7 z7 b7=>?_); replace z7:IsZip h7 z p q (rawInt h5.objs.size):=z7
 refine wpAny_setField_rec z7 (by simp) fun h8 z8 b8=>?_; replace z8:IsZip h8 z p q (rawInt h5.objs.size):=z8
 have up:∀ c o,c≠z->h5.get? c=some o->h8.get? c=some o:=fun c o c1 e=>(b8.2 c c1).trans ((b7.2 c c1).trans (Heap.get?_push_of_some _ e))
 have t8:IsPair h8 h5.objs.size x y:=(b8.2 _ (Nat.ne_of_gt zl)).trans ((b7.2 _ (Nat.ne_of_gt zl)).trans (Heap.get?_push_size _ rfl))
 have s8:h8.objs.size=h5.objs.size+1:=by rw[b8.1,b7.1,Heap.size_push]
 rw[sz] at z8 t8 s8; refine wpAny_pure ⟨_,rfl,?_⟩
 show wpAny _ _ _ _ _ _
 rw[sz]
 exact wpAny_pure (hQ h8 z8 (up _ _ D.qz q5) (by obtain⟨o,e,r⟩:=u15; exact⟨o,up _ o D.az e,r⟩) (by obtain⟨o,e,r⟩:=u25; exact⟨o,up _ o D.bz e,r⟩) t8 s8 fun c o c1 c2 c3 c4 e=>up c o c1 (kp c o c1 c2 c3 c4 e))
theorem zt_stop {z p q i1 i2 l1 l2:Addr} {k:Nat} {xs ys:Array Value} {a b:Value} {Q:Fin->Shared->Prop} (hh:A.handled=none) (D:Zap z p q i1 i2 l1 l2)
  (hz:IsZip s.heap z p q .none) (hp:IsPair s.heap p (.ref i1) (.ref i2)) (hq:IsPair s.heap q a b) (j1:s.heap.IsTupleIter i1 l1 k) (j2:s.heap.IsTupleIter i2 l2 k) (t1:s.heap.IsTuple l1 xs) (t2:s.heap.IsTuple l2 ys)
  (hend:xs[k]? = none∨ys[k]? = none) (hE:∀ h' e,(∀ c o,c≠z->c≠q->c≠i1->c≠i2->s.heap.get? c=some o->h'.get? c=some o)->(∃ o,h'.get? e=some o/\o.cls = .type "StopIteration")->E (.ref e) { s with heap:=h' }) :
  wpAny (model prog w) A (Builtin.«zip.__next__» ⟨[.ref z],[]⟩) Q E s:=by
 show wpAny _ _ (field (.ref z) 2 >>= _) _ _ _; refine wpAny_bind (wpAny_field hz rfl (x:=.bool false) rfl ?_)
 show wpAny _ _ (field (.ref z) 3 >>= _) _ _ _; refine wpAny_bind (wpAny_field hz rfl (x:=.ref p) rfl ?_); refine wpAny_bind (wpAny_seqItems hp rfl ?_)
 show wpAny _ _ (Builtin.SmallTypes.ownedTupleIsFree (.ref z) >>= _) _ _ _; refine wpAny_bind ?_; unfold Builtin.SmallTypes.ownedTupleIsFree
 refine wpAny_bind (wpAny_field hz rfl (x:=.none) rfl (wpAny_pure ?_)); simp only[if_true]; refine wpAny_bind (wpAny_rule ?_); refine wpAny_bind (wpAny_field hz rfl (x:=.ref q) rfl ?_)
 refine wpAny_bind (wpAny_setField_rec hz (by simp) fun h1 z1 b1=>?_); replace z1:IsZip h1 z p q .ellipsis:=z1
 refine wpAny_bind ?_; simp only[List.zipIdx_cons,List.zipIdx_nil,List.forIn_cons,List.forIn_nil]; refine wpAny_bind (wpAny_bind (wpAny_onRaise ?_))
 show wpAny _ _ (Builtin.SmallTypes.nextOf (.ref i1) >>= _) _ _ _
 cases hx:xs[k]? with
 | none =>
  refine wpAny_bind (nt_end hh (itr_sb j1 b1 D.az) (tup_sb t1 b1 D.xz) hx fun h2 e b2 he=>?_)
  obtain⟨oe,ho,hc⟩:=he
  have z2:IsZip h2 z p q .ellipsis:=b2 _ _ D.az.symm z1
  have ez:e≠z:=fun u=>by subst u; rw[z2] at ho; cases ho; simp at hc
  exact wpAny_setField_rec z2 (by simp) fun h3 _ b3=>hE h3 e (fun c o c1 _ c3 _ u=>(b3.2 c c1).trans (b2 _ _ c3 ((b1.2 c c1).trans u))) ⟨oe,(b3.2 e ez).trans ho,hc⟩
 | some x =>
  have hy:ys[k]? = none:=hend.elim (fun u=>by rw[hx] at u; cases u) id
  refine wpAny_bind (nt_item (itr_sb j1 b1 D.az) (tup_sb t1 b1 D.xz) hx fun h2 u1 b2=>wpAny_pure ?_)
  have q2:IsPair h2 q a b:=(b2.2 _ D.qa).trans ((b1.2 _ D.qz).trans hq); refine wpAny_bind (wpAny_seqItems q2 rfl ?_); refine wpAny_bind (wpAny_updateSeq_pair q2 fun h3 q3 b3=>?_)
  refine wpAny_bind (wpAny_letGo (wpAny_pure ?_)); refine wpAny_bind (wpAny_bind (wpAny_onRaise ?_)); show wpAny _ _ (Builtin.SmallTypes.nextOf (.ref i2) >>= _) _ _ _
  refine wpAny_bind (nt_end hh (itr_sb (itr_sb (itr_sb j2 b1 D.bz) b2 D.ab.symm) b3 D.qb.symm) (tup_sb (tup_sb (tup_sb t2 b1 D.yz) b2 D.ya) b3 D.yq) hy fun h4 e b4 he=>?_)
  obtain⟨oe,ho,hc⟩:=he
  have z4:IsZip h4 z p q .ellipsis:=b4 _ _ D.bz.symm ((b3.2 _ D.qz.symm).trans ((b2.2 _ D.az.symm).trans z1))
  have ez:e≠z:=fun u=>by subst u; rw[z4] at ho; cases ho; simp at hc
  exact wpAny_setField_rec z4 (by simp) fun h5 _ b5=>hE h5 e (fun c o c1 c2 c3 c4 u=>(b5.2 c c1).trans (b4 _ _ c4 ((b3.2 c c2).trans ((b2.2 c c3).trans ((b1.2 c c1).trans u))))) ⟨oe,(b5.2 e ez).trans ho,hc⟩
theorem zt_end {z p q i1 i2 l1 l2:Addr} {k:Nat} {xs ys:Array Value} {a b:Value} {Q:Option Value->Shared->Prop} (hh:A.handled=none) (D:Zap z p q i1 i2 l1 l2)
  (hz:IsZip s.heap z p q .none) (hp:IsPair s.heap p (.ref i1) (.ref i2)) (hq:IsPair s.heap q a b) (j1:s.heap.IsTupleIter i1 l1 k) (j2:s.heap.IsTupleIter i2 l2 k) (t1:s.heap.IsTuple l1 xs) (t2:s.heap.IsTuple l2 ys)
  (hend:xs[k]? = none∨ys[k]? = none) (hQ:∀ h',(∀ c o,c≠z->c≠q->c≠i1->c≠i2->s.heap.get? c=some o->h'.get? c=some o)->Q none { s with heap:=h' }):wpAny (model prog w) A (pyNext (.ref z)) Q E s:=by
 have hT:s.TypeIs (.ref z) "zip":=⟨_,hz,rfl⟩; unfold pyNext
 refine wpAny_bind (wpAny_attempt (wpAny_callSpecial?_slot (name:=Str.ofString "__next__") hT F.slot_zip_next (wpAny_call_entry F.slot_zip_next hT F.entry_zip_next (zt_stop hh D hz hp hq j1 j2 t1 t2 hend fun h' e kp he=>?_) (F.args_zip_next_1 _))))
 obtain⟨o,ho,hc⟩:=he
 exact wpAny_bind (wpAny_isInstance (T:="StopIteration") (b:=true) ⟨o,ho,hc⟩ isSubtype_stop (wpAny_pure (hQ _ kp)))
noncomputable abbrev zA (h:Heap) (t:Addr):Heap:=h.push { cls:=.type "tuple_iterator",data:=.fields #[.ref t,.int 0 0] }
noncomputable abbrev zC (h:Heap) (t u:Addr):Heap:=(zA (zA h t) u).push { cls:=.type "tuple",data:=.seq #[.ref h.objs.size,.ref (zA h t).objs.size] }
noncomputable abbrev zD (h:Heap) (t u:Addr):Heap:=(zC h t u).push { cls:=.type "tuple",data:=.seq #[.none,.none] }
noncomputable abbrev zE (h:Heap) (t u:Addr):Heap:=(zD h t u).push { cls:=.type "zip",data:=.fields #[.none,.bool false,.bool false,.ref (zA (zA h t) u).objs.size,.ref (zC h t u).objs.size] }
theorem zt_new (l1 l2:Addr) (xs ys:Array Value) :
  Meets (Builtin.«zip.__new__» ⟨[.type "zip",.ref l1,.ref l2],[]⟩) (fun _ R s=>s.heap.IsTuple l1 xs/\s.heap.IsTuple l2 ys/\R (.ok (.ret (.ref (zD s.heap l1 l2).objs.size))) { s with heap:=zE s.heap l1 l2 }) :=
 .of_wp fun prog w A R s h=>by
  obtain⟨hp,g,d,tk,os⟩:=s; obtain⟨a1,a2,h⟩:=h; have hsub:=sub_zip
  have T1:Heap.IsTuple (Shared.heap ⟨hp,g,d,tk,os⟩) l1 xs:=a1
  have T2:Heap.IsTuple (Shared.heap ⟨hp.push { cls:=.type "tuple_iterator",data:=.fields #[.ref l1,.int 0 0] },g,d,tk,os⟩) l2 ys:=by
   obtain⟨o,e,r⟩:=a2
   exact⟨o,Heap.get?_push_of_some _ e,r⟩
  wp_walk using wpAny_pyIter_tuple T1,wpAny_pyIter_tuple T2
  exact⟨_,rfl,h⟩
theorem call_zt {l1 l2:Addr} {xs ys:Array Value} {Q:Value->Shared->Prop} (t1:s.heap.IsTuple l1 xs) (t2:s.heap.IsTuple l2 ys)
  (h:∀ h',IsZip h' (s.heap.objs.size+4) (s.heap.objs.size+2) (s.heap.objs.size+3) .none->IsPair h' (s.heap.objs.size+2) (.ref s.heap.objs.size) (.ref (s.heap.objs.size+1))->IsPair h' (s.heap.objs.size+3) .none .none →
   h'.IsTupleIter s.heap.objs.size l1 0->h'.IsTupleIter (s.heap.objs.size+1) l2 0->(∀ c o,s.heap.get? c=some o->h'.get? c=some o)->Q (.ref (s.heap.objs.size+4)) { s with heap:=h' }) :
  wpAny (model prog w) A (call (.type "zip") [.ref l1,.ref l2]) Q E s:=by
 refine callType_new F.called_zip (by decide) (F.typeCall_zip_2 _ _) (F.newCall_zip_2 _ _) (fun obj=>F.args_object_init_3 obj _ _) F.entry_zip_new (zt_new l1 l2 xs ys) ⟨t1,t2,?_⟩
 have y1:(zA s.heap l1).objs.size=s.heap.objs.size+1:=Heap.size_push ..
 have y2:(zA (zA s.heap l1) l2).objs.size=s.heap.objs.size+2:=by rw[Heap.size_push,y1]
 have y3:(zC s.heap l1 l2).objs.size=s.heap.objs.size+3:=by rw[Heap.size_push,y2]
 have y4:(zD s.heap l1 l2).objs.size=s.heap.objs.size+4:=by rw[Heap.size_push,y3]
 have w5:(zE s.heap l1 l2).get? (zD s.heap l1 l2).objs.size=some _:=Heap.get?_push_size _ rfl
 have w4:(zE s.heap l1 l2).get? (zC s.heap l1 l2).objs.size=some _:=Heap.get?_push_of_some _ (Heap.get?_push_size _ rfl)
 have w3:(zE s.heap l1 l2).get? (zA (zA s.heap l1) l2).objs.size=some _:=Heap.get?_push_of_some _ (Heap.get?_push_of_some _ (Heap.get?_push_size _ rfl))
 have w2:(zE s.heap l1 l2).get? (zA s.heap l1).objs.size=some _:=Heap.get?_push_of_some _ (Heap.get?_push_of_some _ (Heap.get?_push_of_some _ (Heap.get?_push_size _ rfl)))
 have w1:(zE s.heap l1 l2).get? s.heap.objs.size=some _:=Heap.get?_push_of_some _ (Heap.get?_push_of_some _ (Heap.get?_push_of_some _ (Heap.get?_push_of_some _ (Heap.get?_push_size _ rfl))))
 show _/\_
 rw[y2,y3,y4] at w5; rw[y1,y2] at w3; rw[y3] at w4; rw[y1] at w2; rw[y4]
 exact⟨⟨_,w5,rfl⟩,h _ w5 w3 w4 ⟨_,w1,rfl,rfl⟩ ⟨_,w2,rfl,rfl⟩ fun c o u=>Heap.get?_push_of_some _ (Heap.get?_push_of_some _ (Heap.get?_push_of_some _ (Heap.get?_push_of_some _ (Heap.get?_push_of_some _ u))))⟩
end
theorem Inv.turnedL {X:Cx} {pins:List (Addr × Obj)} {σ:St} {H:Hp} {s:Shared} {h':Heap} {t':Nat} {ch:List Addr} (I:Inv X pins σ H s) (k:∀ b o,b ∉ ch->s.heap.get? b=some o->h'.get? b=some o) (hf:∀ b∈ch,FpOk X pins H b) :
  Inv X pins σ H { s with heap:=h',toks:=t' }:=by
 have nit:∀ b u,H b=some u->b ∉ ch:=fun b u e z=>by
  have:=(hf b z).1
  rw[this] at e; cases e
 refine I.step (g':=s.gens) (d':=s.drawn) (ch:=ch) (fun b hb=>let ⟨_,f1,_,f3,f4,f5⟩:=hf b hb; ⟨f3,f1,f4,f5⟩) (fun b o _ _ hc e _=>k b o hc e) (fun b o _ _ hc e _=>⟨o.slots,k b o hc e⟩) (fun _ _ _ _ n=>n)
  (fun b o hc e=>⟨o,k b o hc e⟩) (fun _ _ e=>e) (fun _ _ _ e=>e) (fun b ps e=>⟨#[],by rw[e]; simp⟩) (fun m hm=>?_) (fun b u e=>?_) I.bare
 ·obtain⟨o,es,ep,ho,r⟩:=hm
  exact⟨o,es,ep,k _ o (fun z=>(hf _ z).2.1 rfl) ho,r⟩
 ·refine (I.hok b u e).stay (fun c v hc q=>k c v ?_ q) (fun _ q=>q) fun _ _ q=>q
  rcases hc with z | z
  ·rw[z]; exact nit b u e
  ·exact nit c _ z
noncomputable def Itz (K : W.Frag) (a b : Addr) : It :=
  ⟨fun i H => ∃ xs ys x y, SqT K H a xs ∧ SqT K H b ys ∧ xs[i]? = some x ∧ ys[i]? = some y,
   fun i H v H' => ∃ p x y, H p = none ∧ v = .ref p ∧ (∀ xs, SqT K H a xs → xs[i]? = some x) ∧ (∀ ys, SqT K H b ys → ys[i]? = some y) ∧ H' = upd H p (.tup [x, y]),
   fun i H => ∃ xs ys, SqT K H a xs ∧ SqT K H b ys ∧ (xs.length ≤ i ∨ ys.length ≤ i)⟩
noncomputable def tnZ (z p q i1 i2 a b:Addr) (i:Nat) (h:Heap):Prop:=IsZip h z p q .none/\IsPair h p (.ref i1) (.ref i2)/\(∃ u v,IsPair h q u v)/\h.IsTupleIter i1 a i/\h.IsTupleIter i2 b i
theorem turn_zip {P:Program} {w:World} {K:W.Frag} {elts:List Expr} {x1} {pos:Pos} {z p q i1 i2 a b:Addr} (D:Zap z p q i1 i2 a b) :
  Turn P w K (.Tuple elts x1 pos) (Itz K a b) [z,p,q,i1,i2] z (tnZ z p q i1 i2 a b) where
 mem:=by simp
 obj:=fun i h st c hc=>by
  obtain⟨hz,hp,⟨u,v,hq⟩,⟨o1,e1,_,d1⟩,⟨o2,e2,_,d2⟩⟩:=st
  simp only[List.mem_cons,List.not_mem_nil,or_false] at hc
  rcases hc with rfl | rfl | rfl | rfl | rfl
  ·exact⟨_,hz,fun v z=>by cases z⟩
  ·exact⟨_,hp,fun v z=>by cases z⟩
  ·exact⟨_,hq,fun v z=>by cases z⟩
  ·exact⟨_,e1,fun v z=>by rw[d1] at z; cases z⟩
  ·exact⟨_,e2,fun v z=>by rw[d2] at z; cases z⟩
 keep:=fun i h h' st k=>by
  obtain⟨hz,hp,⟨u,v,hq⟩,⟨o1,e1,r1⟩,⟨o2,e2,r2⟩⟩:=st
  exact⟨k z (by simp) _ hz,k p (by simp) _ hp,⟨u,v,k q (by simp) _ hq⟩,⟨o1,k i1 (by simp) _ e1,r1⟩,⟨o2,k i2 (by simp) _ e2,r2⟩⟩
 item:=by
  intro X hP hw hK hc i pins s σ H E I hf st hg
  subst hP hw hK
  obtain⟨xs,ys,x,y,hx,hy,ex,ey⟩:=hg
  obtain⟨hz,hp,⟨u,v,hq⟩,j1,j2⟩:=st
  obtain⟨its,rv,tp,_⟩:=I.tuple hx
  obtain⟨its2,rv2,tp2,_⟩:=I.tuple hy
  obtain⟨xu,hxu,rx⟩:=rv.get ex
  obtain⟨yu,hyu,ry⟩:=rv2.get ey
  refine zt_item D hz hp hq j1 j2 (show s.heap.IsTuple a its.toArray from tp) (show s.heap.IsTuple b its2.toArray from tp2) (x:=xu) (y:=yu) (by simpa using hxu) (by simpa using hyu) fun h' z' q' u1 u2 t' _ kp=>⟨_,rfl,?_⟩
  refine wpAny_letOwnedTupleGo_zip z' fun h2 z2 b2=>?_
  have lt:∀ {c o},s.heap.get? c=some o->c < s.heap.objs.size:=fun e=>Heap.lt_size e
  have zne:s.heap.objs.size≠z:=Nat.ne_of_gt (lt hz)
  have hfr:H s.heap.objs.size=none:=I.fresh
  have I1:Inv X pins σ (upd H s.heap.objs.size (.tup [x,y])) { s with heap:=s.heap.push { cls:=.type "tuple",data:=.seq #[xu,yu] } } :=
   I.laid (t':=s.toks) (fun _ _ e=>Heap.get?_push_of_some _ e) (Nat.le_refl _) ⟨by show 2<=sizeLine; decide,[xu,yu],.cons rx (.cons ry .nil),⟨_,Heap.get?_push_size _ rfl,rfl,_,rfl⟩⟩
  have blt:∀ c∈[z,p,q,i1,i2],c < s.heap.objs.size:=fun c hc=>by
   obtain⟨_,e1,_⟩:=j1
   obtain⟨_,e2,_⟩:=j2
   simp only[List.mem_cons,List.not_mem_nil,or_false] at hc
   rcases hc with rfl | rfl | rfl | rfl | rfl
   ·exact lt hz
   ·exact lt hp
   ·exact lt hq
   ·exact lt e1
   ·exact lt e2
  have ff:∀ c∈[z,p,q,i1,i2],FpOk X pins (upd H s.heap.objs.size (.tup [x,y])) c:=fun c hc=>by
   obtain⟨f0,fr⟩:=hf c hc
   exact⟨by rw[upd_ne (Nat.ne_of_lt (blt c hc))]; exact f0,fr⟩
  have kk:∀ c o,c ∉ [z,q,i1,i2]->(s.heap.push { cls:=.type "tuple",data:=.seq #[xu,yu] }).get? c=some o->h2.get? c=some o:=fun c o hc e=>by
   have c1:c≠z:=fun h=>hc (by simp [h])
   refine (b2.2 c c1).trans ?_
   rcases Heap.get?_push_cases e with⟨ec,eo⟩ | e'
   ·subst ec
    subst eo
    exact t'
   ·exact kp c o c1 (fun h=>hc (by simp [h])) (fun h=>hc (by simp [h])) (fun h=>hc (by simp [h])) e'
  have I2:Inv X pins σ (upd H s.heap.objs.size (.tup [x,y])) { s with heap:=h2 } :=
   Inv.turnedL (s:={ s with heap:=s.heap.push { cls:=.type "tuple",data:=.seq #[xu,yu] } }) (h':=h2) (t':=s.toks) (ch:=[z,q,i1,i2]) I1 kk fun c hc=>ff c (by
    simp only[List.mem_cons] at hc ⊢
    rcases hc with h | h | h | h
    ·exact .inl h
    ·exact .inr (.inr (.inl h))
    ·exact .inr (.inr (.inr (.inl h)))
    ·exact .inr (.inr (.inr (.inr h))))
  refine⟨.ref s.heap.objs.size,_,I2,rfl,⟨_,x,y,hfr,rfl,fun zs hzs=>?_,fun zs hzs=>?_,rfl⟩,⟨z2,(b2.2 _ D.pz).trans (kp _ _ D.pz D.pq D.pa D.pb hp),⟨_,_,(b2.2 _ D.qz).trans q'⟩,itr_sb u1 b2 D.az,itr_sb u2 b2 D.bz⟩,fun c hc=>(ff c hc).1⟩
  ·rw[I.tuple_inj hzs hx]; exact ex
  ·rw[I.tuple_inj hzs hy]; exact ey
 done:=by
  intro X hP hw hK hc i pins s σ H E I hf st hg
  subst hP hw hK
  obtain⟨xs,ys,hx,hy,hend⟩:=hg
  obtain⟨hz,hp,⟨u,v,hq⟩,j1,j2⟩:=st
  obtain⟨its,rv,tp,_⟩:=I.tuple hx
  obtain⟨its2,rv2,tp2,_⟩:=I.tuple hy
  have l1:=rv.length
  have l2:=rv2.length
  refine zt_end (I.ok.hd hc) D hz hp hq j1 j2 (show s.heap.IsTuple a its.toArray from tp) (show s.heap.IsTuple b its2.toArray from tp2) (hend.imp (fun h=>by simp; lia) fun h=>by simp; lia) fun h' kp=>⟨rfl,?_⟩
  exact I.turnedL (t':=s.toks) (ch:=[z,q,i1,i2]) (fun c o hc e=>kp c o (fun h=>hc (by simp [h])) (fun h=>hc (by simp [h])) (fun h=>hc (by simp [h])) (fun h=>hc (by simp [h])) e)
   fun c hc=>hf c (by simp only[List.mem_cons] at hc ⊢; rcases hc with h | h | h | h; exact .inl h; exact .inr (.inr (.inl h)); exact .inr (.inr (.inr (.inl h))); exact .inr (.inr (.inr (.inr h))))
 self:=fun _ _ _ _ _ st h=>wpAny_pyIter_zip st.1 h
theorem zap_new {n c d:Nat} (hc:c < n) (hd:d < n):Zap (n+4) (n+2) (n+3) n (n+1) c d:=by
 constructor <;> (refine (fun (h:¬ @Eq Nat _ _)=>h) ?_) <;> lia
noncomputable def iZip (K:W.Frag) (ta:TA):TI:=fun σ H R=>ta σ H fun vs H1=>∃ a b xs ys,vs=[.ref a,.ref b]/\SqT K H1 a xs/\SqT K H1 b ys/\R (Itz K a b) H1
theorem pi_zip {X:Cx} {elts:List Expr} {x1} {tpos:Pos} {a b:Expr} {ta:TA} {p pos:Pos} (hg:Gl X "zip") (hm:X.mg "zip" = none) (ha:PA X [a,b] ta) (hs:starEach [a,b] X.env=[(false,eval a X.env),(false,eval b X.env)]:=by rfl) (hs2:starEach [b] X.env=[(false,eval b X.env)]:=by rfl) :
  PI X (.Tuple elts x1 tpos) (.Call (.Name "zip" p) [a,b] [] pos) (iZip X.K ta):=by
 intro pins s σ H R I h
 refine Call_ (ld_blt I hg hm boot_zip (PyProof.Rows.callWith_type1 (thn (ha pos pins s σ H _ I h) fun us s1 ⟨vs,H1,I1,r1,q1⟩=>?_) (by rw[hs,hs2]) (by rw[hs2]; rfl)))
 obtain⟨c,d,xs,ys,e,hx,hy,q⟩:=q1
 subst e
 obtain⟨u1,u2,rfl,ru1,ru2⟩:=vals2 r1
 cases ru1
 cases ru2
 obtain⟨its,_,tp,_⟩:=I1.tuple hx
 obtain⟨its2,_,tp2,_⟩:=I1.tuple hy
 refine call_zt (show s1.heap.IsTuple c its.toArray from tp) (show s1.heap.IsTuple d its2.toArray from tp2) fun h' z' p' q' j1 j2 kp=>?_
 have lc:c < s1.heap.objs.size:=by obtain⟨o,e,_⟩:=tp; exact Heap.lt_size e
 have ld:d < s1.heap.objs.size:=by obtain⟨o,e,_⟩:=tp2; exact Heap.lt_size e
 have D:Zap (s1.heap.objs.size+4) (s1.heap.objs.size+2) (s1.heap.objs.size+3) s1.heap.objs.size (s1.heap.objs.size+1) c d:=zap_new lc ld
 refine wpAny_pyIter_zip z' ⟨_,_,_,_,H1,rfl,I1.kept (t':=s1.toks) kp,turn_zip D,⟨z',p',⟨_,_,q'⟩,j1,j2⟩,fun e he=>?_,q⟩
 have hle:s1.heap.objs.size<=e:=by
  simp only[List.mem_cons,List.not_mem_nil,or_false] at he
  rcases he with rfl | rfl | rfl | rfl | rfl <;> lia
 exact I1.fpOk hle (I1.hok.fresh hle)
theorem for_zip {K:W.Frag} {a b:Addr} {xs ys:List V} {g:TG} {tb:TS} {D:Ends} {σ:St} {H:Hp} (hlen:xs.length=ys.length) (Pv:Nat->St->Hp->Prop) (h0:Pv 0 σ H) (hl:∀ i σ H,i<=xs.length->Pv i σ H->SqT K H a xs/\SqT K H b ys)
  (hs:∀ i x y p σ H,xs[i]? = some x->ys[i]? = some y->H p=none->Pv i σ H->g (.ref p) σ (upd H p (.tup [x,y])) fun σ2 H2=>tb { D with nx:=Pv (i+1),ct:=Pv (i+1),bk:=D.nx } σ2 H2) (hd:∀ σ H,Pv xs.length σ H->D.nx σ H) :
  ∃ W:Nat->Nat->St->Hp->Prop,(∃ m,W 0 m σ H)/\∀ i m σ H,W i m σ H →
   ((Itz K a b).stop i H/\D.nx σ H)∨((Itz K a b).go i H/\∃ N:St->Hp->Prop,(∀ σ' H',N σ' H'->∃ m',m' < m/\W (i+1) m' σ' H')/\∀ x H',(Itz K a b).yld i H x H'->g x σ H' fun σ2 H2=>tb { D with nx:=N,ct:=N,bk:=D.nx } σ2 H2):=by
 refine⟨fun i m σ H=>m=xs.length - i/\i<=xs.length/\Pv i σ H,⟨xs.length,by simp,Nat.zero_le _,h0⟩,?_⟩
 rintro i m σ H ⟨rfl,hi,p⟩
 obtain⟨q1,q2⟩:=hl i σ H hi p
 by_cases hlt:i < xs.length
 ·have hlt2:i < ys.length:=by lia
  refine .inr ⟨⟨xs,ys,xs[i],ys[i],q1,q2,by simp [hlt],by simp [hlt2]⟩,Pv (i+1),fun σ' H' p'=>⟨xs.length - (i+1),by lia,rfl,hlt,p'⟩,fun v H' y=>?_⟩
  obtain⟨pp,x,y,hp,rfl,hx,hy,rfl⟩:=y
  exact hs i x y pp σ _ (hx xs q1) (hy ys q2) hp p
 ·have e:i=xs.length:=by lia
  subst e
  exact .inl ⟨⟨xs,ys,q1,q2,.inl (Nat.le_refl _)⟩,hd σ H p⟩
end L2
namespace L2
open PySem PySem.Spec PyProof.Rows
theorem eqI_range:∀ ns ms:List Int,((List.range (min ns.length ms.length)).all (fun j=>ns.getD j 0 == ms.getD j 0) && ns.length == ms.length)=decide (ns=ms)
 | [],[]=>rfl
 | [],m::ms=>by rw[decide_eq_false (by simp)]; rfl
 | n::ns,[]=>by rw[decide_eq_false (by simp)]; rfl
 | n::ns,m::ms=>by
  have ih:=eqI_range ns ms
  have e:min (n::ns).length (m::ms).length=min ns.length ms.length+1:=by rw[List.length_cons,List.length_cons]; lia
  have el:((n::ns).length == (m::ms).length)=(ns.length == ms.length):=by simp
  have e3:decide (n::ns=m::ms)=(n == m && decide (ns=ms)):=by
   by_cases h1:n=m
   ·subst h1
    by_cases h2:ns=ms
    ·subst h2; simp
    ·simp [h2]
   ·simp [h1]
  rw[e,List.range_succ_eq_map,List.all_cons,List.all_map,el,e3,← ih,Bool.and_assoc]
  rfl
theorem pg_tupK {X:Cx} {pos:Pos} {K:W.Frag} {es:List Expr} {k:Nat} {t:TGs} (n:Nat) (hK:X.K=K) (hc:X.calm=true) (h:PGs X es t)
  (hn:(assignEach es X.env).length=n:=by rfl) (hst:(assignEach es X.env).findIdx? (·.1)=none:=by rfl):PG X (.Tuple es k pos) (gTup K n t):=by
 subst hK
 exact pg_tup hc h hn hst
section
variable {X:Cx}
theorem ints_get {ns:List Int} {its:List Value} (i:IntsAre its ns) {j:Nat} (h:j < its.length):∃ t,its[j] = .int (ns.getD j 0) t:=by
 induction i generalizing j with
 | nil=>exact absurd h (Nat.not_lt_zero _)
 | cons n t r ih =>
  cases j with
  | zero=>exact⟨t,rfl⟩
  | succ j =>
   obtain⟨u,e⟩:=ih (j:=j) (Nat.lt_of_succ_lt_succ h)
   exact⟨u,by simpa using e⟩
end
end L2
namespace L2
open PySem PySem.Spec PyProof.Rows
section
variable {X:Cx}
end
end L2
namespace L2
open PySem PySem.Spec PyProof.Rows
noncomputable def rInt1:List V->Hp->VK->Prop:=fun xs H Q=>(∃ i,xs=[.int i]/\Q (.int i) H)∨∃ k,xs=[.bl k]/\Q (.int (if k then 1 else 0)) H
end L2
namespace L2
open PySem
noncomputable def Ris (xs:Array Nat):Prop:=xs.toList.Pairwise (· < ·)
theorem ris_lt {xs:Array Nat} (h:Ris xs) {i j x y:Nat} (hij:i < j) (hi:xs[i]? = some x) (hj:xs[j]? = some y):x < y:=by
 rw[← Array.getElem?_toList] at hi hj
 obtain⟨li,ei⟩:=List.getElem?_eq_some_iff.mp hi
 obtain⟨lj,ej⟩:=List.getElem?_eq_some_iff.mp hj
 have:=List.pairwise_iff_getElem.mp h i j li lj hij
 rw[ei,ej] at this
 exact this
theorem below_go {xs:Array Nat} (h:Ris xs) (j:Nat):∀ (fuel lo hi:Nat),hi - lo<=fuel->lo<=hi->hi<=xs.size->(∀ i x,i < lo->xs[i]? = some x->x < j)->(∀ i x,hi<=i->xs[i]? = some x->j<=x) →
  SetTable.below.go xs j fuel lo hi<=xs.size/\(∀ i x,i < SetTable.below.go xs j fuel lo hi->xs[i]? = some x->x < j)/\(∀ i x,SetTable.below.go xs j fuel lo hi<=i->xs[i]? = some x->j<=x)
 | 0,lo,hi,hf,hl,hs,h1,h2=>by
  rw[SetTable.below.go]
  have e:lo=hi:=by lia
  subst e
  exact⟨hs,h1,h2⟩
 | fuel+1,lo,hi,hf,hl,hs,h1,h2=>by
  rw[SetTable.below.go]
  by_cases hlt:lo < hi
  ·rw[if_pos hlt]
   dsimp only
   have hm1:lo<=(lo+hi) / 2:=by lia
   have hm2:(lo+hi) / 2 < hi:=by lia
   have hms:(lo+hi) / 2 < xs.size:=by lia
   generalize (lo+hi) / 2=m at *
   have eg:xs[m]? = some xs[m]:=Array.getElem?_eq_getElem hms
   have ed:xs.getD m j=xs[m]:=by rw[Array.getD_eq_getD_getElem?,eg]; rfl
   rw[ed]
   by_cases hc:xs[m] < j
   ·rw[if_pos hc]
    refine below_go h j fuel (m+1) hi (by lia) (by lia) hs (fun i x hi' e=>?_) h2
    by_cases hm:i=m
    ·subst hm
     rw[eg] at e
     cases e
     exact hc
    ·exact Nat.lt_trans (ris_lt h (show i < m by lia) e eg) hc
   ·rw[if_neg hc]
    refine below_go h j fuel lo m (by lia) hm1 (by lia) h1 (fun i x hi' e=>?_)
    by_cases hm:i=m
    ·subst hm
     rw[eg] at e
     cases e
     lia
    ·have:=ris_lt h (show m < i by lia) eg e
     lia
  ·rw[if_neg hlt]
   have e:lo=hi:=by lia
   subst e
   exact⟨hs,h1,h2⟩
theorem below_ok {xs:Array Nat} (h:Ris xs) (j:Nat):SetTable.below xs j<=xs.size/\(∀ i x,i < SetTable.below xs j->xs[i]? = some x->x < j)/\(∀ i x,SetTable.below xs j<=i->xs[i]? = some x->j<=x):=by
 unfold SetTable.below
 refine below_go h j xs.size 0 xs.size (by lia) (Nat.zero_le _) (Nat.le_refl _) (fun i x hi=>absurd hi (Nat.not_lt_zero _)) fun i x hi e=>?_
 rw[Array.getElem?_eq_none hi] at e
 cases e
theorem below_at {xs:Array Nat} (h:Ris xs) {i x:Nat} (e:xs[i]? = some x):SetTable.below xs (x+1)=i+1:=by
 obtain⟨h1,h2,h3⟩:=below_ok h (x+1)
 have hi:i < xs.size:=(Array.getElem?_eq_some_iff.mp e).1
 generalize SetTable.below xs (x+1)=p at *
 rcases Nat.lt_trichotomy p (i+1) with hp | hp | hp
 ·have:=h3 i x (by lia) e
  lia
 ·exact hp
 ·have hs:i+1 < xs.size:=by lia
  have:=ris_lt h (Nat.lt_succ_self i) e (Array.getElem?_eq_getElem hs)
  have:=h2 (i+1) _ hp (Array.getElem?_eq_getElem hs)
  lia
theorem below_zero {xs:Array Nat} (h:Ris xs):SetTable.below xs 0=0:=by
 obtain⟨h1,h2,h3⟩:=below_ok h 0
 generalize SetTable.below xs 0=p at *
 rcases Nat.eq_zero_or_pos p with hp | hp
 ·exact hp
 ·have hs:0 < xs.size:=by lia
  have:=h2 0 _ hp (Array.getElem?_eq_getElem hs)
  lia
theorem ris_put {xs:Array Nat} (h:Ris xs) {j:Nat} (hj:xs[SetTable.below xs j]?≠some j):Ris (SetTable.insertAt xs (SetTable.below xs j) j):=by
 obtain⟨h1,h2,h3⟩:=below_ok h j
 unfold Ris
 rw[SetTable.toList_insertAt]
 generalize hp:SetTable.below xs j=p at *
 have hh:xs.toList.Pairwise (· < ·):=h
 have hlt:∀ x∈xs.toList.take p,x < j:=fun x hx=>by
  obtain⟨i,hi,e⟩:=List.getElem_of_mem hx
  rw[List.length_take] at hi
  rw[List.getElem_take] at e
  exact h2 i x (by lia) (by rw[← Array.getElem?_toList,List.getElem?_eq_getElem (by lia),e])
 have hgt:∀ x∈xs.toList.drop p,j < x:=fun x hx=>by
  obtain⟨i,hi,e⟩:=List.getElem_of_mem hx
  rw[List.length_drop] at hi
  rw[List.getElem_drop] at e
  have ex:xs[p+i]? = some x:=by rw[← Array.getElem?_toList,List.getElem?_eq_getElem (by lia),e]
  have:=h3 (p+i) x (by lia) ex
  rcases Nat.lt_or_ge j x with q | q
  ·exact q
  ·have ejx:x=j:=by lia
   subst ejx
   by_cases hi0:i=0
   ·subst hi0
    exact absurd ex hj
   ·have hps:p < xs.size:=by
     have:=(Array.getElem?_eq_some_iff.mp ex).1
     lia
    have:=ris_lt h (show p < p+i by lia) (Array.getElem?_eq_getElem hps) ex
    have:=h3 p _ (Nat.le_refl _) (Array.getElem?_eq_getElem hps)
    lia
 rw[List.pairwise_append]
 refine⟨hh.sublist (List.take_sublist _ _),List.pairwise_cons.mpr ⟨hgt,hh.sublist (List.drop_sublist _ _)⟩,fun a ha b hb=>?_⟩
 rcases List.mem_cons.mp hb with rfl | hb
 ·exact hlt a ha
 ·exact Nat.lt_trans (hlt a ha) (hgt b hb)
structure TOk (b:Bool) (t:SetTable):Prop where
 led:t.led=b
 ris:t.plain=true->Ris t.place
theorem ris_live (owner:Array (Option Nat)):∀ l:List Nat,l.Pairwise (· < ·)->((l.filterMap fun j=>(owner.getD j none).map (j,·)).map (·.1)).Pairwise (· < ·):=fun l hl=>by
 have hs:List.Sublist ((l.filterMap fun j=>(owner.getD j none).map (j,·)).map (·.1)) l:=by
  induction l with
  | nil=>exact List.Sublist.slnil
  | cons a r ih =>
   have ih:=ih (List.pairwise_cons.mp hl).2
   rw[List.filterMap_cons]
   cases e:owner.getD a none with
   | none=>exact ih.cons _
   | some k=>exact ih.cons₂ _
 exact hl.sublist hs
end L2
namespace L2
open PySem PySem.Spec PyProof.Rows
section
variable {P:Program} {w:World} {A:Around} {E:Value->Shared->Prop} {s:Shared}
end
end L2
namespace L2
open PySem PySem.Spec PyProof.Rows
section
variable {P:Program} {w:World} {A:Around} {R:Result->Shared->Prop} {I:Addr} {fp wr:List Addr} {G:Array GenState->Array GenState->Prop} {n:Nat} {Pv:Nat->Value->Prop} {St:Nat->Shared->Prop} {b:Bool}
end
end L2
namespace L2
open PySem PySem.Spec PyProof.Rows
section
variable {P:Program} {w:World} {A:Around} {E:Value->Shared->Prop} {s:Shared}
noncomputable def ledB (w:World):Bool:=!w.params.followText "set-order"
noncomputable def newS (w:World):Obj:={ cls:=.type "set",dict:=none,data:=.set #[] 0 (.fresh 0 0 (ledB w)) }
theorem set_new (a:Value) {Q₁:Value->Shared->Prop} (h:Q₁ (.ref s.heap.objs.size) { s with heap:=s.heap.push (newS w) }) :
  codeAny (model P w) A (.call (.builtin "set.__new__") ⟨[.type "set",a],[]⟩) (wants Q₁ E) s:=by
 refine codeAny_of_tree (show wpAny _ A.in1 (do checkBuiltinCall "set.__new__" ⟨[.type "set",a],[]⟩; again (.builtin "set.__new__" ⟨[.type "set",a],[]⟩)) _ _ s from ?_)
 refine wpAny_bind (wpAny_of_eq (PySem.F.newCall_set_1 a) (wpAny_pure ⟨plainId_quiet PySem.F.plain_set_new _,codeAny_builtin PySem.F.entry_set_new ?_⟩))
 rw[Around.under_plainId PySem.F.plain_set_new _]
 unfold Builtin.«set.__new__» Builtin.Frozenset.newClass; have hsub:=sub_set_self; obtain⟨hp,g,d,tk,os⟩:=s
 dsimp only
 wp_walk
 refine wpAny_askSetting (wpAny_pure ?_)
 dsimp only
 simp only[newObj]; refine wpAny_bind (wpAny_alloc (wpAny_pure ?_))
 exact wpAny_pure h
end
end L2
namespace L2
open PySem PySem.Spec PyProof.Rows
section
variable {P:Program} {w:World} {A:Around} {E:Value->Shared->Prop} {s:Shared}
set_option maxRecDepth 100000 in
set_option maxHeartbeats 3200000 in
end
end L2
namespace L2
open PySem PySem.Spec PyProof.Rows
theorem own_setit:Manifest.owners.lookup (String.ofList ['r','o','t','a','r','e','t','i','_','t','e','s'].reverse)=some Manifest.sig_set_iterator:=by kernel_rfl
theorem slot_setit_next:Slot "set_iterator" "__next__" "set_iterator.__next__" :=
 .of (owner:="set_iterator") (n:="__next__") (by rw[typeLookup_type,builtinLookup_eq_fast]; kernel_rfl) (by decide+kernel) (by decide+kernel) (by decide+kernel) (by first | exact .inl (by decide+kernel) | exact .inr (by decide+kernel)) (by rw[isSubtype_type]; kernel_rfl)
theorem entry_setit_next:entryFor table "set_iterator.__next__" = some Builtin.«set_iterator.__next__»:=entryFor_of_tree (by kernel_rfl)
theorem args_setit_next (a:Value):argsOk "set_iterator.__next__" ⟨[a],[]⟩:=by
 unfold argsOk
 rw[signature?_of (id:="set_iterator.__next__") (n:=['_','_','t','x','e','n','_','_']) (o:=['r','o','t','a','r','e','t','i','_','t','e','s']) (by kernel_rfl) own_setit]
 kernel_rfl
theorem slot_setit_iter:Slot "set_iterator" "__iter__" "set_iterator.__iter__" :=
 .of (owner:="set_iterator") (n:="__iter__") (by rw[typeLookup_type,builtinLookup_eq_fast]; kernel_rfl) (by decide+kernel) (by decide+kernel) (by decide+kernel) (by first | exact .inl (by decide+kernel) | exact .inr (by decide+kernel)) (by rw[isSubtype_type]; kernel_rfl)
theorem entry_setit_iter:entryFor table "set_iterator.__iter__" = some Builtin.«dict_keyiterator.__iter__»:=entryFor_alias (id':="dict_keyiterator.__iter__") (by kernel_rfl) rfl (by decide+kernel) (by kernel_rfl)
theorem args_setit_iter (a:Value):argsOk "set_iterator.__iter__" ⟨[a],[]⟩:=by
 unfold argsOk
 rw[signature?_of (id:="set_iterator.__iter__") (n:=['_','_','r','e','t','i','_','_']) (o:=['r','o','t','a','r','e','t','i','_','t','e','s']) (by kernel_rfl) own_setit]
 kernel_rfl
theorem entry_set_iterX:entryFor table "set.__iter__" = some Builtin.«frozenset.__iter__»:=entryFor_alias (id':="frozenset.__iter__") (by kernel_rfl) rfl (by decide+kernel) (by kernel_rfl)
theorem perm_erase {α:Type}:∀ (l:List α) (j:Nat) (h:j < l.length),(l[j]::l.eraseIdx j).Perm l
 | a::r,0,_=>.refl _
 | a::r,j+1,h=>by
  have ih:=perm_erase r j (Nat.lt_of_succ_lt_succ h)
  rw[List.getElem_cons_succ,List.eraseIdx_cons_succ]
  exact (List.Perm.swap _ _ _).trans (ih.cons a)
theorem perm_pick {α:Type} (nx:Nat->Nat):∀ (fuel k:Nat) (left:List α) (out:Array α),left.length<=fuel->(pickOrder.go nx fuel k left out).toList.Perm (out.toList++left)
 | 0,k,left,out,h=>by
  rw[pickOrder.go]
  have e:left=[]:=List.eq_nil_of_length_eq_zero (by lia)
  subst e
  rw[List.append_nil]
 | fuel+1,k,left,out,h=>by
  rw[pickOrder.go]
  cases hl:left with
  | nil =>
   simp
  | cons a r =>
   have hlen:nx k % (a::r).length < (a::r).length:=Nat.mod_lt _ (by simp)
   rw[List.getElem?_eq_getElem hlen]
   dsimp only
   generalize nx k % (a::r).length=j at hlen ⊢
   have ih:=perm_pick nx fuel (k+1) ((a::r).eraseIdx j) (out.push (a::r)[j]) (by rw[List.length_eraseIdx_of_lt hlen,← hl]; lia)
   refine ih.trans ?_
   rw[Array.toList_push,List.append_assoc]
   refine List.Perm.append (.refl _) ?_
   show ((a::r)[j]::(a::r).eraseIdx j).Perm (a::r)
   exact perm_erase _ j hlen
theorem pick_perm {α:Type} (nx:Nat->Nat) (xs:Array α):(pickOrder nx xs).toList.Perm xs.toList:=by
 unfold pickOrder
 have:=perm_pick nx xs.size 0 xs.toList #[] (by rw[Array.length_toList]; exact Nat.le_refl _)
 simpa using this
section
variable {P:Program} {w:World} {A:Around} {E:Value->Shared->Prop} {s:Shared}
end
end L2
namespace L2
open PySem PySem.Spec PyProof.Rows
noncomputable def SIt (h:Heap) (I S:Addr) (f:Value) (i n ep:Nat):Prop:=h.get? I=some { cls:=.type "set_iterator",dict:=none,data:=.fields #[f,.int i 0,.ref S,.int n 0,.int ep 0],slots:=#[] }
section
variable {P:Program} {w:World} {A:Around} {E:Value->Shared->Prop} {s:Shared} {I S:Addr} {o:Obj} {es:Array (Int × Value)} {ep:Nat} {t:SetTable}
theorem sit_int {sl:Int} {tk:Tok} {i:Nat} {Q:Option Value->Shared->Prop} {r:Option (Value × Nat)} (hh:A.handled=none) (hI:SIt s.heap I S (.int sl tk) i es.size ep) (hS:s.heap.get? S=some o) (hd:o.data = .set es ep t) (hf:t.fits es.size=true)
  (hn:∀ (A:Around) (E:Value->Shared->Prop) (Q:Option (Value × Nat)->Shared->Prop),Q r s->wpAny (model P w) A (setNext S sl.toNat i ep) Q E s)
  (hs:∀ x j h',r=some (x,j)->SIt h' I S (.int (j:Nat) 0) (i+1) es.size ep->Heap.SameBut I s.heap h'->Q (some x) { s with heap:=h' }) (he:∀ h',r=none->Heap.ExtBut I s.heap h'->Q none { s with heap:=h' }):wpAny (model P w) A (pyNext (.ref I)) Q E s:=by
 have hT:s.TypeIs (.ref I) "set_iterator":=⟨_,hI,rfl⟩
 unfold pyNext
 refine wpAny_bind (wpAny_attempt (wpAny_callSpecial?_slot (name:=Str.ofString "__next__") hT slot_setit_next (wpAny_call_entry slot_setit_next hT entry_setit_next ?_ (args_setit_next _))))
 refine (show wpAny _ _ (fieldsOf (.ref I) >>= _) _ _ s from wpAny_bind (wpAny_fieldsOf hI rfl ?_))
 refine (show wpAny _ _ (setEntries S >>= _) _ _ s from wpAny_bind (wpAny_setEntries_of hS hd hf ?_))
 rw[if_neg (by simp)]
 refine (show wpAny _ _ (setNext S sl.toNat (i:Int).toNat (ep:Int).toNat >>= _) _ _ s from wpAny_bind ?_)
 rw[Int.toNat_natCast,Int.toNat_natCast]
 refine hn _ _ _ ?_
 cases hr:r with
 | some xj =>
  obtain⟨x,j⟩:=xj
  dsimp only
  refine wpAny_bind (wpAny_setField hI rfl (by simp) ?_)
  have g1:=Heap.get?_update_self (Obj.mapFields (·.setIfInBounds 0 (rawInt (j:Int)))) hI rfl
  refine wpAny_bind (wpAny_setField g1 rfl (by simp) ?_)
  have g2:=Heap.get?_update_self (Obj.mapFields (·.setIfInBounds 1 (rawInt ((i:Int)+1)))) g1 rfl
  refine wpAny_pure ⟨x,rfl,wpAny_pure (hs x j _ hr ?_ ((Heap.SameBut.update ..).trans (Heap.SameBut.update ..)))⟩
  exact g2
 | none =>
  dsimp only
  refine wpAny_bind (wpAny_setField hI rfl (by simp) ?_)
  refine (show wpAny _ _ (newExc (.type "StopIteration") [] >>= _) _ _ _ from wpAny_bind ?_)
  simp only[newExc,newTuple]
  refine wpAny_bind (wpAny_newObj_type ?_ (by size_fits))
  refine wpAny_bind (m:=firstArgMember _ _) (wpAny_of_eq (a:=Value.none) (by first | rfl | (simp only[firstArgMember]; rfl)) (wpAny_newObj_type ?_ (by size_fits)))
  simp only[raiseNew]
  refine wpAny_bind (wpAny_handled ?_)
  first | rw[show A.in1.handled=none from hh] | rw[hh]
  refine wpAny_bind (wpAny_pure (wpAny_throw ?_))
  refine wpAny_bind (wpAny_isInstance (T:="StopIteration") (b:=true) ⟨_,Heap.get?_push_size _ rfl,rfl⟩ isSubtype_stop (wpAny_pure ?_))
  exact he _ hr (((Heap.SameBut.update ..).extBut.push _).push _)
end
end L2
namespace L2
open PySem PySem.Spec PyProof.Rows
section
variable {P:Program} {w:World} {A:Around} {E:Value->Shared->Prop} {s:Shared} {I S:Addr} {o:Obj} {es:Array (Int × Value)} {ep:Nat} {t:SetTable}
theorem next_text {sl i:Nat} {Q:Option (Value × Nat)->Shared->Prop} (hb:w.params.followText "set-order" = true) (hS:s.heap.get? S=some o) (hd:o.data = .set es ep t) (hf:t.fits es.size=true)
  (h:Q (((pickOrder (w.params.setOrder S ep) es)[i]?).map fun e=>(e.2,sl)) s):wpAny (model P w) A (setNext S sl i ep) Q E s:=by
 unfold setNext
 refine wpAny_bind (wpAny_setState_of hS hd hf ?_)
 dsimp only
 unfold setsByText
 refine wpAny_bind (wpAny_bind (wpAny_askSetting (wpAny_pure ?_)))
 rw[if_pos (show (model P w).w.params.followText "set-order" = true from hb),if_neg (by simp)]
 unfold setWalk
 refine wpAny_bind (wpAny_bind (wpAny_setState_of hS hd hf ?_))
 dsimp only
 unfold setsByText
 refine wpAny_bind (wpAny_bind (wpAny_askSetting (wpAny_pure ?_)))
 rw[if_pos (show (model P w).w.params.followText "set-order" = true from hb)]
 exact wpAny_bind (wpAny_askSetting (wpAny_pure (wpAny_pure h)))
theorem next_plain {sl i:Nat} {Q:Option (Value × Nat)->Shared->Prop} (hb:w.params.followText "set-order" = false) (hS:s.heap.get? S=some o) (hd:o.data = .set es ep t) (hf:t.fits es.size=true) (hl:t.led=true)
  (hp:t.plain=true∨es.size<=1) (hi:SetTable.below t.place sl=i)
  (h:Q (match es[i]?,t.place[i]? with | some (_,x),some j=>some (x,j+1) | _,_=>none) s):wpAny (model P w) A (setNext S sl i ep) Q E s:=by
 unfold setNext
 refine wpAny_bind (wpAny_setState_of hS hd hf ?_)
 dsimp only
 unfold setsByText
 refine wpAny_bind (wpAny_bind (wpAny_askSetting (wpAny_pure ?_)))
 rw[if_neg (show ¬ (model P w).w.params.followText "set-order" = true by rw[show (model P w).w.params.followText "set-order" = false from hb]; exact Bool.false_ne_true)]
 have hdr:(!t.plain && decide (es.size > 1))=false:=by
  rcases hp with q | q
  ·rw[q]
   rfl
  ·rw[decide_eq_false (by lia),Bool.and_false]
 refine wpAny_ite_false (show decide ((!t.plain && decide (es.size > 1))=true)=false from decide_eq_false (by rw[hdr]; exact Bool.false_ne_true)) ?_
 refine wpAny_bind (show wpAny _ _ (if (!t.led && !es.isEmpty)=true then unsupported "set:maker-not-led" else pure ()) _ _ _ from ?_)
 rw[hl]
 refine wpAny_ite_false (decide_eq_false (by simp)) (wpAny_pure (wpAny_pure ?_))
 rw[hi]
 exact h
theorem sit_self {f:Value} {i n:Nat} {Q:Value->Shared->Prop} (hI:SIt s.heap I S f i n ep) (h:Q (.ref I) s):wpAny (model P w) A (pyIter (.ref I)) Q E s:=by
 have hT:s.TypeIs (.ref I) "set_iterator":=⟨_,hI,rfl⟩
 refine wpAny_pyIter_slot hT slot_setit_iter (wpAny_call_entry slot_setit_iter hT entry_setit_iter (show wpAny _ _ (ret (.ref I)) _ _ s from ?_) (args_setit_iter _))
 exact wpAny_pure ⟨_,rfl,"set_iterator",_,hT,slot_setit_next.lookup,h⟩
theorem walk_text (hh:A.handled=none) (hne:S≠I) (hb:w.params.followText "set-order" = true) (hd:o.data = .set es ep t) (hf:t.fits es.size=true) :
  Walks P w A I [I,S] [I] es.size (fun i v=>((pickOrder (w.params.setOrder S ep) es).toList.map (·.2))[i]? = some v) (fun i h=>(∃ (sl:Nat) (tk:Tok),SIt h I S (.int (sl:Int) tk) i es.size ep)/\h.get? S=some o) where
 sub:=fun b hb=>by simp at hb; simp [hb]
 frame:=fun i h h' st hk=>by
  obtain⟨⟨sl,tk,hI⟩,hS⟩:=st
  exact⟨⟨sl,tk,hk I (by simp) _ hI⟩,hk S (by simp) _ hS⟩
 item:=fun i s Q E hi st hQ=>by
  obtain⟨⟨sl,tk,hI⟩,hS⟩:=st
  have pl:(pickOrder (w.params.setOrder S ep) es).size=es.size:=by
   have:=(pick_perm (w.params.setOrder S ep) es).length_eq
   simpa using this
  have hx:(pickOrder (w.params.setOrder S ep) es)[i]? = some ((pickOrder (w.params.setOrder S ep) es)[i]'(by lia)):=Array.getElem?_eq_getElem _
  generalize (pickOrder (w.params.setOrder S ep) es)[i]'(by lia)=x at hx
  refine sit_int (r:=some (x.2,sl)) hh hI hS hd hf (fun A E Q q=>?_) (fun v j h' hr hI' sb=>?_) (fun h' hr _=>by cases hr)
  ·refine next_text hb hS hd hf ?_
   rw[Int.toNat_natCast,hx]
   exact q
  ·cases hr
   refine hQ _ h' s.toks ?_ ⟨⟨sl,0,hI'⟩,sb.2 S hne▸hS⟩ fun b o' hb' e=>?_
   ·rw[List.getElem?_map,Array.getElem?_toList,hx]
    rfl
   ·rw[sb.2 b (fun z=>hb' (by rw[z]; exact List.mem_singleton.mpr rfl))]
    exact e
 done:=fun s Q E st hQ=>by
  obtain⟨⟨sl,tk,hI⟩,hS⟩:=st
  have pl:(pickOrder (w.params.setOrder S ep) es).size=es.size:=by
   have:=(pick_perm (w.params.setOrder S ep) es).length_eq
   simpa using this
  refine sit_int (r:=none) hh hI hS hd hf (fun A E Q q=>?_) (fun v j h' hr=>by cases hr) (fun h' _ hx=>?_)
  ·refine next_text hb hS hd hf ?_
   rw[Array.getElem?_eq_none (by lia)]
   exact q
  ·exact hQ h' s.toks fun b o' hb' e=>hx b o' (fun z=>hb' (by rw[z]; exact List.mem_singleton.mpr rfl)) e
 self:=fun i s Q E st hQ=>by
  obtain⟨⟨sl,tk,hI⟩,_⟩:=st
  exact sit_self hI hQ
noncomputable def slotAt (pl:Array Nat):Nat->Nat
 | 0=>0
 | i+1=>pl.getD i 0+1
theorem below_slotAt {pl:Array Nat} (h:Ris pl):∀ {i:Nat},i<=pl.size->SetTable.below pl (slotAt pl i)=i
 | 0,_=>below_zero h
 | i+1,hi=>by
  have e:pl[i]? = some (pl.getD i 0):=by
   rw[Array.getElem?_eq_getElem (by lia),Array.getD_eq_getD_getElem?,Array.getElem?_eq_getElem (by lia)]
   rfl
  exact below_at h e
theorem walk_plain (hh:A.handled=none) (hne:S≠I) (hb:w.params.followText "set-order" = false) (hd:o.data = .set es ep t) (hf:t.fits es.size=true) (hl:t.led=true) (hp:t.plain=true∨es.size<=1) (hr:Ris t.place) :
  Walks P w A I [I,S] [I] es.size (fun i v=>(es.toList.map (·.2))[i]? = some v) (fun i h=>(∃ tk:Tok,SIt h I S (.int (slotAt t.place i:Nat) tk) i es.size ep)/\h.get? S=some o) where
 sub:=fun b hb=>by simp at hb; simp [hb]
 frame:=fun i h h' st hk=>by
  obtain⟨⟨tk,hI⟩,hS⟩:=st
  exact⟨⟨tk,hk I (by simp) _ hI⟩,hk S (by simp) _ hS⟩
 item:=fun i s Q E hi st hQ=>by
  obtain⟨⟨tk,hI⟩,hS⟩:=st
  have ps:t.place.size=es.size:=by
   simp only[SetTable.fits,Bool.and_eq_true,beq_iff_eq] at hf
   exact hf.1
  have hx:es[i]? = some es[i]:=Array.getElem?_eq_getElem hi
  have hj:t.place[i]? = some (t.place.getD i 0):=by
   rw[Array.getElem?_eq_getElem (by lia),Array.getD_eq_getD_getElem?,Array.getElem?_eq_getElem (by lia)]
   rfl
  generalize es[i]=x at hx
  obtain⟨k,v⟩:=x
  refine sit_int (r:=some (v,t.place.getD i 0+1)) hh hI hS hd hf (fun A E Q q=>?_) (fun u j h' hr hI' sb=>?_) (fun h' hr _=>by cases hr)
  ·refine next_plain hb hS hd hf hl hp (i:=i) (by rw[Int.toNat_natCast]; exact below_slotAt hr (by lia)) ?_
   rw[hx,hj]
   exact q
  ·cases hr
   refine hQ _ h' s.toks ?_ ⟨⟨0,hI'⟩,sb.2 S hne▸hS⟩ fun b o' hb' e=>?_
   ·rw[List.getElem?_map,Array.getElem?_toList,hx]
    rfl
   ·rw[sb.2 b (fun z=>hb' (by rw[z]; exact List.mem_singleton.mpr rfl))]
    exact e
 done:=fun s Q E st hQ=>by
  obtain⟨⟨tk,hI⟩,hS⟩:=st
  have ps:t.place.size=es.size:=by
   simp only[SetTable.fits,Bool.and_eq_true,beq_iff_eq] at hf
   exact hf.1
  refine sit_int (r:=none) hh hI hS hd hf (fun A E Q q=>?_) (fun v j h' hr=>by cases hr) (fun h' _ hx=>?_)
  ·refine next_plain hb hS hd hf hl hp (i:=es.size) (by rw[Int.toNat_natCast]; exact below_slotAt hr (by lia)) ?_
   rw[Array.getElem?_eq_none (Nat.le_refl _)]
   exact q
  ·exact hQ h' s.toks fun b o' hb' e=>hx b o' (fun z=>hb' (by rw[z]; exact List.mem_singleton.mpr rfl)) e
 self:=fun i s Q E st hQ=>by
  obtain⟨⟨tk,hI⟩,_⟩:=st
  exact sit_self hI hQ
end
end L2
namespace L2
open PySem PySem.Spec PyProof.Rows
section
variable {P:Program} {w:World} {A:Around} {E:Value->Shared->Prop} {s:Shared} {I S T:Addr} {o:Obj} {es:Array (Int × Value)} {ep:Nat} {t:SetTable}
end
end L2
namespace L2
open PySem PySem.Spec PyProof.Rows
section
variable {P:Program} {w:World} {A:Around} {E:Value->Shared->Prop} {s:Shared} {S:Addr}
theorem hint_set {Q:Bool->Shared->Prop} (hT:s.TypeIs (.ref S) "set") (h:Q false s):wpAny (model P w) A (Builtin.List.listLengthHint (.ref S)) Q E s:=by
 unfold Builtin.List.listLengthHint; refine wpAny_bind (wpAny_specialOf hT PySem.F.slot_set_len.lookup ?_)
 generalize hid:("set.__len__" : String)=id0
 wp_delta
 rw[show splitId id0=some ("set","__len__") from by subst hid; decide+kernel]
 subst hid
 refine wpAny_bind (wpAny_isInstance (T:="set") (b:=true) hT (by rw[isSubtype_type]; kernel_rfl) ?_)
 refine wpAny_ite_split (fun z=>absurd z (by decide)) (fun _=>wpAny_ite_split (fun _=>?_) (fun z=>absurd (by decide+kernel) z))
 exact wpAny_bind (wpAny_typeOf hT (wpAny_pure h))
end
end L2
namespace L2
open PySem PySem.Spec PyProof.Rows
section
variable {P:Program} {w:World} {A:Around} {E:Value->Shared->Prop} {s:Shared} {S:Addr}
end
end L2
namespace L2
open PySem PySem.Spec PyProof.Rows
theorem Inv.laidL {X:Cx} {pins:List (Addr × Obj)} {σ:St} {H:Hp} {s s':Shared} {l:Addr} {ys:List V} {its:List Value} {c:Nat} (I:Inv X pins σ H s) (ho:s'.os=s.os) (hg:s'.gens=s.gens) (k:∀ b u,s.heap.get? b=some u->s'.heap.get? b=some u)
  (hl:s.heap.objs.size<=l) (hv:Vals ys its) (hz:ys.length<=sizeLine) (g:s'.heap.get? l=some { cls:=.type "list",data:=.seq its.toArray c }):Inv X pins σ (upd H l (.lst ys)) s':=by
 have J:=I.laid (t':=s.toks) (o:=.lst ys) k hl ⟨hz,its,c,hv,g⟩
 exact⟨J.ok,ho.trans I.os,by rw[hg]; exact I.bare,J.base,J.loc,J.cell,J.free,J.freeC,J.pin,J.hok,J.len⟩
end L2
namespace L2
open PySem PySem.Spec PyProof.Rows
section
variable {prog:Program} {w:World} {A:Around} {R:Result->Shared->Prop} {E:Value->Shared->Prop} {s:Shared}
end
section
variable {X:Cx}
end
end L2
namespace L2
open PySem PySem.Spec PyProof.Rows
section
variable {prog:Program} {w:World} {A:Around} {E:Value->Shared->Prop} {s:Shared}
end
end L2
namespace L2
open PySem PySem.Spec PyProof.Rows
section
variable {prog:Program} {w:World} {A:Around} {E:Value->Shared->Prop} {s:Shared}
end
end L2
namespace L2
open PySem PySem.Spec PyProof.Rows
end L2
namespace L2
open PySem PySem.Spec PyProof.Rows
section
variable {X:Cx} {k:Nat}
inductive RNeTII (K:W.Frag) (x:V) (y:V) (H:Hp) (Q:VK):Prop where
 | mk (a b:Addr) (ns ms:List Int) (z0:x = .ref a) (z1:y = .ref b) (z2:SqT K H a (ns.map V.int)) (z3:SqT K H b (ms.map V.int)) (z4:Q (.bl (!decide (ns=ms))) H):RNeTII K x y H Q
noncomputable def rNeTI (K:W.Frag):R2:=fun x y H Q=>RNeTII K x y H Q
theorem op_neTI (hu:X.A.units < cLine):OpR X (compareOp .NotEq) (rNeTI X.K):=by
 intro pins s σ H x y v u Q I rx ry h
 obtain⟨a,b,ns,ms,rfl,rfl,ha,hb,q⟩:=h
 cases rx
 cases ry
 obtain⟨its,r1,p1,_⟩:=I.tuple ha
 obtain⟨its2,r2,p2,_⟩:=I.tuple hb
 have i1:IntsAre its ns:=intsAre_of r1
 have i2:IntsAre its2 ms:=intsAre_of r2
 have l1:=i1.length
 have l2:=i2.length
 have r:=SeqAt.RcNeAt.tuples (e:=fun j=>ns.getD j 0 == ms.getD j 0) (show s.heap.IsTuple a its.toArray from p1) (show s.heap.IsTuple b its2.toArray from p2) hu fun j h1 h2=>by
  obtain⟨t,e1⟩:=ints_get i1 (j:=j) (by simpa using h1)
  obtain⟨t',e2⟩:=ints_get i2 (j:=j) (by simpa using h2)
  rw[List.getElem_toArray,List.getElem_toArray,e1,e2]
  exact SeqAt.EqAt.int_int _ _ _ _
 have e:=eqI_range ns ms
 have s1:its.toArray.size=ns.length:=by rw[List.size_toArray]; exact l1
 have s2:its2.toArray.size=ms.length:=by rw[List.size_toArray]; exact l2
 rw[s1,s2,e] at r
 exact r X.prog X.w X.xe _ ⟨.bl _,H,I,rfl,q⟩
end
end L2
namespace L2
open PySem PySem.Spec PyProof.Rows
end L2
namespace L2
open PySem PySem.Spec PyProof.Rows
section
variable {prog:Program} {w:World} {A:Around} {E:Value->Shared->Prop} {s:Shared}
end
end L2
namespace L2
open PySem PySem.Spec PyProof.Rows
end L2
namespace L2
open PySem PySem.Spec PyProof.Rows
section
variable {X:Cx}
end
end L2
namespace L2
open PySem PySem.Spec PyProof.Rows
end L2
namespace L2
open PySem PySem.Spec PyProof.Rows
theorem fm_congr {α β:Type} {f g:α->Option β}:∀ {l:List α},(∀ a∈l,f a=g a)->l.filterMap f=l.filterMap g
 | [],_=>rfl
 | a::l,h=>by rw[List.filterMap_cons,List.filterMap_cons,h a List.mem_cons_self,fm_congr (fun b hb=>h b (List.mem_cons_of_mem _ hb))]
theorem rev_pick {α:Type} (l:List α):((List.range l.length).map fun k=>l.length - 1 - k).filterMap (fun i=>l[i]?)=l.reverse:=by
 rw[List.filterMap_map]
 have h:∀ k∈List.range l.length,((fun i=>l[i]?) ∘ fun k=>l.length - 1 - k) k=(fun k=>l.reverse[k]?) k:=fun k hk=>by
  have:=List.mem_range.mp hk
  show l[l.length - 1 - k]? = l.reverse[k]?
  rw[List.getElem?_reverse this]
 rw[fm_congr h]
 have e:l.length=l.reverse.length:=List.length_reverse.symm
 rw[e]
 generalize l.reverse=r
 clear h e
 induction r with
 | nil=>rfl
 | cons a r ih =>
  rw[List.length_cons,List.range_succ_eq_map,List.filterMap_cons]
  show a::_=a::r
  congr 1
  rw[List.filterMap_map]
  exact ih
theorem pick_rev (its:List Value):slicePick its.toArray none none (some (-1))=its.reverse.toArray:=by
 unfold slicePick
 congr 1
 rw[← rev_pick its]
 have hb:sliceBounds none none (some (-1)) its.toArray.size=((its.length:Int) - 1,-1,-1):=by
  unfold sliceBounds
  simp
 rw[hb]
 have hr:sliceRange ((its.length:Int) - 1) (-1) (-1)=(List.range its.length).map fun k=>its.length - 1 - k:=by
  unfold sliceRange
  have hc:(if (-1:Int) > 0 then (if (its.length:Int) - 1 < -1 then (-1 - ((its.length:Int) - 1) + -1 - 1) / -1 else 0) else (if (its.length:Int) - 1 > -1 then ((its.length:Int) - 1 - -1 - -1 - 1) / (- -1) else 0)).toNat=its.length:=by
   rw[if_neg (by decide)]
   split
   ·rw[show (- -1:Int)=1 by decide,Int.ediv_one]
    lia
   ·lia
  dsimp only
  rw[hc]
  refine List.map_congr_left fun k hk=>?_
  have:=List.mem_range.mp hk
  lia
 dsimp only
 rw[hr]
 simp
noncomputable def tRevL (K:W.Frag) (te:TE) (ts:TO):TE:=fun σ H Q=>te σ H fun x H1=>ts σ H1 fun o H2=>o=some (-1)/\∃ a xs,x = .ref a/\SqL K H2 a xs/\∀ p,H2 p=none->Q (.ref p) (upd H2 p (.lst xs.reverse))
theorem vals_rev {xs:List V} {us:List Value} (r:Vals xs us):Vals xs.reverse us.reverse:=r.reverse
section
variable {X:Cx}
theorem pe_slRev {e es:Expr} {te:TE} {ts:TO} {p2 pos:Pos} (he:PE X e te) (hs:PO X (some es) ts):PE X (.Subscript e (.Slice none none (some es) p2) pos) (tRevL X.K te ts):=by
 intro pins s σ H Q I h
 refine Subscript_ (thn (he pins s σ H _ I h) fun v s1 ⟨x,H1,I1,r1,q1⟩=>?_)
 refine wpAny_Slice ?_
 rw[evalPart_none]
 refine wpAny_pure (wpAny_pure ?_)
 refine thn (hs pins s1 σ H1 _ I1 q1) fun vs s3 ⟨o,H3,I3,ps,eo,a,xs,ex,hx,q⟩=>?_
 subst eo ex
 have I4:Inv X pins σ H3 { s3 with heap:=s3.heap.push { cls:=.type "slice",data:=.fields #[.none,.none,vs] } }:=I3.kept (t':=s3.toks) fun b ob q=>Heap.get?_push_of_some _ q
 cases r1
 obtain⟨its,r,ht,hz⟩:=I4.list hx
 have hlen:=r.length
 show wpAny (model X.prog X.w) X.A (subscriptTail e (.Slice none none (some es) p2) (.ref a) (.ref s3.heap.objs.size)) (EP X pins σ Q) X.xe { s3 with heap:=s3.heap.push { cls:=.type "slice",data:=.fields #[.none,.none,vs] } }
 refine tail_any (ops:=[.ref a,.ref s3.heap.objs.size]) ht.isList.typeIs slot_list_getitem.lookup ?_ (by with_unfolding_all rfl)
 refine wpAny_getItem_list_slice ht.isList (Heap.IsSliceOf.new ..) .none .none ps (by simp) ?_ (by rw[List.size_toArray]; lia)
 rw[pick_rev]
 refine⟨.ref _,_,I4.laid (t':=s3.toks) (o:=.lst xs.reverse) (fun b ob q=>Heap.get?_push_of_some _ q) (Nat.le_refl _) ?_,rfl,q _ (I4.hok.fresh (Nat.le_refl _))⟩
 exact⟨by rw[List.length_reverse]; exact hz,_,0,vals_rev r,Heap.get?_push_size _ rfl⟩
end
end L2
namespace L2
open PySem PySem.Spec PyProof.Rows
section
variable {prog:Program} {w:World} {A:Around} {R:Result->Shared->Prop} {s:Shared} {elt t0 i0 t1 i1:Expr} {scope:Scope} {pos:Pos} {it acc:Value} {env:Env}
end
section
variable {X:Cx} {elt t0 i0 t1 i1:Expr} {scope:Scope} {pos:Pos} {L F:List Str} {cap:List Nat} {wi wi1:TI} {g g1:TG} {te:TE}
end
end L2
namespace L2
open PySem PySem.Spec PyProof.Rows
section
variable {X:Cx}
end
end L2
namespace L2
open PySem PySem.Spec PyProof.Rows
end L2
namespace L2
open PySem PySem.Spec PyProof.Rows
section
variable {prog:Program} {w:World} {A:Around} {E:Value->Shared->Prop} {s:Shared}
end
section
variable {X:Cx}
end
end L2
namespace L2
open PySem PySem.Spec PyProof.Rows
section
variable {X:Cx} {elt t0 i0 t1 i1:Expr} {scope:Scope} {pos:Pos} {L F:List Str} {cap:List Nat} {wi wi1:TI} {g g1:TG} {te:TE}
end
end L2
namespace L2
open PySem PySem.Spec PyProof.Rows
section
variable {X:Cx} {tg:Expr}
end
end L2
namespace L2
open PySem PySem.Spec PyProof.Rows
structure CompOkK (X:Cx) (scope:Scope) (x0:Str) (F:List Str) (cap:List Nat):Prop where
 kind:scope.kind = .function
 cf:∀ (n:Nat) (acc:List (Str × Addr)),cellsFrom n scope.names acc=(x0,n)::acc
 pc:∀ h:Heap,pushCells h scope.names=h.push { cls:=.type "cell",data:=.cell none }
 own:∀ x,scope.names.lookup x=some .cell->x=x0
 own0:scope.names.lookup x0=some .cell
 nms:∀ y∈scope.names,y.2 = .local->scope.names.lookup y.1=some .local
 fr:∀ y∈scope.names,y.2 = .free->X.env.kindOf y.1=some .cell∨X.env.kindOf y.1=some .free
 len:cap.length=F.length
 at':∀ (k:Nat) (x:Str),F[k]? = some x->∃ i,cap[k]? = some i/\X.N[i]? = some x/\scope.names.lookup x=some .free
section
variable {X:Cx} {elt tg iter:Expr} {ifs:List Expr} {scope:Scope} {pos:Pos} {x0:Str} {L F:List Str} {cap:List Nat} {wi:TI} {g:TG} {tt:TT} {te:TE}
end
end L2
namespace L2
open PySem PySem.Spec PyProof.Rows
end L2
namespace L2
open PySem PySem.Spec PyProof.Rows
section
variable {X:Cx}
end
end L2
namespace L2
open PySem PySem.Spec PyProof.Rows
section
variable {X:Cx}
end
end L2
namespace L2
open PySem PySem.Spec PyProof.Rows
noncomputable def TupAt (h:Heap) (p:Addr × List Int):Prop:=∃ its:List Value,IsTup h p.1 its.toArray/\IntsAre its p.2
theorem TupAt.at {h h':Heap} {p:Addr × List Int} (x:TupAt h p) (e:∀ o,h.get? p.1=some o->h'.get? p.1=some o):TupAt h' p :=
 let ⟨its,⟨o,ho,r⟩,i⟩:=x
 ⟨its,⟨o,e o ho,r⟩,i⟩
section
variable {prog:Program} {w:World} {A:Around} {R:Result->Shared->Prop} {E:Value->Shared->Prop} {s:Shared}
end
section
variable {X:Cx} {k:Nat}
end
end L2
namespace L2
open PySem PySem.Spec PyProof.Rows PySem.W
section
variable {prog:Program} {w:World} {A:Around} {E:Value->Shared->Prop} {κ:SortKind} {it:Array Keyed} {s:Shared}
theorem lex_ints {b fin:Bool} {Q:Bool->Shared->Prop}:∀ {xs ys:List Value} {ns ms:List Int} {i:Nat},IntsAre xs ns->IntsAre ys ms->fin=decide (ns.length < ms.length)->Q (HT.lexLt ns ms) s->KatLex prog w A b fin Q (xs.zip ys) i s
 | _,_,_,_,_,.nil,.nil,hf,h=>by
  subst hf
  exact h
 | _,_,_,_,_,.nil,.cons _ _ _,hf,h=>by
  subst hf
  exact h
 | _,_,_,_,_,.cons _ _ _,.nil,hf,h=>by
  subst hf
  exact h
 | _,_,_,_,i,.cons a t r,.cons c u q,hf,h=>by
  rw[List.zip_cons_cons]
  refine kat_cons (wpAny_eqBool_int (kat_go (fun e=>kat_yes ?_) fun e=>kat_no ?_))
  ·have e:a=c:=by simpa using e
   rw[HT.lexLt_cons,if_pos e] at h
   exact lex_ints r q (by rw[hf]; simp) h
  ·have e:¬ a=c:=by simpa using e
   rw[HT.lexLt_cons,if_neg e] at h
   cases b && i == 0 with
   | true=>exact oneLt_int h
   | false=>exact kat_one _ _ (PyProof.Rows.lt_int (show PySem.W.BoolBack Q (.bool (decide (a < c))) s from h))
theorem lt_tups {b:Bool} {Q:Bool->Shared->Prop} {p q:Addr × List Int} (hp:TupAt s.heap p) (hq:TupAt s.heap q) (h:Q (HT.lexLt p.2 q.2) s):wpAny (model prog w) A (keyLt' (tuples' b) (.ref p.1) (.ref q.1)) Q E s:=by
 obtain⟨i1,⟨o1,e1,c1,n1,d1⟩,a1⟩:=hp
 obtain⟨i2,⟨o2,e2,c2,n2,d2⟩,a2⟩:=hq
 refine kat_lt e1 d1 e2 d2 ?_
 exact lex_ints a1 a2 (by rw[List.size_toArray,List.size_toArray,a1.length,a2.length]) h
theorem kat_tups:∀ {ps:List (Addr × List Int)},(∀ p∈ps,TupAt s.heap p/\p.2≠[])->∃ fs:List Value,fs.length=ps.length/\KatTups s.heap (ps.map fun p=>Value.ref p.1) fs/\∀ v∈fs,∃ (n:Int) (t:Tok),v = .int n t
 | [],_=>⟨[],rfl,KatTups.nil,by simp⟩
 | p::ps,h=>by
  obtain⟨fs,e,k,z⟩:=kat_tups (ps:=ps) fun q hq=>h q (List.mem_cons_of_mem _ hq)
  obtain⟨⟨its,⟨o,ho,hc,n,hd⟩,hi⟩,hn⟩:=h p List.mem_cons_self
  obtain⟨pa,pn⟩:=p
  cases hi with
  | nil=>exact absurd rfl hn
  | cons a t r =>
   refine⟨.int a t::fs,by simp [e],KatTups.cons ho hc hd (by simp) k,fun v hv=>?_⟩
   rcases List.mem_cons.mp hv with rfl | hv
   ·exact⟨_,_,rfl⟩
   ·exact z v hv
theorem kind_tups {M:Model} {ps:List (Addr × List Int)} {Q:SortKind->Shared->Prop} (h0:0 < ps.length) (ht:∀ p∈ps,TupAt s.heap p/\p.2≠[]) (h:Q (tuples' true) s):wpAny M A (keyKind' (ps.map fun p=>Value.ref p.1).toArray) Q E s:=by
 obtain⟨fs,e,k,z⟩:=kat_tups ht
 refine kat_kind (T:=.type "int") k (by lia) (fun v hv=>?_) (by rfl) ?_
 ·obtain⟨n,t,rfl⟩:=z v hv
  exact Looks.of_pure rfl
 ·exact h
end
theorem refs_eq:∀ (l:List (Addr × List Int)) (us:List Value),Vals (l.map fun p=>V.ref p.1) us->us=l.map fun p=>Value.ref p.1
 | [],_,z=>by cases z; rfl
 | p::l,_,z=>by
  cases z with
  | cons e t =>
   cases e
   rw[refs_eq l _ t]
   rfl
section
variable {X:Cx}
end
end L2
namespace L2
open PySem PySem.Spec PyProof.Rows
noncomputable def ItvL (K:W.Frag) (a:Addr) (n:Nat):It :=
 ⟨fun i H=>i < n/\∃ xs x,SqL K H a xs/\xs.length=n/\xs[n - 1 - i]? = some x,fun i H x H'=>H'=H/\∀ xs,SqL K H a xs->xs[n - 1 - i]? = some x,fun i _=>i=n⟩
theorem turn_revL {P:Program} {w:World} {K:W.Frag} {tg:Expr} (a it:Addr) (n:Nat):Turn P w K tg (ItvL K a n) [it] it (fun i h=>h.IsRevIter it a ((n:Int) - 1 - (i:Int))) where
 mem:=by simp
 obj:=fun i h st b hb=>by
  have e:b=it:=by simpa using hb
  subst e
  obtain⟨o,ho,_,hd⟩:=st
  exact⟨o,ho,fun v z=>by rw[hd] at z; cases z⟩
 keep:=fun i h h' st k=>st.at fun o e=>k it (by simp) _ e
 item:=by
  intro X hP hw hK hc i pins s σ H E I hf st hg
  subst hP hw hK
  obtain⟨hin,xs,x,hq,hlen,hx⟩:=hg
  obtain⟨its,rv,p,hz⟩:=I.list hq
  obtain⟨u,hu,ru⟩:=rv.get hx
  obtain⟨f0,f1,f2,f3,f4,f5⟩:=hf it (by simp)
  have e:(n:Int) - 1 - (i:Int)=((n - 1 - i:Nat):Int):=by lia
  have st':s.heap.IsRevIter it a ((n - 1 - i:Nat):Int):=by rw[← e]; exact st
  refine wpAny_pyNext_rev_item st' p.isList (x:=u) (by simpa using hu) fun h' st2 sb=>?_
  have e2:((n - 1 - i:Nat):Int) - 1=(n:Int) - 1 - ((i+1:Nat):Int):=by lia
  rw[e2] at st2
  have I1:Inv X pins σ H { s with heap:=h' }:=I.turned (t':=s.toks) (fun b o hb e=>(sb.2 b hb).trans e) f0 f1 f3 f4 f5
  obtain⟨o2,ho2,hc2,hd2⟩:=id st2
  exact⟨u,rfl,go_of (s:={ s with heap:=h' }) ho2 hc2 hd2 (by decide) ⟨x,H,I1,ru,⟨rfl,fun ys hy=>by rw[I.list_inj hy hq]; exact hx⟩,st2,fun b hb=>(hf b hb).1⟩⟩
 done:=by
  intro X hP hw hK hc i pins s σ H E I hf st hg
  subst hP hw hK
  cases (show i=n from hg)
  obtain⟨f0,f1,f2,f3,f4,f5⟩:=hf it (by simp)
  have st':s.heap.IsRevIter it a (-1):=by
   have e:(n:Int) - 1 - (n:Int) = -1:=by lia
   rw[← e]; exact st
  exact wpAny_pyNext_rev_end (I.ok.hd hc) st' fun h' eb=>⟨rfl,I.turned (t':=s.toks) (fun b o hb e=>eb b o hb e) f0 f1 f3 f4 f5⟩
 self:=fun _ _ _ _ _ st h=>wpAny_pyIter_revIter st h
noncomputable def iRevL (K:W.Frag) (ta:TA):TI:=fun σ H R=>ta σ H fun vs H1=>∃ a xs,vs=[.ref a]/\SqL K H1 a xs/\R (ItvL K a xs.length) H1
theorem pi_revL {X:Cx} {tg:Expr} {a:Expr} {ta:TA} {p pos:Pos} (hg:Gl X "reversed") (hm:X.mg "reversed" = none) (ha:PA X [a] ta) (hs:starEach [a] X.env=[(false,eval a X.env)]:=by rfl) :
  PI X tg (.Call (.Name "reversed" p) [a] [] pos) (iRevL X.K ta):=by
 intro pins s σ H R I h
 refine Call_ (ld_blt I hg hm boot_reversed (PyProof.Rows.callWith_type1 (thn (ha pos pins s σ H _ I h) fun us s1 ⟨vs,H1,I1,r1,q1⟩=>?_) hs rfl))
 obtain⟨c,xs,e,hx,q⟩:=q1
 subst e
 obtain⟨u1,rfl,ru1⟩:=vals1 r1
 cases ru1
 obtain⟨its,rv,tp,hz⟩:=I1.list hx
 have hl:=rv.length
 refine call_reversed_list tp.isList ?_
 have g:(s1.heap.push (revObj c ((its.toArray.size:Int) - 1))).IsRevIter s1.heap.objs.size c ((xs.length:Int) - 1 - ((0:Nat):Int)):=by
  have e:((xs.length:Int) - 1 - ((0:Nat):Int))=(its.toArray.size:Int) - 1:=by rw[List.size_toArray,← hl]; lia
  rw[e]
  exact⟨_,Heap.get?_push_size _ rfl,rfl,rfl⟩
 refine wpAny_pyIter_revIter g ⟨s1.heap.objs.size,[s1.heap.objs.size],_,_,H1,rfl,I1.kept (t':=s1.toks) fun b o e=>Heap.get?_push_of_some _ e,turn_revL c _ xs.length,g,fun b hb=>?_,q⟩
 have e:b=s1.heap.objs.size:=by simpa using hb
 subst e
 exact I1.fpOk (Nat.le_refl _) (I1.hok.fresh (Nat.le_refl _))
theorem for_revL {K:W.Frag} {a:Addr} {xs:List V} {g:TG} {tb:TS} {D:Ends} {σ:St} {H:Hp} (Pv:Nat->St->Hp->Prop) (h0:Pv 0 σ H) (hl:∀ i σ H,i<=xs.length->Pv i σ H->SqL K H a xs)
  (hs:∀ i x σ H,i < xs.length->xs[xs.length - 1 - i]? = some x->Pv i σ H->g x σ H fun σ2 H2=>tb { D with nx:=Pv (i+1),ct:=Pv (i+1),bk:=D.nx } σ2 H2) (hd:∀ σ H,Pv xs.length σ H->D.nx σ H) :
  ∃ W:Nat->Nat->St->Hp->Prop,(∃ m,W 0 m σ H)/\∀ i m σ H,W i m σ H →
   ((ItvL K a xs.length).stop i H/\D.nx σ H)∨((ItvL K a xs.length).go i H/\∃ N:St->Hp->Prop,(∀ σ' H',N σ' H'->∃ m',m' < m/\W (i+1) m' σ' H')/\∀ x H',(ItvL K a xs.length).yld i H x H'->g x σ H' fun σ2 H2=>tb { D with nx:=N,ct:=N,bk:=D.nx } σ2 H2):=by
 refine⟨fun i m σ H=>m=xs.length - i/\i<=xs.length/\Pv i σ H,⟨xs.length,by simp,Nat.zero_le _,h0⟩,?_⟩
 rintro i m σ H ⟨rfl,hi,p⟩
 have q1:=hl i σ H hi p
 by_cases hlt:i < xs.length
 ·refine .inr ⟨⟨hlt,xs,xs[xs.length - 1 - i],q1,rfl,List.getElem?_eq_getElem (by lia)⟩,Pv (i+1),fun σ' H' p'=>⟨xs.length - (i+1),by lia,rfl,hlt,p'⟩,fun v H' y=>?_⟩
  obtain⟨rfl,hx⟩:=y
  exact hs i v σ _ hlt (hx xs q1) p
 ·have e:i=xs.length:=by lia
  subst e
  exact .inl ⟨rfl,hd σ H p⟩
end L2
namespace L2
open PySem PySem.Spec PyProof.Rows PySem.W PySem.SeqAt
open AutoSeq1 (wpAny_loadPart')
open MeetsSeq MeetsSeq2 MeetsSeq3
section
variable {prog:Program} {w:World} {A:Around} {E:Value->Shared->Prop} {s:Shared}
noncomputable def KeepBut (h h':Heap) (a:Addr):Prop:=∀ b o,b≠a->h.get? b=some o->h'.get? b=some o
noncomputable def PairAt (h:Heap) (p:Addr) (ns:List Int):Prop:=∃ (t:Tok) (l:Addr) (its:List Value),h.IsTuple p #[.int (ns.length:Int) t,.ref l]/\h.IsList l its.toArray/\IntsAre its ns
theorem PairAt.keep {h h':Heap} {p:Addr} {ns:List Int} (x:PairAt h p ns) (k:∀ b o,h.get? b=some o->h'.get? b=some o):PairAt h' p ns:=by
 obtain⟨t,l,its,⟨o1,e1,r1⟩,⟨o2,e2,r2⟩,i⟩:=x
 exact⟨t,l,its,⟨o1,k _ _ e1,r1⟩,⟨o2,k _ _ e2,r2⟩,i⟩
end
section
variable {X:Cx} {k:Nat}
end
end L2
namespace L2
open PySem PySem.Spec PyProof.Rows PySem.W
section
variable {n:Nat} {o:Nat->Nat->Bool} {cmp:Nat->Nat->(Bool->Shared->Prop)->Shared->Prop} {s:Shared}
noncomputable def PermN (n:Nat) (p:Array Nat):Prop:=p.toList.Perm (List.range n)
theorem PermN.size {p:Array Nat} (h:PermN n p):p.size=n:=by
 have:=h.length_eq
 rw[List.length_range] at this
 exact this
theorem PermN.lt {p:Array Nat} (h:PermN n p) {i:Nat} (hi:i < n):p.getD i 0 < n:=by
 have hs:i < p.size:=by rw[h.size]; exact hi
 have:p.getD i 0∈p.toList:=by
  simp [Array.getD,hs]
 exact List.mem_range.mp (h.mem_iff.mp this)
theorem PermN.ne {p:Array Nat} (h:PermN n p) {i j:Nat} (hi:i < n) (hj:j < n) (e:i≠j):p.getD i 0≠p.getD j 0:=by
 have nd:p.toList.Nodup:=h.nodup_iff.mpr List.nodup_range
 have hs:i < p.toList.length:=by rw[Array.length_toList,h.size]; exact hi
 have hs':j < p.toList.length:=by rw[Array.length_toList,h.size]; exact hj
 intro z
 have a1:p.getD i 0=p.toList[i]:=by simp [Array.getD,show i < p.size by simpa using hs]
 have a2:p.getD j 0=p.toList[j]:=by simp [Array.getD,show j < p.size by simpa using hs']
 rw[a1,a2] at z
 exact e ((List.getElem_inj nd).mp z)
noncomputable def UpO (o:Nat->Nat->Bool) (p:Array Nat) (k:Nat):Prop:=∀ i j,i < j->j < k->o (p.getD i 0) (p.getD j 0)=true
noncomputable def DnO (o:Nat->Nat->Bool) (p:Array Nat) (k:Nat):Prop:=∀ i j,i < j->j < k->o (p.getD j 0) (p.getD i 0)=true
variable (tr:∀ i j k,i < n->j < n->k < n->o i j=true->o j k=true->o i k=true) (tot:∀ i j,i < n->j < n->i≠j->o i j=false->o j i=true)
variable (hc:∀ i j,i < n->j < n->∀ C:Bool->Shared->Prop,C (o i j) s->cmp i j C s)
include tr in
theorem UpO.succ {p:Array Nat} (hp:PermN n p) {k:Nat} (h1:1<=k) (hk:k < n) (h:UpO o p k) (e:o (p.getD (k - 1) 0) (p.getD k 0)=true):UpO o p (k+1):=by
 intro i j hij hj
 rcases Nat.lt_or_ge j k with h' | h'
 ·exact h i j hij h'
 ·have:j=k:=by lia
  subst this
  rcases Nat.lt_or_ge i (j - 1) with h2 | h2
  ·exact tr _ _ _ (hp.lt (by lia)) (hp.lt (by lia)) (hp.lt hk) (h i (j - 1) h2 (by lia)) e
  ·have:i=j - 1:=by lia
   subst this
   exact e
include tr in
theorem DnO.succ {p:Array Nat} (hp:PermN n p) {k:Nat} (h1:1<=k) (hk:k < n) (h:DnO o p k) (e:o (p.getD k 0) (p.getD (k - 1) 0)=true):DnO o p (k+1):=by
 intro i j hij hj
 rcases Nat.lt_or_ge j k with h' | h'
 ·exact h i j hij h'
 ·have:j=k:=by lia
  subst this
  rcases Nat.lt_or_ge i (j - 1) with h2 | h2
  ·exact tr _ _ _ (hp.lt hk) (hp.lt (by lia)) (hp.lt (by lia)) e (h i (j - 1) h2 (by lia))
  ·have:i=j - 1:=by lia
   subst this
   exact e
theorem getD_of {p q:Array Nat} {i j:Nat} (h:p[i]? = q[j]?):p.getD i 0=q.getD j 0:=by
 rw[Array.getD_eq_getD_getElem?,Array.getD_eq_getD_getElem?,h]
theorem rev_perm {p:Array Nat} (hp:PermN n p) (k:Nat):PermN n (kas_rev p 0 k):=by
 have:=mirror_perm p 0 k ((k - 0) / 2)
 exact (Array.perm_iff_toList_perm.mp this).trans hp
theorem rev_at {p:Array Nat} {k:Nat} (hk:k<=p.size) (i:Nat):(kas_rev p 0 k).getD i 0=if i < k then p.getD (k - 1 - i) 0 else p.getD i 0:=by
 have e:=getElem?_mirror_all (xs:=p) (i:=0) hk i
 by_cases h:i < k
 ·rw[if_pos ⟨Nat.zero_le _,h⟩] at e
  rw[if_pos h]
  exact getD_of (e.trans (by rw[Nat.zero_add]))
 ·rw[if_neg (fun z=>h z.2)] at e
  rw[if_neg h]
  exact getD_of e
theorem bub_at {p:Array Nat} {k l:Nat} (hk:k < p.size) (hl:l<=k) (i:Nat):(bubble p k (k - l)).getD i 0=if i=l then p.getD k 0 else if l < i/\i<=k then p.getD (i - 1) 0 else p.getD i 0:=by
 have e:=getElem?_bubble hk (k - l) (by lia) i
 rw[show k - (k - l)=l by lia] at e
 by_cases h:i=l
 ·rw[if_pos h] at e ⊢
  exact getD_of e
 ·rw[if_neg h] at e ⊢
  by_cases h':l < i/\i<=k
  ·rw[if_pos h'] at e ⊢
   exact getD_of e
  ·rw[if_neg h'] at e ⊢
   exact getD_of e
end
end L2
namespace L2
open PySem PySem.Spec PyProof.Rows PySem.W PySem.SeqAt
open AutoSeq1 (wpAny_loadPart')
open MeetsSeq MeetsSeq2 MeetsSeq3
section
variable {prog:Program} {w:World} {A:Around} {E:Value->Shared->Prop} {s:Shared}
end
end L2
namespace L2
open PySem PySem.Spec PyProof.Rows PySem.W
theorem lexLt_trans:∀ {a b c:List Int},HT.lexLt a b=true->HT.lexLt b c=true->HT.lexLt a c=true
 | [],[],_,h,_=>by cases h
 | [],_::_,[],_,h=>by cases h
 | [],_::_,_::_,_,_=>rfl
 | _::_,[],_,h,_=>by cases h
 | _::_,_::_,[],_,h=>by cases h
 | x::a,y::b,z::c,h1,h2=>by
  rw[HT.lexLt_cons] at h1 h2 ⊢
  by_cases e1:x=y
  ·rw[if_pos e1] at h1
   by_cases e2:y=z
   ·rw[if_pos e2] at h2
    rw[if_pos (e1.trans e2)]
    exact lexLt_trans h1 h2
   ·rw[if_neg e2] at h2
    rw[e1,if_neg e2]
    exact h2
  ·rw[if_neg e1] at h1
   have d1:=of_decide_eq_true h1
   by_cases e2:y=z
   ·rw[← e2,if_neg e1]
    exact h1
   ·rw[if_neg e2] at h2
    have d2:=of_decide_eq_true h2
    rw[if_neg (by lia)]
    exact decide_eq_true (by lia)
theorem lexLt_tot:∀ {a b:List Int},a≠b->HT.lexLt a b=false->HT.lexLt b a=true
 | [],[],h,_=>absurd rfl h
 | [],_::_,_,h=>by cases h
 | _::_,[],_,_=>rfl
 | x::a,y::b,h,e=>by
  rw[HT.lexLt_cons] at e ⊢
  by_cases q:x=y
  ·rw[if_pos q] at e
   rw[if_pos q.symm]
   exact lexLt_tot (fun z=>h (by rw[q,z])) e
  ·rw[if_neg q] at e
   rw[if_neg (fun z=>q z.symm)]
   have:=of_decide_eq_false e
   exact decide_eq_true (by lia)
section
variable {prog:Program} {w:World} {A:Around} {E:Value->Shared->Prop} {s:Shared}
end
end L2
namespace L2
open PySem PySem.Spec PyProof.Rows PySem.W
section
variable {prog:Program} {w:World} {A:Around} {E:Value->Shared->Prop} {s:Shared}
end
theorem permN_map {β:Type} {l:List β} {d:β} {p:Array Nat} (hp:PermN l.length p):(p.toList.map fun i=>l.getD i d).Perm l:=by
 refine (List.Perm.map _ hp).trans ?_
 have e:(List.range l.length).map (fun i=>l.getD i d)=l:=by
  apply List.ext_getElem (by simp)
  intro i h1 h2
  simp [h2]
 rw[e]
section
variable {X:Cx} {k:Nat}
end
end L2
namespace L2
open PySem PySem.Spec PyProof.Rows
noncomputable def nxQ (m:Nat) (q:Nat × Nat × Nat):Nat × Nat × Nat:=if q.1+q.2.1 < SetTable.runEnd m q.1 then (q.1,q.2.1+1,q.2.2) else ((SetTable.leap m q.1 q.2.2).1,0,(SetTable.leap m q.1 q.2.2).2)
noncomputable def itQ (m:Nat):Nat->Nat × Nat × Nat->Nat × Nat × Nat
 | 0,q=>q
 | k+1,q=>itQ m k (nxQ m q)
noncomputable def cur (q:Nat × Nat × Nat):Nat:=q.1+q.2.1
noncomputable def stQ (m:Nat) (h:Int):Nat × Nat × Nat:=(SetTable.bits h % (m+1),0,SetTable.bits h)
noncomputable def VQ (m:Nat) (q:Nat × Nat × Nat):Prop:=cur q<=SetTable.runEnd m q.1/\q.1<=m
theorem runEnd_ge (m i:Nat):i<=SetTable.runEnd m i/\SetTable.runEnd m i<=i+9:=by
 unfold SetTable.runEnd
 split <;> lia
theorem runEnd_le {m i:Nat} (h:i<=m):SetTable.runEnd m i<=m:=by
 unfold SetTable.runEnd
 split <;> lia
theorem leap_le (m i p:Nat):(SetTable.leap m i p).1<=m:=by
 unfold SetTable.leap
 exact Nat.le_of_lt_succ (Nat.mod_lt _ (Nat.succ_pos m))
theorem VQ.nx {m:Nat} {q:Nat × Nat × Nat} (v:VQ m q):VQ m (nxQ m q):=by
 unfold nxQ
 split
 ·rename_i h
  refine⟨?_,v.2⟩
  show q.1+(q.2.1+1)<=SetTable.runEnd m q.1
  lia
 ·exact⟨(runEnd_ge _ _).1,leap_le _ _ _⟩
theorem vq_st (m:Nat) (h:Int):VQ m (stQ m h):=⟨(runEnd_ge _ _).1,Nat.le_of_lt_succ (Nat.mod_lt _ (Nat.succ_pos m))⟩
theorem VQ.it {m:Nat}:∀ (k:Nat) {q:Nat × Nat × Nat},VQ m q->VQ m (itQ m k q)
 | 0,_,v=>v
 | k+1,_,v=>VQ.it k v.nx
theorem VQ.le {m:Nat} {q:Nat × Nat × Nat} (v:VQ m q):cur q<=m:=Nat.le_trans v.1 (runEnd_le v.2)
theorem itQ_add (m:Nat):∀ (a b:Nat) (q:Nat × Nat × Nat),itQ m (a+b) q=itQ m b (itQ m a q)
 | 0,b,q=>by rw[Nat.zero_add]; rfl
 | a+1,b,q=>by
  rw[Nat.add_right_comm]
  exact itQ_add m a b (nxQ m q)
noncomputable def Way (m:Nat) (S:Nat->Prop) (h:Int) (j:Nat):Prop:=∃ k,cur (itQ m k (stQ m h))=j/\∀ e,e < k->S (cur (itQ m e (stQ m h)))
theorem Way.mono {m:Nat} {S S':Nat->Prop} {h:Int} {j:Nat} (f:∀ j,S j->S' j) (w:Way m S h j):Way m S' h j:=w.elim fun k ⟨a,b⟩=>⟨k,a,fun e he=>f _ (b e he)⟩
theorem run_end (m:Nat):∀ (d i r p:Nat),i+r+d=SetTable.runEnd m i->itQ m (d+1) (i,r,p)=((SetTable.leap m i p).1,0,(SetTable.leap m i p).2)
 | 0,i,r,p,h=>by
  show nxQ m (i,r,p)=_
  unfold nxQ
  rw[if_neg (by show ¬ i+r < SetTable.runEnd m i; lia)]
 | d+1,i,r,p,h=>by
  show itQ m (d+1) (nxQ m (i,r,p))=_
  have e:nxQ m (i,r,p)=(i,r+1,p):=by
   unfold nxQ
   rw[if_pos (by show i+r < SetTable.runEnd m i; lia)]
  rw[e]
  exact run_end m d i (r+1) p (by lia)
noncomputable def lpN (m:Nat):Nat->Nat × Nat->Nat × Nat
 | 0,x=>x
 | n+1,x=>lpN m n (SetTable.leap m x.1 x.2)
theorem leaps (m:Nat):∀ (n i p:Nat),∃ k,k<=10 * n/\itQ m k (i,0,p)=((lpN m n (i,p)).1,0,(lpN m n (i,p)).2)
 | 0,i,p=>⟨0,Nat.le_refl _,rfl⟩
 | n+1,i,p=>by
  have g:=runEnd_ge m i
  obtain⟨k,hk,e⟩:=leaps m n (SetTable.leap m i p).1 (SetTable.leap m i p).2
  refine⟨(SetTable.runEnd m i - i+1)+k,by lia,?_⟩
  rw[itQ_add,run_end m (SetTable.runEnd m i - i) i 0 p (by lia),e]
  rfl
noncomputable def orb (m:Nat):Nat->Nat->List Nat
 | 0,_=>[]
 | k+1,i=>i::orb m k ((i * 5+1) % (m+1))
theorem orb_lp {m e:Nat}:∀ (k i:Nat),e∈orb m k i->∃ n,n < k/\(lpN m n (i,0)).1=e
 | 0,i,h=>nomatch h
 | k+1,i,h=>by
  rcases List.mem_cons.mp h with z | z
  ·exact⟨0,Nat.succ_pos _,z.symm⟩
  ·obtain⟨n,hn,e'⟩:=orb_lp k _ z
   refine⟨n+1,Nat.succ_lt_succ hn,?_⟩
   show (lpN m n (SetTable.leap m i 0)).1=e
   have:SetTable.leap m i 0=((i * 5+1) % (m+1),0):=rfl
   rw[this]
   exact e'
noncomputable def Msk (m:Nat):Prop:=m=7∨m=31∨m=127
theorem bits_mem {e:Nat}:∀ (l:List Nat) (a:Nat),(l.foldl (fun a x=>a ||| 2 ^ x) a).testBit e=true->a.testBit e=true∨e∈l
 | [],a,h=>.inl h
 | x::r,a,h=>by
  rcases bits_mem r _ h with z | z
  ·rw[Nat.testBit_or,Bool.or_eq_true] at z
   rcases z with z | z
   ·exact .inl z
   ·rw[Nat.testBit_two_pow] at z
    exact .inr (by rw[of_decide_eq_true z]; exact List.mem_cons_self)
  ·exact .inr (List.mem_cons_of_mem _ z)
theorem orb_of {m:Nat} (h:(List.range (m+1)).all (fun i=>(orb m (m+1) i).foldl (fun a x=>a ||| 2 ^ x) 0 == 2 ^ (m+1) - 1)=true):∀ i,i < m+1->∀ e,e < m+1->e∈orb m (m+1) i:=fun i hi e he=>by
 have q:=eq_of_beq (List.all_eq_true.mp h i (List.mem_range.mpr hi))
 rcases bits_mem (e:=e) (orb m (m+1) i) 0 (by rw[q,Nat.testBit_two_pow_sub_one]; exact decide_eq_true he) with z | z
 ·rw[Nat.zero_testBit] at z
  cases z
 ·exact z
theorem orb_all {m:Nat} (h:Msk m):∀ i,i < m+1->∀ e,e < m+1->e∈orb m (m+1) i:=by
 rcases h with rfl | rfl | rfl
 ·exact orb_of (by decide+kernel)
 ·exact orb_of (by decide+kernel)
 ·exact orb_of (by decide+kernel)
theorem lp_all {m:Nat} (h:Msk m) {e:Nat} (he:e<=m):∀ (a i p:Nat),i<=m->p < 32 ^ a->∃ n,n<=a+m/\(lpN m n (i,p)).1=e
 | 0,i,p,hi,hp=>by
  have:p=0:=by simpa using hp
  rw[this]
  obtain⟨n,hn,e'⟩:=orb_lp (m+1) i (orb_all h i (by lia) e (by lia))
  exact⟨n,by lia,e'⟩
 | a+1,i,p,hi,hp=>by
  have hq:p / 32 < 32 ^ a:=by
   rw[Nat.pow_succ] at hp
   exact Nat.div_lt_of_lt_mul (by rw[Nat.mul_comm]; exact hp)
  obtain⟨n,hn,e'⟩:=lp_all h he a (SetTable.leap m i p).1 (p / 32) (leap_le _ _ _) hq
  exact⟨n+1,by lia,e'⟩
theorem bits_lt (h:Int):SetTable.bits h < 32 ^ 13:=by
 unfold SetTable.bits
 have h1:=Int.emod_lt_of_pos h (show (0:Int) < 2 ^ 64 by decide)
 have h0:=Int.emod_nonneg h (show (2:Int) ^ 64≠0 by decide)
 have:(h % 2 ^ 64).toNat < 2 ^ 64:=by
  rw[Int.toNat_lt h0]
  exact h1
 exact Nat.lt_of_lt_of_le this (by decide)
theorem way_free {m:Nat} (hm:Msk m) {S:Nat->Prop} {e:Nat} (he:e<=m) (hS:¬ S e) (h:Int):∃ k,k<=10 * (m+13)/\¬ S (cur (itQ m k (stQ m h))):=by
 obtain⟨n,hn,e'⟩:=lp_all hm he 13 (SetTable.bits h % (m+1)) (SetTable.bits h) (Nat.le_of_lt_succ (Nat.mod_lt _ (Nat.succ_pos m))) (bits_lt h)
 obtain⟨k,hk,q⟩:=leaps m n (SetTable.bits h % (m+1)) (SetTable.bits h)
 refine⟨k,by lia,?_⟩
 have:cur (itQ m k (stQ m h))=e:=by
  unfold stQ
  rw[q,e']
  rfl
 rw[this]
 exact hS
end L2
namespace L2
open PySem PySem.Spec PyProof.Rows
theorem place_at {xs:Array Nat} (r:Ris xs) {i j:Nat} (h:xs[i]? = some j):SetTable.below xs j=i:=by
 obtain⟨h1,h2,h3⟩:=below_ok r j
 have hl:=(Array.getElem?_eq_some_iff.mp h).1
 rcases Nat.lt_trichotomy (SetTable.below xs j) i with z | z | z
 ·have hb:SetTable.below xs j < xs.size:=Nat.lt_trans z hl
  have e:=Array.getElem?_eq_getElem hb
  have:=h3 _ _ (Nat.le_refl _) e
  have:=ris_lt r z e h
  lia
 ·exact z
 ·have:=h2 i j z h
  lia
theorem mem_at {xs:Array Nat} {j:Nat} (h:j∈xs.toList):∃ i:Nat,xs[i]? = some j:=by
 obtain⟨i,hi⟩:=List.getElem?_of_mem h
 exact⟨i,by rw[← Array.getElem?_toList]; exact hi⟩
theorem at_mem {xs:Array Nat} {i j:Nat} (h:xs[i]? = some j):j∈xs.toList:=List.mem_of_getElem? (by rw[Array.getElem?_toList]; exact h)
theorem slot_live {t:SetTable} (r:Ris t.place) {i j:Nat} (h:t.place[i]? = some j):t.slot j = .live i:=by
 unfold SetTable.slot
 dsimp only
 rw[place_at r h,h]
 simp
theorem slot_free {t:SetTable} (nd:t.dummies = #[]) {j:Nat} (h:j ∉ t.place.toList):t.slot j = .empty:=by
 unfold SetTable.slot SetTable.has
 rw[nd]
 have:(t.place[SetTable.below t.place j]? == some j)=false:=by
  cases q:(t.place[SetTable.below t.place j]? == some j) with
  | false=>rfl
  | true=>exact absurd (at_mem (eq_of_beq q)) h
 simp [this]
noncomputable def toP (m:Nat) (q:Nat × Nat × Nat):SetTable.Probe:={ j:=cur q,more:=SetTable.runEnd m q.1 - cur q,i:=q.1,perturb:=q.2.2,dummy:=none }
theorem adv {t:SetTable} {q:Nat × Nat × Nat} (v:VQ t.mask q):t.advance (toP t.mask q)=toP t.mask (nxQ t.mask q):=by
 unfold SetTable.advance nxQ
 have h:=v.1
 by_cases z:q.1+q.2.1 < SetTable.runEnd t.mask q.1
 ·rw[if_pos z,if_pos (by show SetTable.runEnd t.mask q.1 - cur q > 0; unfold cur; lia)]
  unfold toP cur
  simp only[SetTable.Probe.mk.injEq,and_true,true_and]
  lia
 ·rw[if_neg z,if_neg (by show ¬ SetTable.runEnd t.mask q.1 - cur q > 0; unfold cur; lia)]
  rfl
theorem start_p (t:SetTable) (h:Int):t.probeStart h=toP t.mask (stQ t.mask h):=rfl
theorem go_ok {t:SetTable} (nd:t.dummies = #[]) (r:Ris t.place) (f:Nat->Int) (h:Int):∀ (fuel:Nat) (q:Nat × Nat × Nat),VQ t.mask q->(∃ k,k < fuel/\cur (itQ t.mask k q) ∉ t.place.toList) →
  ∃ k,(∀ e,e < k->cur (itQ t.mask e q)∈t.place.toList/\∀ i,t.place[i]? = some (cur (itQ t.mask e q))->f i≠h) ∧
   ((cur (itQ t.mask k q) ∉ t.place.toList/\SetTable.probe.go t f h fuel (toP t.mask q)=some (.empty (cur (itQ t.mask k q)) none)) ∨
    ∃ i,t.place[i]? = some (cur (itQ t.mask k q))/\f i=h/\SetTable.probe.go t f h fuel (toP t.mask q)=some (.candidate (cur (itQ t.mask k q)) i (toP t.mask (itQ t.mask (k+1) q))))
 | 0,q,_,⟨k,hk,_⟩=>absurd hk (Nat.not_lt_zero k)
 | fuel+1,q,v,⟨K,hK,fK⟩=>by
  by_cases z:cur q∈t.place.toList
  case neg =>
   refine⟨0,fun e he=>absurd he (Nat.not_lt_zero e),.inl ⟨z,?_⟩⟩
   unfold SetTable.probe.go
   rw[show (toP t.mask q).j=cur q from rfl,slot_free nd z]
   rfl
  obtain⟨i,hi⟩:=mem_at z
  have go1:SetTable.probe.go t f h (fuel+1) (toP t.mask q)=if (f i == h)=true then some (.candidate (cur q) i (toP t.mask (nxQ t.mask q))) else SetTable.probe.go t f h fuel (toP t.mask (nxQ t.mask q)):=by
   rw[SetTable.probe.go,show (toP t.mask q).j=cur q from rfl,slot_live r hi,adv v]
  by_cases y:f i=h
  ·refine⟨0,fun e he=>absurd he (Nat.not_lt_zero e),.inr ⟨i,hi,y,?_⟩⟩
   rw[go1,if_pos (by rw[y]; exact beq_self_eq_true h)]
   rfl
  ·obtain⟨K',rfl⟩:∃ K',K=K'+1:=by
    cases K with
    | zero=>exact absurd z fK
    | succ K'=>exact⟨K',rfl⟩
   obtain⟨k,a,b⟩:=go_ok nd r f h fuel (nxQ t.mask q) v.nx ⟨K',by lia,fK⟩
   have g2:SetTable.probe.go t f h (fuel+1) (toP t.mask q)=SetTable.probe.go t f h fuel (toP t.mask (nxQ t.mask q)):=by
    rw[go1,if_neg (fun w=>y (eq_of_beq w))]
   refine⟨k+1,fun e he=>?_,?_⟩
   ·cases e with
    | zero =>
     refine⟨z,fun i' hi'=>?_⟩
     have hi':t.place[i']? = some (cur q):=hi'
     have e1:=place_at r hi
     have e2:=place_at r hi'
     have:i'=i:=by lia
     rw[this]
     exact y
    | succ e=>exact a e (by lia)
   ·rw[g2]
    exact b
noncomputable def liveL (m:Nat) (ow:Array (Option Nat)):List (Nat × Nat):=(List.range (m+1)).filterMap fun j=>(ow.getD j none).map (j,·)
theorem filterMap_put {α β:Type} [DecidableEq α] {f g:α->Option β} {j:α} {v:β}:∀ {l:List α},l.Nodup->j∈l->f j=none->g j=some v->(∀ x,x≠j->g x=f x)->(l.filterMap g).Perm (v::l.filterMap f)
 | [],_,h,_,_,_=>nomatch h
 | x::r,nd,h,h1,h2,h3=>by
  rw[List.nodup_cons] at nd
  by_cases e:x=j
  ·have ec:∀ l:List α,j ∉ l->l.filterMap g=l.filterMap f:=fun l=>by
    induction l with
    | nil=>exact fun _=>rfl
    | cons y l ih =>
     intro hn
     rw[List.filterMap_cons,List.filterMap_cons,h3 y (fun z=>hn (by rw[z]; exact List.mem_cons_self)),ih fun z=>hn (List.mem_cons_of_mem _ z)]
   have er:=ec r (by rw[← e]; exact nd.1)
   rw[List.filterMap_cons,List.filterMap_cons,e,h1,h2,er]
  ·have hr:j∈r:=by
    rcases List.mem_cons.mp h with z | z
    ·exact absurd z.symm e
    ·exact z
   have ih:=filterMap_put nd.2 hr h1 h2 h3
   rw[List.filterMap_cons,List.filterMap_cons,h3 x e]
   cases f x with
   | none=>exact ih
   | some w=>exact (ih.cons w).trans (.swap _ _ _)
theorem filterMap_full {α β:Type} {f:α->Option β}:∀ {l:List α},(∀ x∈l,∃ v,f x=some v)->(l.filterMap f).length=l.length
 | [],_=>rfl
 | x::r,h=>by
  obtain⟨v,e⟩:=h x List.mem_cons_self
  rw[List.filterMap_cons,e,List.length_cons,List.length_cons,filterMap_full fun y hy=>h y (List.mem_cons_of_mem _ hy)]
theorem liveL_mem {m j:Nat} {ow:Array (Option Nat)}:j∈(liveL m ow).map (·.1) ↔ j<=m/\∃ x,ow.getD j none=some x:=by
 constructor
 ·intro h
  obtain⟨p,hp,rfl⟩:=List.mem_map.mp h
  obtain⟨y,hy,e⟩:=List.mem_filterMap.mp hp
  cases q:ow.getD y none with
  | none=>rw[q] at e; cases e
  | some x =>
   rw[q] at e
   cases e
   exact⟨Nat.le_of_lt_succ (List.mem_range.mp hy),x,q⟩
 ·rintro⟨h,x,e⟩
  refine List.mem_map.mpr ⟨(j,x),List.mem_filterMap.mpr ⟨j,List.mem_range.mpr (Nat.lt_succ_of_le h),?_⟩,rfl⟩
  rw[e]
  rfl
theorem run_in (m:Nat):∀ (d i r p:Nat),i+r+d<=SetTable.runEnd m i->itQ m d (i,r,p)=(i,r+d,p)
 | 0,i,r,p,_=>rfl
 | d+1,i,r,p,h=>by
  show itQ m d (nxQ m (i,r,p))=_
  have e:nxQ m (i,r,p)=(i,r+1,p):=by
   unfold nxQ
   rw[if_pos (by show i+r < SetTable.runEnd m i; lia)]
  rw[e,run_in m d i (r+1) p (by lia),Nat.add_assoc,Nat.add_comm 1 d]
theorem free_ok {m:Nat} {ow:Array (Option Nat)} (sz:ow.size=m+1):∀ (fuel i p:Nat),i<=m->(∃ n,n < fuel/\ow.getD (lpN m n (i,p)).1 none=none) →
  ∃ j,SetTable.layClean.free m ow fuel i p=some j/\j<=m/\ow.getD j none=none/\∃ k,cur (itQ m k (i,0,p))=j/\∀ e,e < k->∃ x,cur (itQ m e (i,0,p))<=m/\ow.getD (cur (itQ m e (i,0,p))) none=some x
 | 0,i,p,_,⟨n,hn,_⟩=>absurd hn (Nat.not_lt_zero n)
 | fuel+1,i,p,him,⟨n,hn,fn⟩=>by
  have g:=runEnd_ge m i
  have gl:=runEnd_le him
  have dd:∀ j,j<=m->ow.getD j (some 0)=ow.getD j none:=fun j hj=>by
   rw[Array.getD_eq_getD_getElem?,Array.getD_eq_getD_getElem?,Array.getElem?_eq_getElem (by lia)]
   rfl
  rw[SetTable.layClean.free]
  cases q:(List.range (SetTable.runEnd m i+1 - i)).find? fun k=>(ow.getD (i+k) (some 0)).isNone with
  | some k =>
   obtain⟨h1,h2,h3⟩:=List.find?_range_eq_some.mp q
   have hk:=List.mem_range.mp h2
   have hm':i+k<=m:=by lia
   refine⟨i+k,rfl,hm',?_,k,?_,fun e he=>?_⟩
   ·rw[dd _ hm'] at h1
    exact Option.isNone_iff_eq_none.mp h1
   ·rw[run_in m k i 0 p (by lia),Nat.zero_add]
    rfl
   ·rw[run_in m e i 0 p (by lia),Nat.zero_add]
    have:=h3 e he
    have hle:i+e<=m:=by lia
    rw[dd _ hle] at this
    cases w:ow.getD (i+e) none with
    | none=>rw[w] at this; cases this
    | some x=>exact⟨x,hle,w⟩
  | none =>
   have al:∀ e,i+e<=SetTable.runEnd m i->∃ x,ow.getD (i+e) none=some x:=fun e he=>by
    have:=List.find?_eq_none.mp q e (List.mem_range.mpr (by lia))
    rw[dd _ (by lia)] at this
    cases w:ow.getD (i+e) none with
    | none=>rw[w] at this; exact absurd rfl this
    | some x=>exact⟨x,rfl⟩
   obtain⟨n',rfl⟩:∃ n',n=n'+1:=by
    cases n with
    | zero =>
     obtain⟨x,hx⟩:=al 0 (by lia)
     have fn:ow.getD i none=none:=fn
     rw[Nat.add_zero,fn] at hx
     cases hx
    | succ n'=>exact⟨n',rfl⟩
   obtain⟨j,h1,h2,h3,k,h4,h5⟩:=free_ok sz fuel (SetTable.leap m i p).1 (SetTable.leap m i p).2 (leap_le _ _ _) ⟨n',by lia,fn⟩
   have re:=run_end m (SetTable.runEnd m i - i) i 0 p (by lia)
   refine⟨j,h1,h2,h3,(SetTable.runEnd m i - i+1)+k,by rw[itQ_add,re]; exact h4,fun e he=>?_⟩
   rcases Nat.lt_or_ge e (SetTable.runEnd m i - i+1) with z | z
   ·rw[run_in m e i 0 p (by lia),Nat.zero_add]
    obtain⟨x,hx⟩:=al e (by lia)
    exact⟨x,by show i+e<=m; lia,hx⟩
   ·obtain⟨e',rfl⟩:∃ e',e=(SetTable.runEnd m i - i+1)+e':=⟨e - (SetTable.runEnd m i - i+1),by lia⟩
    rw[itQ_add,re]
    exact h5 e' (by lia)
structure LI (m:Nat) (hs:List Int) (ow:Array (Option Nat)):Prop where
 sz:ow.size=m+1
 pm:((liveL m ow).map (·.2)).Perm (List.range hs.length)
 ways:∀ p∈liveL m ow,∀ h,hs[p.2]? = some h->Way m (·∈(liveL m ow).map (·.1)) h p.1
theorem liveL_none (m:Nat):liveL m (Array.replicate (m+1) none)=[]:=by
 unfold liveL
 refine List.filterMap_eq_nil_iff.mpr fun j _=>?_
 rw[Array.getD_eq_getD_getElem?,Array.getElem?_replicate]
 split <;> rfl
theorem LI.step {m:Nat} (hm:Msk m) {hs:List Int} {ow:Array (Option Nat)} (L:LI m hs ow) (room:hs.length<=m) (h:Int) :
  ∃ j,SetTable.layClean.free m ow (SetTable.turns m) (SetTable.bits h % (m+1)) (SetTable.bits h)=some j/\LI m (hs++[h]) (ow.setIfInBounds j (some hs.length)):=by
 have len:(liveL m ow).length=hs.length:=by rw[← List.length_map (f:=(·.2)),L.pm.length_eq,List.length_range]
 obtain⟨e,he,fe⟩:∃ e,e<=m/\ow.getD e none=none:=by
  refine Classical.byContradiction fun z=>?_
  have full:(liveL m ow).length=m+1:=by
   unfold liveL
   rw[filterMap_full fun j hj=>?_,List.length_range]
   cases q:ow.getD j none with
   | none=>exact absurd ⟨j,Nat.le_of_lt_succ (List.mem_range.mp hj),q⟩ z
   | some x=>exact⟨(j,x),rfl⟩
  lia
 obtain⟨n,hn,ne⟩:=lp_all hm he 13 (SetTable.bits h % (m+1)) (SetTable.bits h) (Nat.le_of_lt_succ (Nat.mod_lt _ (Nat.succ_pos m))) (bits_lt h)
 obtain⟨j,h1,h2,h3,k,h4,h5⟩:=free_ok L.sz (SetTable.turns m) (SetTable.bits h % (m+1)) (SetTable.bits h) (Nat.le_of_lt_succ (Nat.mod_lt _ (Nat.succ_pos m))) ⟨n,by unfold SetTable.turns; lia,by rw[ne]; exact fe⟩
 have gs:∀ x,(ow.setIfInBounds j (some hs.length)).getD x none=if x=j then some hs.length else ow.getD x none:=fun x=>by
  rw[Array.getD_eq_getD_getElem?,Array.getD_eq_getD_getElem?,Array.getElem?_setIfInBounds]
  by_cases w:j=x
  ·rw[if_pos w,if_pos (by rw[L.sz]; lia),if_pos w.symm]
   rfl
  ·rw[if_neg w,if_neg fun y=>w y.symm]
 have pl:(liveL m (ow.setIfInBounds j (some hs.length))).Perm ((j,hs.length)::liveL m ow):=by
  refine filterMap_put (j:=j) List.nodup_range (List.mem_range.mpr (Nat.lt_succ_of_le h2)) (by rw[h3]; rfl) (by rw[gs,if_pos rfl]; rfl) fun x hx=>by rw[gs,if_neg hx]
 have up:∀ x,x∈(liveL m ow).map (·.1)->x∈(liveL m (ow.setIfInBounds j (some hs.length))).map (·.1):=fun x hx=>(pl.map (·.1)).mem_iff.mpr (List.mem_cons_of_mem _ hx)
 refine⟨j,h1,⟨by rw[Array.size_setIfInBounds]; exact L.sz,?_,fun p hp h' hh'=>?_⟩⟩
 ·rw[List.length_append]
  refine (pl.map (·.2)).trans ?_
  rw[show hs.length+[h].length=hs.length+1 from rfl,List.range_succ]
  exact ((L.pm.cons _).trans (List.perm_append_singleton _ _).symm)
 ·rcases List.mem_cons.mp (pl.mem_iff.mp hp) with z | z
  ·rw[z] at hh' ⊢
   have:(hs++[h])[hs.length]? = some h:=by rw[List.getElem?_append_right (Nat.le_refl _),Nat.sub_self]; rfl
   have hh':(hs++[h])[hs.length]? = some h':=hh'
   rw[this] at hh'
   cases hh'
   exact⟨k,h4,fun e he=>by
    obtain⟨x,a,b⟩:=h5 e he
    exact up _ (liveL_mem.mpr ⟨a,x,b⟩)⟩
  ·have pi:p.2 < hs.length:=List.mem_range.mp (L.pm.mem_iff.mp (List.mem_map.mpr ⟨p,z,rfl⟩))
   rw[List.getElem?_append_left pi] at hh'
   exact (L.ways p z h' hh').mono up
end L2
namespace L2
open PySem PySem.Spec PyProof.Rows
structure TbT (t:SetTable) (hs:List Int):Prop where
 nd:t.dummies = #[]
 ris:Ris t.place
 le:∀ j∈t.place.toList,j<=t.mask
 len:t.place.size=hs.length
 mq:Msk t.mask
 ways:∀ p∈t.place.toList.zip hs,Way t.mask (·∈t.place.toList) p.2 p.1
theorem sub_len {α:Type} [DecidableEq α]:∀ {a b:List α},a.Nodup->(∀ x∈a,x∈b)->a.length<=b.length
 | [],_,_,_=>Nat.zero_le _
 | x::r,b,nd,h=>by
  rw[List.nodup_cons] at nd
  have hx:=h x List.mem_cons_self
  have:=sub_len (b:=b.erase x) nd.2 fun y hy=>(List.mem_erase_of_ne fun z=>nd.1 (by rw[← z]; exact hy)).mpr (h y (List.mem_cons_of_mem _ hy))
  rw[List.length_erase_of_mem hx] at this
  have:=List.length_pos_of_mem hx
  rw[List.length_cons]
  lia
section
variable {t:SetTable} {hs:List Int} {j p:Nat} {h:Int}
theorem TbT.fits (T:TbT t hs) (r:hs.length<=t.mask):t.fits hs.length=true:=by
 unfold SetTable.fits SetTable.fill
 rw[T.nd,T.len]
 simp [r]
theorem TbT.free (T:TbT t hs) (r:hs.length<=t.mask):∃ e,e<=t.mask/\e ∉ t.place.toList:=by
 refine Classical.byContradiction fun z=>?_
 have:=sub_len (a:=List.range (t.mask+1)) (b:=t.place.toList) List.nodup_range fun x hx=>Classical.byContradiction fun y=>z ⟨x,Nat.le_of_lt_succ (List.mem_range.mp hx),y⟩
 rw[List.length_range,Array.length_toList,T.len] at this
 lia
theorem ins_list {α:Type} {xs:Array α} {x:α} (h:p<=xs.size):(SetTable.insertAt xs p x).toList=xs.toList.take p++x::xs.toList.drop p:=by
 unfold SetTable.insertAt
 have:List.take (xs.size - p) (List.drop p xs.toList)=List.drop p xs.toList:=List.take_of_length_le (by rw[List.length_drop,Array.length_toList]; exact Nat.le_refl _)
 simp [this]
theorem TbT.put (T:TbT t hs) (hj:j ∉ t.place.toList) (hm:j<=t.mask) (w:Way t.mask (·∈t.place.toList) h j) :
  TbT (t.put j).1 (hs.take (SetTable.below t.place j)++h::hs.drop (SetTable.below t.place j))/\(t.put j).2=SetTable.below t.place j/\SetTable.below t.place j<=hs.length:=by
 have b:=(below_ok T.ris j).1
 have hb:SetTable.below t.place j<=hs.length:=by rw[← T.len]; exact b
 have el:(t.put j).1.place.toList=t.place.toList.take (SetTable.below t.place j)++j::t.place.toList.drop (SetTable.below t.place j):=ins_list b
 have mem:∀ x,x∈(t.put j).1.place.toList ↔ x=j∨x∈t.place.toList:=fun x=>by
  rw[el,List.mem_append,List.mem_cons]
  conv=>rhs; rw[← List.take_append_drop (SetTable.below t.place j) t.place.toList,List.mem_append]
  constructor
  ·rintro (z | z | z)
   ·exact .inr (.inl z)
   ·exact .inl z
   ·exact .inr (.inr z)
  ·rintro (z | z | z)
   ·exact .inr (.inl z)
   ·exact .inl z
   ·exact .inr (.inr z)
 have up:∀ x,x∈t.place.toList->x∈(t.put j).1.place.toList:=fun x hx=>(mem x).mpr (.inr hx)
 refine⟨⟨?_,ris_put T.ris fun z=>hj (at_mem z),fun x hx=>?_,?_,T.mq,fun q hq=>?_⟩,rfl,hb⟩
 ·show (if SetTable.has t.dummies j=true then _ else t.dummies) = #[]
  rw[T.nd]
  rfl
 ·rcases (mem x).mp hx with z | z
  ·rw[z]
   exact hm
  ·exact T.le x z
 ·rw[← Array.length_toList,el]
  simp only[List.length_append,List.length_cons,List.length_take,List.length_drop,Array.length_toList,T.len]
 ·rw[el,List.zip_append (by rw[List.length_take,List.length_take,Array.length_toList,T.len]),List.mem_append,List.zip_cons_cons,List.mem_cons] at hq
  rcases hq with z | z | z
  ·refine (T.ways q ?_).mono up
   rw[← List.take_append_drop (SetTable.below t.place j) t.place.toList,← List.take_append_drop (SetTable.below t.place j) hs,List.zip_append (by rw[List.length_take,List.length_take,Array.length_toList,T.len])]
   exact List.mem_append_left _ z
  ·rw[z]
   exact w.mono up
  ·refine (T.ways q ?_).mono up
   rw[← List.take_append_drop (SetTable.below t.place j) t.place.toList,← List.take_append_drop (SetTable.below t.place j) hs,List.zip_append (by rw[List.length_take,List.length_take,Array.length_toList,T.len])]
   exact List.mem_append_right _ z
end
noncomputable def layS (m:Nat) (acc:Option (Array (Option Nat) × Nat)) (h:Int):Option (Array (Option Nat) × Nat):=do
 let (owner,k) ← acc
 let j ← SetTable.layClean.free m owner (SetTable.turns m) (SetTable.bits h % (m+1)) (SetTable.bits h)
 pure (owner.setIfInBounds j (some k),k+1)
theorem lay_fold {m:Nat} (hm:Msk m):∀ (rest hs:List Int) (ow:Array (Option Nat)),LI m hs ow->hs.length+rest.length<=m+1->∃ ow',rest.foldl (layS m) (some (ow,hs.length))=some (ow',hs.length+rest.length)/\LI m (hs++rest) ow'
 | [],hs,ow,L,_=>⟨ow,rfl,by rw[List.append_nil]; exact L⟩
 | h::rest,hs,ow,L,r=>by
  rw[List.length_cons] at r
  obtain⟨j,e,L'⟩:=L.step hm (by lia) h
  have e1:layS m (some (ow,hs.length)) h=some (ow.setIfInBounds j (some hs.length),(hs++[h]).length):=by
   show (SetTable.layClean.free m ow (SetTable.turns m) (SetTable.bits h % (m+1)) (SetTable.bits h) >>= fun j=>some (ow.setIfInBounds j (some hs.length),hs.length+1))=_
   rw[e,List.length_append]
   rfl
  obtain⟨ow',h1,h2⟩:=lay_fold hm rest (hs++[h]) _ L' (by rw[List.length_append]; show hs.length+1+rest.length<=m+1; lia)
  refine⟨ow',?_,by rw[List.append_assoc] at h2; exact h2⟩
  rw[List.foldl_cons,e1,h1,List.length_append,List.length_cons]
  congr 2
  show hs.length+1+rest.length=hs.length+(rest.length+1)
  lia
theorem lay_clean {m:Nat} (hm:Msk m) (hs:Array Int) (r:hs.size<=m):∃ ow,SetTable.layClean m hs=some ow/\LI m hs.toList ow:=by
 obtain⟨ow,h1,h2⟩:=lay_fold hm hs.toList [] (Array.replicate (m+1) none) ⟨Array.size_replicate,by rw[liveL_none]; exact .refl _,by rw[liveL_none]; intro p hp; cases hp⟩ (by rw[Array.length_toList]; show 0+hs.size<=m+1; lia)
 refine⟨ow,?_,h2⟩
 unfold SetTable.layClean
 rw[← Array.foldl_toList]
 show (List.foldl (layS m) (some (Array.replicate (m+1) none,0)) hs.toList).map (·.1)=_
 rw[show (some (Array.replicate (m+1) none,0):Option (Array (Option Nat) × Nat))=some (Array.replicate (m+1) none,([]:List Int).length) from rfl,h1]
 rfl
theorem laid_ok {m fi mv:Nat} {ld pl:Bool} (hm:Msk m) (es:Array (Int × Value)) (r:es.size<=m) :
  ∃ t' order,SetTable.laid m fi mv ld pl (es.map (·.1))=some (t',order)/\(order.filterMap (es[·]?)).toList.Perm es.toList/\t'.mask=m/\t'.led=ld/\t'.plain=pl/\TbT t' ((order.filterMap (es[·]?)).toList.map (·.1)):=by
 obtain⟨ow,e,L⟩:=lay_clean hm (es.map (·.1)) (by rw[Array.size_map]; exact r)
 have hl:(es.map (·.1)).toList=es.toList.map (·.1):=Array.toList_map ..
 rw[hl] at L
 have ln:(es.toList.map (·.1)).length=es.size:=by rw[List.length_map,Array.length_toList]
 have lt:∀ q∈liveL m ow,q.2 < es.size:=fun q hq=>by
  have:=List.mem_range.mp (L.pm.mem_iff.mp (List.mem_map.mpr ⟨q,hq,rfl⟩))
  rw[ln] at this
  exact this
 refine⟨{ mask:=m,place:=((liveL m ow).map (·.1)).toArray,dummies:=#[],finger:=fi,led:=ld,moves:=mv,plain:=pl },((liveL m ow).map (·.2)).toArray,?_,?_,rfl,rfl,rfl,?_⟩
 ·unfold SetTable.laid
  rw[e]
  rfl
 ·rw[List.filterMap_toArray]
  show (((liveL m ow).map (·.2)).filterMap (es[·]?)).Perm es.toList
  refine (L.pm.filterMap _).trans ?_
  rw[ln]
  have:(List.range es.size).filterMap (es[·]?)=es.toList:=by
   have g:∀ n,n<=es.size->(List.range n).filterMap (es[·]?)=es.toList.take n:=fun n=>by
    induction n with
    | zero=>exact fun _=>rfl
    | succ n ih =>
     intro hn
     have h1:=Array.getElem?_eq_getElem (xs:=es) (i:=n) (by lia)
     rw[List.range_succ,List.filterMap_append,ih (by lia),List.take_add_one,Array.getElem?_toList]
     congr 1
   rw[g _ (Nat.le_refl _),← Array.length_toList,List.take_length]
  rw[this]
 ·have fm:(((liveL m ow).map (·.2)).toArray.filterMap (es[·]?)).toList.map (·.1)=(liveL m ow).map fun q=>((es[q.2]?).map (·.1)).getD 0:=by
   rw[List.filterMap_toArray]
   show (((liveL m ow).map (·.2)).filterMap (es[·]?)).map (·.1)=_
   have g:∀ l:List (Nat × Nat),(∀ q∈l,q.2 < es.size)->((l.map (·.2)).filterMap (es[·]?)).map (·.1)=l.map fun q=>((es[q.2]?).map (·.1)).getD 0:=fun l=>by
    induction l with
    | nil=>exact fun _=>rfl
    | cons q l ih =>
     intro hq
     have h1:=Array.getElem?_eq_getElem (hq q List.mem_cons_self)
     rw[List.map_cons,List.filterMap_cons,h1,List.map_cons,List.map_cons,ih fun q' h'=>hq q' (List.mem_cons_of_mem _ h'),h1]
     rfl
   exact g _ lt
  rw[fm]
  refine⟨rfl,?_,fun j hj=>?_,?_,hm,fun q hq=>?_⟩
  ·show (((liveL m ow).map (·.1)).toArray.toList).Pairwise (· < ·)
   exact ris_live ow _ List.pairwise_lt_range
  ·exact (liveL_mem.mp hj).1
  ·show (((liveL m ow).map (·.1)).toArray).size=_
   rw[List.size_toArray,List.length_map,List.length_map]
  ·have hz:((liveL m ow).map (·.1)).zip ((liveL m ow).map fun q=>((es[q.2]?).map (·.1)).getD 0)=(liveL m ow).map fun q=>(q.1,((es[q.2]?).map (·.1)).getD 0):=by
    rw[List.zip_map',]
   have hq:q∈((liveL m ow).map (·.1)).zip ((liveL m ow).map fun q=>((es[q.2]?).map (·.1)).getD 0):=hq
   rw[hz] at hq
   obtain⟨x,hx,rfl⟩:=List.mem_map.mp hq
   refine L.ways x hx _ ?_
   rw[List.getElem?_map,Array.getElem?_toList,Array.getElem?_eq_getElem (lt x hx)]
   rfl
end L2
namespace L2
open PySem PySem.Spec PyProof.Rows
section
variable {P:Program} {w:World} {A:Around} {E:Value->Shared->Prop} {s:Shared}
noncomputable abbrev TKey (P:Program) (w:World) (h:Heap) (k:List Int) (c:Addr):Prop:=IsTupleKey (intKind P w) h k c
theorem of_class {k:List Int} {c:Addr} {Q:Bool->Shared->Prop} (hk:TKey P w s.heap k c) (h:Q false s):wpAny (model P w) A (ofAClassStatement 8 (.ref c)) Q E s:=by
 have hT:=hk.typeIs
 obtain⟨o,items,n,ho,hc,hd,hi⟩:=hk
 unfold ofAClassStatement
 refine wpAny_bind (wpAny_typeOf hT ?_)
 dsimp only
 rw[if_pos (by decide)]
 refine wpAny_bind (wpAny_pure ?_)
 simp only[Bool.not_true,Bool.false_eq_true,if_false]
 refine wpAny_bind (wpAny_seqItems ho hd ?_)
 dsimp only
 refine wpAny_bind ?_
 show wpAny _ _ (forIn items _ _) _ _ s
 rw[← Array.forIn_toList]
 refine wpAny_forIn_list _ (fun rest r s'=>r.1=none/\s'=s/\∀ v∈rest,carriedByValue v=true) _ ?_ ?_ _ _ ⟨rfl,rfl,hi.byValue⟩
 ·rintro v rest r s' ⟨hr,rfl,hall⟩
  have e:ofAClassStatement 7 v=pure false:=by
   have:=hall v List.mem_cons_self
   cases v with
   | ref a=>simp [carriedByValue] at this
   | _=>first | rfl | simp [ofAClassStatement] | (unfold ofAClassStatement; rfl)
  rw[e]
  refine wpAny_bind (wpAny_pure ?_)
  simp only[Bool.false_eq_true,if_false]
  exact wpAny_pure ⟨rfl,rfl,fun u hu'=>hall u (List.mem_cons_of_mem _ hu')⟩
 ·rintro⟨r1,r2⟩ s' ⟨hr,rfl,_⟩
  simp only at hr
  subst hr
  exact wpAny_pure h
theorem not_seen {k:List Int} {c:Addr} {Q:Bool->Shared->Prop} (hk:TKey P w s.heap k c):∀ (l:List Value),(∀ v∈l,∃ k' c',v = .ref c'/\TKey P w s.heap k' c')->Q false s->wpAny (model P w) A (searchCouldBeSeen (.ref c) l) Q E s:=fun l hl h=>by
 unfold searchCouldBeSeen
 refine wpAny_bind ?_
 refine wpAny_forIn_list _ (fun rest r s'=>r.1=none/\s'=s/\∀ v∈rest,∃ k' c',v = .ref c'/\TKey P w s.heap k' c') _ ?_ ?_ _ _ ⟨rfl,rfl,hl⟩
 ·rintro v rest r s' ⟨hr,rfl,hall⟩
  obtain⟨k',c',rfl,hk'⟩:=hall v List.mem_cons_self
  have hr':=fun u hu'=>hall u (List.mem_cons_of_mem _ hu')
  dsimp only
  refine wpAny_ite_split (fun _=>wpAny_pure ⟨rfl,rfl,hr'⟩) fun _=>?_
  refine wpAny_bind (wpAny_eqIsQuiet_tuple hk ?_)
  simp only[Bool.not_true,Bool.false_eq_true,if_false]
  refine wpAny_bind (wpAny_eqIsQuiet_tuple hk' ?_)
  simp only[Bool.not_true,Bool.false_eq_true,if_false]
  refine wpAny_bind (of_class hk ?_)
  simp only[Bool.false_eq_true,if_false]
  refine wpAny_bind (of_class hk' ?_)
  simp only[Bool.false_eq_true,if_false]
  exact wpAny_pure ⟨rfl,rfl,hr'⟩
 ·rintro⟨r1,r2⟩ s' ⟨hr,rfl,_⟩
  simp only at hr
  subst hr
  exact wpAny_pure h
end
end L2
namespace L2
open PySem PySem.Spec PyProof.Rows
section
variable {P:Program} {w:World} {A:Around} {E:Value->Shared->Prop} {s:Shared}
noncomputable def HK (P:Program) (w:World) (k:List Int):Int:=tupleKeyHash (intKind P w) k
structure Ent6 (P:Program) (w:World) (h:Heap) (es:Array (Int × Value)) (t:SetTable) (prs:List (Addr × List Int)):Prop where
 e:es.toList=prs.map fun p=>(HK P w p.2,Value.ref p.1)
 k:∀ p∈prs,TKey P w h p.2 p.1
 tb:TbT t (es.toList.map (·.1))
 r:es.size<=t.mask
section
variable {a c:Addr} {o:Obj} {es:Array (Int × Value)} {ep:Nat} {t:SetTable} {prs:List (Addr × List Int)} {k:List Int}
theorem Ent6.at (X:Ent6 P w s.heap es t prs) {i:Nat} {v:Int × Value} (h:es[i]? = some v):∃ p,prs[i]? = some p/\v=(HK P w p.2,.ref p.1):=by
 have h':es.toList[i]? = some v:=by rw[Array.getElem?_toList]; exact h
 rw[X.e,List.getElem?_map] at h'
 obtain⟨p,h1,h2⟩:=Option.map_eq_some_iff.mp h'
 exact⟨p,h1,h2.symm⟩
theorem Ent6.on (X:Ent6 P w s.heap es t prs) {i:Nat} {p:Addr × List Int} (h:prs[i]? = some p):es[i]? = some (HK P w p.2,.ref p.1):=by
 rw[← Array.getElem?_toList,X.e,List.getElem?_map,h]
 rfl
theorem Ent6.len (X:Ent6 P w s.heap es t prs):prs.length=es.size:=by rw[← Array.length_toList,X.e,List.length_map]
theorem odd_mask (h:Msk t.mask):t.gaveWay=false:=by
 unfold SetTable.gaveWay
 rcases h with e | e | e <;> rw[e] <;> rfl
theorem search_ok (ho:s.heap.get? a=some o) (hd:o.data = .set es ep t) (hu:A.units < cLine) (X:Ent6 P w s.heap es t prs) (hk:TKey P w s.heap k c) {Q:SetFound->Shared->Prop}
  (qT:(∃ p∈prs,p.2=k)->Q (.there none) s) (qF:(∀ p∈prs,p.2≠k)->∀ j,j ∉ t.place.toList->j<=t.mask->Way t.mask (·∈t.place.toList) (HK P w k) j->Q (.free j false) s) :
  ∀ (fuel K n0:Nat) (stand:Option SetTable.Probe),K < fuel->K < 10 * SetTable.turns t.mask->stand.getD (t.probeStart (HK P w k))=toP t.mask (itQ t.mask n0 (stQ t.mask (HK P w k))) →
   (∃ e,e<=K/\cur (itQ t.mask e (itQ t.mask n0 (stQ t.mask (HK P w k)))) ∉ t.place.toList) →
   (∀ e,e < n0->cur (itQ t.mask e (stQ t.mask (HK P w k)))∈t.place.toList/\∀ (i:Nat) (p:Addr × List Int),t.place[i]? = some (cur (itQ t.mask e (stQ t.mask (HK P w k))))->prs[i]? = some p->p.2≠k) →
   wpAny (model P w) A (setSearchFrom a (.ref c) (HK P w k) true fuel stand) Q E s
 | 0,K,_,_,hK,_,_,_,_=>absurd hK (Nat.not_lt_zero K)
 | fuel+1,K,n0,stand,hK,hT,hst,⟨e0,he0,fe0⟩,hb=>by
  have hf:t.fits es.size=true:=by
   have:=X.tb.fits (by rw[List.length_map,Array.length_toList]; exact X.r)
   rwa [List.length_map,Array.length_toList] at this
  unfold setSearchFrom
  refine wpAny_bind (wpAny_setState_of ho hd hf ?_)
  dsimp only
  rw[odd_mask X.tb.mq]
  simp only[Bool.false_eq_true,if_false]
  generalize hR:t.probe _ (HK P w k) (stand.getD (t.probeStart (HK P w k)))=R
  obtain⟨n,ha,hc⟩:=go_ok X.tb.nd X.tb.ris (fun i=>(es[i]?.map (·.1)).getD 0) (HK P w k) (10 * SetTable.turns t.mask) (itQ t.mask n0 (stQ t.mask (HK P w k))) ((vq_st _ _).it n0) ⟨e0,by lia,fe0⟩
  have hR':SetTable.probe.go t (fun i=>(es[i]?.map (·.1)).getD 0) (HK P w k) (10 * SetTable.turns t.mask) (toP t.mask (itQ t.mask n0 (stQ t.mask (HK P w k))))=R:=by
   rw[← hst]
   exact hR
  have hb':∀ e,e < n0+n->cur (itQ t.mask e (stQ t.mask (HK P w k)))∈t.place.toList/\∀ (i:Nat) (p:Addr × List Int),t.place[i]? = some (cur (itQ t.mask e (stQ t.mask (HK P w k))))->prs[i]? = some p->p.2≠k:=fun e he=>by
   rcases Nat.lt_or_ge e n0 with z | z
   ·exact hb e z
   ·obtain⟨e',rfl⟩:∃ e',e=n0+e':=⟨e - n0,by lia⟩
    rw[itQ_add]
    obtain⟨h1,h2⟩:=ha e' (by lia)
    refine⟨h1,fun i p hi hp y=>h2 i hi ?_⟩
    rw[X.on hp,y]
    rfl
  rcases hc with⟨h1,h2⟩ | ⟨i,h1,h2,h3⟩
  ·rw[h2] at hR'
   subst hR'
   dsimp only
   have h1':cur (itQ t.mask (n0+n) (stQ t.mask (HK P w k))) ∉ t.place.toList:=by rw[itQ_add]; exact h1
   refine wpAny_pure (qF (fun p hp y=>?_) _ h1 ((vq_st _ _).it n0 |>.it n).le ⟨n0+n,by rw[itQ_add],fun e he=>(hb' e he).1⟩)
   obtain⟨i,hi⟩:=List.getElem?_of_mem hp
   have il:=(List.getElem?_eq_some_iff.mp hi).1
   have pl:i < t.place.size:=by rw[X.tb.len,List.length_map,Array.length_toList,← X.len]; exact il
   have hpi:=Array.getElem?_eq_getElem pl
   have hz:(t.place[i],HK P w k)∈t.place.toList.zip (es.toList.map (·.1)):=by
    refine List.mem_of_getElem? (i:=i) ?_
    rw[List.getElem?_zip_eq_some]
    refine⟨by rw[Array.getElem?_toList]; exact hpi,?_⟩
    rw[List.getElem?_map,Array.getElem?_toList,X.on hi,y]
    rfl
   obtain⟨kk,k1,k2⟩:=X.tb.ways _ hz
   have k1:cur (itQ t.mask kk (stQ t.mask (HK P w k)))=t.place[i]:=k1
   rcases Nat.lt_trichotomy kk (n0+n) with z | z | z
   ·exact (hb' kk z).2 i p (by rw[k1]; exact hpi) hi y
   ·rw[← z,k1] at h1'
    exact h1' (at_mem hpi)
   ·exact h1' (k2 _ z)
  ·rw[h3] at hR'
   subst hR'
   dsimp only
   have hn:n < e0:=Nat.lt_of_not_le fun z=>by
    rcases Nat.lt_or_ge e0 n with y | y
    ·exact fe0 (ha e0 y).1
    ·have:e0=n:=by lia
     rw[this] at fe0
     exact fe0 (at_mem h1)
   have il:i < es.size:=by
    have:=(Array.getElem?_eq_some_iff.mp h1).1
    rw[X.tb.len,List.length_map,Array.length_toList] at this
    exact this
   obtain⟨p,hp,ep'⟩:=X.at (Array.getElem?_eq_getElem il)
   have hes:=X.on hp
   rw[hes]
   dsimp only
   have st:∀ v∈(es.filter fun x=>x.fst == HK P w k).toList.map (·.2),∃ k' c',v = .ref c'/\TKey P w s.heap k' c':=fun v hv=>by
    obtain⟨y,hy,rfl⟩:=List.mem_map.mp hv
    rw[Array.toList_filter,List.mem_filter] at hy
    have:=hy.1
    rw[X.e] at this
    obtain⟨p',hp',rfl⟩:=List.mem_map.mp this
    exact⟨p'.2,p'.1,rfl,X.k p' hp'⟩
   have mp:=List.mem_of_getElem? hp
   refine wpAny_ite_split (fun _=>wpAny_bind (not_seen hk _ st ?_)) (fun _=>?_)
   all_goals
    try simp only[Bool.false_eq_true,if_false]
    refine wpAny_bind (wpAny_holding (wpAny_eqBool_tuple hu (X.k p mp) hk ?_))
    refine wpAny_bind (wpAny_setState_of ho hd hf ?_)
    dsimp only
    by_cases y:p.2=k
    ·rw[decide_eq_true y]
     exact wpAny_pure (qT ⟨p,mp,y⟩)
    ·rw[decide_eq_false y]
     simp only[Bool.and_false,Bool.false_eq_true,if_false]
     have sm:t.sameMemory t.moves t.mask=some true:=by
      unfold SetTable.sameMemory
      simp
     rw[sm]
     dsimp only
     rw[if_pos rfl,slot_live X.tb.ris h1]
     dsimp only
     rw[hes]
     dsimp only
     refine wpAny_bind (wpAny_isSame_ref_self ?_)
     rw[if_pos rfl]
     refine wpAny_bind (wpAny_pure ?_)
     dsimp only
     refine search_ok ho hd hu X hk qT qF fuel (e0 - (n+1)) (n0+(n+1)) _ (by lia) (by lia) (by rw[itQ_add t.mask n0 (n+1)]; rfl) ⟨e0 - (n+1),Nat.le_refl _,?_⟩ fun e he=>?_
     ·rw[itQ_add t.mask n0 (n+1),← itQ_add t.mask (n+1),show n+1+(e0 - (n+1))=e0 by lia]
      exact fe0
     ·rcases Nat.lt_or_ge e (n0+n) with z | z
      ·exact hb' e z
      ·have:e=n0+n:=by lia
       rw[this,itQ_add]
       refine⟨at_mem h1,fun i' p' hi' hp'=>?_⟩
       have e1:=place_at X.tb.ris h1
       have e2:=place_at X.tb.ris hi'
       have:i'=i:=by lia
       rw[this,hp] at hp'
       cases hp'
       exact y
end
end
end L2
namespace L2
open PySem PySem.Spec PyProof.Rows
section
variable {P:Program} {w:World} {A:Around} {E:Value->Shared->Prop} {s:Shared}
theorem by_value {k:List Int} {c:Addr} {Q:Bool->Shared->Prop} (hk:TKey P w s.heap k c) (h:Q true s):wpAny (model P w) A (hashByValue 8 (.ref c)) Q E s:=by
 have hT:=hk.typeIs
 obtain⟨o,items,n,ho,hc,hd,hi⟩:=hk
 unfold hashByValue
 refine wpAny_bind (wpAny_specialOf hT PySem.F.slot_tuple_hash.lookup ?_)
 dsimp only
 refine wpAny_bind (wpAny_seqItems ho hd ?_)
 refine wpAny_bind ?_
 show wpAny _ _ (forIn items _ _) _ _ s
 rw[← Array.forIn_toList]
 have hall:∀ v∈items.toList,∃ (i:Int) (t:Tok),v = .int i t:=by
  generalize items.toList=l at hi
  induction hi with
  | nil=>intro v hv; cases hv
  | cons h1 _ ih =>
   intro v hv
   rcases List.mem_cons.mp hv with rfl | hv
   ·obtain⟨t,rfl⟩:=Value.isInt_shape h1
    exact⟨_,t,rfl⟩
   ·exact ih v hv
 refine wpAny_forIn_list _ (fun rest r s'=>r.1=none/\s'=s/\∀ v∈rest,∃ (i:Int) (t:Tok),v = .int i t) _ ?_ ?_ _ _ ⟨rfl,rfl,hall⟩
 ·rintro v rest r s' ⟨hr,rfl,hall⟩
  obtain⟨i,t,rfl⟩:=hall v List.mem_cons_self
  rw[show hashByValue 7 (.int i t)=pure true from rfl]
  refine wpAny_bind (wpAny_pure ?_)
  simp only[Bool.not_true,Bool.false_eq_true,if_false]
  exact wpAny_pure ⟨rfl,rfl,fun u hu'=>hall u (List.mem_cons_of_mem _ hu')⟩
 ·rintro⟨r1,r2⟩ s' ⟨hr,rfl,_⟩
  simp only at hr
  subst hr
  exact wpAny_pure h
noncomputable def SetT (P:Program) (w:World) (b:Bool) (h:Heap) (a:Addr) (ks:List (Addr × List Int)):Prop :=
 ∃ o es ep t prs,h.get? a=some o/\o.ExactSet/\o.data = .set es ep t/\t.led=b/\t.plain=true/\Ent6 P w h es t prs/\es.size * 5 < t.mask * 3/\(prs.map (·.2)).Nodup/\prs.Perm ks
noncomputable def stepT (ks:List (Addr × List Int)) (p:Addr × List Int):List (Addr × List Int):=if p.2∈ks.map (·.2) then ks else ks++[p]
theorem TKey.keep {h h':Heap} {k:List Int} {c a:Addr} {o:Obj} {es:Array (Int × Value)} {ep:Nat} {t:SetTable} (x:TKey P w h k c) (ho:h.get? a=some o) (hd:o.data = .set es ep t) (hs:Heap.SameBut a h h'):TKey P w h' k c:=by
 obtain⟨o',items,n,ho',hc,hd',hi⟩:=x
 have hne:c≠a:=by
  rintro rfl
  obtain rfl:o'=o:=Option.some.inj (ho'.symm.trans ho)
  rw[hd] at hd'
  cases hd'
 exact⟨o',items,n,(hs.2 c hne).trans ho',hc,hd',hi⟩
theorem map_perm {α β:Type} {f:α->β} {l' l:List β} (h:l'.Perm l):∀ {xs:List α},l=xs.map f->∃ ys:List α,ys.Perm xs/\l'=ys.map f:=by
 induction h with
 | nil =>
  intro xs e
  cases xs with
  | nil=>exact⟨[],.refl _,rfl⟩
  | cons _ _=>cases e
 | cons x p ih =>
  intro xs e
  cases xs with
  | nil=>cases e
  | cons y xs =>
   injection e with e1 e2
   obtain⟨ys,h1,h2⟩:=ih e2
   exact⟨y::ys,h1.cons y,by rw[e1,h2]; rfl⟩
 | swap x y l =>
  intro xs e
  cases xs with
  | nil=>cases e
  | cons u xs =>
   cases xs with
   | nil=>injection e with e1 e2; cases e2
   | cons v xs =>
    injection e with e1 e2
    injection e2 with e2 e3
    exact⟨v::u::xs,.swap _ _ _,by rw[e1,e2,e3]; rfl⟩
 | trans p q ih1 ih2 =>
  intro xs e
  obtain⟨ys,h1,h2⟩:=ih2 e
  obtain⟨zs,h3,h4⟩:=ih1 h2
  exact⟨zs,h3.trans h1,h4⟩
theorem setT_stored {b:Bool} {h:Heap} {a:Addr} {o:Obj} {es es':Array (Int × Value)} {ep:Nat} {t t':SetTable} {prs ks:List (Addr × List Int)} (ho:h.get? a=some o) (hx:o.ExactSet) (hd:o.data = .set es ep t)
  (hled:t'.led=b) (hpl:t'.plain=true) (X:Ent6 P w h es' t' prs) (ndp:(prs.map (·.2)).Nodup) (pm:prs.Perm ks) :
  (h.update a (Obj.putSet es' t')).get? a=some { o with data:=.set es' (ep+1) t' }/\Ent6 P w (h.update a (Obj.putSet es' t')) es' t' prs/\(es'.size * 5 < t'.mask * 3->SetT P w b (h.update a (Obj.putSet es' t')) a ks):=by
 have g:(h.update a (Obj.putSet es' t')).get? a=some { o with data:=.set es' (ep+1) t' }:=by
  have q:=Heap.get?_update_self (Obj.putSet es' t') ho (by rw[putSet_of es' t' hd]; rfl)
  rwa [putSet_of es' t' hd] at q
 have X':Ent6 P w (h.update a (Obj.putSet es' t')) es' t' prs:=⟨X.e,fun p hp=>(X.k p hp).keep ho hd (Heap.SameBut.update h a _),X.tb,X.r⟩
 exact⟨g,X',fun nf=>⟨_,es',ep+1,t',prs,g,hx,rfl,hled,hpl,X',nf,ndp,pm⟩⟩
theorem set_addT {b:Bool} {a c:Addr} {ks:List (Addr × List Int)} {k:List Int} {Q:Bool->Shared->Prop} (hu:A.units < cLine) (hS:SetT P w b s.heap a ks) (hk:TKey P w s.heap k c) (room:ks.length < 63)
  (h:∀ h' r,Heap.SameBut a s.heap h'->SetT P w b h' a (stepT ks (c,k))->Q r { s with heap:=h' }):wpAny (model P w) A (setAddHashed a (.ref c) (HK P w k)) Q E s:=by
 obtain⟨o,es,ep,t,prs,ho,hx,hd,hled,hpl,X,nf,ndp,pm⟩:=id hS
 have hf:t.fits es.size=true:=by
  have:=X.tb.fits (by rw[List.length_map,Array.length_toList]; exact X.r)
  rwa [List.length_map,Array.length_toList] at this
 have mem:∀ q:List Int,q∈ks.map (·.2) ↔ ∃ p∈prs,p.2=q:=fun q=>by
  rw[← (pm.map (·.2)).mem_iff,List.mem_map]
 unfold setAddHashed setAddHashedIn
 refine wpAny_holding (wpAny_bind (wpAny_setState_of ho hd hf ?_))
 dsimp only
 rw[show byScan (.ref c) es=false from rfl]
 simp only[Bool.false_eq_true,if_false]
 unfold setSearch
 obtain⟨e0,he0,fe0⟩:=X.tb.free (by rw[List.length_map,Array.length_toList]; exact X.r)
 obtain⟨kk,hkk,fkk⟩:=way_free X.tb.mq (S:=(·∈t.place.toList)) he0 fe0 (HK P w k)
 refine wpAny_bind (search_ok ho hd hu X hk (fun hq=>?_) (fun hq j hj jm hw=>?_) 100000 kk 0 none ?_ ?_ (start_p _ _) ⟨kk,Nat.le_refl _,fkk⟩ fun e he=>absurd he (Nat.not_lt_zero e))
 rotate_left 2
 ·have:=X.tb.mq
  rcases this with e | e | e <;> rw[e] at hkk <;> lia
 ·unfold SetTable.turns
  lia
 ·dsimp only
  refine wpAny_pure (h s.heap false (Heap.SameBut.refl a s.heap) ?_)
  unfold stepT
  rw[if_pos ((mem k).mpr hq)]
  exact hS
 ·dsimp only
  refine wpAny_bind (wpAny_setState_of ho hd hf ?_)
  dsimp only
  rw[if_pos (show (t.put j).1.plain=true from hpl)]
  refine wpAny_bind (by_value hk ?_)
  simp only[if_true,Bool.not_false,Bool.true_and]
  obtain⟨T1,ep1,bl⟩:=X.tb.put (h:=HK P w k) hj jm hw
  rw[ep1]
  have m1:(t.put j).1.mask=t.mask:=rfl
  have l1:(t.put j).1.led=b:=hled
  have p1:(t.put j).1.plain=true:=hpl
  have mv:(t.put j).1.place.size=es.size+1:=by
   rw[T1.len]
   simp only[List.length_append,List.length_cons,List.length_take,List.length_drop,List.length_map,Array.length_toList]
   rw[List.length_map,Array.length_toList] at bl
   lia
  have dm:(t.put j).1.dummies = #[]:=T1.nd
  rw[List.length_map,Array.length_toList] at bl
  generalize hp:SetTable.below t.place j=p at T1 bl ep1
  generalize ht1:(t.put j).1=t1 at T1 m1 l1 p1 mv dm
  have le:(SetTable.insertAt es p (HK P w k,Value.ref c)).toList=(prs.take p++(c,k)::prs.drop p).map fun q=>(HK P w q.2,Value.ref q.1):=by
   rw[ins_list bl,X.e,List.map_append,List.map_cons,List.map_take,List.map_drop]
  have sz:(SetTable.insertAt es p (HK P w k,Value.ref c)).size=es.size+1:=by
   rw[← Array.length_toList,le]
   simp only[List.length_map,List.length_append,List.length_cons,List.length_take,List.length_drop]
   rw[X.len]
   lia
  have pm1:(prs.take p++(c,k)::prs.drop p).Perm (ks++[(c,k)]):=by
   refine List.perm_middle.trans ?_
   rw[List.take_append_drop]
   exact ((pm.cons _).trans (List.perm_append_singleton _ _).symm)
  have nd1:((prs.take p++(c,k)::prs.drop p).map (·.2)).Nodup:=by
   refine ((List.perm_middle (l₁:=prs.take p) (l₂:=prs.drop p) (a:=(c,k))).map (·.2)).nodup_iff.mpr ?_
   rw[List.take_append_drop,List.map_cons,List.nodup_cons]
   refine⟨fun z=>?_,ndp⟩
   obtain⟨q,h1,h2⟩:=List.mem_map.mp z
   exact hq q h1 h2
  have hT1:TbT t1 ((SetTable.insertAt es p (HK P w k,Value.ref c)).toList.map (·.1)):=by
   rw[ins_list bl,List.map_append,List.map_cons,List.map_take,List.map_drop]
   exact T1
  have ns:es.size < 63:=by
   rw[← X.len,pm.length_eq]
   exact room
  have rm:es.size+1<=t.mask:=by
   rcases X.tb.mq with e | e | e <;> rw[e] at nf ⊢ <;> lia
  have X1:Ent6 P w s.heap (SetTable.insertAt es p (HK P w k,Value.ref c)) t1 (prs.take p++(c,k)::prs.drop p):=by
   refine⟨le,fun q hq'=>?_,hT1,by rw[sz,m1]; exact rm⟩
   rcases List.mem_cons.mp (List.perm_middle.mem_iff.mp hq') with z | z
   ·rw[z]
    exact hk
   ·rw[List.take_append_drop] at z
    exact X.k q z
  generalize SetTable.insertAt es p (HK P w k,Value.ref c)=es1 at le sz hT1 X1 ⊢
  obtain⟨g1,X1',fin⟩:=setT_stored (b:=b) ho hx hd l1 p1 X1 nd1 pm1
  have es0:stepT ks (c,k)=ks++[(c,k)]:=by
   unfold stepT
   rw[if_neg (fun z=>by obtain⟨q,h1,h2⟩:=(mem k).mp z; exact hq q h1 h2)]
  rw[es0] at h
  have sb1:=Heap.SameBut.update s.heap a (Obj.putSet es1 t1)
  refine wpAny_bind (wpAny_storeSet_of ho hd ?_ (by rw[sz]; exact Nat.le_trans (show es.size+1<=1000 by lia) (by decide)))
  have tf:t1.tooFull=decide ((es.size+1) * 5 ≥ t.mask * 3):=by
   unfold SetTable.tooFull SetTable.fill
   rw[mv,dm,m1]
   rfl
  rw[tf]
  by_cases z:(es.size+1) * 5 ≥ t.mask * 3
  case neg =>
   rw[decide_eq_false z]
   simp only[Bool.false_eq_true,if_false]
   exact wpAny_pure (h _ true sb1 (fin (by rw[sz,m1]; lia)))
  rw[decide_eq_true z]
  simp only[if_true]
  obtain⟨m2,hm2,er,hs2⟩:∃ m2,Msk m2/\SetTable.sizeAbove (SetTable.grown (es.size+1)) - 1=m2/\(es.size+1) * 5 < m2 * 3:=by
   rcases X.tb.mq with e | e | e
   ·have:es.size=4:=by rw[e] at nf z; lia
    exact⟨31,.inr (.inl rfl),by rw[this]; decide,by lia⟩
   ·have:es.size=18:=by rw[e] at nf z; lia
    exact⟨127,.inr (.inr rfl),by rw[this]; decide,by lia⟩
   ·rw[e] at z
    lia
  refine wpAny_bind ?_
  unfold setRelay
  have hf1:t1.fits es1.size=true:=by
   have:=hT1.fits (by rw[List.length_map,Array.length_toList,sz,m1]; exact rm)
   rwa [List.length_map,Array.length_toList] at this
  refine wpAny_bind (wpAny_setState_of g1 rfl hf1 ?_)
  dsimp only
  have sa:¬ SetTable.sizeAbove (SetTable.grown (es.size+1)) > sizeLine:=by
   have:SetTable.sizeAbove (SetTable.grown (es.size+1))<=128:=by rcases hm2 with e | e | e <;> rw[e] at er <;> lia
   exact Nat.not_lt.mpr (Nat.le_trans this (by decide))
  rw[if_neg sa]
  obtain⟨t2,order,e2,pr,mm,ll,pp,T2⟩:=laid_ok (fi:=t1.finger) (mv:=t1.movedTo m2) (ld:=t1.led) (pl:=t1.plain) hm2 es1 (by rw[sz]; lia)
  have er':t1.relaid (es1.map (·.1)) (SetTable.grown (es.size+1))=some (t2,order):=by
   unfold SetTable.relaid
   rw[er]
   exact e2
  rw[er']
  generalize he2:order.filterMap (es1[·]?)=es2 at pr T2
  have sz2:es2.size=es1.size:=by rw[← Array.length_toList,pr.length_eq,Array.length_toList]
  refine wpAny_bind (show wpAny _ _ (if ((order.filterMap (es1[·]?)).size != es1.size)=true then _ else _) _ _ _ from ?_)
  rw[he2,sz2]
  rw[if_neg (by simp)]
  refine wpAny_pure ?_
  dsimp only
  obtain⟨prs2,q1,q2⟩:=map_perm pr X1.e
  have X2:Ent6 P w (s.heap.update a (Obj.putSet es1 t1)) es2 t2 prs2:=⟨q2,fun p' hp'=>X1'.k p' (q1.mem_iff.mp hp'),T2,by rw[sz2,sz,mm]; lia⟩
  obtain⟨_,_,fin2⟩:=setT_stored (b:=b) g1 hx rfl (ll.trans l1) (pp.trans p1) X2 ((q1.map (·.2)).nodup_iff.mpr nd1) (q1.trans pm1)
  refine wpAny_storeSet_of g1 rfl ?_ (by rw[sz2,sz]; exact Nat.le_trans (show es.size+1<=1000 by lia) (by decide))
  exact wpAny_pure (h _ true (sb1.trans (Heap.SameBut.update _ a _)) (fin2 (by rw[sz2,sz,mm]; exact hs2)))
end
end L2
namespace L2
open PySem PySem.Spec PyProof.Rows
section
variable {P:Program} {w:World}
theorem TKey.at {h h':Heap} {k:List Int} {c:Addr} (x:TKey P w h k c) (e:∀ o,h.get? c=some o->h'.get? c=some o):TKey P w h' k c:=by
 obtain⟨o,items,n,ho,r⟩:=x
 exact⟨o,items,n,e o ho,r⟩
theorem items_of:∀ {vs:List Value} {ns:List Int},IntsAre vs ns->ItemsAre (intKind P w) ns vs
 | _,_,.nil=>.nil
 | _,_,.cons n t r=>.cons (intKind_is _ _ _ _) (items_of r)
theorem TupAt.key {h:Heap} {p:Addr × List Int} (x:TupAt h p):TKey P w h p.2 p.1:=by
 obtain⟨its,⟨o,ho,hc,n,hd⟩,hi⟩:=x
 exact⟨o,its.toArray,n,ho,hc,hd,items_of hi⟩
theorem SetT.keep {b:Bool} {h h':Heap} {a:Addr} {ks:List (Addr × List Int)} (hS:SetT P w b h a ks) (hk:∀ o,h.get? a=some o->h'.get? a=some o) (hp:∀ p∈ks,∀ o,h.get? p.1=some o->h'.get? p.1=some o):SetT P w b h' a ks:=by
 obtain⟨o,es,ep,t,prs,ho,hx,hd,hled,hpl,X,nf,ndp,pm⟩:=hS
 exact⟨o,es,ep,t,prs,hk o ho,hx,hd,hled,hpl,⟨X.e,fun p m=>(X.k p m).at (hp p (pm.mem_iff.mp m)),X.tb,X.r⟩,nf,ndp,pm⟩
noncomputable def onceT (ps:List (Addr × List Int)):List (Addr × List Int):=ps.foldl stepT []
theorem onceT_snoc (ps:List (Addr × List Int)) (p:Addr × List Int):onceT (ps++[p])=stepT (onceT ps) p:=by
 unfold onceT
 rw[List.foldl_append]
 rfl
theorem stepT_sub {ks:List (Addr × List Int)} {p x:Addr × List Int} (h:x∈stepT ks p):x∈ks∨x=p:=by
 unfold stepT at h
 split at h
 ·exact .inl h
 ·rcases List.mem_append.mp h with h | h
  ·exact .inl h
  ·exact .inr (List.mem_singleton.mp h)
theorem stepT_len (ks:List (Addr × List Int)) (p:Addr × List Int):(stepT ks p).length<=ks.length+1:=by
 unfold stepT
 split
 ·exact Nat.le_succ _
 ·rw[List.length_append]
  exact Nat.le_refl _
theorem foldT_sub:∀ (ps ks:List (Addr × List Int)) {x:Addr × List Int},x∈ps.foldl stepT ks->x∈ks∨x∈ps
 | [],_,_,h=>.inl h
 | p::ps,ks,x,h=>by
  rcases foldT_sub ps (stepT ks p) h with h | h
  ·rcases stepT_sub h with h | h
   ·exact .inl h
   ·exact .inr (by rw[h]; exact List.mem_cons_self)
  ·exact .inr (List.mem_cons_of_mem _ h)
theorem onceT_sub {ps:List (Addr × List Int)} {x:Addr × List Int} (h:x∈onceT ps):x∈ps:=by
 rcases foldT_sub ps [] h with h | h
 ·cases h
 ·exact h
theorem foldT_len:∀ (ps ks:List (Addr × List Int)),(ps.foldl stepT ks).length<=ks.length+ps.length
 | [],_=>Nat.le_refl _
 | p::ps,ks=>by
  have h1:=foldT_len ps (stepT ks p)
  have h2:=stepT_len ks p
  rw[List.foldl_cons,List.length_cons]
  lia
theorem onceT_len (ps:List (Addr × List Int)):(onceT ps).length<=ps.length:=by
 have:=foldT_len ps []
 rw[List.length_nil,Nat.zero_add] at this
 exact this
theorem foldT_nd:∀ (ps ks:List (Addr × List Int)),(ks.map (·.2)).Nodup->((ps.foldl stepT ks).map (·.2)).Nodup
 | [],_,h=>h
 | p::ps,ks,h=>by
  refine foldT_nd ps _ ?_
  unfold stepT
  split
  ·exact h
  ·rename_i z
   rw[List.map_append]
   refine List.nodup_append.mpr ⟨h,by simp,fun a ha b hb e=>z ?_⟩
   rw[List.map_cons,List.map_nil,List.mem_singleton] at hb
   rw[← hb,← e]
   exact ha
theorem foldT_mem:∀ (ps ks:List (Addr × List Int)) (k:List Int),k∈(ps.foldl stepT ks).map (·.2) ↔ k∈ks.map (·.2)∨k∈ps.map (·.2)
 | [],ks,k=>by simp
 | p::ps,ks,k=>by
  rw[List.foldl_cons,foldT_mem ps,List.map_cons,List.mem_cons]
  unfold stepT
  split
  ·rename_i z
   constructor
   ·rintro (h | h)
    ·exact .inl h
    ·exact .inr (.inr h)
   ·rintro (h | h | h)
    ·exact .inl h
    ·exact .inl (by rw[h]; exact z)
    ·exact .inr h
  ·rw[List.map_append,List.mem_append,List.map_cons,List.map_nil,List.mem_singleton,or_assoc]
end
section
variable {P:Program} {w:World} {A:Around} {R:Result->Shared->Prop} {I:Addr} {fp wr:List Addr} {G:Array GenState->Array GenState->Prop} {Pv:Nat->Value->Prop} {St:Nat->Shared->Prop} {b:Bool}
theorem set_loopT {ps:List (Addr × List Int)} (W:WalksS P w A.in1 I fp wr G ps.length Pv St) (S:Addr) (hu:A.units+1 < cLine) (hS:S ∉ fp) (hc:∀ p∈ps,p.1 ∉ wr) (hv:∀ (i:Nat) v,Pv i v->∃ p,ps[i]? = some p/\v = .ref p.1) (hb:ps.length < 63) :
  ∀ (k i:Nat) (s:Shared),ps.length - i=k->i<=ps.length->St i s->SetT P w b s.heap S (onceT (ps.take i))->(∀ p∈ps,TKey P w s.heap p.2 p.1)->(∀ s',Moved (S::wr) G s s'->SetT P w b s'.heap S (onceT ps)->R (.ok (.ret .none)) s') →
   codeAny (model P w) A (.builtin "set.update.loop" ⟨[.ref S,.ref I],[]⟩) R s:=by
 have nw:S ∉ wr:=fun z=>hS (W.sub _ z)
 have sub:∀ x∈wr,x∈S::wr:=fun x hx=>List.mem_cons_of_mem _ hx
 have tk:∀ {i:Nat} {p:Addr × List Int},p∈onceT (ps.take i)->p∈ps:=fun h=>List.mem_of_mem_take (onceT_sub h)
 intro k
 induction k with
 | zero =>
  intro i s hk hi st hs ht hR
  obtain rfl:i=ps.length:=by lia
  refine codeAny_builtin F.entry_set_update_loop ?_
  rw[Around.under_plainId F.plain_set_update_loop _]
  refine (show wpAny _ A.in1 (pyNext (.ref I) >>= _) _ _ s from wpAny_bind (W.done s _ _ st fun s' hm=>?_))
  rw[List.take_length] at hs
  exact (show wpAny _ A.in1 (ret Value.none) _ _ s' from wpAny_pure (hR s' (hm.mono sub) (hs.keep (fun o e=>hm.heap S o nw e) fun p m o e=>hm.heap p.1 o (hc p (onceT_sub m)) e)))
 | succ k ih =>
  intro i s hk hi st hs ht hR
  have lt:i < ps.length:=by lia
  refine codeAny_builtin F.entry_set_update_loop ?_
  rw[Around.under_plainId F.plain_set_update_loop _]
  refine (show wpAny _ A.in1 (pyNext (.ref I) >>= _) _ _ s from wpAny_bind (W.item i s _ _ lt st fun v s' hP st' hm=>?_))
  obtain⟨p,hp,rfl⟩:=hv i v hP
  have mp:p∈ps:=List.mem_of_getElem? hp
  have ht':∀ p∈ps,TKey P w s'.heap p.2 p.1:=fun p m=>(ht p m).at fun o e=>hm.heap p.1 o (hc p m) e
  have hs':=hs.keep (h':=s'.heap) (fun o e=>hm.heap S o nw e) fun p m o e=>hm.heap p.1 o (hc p (tk m)) e
  have room:(onceT (ps.take i)).length < 63:=by
   have:=onceT_len (ps.take i)
   rw[List.length_take] at this
   lia
  refine (show wpAny _ A.in1 (holding [Value.ref p.1] (setAdd S (.ref p.1)) >>= _) _ _ s' from wpAny_bind (wpAny_holding ?_))
  unfold setAdd
  refine wpAny_holding (wpAny_bind (wpAny_pyHash_tuple (knd:=intKind P w) (ks:=p.2) hu (ht' p mp) ?_))
  refine set_addT (s:={ s' with toks:=s'.toks+(p.2.length+1) }) (c:=p.1) (k:=p.2) hu hs' (ht' p mp) room fun h' r sb hn=>?_
  have en:onceT (ps.take (i+1))=stepT (onceT (ps.take i)) (p.1,p.2):=by
   rw[List.take_add_one,hp]
   exact onceT_snoc _ _
  rw[← en] at hn
  obtain⟨o,es,ep,t,prs,ho,hx,hd,_⟩:=id hs'
  refine wpAny_pure ⟨plainId_quiet F.plain_set_update_loop _,ih (i+1) _ (by lia) lt (W.frame _ s' _ _ st' (Nat.le_add_right _ _) fun x hx o e=>?_) hn (fun q m=>(ht' q m).keep ho hd sb) fun s'' hm'' hs''=>?_⟩
  ·rw[sb.2 x (fun z:x=S=>hS (by rw[← z]; exact hx))]
   exact e
  ·refine hR s'' (Moved.trans W.gtrans ((hm.mono sub).then_heap (Nat.le_add_right _ _) fun x o hx e=>?_) hm'') hs''
   rw[sb.2 x (fun z:x=S=>hx (by rw[z]; exact List.mem_cons_self))]
   exact e
end
end L2
namespace L2
open PySem PySem.Spec PyProof.Rows
section
variable {P:Program} {w:World} {A:Around} {E:Value->Shared->Prop} {s:Shared}
theorem ris_nil:Ris #[]:=by
 unfold Ris
 simp
set_option maxRecDepth 100000 in
set_option maxHeartbeats 3200000 in
theorem set_of_listT {l:Addr} {ps:List (Addr × List Int)} {Q:Value->Shared->Prop} (hh:A.handled=none) (hu:A.units+6 < cLine) (hl:s.heap.IsList l (ps.map fun p=>Value.ref p.1).toArray) (ht:∀ p∈ps,TKey P w s.heap p.2 p.1) (hb:ps.length < 63)
  (h:∀ (h':Heap) (tk:Nat),SetT P w (ledB w) h' s.heap.objs.size (onceT ps)->(∀ b o,b < s.heap.objs.size->s.heap.get? b=some o->h'.get? b=some o)->Q (.ref s.heap.objs.size) { s with heap:=h',toks:=tk }) :
  wpAny (model P w) A (call (.type "set") [.ref l]) Q E s:=by
 obtain⟨c,tl,hmro⟩:=PySem.F.called_set.mro
 have hmade:=PySem.F.called_set.made
 have hsub:=PySem.F.called_set.sub
 refine wpAny_call (codeAny_of_tree (show wpAny _ _ (callAny (.type "set") _) _ _ _ from wpAny_pure ⟨Code.quiet_builtin _ (by decide+kernel),codeAny_builtin PySem.F.entry_type_call ?_⟩))
 rw[Around.under_plain (weight_type_call_type "set" [.ref l] []) rfl]
 have h1:=PySem.F.called_set.notType
 have h2:=PySem.F.called_set.canCreate
 have hct:=PySem.F.typeCall_set_1 (.ref l)
 repeat (any_goals (first | assumption | wp_step))
 refine codeAny_mono (set_new (.ref l) (E:=E) (Q₁:=fun obj s₁=>obj = .ref s.heap.objs.size/\s₁={ s with heap:=s.heap.push (newS w) }) ⟨rfl,rfl⟩) fun r s₁ hr=>?_
 cases r with
 | error e=>exact hr
 | ok fl =>
  cases fl with
  | ret obj =>
   obtain⟨rfl,rfl⟩:=hr
   have gS:(s.heap.push (newS w)).get? s.heap.objs.size=some (newS w):=Heap.get?_push_size _ rfl
   have hT:Shared.TypeIs { s with heap:=s.heap.push (newS w) } (.ref s.heap.objs.size) "set":=⟨_,gS,rfl⟩
   have hli:=PySem.F.called_set.init.lookup
   have hbi:=PySem.F.called_set.init.bind (.ref s.heap.objs.size)
   repeat (any_goals (first | assumption | wp_step))
   refine codeAny_mono (codeAny_call_builtin (R:=wants (fun r s₂=>r = .none/\∃ h' tk,s₂={ s with heap:=h',toks:=tk }/\SetT P w (ledB w) h' s.heap.objs.size (onceT ps) ∧
     (∀ b o,b < s.heap.objs.size->s.heap.get? b=some o->h'.get? b=some o)) E) PySem.F.called_set.init.plain PySem.F.entry_set_init (check_set_init_1 hT ?_)) fun r₂ s₂ hr₂=>?_
   ·obtain⟨ol,hol,hcl,nl,hdl⟩:=hl
    obtain⟨ocls,odict,odata,oslots⟩:=ol
    simp only at hcl hdl
    subst hcl hdl
    have hol':(s.heap.push (newS w)).get? l=some { cls:=.type "list",dict:=odict,data:=.seq (ps.map fun p=>Value.ref p.1).toArray nl,slots:=oslots }:=Heap.get?_push_of_some _ hol
    have hsls:=PySem.F.sub_list_set
    have hslf:=PySem.F.sub_list_frozenset
    have hne:(Value.type "list" == Value.type "dict")=false:=by decide
    have hl1:(s.heap.push (newS w)).IsList l (ps.map fun p=>Value.ref p.1).toArray:=⟨_,hol',rfl,nl,rfl⟩
    have gS':(s.heap.push (newS w)).get? s.heap.objs.size=some { cls:=.type "set",dict:=none,data:=.set #[] 0 (.fresh 0 0 (ledB w)) }:=gS
    unfold Builtin.«set.__init__» noKeywords Builtin.Frozenset.updateFrom; generalize hPI:pyIter=PI
    wp_walk
    subst hPI
    refine wpAny_pyIter_list hl1 (wpAny_bind (wpAny_runValue ?_))
    have hlS:l < s.heap.objs.size:=Heap.lt_size hol
    have hh3:A.in1.in1.in1.handled=none:=by simp [hh]
    have hu5:A.in1.in1.units+1 < cLine:=by
     show A.units+1+1+1 < cLine
     lia
    have hneI:l≠(s.heap.push (newS w)).objs.size:=by
     rw[Heap.size_push]
     exact Nat.ne_of_lt (Nat.lt_succ_of_lt hlS)
    have hSf:s.heap.objs.size ∉ [(s.heap.push (newS w)).objs.size,l]:=by
     rw[Heap.size_push,List.mem_cons,List.mem_singleton]
     rintro (z | z)
     ·exact absurd z (Nat.ne_of_lt (Nat.lt_succ_self _))
     ·exact absurd z (Nat.ne_of_gt hlS)
    have hlt:∀ p∈ps,p.1 < s.heap.objs.size:=fun p m=>by
     obtain⟨_,_,_,e,_⟩:=ht p m
     exact Heap.lt_size e
    have sz2:(s.heap.push (newS w)).objs.size=s.heap.objs.size+1:=Heap.size_push _ _
    have hw:(ps.map fun p=>Value.ref p.1).toArray.size=ps.length:=by rw[List.size_toArray,List.length_map]
    have W:=(Walks.list (prog:=P) (w:=w) hh3 (s.heap.push (newS w)).objs.size l hneI (ps.map fun p=>Value.ref p.1).toArray).toS
    rw[hw] at W
    refine set_loopT (b:=ledB w) (ps:=ps) W s.heap.objs.size hu5 hSf (fun p m z=>?_) (fun i v hv=>?_) hb (ps.length - 0) 0 _ (by lia) (Nat.zero_le _)
     ⟨⟨_,Heap.get?_push_size _ rfl,rfl,rfl⟩,(hl1.push _)⟩ ?hS0 (fun p m=>(ht p m).at fun o e=>Heap.get?_push_of_some _ (Heap.get?_push_of_some _ e)) ?hR
    ·have:=hlt p m
     rw[List.mem_singleton.mp z,sz2] at this
     exact absurd this (Nat.not_lt.mpr (Nat.le_succ _))
    ·have hv':(ps.map fun p=>Value.ref p.1)[i]? = some v:=by rw[← List.getElem?_toArray]; exact hv
     rw[List.getElem?_map] at hv'
     obtain⟨p,h1,h2⟩:=Option.map_eq_some_iff.mp hv'
     exact⟨p,h1,h2.symm⟩
    case hS0=>exact⟨newS w,#[],0,_,[],Heap.get?_push_of_some _ gS,⟨rfl,rfl,rfl⟩,rfl,rfl,rfl,⟨rfl,fun _ h=>(by cases h),⟨rfl,ris_nil,fun j h=>(by simp [SetTable.fresh] at h),rfl,.inl rfl,fun p h=>(by simp [SetTable.fresh] at h)⟩,Nat.zero_le _⟩,(show 0 < 21 by decide),List.nodup_nil,.refl _⟩
    case hR =>
     intro s' hm hS'
     obtain⟨h',g',d',tk',os'⟩:=s'
     obtain rfl:g'=s.gens:=hm.gens
     obtain rfl:d'=s.drawn:=hm.drawn
     obtain rfl:os'=s.os:=hm.os
     refine (show wpAny _ _ _ _ _ _ from wpAny_pure (show wpAny _ _ (ret Value.none) _ _ _ from wpAny_pure ⟨rfl,h',tk',rfl,hS',fun b o hb e=>?_⟩))
     refine hm.heap b o ?_ (Heap.get?_push_of_some _ (Heap.get?_push_of_some _ e))
     rw[List.mem_cons,List.mem_singleton,Heap.size_push]
     rintro (z | z)
     ·exact absurd z (Nat.ne_of_lt hb)
     ·exact absurd z (Nat.ne_of_lt (Nat.lt_succ_of_lt hb))
   ·cases r₂ with
    | error e=>exact hr₂
    | ok fl₂ =>
     cases fl₂ with
     | ret r =>
      obtain⟨rfl,h',tk,rfl,hS',hk'⟩:=hr₂
      repeat (any_goals (first | assumption | wp_step))
      exact h h' tk hS' hk'
     | _=>exact hr₂.elim
  | _=>exact hr.elim
end
end L2
namespace L2
open PySem PySem.Spec PyProof.Rows
section
variable {P:Program} {w:World} {A:Around} {E:Value->Shared->Prop} {s:Shared} {S:Addr}
theorem iter_setT {b:Bool} {ks:List (Addr × List Int)} {Q:Value->Shared->Prop} (hh:A.handled=none) (hb:b=ledB w) (hS:SetT P w b s.heap S ks) (hz:ks.length<=sizeLine)
  (h:∀ (I:Addr) (fp:List Addr) (n:Nat) (vs:List Value) (ns:List (Addr × List Int)) (St:Nat->Heap->Prop) (s':Shared),Walks P w A I fp [I] n (fun i v=>vs[i]? = some v) St->St 0 s'.heap->vs=ns.map (fun p=>Value.ref p.1)->ns.Perm ks->vs.length=n->(∀ x∈fp,x=S∨s.heap.objs.size<=x)->s.heap.objs.size<=I →
   s'.os=s.os->s'.gens=s.gens->(∀ b o,s.heap.get? b=some o->s'.heap.get? b=some o)->Q (.ref I) s'):wpAny (model P w) A (pyIter (.ref S)) Q E s:=by
 obtain⟨o,es,ep,t,prs,ho,hx,hd,hled0,hpl0,X,nf,ndp,hp⟩:=hS
 have hf:t.fits es.size=true:=by
  have:=X.tb.fits (by rw[List.length_map,Array.length_toList]; exact X.r)
  rwa [List.length_map,Array.length_toList] at this
 have hi:es.toList.map (·.2)=prs.map (fun p=>Value.ref p.1):=by rw[X.e,List.map_map]; rfl
 have hT:s.TypeIs (.ref S) "set":=⟨o,ho,hx.1⟩
 have hlt:S < s.heap.objs.size:=Heap.lt_size ho
 refine wpAny_pyIter_slot hT PySem.F.slot_set_iter (wpAny_call_entry PySem.F.slot_set_iter hT entry_set_iterX ?_ (PySem.F.args_set_iter_1 _))
 refine (show wpAny _ _ (Builtin.Frozenset.sizeOf S >>= _) _ _ s from ?_)
 unfold Builtin.Frozenset.sizeOf
 refine wpAny_bind (wpAny_bind (wpAny_setEntries_of ho hd hf (wpAny_pure ?_)))
 unfold setDrawn setsByText
 refine wpAny_bind (wpAny_bind (wpAny_setState_of ho hd hf ?_))
 dsimp only
 refine wpAny_bind (wpAny_bind (wpAny_askSetting (wpAny_pure (wpAny_pure ?_))))
 have hps:t.place.size=es.size:=by
  simp only[SetTable.fits,Bool.and_eq_true,beq_iff_eq] at hf
  exact hf.1
 have hlen:(es.toList.map (·.2)).length=es.size:=by rw[List.length_map,Array.length_toList]
 have hez:es.size<=sizeLine:=by
  have h1:=X.len
  have h2:=hp.length_eq
  lia
 have start:∀ (vs:List Value) (ns':List (Addr × List Int)) (St:Nat->Heap->Prop),Walks P w A s.heap.objs.size [s.heap.objs.size,S] [s.heap.objs.size] es.size (fun i v=>vs[i]? = some v) St->(∀ h,SIt h s.heap.objs.size S (.int (0:Nat) 0) 0 es.size ep->h.get? S=some o->St 0 h) →
   vs=ns'.map (fun p=>Value.ref p.1)->ns'.Perm ks->vs.length=es.size->wpAny (model P w) A.in1 (do
    let first ← pure (rawInt 0)
    let e ← setEpoch S
    let r ← newFields "set_iterator" [first,rawInt 0,Value.ref S,rawInt (es.size:Int),rawInt (e:Int)]
    ret r) (fun fin s'=>∃ v,fin=Fin.done (Flow.ret v)/\∃ T' r,s'.TypeIs v T'/\typeLookup (Value.type T') (Str.ofString "__next__")=pure (some r)/\Q v s') E s:=fun vs ns' St W hst hi' hp' hl'=>by
  refine wpAny_bind (wpAny_pure (wpAny_bind (wpAny_setEpoch_of ho hd hf (wpAny_bind (wpAny_newObj_type (wpAny_pure ?_))))))
  have g:(s.heap.push { cls:=.type "set_iterator",data:=.fields [rawInt 0,rawInt 0,Value.ref S,rawInt (es.size:Int),rawInt (ep:Int)].toArray }).get? s.heap.objs.size=some { cls:=.type "set_iterator",data:=.fields [rawInt 0,rawInt 0,Value.ref S,rawInt (es.size:Int),rawInt (ep:Int)].toArray }:=Heap.get?_push_size _ rfl
  refine⟨_,rfl,"set_iterator",_,⟨_,g,rfl⟩,slot_setit_next.lookup,?_⟩
  refine h s.heap.objs.size [s.heap.objs.size,S] es.size vs ns' St _ W (hst _ g (Heap.get?_push_of_some _ ho)) hi' hp' hl' (fun x hx'=>?_) (Nat.le_refl _) rfl rfl fun b' o' e=>Heap.get?_push_of_some _ e
  rcases List.mem_cons.mp hx' with rfl | hx'
  ·exact .inr (Nat.le_refl _)
  ·exact .inl (List.mem_singleton.mp hx')
 have hne:S≠s.heap.objs.size:=Nat.ne_of_lt hlt
 cases hB:w.params.followText "set-order" with
 | true =>
  refine wpAny_ite_false (decide_eq_false (show ¬ (!w.params.followText "set-order" && (!t.plain && decide (es.size > 1)))=true by rw[hB]; exact Bool.false_ne_true)) ?_
  have pp:=pick_perm (w.params.setOrder S ep) es
  obtain⟨ms,h2,h1⟩:=map_perm (pp.map (·.2)) hi
  exact start _ ms _ (walk_text hh hne hB hd hf) (fun h' q1 q2=>⟨⟨0,0,q1⟩,q2⟩) h1 (h2.trans hp) (by rw[List.length_map,pp.length_eq,Array.length_toList])
 | false =>
  have hled:t.led=true:=by
   rw[hled0,hb]
   unfold ledB
   rw[hB]
   rfl
  refine wpAny_ite_false (decide_eq_false (show ¬ (!w.params.followText "set-order" && (!t.plain && decide (es.size > 1)))=true by rw[hpl0]; simp)) ?_
  exact start _ prs _ (walk_plain hh hne hB hd hf hled (.inl hpl0) X.tb.ris) (fun h' q1 q2=>⟨⟨0,q1⟩,q2⟩) hi hp hlen
theorem collect_setT {ks:List (Addr × List Int)} {Q:List Value->Shared->Prop} (hh:A.handled=none) (hS:SetT P w (ledB w) s.heap S ks) (hz:ks.length<=sizeLine)
  (h:∀ (vs:List Value) (ns:List (Addr × List Int)) (s':Shared),vs=ns.map (fun p=>Value.ref p.1)->ns.Perm ks->s.heap.objs.size<=s'.heap.objs.size->s'.os=s.os->s'.gens=s.gens->(∀ b o,s.heap.get? b=some o->s'.heap.get? b=some o)->Q vs s'):wpAny (model P w) A (collect (.ref S)) Q E s:=by
 obtain⟨o,es,ep,t,prs,ho,hx,_⟩:=id hS
 have hlt:S < s.heap.objs.size:=Heap.lt_size ho
 have hSl:s.heap.objs.size≠S:=Nat.ne_of_gt hlt
 unfold collect
 refine wpAny_bind (wpAny_runValue (codeAny_builtin PySem.F.entry_proto_collect ?_))
 rw[Around.under_plainId PySem.F.plain_proto_collect _]
 refine (show wpAny _ A.in1 (newList [] >>= fun l=>again (.builtin "list.__iadd__" ⟨[l,.ref S],[]⟩)) _ _ s from wpAny_bind (wpAny_newObj_type ?_))
 refine wpAny_pure ⟨plainId_quiet PySem.F.plain_list_iadd _,codeAny_builtin PySem.F.entry_list_iadd ?_⟩
 rw[Around.under_plainId PySem.F.plain_list_iadd _]
 generalize hN:s.heap.push { cls:=.type "list",data:=.seq ([]:List Value).toArray }=h1
 have gL:h1.get? s.heap.objs.size=some { cls:=.type "list",data:=.seq ([]:List Value).toArray }:=by rw[← hN]; exact Heap.get?_push_size _ rfl
 have k1:∀ b o,s.heap.get? b=some o->h1.get? b=some o:=fun b o e=>by rw[← hN]; exact Heap.get?_push_of_some _ e
 have sz1:h1.objs.size=s.heap.objs.size+1:=by rw[← hN]; exact Heap.size_push _ _
 have hT:Shared.TypeIs { s with heap:=h1 } (.ref S) "set":=⟨o,k1 _ _ ho,hx.1⟩
 refine (show wpAny _ A.in1 (Builtin.List.listExtendWith (.ref s.heap.objs.size) (.ref S) (.ref s.heap.objs.size)) _ _ { s with heap:=h1 } from ?_)
 unfold Builtin.List.listExtendWith; refine wpAny_bind (wpAny_typeOf hT ?_)
 have q1:Builtin.List.listSameRef (.ref s.heap.objs.size) (.ref S)=false:=by simp [Builtin.List.listSameRef,hSl]
 have q2:(Value.type "set" == Value.type "list")=false:=by decide
 have q3:(Value.type "set" == Value.type "tuple")=false:=by decide
 simp only[q1,q2,q3,Bool.or_false,Bool.false_eq_true,if_false]
 refine wpAny_bind (iter_setT (s:={ s with heap:=h1 }) hh rfl (hS.keep (fun o e=>k1 S o e) fun p _ o e=>k1 p.1 o e) hz fun I fp n vs ns St s2 W st hi hp hl hfp hI os2 gs2 k2=>?_)
 have gL2:=k2 _ _ gL
 have hTs:s2.TypeIs (.ref S) "set":=⟨o,k2 _ _ (k1 _ _ ho),hx.1⟩
 have hLf:s.heap.objs.size ∉ fp:=fun z=>by
  rcases hfp _ z with q | q
  ·exact hSl q
  ·have q':h1.objs.size<=s.heap.objs.size:=q
   rw[sz1] at q'
   exact absurd q' (Nat.not_succ_le_self _)
 have hz':n<=sizeLine:=by
  have e2:=hp.length_eq
  rw[hi,List.length_map] at hl
  lia
 have key:∀ (R:Result->Shared->Prop),(∀ (s':Shared) (c':Nat),s'.heap.get? s.heap.objs.size=some { cls:=.type "list",dict:=none,data:=.seq vs.toArray c',slots:=#[] }->s'.os=s.os->s'.gens=s.gens->(∀ b o,s.heap.get? b=some o->s'.heap.get? b=some o)->R (.ok (.ret (.ref s.heap.objs.size))) s') →
   ∀ (h':Heap) (c tk:Nat),St 0 h'->(∀ b o,b≠s.heap.objs.size->s2.heap.get? b=some o->h'.get? b=some o)->h'.get? s.heap.objs.size=some { cls:=.type "list",data:=.seq #[] c } →
   codeAny (model P w) A (.builtin "list.extend.loop" ⟨[.ref s.heap.objs.size,.ref I,.ref s.heap.objs.size],[]⟩) R { s2 with heap:=h',toks:=tk }:=fun R hR h' c tk st' kp gl=>by
  refine codeAny_extend_loopS W.toS hz' s.heap.objs.size hLf _ n 0 _ #[] c rfl (Nat.zero_le _) st' gl (ItemsOf.nil _) fun s' acc' c' hm gL' hacc=>?_
  have eacc:acc'=vs.toArray:=by
   apply Array.ext_getElem?
   intro j
   have ev:vs.toArray[j]? = vs[j]?:=List.getElem?_toArray
   rw[ev]
   by_cases hj:j < acc'.size
   ·have e:=hacc.2 j acc'[j] (Array.getElem?_eq_getElem hj)
    rw[Array.getElem?_eq_getElem hj]
    exact e.symm
   ·rw[Array.getElem?_eq_none (by lia),List.getElem?_eq_none (by have:=hacc.1; lia)]
  rw[eacc] at gL'
  refine hR s' c' gL' (hm.os.trans os2) (hm.gens.trans gs2) fun b o' e=>?_
  have hbl:b < s.heap.objs.size:=Heap.lt_size e
  refine hm.heap b o' ?_ (kp b o' (Nat.ne_of_lt hbl) (k2 _ _ (k1 _ _ e)))
  rw[List.mem_cons,List.mem_singleton]
  rintro (z | z)
  ·exact absurd z (Nat.ne_of_lt hbl)
  ·have q:h1.objs.size<=I:=hI
   rw[sz1,← z] at q
   exact absurd (Nat.lt_of_lt_of_le hbl (Nat.le_of_succ_le q)) (Nat.lt_irrefl _)
 refine wpAny_bind (wpAny_holding (hint_set hTs ?_))
 have fin:∀ (s':Shared) (c':Nat),s'.heap.get? s.heap.objs.size=some { cls:=.type "list",dict:=none,data:=.seq vs.toArray c',slots:=#[] }->s'.os=s.os->s'.gens=s.gens->(∀ b o,s.heap.get? b=some o->s'.heap.get? b=some o) →
   wpAny (model P w) A (load s.heap.objs.size >>= fun o=>match o.data with | .seq xs _=>pure xs.toList | _=>unsupported "internal:collect") Q E s':=fun s' c' g e1 e2 e3=>wpAny_bind (wpAny_load g (wpAny_pure (h vs ns s' hi hp (Nat.le_of_lt (Heap.lt_size g)) e1 e2 e3)))
 refine wpAny_ite_split (fun _=>?_) (fun _=>wpAny_pure ⟨plainId_quiet PySem.F.plain_extend_loop _,key _ (fun s' c' g e1 e2 e3=>fin s' c' g e1 e2 e3) s2.heap _ s2.toks st (fun b o _ e=>e) gL2⟩)
 refine wpAny_bind (wpAny_rule (wpAny_bind (show wpAny _ _ (updateSeq s.heap.objs.size (·.push .none) >>= fun _=>updateSeq s.heap.objs.size (·.pop)) _ _ _ from ?_)))
 refine wpAny_bind (wpAny_updateSeq gL2 rfl ?_)
 have g3:=Heap.get?_update_self (Obj.mapSeq (·.push Value.none)) gL2 rfl
 refine wpAny_updateSeq (hz:=by seq_fits) g3 rfl ?_
 have g4:=Heap.get?_update_self (Obj.mapSeq (·.pop)) g3 rfl
 have oth:∀ b o',b≠s.heap.objs.size->s2.heap.get? b=some o'->((s2.heap.update s.heap.objs.size (Obj.mapSeq (·.push Value.none))).update s.heap.objs.size (Obj.mapSeq (·.pop))).get? b=some o':=fun b o' hb e=>by
  rw[Heap.get?_update_other _ _ (Ne.symm hb),Heap.get?_update_other _ _ (Ne.symm hb)]
  exact e
 exact wpAny_pure ⟨plainId_quiet PySem.F.plain_extend_loop _,key _ (fun s' c' g e1 e2 e3=>fin s' c' g e1 e2 e3) _ _ s2.toks (W.frame 0 _ _ st fun b hb o' e=>oth b o' (fun z=>hLf (by rw[← z]; exact hb)) e) oth g4⟩
end
end L2
namespace L2
open PySem PySem.Spec PyProof.Rows PySem.W
theorem lexLt_irr:∀ (a:List Int),HT.lexLt a a=false
 | []=>rfl
 | x::a=>by rw[HT.lexLt_cons,if_pos rfl]; exact lexLt_irr a
theorem lexLt_asym {a b:List Int} (h:HT.lexLt a b=true):HT.lexLt b a=false:=by
 cases e:HT.lexLt b a with
 | false=>rfl
 | true=>exact absurd (lexLt_trans h e) (by rw[lexLt_irr]; exact Bool.false_ne_true)
theorem lexLe_trans {a b c:List Int} (h1:HT.lexLt b a=false) (h2:HT.lexLt c b=false):HT.lexLt c a=false:=by
 cases e:HT.lexLt c a with
 | false=>rfl
 | true =>
  by_cases q:b=a
  ·rw[q,e] at h2
   cases h2
  ·rw[lexLt_trans e (lexLt_tot q h1)] at h2
   cases h2
theorem lexLe_anti {a b:List Int} (h1:HT.lexLt b a=false) (h2:HT.lexLt a b=false):a=b:=by
 by_cases q:a=b
 ·exact q
 ·rw[lexLt_tot q h2] at h1
  cases h1
section
variable {n:Nat} {v:Nat->List Int} {cmp:Nat->Nat->(Bool->Shared->Prop)->Shared->Prop} {s:Shared}
noncomputable def UpV (v:Nat->List Int) (p:Array Nat) (k:Nat):Prop:=∀ i j,i < j->j < k->HT.lexLt (v (p.getD j 0)) (v (p.getD i 0))=false
noncomputable def DnV (v:Nat->List Int) (p:Array Nat) (k:Nat):Prop:=∀ i j,i < j->j < k->HT.lexLt (v (p.getD i 0)) (v (p.getD j 0))=false
theorem UpV.succ {p:Array Nat} {k:Nat} (h1:1<=k) (h:UpV v p k) (e:HT.lexLt (v (p.getD k 0)) (v (p.getD (k - 1) 0))=false):UpV v p (k+1):=by
 intro i j hij hj
 rcases Nat.lt_or_ge j k with h' | h'
 ·exact h i j hij h'
 ·have:j=k:=by lia
  subst this
  rcases Nat.lt_or_ge i (j - 1) with h2 | h2
  ·exact lexLe_trans (h i (j - 1) h2 (by lia)) e
  ·have:i=j - 1:=by lia
   subst this
   exact e
theorem DnV.succ {p:Array Nat} {k:Nat} (h1:1<=k) (h:DnV v p k) (e:HT.lexLt (v (p.getD (k - 1) 0)) (v (p.getD k 0))=false):DnV v p (k+1):=by
 intro i j hij hj
 rcases Nat.lt_or_ge j k with h' | h'
 ·exact h i j hij h'
 ·have:j=k:=by lia
  subst this
  rcases Nat.lt_or_ge i (j - 1) with h2 | h2
  ·exact lexLe_trans e (h i (j - 1) h2 (by lia))
  ·have:i=j - 1:=by lia
   subst this
   exact e
theorem DnV.same {p p':Array Nat} {k:Nat} (h:DnV v p k) (e:∀ i,v (p'.getD i 0)=v (p.getD i 0)):DnV v p' k:=fun i j hij hj=>by rw[e,e]; exact h i j hij hj
variable (hc:∀ i j,i < n->j < n->∀ C:Bool->Shared->Prop,C (HT.lexLt (v i) (v j)) s->cmp i j C s)
include hc in
theorem ascV {p:Array Nat} (hp:PermN n p) {Q:Nat->Shared->Prop}:∀ (f k:Nat),1<=k->k+f<=n->UpV v p k->(∀ m,k<=m->m<=k+f->UpV v p m->(m=k+f∨HT.lexLt (v (p.getD m 0)) (v (p.getD (m - 1) 0))=true)->Q m s)->(kas_asc p f k).kasWp cmp Q s
 | 0,k,_,_,hu,h=>h k (Nat.le_refl _) (Nat.le_refl _) hu (.inl rfl)
 | f+1,k,h1,hk,hu,h=>by
  show cmp _ _ _ s
  refine hc _ _ (hp.lt (by lia)) (hp.lt (by lia)) _ ?_
  cases e:HT.lexLt (v (p.getD k 0)) (v (p.getD (k - 1) 0)) with
  | true =>
   show KasT.kasWp cmp (if true=true then _ else _) Q s
   rw[if_pos rfl]
   exact h k (Nat.le_refl _) (by lia) hu (.inr e)
  | false =>
   show KasT.kasWp cmp (if false=true then _ else _) Q s
   rw[if_neg Bool.false_ne_true]
   refine ascV hp f (k+1) (by lia) (by lia) (hu.succ h1 e) fun m h2 h3 h4 h5=>h m (by lia) (by lia) h4 ?_
   rcases h5 with z | z
   ·exact .inl (by lia)
   ·exact .inr z
theorem revG_perm {p:Array Nat} (hp:PermN n p) (i k:Nat):PermN n (kas_rev p i k):=by
 have:=mirror_perm p i k ((k - i) / 2)
 exact (Array.perm_iff_toList_perm.mp this).trans hp
theorem revG_same {p:Array Nat} {i0 k:Nat} (h0:i0<=k) (hk:k<=p.size) {c:List Int} (he:∀ i,i0<=i->i < k->v (p.getD i 0)=c) (i:Nat):v ((kas_rev p i0 k).getD i 0)=v (p.getD i 0):=by
 have e:=getElem?_mirror_all (xs:=p) (i:=i0) hk i
 by_cases h:i0<=i/\i < k
 ·rw[if_pos h] at e
  have e':=getD_of (p:=kas_rev p i0 k) e
  rw[e',he _ (by lia) (by lia),he i h.1 h.2]
 ·rw[if_neg h] at e
  rw[getD_of (p:=kas_rev p i0 k) e]
noncomputable def TlV (v:Nat->List Int) (p:Array Nat) (k q:Nat):Prop:=q+1<=k/\∀ i,k - (q+1)<=i->i < k->v (p.getD i 0)=v (p.getD (k - 1) 0)
theorem TlV.zero {p:Array Nat} {k:Nat} (h:1<=k):TlV v p k 0:=⟨h,fun i h1 h2=>by rw[show i=k - 1 by lia]⟩
include hc in
theorem descV {Q:Array Nat × Nat × Nat->Shared->Prop}:∀ (f:Nat) (p:Array Nat) (k q:Nat),PermN n p->1<=k->k+f<=n->DnV v p k->TlV v p k q->(∀ p' m q',PermN n p'->k<=m->m<=k+f->DnV v p' m->TlV v p' m q'->Q (p',m,q') s)->(kas_desc f p k q).kasWp cmp Q s
 | 0,p,k,q,hp,_,_,hu,ht,h=>h p k q hp (Nat.le_refl _) (Nat.le_refl _) hu ht
 | f+1,p,k,q,hp,h1,hk,hu,ht,h=>by
  have nx:∀ p' q',PermN n p'->DnV v p' (k+1)->TlV v p' (k+1) q'->(kas_desc f p' (k+1) q').kasWp cmp Q s:=fun p' q' a b c=>descV f p' (k+1) q' a (by lia) (by lia) b c fun p'' m q'' h2 h3 h4 h5 h6=>h p'' m q'' h2 (by lia) (by lia) h5 h6
  show cmp _ _ _ s
  refine hc _ _ (hp.lt (by lia)) (hp.lt (by lia)) _ ?_
  cases e:HT.lexLt (v (p.getD k 0)) (v (p.getD (k - 1) 0)) with
  | true =>
   show KasT.kasWp cmp (if true=true then _ else _) Q s
   rw[if_pos rfl]
   have hd:=hu.succ h1 (lexLt_asym e)
   by_cases z:q > 0
   ·rw[if_pos z]
    exact nx _ 0 (revG_perm hp _ _) (hd.same (revG_same (by lia) (by rw[hp.size]; lia) ht.2)) (TlV.zero (by lia))
   ·rw[if_neg z]
    exact nx _ 0 hp hd (TlV.zero (by lia))
  | false =>
   show KasT.kasWp cmp (if false=true then _ else _) Q s
   rw[if_neg Bool.false_ne_true]
   show cmp _ _ _ s
   refine hc _ _ (hp.lt (by lia)) (hp.lt (by lia)) _ ?_
   cases e2:HT.lexLt (v (p.getD (k - 1) 0)) (v (p.getD k 0)) with
   | true =>
    show KasT.kasWp cmp (if true=true then _ else _) Q s
    rw[if_pos rfl]
    exact h p k q hp (Nat.le_refl _) (by lia) hu ht
   | false =>
    show KasT.kasWp cmp (if false=true then _ else _) Q s
    rw[if_neg Bool.false_ne_true]
    have eq:=lexLe_anti e e2
    refine nx _ (q+1) hp (hu.succ h1 e2) ⟨by have:=ht.1; lia,fun i h2 h3=>?_⟩
    rw[show k+1 - 1=k from rfl]
    rcases Nat.lt_or_ge i k with h4 | h4
    ·rw[ht.2 i (by lia) h4,eq]
    ·rw[show i=k by lia]
theorem revV_up {p:Array Nat} (hp:PermN n p) {k:Nat} (hk:k<=n) (h:DnV v p k):UpV v (kas_rev p 0 k) k:=by
 intro i j hij hj
 rw[rev_at (by rw[hp.size]; exact hk),rev_at (by rw[hp.size]; exact hk),if_pos hj,if_pos (by lia)]
 exact h (k - 1 - j) (k - 1 - i) (by lia) (by lia)
include hc in
theorem tailV {p:Array Nat} (hp:PermN n p) {k:Nat} (h1:1<=k) (hk:k<=n) (h:DnV v p k) {Q:Nat × Array Nat->Shared->Prop} (hq:∀ m p',PermN n p'->1<=m->m<=n->UpV v p' m->Q (m,p') s):(kas_tail3 k n p).kasWp cmp Q s:=by
 unfold kas_tail3
 rw[KasT.kasWp_bind]
 have hp':=rev_perm hp k
 exact ascV hc hp' (n - k) k h1 (by lia) (revV_up hp hk h) fun m h2 h3 h4 _=>hq m _ hp' (by lia) (by lia) h4
include hc in
theorem partV {p:Array Nat} (hp:PermN n p) {k:Nat} (h1:1<=k) (hk:k < n) (h:DnV v p (k+1)) {Q:Nat × Array Nat->Shared->Prop} (hq:∀ m p',PermN n p'->1<=m->m<=n->UpV v p' m->Q (m,p') s):(kas_descPart k n p).kasWp cmp Q s:=by
 unfold kas_descPart
 rw[KasT.kasWp_bind]
 refine descV hc (n - (k+1)) p (k+1) 0 hp (by lia) (by lia) h (TlV.zero (by lia)) fun p' m q' h2 h3 h4 h5 h6=>?_
 show KasT.kasWp cmp (if q' > 0 then _ else _) Q s
 have:=h6.1
 by_cases z:q' > 0
 ·rw[if_pos z]
  exact tailV hc (revG_perm h2 _ _) (by lia) (by lia) (h5.same (revG_same (by lia) (by rw[h2.size]; lia) h6.2)) hq
 ·rw[if_neg z]
  exact tailV hc h2 (by lia) (by lia) h5 hq
include hc in
theorem countV (h2:2<=n) {p:Array Nat} (hp:PermN n p) {Q:Nat × Array Nat->Shared->Prop} (hq:∀ m p',PermN n p'->1<=m->m<=n->UpV v p' m->Q (m,p') s):(kas_count n p).kasWp cmp Q s:=by
 unfold kas_count
 rw[KasT.kasWp_bind]
 refine ascV hc hp (n - 1) 1 (Nat.le_refl _) (by lia) (fun i j hij hj=>by lia) fun m h3 h4 h5 h6=>?_
 show KasT.kasWp cmp (if (m == n)=true then _ else _) Q s
 by_cases e:(m == n)=true
 ·rw[if_pos e]
  exact hq m p hp h3 (by lia) h5
 ·rw[if_neg e]
  have mn:m < n:=by
   have:¬ m=n:=by simpa using e
   lia
  have z:HT.lexLt (v (p.getD m 0)) (v (p.getD (m - 1) 0))=true:=by
   rcases h6 with z | z
   ·lia
   ·exact z
  by_cases g:m > 1
  ·rw[if_pos g]
   show cmp _ _ _ s
   refine hc _ _ (hp.lt (by lia)) (hp.lt (by lia)) _ ?_
   cases e2:HT.lexLt (v (p.getD 0 0)) (v (p.getD (m - 1) 0)) with
   | true =>
    show KasT.kasWp cmp (if true=true then _ else _) Q s
    rw[if_pos rfl]
    exact hq m p hp h3 (by lia) h5
   | false =>
    show KasT.kasWp cmp (if false=true then _ else _) Q s
    rw[if_neg Bool.false_ne_true]
    have al:∀ i,0<=i->i < m->v (p.getD i 0)=v (p.getD 0 0):=fun i _ hi=>by
     rcases Nat.eq_zero_or_pos i with q | q
     ·rw[q]
     ·refine lexLe_anti (h5 0 i q hi |> fun y=>?_) (h5 0 i q hi)
      rcases Nat.lt_or_ge i (m - 1) with q2 | q2
      ·exact lexLe_trans (h5 i (m - 1) q2 (by lia)) e2
      ·rw[show i=m - 1 by lia]
       exact e2
    have sm:=revG_same (v:=v) (Nat.zero_le m) (by rw[hp.size]; lia) al
    refine partV hc (revG_perm hp _ _) h3 mn (DnV.same (p:=p) (fun i j hij hj=>?_) sm) hq
    rcases Nat.lt_or_ge j m with q | q
    ·rw[al i (Nat.zero_le _) (by lia),al j (Nat.zero_le _) q]
     exact lexLt_irr _
    ·have:j=m:=by lia
     subst this
     rw[al i (Nat.zero_le _) hij,← al (j - 1) (Nat.zero_le _) (by lia)]
     exact lexLt_asym z
  ·rw[if_neg g]
   have m1:m=1:=by lia
   subst m1
   refine partV hc hp h3 mn (fun i j hij hj=>?_) hq
   have a1:i=0:=by lia
   have a2:j=1:=by lia
   subst a1 a2
   exact lexLt_asym z
include hc in
theorem placeV {p:Array Nat} (hp:PermN n p) {k:Nat} (hk:k < n) (hu:UpV v p k) {Q:Nat->Shared->Prop} (hq:∀ l,l<=k->(∀ i < l,HT.lexLt (v (p.getD k 0)) (v (p.getD i 0))=false)->(∀ i,l<=i->i < k->HT.lexLt (v (p.getD i 0)) (v (p.getD k 0))=false)->Q l s) :
  ∀ (f l r:Nat),l<=r->r<=k->r<=l+f->(∀ i < l,HT.lexLt (v (p.getD k 0)) (v (p.getD i 0))=false)->(∀ i,r<=i->i < k->HT.lexLt (v (p.getD i 0)) (v (p.getD k 0))=false)->(kas_place p k f l r).kasWp cmp Q s
 | 0,l,r,h1,h2,h3,a,b=>hq l (by lia) a fun i h4 h5=>b i (by lia) h5
 | f+1,l,r,h1,h2,h3,a,b=>by
  unfold kas_place
  by_cases g:l ≥ r
  ·rw[if_pos g]
   exact hq l (by lia) a fun i h4 h5=>b i (by lia) h5
  ·rw[if_neg g]
   show cmp _ _ _ s
   have hm:(l+r) / 2 < r:=by lia
   have hm':l<=(l+r) / 2:=by lia
   generalize (l+r) / 2=md at *
   refine hc _ _ (hp.lt hk) (hp.lt (by lia)) _ ?_
   cases e:HT.lexLt (v (p.getD k 0)) (v (p.getD md 0)) with
   | true =>
    show KasT.kasWp cmp (if true=true then _ else _) Q s
    rw[if_pos rfl]
    refine placeV hp hk hu hq f l md hm' (by lia) (by lia) a fun i h4 h5=>?_
    rcases Nat.lt_or_ge md i with h6 | h6
    ·exact lexLe_trans (lexLt_asym e) (hu md i h6 h5)
    ·have:i=md:=by lia
     subst this
     exact lexLt_asym e
   | false =>
    show KasT.kasWp cmp (if false=true then _ else _) Q s
    rw[if_neg Bool.false_ne_true]
    refine placeV hp hk hu hq f (md+1) r hm h2 (by lia) (fun i h4=>?_) b
    rcases Nat.lt_or_ge i md with h6 | h6
    ·exact lexLe_trans (hu i md h6 (by lia)) e
    ·have:i=md:=by lia
     subst this
     exact e
include hc in
theorem binV {Q:Array Nat->Shared->Prop} (hq:∀ p,PermN n p->UpV v p n->Q p s):∀ (f:Nat) (p:Array Nat) (k:Nat),PermN n p->k+f=n->UpV v p k->(kas_bin f p k).kasWp cmp Q s
 | 0,p,k,hp,e,hu=>hq p hp (by rw[← e]; exact hu)
 | f+1,p,k,hp,e,hu=>by
  unfold kas_bin
  rw[KasT.kasWp_bind]
  refine placeV hc hp (by lia) hu (fun l hl a b=>?_) k 0 k (Nat.zero_le _) (Nat.le_refl _) (by lia) (fun i h=>by lia) (fun i h1 h2=>by lia)
  have hpb:PermN n (bubble p k (k - l)):=(Array.perm_iff_toList_perm.mp (bubble_perm p k (k - l))).trans hp
  refine binV hq f _ (k+1) hpb (by lia) fun i j hij hj=>?_
  have hks:k < p.size:=by rw[hp.size]; lia
  rw[bub_at hks hl i,bub_at hks hl j]
  by_cases h1:i=l
  ·rw[if_pos h1,if_neg (show ¬ j=l by lia),if_pos (show l < j/\j<=k by lia)]
   exact b (j - 1) (by lia) (by lia)
  ·rw[if_neg h1]
   by_cases h2:l < i/\i<=k
   ·rw[if_pos h2,if_neg (show ¬ j=l by lia),if_pos (show l < j/\j<=k by lia)]
    exact hu (i - 1) (j - 1) (by lia) (by lia)
   ·rw[if_neg h2]
    by_cases h3:j=l
    ·rw[if_pos h3]
     exact a i (by lia)
    ·rw[if_neg h3]
     by_cases h4:l < j/\j<=k
     ·rw[if_pos h4]
      rcases Nat.lt_or_ge i (j - 1) with h5 | h5
      ·exact hu i (j - 1) h5 (by lia)
      ·lia
     ·rw[if_neg h4]
      exact hu i j hij (by lia)
include hc in
theorem sortV (h2:2<=n) {Q:Array Nat->Shared->Prop} (hq:∀ p,PermN n p->UpV v p n->Q p s):(kas_sort n).kasWp cmp Q s:=by
 unfold kas_sort
 rw[KasT.kasWp_bind]
 refine countV hc h2 (p:=List.toArray (List.range n)) (List.Perm.refl _) fun m p' hp' h1 hm hu=>?_
 by_cases g:m < n
 ·show KasT.kasWp cmp (if m < n then _ else _) Q s
  rw[if_pos g,show max m 1=m by lia]
  exact binV hc hq (n - m) p' m hp' (by lia) hu
 ·show KasT.kasWp cmp (if m < n then _ else _) Q s
  rw[if_neg g]
  have:m=n:=by lia
  subst this
  exact hq p' hp' hu
end
end L2
namespace L2
open PySem PySem.Spec PyProof.Rows PySem.W
section
variable {prog:Program} {w:World} {A:Around} {E:Value->Shared->Prop} {s:Shared}
theorem list_sort_fewV {a:Addr} {vs:List Value} {n:Nat} {κ:SortKind} {v:Nat->List Int} {P:Fin->Shared->Prop} (ho:s.heap.get? a=some (seqObj "list" vs.toArray n)) (h64:vs.length < 64)
  (hk:2<=vs.length->∀ h',KeepBut s.heap h' a->∀ Q:SortKind->Shared->Prop,Q κ { s with heap:=h' }->wpAny (model prog w) A (keyKind' vs.toArray) Q E { s with heap:=h' })
  (hO:∀ h',KeepBut s.heap h' a->∀ i j,i < vs.length->j < vs.length->∀ C:Bool->Shared->Prop,C (HT.lexLt (v i) (v j)) { s with heap:=h' }->wpAny (model prog w) A (keyLt' κ (vs.getD i Value.none) (vs.getD j Value.none)) C (fun _ _=>False) { s with heap:=h' })
  (h:∀ p:Array Nat,PermN vs.length p->UpV v p vs.length->P (.done (.ret .none)) { s with heap:=sortedHeap s.heap a vs (p.toList.map fun i=>vs.getD i Value.none).toArray }) :
  wpAny (model prog w) A (Builtin.«list.sort» ⟨[.ref a],[]⟩) P E s:=by
 rw[list_sort_plain]
 have ha:a < s.heap.objs.size:=Heap.lt_size ho
 refine wpAny_bind (listItems_at ho rfl ?_)
 refine wpAny_bind (listUpdate_at ho rfl ?_ (by rw[List.size_toArray,sizeLine_eq]; lia) (Nat.zero_le _))
 obtain⟨e1,ho1⟩:∃ e1,(s.heap.update a (Obj.mapSeq fun _=>#[])).get? a=some (seqObj "list" #[] e1):=⟨_,get?_update_seq ho (fun _=>#[])⟩
 refine wpAny_bind (seqEpoch_at ho1 rfl ?_)
 refine wpAny_bind (wpAny_newTuple ?_ (by show vs.length<=_; rw[sizeLine_eq]; lia))
 refine wpAny_bind (wpAny_newList ?_ (Nat.zero_le _))
 refine wpAny_holding ?_
 have ho6:(((s.heap.update a (Obj.mapSeq fun _=>#[])).push (seqObj "tuple" vs.toArray 0)).push (seqObj "list" #[] 0)).get? a=some (seqObj "list" #[] e1):=by
  rw[Heap.get?_push_ne _ _ _ (by rw[size_push',Heap.size_update]; exact Nat.ne_of_lt (Nat.lt_succ_of_lt ha)),Heap.get?_push_ne _ _ _ (by rw[Heap.size_update]; exact Nat.ne_of_lt ha)]
  exact ho1
 have kp:KeepBut s.heap (((s.heap.update a (Obj.mapSeq fun _=>#[])).push (seqObj "tuple" vs.toArray 0)).push (seqObj "list" #[] 0)) a:=fun b o hb e=>by
  have hlt:b < s.heap.objs.size:=Heap.lt_size e
  rw[Heap.get?_push_ne _ _ _ (by rw[size_push',Heap.size_update]; exact Nat.ne_of_lt (Nat.lt_succ_of_lt hlt)),Heap.get?_push_ne _ _ _ (by rw[Heap.size_update]; exact Nat.ne_of_lt hlt),Heap.get?_update_ne _ _ _ _ hb]
  exact e
 show wpAny (model prog w) A _ P E { s with heap:=((s.heap.update a (Obj.mapSeq fun _=>#[])).push (seqObj "tuple" vs.toArray 0)).push (seqObj "list" #[] 0) }
 dsimp only
 have hsz:vs.toArray.size=vs.length:=by simp
 have erange:(List.toArray (List.range vs.length)).map (kas_item (pairsOf vs))=pairsOf vs:=by
  have e:=kas_range (pairsOf vs)
  rw[show (pairsOf vs).size=vs.length from pairsOf_size vs] at e
  exact e
 have emap:∀ p:Array Nat,(p.map (kas_item (pairsOf vs))).map (·.2)=(p.toList.map fun i=>vs.getD i Value.none).toArray:=fun p=>by
  apply Array.ext'
  simp [kas_item_eq]
 by_cases h2:vs.toArray.size < 2
 ·rw[if_pos h2,if_pos h2]
  refine wpAny_bind (wpAny_pure ?_)
  rw[StateT.run_pure]
  refine wpAny_bind (wpAny_pure ?_)
  dsimp only
  have em:(pairsOf vs).map (·.2)=((List.range vs.length).map fun i=>vs.getD i Value.none).toArray:=by
   rw[← erange,emap]
  refine wpAny_bind (seqEpoch_at ho6 rfl ?_)
  refine wpAny_bind (listUpdate_at ho6 rfl ?_ (Nat.zero_le _) (by rw[Array.size_map]; show (pairsOf vs).size<=_; rw[pairsOf_size,sizeLine_eq]; lia))
  simp only[bne_self_eq_false,Bool.false_eq_true,if_false]
  have:=h (List.toArray (List.range vs.length)) (List.Perm.refl _) fun i j hij hj=>by lia
  refine wpAny_pure ?_
  show P _ { s with heap:=sortedHeap s.heap a vs ((pairsOf vs).map (·.2)) }
  rw[em]
  exact this
 ·rw[if_neg h2,if_neg h2]
  refine wpAny_bind (hk (by lia) _ kp _ ?_)
  have est:SortSt.mk' κ (vs.toArray.zip vs.toArray) #[] 7 none=kas_st κ (pairsOf vs) (List.toArray (List.range vs.length)):=by
   unfold kas_st
   rw[erange]
   rfl
  rw[est]
  refine wpAny_bind (wpAny_mono (kas_runs (prog:=prog) (w:=w) (A:=A) (E:=E) (it:=pairsOf vs) (κ:=κ) (n:=vs.length) (s:={ s with heap:=((s.heap.update a (Obj.mapSeq fun _=>#[])).push (seqObj "tuple" vs.toArray 0)).push (seqObj "list" #[] 0) })
   (G:=fun p s'=>(PermN vs.length p/\UpV v p vs.length)/\s'={ s with heap:=((s.heap.update a (Obj.mapSeq fun _=>#[])).push (seqObj "tuple" vs.toArray 0)).push (seqObj "list" #[] 0) })
   (Q:=fun _ st' s'=>(∃ p,(PermN vs.length p/\UpV v p vs.length)/\arrOf st'=p.map (kas_item (pairsOf vs))/\failedOf st'=none)/\s'={ s with heap:=((s.heap.update a (Obj.mapSeq fun _=>#[])).push (seqObj "tuple" vs.toArray 0)).push (seqObj "list" #[] 0) })
   (by lia) h64 (fun p' st' s' _ ea ef hg=>⟨⟨p',hg.1,ea,ef⟩,hg.2⟩) (sortV (v:=v) (fun i j hi hj C hC=>?_) (by lia) fun p hp hu=>⟨⟨hp,hu⟩,rfl⟩)) ?_ fun _ _ e=>e)
  ·unfold kas_cmp
   rw[kas_item_eq,kas_item_eq]
   exact hO _ kp i j hi hj C hC
  ·rintro⟨⟨⟩,st'⟩ s' ⟨⟨p,⟨hp,hu⟩,e1,e2⟩,rfl⟩
   dsimp only at e1 e2 ⊢
   have em:(arrOf st').map (·.2)=(p.toList.map fun i=>vs.getD i Value.none).toArray:=by rw[e1,emap]
   refine wpAny_bind (seqEpoch_at ho6 rfl ?_)
   refine wpAny_bind (listUpdate_at ho6 rfl ?_ (Nat.zero_le _) (by rw[em,List.size_toArray,List.length_map,Array.length_toList,hp.size,sizeLine_eq]; lia))
   rw[e2]
   simp only[bne_self_eq_false,Bool.false_eq_true,if_false]
   rw[em]
   exact wpAny_pure (h p hp hu)
theorem sorted_fewV {l:Addr} {vs:List Value} {κ:SortKind} {v:Nat->List Int} {Q:Value->Shared->Prop} (hl:s.heap.IsList l vs.toArray) (h64:vs.length < 64)
  (hk:2<=vs.length->∀ h':Heap,(∀ b o,s.heap.get? b=some o->h'.get? b=some o)->∀ Q:SortKind->Shared->Prop,Q κ { s with heap:=h' }->wpAny (model prog w) A.in1.in1 (keyKind' vs.toArray) Q E { s with heap:=h' })
  (hO:∀ h':Heap,(∀ b o,s.heap.get? b=some o->h'.get? b=some o)->∀ i j,i < vs.length->j < vs.length->∀ C:Bool->Shared->Prop,C (HT.lexLt (v i) (v j)) { s with heap:=h' }->wpAny (model prog w) A.in1.in1 (keyLt' κ (vs.getD i Value.none) (vs.getD j Value.none)) C (fun _ _=>False) { s with heap:=h' })
  (h:∀ p:Array Nat,PermN vs.length p->UpV v p vs.length->Q (.ref (s.heap.objs.size+1)) { s with heap:=sortedAll s.heap vs (p.toList.map fun i=>vs.getD i Value.none).toArray }) :
  wpAny (model prog w) A (call (.builtin "sorted") [.ref l]) Q E s:=by
 refine Calls.call_function_entry kind_sorted plain_sorted entry_sorted (args_sorted1 _) ?_
 unfold Builtin.«sorted»
 refine wpAny_bind (m:=checkCount "sorted" 1 1 _) (wpAny_pure ?_)
 refine wpAny_bind (collect_list hl ?_ (by rw[sizeLine_eq]; lia))
 refine wpAny_bind (wpAny_newList ?_ (by rw[sizeLine_eq]; lia))
 have hsz:((s.heap.push (seqObj "list" #[] 0)).update s.heap.objs.size (Obj.mapSeq (·++vs.toArray))).objs.size=s.heap.objs.size+1:=by
  rw[Heap.size_update,size_push']
 have hoL:(((s.heap.push (seqObj "list" #[] 0)).update s.heap.objs.size (Obj.mapSeq (·++vs.toArray))).push (seqObj "list" vs.toArray 0)).get? (s.heap.objs.size+1)=some (seqObj "list" vs.toArray 0):=by
  rw[← hsz]; exact Heap.get?_push_size _ rfl
 have keep:∀ b o,s.heap.get? b=some o->(((s.heap.push (seqObj "list" #[] 0)).update s.heap.objs.size (Obj.mapSeq (·++vs.toArray))).push (seqObj "list" vs.toArray 0)).get? b=some o:=fun b o q=>by
  have hlt:b < s.heap.objs.size:=Heap.lt_size q
  rw[Heap.get?_push_ne _ _ _ (by rw[hsz]; exact Nat.ne_of_lt (Nat.lt_succ_of_lt hlt)),Heap.get?_update_ne _ _ _ _ (Nat.ne_of_lt hlt),Heap.get?_push_ne _ _ _ (Nat.ne_of_lt hlt)]
  exact q
 have kb:∀ h':Heap,KeepBut (((s.heap.push (seqObj "list" #[] 0)).update s.heap.objs.size (Obj.mapSeq (·++vs.toArray))).push (seqObj "list" vs.toArray 0)) h' (s.heap.objs.size+1)->∀ b o,s.heap.get? b=some o->h'.get? b=some o:=fun h' k b o q =>
  k b o (Nat.ne_of_lt (Nat.lt_succ_of_lt (Heap.lt_size q))) (keep b o q)
 show wpAny _ _ _ _ _ { s with heap:=((s.heap.push (seqObj "list" #[] 0)).update s.heap.objs.size (Obj.mapSeq (·++vs.toArray))).push (seqObj "list" vs.toArray 0) }
 rw[hsz]
 refine wpAny_bind (wpAny_holding (wpAny_call_entry slot_list_sort ⟨_,hoL,rfl⟩ entry_list_sort (list_sort_fewV (v:=v) (s:={ s with heap:=((s.heap.push (seqObj "list" #[] 0)).update s.heap.objs.size (Obj.mapSeq (·++vs.toArray))).push (seqObj "list" vs.toArray 0) }) hoL h64 (fun h2 h' k=>hk h2 h' (kb h' k)) (fun h' k=>hO h' (kb h' k)) fun p hp hu=>⟨_,rfl,?_⟩) (args_list_sort _)))
 exact wpAny_pure ⟨_,rfl,h p hp hu⟩
noncomputable def valT (ps:List (Addr × List Int)) (i:Nat):List Int:=(ps.getD i (0,[])).2
theorem cmp_tups {h':Heap} {ps:List (Addr × List Int)} (ht:∀ p∈ps,TupAt h' p) {i j:Nat} (hi:i < ps.length) (hj:j < ps.length) {C:Bool->Shared->Prop} {F:Value->Shared->Prop} (hC:C (HT.lexLt (valT ps i) (valT ps j)) { s with heap:=h' }) :
  wpAny (model prog w) A (keyLt' (tuples' true) ((ps.map fun p=>Value.ref p.1).getD i Value.none) ((ps.map fun p=>Value.ref p.1).getD j Value.none)) C F { s with heap:=h' }:=by
 rw[show (ps.map fun p=>Value.ref p.1).getD i Value.none = .ref ps[i].1 by simp [hi],show (ps.map fun p=>Value.ref p.1).getD j Value.none = .ref ps[j].1 by simp [hj]]
 refine lt_tups (p:=ps[i]) (q:=ps[j]) (ht _ (List.getElem_mem hi)) (ht _ (List.getElem_mem hj)) ?_
 have:HT.lexLt (valT ps i) (valT ps j)=HT.lexLt ps[i].2 ps[j].2:=by simp [valT,hi,hj]
 rw[← this]
 exact hC
theorem up_pairs {ps:List (Addr × List Int)} {pm:Array Nat} (hp:PermN ps.length pm) (hup:UpV (valT ps) pm ps.length):(pm.toList.map fun i=>ps.getD i (0,[])).Pairwise fun a b=>HT.lexLt b.2 a.2=false:=by
 rw[List.pairwise_iff_getElem]
 intro i j hi hj hij
 rw[List.length_map,Array.length_toList,hp.size] at hi hj
 have:=hup i j hij hj
 simp only[List.getElem_map]
 have g:∀ x (hx:x < ps.length),pm.getD x 0=pm.toList[x]'(by rw[Array.length_toList,hp.size]; exact hx):=fun x hx=>by
  have:x < pm.size:=by rw[hp.size]; exact hx
  simp [Array.getD,this]
 rw[g i hi,g j hj] at this
 exact this
theorem refs_pm {ps:List (Addr × List Int)} {pm:Array Nat} (hp:PermN ps.length pm):(pm.toList.map fun i=>(ps.map fun p=>Value.ref p.1).getD i Value.none)=(pm.toList.map fun i=>ps.getD i (0,[])).map fun p=>Value.ref p.1:=by
 rw[List.map_map]
 apply List.map_congr_left
 intro i hi
 have:i < ps.length:=List.mem_range.mp (hp.mem_iff.mp hi)
 simp [this]
theorem sorted_setT {S:Addr} {ks:List (Addr × List Int)} {Q:Value->Shared->Prop} (hh:A.handled=none) (hS:SetT prog w (ledB w) s.heap S ks) (h64:ks.length < 64) (ht:∀ p∈ks,TupAt s.heap p/\p.2≠[])
  (h:∀ (l:Addr) (qs:List (Addr × List Int)) (c:Nat) (s':Shared),qs.Perm ks->(qs.Pairwise fun a b=>HT.lexLt b.2 a.2=false)->s'.heap.get? l=some { cls:=.type "list",data:=.seq (qs.map fun p=>Value.ref p.1).toArray c }->s.heap.objs.size<=l->s'.os=s.os->s'.gens=s.gens →
   (∀ b o,s.heap.get? b=some o->s'.heap.get? b=some o)->Q (.ref l) s'):wpAny (model prog w) A (call (.builtin "sorted") [.ref S]) Q E s:=by
 refine Calls.call_function_entry kind_sorted plain_sorted entry_sorted (args_sorted1 _) ?_
 unfold Builtin.«sorted»; refine wpAny_bind (m:=checkCount "sorted" 1 1 _) (wpAny_pure ?_)
 refine wpAny_bind (collect_setT hh hS (Nat.le_of_lt (Nat.lt_of_lt_of_le h64 (by decide))) fun vs ps s1 hi hp hsz os1 gs1 k1=>?_)
 subst hi
 have lv:(ps.map fun p=>Value.ref p.1).length=ps.length:=by simp
 have hl:ps.length < 64:=by rw[hp.length_eq]; exact h64
 refine wpAny_bind (wpAny_newList ?_ (by rw[sizeLine_eq]; lia))
 have g1:(s1.heap.push (seqObj "list" (ps.map fun p=>Value.ref p.1).toArray 0)).get? s1.heap.objs.size=some (seqObj "list" (ps.map fun p=>Value.ref p.1).toArray 0):=Heap.get?_push_size _ rfl
 have kk:∀ h':Heap,KeepBut (s1.heap.push (seqObj "list" (ps.map fun p=>Value.ref p.1).toArray 0)) h' s1.heap.objs.size->∀ p∈ps,TupAt h' p/\p.2≠[]:=fun h' k p m=>by
  obtain⟨t1,t2⟩:=ht p (hp.mem_iff.mp m)
  refine⟨t1.at fun o e=>?_,t2⟩
  have e1:=k1 _ _ e
  exact k _ _ (Nat.ne_of_lt (Heap.lt_size e1)) (Heap.get?_push_of_some _ e1)
 refine wpAny_bind (wpAny_holding (wpAny_call_entry slot_list_sort ⟨_,g1,rfl⟩ entry_list_sort (list_sort_fewV (v:=valT ps) (κ:=tuples' true) (s:={ s1 with heap:=s1.heap.push (seqObj "list" (ps.map fun p=>Value.ref p.1).toArray 0) }) g1 (by lia)
  (fun h2 h' k Q' hQ=>kind_tups (by lia) (kk h' k) hQ) (fun h' k i j hi hj C hC=>cmp_tups (fun p m=>(kk h' k p m).1) (by lia) (by lia) hC) fun pm hpm hup=>⟨_,rfl,?_⟩) (args_list_sort _)))
 rw[lv] at hpm hup
 rw[refs_pm hpm]
 obtain⟨c,hc⟩:=sortedHeap_at (out:=((pm.toList.map fun i=>ps.getD i (0,[])).map fun p=>Value.ref p.1).toArray) g1
 refine wpAny_pure ⟨_,rfl,h s1.heap.objs.size _ c _ ((permN_map hpm).trans hp) (up_pairs hpm hup) ?_ hsz os1 gs1 fun b o e=>?_⟩
 ·exact hc
 ·have e1:=k1 b o e
  have lt:=Heap.lt_size e1
  rw[sortedHeap_old (Nat.ne_of_lt lt) (by rw[Heap.size_push]; exact Nat.lt_succ_of_lt lt)]
  exact Heap.get?_push_of_some _ e1
end
section
variable {X:Cx}
inductive RSortTTI (K:W.Frag) (xs:List V) (H:Hp) (Q:VK):Prop where
 | mk (p:Addr) (ps:List (Addr × List Int)) (z0:xs=[.ref p]) (z1:SqL K H p (ps.map fun p=>V.ref p.1)) (z2:ps.length < 64) (z3:(∀ q∈ps,SqT K H q.1 (q.2.map V.int)/\q.2≠[])) (z4:∀ qs:List (Addr × List Int),qs.Perm ps->(qs.Pairwise fun a b=>HT.lexLt b.2 a.2=false)->∀ l,H l=none->Q (.ref l) (upd H l (.lst (qs.map fun p=>V.ref p.1)))):RSortTTI K xs H Q
noncomputable def rSortTT (K:W.Frag):List V->Hp->VK->Prop:=fun xs H Q=>RSortTTI K xs H Q
theorem vals_refs:∀ (l:List (Addr × List Int)),Vals (l.map fun p=>V.ref p.1) (l.map fun p=>Value.ref p.1)
 | []=>.nil
 | _::l=>.cons rfl (vals_refs l)
theorem call_sortTT:CallR X (.builtin "sorted") (rSortTT X.K):=by
 intro pins s σ H xs us Q I r h
 obtain⟨p,ps,rfl,hq,h64,ht,q⟩:=h
 obtain⟨u,rfl,ru⟩:=vals1 r
 cases ru
 obtain⟨its,rv,pl,_⟩:=I.list hq
 have ei:=refs_eq ps its rv
 subst ei
 have lv:(ps.map fun p=>Value.ref p.1).length=ps.length:=by simp
 have tup:∀ h':Heap,(∀ b o,s.heap.get? b=some o->h'.get? b=some o)->∀ p∈ps,TupAt h' p/\p.2≠[]:=fun h' kp p hm=>by
  obtain⟨i1,r1,p1,_⟩:=I.tuple (ht p hm).1
  exact⟨TupAt.at (p:=p) ⟨i1,p1,intsAre_of r1⟩ fun o e=>kp _ o e,(ht p hm).2⟩
 refine sorted_fewV (v:=valT ps) (κ:=tuples' true) pl.isList (by lia) (fun h2 h' kp Q' hQ=>kind_tups (by lia) (tup h' kp) hQ) (fun h' kp i j hi hj C hC=>cmp_tups (fun p m=>(tup h' kp p m).1) (by lia) (by lia) hC) fun pm hp hup=>?_
 rw[lv] at hp hup
 rw[refs_pm hp]
 obtain⟨e,he⟩:=sortedAll_at s.heap (ps.map fun p=>Value.ref p.1) ((pm.toList.map fun i=>ps.getD i (0,[])).map fun p=>Value.ref p.1).toArray
 have hml:((pm.toList.map fun i=>ps.getD i (0,[])).map fun p=>V.ref p.1).length<=sizeLine:=by
  rw[List.length_map,List.length_map,Array.length_toList,hp.size,sizeLine_eq]
  lia
 exact⟨.ref _,_,I.laidL rfl rfl (fun _ _=>sortedAll_old) (Nat.le_succ _) (vals_refs _) hml he,rfl,q _ (permN_map hp) (up_pairs hp hup) _ (I.hok.fresh (Nat.le_succ _))⟩
noncomputable def tSSTT (K:W.Frag) (te:TA):TE:=fun σ H Q=>te σ H fun xs H1=>∃ (a:Addr) (ps:List (Addr × List Int)),xs=[.ref a]/\SqL K H1 a (ps.map fun p=>V.ref p.1)/\ps.length < 63/\(∀ q∈ps,SqT K H1 q.1 (q.2.map V.int)/\q.2≠[]) ∧
 ∀ qs:List (Addr × List Int),qs.Perm (onceT ps)->(qs.Pairwise fun a b=>HT.lexLt b.2 a.2=false)->∀ l,H1 l=none->Q (.ref l) (upd H1 l (.lst (qs.map fun p=>V.ref p.1)))
theorem pe_sortedSetTT {e:Expr} {te:TA} {p1 p2 q1 q2:Pos} {k:Nat} (hr:Room k X.A) (hk:6<=k) (hc:X.calm=true) (hg1:Gl X "sorted") (hm1:X.mg "sorted" = none) (hg2:Gl X "set") (hm2:X.mg "set" = none) (ha:PA X [e] te)
  (hb1:bootBuiltins "sorted" = some (.builtin "sorted"):=by decide+kernel) (hb2:bootBuiltins "set" = some (.type "set"):=by decide+kernel)
  (he1:starEach [.Call (.Name "set" p2) [e] [] q2] X.env=(false,eval (.Call (.Name "set" p2) [e] [] q2) X.env)::starEach [] X.env:=by rfl) (hp1:(backTo q1 (starEach [] X.env)).any (·.1)=false:=by rfl)
  (he2:starEach [e] X.env=(false,eval e X.env)::starEach [] X.env:=by rfl) (hp2:(backTo q2 (starEach [] X.env)).any (·.1)=false:=by rfl) :
  PE X (.Call (.Name "sorted" p1) [.Call (.Name "set" p2) [e] [] q2] [] q1) (tSSTT X.K te):=by
 intro pins s σ H Q I h
 refine wpAny_Call_Name_kw (ld_blt I hg1 hm1 hb1 ?_ (by decide) (by decide))
 refine PyProof.Rows.callWith_builtin1 ?_ he1 hp1
 rw[he1]
 refine (show wpAny _ _ (spliced ((false,eval (.Call (.Name "set" p2) [e] [] q2) X.env)::backTo q1 (starEach [] X.env))) _ _ s from Calls.spliced_cons ?_)
 refine wpAny_Call_Name_kw (ld_blt I hg2 hm2 hb2 ?_ (by decide) (by decide))
 refine PyProof.Rows.callWith_type1 (thn (ha q2 pins s σ H _ I h) fun us s1 ⟨vs,H1,I1,r1,q⟩=>?_) he2 hp2
 obtain⟨a,ps,rfl,hq,h63,ht,hQ⟩:=q
 obtain⟨u,rfl,ru⟩:=vals1 r1
 cases ru
 obtain⟨its,rv,pl,_⟩:=I1.list hq
 have ei:=refs_eq ps its rv
 subst ei
 have tup:∀ p∈ps,TupAt s1.heap p:=fun p hm=>by
  obtain⟨i1,r1,p1,_⟩:=I1.tuple (ht p hm).1
  exact⟨i1,p1,intsAre_of r1⟩
 have hu:=hr.un
 refine set_of_listT (I1.ok.hd hc) (by lia) pl.isList (fun p m=>(tup p m).key) h63 fun h' tk hS hk=>?_
 have I2:Inv X pins σ H1 { s1 with heap:=h',toks:=tk }:=I1.kept (t':=tk) fun b o e=>hk b o (Heap.lt_size e) e
 refine (show wpAny _ _ (spliced []) _ _ _ from Calls.spliced_nil ?_)
 have ol:=onceT_len ps
 refine sorted_setT (I1.ok.hd hc) hS (by lia) (fun p m=>⟨(tup p (onceT_sub m)).at fun o e=>hk _ _ (Heap.lt_size e) e,(ht p (onceT_sub m)).2⟩) fun l qs c s3 hp3 hw3 g3 hl3 os3 gs3 k3=>?_
 have hml:(qs.map fun p=>V.ref p.1).length<=sizeLine:=by
  rw[List.length_map,hp3.length_eq,sizeLine_eq]
  lia
 exact⟨.ref l,_,I2.laidL os3 gs3 k3 hl3 (vals_refs _) hml g3,rfl,hQ qs hp3 hw3 l (I2.hok.fresh hl3)⟩
end
end L2
namespace My
open PySem L2
variable {P:Program} {w:World} {K:W.Frag} {mg:Str->Option Value} {base:Heap} {f:Addr} {fd:FuncData}
noncomputable def top (i:Nat):Stmt:=PySem.Challenge.pw_loveboon_k05_lowest_and_highest.main.body.getD i (.Pass ⟨0,0,0,0⟩)
theorem same_new {H:Hp} {p:Addr} (h:H p=none) (o:HO):Same H (upd H p o):=fun b u q=>by rw[upd_ne (ne_of_none q h)]; exact q
theorem same_upd {H H':Hp} {p:Addr} (s:Same H H') (h:H p=none) (o:HO):Same H (upd H' p o):=fun b u q=>by rw[upd_ne (ne_of_none q h)]; exact s b u q
theorem sameT {K:W.Frag} {H H':Hp} {a:Addr} {xs:List V} (e:Same H H') (h:SqT K H a xs):SqT K H' a xs:=by
 rcases h with (h | ⟨o,h⟩) | h
 ·exact .inl (.inl (e _ _ h))
 ·exact .inl (.inr ⟨o,e _ _ h⟩)
 ·exact .inr h
theorem updupd {H:Hp} {p:Addr} {o o':HO}:upd (upd H p o) p o'=upd H p o':=by
 funext b
 unfold upd
 by_cases e:b=p
 ·rw[if_pos e,if_pos e]
 ·rw[if_neg e,if_neg e,if_neg e]
theorem small {n:Nat} (h:n<=1000):n<=sizeLine:=Nat.le_of_lt (small1000 h)
theorem int_at {ns:List Int} {i:Nat} {x:V} (h:(ns.map V.int)[i]? = some x):∃ n,ns[i]? = some n/\x = .int n:=by
 rw[List.getElem?_map] at h
 cases e:ns[i]? with
 | none=>rw[e] at h; cases h
 | some n=>rw[e] at h; exact⟨n,rfl,(Option.some.inj h).symm⟩
theorem at_int {ns:List Int} {i:Nat} (h:i < ns.length):atI (ns.map V.int) (i:Int)=some (.int ns[i]):=atI_nat (by rw[List.getElem?_map,List.getElem?_eq_getElem h]; rfl)
theorem gT {i:Nat} {x:V} {σ:St} {H:Hp} {A B:St->Hp->Prop} (h:A (σ.set i (some x)) H):gName i x σ H (fun σ3 H3=>tTrue σ3 H3 (fun b H4=>if b=true then A σ3 H4 else B σ3 H4)):=by
 show if true=true then A (σ.set i (some x)) H else B (σ.set i (some x)) H
 rw[if_pos rfl]
 exact h
theorem new_at {H H1:Hp} {p:Addr} {o:HO} (e:upd H p o=H1) (h:H p=none):Same H H1/\H1 p=some o:=by
 subst e
 exact⟨same_new h _,upd_same⟩
theorem at_get {xs:List V} {k:Nat} {v:V} (h:xs[k]? = some v):atI xs (k:Int)=some v:=atI_nat h
theorem get_int {ns:List Int} {k:Nat} {n:Int} (h:ns[k]? = some n):(ns.map V.int)[k]? = some (.int n):=by rw[List.getElem?_map,h]; rfl
theorem depL_ints:∀ ns:List Int,depL (ns.map Dm.int)=0
 | []=>by simp [depL]
 | n::r=>by simp [depL,Dm.dep,depL_ints r]
theorem rep_ints {H:Hp} {a:Addr} {ns:List Int} (h:H a=some (.tup (ns.map V.int))) (l:ns.length<=1000):Rep H (.ref a) (.tup (ns.map Dm.int)):=.tup h (by rw[List.length_map]; lia) (repL_ints ns)
theorem dep_tup (ns:List Int):(Dm.tup (ns.map Dm.int)).dep=1:=by rw[Dm.dep,depL_ints]
theorem tup_keep {H:Hp} {D:Addr} {zs zs':List V} (h:H D=some (.lst zs)):∀ a xs,H a=some (HO.tup xs)->upd H D (.lst zs') a=some (HO.tup xs):=fun a xs q=>by
 rw[upd_ne (fun z=>by rw[z,h] at q; cases q)]
 exact q
noncomputable abbrev s_law_draws:Stmt:=top 8
theorem sc_law_draws:FnScope ["_law_cell_here","_law_parts","_law_one","_law_two","_law_six","_law_found","_law_part"] ["_law_cell_here","_law_parts"] (defScope s_law_draws):=⟨rfl,rfl,rfl,by decide+kernel,rfl,by decide+kernel,by decide+kernel⟩
noncomputable def drOne (c:Int):Int:=(c * 48271+11) % 2147483647
noncomputable def drTwo (c:Int):Int:=(drOne c * drOne c+40692 * drOne c+c) % 2147483399
noncomputable def drSix (c:Int):Int:=(drTwo c * 16807+drOne c) % 1000000007
noncomputable def mixC (c:Int):Int:=if decide ((if c < 0 then -c else c) < 10 ^ (18:Int).toNat)=true then drTwo c+2147483399 * (drSix c+1000000007 * drOne c) else (if c < 0 then -c else c) - 10 ^ (18:Int).toNat
noncomputable def cutC:Int->List Int->List Int
 | _,[]=>[]
 | c,p::ps=>c % p::cutC (c / p) ps
noncomputable def divC:Int->List Int->Int
 | c,[]=>c
 | c,p::ps=>divC (c / p) ps
theorem cutC_snoc (p:Int):∀ (ps:List Int) (c:Int),cutC c (ps++[p])=cutC c ps++[divC c ps % p]
 | [],_=>rfl
 | q::ps,c=>by
  show c % q::cutC (c / q) (ps++[p])=c % q::(cutC (c / q) ps++[divC (c / q) ps % p])
  rw[cutC_snoc p ps]
theorem divC_snoc (p:Int):∀ (ps:List Int) (c:Int),divC c (ps++[p])=divC c ps / p
 | [],_=>rfl
 | q::ps,c=>divC_snoc p ps (c / q)
theorem cutC_length:∀ (ps:List Int) (c:Int),(cutC c ps).length=ps.length
 | [],_=>rfl
 | _::ps,_=>congrArg Nat.succ (cutC_length ps _)
theorem cutC_get:∀ {ps:List Int} {c:Int} {i:Nat} {p:Int},(∀ q∈ps,0 < q)->ps[i]? = some p->∃ v,(cutC c ps)[i]? = some v/\0<=v/\v < p
 | [],_,_,_,_,h=>by simp at h
 | q::ps,c,0,p,hp,h=>by
  cases (show some q=some p from h)
  exact⟨c % q,rfl,Int.emod_nonneg _ (by have:=hp q List.mem_cons_self; lia),Int.emod_lt_of_pos _ (hp q List.mem_cons_self)⟩
 | q::ps,c,i+1,p,hp,h=>by
  obtain⟨v,e,r⟩:=cutC_get (ps:=ps) (c:=c / q) (i:=i) (fun z hz=>hp z (List.mem_cons_of_mem _ hz)) (by simpa using h)
  exact⟨v,by simpa [cutC] using e,r⟩
noncomputable def drawsF (c:Int) (ps:List Int):List Int:=cutC (mixC c) ps
theorem drOne_b (c:Int):0<=drOne c/\drOne c < 2147483647:=⟨Int.emod_nonneg _ (by decide),Int.emod_lt_of_pos _ (by decide)⟩
theorem drTwo_b (c:Int):0<=drTwo c/\drTwo c < 2147483399:=⟨Int.emod_nonneg _ (by decide),Int.emod_lt_of_pos _ (by decide)⟩
inductive SpDrawsI (K:W.Frag) (vs:List V) (H:Hp) (Q:VK):Prop where
 | mk (c:Int) (p:Addr) (ps:List Int) (z0:vs=[.int c,.ref p]) (z1:SqL K H p (ps.map V.int)) (z2:(∀ q∈ps,0 < q/\q < 1073741824)) (z3:ps.length<=1000) (z4:∀ r,H r=none->Q (.ref r) (upd H r (.lst ((drawsF c ps).map V.int)))):SpDrawsI K vs H Q
noncomputable def spDraws (K:W.Frag):Sp:=fun vs H Q _=>SpDrawsI K vs H Q
theorem ok_law_draws (F:Fun K "_law_draws" "_law_draws" s_law_draws f fd) (B:Bt mg) :
  FnOk P w K mg base CX0 1 f fd ["_law_cell_here","_law_parts"] (spDraws K):=by
 refine F.ok sc_law_draws (fun vs H Q E h=>?_) (fun cdv A outer s H vs Q E hr h=>?_)
 ·obtain⟨c,p,ps,rfl,_⟩:=h
  rfl
 ·obtain⟨c,p,ps,rfl,hS,hp,hl,q⟩:=h
  refine⟨_,(pss_cons (ps_if (pt_cmpR op_lt (pe_callB call_abs rfl B.abs_ bt_abs (pa_cons (pv 0) pa_nil)) (pe_op op_pow pe_int pe_int) (nomark _)) (pss_cons (ps_set (i:=2) sc_law_draws.nd rfl (Or.inl rfl) (pe_op op_mod (pe_op op_add (pe_op op_mul (pv 0) pe_int) pe_int) pe_int))
 (pss_cons (ps_set (i:=3) sc_law_draws.nd rfl (Or.inl rfl) (pe_op op_mod (pe_op op_add (pe_op op_add (pe_op op_mul (pv 2) (pv 2)) (pe_op op_mul pe_int (pv 2))) (pv 0)) pe_int))
 (pss_cons (ps_set (i:=4) sc_law_draws.nd rfl (Or.inl rfl) (pe_op op_mod (pe_op op_add (pe_op op_mul (pv 3) pe_int) (pv 2)) pe_int))
 (pss_one (ps_set (i:=0) sc_law_draws.nd rfl (Or.inl rfl) (pe_op op_add (pv 3) (pe_op op_mul pe_int (pe_op op_add (pv 4) (pe_op op_mul pe_int (pv 2)))))))))) (pss_one (ps_set (i:=0) sc_law_draws.nd rfl (Or.inl rfl) (pe_op op_sub (pe_callB call_abs rfl B.abs_ bt_abs (pa_cons (pv 0) pa_nil)) (pe_op op_pow pe_int pe_int)))))
 (pss_cons (ps_set (i:=5) sc_law_draws.nd rfl (Or.inl rfl) (pe_lst pa_nil))
 (pss_cons (ps_for PassesOwn.never rfl (pi_list (pv 1)) (pg_name (i:=6) sc_law_draws.nd rfl (Or.inl rfl)) (pss_cons (ps_expr (pe_bm PySem.F.plainAttrs_list PySem.F.slot_list_append PySem.F.type_list_append mt_append (pv 5) (pa_cons (pe_op op_mod (pv 0) (pv 6)) pa_nil)))
 (pss_one (ps_set (i:=0) sc_law_draws.nd rfl (Or.inl rfl) (pe_op op_fdiv (pv 0) (pv 6))))))
 (pss_one (ps_ret (pv 5)))))),?_⟩
  have b1:=drOne_b c
  have b2:=drTwo_b c
  refine⟨_,rfl,_,rfl,_,_,rfl,rfl,⟨by decide,by decide,by decide⟩,_,_,rfl,rfl,_,rfl,?_⟩
  refine ite2 (fun h=>?_) (fun h=>?_)
  ·refine⟨_,rfl,_,_,rfl,rfl,.inr ⟨by decide,by decide⟩,_,_,rfl,rfl,_,_,rfl,rfl,(by show (0:Int) < 2147483647; decide),?_⟩
   refine⟨_,rfl,_,rfl,_,_,rfl,rfl,.inl (show -(2 ^ 64) < drOne c/\drOne c < 2 ^ 64 from ⟨by lia,by lia⟩),_,rfl,_,_,rfl,rfl,.inl ⟨by decide,by decide⟩,_,_,rfl,rfl,_,rfl,_,_,rfl,rfl,_,_,rfl,rfl,(by show (0:Int) < 2147483399; decide),?_⟩
   refine⟨_,rfl,_,_,rfl,rfl,.inr ⟨by decide,by decide⟩,_,rfl,_,_,rfl,rfl,_,_,rfl,rfl,(by show (0:Int) < 1000000007; decide),?_⟩
   refine⟨_,rfl,_,rfl,_,rfl,_,_,rfl,rfl,.inl ⟨by decide,by decide⟩,_,_,rfl,rfl,_,_,rfl,rfl,.inl ⟨by decide,by decide⟩,_,_,rfl,rfl,?_⟩
   refine⟨small (Nat.zero_le _),fun r hr0=>?_⟩
   refine⟨_,rfl,p,rfl,⟨_,(same_new hr0 _).seq hS⟩,for_list (K:=K) (a:=p) (xs:=ps.map V.int) (fun i σ H2=>∃ (z:Int) (o t u v:Option V),z=divC (mixC c) (ps.take i)/\σ=[some (.int z),some (.ref p),o,t,u,some (.ref r),v] ∧
    H2=upd H r (.lst ((cutC (mixC c) (ps.take i)).map V.int))) ⟨_,_,_,_,_,(if_pos h).symm,rfl,rfl⟩ ?_ ?_ ?_⟩
   ·rintro i σ H2 hi ⟨z,o,t,u,v,_,_,e⟩
    subst e
    exact (same_new hr0 _).seq hS
   ·rintro i x σ H2 hx ⟨z,o,t,u,v,ez,rfl,rfl⟩
    obtain⟨d,hd,rfl⟩:=int_at hx
    obtain⟨h1,h2⟩:=hp d (List.mem_of_getElem? hd)
    have et:ps.take (i+1)=ps.take i++[d]:=by rw[List.take_add_one,hd]; rfl
    refine⟨_,rfl,.inl ⟨rfl,_,SqL.of upd_same⟩,_,rfl,_,rfl,_,_,rfl,rfl,h1,r,_,_,rfl,rfl,upd_same,?_,_,rfl,_,rfl,_,_,rfl,rfl,⟨h1,h2⟩,_,_,_,_,_,?_,rfl,?_⟩
    ·rw[List.length_map,cutC_length,List.length_take]
     exact small1000 (by lia)
    ·rw[et,divC_snoc,ez]
    ·rw[updupd,et,cutC_snoc,List.map_append,ez]
     rfl
   ·rintro σ H2 ⟨z,o,t,u,v,_,rfl,rfl⟩
    refine⟨_,rfl,?_⟩
    have q':=q r hr0
    rw[List.length_map,List.take_length]
    exact q'
  ·refine⟨_,rfl,_,rfl,_,_,rfl,rfl,⟨by decide,by decide,by decide⟩,_,_,rfl,rfl,?_⟩
   refine⟨small (Nat.zero_le _),fun r hr0=>?_⟩
   refine⟨_,rfl,p,rfl,⟨_,(same_new hr0 _).seq hS⟩,for_list (K:=K) (a:=p) (xs:=ps.map V.int) (fun i σ H2=>∃ (z:Int) (o t u v:Option V),z=divC (mixC c) (ps.take i)/\σ=[some (.int z),some (.ref p),o,t,u,some (.ref r),v] ∧
    H2=upd H r (.lst ((cutC (mixC c) (ps.take i)).map V.int))) ⟨_,_,_,_,_,(if_neg h).symm,rfl,rfl⟩ ?_ ?_ ?_⟩
   ·rintro i σ H2 hi ⟨z,o,t,u,v,_,_,e⟩
    subst e
    exact (same_new hr0 _).seq hS
   ·rintro i x σ H2 hx ⟨z,o,t,u,v,ez,rfl,rfl⟩
    obtain⟨d,hd,rfl⟩:=int_at hx
    obtain⟨h1,h2⟩:=hp d (List.mem_of_getElem? hd)
    have et:ps.take (i+1)=ps.take i++[d]:=by rw[List.take_add_one,hd]; rfl
    refine⟨_,rfl,.inl ⟨rfl,_,SqL.of upd_same⟩,_,rfl,_,rfl,_,_,rfl,rfl,h1,r,_,_,rfl,rfl,upd_same,?_,_,rfl,_,rfl,_,_,rfl,rfl,⟨h1,h2⟩,_,_,_,_,_,?_,rfl,?_⟩
    ·rw[List.length_map,cutC_length,List.length_take]
     exact small1000 (by lia)
    ·rw[et,divC_snoc,ez]
    ·rw[updupd,et,cutC_snoc,List.map_append,ez]
     rfl
   ·rintro σ H2 ⟨z,o,t,u,v,_,rfl,rfl⟩
    refine⟨_,rfl,?_⟩
    have q':=q r hr0
    rw[List.length_map,List.take_length]
    exact q'
noncomputable abbrev s_law_cell:Stmt:=top 7
theorem sc_law_cell:FnScope ["_law_script","_law_k"] ["_law_script","_law_k"] (defScope s_law_cell):=⟨rfl,rfl,rfl,by decide+kernel,rfl,by decide+kernel,by decide+kernel⟩
inductive SpCellI (K:W.Frag) (vs:List V) (H:Hp) (Q:VK):Prop where
 | mk (a:Addr) (ns:List Int) (k:Nat) (z0:vs=[.ref a,.int (k:Int)]) (z1:SqL K H a (ns.map V.int)) (z2:Q (.int (ns.getD k 0)) H):SpCellI K vs H Q
noncomputable def spCell (K:W.Frag):Sp:=fun vs H Q _=>SpCellI K vs H Q
theorem ok_law_cell (F:Fun K "_law_cell" "_law_cell" s_law_cell f fd) (B:Bt mg) :
  FnOk P w K mg base CX0 1 f fd ["_law_script","_law_k"] (spCell K):=by
 refine F.ok sc_law_cell (fun vs H Q E h=>?_) (fun cdv A outer s H vs Q E hr h=>?_)
 ·obtain⟨a,ns,k,rfl,_⟩:=h
  rfl
 ·obtain⟨a,ns,k,rfl,hS,q⟩:=h
  refine⟨_,(pss_cons (ps_if (pt_cmpR op_lt (pv 1) (pe_callB (r:=rLen K) call_lenK rfl B.len_ bt_len (pa_cons (pv 0) pa_nil)) (nomark _)) (pss_one (ps_ret (pe_ix (r:=rIxL K) ix_list (pv 0) (pv 1) (fun _ _=>rfl)))) pss_nil)
 (pss_one (ps_ret pe_int))),?_⟩
  refine⟨_,rfl,_,rfl,a,_,rfl,.inl hS,_,_,rfl,rfl,_,rfl,?_⟩
  have el:(((ns.map V.int).length:Nat):Int)=(ns.length:Int):=by rw[List.length_map]
  rw[el]
  refine ite2 (fun c=>?_) (fun c=>?_)
  ·have c':(k:Int) < (ns.length:Int):=of_decide_eq_true c
   have hk:k < ns.length:=by lia
   refine⟨_,rfl,_,rfl,a,_,_,_,rfl,rfl,hS,at_int hk,?_⟩
   rw[List.getD_eq_getElem?_getD,List.getElem?_eq_getElem hk] at q
   exact q
  ·have c':¬ (k:Int) < (ns.length:Int):=fun z=>c (decide_eq_true z)
   have hk:ns.length<=k:=by lia
   rw[List.getD_eq_getElem?_getD,List.getElem?_eq_none hk] at q
   exact q
noncomputable abbrev s_law_giving:Stmt:=top 10
theorem sc_law_giving:FnScope ["_law_cell_here","_law_n","_law_most"] ["_law_cell_here","_law_n","_law_most"] (defScope s_law_giving):=⟨rfl,rfl,rfl,by decide+kernel,rfl,by decide+kernel,by decide+kernel⟩
noncomputable def givF (c:Int) (n:Nat) (m:Int):List Int:=drawsF c (List.replicate n (m+1))
theorem givF_length (c:Int) (n:Nat) (m:Int):(givF c n m).length=n:=by
 unfold givF drawsF
 rw[cutC_length,List.length_replicate]
inductive SpGivingI (vs:List V) (H:Hp) (Q:VK):Prop where
 | mk (c:Int) (n:Nat) (m:Int) (z0:vs=[.int c,.int (n:Int),.int m]) (z1:n<=1000) (z2:0<=m) (z3:m<=1000000) (z4:∀ (r:Addr) (H':Hp),Same H H'->H r=none->H' r=some (.tup ((givF c n m).map V.int))->Q (.ref r) H'):SpGivingI  vs H Q
noncomputable def spGiving:Sp:=fun vs H Q _=>SpGivingI  vs H Q
theorem rep_flat (z:Int) (n:Nat):(List.replicate n [V.int z]).flatten=(List.replicate n z).map V.int:=by
 induction n with
 | zero=>rfl
 | succ n ih=>rw[List.replicate_succ,List.flatten_cons,ih,List.replicate_succ]; rfl
theorem ok_law_giving (F:Fun K "_law_giving" "_law_giving" s_law_giving f fd) (B:Bt mg)
  (D_law_draws:Df P w K mg base "_law_draws" 1 ["_law_cell_here","_law_parts"] (spDraws K)):FnOk P w K mg base CX0 2 f fd ["_law_cell_here","_law_n","_law_most"] spGiving:=by
 refine F.ok sc_law_giving (fun vs H Q E h=>?_) (fun cdv A outer s H vs Q E hr h=>?_)
 ·obtain⟨c,n,m,rfl,_⟩:=h
  rfl
 ·obtain⟨c,n,m,rfl,hn,h0,h1,q⟩:=h
  refine⟨_,(pss_one (ps_ret (pe_callTy (r:=rTupOf K) call_tupleK rfl B.tuple_ bt_tuple (pa_cons (pe_df D_law_draws hr (pa_cons (pv 0) (pa_cons (pe_op op_rep (pe_lst (pa_cons (pe_op op_add (pv 2) pe_int) pa_nil)) (pv 1)) pa_nil))) pa_nil)))),?_⟩
  refine⟨_,rfl,_,rfl,_,_,rfl,rfl,small (by show 1<=1000; decide),fun p1 h1'=>?_⟩
  generalize eH1:upd H p1 _=H1
  obtain⟨g1,e1⟩:=new_at eH1 h1'
  have et:((n:Int)).toNat=n:=Int.toNat_natCast n
  refine⟨_,rfl,p1,_,_,rfl,rfl,e1,by lia,by lia,?_,fun p2 h2=>?_⟩
  ·rw[et]
   show 1 * n<=sizeLine
   exact small (by lia)
  rw[et,rep_flat]
  generalize eH2:upd H1 p2 _=H2
  obtain⟨g2,e2⟩:=new_at eH2 h2
  refine⟨c,p2,List.replicate n (m+1),rfl,SqL.of e2,fun z hz=>?_,?_,fun p3 h3=>?_⟩
  ·rw[List.mem_replicate] at hz
   lia
  ·rw[List.length_replicate]
   exact hn
  generalize eH3:upd H2 p3 _=H3
  obtain⟨g3,e3⟩:=new_at eH3 h3
  refine⟨p3,_,rfl,.inl ⟨SqL.of e3,fun p4 h4=>?_⟩⟩
  exact q p4 _ (g1.trans (g2.trans (g3.trans (same_new h4 _)))) ((g1.trans (g2.trans g3)).free h4) upd_same
noncomputable abbrev s_law_same:Stmt:=top 9
theorem sc_law_same:FnScope ["_law_found","_law_due"] ["_law_found","_law_due"] (defScope s_law_same):=⟨rfl,rfl,rfl,by decide+kernel,rfl,by decide+kernel,by decide+kernel⟩
inductive SpSameI (n:Nat) (vs:List V) (H:Hp) (Q:VK):Prop where
 | mk (x y:V) (d:Dm) (z0:vs=[x,y]) (z1:Rep H x d) (z2:Rep H y d) (z3:d.dep < n) (z4:∀ H',Same H H'->Q (.bl true) H'):SpSameI n vs H Q
noncomputable def spSame (n:Nat):Sp:=fun vs H Q _=>SpSameI n vs H Q
theorem decV {x:V}:decide (x=x)=true:=decide_eq_true rfl
theorem repl_all (n:Nat):(List.replicate n true).all (fun b=>b)=true:=by
 induction n with
 | zero=>rfl
 | succ n ih=>rw[List.replicate_succ,List.all_cons,ih]; rfl
theorem repl_map (n:Nat):(List.replicate n true).map V.bl=List.replicate n (V.bl true):=List.map_replicate
theorem ok_law_same {n:Nat} (F:Fun K "_law_same" "_law_same" s_law_same f fd) (B:Bt mg)
  (D_law_same:Df P w K mg base "_law_same" n ["_law_found","_law_due"] (spSame n)):FnOk P w K mg base CX0 (n+1) f fd ["_law_found","_law_due"] (spSame (n+1)):=by
 refine F.ok sc_law_same (fun vs H Q E h=>?_) (fun cdv A outer s H vs Q E hr h=>?_)
 ·obtain⟨x,y,d,rfl,_⟩:=h
  rfl
 ·obtain⟨x,y,d,rfl,rx,ry,hd,q⟩:=h
  refine⟨_,(pss_cons (ps_if (pt_cmp (pc_isN (pv 1))) (pss_one (ps_ret (pe_cmp (pc_isN (pv 0))))) pss_nil)
 (pss_cons (ps_if (pt_val (pe_callB (r:=rIsi K) call_isi rfl B.isinstance_ bt_isinstance (pa_cons (pv 1) (pa_cons (pe_ty B.str_ bt_str) pa_nil)))) (pss_one (ps_ret (pe_and (pe_callB (r:=rIsi K) call_isi rfl B.isinstance_ bt_isinstance (pa_cons (pv 0) (pa_cons (pe_ty B.str_ bt_str) pa_nil))) (pe_one (pe_cmpR op_eq (pv 0) (pv 1) (nomark _)))))) pss_nil)
 (pss_cons (ps_if (pt_val (pe_callB (r:=rIsi K) call_isi rfl B.isinstance_ bt_isinstance (pa_cons (pv 1) (pa_cons (pe_ty B.int_ bt_int) pa_nil)))) (pss_one (ps_ret (pe_and (pe_callB (r:=rIsi K) call_isi rfl B.isinstance_ bt_isinstance (pa_cons (pv 0) (pa_cons (pe_ty B.int_ bt_int) pa_nil))) (pe_and (pe_cmpR op_eq (pe_callB (r:=rIsi K) call_isi rfl B.isinstance_ bt_isinstance (pa_cons (pv 0) (pa_cons (pe_ty B.bool_ bt_bool) pa_nil))) (pe_callB (r:=rIsi K) call_isi rfl B.isinstance_ bt_isinstance (pa_cons (pv 1) (pa_cons (pe_ty B.bool_ bt_bool) pa_nil))) (nomark _)) (pe_one (pe_cmpR op_eq (pv 0) (pv 1) (nomark _))))))) pss_nil)
 (pss_cons (ps_if (PW.pt (pw_or (pt_cmpR op_ne (pe_callB (r:=rIsi K) call_isi rfl B.isinstance_ bt_isinstance (pa_cons (pv 1) (pa_cons (pe_ty B.list_ bt_list) pa_nil))) (pe_callB (r:=rIsi K) call_isi rfl B.isinstance_ bt_isinstance (pa_cons (pv 0) (pa_cons (pe_ty B.list_ bt_list) pa_nil))) (nomark _)) (pw_or1 (pt_cmpR op_ne (pe_callB (r:=rIsi K) call_isi rfl B.isinstance_ bt_isinstance (pa_cons (pv 1) (pa_cons (pe_ty B.tuple_ bt_tuple) pa_nil))) (pe_callB (r:=rIsi K) call_isi rfl B.isinstance_ bt_isinstance (pa_cons (pv 0) (pa_cons (pe_ty B.tuple_ bt_tuple) pa_nil))) (nomark _))))) (pss_one (ps_ret pe_bl)) pss_nil)
 (pss_one (ps_ret (pe_and (pe_cmpR op_eq (pe_callB (r:=rLen K) call_lenK rfl B.len_ bt_len (pa_cons (pv 0) pa_nil)) (pe_callB (r:=rLen K) call_lenK rfl B.len_ bt_len (pa_cons (pv 1) pa_nil)) (nomark _)) (pe_one (pe_callB (r:=rAllB K) (call_allB rfl) rfl B.all_ bt_all (pa_cons (pe_comp (L:=["_law_k"]) (F:=["_law_found","_law_due"]) (cap:=[0,1]) rfl (comp_ok rfl rfl (by kernel_rfl)) (pi_range1 rfl B.range_ (pa_cons (pe_callB (r:=rLen K) call_lenK rfl B.len_ bt_len (pa_cons (pv 1) pa_nil)) pa_nil)) (fun _ _ _ _ _=>(pg_name (i:=0) (comp_nd (by decide+kernel)) rfl (Or.inl rfl))) (fun _ _ _ _ _=>pts_nil) (fun _ _ _ _ _=>(pe_df D_law_same hr (pa_cons (pe_ix (r:=rIx K) ix_seq (pv 1) (pv 0) (fun _ _=>rfl)) (pa_cons (pe_ix (r:=rIx K) ix_seq (pv 2) (pv 0) (fun _ _=>rfl)) pa_nil))))) pa_nil)))))))))),?_⟩
  cases rx with
  | non =>
   cases ry
   refine⟨_,rfl,_,rfl,iteT ?_⟩
   exact⟨_,rfl,q H (Same.refl H)⟩
  | bl b =>
   cases ry
   refine⟨_,rfl,_,rfl,iteF ?_⟩
   refine⟨_,rfl,_,_,_,_,rfl,.bl b,ki_bool_str _,_,rfl,iteF ?_⟩
   refine⟨_,rfl,_,_,_,_,rfl,.bl b,ki_bool_int _,_,rfl,iteT ?_⟩
   refine⟨_,rfl,_,_,_,_,rfl,.bl b,ki_bool_int _,_,rfl,iteT ?_⟩
   refine⟨_,rfl,_,_,_,_,rfl,.bl b,ki_eq _ _,_,rfl,_,_,_,_,rfl,.bl b,ki_eq _ _,rfl,_,rfl,iteT ?_⟩
   refine⟨_,rfl,_,rfl,rfl,?_⟩
   have q':=q H (Same.refl H)
   rw[← decV (x:=V.bl b)] at q'
   exact q'
  | int i =>
   cases ry
   refine⟨_,rfl,_,rfl,iteF ?_⟩
   refine⟨_,rfl,_,_,_,_,rfl,.int i,ki_int_str _,_,rfl,iteF ?_⟩
   refine⟨_,rfl,_,_,_,_,rfl,.int i,ki_eq _ _,_,rfl,iteT ?_⟩
   refine⟨_,rfl,_,_,_,_,rfl,.int i,ki_eq _ _,_,rfl,iteT ?_⟩
   refine⟨_,rfl,_,_,_,_,rfl,.int i,ki_int_bool _,_,rfl,_,_,_,_,rfl,.int i,ki_int_bool _,rfl,_,rfl,iteT ?_⟩
   refine⟨_,rfl,_,rfl,rfl,?_⟩
   have q':=q H (Same.refl H)
   rw[← decV (x:=V.int i)] at q'
   exact q'
  | str z =>
   cases ry
   refine⟨_,rfl,_,rfl,iteF ?_⟩
   refine⟨_,rfl,_,_,_,_,rfl,.str z,ki_eq _ _,_,rfl,iteT ?_⟩
   refine⟨_,rfl,_,_,_,_,rfl,.str z,ki_eq _ _,_,rfl,iteT ?_⟩
   refine⟨_,rfl,_,rfl,rfl,?_⟩
   have q':=q H (Same.refl H)
   rw[← decV (x:=V.str z)] at q'
   exact q'
  | @tup a xs ds ha la ra =>
   cases ry with
   | @tup b ys _ hb lb rb =>
    have ex:=ra.length
    have ey:=rb.length
    have hdl:depL ds < n:=by
     have hd':depL ds+1 < n+1:=by rw[Dm.dep] at hd; exact hd
     lia
    refine⟨_,rfl,_,rfl,iteF ?_⟩
    refine⟨_,rfl,_,_,_,_,rfl,.tup hb,ki_tuple_str _,_,rfl,iteF ?_⟩
    refine⟨_,rfl,_,_,_,_,rfl,.tup hb,ki_tuple_int _,_,rfl,iteF ?_⟩
    refine⟨_,rfl,_,_,_,_,rfl,.tup hb,ki_tuple_list _,_,rfl,_,_,_,_,rfl,.tup ha,ki_tuple_list _,rfl,_,rfl,iteF ?_⟩
    refine⟨_,rfl,_,_,_,_,rfl,.tup hb,ki_eq _ _,_,rfl,_,_,_,_,rfl,.tup ha,ki_eq _ _,rfl,_,rfl,iteF ?_⟩
    refine⟨_,rfl,a,_,rfl,.inr (SqT.of ha),_,rfl,b,_,rfl,.inr (SqT.of hb),rfl,_,rfl,?_⟩
    have ec:decide (V.int (xs.length:Int)=V.int (ys.length:Int))=true:=decide_eq_true (by rw[ex,ey])
    rw[ec]
    refine iteT ?_
    refine⟨_,rfl,b,_,rfl,.inr (SqT.of hb),_,rfl,by lia,by lia,fun D hD=>comp_range (lo:=0) (n:=ys.length) (fun i zs σ' H2=>(∃ v,σ'=[v,some (.ref a),some (.ref b)])/\zs=List.replicate i (V.bl true)/\Same H H2/\H2 D=some (.lst zs))
     ⟨⟨_,rfl⟩,rfl,same_new hD _,upd_same⟩ (fun i zs σ' H2 _ h=>h.2.2.2) ?_ ?_⟩
    ·rintro i zs σ' H2 hi ⟨⟨v,rfl⟩,rfl,sm,hDl⟩
     obtain⟨v1,d1,e1,e2,r1⟩:=ra.get (i:=i) (by lia)
     obtain⟨v2,d2,e3,e4,r2⟩:=rb.get (i:=i) hi
     rw[e2] at e4
     cases e4
     have at1:atI xs (0+(i:Int))=some v1:=by rw[Int.zero_add]; exact atI_nat e1
     have at2:atI ys (0+(i:Int))=some v2:=by rw[Int.zero_add]; exact atI_nat e3
     refine gT ?_
     refine⟨_,rfl,_,rfl,.inr (.inl ⟨a,xs,_,v1,rfl,rfl,SqT.of (sm _ _ ha),at1,_,rfl,_,rfl,.inr (.inl ⟨b,ys,_,v2,rfl,rfl,SqT.of (sm _ _ hb),at2,v1,v2,d1,rfl,r1.mono sm,r2.mono sm,?_,fun H3 s3=>⟨s3 _ _ hDl,?_,⟨_,rfl⟩,?_,same_upd (sm.trans s3) hD _,upd_same⟩⟩)⟩)⟩
     ·exact Nat.lt_of_le_of_lt (depL_get e2) hdl
     ·rw[List.length_replicate]
      exact Nat.lt_of_lt_of_le (show i < 100000 by lia) (by decide)
     ·rw[List.replicate_succ']
    ·rintro zs σ' H2 ⟨_,rfl,sm,hDl⟩
     refine⟨D,List.replicate ys.length true,rfl,SqL.of (by rw[hDl,repl_map]),?_⟩
     rw[repl_all]
     exact q _ sm
  | @lst a xs ds ha la ra =>
   cases ry with
   | @lst b ys _ hb lb rb =>
    have ex:=ra.length
    have ey:=rb.length
    have hdl:depL ds < n:=by
     have hd':depL ds+1 < n+1:=by rw[Dm.dep] at hd; exact hd
     lia
    refine⟨_,rfl,_,rfl,iteF ?_⟩
    refine⟨_,rfl,_,_,_,_,rfl,.lst hb,ki_list_str _,_,rfl,iteF ?_⟩
    refine⟨_,rfl,_,_,_,_,rfl,.lst hb,ki_list_int _,_,rfl,iteF ?_⟩
    refine⟨_,rfl,_,_,_,_,rfl,.lst hb,ki_eq _ _,_,rfl,_,_,_,_,rfl,.lst ha,ki_eq _ _,rfl,_,rfl,iteF ?_⟩
    refine⟨_,rfl,_,_,_,_,rfl,.lst hb,ki_list_tuple _,_,rfl,_,_,_,_,rfl,.lst ha,ki_list_tuple _,rfl,_,rfl,iteF ?_⟩
    refine⟨_,rfl,a,_,rfl,.inl (SqL.of ha),_,rfl,b,_,rfl,.inl (SqL.of hb),rfl,_,rfl,?_⟩
    have ec:decide (V.int (xs.length:Int)=V.int (ys.length:Int))=true:=decide_eq_true (by rw[ex,ey])
    rw[ec]
    refine iteT ?_
    refine⟨_,rfl,b,_,rfl,.inl (SqL.of hb),_,rfl,by lia,by lia,fun D hD=>comp_range (lo:=0) (n:=ys.length) (fun i zs σ' H2=>(∃ v,σ'=[v,some (.ref a),some (.ref b)])/\zs=List.replicate i (V.bl true)/\Same H H2/\H2 D=some (.lst zs))
     ⟨⟨_,rfl⟩,rfl,same_new hD _,upd_same⟩ (fun i zs σ' H2 _ h=>h.2.2.2) ?_ ?_⟩
    ·rintro i zs σ' H2 hi ⟨⟨v,rfl⟩,rfl,sm,hDl⟩
     obtain⟨v1,d1,e1,e2,r1⟩:=ra.get (i:=i) (by lia)
     obtain⟨v2,d2,e3,e4,r2⟩:=rb.get (i:=i) hi
     rw[e2] at e4
     cases e4
     have at1:atI xs (0+(i:Int))=some v1:=by rw[Int.zero_add]; exact atI_nat e1
     have at2:atI ys (0+(i:Int))=some v2:=by rw[Int.zero_add]; exact atI_nat e3
     refine gT ?_
     refine⟨_,rfl,_,rfl,.inl ( ⟨a,xs,_,v1,rfl,rfl,SqL.of (sm _ _ ha),at1,_,rfl,_,rfl,.inl ( ⟨b,ys,_,v2,rfl,rfl,SqL.of (sm _ _ hb),at2,v1,v2,d1,rfl,r1.mono sm,r2.mono sm,?_,fun H3 s3=>⟨s3 _ _ hDl,?_,⟨_,rfl⟩,?_,same_upd (sm.trans s3) hD _,upd_same⟩⟩)⟩)⟩
     ·exact Nat.lt_of_le_of_lt (depL_get e2) hdl
     ·rw[List.length_replicate]
      exact Nat.lt_of_lt_of_le (show i < 100000 by lia) (by decide)
     ·rw[List.replicate_succ']
    ·rintro zs σ' H2 ⟨_,rfl,sm,hDl⟩
     refine⟨D,List.replicate ys.length true,rfl,SqL.of (by rw[hDl,repl_map]),?_⟩
     rw[repl_all]
     exact q _ sm
theorem same_none:FnOk P w K mg base CX0 0 f fd ["_law_found","_law_due"] (spSame 0):=by
 have no:∀ vs H Q E,¬ spSame 0 vs H Q E:=fun vs H Q E h=>by
  obtain⟨x,y,d,_,_,_,h1,_⟩:=h
  lia
 exact⟨fun vs H Q E h=>absurd h (no vs H Q E),fun A outer s H args us vs Q E _ _ _ _ h=>absurd h (no vs H Q E)⟩
theorem gN {i:Nat} {x:V} {σ:St} {H:Hp} {P:St->Hp->Prop} (h:P (σ.set i (some x)) H):gName i x σ H P:=h
inductive GRep (H:Hp):List V->List (List Int)->Prop where
 | nil:GRep H [] []
 | cons {a:Addr} {g:List Int} {us:List V} {gs:List (List Int)}:H a=some (.tup (g.map V.int))->g.length<=1000->GRep H us gs->GRep H (.ref a::us) (g::gs)
theorem GRep.monoT {H H':Hp} (e:∀ a xs,H a=some (HO.tup xs)->H' a=some (HO.tup xs)):∀ {us:List V} {gs:List (List Int)},GRep H us gs->GRep H' us gs
 | _,_,.nil=>.nil
 | _,_,.cons h l r=>.cons (e _ _ h) l (GRep.monoT e r)
theorem GRep.mono {H H':Hp} (e:Same H H') {us:List V} {gs:List (List Int)} (h:GRep H us gs):GRep H' us gs:=h.monoT fun a xs q=>e a _ q
theorem GRep.length {H:Hp}:∀ {us:List V} {gs:List (List Int)},GRep H us gs->us.length=gs.length
 | _,_,.nil=>rfl
 | _,_,.cons _ _ r=>by rw[List.length_cons,List.length_cons,GRep.length r]
theorem GRep.get {H:Hp}:∀ {us:List V} {gs:List (List Int)} {i:Nat} {g:List Int},GRep H us gs->gs[i]? = some g->∃ a,us[i]? = some (.ref a)/\H a=some (.tup (g.map V.int))
 | _,_,_,_,.nil,h=>by simp at h
 | _,_,0,_,.cons h _ _,e=>by
  cases (show some _=some _ from e)
  exact⟨_,rfl,h⟩
 | _,_,i+1,_,.cons _ _ r,e=>by
  obtain⟨a,h1,h2⟩:=GRep.get (i:=i) r (by simpa using e)
  exact⟨a,by simpa using h1,h2⟩
theorem GRep.snoc {H:Hp} {a:Addr} {g:List Int} (h:H a=some (.tup (g.map V.int))) (hl:g.length<=1000):∀ {us:List V} {gs:List (List Int)},GRep H us gs->GRep H (us++[.ref a]) (gs++[g])
 | _,_,.nil=>.cons h hl .nil
 | _,_,.cons x y r=>.cons x y (GRep.snoc h hl r)
noncomputable def gD (g:List Int):Dm:=.tup (g.map Dm.int)
theorem GRep.repL {H:Hp}:∀ {us:List V} {gs:List (List Int)},GRep H us gs->RepL H us (gs.map gD)
 | _,_,.nil=>.nil
 | _,_,.cons h l r=>.cons (rep_ints h l) (GRep.repL r)
theorem depL_gD:∀ gs:List (List Int),depL (gs.map gD)<=1
 | []=>by rw[List.map_nil,depL]; decide
 | g::gs=>by
  have:=depL_gD gs
  rw[List.map_cons,depL]
  have:(gD g).dep=1:=dep_tup g
  lia
noncomputable def abv:List Int->List Int->Bool
 | n::ns,m::ms=>decide (m<=n) && abv ns ms
 | _,_=>true
theorem abv_take:∀ {ns ms:List Int} {i:Nat} {n m:Int},ns[i]? = some n->ms[i]? = some m->abv (ns.take (i+1)) (ms.take (i+1))=(abv (ns.take i) (ms.take i) && decide (m<=n))
 | [],_,_,_,_,h,_=>by simp at h
 | _::_,[],_,_,_,_,h=>by simp at h
 | a::ns,b::ms,0,n,m,h1,h2=>by
  cases (show some a=some n from h1)
  cases (show some b=some m from h2)
  rw[List.take_succ_cons,List.take_succ_cons,abv,List.take_zero,List.take_zero,List.take_zero,abv]
  ·rw[Bool.and_true]
   rfl
  ·simp
 | a::ns,b::ms,i+1,n,m,h1,h2=>by
  have ih:=abv_take (ns:=ns) (ms:=ms) (i:=i) (n:=n) (m:=m) (by simpa using h1) (by simpa using h2)
  rw[List.take_succ_cons,List.take_succ_cons,abv,ih,List.take_succ_cons,List.take_succ_cons,abv,Bool.and_assoc]
theorem abv_false:∀ {ns ms:List Int} {i:Nat} {n m:Int},ns[i]? = some n->ms[i]? = some m->n < m->abv ns ms=false
 | [],_,_,_,_,h,_,_=>by simp at h
 | _::_,[],_,_,_,_,h,_=>by simp at h
 | a::ns,b::ms,0,n,m,h1,h2,h=>by
  cases (show some a=some n from h1)
  cases (show some b=some m from h2)
  rw[abv,decide_eq_false (by lia),Bool.false_and]
 | a::ns,b::ms,i+1,n,m,h1,h2,h=>by
  rw[abv,abv_false (ns:=ns) (ms:=ms) (i:=i) (by simpa using h1) (by simpa using h2) h,Bool.and_false]
inductive SpAboveI (K:W.Frag) (vs:List V) (H:Hp) (Q:VK):Prop where
 | mk (a b:Addr) (ns ms:List Int) (z0:vs=[.ref a,.ref b]) (z1:SqT K H a (ns.map V.int)) (z2:SqT K H b (ms.map V.int)) (z3:ns.length=ms.length) (z4:∀ H',Same H H'->Q (.bl (abv ns ms)) H'):SpAboveI K vs H Q
noncomputable def spAbove (K:W.Frag):Sp:=fun vs H Q _=>SpAboveI K vs H Q
noncomputable abbrev s_above:Stmt:=top 1
theorem sc_above:FnScope ["one","other","step","least"] ["one","other"] (defScope s_above):=⟨rfl,rfl,rfl,by decide+kernel,rfl,by decide+kernel,by decide+kernel⟩
theorem ok_above (F:Fun K "above" "above" s_above f fd) (B:Bt mg) :
  FnOk P w K mg base CX0 1 f fd ["one","other"] (spAbove K):=by
 refine F.ok sc_above (fun vs H Q E h=>?_) (fun cdv A outer s H vs Q E hr h=>?_)
 ·obtain⟨a,b,ns,ms,rfl,_⟩:=h
  rfl
 ·obtain⟨a,b,ns,ms,rfl,hA,hB,hl,q⟩:=h
  refine⟨_,(pss_cons (ps_for PassesOwn.never rfl (pi_zip rfl B.zip_ (pa_cons (pv 0) (pa_cons (pv 1) pa_nil))) (pg_tupK (K:=K) 2 rfl rfl (pgs_cons (pg_name (i:=2) sc_above.nd rfl (Or.inl rfl)) (pgs_cons (pg_name (i:=3) sc_above.nd rfl (Or.inl rfl)) pgs_nil))) (pss_one (ps_if (pt_cmpR op_lt (pv 2) (pv 3) (nomark _)) (pss_one (ps_ret pe_bl)) pss_nil)))
 (pss_one (ps_ret pe_bl))),?_⟩
  refine⟨_,rfl,_,rfl,a,b,_,_,rfl,hA,hB,for_zip (K:=K) (a:=a) (b:=b) (xs:=ns.map V.int) (ys:=ms.map V.int) (by rw[List.length_map,List.length_map]; exact hl)
   (fun i σ H2=>(∃ u v,σ=[some (.ref a),some (.ref b),u,v])/\Same H H2/\abv (ns.take i) (ms.take i)=true) ⟨⟨_,_,rfl⟩,Same.refl H,?_⟩ (fun i σ H2 _ h=>⟨sameT h.2.1 hA,sameT h.2.1 hB⟩) ?_ ?_⟩
  ·rw[List.take_zero,List.take_zero,abv]
   simp
  ·rintro i x y p σ H2 hx hy hp ⟨⟨u,v,rfl⟩,sm,ab⟩
   obtain⟨n,hn,rfl⟩:=int_at hx
   obtain⟨m,hm,rfl⟩:=int_at hy
   refine⟨p,_,rfl,SqT.of upd_same,rfl,_,_,rfl,_,_,rfl,rfl,?_⟩
   refine⟨_,rfl,_,rfl,_,_,rfl,rfl,_,rfl,?_⟩
   have sm2:=sm.trans (same_new hp (.tup [.int n,.int m]))
   refine ite2 (fun c=>?_) (fun c=>?_)
   ·have q':=q _ sm2
    rw[abv_false hn hm (of_decide_eq_true c)] at q'
    exact q'
   ·refine⟨⟨_,_,rfl⟩,sm2,?_⟩
    have c':¬ n < m:=fun z=>c (decide_eq_true z)
    rw[abv_take hn hm,ab,decide_eq_true (by lia)]
    rfl
  ·rintro σ H2 ⟨⟨u,v,rfl⟩,sm,ab⟩
   have q':=q _ sm
   rw[List.length_map,List.take_length,hl,List.take_length] at ab
   rw[ab] at q'
   exact q'
theorem zip_take {α β γ:Type} (f:α->β->γ) {xs:List α} {ys:List β} {i:Nat} {x:α} {y:β} (h1:xs[i]? = some x) (h2:ys[i]? = some y):List.zipWith f (xs.take (i+1)) (ys.take (i+1))=List.zipWith f (xs.take i) (ys.take i)++[f x y]:=by
 have l1:i < xs.length:=(List.getElem?_eq_some_iff.mp h1).1
 have l2:i < ys.length:=(List.getElem?_eq_some_iff.mp h2).1
 rw[List.take_add_one,List.take_add_one,h1,h2]
 show List.zipWith f (xs.take i++[x]) (ys.take i++[y])=_
 rw[List.zipWith_append (by rw[List.length_take,List.length_take]; lia)]
 rfl
noncomputable abbrev s_law_above:Stmt:=top 11
theorem sc_law_above:FnScope ["_law_one","_law_other"] ["_law_one","_law_other"] (defScope s_law_above):=⟨rfl,rfl,rfl,by decide+kernel,rfl,by decide+kernel,by decide+kernel⟩
noncomputable def geB (n m:Int):Bool:=decide (m<=n)
theorem abv_all : ∀ {ns ms : List Int}, ns.length = ms.length → (List.zipWith geB ns ms).all (fun b => b) = abv ns ms
  | [], [], _ => by rw [abv]; · rfl
                    all_goals simp
  | n :: ns, m :: ms, h => by
    rw [List.zipWith_cons_cons, List.all_cons, abv, abv_all (by simpa using h)]
    rfl
inductive SpAboveLI (K:W.Frag) (vs:List V) (H:Hp) (Q:VK):Prop where
 | mk (a b:Addr) (ns ms:List Int) (z0:vs=[.ref a,.ref b]) (z1:SqT K H a (ns.map V.int)) (z2:SqT K H b (ms.map V.int)) (z3:ns.length=ms.length) (z4:ns.length<=1000) (z5:∀ H',Same H H'->Q (.bl (abv ns ms)) H'):SpAboveLI K vs H Q
noncomputable def spAboveL (K:W.Frag):Sp:=fun vs H Q _=>SpAboveLI K vs H Q
theorem ok_law_above (F:Fun K "_law_above" "_law_above" s_law_above f fd) (B:Bt mg) :
  FnOk P w K mg base CX0 1 f fd ["_law_one","_law_other"] (spAboveL K):=by
 refine F.ok sc_law_above (fun vs H Q E h=>?_) (fun cdv A outer s H vs Q E hr h=>?_)
 ·obtain⟨a,b,ns,ms,rfl,_⟩:=h
  rfl
 ·obtain⟨a,b,ns,ms,rfl,hA,hB,hl,hk,q⟩:=h
  refine⟨_,(pss_one (ps_ret (pe_callB (r:=rAllB K) (call_allB rfl) rfl B.all_ bt_all (pa_cons (pe_comp (L:=["_law_at"]) (F:=["_law_one","_law_other"]) (cap:=[0,1]) rfl (comp_ok rfl rfl (by kernel_rfl)) (pi_range1 rfl B.range_ (pa_cons (pe_callB (r:=rLen K) call_lenK rfl B.len_ bt_len (pa_cons (pv 0) pa_nil)) pa_nil)) (fun _ _ _ _ _=>(pg_name (i:=0) (comp_nd (by decide+kernel)) rfl (Or.inl rfl))) (fun _ _ _ _ _=>pts_nil) (fun _ _ _ _ _=>(pe_cmpR op_ge (pe_ix (r:=rIxT K) ix_tup (pv 1) (pv 0) (fun _ _=>rfl)) (pe_ix (r:=rIxT K) ix_tup (pv 2) (pv 0) (fun _ _=>rfl)) (nomark _)))) pa_nil)))),?_⟩
  have ll:(ns.map V.int).length=ns.length:=List.length_map _
  refine⟨_,rfl,a,_,rfl,.inr hA,_,rfl,by lia,by lia,fun D hD=>comp_range (lo:=0) (n:=(ns.map V.int).length) (fun i zs σ' H2=>(∃ v,σ'=[v,some (.ref a),some (.ref b)])/\zs=(List.zipWith geB (ns.take i) (ms.take i)).map V.bl/\Same H H2/\H2 D=some (.lst zs))
   ⟨⟨_,rfl⟩,rfl,same_new hD _,upd_same⟩ (fun i zs σ' H2 _ h=>h.2.2.2) ?_ ?_⟩
  ·rintro i zs σ' H2 hi ⟨⟨v,rfl⟩,e1,sm,hDl⟩
   have jn:i < ns.length:=by lia
   have jm:i < ms.length:=by lia
   have at1:atI (ns.map V.int) (0+(i:Int))=some (.int ns[i]):=by rw[Int.zero_add]; exact at_int jn
   have at2:atI (ms.map V.int) (0+(i:Int))=some (.int ms[i]):=by rw[Int.zero_add]; exact at_int jm
   refine gT ?_
   refine⟨_,rfl,_,rfl,a,_,_,_,rfl,rfl,sameT sm hA,at1,_,rfl,_,rfl,b,_,_,_,rfl,rfl,sameT sm hB,at2,_,_,rfl,rfl,hDl,?_,⟨_,rfl⟩,?_,same_upd sm hD _,upd_same⟩
   ·rw[e1,List.length_map,List.length_zipWith,List.length_take]
    exact small1000 (by lia)
   ·rw[e1,zip_take geB (List.getElem?_eq_getElem jn) (List.getElem?_eq_getElem jm),List.map_append]
    rfl
  ·rintro zs σ' H2 ⟨_,e1,sm,hDl⟩
   refine⟨D,List.zipWith geB ns ms,rfl,SqL.of (by rw[hDl,e1,ll,List.take_length,hl,List.take_length]),?_⟩
   rw[abv_all hl]
   exact q H2 sm
theorem GRep.at {H:Hp}:∀ {us:List V} {gs:List (List Int)} {i:Nat} {v:V},GRep H us gs->us[i]? = some v->∃ a g,v = .ref a/\gs[i]? = some g/\H a=some (.tup (g.map V.int))/\g.length<=1000
 | _,_,_,_,.nil,h=>by simp at h
 | _,_,0,_,.cons h l _,e=>by
  cases (show some _=some _ from e)
  exact⟨_,_,rfl,rfl,h,l⟩
 | _,_,i+1,_,.cons _ _ r,e=>by
  obtain⟨a,g,h1,h2,h3⟩:=GRep.at (i:=i) r (by simpa using e)
  exact⟨a,g,h1,by simpa using h2,h3⟩
noncomputable abbrev s_above_one_of:Stmt:=top 2
noncomputable abbrev s_lowest:Stmt:=top 4
theorem sc_above_one_of:FnScope ["giving","others","other"] ["giving","others"] (defScope s_above_one_of):=⟨rfl,rfl,rfl,by decide+kernel,rfl,by decide+kernel,by decide+kernel⟩
theorem sc_lowest:FnScope ["rows","found","row"] ["rows"] (defScope s_lowest):=⟨rfl,rfl,rfl,by decide+kernel,rfl,by decide+kernel,by decide+kernel⟩
noncomputable def abO (g:List Int) (gs:List (List Int)):Bool:=gs.any fun x=>abv g x
inductive SpAboveOneI (vs:List V) (H:Hp) (Q:VK):Prop where
 | mk (a b:Addr) (g:List Int) (us:List V) (gs:List (List Int)) (z0:vs=[.ref a,.ref b]) (z1:H a=some (.tup (g.map V.int))) (z2:H b=some (.lst us)) (z3:GRep H us gs) (z4:(∀ x∈gs,x.length=g.length)) (z5:∀ H',Same H H'->Q (.bl (abO g gs)) H'):SpAboveOneI  vs H Q
noncomputable def spAboveOne:Sp:=fun vs H Q _=>SpAboveOneI  vs H Q
theorem ok_above_one_of (F:Fun K "above_one_of" "above_one_of" s_above_one_of f fd) (B:Bt mg)
  (D_above:Df P w K mg base "above" 1 ["one","other"] (spAbove K)):FnOk P w K mg base CX0 2 f fd ["giving","others"] spAboveOne:=by
 refine F.ok sc_above_one_of (fun vs H Q E h=>?_) (fun cdv A outer s H vs Q E hr h=>?_)
 ·obtain⟨a,b,g,us,gs,rfl,_⟩:=h
  rfl
 ·obtain⟨a,b,g,us,gs,rfl,hA,hB,gr,hl,q⟩:=h
  refine⟨_,(pss_cons (ps_for PassesOwn.never rfl (pi_list (pv 1)) (pg_name (i:=2) sc_above_one_of.nd rfl (Or.inl rfl)) (pss_one (ps_if (pt_val (pe_df D_above hr (pa_cons (pv 0) (pa_cons (pv 2) pa_nil)))) (pss_one (ps_ret pe_bl)) pss_nil)))
 (pss_one (ps_ret pe_bl))),?_⟩
  refine⟨_,rfl,b,rfl,⟨_,SqL.of hB⟩,for_list (K:=K) (a:=b) (xs:=us) (fun i σ H2=>(∃ u,σ=[some (.ref a),some (.ref b),u])/\Same H H2/\abO g (gs.take i)=false) ⟨⟨_,rfl⟩,Same.refl H,rfl⟩ (fun i σ H2 _ h=>SqL.of (h.2.1 _ _ hB)) ?_ ?_⟩
  ·rintro i x σ H2 hx ⟨⟨u,rfl⟩,sm,ab⟩
   obtain⟨ra,y,rfl,hy,er,_⟩:=gr.at hx
   have my:=List.mem_of_getElem? hy
   refine⟨_,rfl,_,rfl,a,ra,g,y,rfl,SqT.of (sm _ _ hA),SqT.of (sm _ _ er),(hl y my).symm,fun H3 s3=>⟨_,rfl,?_⟩⟩
   cases e:abv g y with
   | true =>
    have q':=q H3 (sm.trans s3)
    rw[show abO g gs=true from List.any_eq_true.mpr ⟨y,my,e⟩] at q'
    exact iteT q'
   | false =>
    refine iteF ⟨⟨_,rfl⟩,sm.trans s3,?_⟩
    unfold abO at ab ⊢
    rw[List.take_add_one,hy,List.any_append,ab,Option.toList,List.any_cons,List.any_nil,e]
    rfl
  ·rintro σ H2 ⟨⟨u,rfl⟩,sm,ab⟩
   have q':=q H2 sm
   rw[gr.length,List.take_length] at ab
   rw[ab] at q'
   exact q'
noncomputable def lwS (fo:List (List Int)) (g:List Int):List (List Int):=if abO g fo=true then fo else fo++[g]
noncomputable def lowF (gs:List (List Int)):List (List Int):=gs.foldl lwS []
theorem lw_take {gs:List (List Int)} {i:Nat} {g:List Int} (h:gs[i]? = some g):lowF (gs.take (i+1))=lwS (lowF (gs.take i)) g:=by
 unfold lowF
 rw[List.take_add_one,h,List.foldl_append]
 rfl
theorem lw_sub:∀ (gs fo:List (List Int)) {g:List Int},g∈gs.foldl lwS fo->g∈fo∨g∈gs
 | [],_,_,h=>.inl h
 | x::gs,fo,g,h=>by
  rcases lw_sub gs _ (g:=g) h with h | h
  ·unfold lwS at h
   split at h
   ·exact .inl h
   ·rcases List.mem_append.mp h with h | h
    ·exact .inl h
    ·exact .inr (by rw[List.mem_singleton.mp h]; exact List.mem_cons_self)
  ·exact .inr (List.mem_cons_of_mem _ h)
theorem low_mem {gs:List (List Int)} {g:List Int} (h:g∈lowF gs):g∈gs:=(lw_sub gs [] h).elim (fun z=>by cases z) id
theorem lw_len (gs:List (List Int)):∀ fo:List (List Int),(gs.foldl lwS fo).length<=fo.length+gs.length:=by
 induction gs with
 | nil=>intro fo; exact Nat.le_refl _
 | cons g gs ih =>
  intro fo
  have:=ih (lwS fo g)
  have:(lwS fo g).length<=fo.length+1:=by
   unfold lwS
   split
   ·lia
   ·simp
  rw[List.foldl_cons,List.length_cons]
  lia
theorem low_len (gs:List (List Int)):(lowF gs).length<=gs.length:=by
 have:=lw_len gs []
 rw[List.length_nil] at this
 exact Nat.le_trans this (by lia)
theorem GRep.prs {H:Hp}:∀ {us:List V} {gs:List (List Int)},GRep H us gs->∃ ps:List (Addr × List Int),us=ps.map (fun p=>V.ref p.1)/\gs=ps.map (·.2)/\∀ p∈ps,H p.1=some (.tup (p.2.map V.int))
 | _,_,.nil=>⟨[],rfl,rfl,fun p hp=>by cases hp⟩
 | _,_,.cons (a:=a) (g:=g) h _ r=>by
  obtain⟨ps,rfl,rfl,h3⟩:=GRep.prs r
  refine⟨(a,g)::ps,rfl,rfl,fun p hp=>?_⟩
  rcases List.mem_cons.mp hp with rfl | hp
  ·exact h
  ·exact h3 p hp
theorem GRep.ofPs {H:Hp}:∀ {ps:List (Addr × List Int)},(∀ p∈ps,H p.1=some (.tup (p.2.map V.int)))->(∀ p∈ps,p.2.length<=1000)->GRep H (ps.map fun p=>V.ref p.1) (ps.map (·.2))
 | [],_,_=>.nil
 | p::ps,h,l=>.cons (h p List.mem_cons_self) (l p List.mem_cons_self) (GRep.ofPs (fun q m=>h q (List.mem_cons_of_mem _ m)) fun q m=>l q (List.mem_cons_of_mem _ m))
theorem GRep.len1 {H:Hp} {g:List Int}:∀ {us:List V} {gs:List (List Int)},GRep H us gs->g∈gs->g.length<=1000
 | _,_,.cons _ l r,m=>by
  rcases List.mem_cons.mp m with rfl | m
  ·exact l
  ·exact GRep.len1 r m
inductive SpLowestI (vs:List V) (H:Hp) (Q:VK):Prop where
 | mk (a:Addr) (n:Nat) (us:List V) (gs:List (List Int)) (z0:vs=[.ref a]) (z1:H a=some (.lst us)) (z2:GRep H us gs) (z3:gs.length < 64) (z4:(∀ x∈gs,x.length=n)) (z5:1<=n) (z6:∀ qs:List (List Int),qs.Perm gs->(qs.Pairwise fun a b=>HT.lexLt b a=false)->∀ (r:Addr) (ws:List V) (H':Hp),Same H H'->H r=none->H' r=some (.lst ws)->GRep H' ws (lowF qs)->Q (.ref r) H'):SpLowestI  vs H Q
noncomputable def spLowest:Sp:=fun vs H Q _=>SpLowestI  vs H Q
theorem ok_lowest (F:Fun K "lowest" "lowest" s_lowest f fd) (B:Bt mg)
  (D_above_one_of:Df P w K mg base "above_one_of" 2 ["giving","others"] spAboveOne):FnOk P w K mg base CX0 3 f fd ["rows"] spLowest:=by
 refine F.ok sc_lowest (fun vs H Q E h=>?_) (fun cdv A outer s H vs Q E hr h=>?_)
 ·obtain⟨a,n,us,gs,rfl,_⟩:=h
  rfl
 ·obtain⟨a,n,us0,gs0,rfl,hA,gr0,lg,hn0,n1,q⟩:=h
  refine⟨_,(pss_cons (ps_set (i:=1) sc_lowest.nd rfl (Or.inl rfl) (pe_lst pa_nil))
 (pss_cons (ps_for PassesOwn.never rfl (pi_list (pe_callB (r:=rSortTT K) call_sortTT rfl B.sorted_ (by decide+kernel) (pa_cons (pv 0) pa_nil))) (pg_name (i:=2) sc_lowest.nd rfl (Or.inl rfl)) (pss_one (ps_if (pt_not (pt_val (pe_df D_above_one_of hr (pa_cons (pv 2) (pa_cons (pv 1) pa_nil))))) (pss_one (ps_expr (pe_bm PySem.F.plainAttrs_list PySem.F.slot_list_append PySem.F.type_list_append mt_append (pv 1) (pa_cons (pv 2) pa_nil)))) pss_nil)))
 (pss_one (ps_ret (pv 1))))),?_⟩
  refine⟨small (by show 0<=1000; decide),fun r h0=>?_⟩
  generalize eH1:upd H r _=H1
  obtain⟨g1,e1⟩:=new_at eH1 h0
  obtain⟨ps0,eu0,eg0,hps0⟩:=gr0.prs
  subst eg0
  rw[List.length_map] at lg
  refine⟨_,rfl,a,ps0,rfl,by rw[← eu0]; exact SqL.of (g1 _ _ hA),lg,fun p hp=>⟨SqT.of (g1 _ _ (hps0 p hp)),fun z=>?_⟩,fun ps pp pw l hl=>?_⟩
  ·have:=hn0 p.2 (List.mem_map.mpr ⟨p,hp,rfl⟩)
   rw[z] at this
   simp at this
   lia
  have hps:∀ p∈ps,H p.1=some (.tup (p.2.map V.int)):=fun p hp=>hps0 p (pp.mem_iff.mp hp)
  replace q:=q (ps.map (·.2)) (pp.map _) (List.pairwise_map.mpr pw)
  have hn:∀ x∈ps.map (·.2),x.length=n:=fun x hx=>hn0 x ((pp.map (·.2)).mem_iff.mp hx)
  have gr:GRep H (ps.map fun p=>V.ref p.1) (ps.map (·.2)):=GRep.ofPs hps fun p hp=>GRep.len1 gr0 ((pp.map (·.2)).mem_iff.mp (List.mem_map.mpr ⟨p,hp,rfl⟩))
  have lp:(ps.map (·.2)).length < 64:=by rw[List.length_map,pp.length_eq]; exact lg
  generalize ps.map (fun p=>V.ref p.1)=us at gr ⊢
  generalize ps.map (·.2)=gs at gr q hn lp ⊢
  generalize eH2:upd H1 l _=H2
  obtain⟨g2,e2⟩:=new_at eH2 hl
  have s02:=g1.trans g2
  have gr2:=gr.mono s02
  refine⟨l,rfl,⟨_,SqL.of e2⟩,for_list (K:=K) (a:=l) (xs:=us) (fun i σ Hx=>(∃ u,σ=[some (.ref a),some (.ref r),u])/\∃ ws,Same H Hx/\(∀ b xs,H2 b=some (HO.tup xs)->Hx b=some (HO.tup xs))/\Hx l=some (.lst us)/\Hx r=some (.lst ws)/\GRep Hx ws (lowF (gs.take i)))
   ⟨⟨_,rfl⟩,[],s02,fun _ _ h=>h,e2,g2 _ _ e1,by rw[List.take_zero]; exact .nil⟩ (fun i σ Hx _ h=>by obtain⟨_,_,_,h,_⟩:=h.2; exact SqL.of h) ?_ ?_⟩
  ·rintro i x σ Hx hx ⟨⟨u,rfl⟩,ws,sx,tx,elx,erx,gw⟩
   obtain⟨ra,g,rfl,hg,er,l1⟩:=gr2.at hx
   have era:=tx _ _ er
   have mg':=List.mem_of_getElem? hg
   refine⟨_,rfl,_,rfl,ra,r,g,ws,_,rfl,era,erx,gw,fun y hy=>?_,fun Hy sy=>⟨_,rfl,?_⟩⟩
   ·have:=List.mem_of_mem_take (low_mem hy)
    rw[hn _ this,hn _ mg']
   have lw:=gw.length
   have ll:=low_len (gs.take i)
   rw[List.length_take] at ll
   have sHy:=sx.trans sy
   have rl:l≠r:=fun z=>by
    rw[z,e1] at hl
    cases hl
   cases e:abO g (lowF (gs.take i)) with
   | true =>
    refine iteF ⟨⟨_,rfl⟩,ws,sHy,fun b xs h=>sy _ _ (tx b xs h),sy _ _ elx,sy _ _ erx,?_⟩
    rw[lw_take hg]
    unfold lwS
    rw[if_pos e]
    exact gw.mono sy
   | false =>
    refine iteT ?_
    refine⟨_,rfl,.inl ⟨rfl,_,SqL.of (sy _ _ erx)⟩,_,rfl,r,_,_,rfl,rfl,sy _ _ erx,Nat.lt_of_le_of_lt (show ws.length<=5000 by lia) (by decide),?_⟩
    have tk:=tup_keep (zs':=ws++[.ref ra]) (sy _ _ erx)
    refine⟨⟨_,rfl⟩,ws++[.ref ra],same_upd sHy h0 _,fun b xs h=>tk _ _ (sy _ _ (tx b xs h)),by rw[upd_ne rl]; exact sy _ _ elx,upd_same,?_⟩
    rw[lw_take hg]
    unfold lwS
    rw[if_neg (by rw[e]; decide)]
    exact GRep.snoc (tk _ _ (sy _ _ era)) l1 ((gw.mono sy).monoT tk)
  ·rintro σ Hx ⟨⟨u,rfl⟩,ws,sx,tx,elx,erx,gw⟩
   rw[gr.length,List.take_length] at gw
   exact⟨_,rfl,q r ws Hx sx h0 erx gw⟩
noncomputable abbrev s_below_one_of:Stmt:=top 3
noncomputable abbrev s_highest:Stmt:=top 5
theorem sc_below_one_of:FnScope ["giving","others","other"] ["giving","others"] (defScope s_below_one_of):=⟨rfl,rfl,rfl,by decide+kernel,rfl,by decide+kernel,by decide+kernel⟩
theorem sc_highest:FnScope ["rows","found","row"] ["rows"] (defScope s_highest):=⟨rfl,rfl,rfl,by decide+kernel,rfl,by decide+kernel,by decide+kernel⟩
noncomputable def blO (g:List Int) (gs:List (List Int)):Bool:=gs.any fun x=>abv x g
inductive SpBelowOneI (vs:List V) (H:Hp) (Q:VK):Prop where
 | mk (a b:Addr) (g:List Int) (us:List V) (gs:List (List Int)) (z0:vs=[.ref a,.ref b]) (z1:H a=some (.tup (g.map V.int))) (z2:H b=some (.lst us)) (z3:GRep H us gs) (z4:(∀ x∈gs,x.length=g.length)) (z5:∀ H',Same H H'->Q (.bl (blO g gs)) H'):SpBelowOneI  vs H Q
noncomputable def spBelowOne:Sp:=fun vs H Q _=>SpBelowOneI  vs H Q
theorem ok_below_one_of (F:Fun K "below_one_of" "below_one_of" s_below_one_of f fd) (B:Bt mg)
  (D_above:Df P w K mg base "above" 1 ["one","other"] (spAbove K)):FnOk P w K mg base CX0 2 f fd ["giving","others"] spBelowOne:=by
 refine F.ok sc_below_one_of (fun vs H Q E h=>?_) (fun cdv A outer s H vs Q E hr h=>?_)
 ·obtain⟨a,b,g,us,gs,rfl,_⟩:=h
  rfl
 ·obtain⟨a,b,g,us,gs,rfl,hA,hB,gr,hl,q⟩:=h
  refine⟨_,(pss_cons (ps_for PassesOwn.never rfl (pi_list (pv 1)) (pg_name (i:=2) sc_below_one_of.nd rfl (Or.inl rfl)) (pss_one (ps_if (pt_val (pe_df D_above hr (pa_cons (pv 2) (pa_cons (pv 0) pa_nil)))) (pss_one (ps_ret pe_bl)) pss_nil)))
 (pss_one (ps_ret pe_bl))),?_⟩
  refine⟨_,rfl,b,rfl,⟨_,SqL.of hB⟩,for_list (K:=K) (a:=b) (xs:=us) (fun i σ H2=>(∃ u,σ=[some (.ref a),some (.ref b),u])/\Same H H2/\blO g (gs.take i)=false) ⟨⟨_,rfl⟩,Same.refl H,rfl⟩ (fun i σ H2 _ h=>SqL.of (h.2.1 _ _ hB)) ?_ ?_⟩
  ·rintro i x σ H2 hx ⟨⟨u,rfl⟩,sm,ab⟩
   obtain⟨ra,y,rfl,hy,er,_⟩:=gr.at hx
   have my:=List.mem_of_getElem? hy
   refine⟨_,rfl,_,rfl,ra,a,y,g,rfl,SqT.of (sm _ _ er),SqT.of (sm _ _ hA),hl y my,fun H3 s3=>⟨_,rfl,?_⟩⟩
   cases e:abv y g with
   | true =>
    have q':=q H3 (sm.trans s3)
    rw[show blO g gs=true from List.any_eq_true.mpr ⟨y,my,e⟩] at q'
    exact iteT q'
   | false =>
    refine iteF ⟨⟨_,rfl⟩,sm.trans s3,?_⟩
    unfold blO at ab ⊢
    rw[List.take_add_one,hy,List.any_append,ab,Option.toList,List.any_cons,List.any_nil,e]
    rfl
  ·rintro σ H2 ⟨⟨u,rfl⟩,sm,ab⟩
   have q':=q H2 sm
   rw[gr.length,List.take_length] at ab
   rw[ab] at q'
   exact q'
noncomputable def hgS (fo:List (List Int)) (g:List Int):List (List Int):=if blO g fo=true then fo else fo++[g]
noncomputable def hgL (gs:List (List Int)):List (List Int):=gs.foldl hgS []
noncomputable def highF (gs:List (List Int)):List (List Int):=(hgL gs.reverse).reverse
theorem hg_take {gs:List (List Int)} {i:Nat} {g:List Int} (h:gs[i]? = some g):hgL (gs.take (i+1))=hgS (hgL (gs.take i)) g:=by
 unfold hgL
 rw[List.take_add_one,h,List.foldl_append]
 rfl
theorem hg_sub:∀ (gs fo:List (List Int)) {g:List Int},g∈gs.foldl hgS fo->g∈fo∨g∈gs
 | [],_,_,h=>.inl h
 | x::gs,fo,g,h=>by
  rcases hg_sub gs _ (g:=g) h with h | h
  ·unfold hgS at h
   split at h
   ·exact .inl h
   ·rcases List.mem_append.mp h with h | h
    ·exact .inl h
    ·exact .inr (by rw[List.mem_singleton.mp h]; exact List.mem_cons_self)
  ·exact .inr (List.mem_cons_of_mem _ h)
theorem hg_mem {gs:List (List Int)} {g:List Int} (h:g∈hgL gs):g∈gs:=(hg_sub gs [] h).elim (fun z=>by cases z) id
theorem hg_len (gs:List (List Int)):∀ fo:List (List Int),(gs.foldl hgS fo).length<=fo.length+gs.length:=by
 induction gs with
 | nil=>intro fo; exact Nat.le_refl _
 | cons g gs ih =>
  intro fo
  have:=ih (hgS fo g)
  have:(hgS fo g).length<=fo.length+1:=by
   unfold hgS
   split
   ·lia
   ·simp
  rw[List.foldl_cons,List.length_cons]
  lia
theorem hgL_len (gs:List (List Int)):(hgL gs).length<=gs.length:=by
 have:=hg_len gs []
 rw[List.length_nil] at this
 exact Nat.le_trans this (by lia)
theorem GRep.rev {H:Hp}:∀ {us:List V} {gs:List (List Int)},GRep H us gs->GRep H us.reverse gs.reverse
 | _,_,.nil=>.nil
 | _,_,.cons h l r=>by
  rw[List.reverse_cons,List.reverse_cons]
  exact GRep.snoc h l (GRep.rev r)
inductive SpHighestI (vs:List V) (H:Hp) (Q:VK):Prop where
 | mk (a:Addr) (n:Nat) (us:List V) (gs:List (List Int)) (z0:vs=[.ref a]) (z1:H a=some (.lst us)) (z2:GRep H us gs) (z3:gs.length < 64) (z4:(∀ x∈gs,x.length=n)) (z5:1<=n) (z6:∀ qs:List (List Int),qs.Perm gs->(qs.Pairwise fun a b=>HT.lexLt b a=false)->∀ (r:Addr) (ws:List V) (H':Hp),Same H H'->H r=none->H' r=some (.lst ws)->GRep H' ws (highF qs)->Q (.ref r) H'):SpHighestI  vs H Q
noncomputable def spHighest:Sp:=fun vs H Q _=>SpHighestI  vs H Q
theorem ok_highest (F:Fun K "highest" "highest" s_highest f fd) (B:Bt mg)
  (D_below_one_of:Df P w K mg base "below_one_of" 2 ["giving","others"] spBelowOne):FnOk P w K mg base CX0 3 f fd ["rows"] spHighest:=by
 refine F.ok sc_highest (fun vs H Q E h=>?_) (fun cdv A outer s H vs Q E hr h=>?_)
 ·obtain⟨a,n,us,gs,rfl,_⟩:=h
  rfl
 ·obtain⟨a,n,us0,gs0,rfl,hA,gr0,lg,hn0,n1,q⟩:=h
  refine⟨_,(pss_cons (ps_set (i:=1) sc_highest.nd rfl (Or.inl rfl) (pe_lst pa_nil))
 (pss_cons (ps_for PassesOwn.never rfl (pi_revL rfl B.reversed_ (pa_cons (pe_callB (r:=rSortTT K) call_sortTT rfl B.sorted_ (by decide+kernel) (pa_cons (pv 0) pa_nil)) pa_nil)) (pg_name (i:=2) sc_highest.nd rfl (Or.inl rfl)) (pss_one (ps_if (pt_not (pt_val (pe_df D_below_one_of hr (pa_cons (pv 2) (pa_cons (pv 1) pa_nil))))) (pss_one (ps_expr (pe_bm PySem.F.plainAttrs_list PySem.F.slot_list_append PySem.F.type_list_append mt_append (pv 1) (pa_cons (pv 2) pa_nil)))) pss_nil)))
 (pss_one (ps_ret (pe_slRev (pv 1) (po_some (pe_un un_neg pe_int))))))),?_⟩
  refine⟨small (by show 0<=1000; decide),fun r h0=>?_⟩
  generalize eH1:upd H r _=H1
  obtain⟨g1,e1⟩:=new_at eH1 h0
  obtain⟨ps0,eu0,eg0,hps0⟩:=gr0.prs
  subst eg0
  rw[List.length_map] at lg
  refine⟨_,rfl,a,ps0,rfl,by rw[← eu0]; exact SqL.of (g1 _ _ hA),lg,fun p hp=>⟨SqT.of (g1 _ _ (hps0 p hp)),fun z=>?_⟩,fun ps pp pw l hl=>?_⟩
  ·have:=hn0 p.2 (List.mem_map.mpr ⟨p,hp,rfl⟩)
   rw[z] at this
   simp at this
   lia
  have hps:∀ p∈ps,H p.1=some (.tup (p.2.map V.int)):=fun p hp=>hps0 p (pp.mem_iff.mp hp)
  replace q:=q (ps.map (·.2)) (pp.map _) (List.pairwise_map.mpr pw)
  have hn:∀ x∈ps.map (·.2),x.length=n:=fun x hx=>hn0 x ((pp.map (·.2)).mem_iff.mp hx)
  have gr:GRep H (ps.map fun p=>V.ref p.1) (ps.map (·.2)):=GRep.ofPs hps fun p hp=>GRep.len1 gr0 ((pp.map (·.2)).mem_iff.mp (List.mem_map.mpr ⟨p,hp,rfl⟩))
  have lp:(ps.map (·.2)).length < 64:=by rw[List.length_map,pp.length_eq]; exact lg
  generalize ps.map (fun p=>V.ref p.1)=us at gr ⊢
  generalize ps.map (·.2)=gs at gr q hn lp ⊢
  generalize eH2:upd H1 l _=H2
  obtain⟨g2,e2⟩:=new_at eH2 hl
  have s02:=g1.trans g2
  have gr2:=gr.mono s02
  have rl:l≠r:=fun z=>by
   rw[z,e1] at hl
   cases hl
  have lu:=gr.length
  refine⟨l,us,rfl,SqL.of e2,for_revL (K:=K) (a:=l) (xs:=us) (fun i σ Hx=>(∃ u,σ=[some (.ref a),some (.ref r),u])/\∃ ws,Same H Hx/\(∀ b xs,H2 b=some (HO.tup xs)->Hx b=some (HO.tup xs))/\Hx l=some (.lst us)/\Hx r=some (.lst ws)/\GRep Hx ws (hgL (gs.reverse.take i)))
   ⟨⟨_,rfl⟩,[],s02,fun _ _ h=>h,e2,g2 _ _ e1,by rw[List.take_zero]; exact .nil⟩ (fun i σ Hx _ h=>by obtain⟨_,_,_,h,_⟩:=h.2; exact SqL.of h) ?_ ?_⟩
  ·rintro i x σ Hx hi hx ⟨⟨u,rfl⟩,ws,sx,tx,elx,erx,gw⟩
   obtain⟨ra,g,rfl,hg,er,l1⟩:=gr2.at hx
   have era:=tx _ _ er
   have mg':=List.mem_of_getElem? hg
   have hg':gs.reverse[i]? = some g:=by
    rw[List.getElem?_reverse (by lia),← lu]
    exact hg
   refine⟨_,rfl,_,rfl,ra,r,g,ws,_,rfl,era,erx,gw,fun y hy=>?_,fun Hy sy=>⟨_,rfl,?_⟩⟩
   ·have:=List.mem_reverse.mp (List.mem_of_mem_take (hg_mem hy))
    rw[hn _ this,hn _ mg']
   have lw:=gw.length
   have ll:=hgL_len (gs.reverse.take i)
   rw[List.length_take] at ll
   have sHy:=sx.trans sy
   cases e:blO g (hgL (gs.reverse.take i)) with
   | true =>
    refine iteF ⟨⟨_,rfl⟩,ws,sHy,fun b xs h=>sy _ _ (tx b xs h),sy _ _ elx,sy _ _ erx,?_⟩
    rw[hg_take hg']
    unfold hgS
    rw[if_pos e]
    exact gw.mono sy
   | false =>
    refine iteT ?_
    refine⟨_,rfl,.inl ⟨rfl,_,SqL.of (sy _ _ erx)⟩,_,rfl,r,_,_,rfl,rfl,sy _ _ erx,Nat.lt_of_le_of_lt (show ws.length<=5000 by rw[List.length_reverse] at ll; lia) (by decide),?_⟩
    have tk:=tup_keep (zs':=ws++[.ref ra]) (sy _ _ erx)
    refine⟨⟨_,rfl⟩,ws++[.ref ra],same_upd sHy h0 _,fun b xs h=>tk _ _ (sy _ _ (tx b xs h)),by rw[upd_ne rl]; exact sy _ _ elx,upd_same,?_⟩
    rw[hg_take hg']
    unfold hgS
    rw[if_neg (by rw[e]; decide)]
    exact GRep.snoc (tk _ _ (sy _ _ era)) l1 ((gw.mono sy).monoT tk)
  ·rintro σ Hx ⟨⟨u,rfl⟩,ws,sx,tx,elx,erx,gw⟩
   rw[lu,← List.length_reverse,List.take_length] at gw
   refine⟨_,rfl,_,rfl,_,rfl,rfl,r,ws,rfl,SqL.of erx,fun p hp=>?_⟩
   have sn:=same_new hp (.lst ws.reverse)
   exact q p ws.reverse _ (sx.trans sn) (sx.free hp) upd_same (gw.rev.mono sn)
noncomputable def LeG (g g':List Int):Prop:=∀ i,g.getD i 0<=g'.getD i 0
theorem abv_iff:∀ {ns ms:List Int},ns.length=ms.length->(abv ns ms=true ↔ LeG ms ns)
 | [],[],_=>⟨fun _ i=>Int.le_refl _,fun _=>by rw[abv]; simp⟩
 | n::ns,m::ms,h=>by
  have ih:=abv_iff (ns:=ns) (ms:=ms) (by simpa using h)
  rw[abv,Bool.and_eq_true,decide_eq_true_eq,ih]
  constructor
  ·rintro⟨h1,h2⟩ i
   cases i with
   | zero=>exact h1
   | succ i=>simpa using h2 i
  ·intro h
   exact⟨h 0,fun i=>by simpa using h (i+1)⟩
theorem abv_refl {g:List Int}:abv g g=true:=(abv_iff rfl).mpr fun _=>Int.le_refl _
theorem lw_keep:∀ (gs fo:List (List Int)) {x:List Int},x∈fo->x∈gs.foldl lwS fo
 | [],_,_,h=>h
 | g::gs,fo,x,h=>by
  refine lw_keep gs _ ?_
  unfold lwS
  split
  ·exact h
  ·exact List.mem_append_left _ h
theorem lw_cov:∀ (gs fo:List (List Int)) {g:List Int},g∈gs->∃ x∈gs.foldl lwS fo,abv g x=true
 | g::gs,fo,y,h=>by
  rw[List.foldl_cons]
  rcases List.mem_cons.mp h with rfl | h
  ·by_cases c:abO y fo=true
   ·obtain⟨x,hx,e⟩:=List.any_eq_true.mp c
    exact⟨x,lw_keep gs _ (by unfold lwS; rw[if_pos c]; exact hx),e⟩
   ·exact⟨y,lw_keep gs _ (by unfold lwS; rw[if_neg c]; exact List.mem_append_right _ (List.mem_singleton.mpr rfl)),abv_refl⟩
  ·exact lw_cov gs _ h
noncomputable def sidF (low:Bool) (x y:List Int):Bool:=if low=true then abv x y else abv y x
noncomputable def extF (low:Bool) (gs:List (List Int)):List (List Int):=gs.filter fun g=>!gs.any fun x=>!decide (g=x) && sidF low g x
theorem hg_keep:∀ (gs fo:List (List Int)) {x:List Int},x∈fo->x∈gs.foldl hgS fo
 | [],_,_,h=>h
 | g::gs,fo,x,h=>by
  refine hg_keep gs _ ?_
  unfold hgS
  split
  ·exact h
  ·exact List.mem_append_left _ h
theorem hg_cov:∀ (gs fo:List (List Int)) {g:List Int},g∈gs->∃ x∈gs.foldl hgS fo,abv x g=true
 | g::gs,fo,y,h=>by
  rw[List.foldl_cons]
  rcases List.mem_cons.mp h with rfl | h
  ·by_cases c:blO y fo=true
   ·obtain⟨x,hx,e⟩:=List.any_eq_true.mp c
    exact⟨x,hg_keep gs _ (by unfold hgS; rw[if_pos c]; exact hx),e⟩
   ·exact⟨y,hg_keep gs _ (by unfold hgS; rw[if_neg c]; exact List.mem_append_right _ (List.mem_singleton.mpr rfl)),abv_refl⟩
  ·exact hg_cov gs _ h
theorem abv_trans {x y z:List Int} (h1:x.length=y.length) (h2:y.length=z.length) (a:abv x y=true) (b:abv y z=true):abv x z=true:=by
 rw[abv_iff h1] at a
 rw[abv_iff h2] at b
 exact (abv_iff (h1.trans h2)).mpr fun i=>Int.le_trans (b i) (a i)
theorem lex_abv:∀ {xs ys:List Int},HT.lexLt xs ys=true->abv xs ys=false∨xs.length≠ys.length
 | [],[],h=>by simp [HT.lexLt] at h
 | [],_::_,_=>.inr (by simp)
 | _::_,[],h=>by simp [HT.lexLt] at h
 | x::xs,y::ys,h=>by
  rw[HT.lexLt_cons] at h
  by_cases e:x=y
  ·rw[if_pos e] at h
   rcases lex_abv h with z | z
   ·exact .inl (by rw[abv,z,Bool.and_false])
   ·exact .inr (by simpa using z)
  ·rw[if_neg e] at h
   have:=of_decide_eq_true h
   exact .inl (by rw[abv,decide_eq_false (by lia),Bool.false_and])
theorem low_pre {gs:List (List Int)} {n:Nat} (hp:gs.Pairwise fun a b=>abv a b=false) (hl:∀ x∈gs,x.length=n):∀ (k:Nat) (pre post:List (List Int)),pre.length=k->gs=pre++post->lowF pre=pre.filter fun g=>!gs.any fun x=>!decide (g=x) && abv g x
 | 0,pre,post,h,_=>by
  cases pre with
  | nil=>rfl
  | cons _ _=>simp at h
 | k+1,pre,post,h,e=>by
  obtain⟨pr,g,rfl⟩:∃ pr g,pre=pr++[g]:=⟨pre.dropLast,pre.getLast (fun z=>by rw[z] at h; simp at h),(List.dropLast_concat_getLast _).symm⟩
  have e':gs=pr++(g::post):=by rw[e]; simp
  have ih:=low_pre hp hl k pr (g::post) (by simpa using h) e'
  have hg:g∈gs:=by rw[e']; simp
  have key:abO g (lowF pr)=gs.any fun x=>!decide (g=x) && abv g x:=by
   rw[e',List.pairwise_append] at hp
   obtain⟨_,p2,p3⟩:=hp
   rw[Bool.eq_iff_iff]
   constructor
   ·intro a
    obtain⟨x,hx,ax⟩:=List.any_eq_true.mp a
    have mx:=low_mem hx
    refine List.any_eq_true.mpr ⟨x,by rw[e']; exact List.mem_append_left _ mx,?_⟩
    have:g≠x:=fun z=>by
     have:=p3 x mx g List.mem_cons_self
     rw[z,abv_refl] at this
     cases this
    rw[decide_eq_false this,ax]
    rfl
   ·intro a
    obtain⟨x,hx,ax⟩:=List.any_eq_true.mp a
    rw[Bool.and_eq_true] at ax
    have nx:g≠x:=by simpa using ax.1
    have mx:x∈pr:=by
     rw[e'] at hx
     rcases List.mem_append.mp hx with h | h
     ·exact h
     ·rcases List.mem_cons.mp h with h | h
      ·exact absurd h.symm nx
      ·have:=(List.pairwise_cons.mp p2).1 x h
       rw[ax.2] at this
       cases this
    obtain⟨y,hy,ay⟩:=lw_cov pr [] mx
    have hy:y∈lowF pr:=hy
    have my:y∈gs:=by rw[e']; exact List.mem_append_left _ (low_mem hy)
    exact List.any_eq_true.mpr ⟨y,hy,abv_trans (by rw[hl g hg,hl x hx]) (by rw[hl x hx,hl y my]) ax.2 ay⟩
  have st:lowF (pr++[g])=lwS (lowF pr) g:=by
   unfold lowF
   rw[List.foldl_append]
   rfl
  rw[st,List.filter_append,← ih]
  unfold lwS
  rw[key,List.filter_cons]
  cases gs.any fun x=>!decide (g=x) && abv g x <;> simp
theorem low_ext {gs:List (List Int)} {n:Nat} (hp:gs.Pairwise fun a b=>abv a b=false) (hl:∀ x∈gs,x.length=n):lowF gs=extF true gs:=by
 unfold extF sidF
 simp only[if_true]
 exact low_pre hp hl gs.length gs [] rfl (by simp)
theorem high_pre {gs rs:List (List Int)} {n:Nat} (hr:∀ x,x∈gs ↔ x∈rs) (hp:rs.Pairwise fun a b=>abv b a=false) (hl:∀ x∈gs,x.length=n):∀ (k:Nat) (pre post:List (List Int)),pre.length=k->rs=pre++post->hgL pre=pre.filter fun g=>!gs.any fun x=>!decide (g=x) && abv x g
 | 0,pre,post,h,_=>by
  cases pre with
  | nil=>rfl
  | cons _ _=>simp at h
 | k+1,pre,post,h,e=>by
  obtain⟨pr,g,rfl⟩:∃ pr g,pre=pr++[g]:=⟨pre.dropLast,pre.getLast (fun z=>by rw[z] at h; simp at h),(List.dropLast_concat_getLast _).symm⟩
  have e':rs=pr++(g::post):=by rw[e]; simp
  have ih:=high_pre hr hp hl k pr (g::post) (by simpa using h) e'
  have hg:g∈gs:=by rw[hr,e']; simp
  have key:blO g (hgL pr)=gs.any fun x=>!decide (g=x) && abv x g:=by
   rw[e',List.pairwise_append] at hp
   obtain⟨_,p2,p3⟩:=hp
   rw[Bool.eq_iff_iff]
   constructor
   ·intro a
    obtain⟨x,hx,ax⟩:=List.any_eq_true.mp a
    have mx:=hg_mem hx
    refine List.any_eq_true.mpr ⟨x,by rw[hr,e']; exact List.mem_append_left _ mx,?_⟩
    have:g≠x:=fun z=>by
     have:=p3 x mx g List.mem_cons_self
     rw[z,abv_refl] at this
     cases this
    rw[decide_eq_false this,ax]
    rfl
   ·intro a
    obtain⟨x,hx,ax⟩:=List.any_eq_true.mp a
    rw[Bool.and_eq_true] at ax
    have nx:g≠x:=by simpa using ax.1
    have mx:x∈pr:=by
     have hx:=(hr x).mp hx
     rw[e'] at hx
     rcases List.mem_append.mp hx with h | h
     ·exact h
     ·rcases List.mem_cons.mp h with h | h
      ·exact absurd h.symm nx
      ·have:=(List.pairwise_cons.mp p2).1 x h
       rw[ax.2] at this
       cases this
    obtain⟨y,hy,ay⟩:=hg_cov pr [] mx
    have hy:y∈hgL pr:=hy
    have my:y∈gs:=by rw[hr,e']; exact List.mem_append_left _ (hg_mem hy)
    exact List.any_eq_true.mpr ⟨y,hy,abv_trans (by rw[hl y my,hl x hx]) (by rw[hl x hx,hl g hg]) ay ax.2⟩
  have st:hgL (pr++[g])=hgS (hgL pr) g:=by
   unfold hgL
   rw[List.foldl_append]
   rfl
  rw[st,List.filter_append,← ih]
  unfold hgS
  rw[key,List.filter_cons]
  cases gs.any fun x=>!decide (g=x) && abv x g <;> simp
theorem high_ext {gs:List (List Int)} {n:Nat} (hp:gs.Pairwise fun a b=>abv a b=false) (hl:∀ x∈gs,x.length=n):highF gs=extF false gs:=by
 have h:=high_pre (gs:=gs) (rs:=gs.reverse) (n:=n) (fun x=>List.mem_reverse.symm) (List.pairwise_reverse.mpr hp) hl gs.reverse.length gs.reverse [] rfl (by simp)
 unfold highF extF sidF
 rw[h,List.filter_reverse,List.reverse_reverse]
 simp
noncomputable def ddS (fo:List (List Int)) (g:List Int):List (List Int):=if g∈fo then fo else fo++[g]
noncomputable def ddG (gs:List (List Int)):List (List Int):=gs.foldl ddS []
theorem snocI {P:List (List Int)->Prop} (h0:P []) (h1:∀ l g,P l->P (l++[g])) (l:List (List Int)):P l:=by
 rw[← List.reverse_reverse l]
 induction l.reverse with
 | nil=>exact h0
 | cons g r ih=>rw[List.reverse_cons]; exact h1 _ _ ih
theorem ddG_snoc (l:List (List Int)) (g:List Int):ddG (l++[g])=ddS (ddG l) g:=by
 unfold ddG
 rw[List.foldl_append]
 rfl
theorem ddG_mem (l:List (List Int)) (x:List Int):x∈ddG l ↔ x∈l:=by
 refine snocI (P:=fun l=>x∈ddG l ↔ x∈l) ?_ (fun l g ih=>?_) l
 ·exact Iff.rfl
 ·rw[ddG_snoc]
  unfold ddS
  split
  ·rename_i z
   rw[ih,List.mem_append,List.mem_singleton]
   constructor
   ·exact .inl
   ·rintro (h | h)
    ·exact h
    ·rw[h]
     refine (?_:g∈l)
     subst h
     exact ih.mp z
  ·rw[List.mem_append,List.mem_append,ih]
theorem ddG_nd (l:List (List Int)):(ddG l).Nodup:=by
 refine snocI (P:=fun l=>(ddG l).Nodup) List.nodup_nil (fun l g ih=>?_) l
 rw[ddG_snoc]
 unfold ddS
 split
 ·exact ih
 ·rename_i z
  refine List.nodup_append.mpr ⟨ih,by simp,fun a ha b hb e=>z ?_⟩
  rw[List.mem_singleton] at hb
  rw[← hb,← e]
  exact ha
theorem ddG_sub (l:List (List Int)):(ddG l).Sublist l:=by
 refine snocI (P:=fun l=>(ddG l).Sublist l) (.refl _) (fun l g ih=>?_) l
 rw[ddG_snoc]
 unfold ddS
 split
 ·exact ih.trans (List.sublist_append_left _ _)
 ·exact ih.append (.refl _)
theorem low_dd (l:List (List Int)):lowF l=lowF (ddG l):=by
 have sn:∀ (l:List (List Int)) g,lowF (l++[g])=lwS (lowF l) g:=fun l g=>by
  unfold lowF
  rw[List.foldl_append]
  rfl
 refine snocI (P:=fun l=>lowF l=lowF (ddG l)) rfl (fun l g ih=>?_) l
 rw[ddG_snoc,sn]
 unfold ddS
 split
 ·rename_i z
  obtain⟨x,hx,e⟩:=lw_cov l [] ((ddG_mem l g).mp z)
  unfold lwS
  rw[if_pos (show abO g (lowF l)=true from List.any_eq_true.mpr ⟨x,hx,e⟩)]
  exact ih
 ·rw[sn,ih]
theorem hg_dd (l:List (List Int)):hgL l=hgL (ddG l):=by
 have sn:∀ (l:List (List Int)) g,hgL (l++[g])=hgS (hgL l) g:=fun l g=>by
  unfold hgL
  rw[List.foldl_append]
  rfl
 refine snocI (P:=fun l=>hgL l=hgL (ddG l)) rfl (fun l g ih=>?_) l
 rw[ddG_snoc,sn]
 unfold ddS
 split
 ·rename_i z
  obtain⟨x,hx,e⟩:=hg_cov l [] ((ddG_mem l g).mp z)
  unfold hgS
  rw[if_pos (show blO g (hgL l)=true from List.any_eq_true.mpr ⟨x,hx,e⟩)]
  exact ih
 ·rw[sn,ih]
theorem lex_lt {a b:List Int} (h:HT.lexLt b a=false) (n:a≠b):HT.lexLt a b=true:=by
 cases e:HT.lexLt a b with
 | true=>rfl
 | false=>exact absurd (lexLe_anti h e) n
theorem up_uniq:∀ {a b:List (List Int)},(a.Pairwise fun x y=>HT.lexLt x y=true)->(b.Pairwise fun x y=>HT.lexLt x y=true)->(∀ x,x∈a ↔ x∈b)->a=b
 | [],[],_,_,_=>rfl
 | [],y::b,_,_,h=>absurd ((h y).mpr List.mem_cons_self) (by simp)
 | x::a,[],_,_,h=>absurd ((h x).mp List.mem_cons_self) (by simp)
 | x::a,y::b,pa,pb,h=>by
  rw[List.pairwise_cons] at pa pb
  have e:x=y:=by
   rcases List.mem_cons.mp ((h x).mp List.mem_cons_self) with z | z
   ·exact z
   ·rcases List.mem_cons.mp ((h y).mpr List.mem_cons_self) with z2 | z2
    ·exact z2.symm
    ·have:=lexLt_asym (pb.1 _ z)
     rw[pa.1 _ z2] at this
     cases this
  subst e
  rw[up_uniq pa.2 pb.2 fun z=>?_]
  have nx:∀ {l:List (List Int)},(∀ a'∈l,HT.lexLt x a'=true)->x ∉ l:=fun hl m=>by
   have:=hl x m
   rw[lexLt_irr] at this
   cases this
  constructor
  ·intro m
   rcases List.mem_cons.mp ((h z).mp (List.mem_cons_of_mem _ m)) with q | q
   ·rw[q] at m
    exact absurd m (nx pa.1)
   ·exact q
  ·intro m
   rcases List.mem_cons.mp ((h z).mpr (List.mem_cons_of_mem _ m)) with q | q
   ·rw[q] at m
    exact absurd m (nx pb.1)
   ·exact q
theorem up_strict {l:List (List Int)} (h:l.Pairwise fun a b=>HT.lexLt b a=false) (nd:l.Nodup):l.Pairwise fun a b=>HT.lexLt a b=true:=by
 induction l with
 | nil=>exact .nil
 | cons x l ih =>
  rw[List.pairwise_cons] at h
  rw[List.nodup_cons] at nd
  exact List.pairwise_cons.mpr ⟨fun y hy=>lex_lt (h.1 y hy) fun z=>nd.1 (by rw[z]; exact hy),ih h.2 nd.2⟩
theorem up_abv {l:List (List Int)} {n:Nat} (h:l.Pairwise fun a b=>HT.lexLt a b=true) (hl:∀ x∈l,x.length=n):l.Pairwise fun a b=>abv a b=false:=by
 induction l with
 | nil=>exact .nil
 | cons x l ih =>
  rw[List.pairwise_cons] at h
  refine List.pairwise_cons.mpr ⟨fun y hy=>?_,ih h.2 fun z hz=>hl z (List.mem_cons_of_mem _ hz)⟩
  rcases lex_abv (h.1 y hy) with q | q
  ·exact q
  ·exact absurd ((hl x List.mem_cons_self).trans (hl y (List.mem_cons_of_mem _ hy)).symm) q
theorem low_U {qs ks:List (List Int)} {n:Nat} (hq:qs.Pairwise fun a b=>HT.lexLt b a=false) (hk:ks.Pairwise fun a b=>HT.lexLt a b=true) (hm:∀ x,x∈qs ↔ x∈ks) (hl:∀ x∈ks,x.length=n):lowF qs=extF true ks:=by
 have e:ddG qs=ks:=up_uniq (up_strict (hq.sublist (ddG_sub qs)) (ddG_nd qs)) hk fun x=>(ddG_mem qs x).trans (hm x)
 rw[low_dd,e]
 exact low_ext (up_abv hk hl) hl
theorem high_U {qs ks:List (List Int)} {n:Nat} (hq:qs.Pairwise fun a b=>HT.lexLt b a=false) (hk:ks.Pairwise fun a b=>HT.lexLt a b=true) (hm:∀ x,x∈qs ↔ x∈ks) (hl:∀ x∈ks,x.length=n):highF qs=extF false ks:=by
 have p1:(ddG qs.reverse).reverse.Pairwise fun a b=>HT.lexLt b a=false:=by
  rw[List.pairwise_reverse]
  exact (List.pairwise_reverse.mpr hq).sublist (ddG_sub qs.reverse)
 have e:(ddG qs.reverse).reverse=ks:=up_uniq (up_strict p1 ((List.reverse_perm _).nodup_iff.mpr (ddG_nd _))) hk fun x=>by rw[List.mem_reverse,ddG_mem,List.mem_reverse,hm]
 have e2:ddG qs.reverse=ks.reverse:=by rw[← e,List.reverse_reverse]
 rw[← high_ext (up_abv hk hl) hl]
 unfold highF
 rw[hg_dd,e2]
theorem seqO_cut {t u:TS} {D:Ends} {σ:St} {H:Hp} (P:St->Hp->Prop) (h2:∀ σ H,P σ H->u D σ H) (h1:∀ N:St->Hp->Prop,(∀ σ H,P σ H->N σ H)->t { D with nx:=N } σ H):tSeq t u D σ H:=h1 (u D) h2
theorem seqT {t u:TS} {D:Ends} {σ:St} {H:Hp} (P:St->Hp->Prop) (h1:∀ N:St->Hp->Prop,(∀ σ H,P σ H->N σ H)->t { D with nx:=N } σ H) (h2:∀ σ H,P σ H->u D σ H):tSeq t u D σ H:=h1 (u D) h2
noncomputable abbrev s_law_ends:Stmt:=top 12
theorem sc_law_ends:FnScope ["_law_rows","_law_low","_law_found","_law_one","_law_free","_law_other"] ["_law_rows","_law_low"] (defScope s_law_ends):=⟨rfl,rfl,rfl,by decide+kernel,rfl,by decide+kernel,by decide+kernel⟩
noncomputable def freeE (low:Bool) (gs:List (List Int)) (g:List Int):Bool:=!gs.any fun x=>!decide (g=x) && sidF low g x
theorem ext_same {low:Bool} {gs ks:List (List Int)} (h:∀ x,x∈ks ↔ x∈gs):ks.filter (freeE low gs)=extF low ks:=by
 unfold extF
 apply List.filter_congr
 intro g _
 unfold freeE
 have e:(gs.any fun x=>!decide (g=x) && sidF low g x)=ks.any fun x=>!decide (g=x) && sidF low g x:=by
  rw[Bool.eq_iff_iff,List.any_eq_true,List.any_eq_true]
  exact⟨fun⟨x,m,q⟩=>⟨x,(h x).mpr m,q⟩,fun⟨x,m,q⟩=>⟨x,(h x).mp m,q⟩⟩
 rw[e]
inductive SpEnds5I (K:W.Frag) (vs:List V) (H:Hp) (Q:VK):Prop where
 | mk (a:Addr) (n:Nat) (low:Bool) (us:List V) (gs:List (List Int)) (z0:vs=[.ref a,.bl low]) (z1:H a=some (.lst us)) (z2:GRep H us gs) (z3:gs.length < 63) (z4:(∀ x∈gs,x.length=n)) (z5:1<=n) (z6:∀ ks:List (List Int),(ks.Pairwise fun a b=>HT.lexLt a b=true)->(∀ x,x∈ks ↔ x∈gs)->∀ (r:Addr) (ws:List V) (H':Hp),Same H H'->H r=none->H' r=some (.lst ws)->GRep H' ws (extF low ks)->Q (.ref r) H'):SpEnds5I K vs H Q
noncomputable def spEnds5 (K:W.Frag):Sp:=fun vs H Q _=>SpEnds5I K vs H Q
theorem ok_law_ends (F:Fun K "_law_ends" "_law_ends" s_law_ends f fd) (B:Bt mg)
  (D_law_above:Df P w K mg base "_law_above" 1 ["_law_one","_law_other"] (spAboveL K)):FnOk P w K mg base CX0 7 f fd ["_law_rows","_law_low"] (spEnds5 K):=by
 refine F.ok sc_law_ends (fun vs H Q E h=>?_) (fun cdv A outer s H vs Q E hr h=>?_)
 ·obtain⟨a,n,low,us,gs,rfl,_⟩:=h
  rfl
 ·obtain⟨a,n,low,us,gs,rfl,ha,gr,lg,hn,n1,q⟩:=h
  refine⟨_,(pss_cons (ps_set (i:=2) sc_law_ends.nd rfl (Or.inl rfl) (pe_lst pa_nil))
 (pss_cons (ps_for PassesOwn.never rfl (pi_list (pe_sortedSetTT hr (by lia) rfl rfl B.sorted_ rfl B.set_ (pa_cons (pv 0) pa_nil))) (pg_name (i:=3) sc_law_ends.nd rfl (Or.inl rfl)) (pss_cons (ps_set (i:=4) sc_law_ends.nd rfl (Or.inl rfl) pe_bl)
 (pss_cons (ps_for PassesOwn.never rfl (pi_list (pv 0)) (pg_name (i:=5) sc_law_ends.nd rfl (Or.inl rfl)) (pss_one (ps_if (PW.pt (pw_and (pt_cmpR (r:=rNeTI K) (op_neTI hr.units0) (pv 3) (pv 5) (nomark _)) (pw_and1 (pt_val (pe_df D_law_above hr (pa_cons (pe_ix (r:=rIxL K) ix_list (pe_lst (pa_cons (pv 5) (pa_cons (pv 3) pa_nil))) (pe_callTy (r:=rInt1) call_int1 rfl B.int_ bt_int (pa_cons (pv 1) pa_nil)) (fun _ _=>rfl)) (pa_cons (pe_ix (r:=rIxL K) ix_list (pe_lst (pa_cons (pv 3) (pa_cons (pv 5) pa_nil))) (pe_callTy (r:=rInt1) call_int1 rfl B.int_ bt_int (pa_cons (pv 1) pa_nil)) (fun _ _=>rfl)) pa_nil))))))) (pss_one (ps_set (i:=4) sc_law_ends.nd rfl (Or.inl rfl) pe_bl)) pss_nil)))
 (pss_one (ps_if (pt_val (pv 4)) (pss_one (ps_expr (pe_bm PySem.F.plainAttrs_list PySem.F.slot_list_append PySem.F.type_list_append mt_append (pv 2) (pa_cons (pv 3) pa_nil)))) pss_nil)))))
 (pss_one (ps_ret (pv 2))))),?_⟩
  refine⟨small (by show 0<=1000; decide),fun r h0=>?_⟩
  generalize eH1:upd H r _=H1
  obtain⟨g1,e1⟩:=new_at eH1 h0
  obtain⟨ps0,eu0,eg0,hps0⟩:=gr.prs
  have lg0:ps0.length < 63:=by rw[eg0,List.length_map] at lg; exact lg
  refine⟨_,rfl,a,ps0,rfl,by rw[← eu0]; exact SqL.of (g1 _ _ ha),lg0,fun p hp=>⟨SqT.of (g1 _ _ (hps0 p hp)),fun z=>?_⟩,fun ps pp pw l hl=>?_⟩
  ·have:=hn p.2 (by rw[eg0]; exact List.mem_map.mpr ⟨p,hp,rfl⟩)
   rw[z] at this
   simp at this
   lia
  have mk:∀ x,x∈ps.map (·.2) ↔ x∈gs:=fun x=>by
   rw[(pp.map (·.2)).mem_iff,eg0]
   unfold onceT
   rw[foldT_mem]
   simp
  have ndk:(ps.map (·.2)).Nodup:=(pp.map (·.2)).nodup_iff.mpr (foldT_nd ps0 [] List.nodup_nil)
  replace q:=q (ps.map (·.2)) (up_strict (List.pairwise_map.mpr pw) ndk) mk
  have grk:GRep H (ps.map fun p=>V.ref p.1) (ps.map (·.2)):=GRep.ofPs (fun p hp=>hps0 p (onceT_sub (pp.mem_iff.mp hp))) fun p hp=>GRep.len1 gr ((mk _).mp (List.mem_map.mpr ⟨p,hp,rfl⟩))
  have lk:(ps.map (·.2)).length < 64:=by
   rw[List.length_map,pp.length_eq]
   have:=onceT_len ps0
   lia
  generalize ps.map (fun p=>V.ref p.1)=ts at grk ⊢
  generalize ps.map (·.2)=ks at grk q mk lk
  generalize eH2:upd H1 l _=H2
  obtain⟨g2,e2⟩:=new_at eH2 hl
  have s02:=g1.trans g2
  have nlr:l≠r:=fun z=>by
   rw[z,e1] at hl
   cases hl
  refine⟨l,rfl,⟨_,SqL.of e2⟩,for_list (K:=K) (a:=l) (xs:=ts) (fun i σ Hx=>(∃ u0 u1 u2,σ=[some (.ref a),some (.bl low),some (.ref r),u0,u1,u2])/\∃ ws,Same H Hx/\Hx l=some (.lst ts)/\Hx r=some (.lst ws)/\GRep Hx ws ((ks.take i).filter (freeE low gs)))
   ⟨⟨_,_,_,rfl⟩,[],s02,e2,g2 _ _ e1,.nil⟩ (fun i σ Hx _ h=>by obtain⟨_,_,h,_⟩:=h.2; exact SqL.of h) ?_ ?_⟩
  ·rintro i x σ Hx hx ⟨⟨u0,u1,u2,rfl⟩,ws,sx,elx,erx,gw⟩
   obtain⟨oa,g,rfl,hg,eo,l1⟩:=grk.at hx
   have hgm:=(mk g).mp (List.mem_of_getElem? hg)
   have eox:=sx _ _ eo
   refine gN ?_
   refine seqO_cut (fun σ Hy=>σ=[some (.ref a),some (.bl low),some (.ref r),some (.ref oa),some (.bl true),u2]/\Hx=Hy) ?q1 (fun N Rc=>Rc _ _ ⟨rfl,rfl⟩)
   rintro σ _ ⟨rfl,rfl⟩
   refine seqO_cut (fun σ Hy=>(∃ u2,σ=[some (.ref a),some (.bl low),some (.ref r),some (.ref oa),some (.bl (freeE low gs g)),u2])/\Same Hx Hy) ?q2 ?t2
   case t2 =>
    intro N Rc
    refine⟨_,rfl,a,rfl,⟨_,SqL.of (sx _ _ ha)⟩,for_list (K:=K) (a:=a) (xs:=us) (fun j σ Hy=>(∃ u2,σ=[some (.ref a),some (.bl low),some (.ref r),some (.ref oa),some (.bl (freeE low (gs.take j) g)),u2])/\Same Hx Hy)
     ⟨⟨_,rfl⟩,Same.refl _⟩ (fun j σ Hy _ h=>SqL.of (h.2 _ _ (sx _ _ ha))) ?_ ?_⟩
    ·rintro j y σ Hy hy ⟨⟨u2,rfl⟩,sy⟩
     obtain⟨ob,x,rfl,hx',eb,_⟩:=gr.at hy
     have hxm:=List.mem_of_getElem? hx'
     have eoy:=sy _ _ eox
     have eby:=sy _ _ (sx _ _ eb)
     have lgn:=hn g hgm
     have lxn:=hn x hxm
     have et:freeE low (gs.take (j+1)) g=(freeE low (gs.take j) g && !(!decide (g=x) && sidF low g x)):=by
      unfold freeE
      rw[List.take_add_one,hx',List.any_append,Bool.not_or]
      simp
     have lx1:g.length<=1000:=l1
     refine⟨_,rfl,_,rfl,oa,ob,g,x,rfl,rfl,SqT.of eoy,SqT.of eby,_,rfl,?_⟩
     cases e1:decide (g=x) with
     | true =>
      refine iteF (iteF ⟨⟨some (.ref ob),?_⟩,sy⟩)
      rw[et,e1]
      simp
     | false =>
      refine iteT ?_
      have fin:∀ Hw,Same Hy Hw->∀ c,c=sidF low g x->(∃ u2',[some (V.ref a),some (.bl low),some (.ref r),some (.ref oa),some (.bl (if c=true then false else freeE low (gs.take j) g)),some (.ref ob)]=[some (.ref a),some (.bl low),some (.ref r),some (.ref oa),some (.bl (freeE low (gs.take (j+1)) g)),u2'])/\Same Hx Hw:=fun Hw sw c ec=>by
       rw[et,e1,ec]
       refine⟨⟨some (.ref ob),?_⟩,sy.trans sw⟩
       cases sidF low g x <;> simp
      cases low with
      | true =>
       refine⟨_,rfl,_,rfl,small (by show 2<=1000; decide),fun p hp=>⟨_,rfl,.inr ⟨_,rfl,p,_,_,_,rfl,rfl,SqL.of upd_same,at_get (k:=1) rfl,_,rfl,_,rfl,small (by show 2<=1000; decide),fun p2 hp2=>⟨_,rfl,.inr ⟨_,rfl,p2,_,_,_,rfl,rfl,SqL.of upd_same,at_get (k:=1) rfl,?_⟩⟩⟩⟩⟩
       have s2:=(same_new hp (.lst [.ref ob,.ref oa])).trans (same_new hp2 (.lst [.ref oa,.ref ob]))
       refine⟨oa,ob,g,x,rfl,SqT.of (s2 _ _ eoy),SqT.of (s2 _ _ eby),by lia,by lia,fun Hw sw=>⟨_,rfl,?_⟩⟩
       have f:=fin Hw (s2.trans sw) (abv g x) rfl
       cases e2:abv g x with
       | true =>
        rw[e2] at f
        exact iteT f
       | false =>
        rw[e2] at f
        exact iteF f
      | false =>
       refine⟨_,rfl,_,rfl,small (by show 2<=1000; decide),fun p hp=>⟨_,rfl,.inr ⟨_,rfl,p,_,_,_,rfl,rfl,SqL.of upd_same,at_get (k:=0) rfl,_,rfl,_,rfl,small (by show 2<=1000; decide),fun p2 hp2=>⟨_,rfl,.inr ⟨_,rfl,p2,_,_,_,rfl,rfl,SqL.of upd_same,at_get (k:=0) rfl,?_⟩⟩⟩⟩⟩
       have s2:=(same_new hp (.lst [.ref ob,.ref oa])).trans (same_new hp2 (.lst [.ref oa,.ref ob]))
       refine⟨ob,oa,x,g,rfl,SqT.of (s2 _ _ eby),SqT.of (s2 _ _ eoy),by lia,by lia,fun Hw sw=>⟨_,rfl,?_⟩⟩
       have f:=fin Hw (s2.trans sw) (abv x g) rfl
       cases e2:abv x g with
       | true =>
        rw[e2] at f
        exact iteT f
       | false =>
        rw[e2] at f
        exact iteF f
    ·rintro σ Hy ⟨⟨u2,rfl⟩,sy⟩
     rw[gr.length,List.take_length]
     exact Rc _ _ ⟨⟨_,rfl⟩,sy⟩
   case q2 =>
   rintro σ Hy ⟨⟨u2,rfl⟩,sy⟩
   have erY:=sy _ _ erx
   have lw:=gw.length
   have ll:=List.length_filter_le (freeE low gs) (ks.take i)
   rw[List.length_take] at ll
   have et:ks.take (i+1)=ks.take i++[g]:=by rw[List.take_add_one,hg]; rfl
   refine⟨_,rfl,_,rfl,?_⟩
   cases e:freeE low gs g with
   | true =>
    refine iteT ⟨_,rfl,.inl ⟨rfl,_,SqL.of erY⟩,_,rfl,r,_,_,rfl,rfl,erY,Nat.lt_of_le_of_lt (show ws.length<=5000 by lia) (by decide),?_⟩
    have tk:=tup_keep (zs':=ws++[.ref oa]) erY
    refine⟨⟨_,_,_,rfl⟩,ws++[.ref oa],same_upd (sx.trans sy) h0 _,by rw[upd_ne nlr]; exact sy _ _ elx,upd_same,?_⟩
    rw[et,List.filter_append,List.filter_cons,if_pos e]
    exact GRep.snoc (tk _ _ (sy _ _ eox)) l1 ((gw.mono sy).monoT tk)
   | false =>
    refine iteF ⟨⟨_,_,_,rfl⟩,ws,sx.trans sy,sy _ _ elx,erY,?_⟩
    rw[et,List.filter_append,List.filter_cons,if_neg (by rw[e]; decide),List.filter_nil,List.append_nil]
    exact gw.mono sy
  ·rintro σ Hx ⟨⟨u0,u1,u2,rfl⟩,ws,sx,elx,erx,gw⟩
   rw[grk.length,List.take_length,ext_same mk] at gw
   exact⟨_,rfl,q r ws Hx sx h0 erx gw⟩
theorem cut_ints (ns:List Int) (lo hi:Option Int):∃ ks:List Int,cutV (ns.map V.int) lo hi=ks.map V.int/\ks.length<=ns.length:=by
 unfold cutV
 generalize HT.sIx _ _ lo=x
 generalize HT.sIx _ _ hi=y
 refine⟨(ns.drop x).take (y - x),by rw[List.map_take,List.map_drop],?_⟩
 rw[List.length_take,List.length_drop]
 lia
theorem cutDr {xs:List V} {k:Nat} (h:k<=xs.length):cutV xs (some (k:Int)) none=xs.drop k:=by
 unfold cutV
 rw[HT.sIx_none,HT.sIx_nat,Nat.min_eq_left h,List.take_of_length_le (by rw[List.length_drop]; lia)]
section
variable {K:W.Frag} {σ:St} {H:Hp} {Q:V->Hp->Prop} {i j:Nat} {a:Addr} {k:Nat} {xs:List V}
end
noncomputable abbrev s_law:Stmt:=top 13
theorem sc_law:FnScope ["_law_script","_law_drawn","_law_n","_law_rows","_law_cell_here","_law_row","_law_handed","_law_turn","_law_low","_law_high"] ["_law_script"] (defScope s_law):=⟨rfl,rfl,rfl,by decide+kernel,rfl,by decide+kernel,by decide+kernel⟩
inductive SpLawI (K:W.Frag) (vs:List V) (H:Hp) (Q:VK):Prop where
 | mk (a:Addr) (ns:List Int) (z0:vs=[.ref a]) (z1:SqL K H a (ns.map V.int)) (z2:ns.length<=63) (z3:∀ H',Q (.bl true) H'):SpLawI K vs H Q
noncomputable def spLaw (K:W.Frag):Sp:=fun vs H Q _=>SpLawI K vs H Q
theorem rep_gs {H:Hp} {r:Addr} {us:List V} {gs:List (List Int)} (h:H r=some (.lst us)) (g:GRep H us gs) (l:gs.length<=5000):Rep H (.ref r) (.lst (gs.map gD)):=.lst h (by rw[g.length]; lia) g.repL
theorem mostAt {d:Int} (h0:0<=d) (h1:d < 4):∃ m:Int,atI [V.int 1,V.int 2,V.int 9,V.int 3] d=some (.int m)/\0<=m/\m<=9:=by
 obtain rfl | rfl | rfl | rfl:d=0∨d=1∨d=2∨d=3:=by lia
 ·exact⟨1,rfl,by decide,by decide⟩
 ·exact⟨2,rfl,by decide,by decide⟩
 ·exact⟨9,rfl,by decide,by decide⟩
 ·exact⟨3,rfl,by decide,by decide⟩
theorem modAt {us:List V} (h:0 < us.length) (z:Int):∃ (j:Nat) (v:V),us[j]? = some v/\atI us (z % (us.length:Int))=some v:=by
 have w1:0<=z % (us.length:Int):=Int.emod_nonneg _ (by lia)
 have w2:z % (us.length:Int) < (us.length:Int):=Int.emod_lt_of_pos _ (by lia)
 have hj:(z % (us.length:Int)).toNat < us.length:=by lia
 refine⟨(z % (us.length:Int)).toNat,us[(z % (us.length:Int)).toNat],List.getElem?_eq_getElem hj,?_⟩
 have:=at_get (xs:=us) (k:=(z % (us.length:Int)).toNat) (List.getElem?_eq_getElem hj)
 rwa [Int.toNat_of_nonneg w1] at this
theorem cut_one (ns:List Int):∃ ks:List Int,cutV (ns.map V.int) (some 1) none=ks.map V.int/\ks.length<=ns.length - 1:=by
 cases ns with
 | nil=>exact⟨[],rfl,Nat.le_refl _⟩
 | cons x r=>exact⟨r,cutDr (xs:=(x::r).map V.int) (k:=1) (by simp),by simp⟩
theorem ok_law (F:Fun K "law" "law" s_law f fd) (B:Bt mg)
  (D_law_cell:Df P w K mg base "_law_cell" 1 ["_law_script","_law_k"] (spCell K)) (D_law_draws:Df P w K mg base "_law_draws" 1 ["_law_cell_here","_law_parts"] (spDraws K)) (D_law_giving:Df P w K mg base "_law_giving" 2 ["_law_cell_here","_law_n","_law_most"] spGiving)
  (D_law_same:Df P w K mg base "_law_same" 4 ["_law_found","_law_due"] (spSame 4)) (D_lowest:Df P w K mg base "lowest" 3 ["rows"] spLowest) (D_highest:Df P w K mg base "highest" 3 ["rows"] spHighest) (D_law_ends:Df P w K mg base "_law_ends" 7 ["_law_rows","_law_low"] (spEnds5 K)) :
  FnOk P w K mg base CX0 8 f fd ["_law_script"] (spLaw K):=by
 refine F.ok sc_law (fun vs H Q E h=>?_) (fun cdv A outer s H vs Q E hr h=>?_)
 ·obtain⟨a,ns,rfl,_⟩:=h
  rfl
 ·obtain⟨a,ns0,rfl,hS,hl,q⟩:=h
  refine⟨_,(pss_cons (ps_set (i:=0) sc_law.nd rfl (Or.inl rfl) (pe_slice (r:=rSlL K) sl_list (pv 0) po_none (po_some pe_int)))
 (pss_cons (ps_set (i:=1) sc_law.nd rfl (Or.inl rfl) (pe_df D_law_draws hr (pa_cons (pe_df D_law_cell hr (pa_cons (pv 0) (pa_cons pe_int pa_nil))) (pa_cons (pe_lst (pa_cons pe_int (pa_cons pe_int pa_nil))) pa_nil))))
 (pss_cons (ps_set (i:=2) sc_law.nd rfl (Or.inl rfl) (pe_op op_add pe_int (pe_ix (r:=rIxL K) ix_list (pv 1) pe_int (fun _ _=>rfl))))
 (pss_cons (ps_set (i:=3) sc_law.nd rfl (Or.inl rfl) (pe_lst pa_nil))
 (pss_cons (ps_for PassesOwn.never rfl (pi_list (pe_slice (r:=rSlL K) sl_list (pv 0) (po_some pe_int) po_none)) (pg_name (i:=4) sc_law.nd rfl (Or.inl rfl)) (pss_cons (ps_set (i:=5) sc_law.nd rfl (Or.inl rfl) (pe_df D_law_giving hr (pa_cons (pv 4) (pa_cons (pv 2) (pa_cons (pe_ix (r:=rIxL K) ix_list (pe_lst (pa_cons pe_int (pa_cons pe_int (pa_cons pe_int (pa_cons pe_int pa_nil))))) (pe_ix (r:=rIxL K) ix_list (pv 1) pe_int (fun _ _=>rfl)) (fun _ _=>rfl)) pa_nil)))))
 (pss_cons (ps_if (PW.pt (pw_and (pt_cmpR (r:=rNeN K) (op_neN hr.units0) (pv 3) (pe_lst pa_nil) (nomark _)) (pw_and1 (pt_cmpR op_eq (pe_ix (r:=rIxL K) ix_list (pe_df D_law_draws hr (pa_cons (pe_op op_add (pv 4) pe_int) (pa_cons (pe_lst (pa_cons pe_int pa_nil)) pa_nil))) pe_int (fun _ _=>rfl)) pe_int (nomark _))))) (pss_one (ps_set (i:=5) sc_law.nd rfl (Or.inl rfl) (pe_ix (r:=rIxL K) ix_list (pv 3) (pe_op op_mod (pv 4) (pe_callB (r:=rLen K) call_lenK rfl B.len_ bt_len (pa_cons (pv 3) pa_nil))) (fun _ _=>rfl)))) pss_nil)
 (pss_one (ps_expr (pe_bm PySem.F.plainAttrs_list PySem.F.slot_list_append PySem.F.type_list_append mt_append (pv 3) (pa_cons (pv 5) pa_nil)))))))
 (pss_cons (ps_set (i:=6) sc_law.nd rfl (Or.inl rfl) (pe_callTy (r:=rListOf K) call_listK rfl B.list_ bt_list (pa_cons (pv 3) pa_nil)))
 (pss_cons (ps_for PassesOwn.never rfl (pi_range1 rfl B.range_ (pa_cons pe_int pa_nil)) (pg_name (i:=7) sc_law.nd rfl (Or.inl rfl)) (pss_cons (ps_set (i:=8) sc_law.nd rfl (Or.inl rfl) (pe_df D_lowest hr (pa_cons (pv 6) pa_nil)))
 (pss_cons (ps_set (i:=9) sc_law.nd rfl (Or.inl rfl) (pe_df D_highest hr (pa_cons (pv 6) pa_nil)))
 (pss_cons (ps_if (pt_not (pt_val (pe_df D_law_same hr (pa_cons (pe_lst (pa_cons (pv 8) (pa_cons (pv 9) (pa_cons (pv 6) pa_nil)))) (pa_cons (pe_lst (pa_cons (pe_df D_law_ends hr (pa_cons (pv 3) (pa_cons pe_bl pa_nil))) (pa_cons (pe_df D_law_ends hr (pa_cons (pv 3) (pa_cons pe_bl pa_nil))) (pa_cons (pv 3) pa_nil)))) pa_nil))))) (pss_one (ps_ret pe_bl)) pss_nil)
 (pss_cons (ps_expr (pe_bm PySem.F.plainAttrs_list PySem.F.slot_list_append PySem.F.type_list_append mt_append (pv 8) (pa_cons (pe_tup pa_nil) pa_nil)))
 (pss_one (ps_expr (pe_bm0 PySem.F.plainAttrs_list PySem.F.slot_list_reverse PySem.F.type_list_reverse mt_reverse (pv 9)))))))))
 (pss_one (ps_ret pe_bl))))))))),?_⟩
  obtain⟨ss,em,lm⟩:=cut_ints ns0 none (some 63)
  refine seqT (fun σ Hx=>∃ p1:Addr,σ=[some (.ref p1),none,none,none,none,none,none,none,none,none]/\Hx p1=some (.lst (ss.map V.int))) (fun N Rc=>⟨_,rfl,_,rfl,a,_,rfl,hS,fun p1 h1=>Rc _ _ ⟨p1,rfl,by rw[em]; exact upd_same⟩⟩) ?_
  rintro σ H1 ⟨p1,rfl,e1⟩
  refine seqT (fun σ Hx=>∃ (p3:Addr) (ds:List Int) (d0 d1:Int),σ=[some (.ref p1),some (.ref p3),none,none,none,none,none,none,none,none]/\Hx p1=some (.lst (ss.map V.int))/\Hx p3=some (.lst (ds.map V.int))/\ds[0]? = some d0/\ds[1]? = some d1/\0<=d0/\d0 < 12/\0<=d1/\d1 < 4) ?t0 ?_
  case t0 =>
   intro N Rc
   refine⟨_,rfl,p1,ss,0,rfl,SqL.of e1,small (by decide),fun p2 h2=>?_⟩
   refine⟨_,p2,[12,4],rfl,SqL.of upd_same,by decide,by decide,fun p3 h3=>?_⟩
   have s3:=(same_new h2 (.lst [V.int 12,V.int 4])).trans (same_new h3 (.lst ((drawsF (ss.getD 0 0) [12,4]).map V.int)))
   obtain⟨d0,k0,b0⟩:=cutC_get (c:=mixC (ss.getD 0 0)) (i:=0) (ps:=[12,4]) (by decide) rfl
   obtain⟨d1,k1,b1⟩:=cutC_get (c:=mixC (ss.getD 0 0)) (i:=1) (ps:=[12,4]) (by decide) rfl
   exact Rc _ _ ⟨p3,_,d0,d1,rfl,s3 _ _ e1,upd_same,k0,k1,b0.1,b0.2,b1.1,b1.2⟩
  rintro σ H2 ⟨p3,ds,d0,d1,rfl,e1,e3,k0,k1,b00,b01,b10,b11⟩
  have a0:=at_get (get_int k0)
  have a1:=at_get (get_int k1)
  obtain⟨n,hn⟩:∃ n:Nat,1+d0=(n:Int):=⟨(1+d0).toNat,by lia⟩
  have n1:1<=n:=by lia
  have n12:n<=12:=by lia
  refine seqT (fun σ Hx=>σ=[some (.ref p1),some (.ref p3),some (.int (n:Int)),none,none,none,none,none,none,none]/\H2=Hx) (fun N Rc=>⟨_,rfl,p3,_,_,_,rfl,rfl,SqL.of e3,a0,_,_,rfl,rfl,Rc _ _ ⟨by rw[← hn]; rfl,rfl⟩⟩) ?_
  rintro σ _ ⟨rfl,rfl⟩
  refine seqT (fun σ Hx=>∃ pr:Addr,σ=[some (.ref p1),some (.ref p3),some (.int (n:Int)),some (.ref pr),none,none,none,none,none,none]/\H2 pr=none/\Same H2 Hx/\Hx pr=some (.lst [])) (fun N Rc=>⟨small (by decide),fun pr h4=>Rc _ _ ⟨pr,rfl,h4,same_new h4 _,upd_same⟩⟩) ?_
  rintro σ H4 ⟨pr,rfl,h4,g4,e4⟩
  refine seqT (fun σ Hx=>∃ (u1 u2:Option V) (us:List V) (gs:List (List Int)),σ=[some (.ref p1),some (.ref p3),some (.int (n:Int)),some (.ref pr),u1,u2,none,none,none,none]/\Hx pr=some (.lst us)/\GRep Hx us gs/\gs.length < 63/\∀ x∈gs,x.length=n) ?t1 ?q1
  case t1 =>
   intro N Rc
   refine⟨_,rfl,_,rfl,p1,_,rfl,SqL.of (g4 _ _ e1),fun p5 h5=>?_⟩
   obtain⟨ks,ek,lk⟩:=cut_one ss
   rw[ek]
   generalize eH5:upd H4 p5 _=H5
   obtain⟨g5,e5⟩:=new_at eH5 h5
   have n5r:p5≠pr:=fun z=>by
    rw[z,e4] at h5
    cases h5
   refine⟨p5,rfl,⟨_,SqL.of e5⟩,for_list (K:=K) (a:=p5) (xs:=ks.map V.int) (fun i σ Hx=>∃ (u1 u2:Option V) (us:List V) (gs:List (List Int)),σ=[some (.ref p1),some (.ref p3),some (.int (n:Int)),some (.ref pr),u1,u2,none,none,none,none]/\Same H2 Hx/\Hx p5=some (.lst (ks.map V.int))/\Hx pr=some (.lst us)/\GRep Hx us gs/\gs.length=i/\∀ x∈gs,x.length=n)
    ⟨_,_,[],[],rfl,g4.trans g5,e5,g5 _ _ e4,.nil,rfl,fun _ h=>by cases h⟩ (fun i σ Hx _ h=>by obtain⟨_,_,_,_,_,_,h,_⟩:=h; exact SqL.of h) ?_ ?_⟩
   ·rintro i x σ Hx hx ⟨u1,u2,us,gs,rfl,sx,e5x,erx,gr,lg,hgs⟩
    obtain⟨z,hz,rfl⟩:=int_at hx
    have i63:i < 63:=by
     have:=(List.getElem?_eq_some_iff.mp hz).1
     lia
    have e3x:=sx _ _ e3
    refine gN ?_
    refine seqT (fun σ Hy=>∃ (ra:Addr) (g:List Int),σ=[some (.ref p1),some (.ref p3),some (.int (n:Int)),some (.ref pr),some (.int z),some (.ref ra),none,none,none,none]/\Same Hx Hy/\Hy ra=some (.tup (g.map V.int))/\g.length=n) ?t2 ?q2
    case t2 =>
     intro N2 Rc2
     obtain⟨m,am,m0,m9⟩:=mostAt b10 b11
     refine⟨_,rfl,_,rfl,small (by decide),fun pm hm=>⟨_,rfl,p3,_,_,_,rfl,rfl,SqL.of (same_new hm _ _ _ e3x),a1,pm,_,_,_,rfl,rfl,SqL.of upd_same,am,z,n,m,rfl,by lia,m0,by lia,fun ra Hy sy _ er=>Rc2 _ _ ⟨ra,_,rfl,(same_new hm _).trans sy,er,givF_length _ _ _⟩⟩⟩
    case q2 =>
    rintro σ Hy ⟨ra,g,rfl,sy,era,lgn⟩
    refine seqT (fun σ Hz=>∃ (rb:Addr) (g':List Int),σ=[some (.ref p1),some (.ref p3),some (.int (n:Int)),some (.ref pr),some (.int z),some (.ref rb),none,none,none,none]/\Same Hy Hz/\Hz rb=some (.tup (g'.map V.int))/\g'.length=n) ?t3 ?q3
    case t3 =>
     intro N3 Rc3
     have erY:=sy _ _ erx
     refine⟨_,rfl,small (by decide),fun pe he=>⟨pr,pe,us,rfl,rfl,SqL.of (same_new he _ _ _ erY),SqL.of upd_same,_,rfl,?_⟩⟩
     have se:=same_new he (.lst [])
     cases eu:us.isEmpty with
     | true=>exact iteF (iteF (Rc3 _ _ ⟨ra,g,rfl,se,se _ _ era,lgn⟩))
     | false =>
      have l0:0 < us.length:=by
       cases us with
       | nil=>cases eu
       | cons _ _=>exact Nat.zero_lt_succ _
      refine iteT ?_
      refine⟨_,rfl,_,_,rfl,rfl,small (by decide),fun p6 h6=>⟨_,p6,[5],rfl,SqL.of upd_same,by decide,by decide,fun p7 h7=>?_⟩⟩
      have s7:=se.trans ((same_new h6 (.lst [V.int 5])).trans (same_new h7 (.lst ((drawsF (z+3) [5]).map V.int))))
      obtain⟨d,kd,_⟩:=cutC_get (c:=mixC (z+3)) (i:=0) (ps:=[5]) (by decide) rfl
      refine⟨p7,_,_,_,rfl,rfl,SqL.of upd_same,at_get (get_int kd),rfl,_,rfl,?_⟩
      cases eq:decide (V.int d=V.int 0) with
      | false=>exact iteF (Rc3 _ _ ⟨ra,g,rfl,s7,s7 _ _ era,lgn⟩)
      | true =>
       refine iteT ?_
       obtain⟨j,v,hj,av⟩:=modAt l0 z
       obtain⟨rb,g',rfl,hg',eb,_⟩:=gr.at hj
       exact⟨_,rfl,_,rfl,_,rfl,pr,us,rfl,.inl (SqL.of (s7 _ _ erY)),_,_,rfl,rfl,(show (0:Int) < us.length by lia),pr,us,_,_,rfl,rfl,SqL.of (s7 _ _ erY),av,Rc3 _ _ ⟨rb,g',rfl,s7,s7 _ _ (sy _ _ eb),hgs g' (List.mem_of_getElem? hg')⟩⟩
    case q3 =>
    rintro σ Hz ⟨rb,g',rfl,sz,erb,lgb⟩
    have erZ:=sz _ _ (sy _ _ erx)
    have lu:=gr.length
    refine⟨_,rfl,.inl ⟨rfl,_,SqL.of erZ⟩,_,rfl,pr,_,_,rfl,rfl,erZ,Nat.lt_of_le_of_lt (show us.length<=5000 by lia) (by decide),?_⟩
    have tk:=tup_keep (zs':=us++[.ref rb]) erZ
    refine⟨_,_,us++[.ref rb],gs++[g'],rfl,same_upd (sx.trans (sy.trans sz)) h4 _,by rw[upd_ne n5r]; exact sz _ _ (sy _ _ e5x),upd_same,GRep.snoc (tk _ _ erb) (by lia) ((gr.mono (sy.trans sz)).monoT tk),by rw[List.length_append,lg]; rfl,fun x hx=>?_⟩
    rcases List.mem_append.mp hx with hx | hx
    ·exact hgs x hx
    ·rw[List.mem_singleton.mp hx]
     exact lgb
   ·rintro σ Hx ⟨u1,u2,us,gs,rfl,sx,e5x,erx,gr,lg,hgs⟩
    exact Rc _ _ ⟨u1,u2,us,gs,rfl,erx,gr,by rw[lg,List.length_map]; lia,hgs⟩
  case q1 =>
  rintro σ Hx ⟨u1,u2,us,gs,rfl,erx,gr,lg,hgs⟩
  refine seqT (fun σ Hy=>∃ ph:Addr,σ=[some (.ref p1),some (.ref p3),some (.int (n:Int)),some (.ref pr),u1,u2,some (.ref ph),none,none,none]/\Same Hx Hy/\Hy ph=some (.lst us)) (fun N Rc=>⟨_,rfl,pr,us,rfl,.inl (SqL.of erx),fun ph hp=>Rc _ _ ⟨ph,rfl,same_new hp _,upd_same⟩⟩) ?_
  rintro σ H9 ⟨ph,rfl,s9,e9⟩
  have er9:=s9 _ _ erx
  have gr9:=gr.mono s9
  refine seqT (fun σ Hy=>True) ?t9 (fun σ Hy _=>q _)
  case t9 =>
  intro N Rc
  refine⟨_,rfl,by decide,by decide,for_range (lo:=0) (n:=2) (fun i σ Hy=>(∃ u7 u8 u9,σ=[some (.ref p1),some (.ref p3),some (.int (n:Int)),some (.ref pr),u1,u2,some (.ref ph),u7,u8,u9])/\Same H9 Hy) ⟨⟨_,_,_,rfl⟩,Same.refl _⟩ ?_ (fun σ Hy _=>Rc _ _ trivial)⟩
  rintro i σ Hi hi ⟨⟨u7,u8,u9,rfl⟩,si⟩
  have gri:=gr9.mono si
  refine gN ?_
  refine seqT (fun σ Hy=>∃ (r1:Addr) (ws:List V) (qs:List (List Int)),σ=[some (.ref p1),some (.ref p3),some (.int (n:Int)),some (.ref pr),u1,u2,some (.ref ph),some (.int (0+(i:Int))),some (.ref r1),u9]/\Hi r1=none/\Same Hi Hy/\Hy r1=some (.lst ws)/\GRep Hy ws (lowF qs)/\qs.Perm gs/\qs.Pairwise fun a b=>HT.lexLt b a=false)
   (fun N2 Rc2=>⟨_,rfl,ph,n,us,gs,rfl,si _ _ e9,gri,by lia,hgs,n1,fun qs pq wq r1 ws Hy sy h0 er gw=>Rc2 _ _ ⟨r1,ws,qs,rfl,h0,sy,er,gw,pq,wq⟩⟩) ?_
  rintro σ Hj ⟨r1,ws1,qs1,rfl,h01,sj,er1,gw1,pq1,wq1⟩
  have grj:=gri.mono sj
  refine seqT (fun σ Hy=>∃ (r2:Addr) (ws:List V) (qs:List (List Int)),σ=[some (.ref p1),some (.ref p3),some (.int (n:Int)),some (.ref pr),u1,u2,some (.ref ph),some (.int (0+(i:Int))),some (.ref r1),some (.ref r2)]/\Hj r2=none/\Same Hj Hy/\Hy r2=some (.lst ws)/\GRep Hy ws (highF qs)/\qs.Perm gs/\qs.Pairwise fun a b=>HT.lexLt b a=false)
   (fun N2 Rc2=>⟨_,rfl,ph,n,us,gs,rfl,sj _ _ (si _ _ e9),grj,by lia,hgs,n1,fun qs pq wq r1 ws Hy sy h0 er gw=>Rc2 _ _ ⟨r1,ws,qs,rfl,h0,sy,er,gw,pq,wq⟩⟩) ?_
  rintro σ Hk ⟨r2,ws2,qs2,rfl,h02,sk,er2,gw2,pq2,wq2⟩
  have grk:=grj.mono sk
  have s9k:=si.trans (sj.trans sk)
  refine seqT (fun σ Hy=>σ=[some (.ref p1),some (.ref p3),some (.int (n:Int)),some (.ref pr),u1,u2,some (.ref ph),some (.int (0+(i:Int))),some (.ref r1),some (.ref r2)]/\Same Hk Hy) ?t5 ?_
  case t5 =>
   intro N5 Rc5
   refine⟨_,rfl,_,rfl,_,rfl,small (by show 3<=1000; decide),fun L1 hL1=>?_⟩
   have sa:=same_new hL1 (.lst [V.ref r1,V.ref r2,V.ref ph])
   have eL1:upd Hk L1 (.lst [V.ref r1,V.ref r2,V.ref ph]) L1=_:=upd_same
   generalize upd Hk L1 (.lst [V.ref r1,V.ref r2,V.ref ph])=Ha at sa eL1 ⊢
   refine⟨_,rfl,pr,n,true,us,gs,rfl,sa _ _ (s9k _ _ er9),grk.mono sa,lg,hgs,n1,fun k1 up1 mk1 x1 wx1 Hb sb _ ex1 gx1=>?_⟩
   refine⟨_,rfl,pr,n,false,us,gs,rfl,sb _ _ (sa _ _ (s9k _ _ er9)),(grk.mono sa).mono sb,lg,hgs,n1,fun k2 up2 mk2 x2 wx2 Hc sc _ ex2 gx2=>?_⟩
   refine⟨_,rfl,small (by show 3<=1000; decide),fun L2 hL2=>?_⟩
   have sd:=same_new hL2 (.lst [V.ref x1,V.ref x2,V.ref pr])
   have eL2:upd Hc L2 (.lst [V.ref x1,V.ref x2,V.ref pr]) L2=_:=upd_same
   generalize upd Hc L2 (.lst [V.ref x1,V.ref x2,V.ref pr])=Hd at sd eL2 ⊢
   have sad:=sb.trans (sc.trans sd)
   have skd:=sa.trans sad
   have elo:lowF qs1=extF true k1:=low_U wq1 up1 (fun x=>pq1.mem_iff.trans (mk1 x).symm) fun x hx=>hgs x ((mk1 x).mp hx)
   have ehi:highF qs2=extF false k2:=high_U wq2 up2 (fun x=>pq2.mem_iff.trans (mk2 x).symm) fun x hx=>hgs x ((mk2 x).mp hx)
   have l1:(lowF qs1).length<=5000:=by
    have:=low_len qs1
    rw[pq1.length_eq] at this
    lia
   have l2:(highF qs2).length<=5000:=by
    unfold highF
    have:=hgL_len qs2.reverse
    rw[List.length_reverse,pq2.length_eq] at this
    rw[List.length_reverse]
    lia
   have R1:Rep Hd (.ref L1) (.lst [.lst ((lowF qs1).map gD),.lst ((highF qs2).map gD),.lst (gs.map gD)]) :=
    .lst (sad _ _ eL1) (by show 3<=100000; decide) (.cons (rep_gs ((sk.trans skd) _ _ er1) (gw1.mono (sk.trans skd)) l1) (.cons (rep_gs (skd _ _ er2) (gw2.mono skd) l2) (.cons (rep_gs ((s9k.trans skd) _ _ e9) (grk.mono skd) (by lia)) .nil)))
   have R2:Rep Hd (.ref L2) (.lst [.lst ((lowF qs1).map gD),.lst ((highF qs2).map gD),.lst (gs.map gD)]) :=
    .lst eL2 (by show 3<=100000; decide) (.cons (rep_gs ((sc.trans sd) _ _ ex1) (by rw[elo]; exact gx1.mono (sc.trans sd)) l1) (.cons (rep_gs (sd _ _ ex2) (by rw[ehi]; exact gx2.mono sd) l2) (.cons (rep_gs ((s9k.trans skd) _ _ er9) (grk.mono skd) (by lia)) .nil)))
   have dp:(Dm.lst [.lst ((lowF qs1).map gD),.lst ((highF qs2).map gD),.lst (gs.map gD)]).dep < 4:=by
    have h1:=depL_gD (lowF qs1)
    have h2:=depL_gD (highF qs2)
    have h3:=depL_gD gs
    simp only[Dm.dep,depL]
    lia
   exact⟨.ref L1,.ref L2,_,rfl,R1,R2,dp,fun He se=>⟨_,rfl,iteF (Rc5 _ _ ⟨rfl,skd.trans se⟩)⟩⟩
  rintro σ Hl ⟨rfl,sl⟩
  have n12':r1≠r2:=fun z=>by
   rw[← z,er1] at h02
   cases h02
  have er1l:=(sk.trans sl) _ _ er1
  have er2l:=sl _ _ er2
  refine seqT (fun σ Hy=>σ=[some (.ref p1),some (.ref p3),some (.int (n:Int)),some (.ref pr),u1,u2,some (.ref ph),some (.int (0+(i:Int))),some (.ref r1),some (.ref r2)]/\Same Hi Hy/\Hy r2=some (.lst ws2)) ?t6 ?_
  case t6 =>
   intro N6 Rc6
   refine⟨_,rfl,.inl ⟨rfl,_,SqL.of er1l⟩,small (by show 0<=1000; decide),fun p0 h0=>⟨r1,_,_,rfl,rfl,same_new h0 _ _ _ er1l,?_,Rc6 _ _ ⟨rfl,same_upd ((sj.trans (sk.trans sl)).trans (same_new h0 _)) h01 _,by rw[upd_ne n12'.symm]; exact same_new h0 _ _ _ er2l⟩⟩⟩
   have:=gw1.length
   have:=low_len qs1
   rw[pq1.length_eq] at this
   exact Nat.lt_of_le_of_lt (show ws1.length<=5000 by lia) (by decide)
  rintro σ Hm ⟨rfl,sm,er2m⟩
  exact⟨_,rfl,.inl ⟨rfl,_,SqL.of er2m⟩,r2,_,rfl,rfl,er2m,⟨_,_,_,rfl⟩,same_upd (si.trans sm) ((si.trans sj).free h02) _⟩
theorem len1 {α:Type}:∀ {us:List α},us.length=1->∃ x0,us=[x0]
 | [x0],_=>⟨x0,rfl⟩
theorem len2 {α:Type}:∀ {us:List α},us.length=2->∃ x0 x1,us=[x0,x1]
 | [x0,x1],_=>⟨x0,x1,rfl⟩
theorem len3 {α:Type}:∀ {us:List α},us.length=3->∃ x0 x1 x2,us=[x0,x1,x2]
 | [x0,x1,x2],_=>⟨x0,x1,x2,rfl⟩
theorem all_mk {l:W.OpenLaw} {w:World} {K:W.Frag} {h:Heap} {mg:Str->Option Value} {fa fq0 fq1 fq2 fq3 fq4 fq5 fq6 fq7 fq8 fq9 fq10 fq11:Addr} (X:K.In h) (G:h.Ns mainGlobals mg) (hfa:mg "law" = some (.ref fa))
  {odq0 anq0 odq1 anq1 odq2 anq2 odq3 anq3 odq4 anq4 odq5 anq5 odq6 anq6 odq7 anq7 odq8 anq8 odq9 anq9 odq10 anq10 odq11 anq11:Option Addr} {slq0 slq1 slq2 slq3 slq4 slq5 slq6 slq7 slq8 slq9 slq10 slq11:Array (Option Value)} {ocq0 kVq0 dcq0 pmq0 cdq0 ctq0 ocq1 kVq1 dcq1 pmq1 cdq1 ctq1 ocq2 kVq2 dcq2 pmq2 cdq2 ctq2 ocq3 kVq3 dcq3 pmq3 cdq3 ctq3 ocq4 kVq4 dcq4 pmq4 cdq4 ctq4 ocq5 kVq5 dcq5 pmq5 cdq5 ctq5 ocq6 kVq6 dcq6 pmq6 cdq6 ctq6 ocq7 kVq7 dcq7 pmq7 cdq7 ctq7 ocq8 kVq8 dcq8 pmq8 cdq8 ctq8 ocq9 kVq9 dcq9 pmq9 cdq9 ctq9 ocq10 kVq10 dcq10 pmq10 cdq10 ctq10 ocq11 kVq11 dcq11 pmq11 cdq11 ctq11:Value}
  (aq0:W.nsIn K mainGlobals "above" = some (some (.ref fq0)))
  (lq0:K.lookup fq0=some ⟨ocq0,odq0,.func (W.fnOf "above" "above" (defArgs s_above) (defBody s_above) (defScope s_above) .none kVq0 dcq0 pmq0 anq0 cdq0 ctq0),slq0⟩)
  (cq0:W.codeIn K cdq0 "above" = true) (kq0:W.keepIn K (.ref fq0)=true)
  (aq1:W.nsIn K mainGlobals "above_one_of" = some (some (.ref fq1)))
  (lq1:K.lookup fq1=some ⟨ocq1,odq1,.func (W.fnOf "above_one_of" "above_one_of" (defArgs s_above_one_of) (defBody s_above_one_of) (defScope s_above_one_of) .none kVq1 dcq1 pmq1 anq1 cdq1 ctq1),slq1⟩)
  (cq1:W.codeIn K cdq1 "above_one_of" = true) (kq1:W.keepIn K (.ref fq1)=true)
  (aq2:W.nsIn K mainGlobals "below_one_of" = some (some (.ref fq2)))
  (lq2:K.lookup fq2=some ⟨ocq2,odq2,.func (W.fnOf "below_one_of" "below_one_of" (defArgs s_below_one_of) (defBody s_below_one_of) (defScope s_below_one_of) .none kVq2 dcq2 pmq2 anq2 cdq2 ctq2),slq2⟩)
  (cq2:W.codeIn K cdq2 "below_one_of" = true) (kq2:W.keepIn K (.ref fq2)=true)
  (aq3:W.nsIn K mainGlobals "lowest" = some (some (.ref fq3)))
  (lq3:K.lookup fq3=some ⟨ocq3,odq3,.func (W.fnOf "lowest" "lowest" (defArgs s_lowest) (defBody s_lowest) (defScope s_lowest) .none kVq3 dcq3 pmq3 anq3 cdq3 ctq3),slq3⟩)
  (cq3:W.codeIn K cdq3 "lowest" = true) (kq3:W.keepIn K (.ref fq3)=true)
  (aq4:W.nsIn K mainGlobals "highest" = some (some (.ref fq4)))
  (lq4:K.lookup fq4=some ⟨ocq4,odq4,.func (W.fnOf "highest" "highest" (defArgs s_highest) (defBody s_highest) (defScope s_highest) .none kVq4 dcq4 pmq4 anq4 cdq4 ctq4),slq4⟩)
  (cq4:W.codeIn K cdq4 "highest" = true) (kq4:W.keepIn K (.ref fq4)=true)
  (aq5:W.nsIn K mainGlobals "_law_cell" = some (some (.ref fq5)))
  (lq5:K.lookup fq5=some ⟨ocq5,odq5,.func (W.fnOf "_law_cell" "_law_cell" (defArgs s_law_cell) (defBody s_law_cell) (defScope s_law_cell) .none kVq5 dcq5 pmq5 anq5 cdq5 ctq5),slq5⟩)
  (cq5:W.codeIn K cdq5 "_law_cell" = true) (kq5:W.keepIn K (.ref fq5)=true)
  (aq6:W.nsIn K mainGlobals "_law_draws" = some (some (.ref fq6)))
  (lq6:K.lookup fq6=some ⟨ocq6,odq6,.func (W.fnOf "_law_draws" "_law_draws" (defArgs s_law_draws) (defBody s_law_draws) (defScope s_law_draws) .none kVq6 dcq6 pmq6 anq6 cdq6 ctq6),slq6⟩)
  (cq6:W.codeIn K cdq6 "_law_draws" = true) (kq6:W.keepIn K (.ref fq6)=true)
  (aq7:W.nsIn K mainGlobals "_law_same" = some (some (.ref fq7)))
  (lq7:K.lookup fq7=some ⟨ocq7,odq7,.func (W.fnOf "_law_same" "_law_same" (defArgs s_law_same) (defBody s_law_same) (defScope s_law_same) .none kVq7 dcq7 pmq7 anq7 cdq7 ctq7),slq7⟩)
  (cq7:W.codeIn K cdq7 "_law_same" = true) (kq7:W.keepIn K (.ref fq7)=true)
  (aq8:W.nsIn K mainGlobals "_law_giving" = some (some (.ref fq8)))
  (lq8:K.lookup fq8=some ⟨ocq8,odq8,.func (W.fnOf "_law_giving" "_law_giving" (defArgs s_law_giving) (defBody s_law_giving) (defScope s_law_giving) .none kVq8 dcq8 pmq8 anq8 cdq8 ctq8),slq8⟩)
  (cq8:W.codeIn K cdq8 "_law_giving" = true) (kq8:W.keepIn K (.ref fq8)=true)
  (aq9:W.nsIn K mainGlobals "_law_above" = some (some (.ref fq9)))
  (lq9:K.lookup fq9=some ⟨ocq9,odq9,.func (W.fnOf "_law_above" "_law_above" (defArgs s_law_above) (defBody s_law_above) (defScope s_law_above) .none kVq9 dcq9 pmq9 anq9 cdq9 ctq9),slq9⟩)
  (cq9:W.codeIn K cdq9 "_law_above" = true) (kq9:W.keepIn K (.ref fq9)=true)
  (aq10:W.nsIn K mainGlobals "_law_ends" = some (some (.ref fq10)))
  (lq10:K.lookup fq10=some ⟨ocq10,odq10,.func (W.fnOf "_law_ends" "_law_ends" (defArgs s_law_ends) (defBody s_law_ends) (defScope s_law_ends) .none kVq10 dcq10 pmq10 anq10 cdq10 ctq10),slq10⟩)
  (cq10:W.codeIn K cdq10 "_law_ends" = true) (kq10:W.keepIn K (.ref fq10)=true)
  (aq11:W.nsIn K mainGlobals "law" = some (some (.ref fq11)))
  (lq11:K.lookup fq11=some ⟨ocq11,odq11,.func (W.fnOf "law" "law" (defArgs s_law) (defBody s_law) (defScope s_law) .none kVq11 dcq11 pmq11 anq11 cdq11 ctq11),slq11⟩)
  (cq11:W.codeIn K cdq11 "law" = true) (kq11:W.keepIn K (.ref fq11)=true)
  (z_len:W.nsIn K mainGlobals "len" = some none)
  (z_range:W.nsIn K mainGlobals "range" = some none)
  (z_all:W.nsIn K mainGlobals "all" = some none)
  (z_isinstance:W.nsIn K mainGlobals "isinstance" = some none)
  (z_int:W.nsIn K mainGlobals "int" = some none)
  (z_bool:W.nsIn K mainGlobals "bool" = some none)
  (z_str:W.nsIn K mainGlobals "str" = some none)
  (z_list:W.nsIn K mainGlobals "list" = some none)
  (z_tuple:W.nsIn K mainGlobals "tuple" = some none)
  (z_abs:W.nsIn K mainGlobals "abs" = some none)
  (z_max:W.nsIn K mainGlobals "max" = some none)
  (z_min:W.nsIn K mainGlobals "min" = some none)
  (z_sum:W.nsIn K mainGlobals "sum" = some none)
  (z_sorted:W.nsIn K mainGlobals "sorted" = some none)
  (z_zip:W.nsIn K mainGlobals "zip" = some none)
  (z_reversed:W.nsIn K mainGlobals "reversed" = some none)
  (z_divmod:W.nsIn K mainGlobals "divmod" = some none)
  (z_set:W.nsIn K mainGlobals "set" = some none)
  (z_any:W.nsIn K mainGlobals "any" = some none)
  (z_enumerate:W.nsIn K mainGlobals "enumerate" = some none)
  : ∃ fd:FuncData,(∀ (s:Shared) (v:Value),BindsTo s fd ⟨[v],[]⟩ [("_law_script",v)])/\∀ base:Heap,K.In base->base.Ns mainGlobals mg->FnOk l.prog w K mg base CX0 8 fa fd ["_law_script"] (spLaw K):=by
 have e:=hfa.symm.trans (W.mg_of X G aq11)
 cases e
 have B:Bt mg:=⟨W.mg_none_of X G z_len,W.mg_none_of X G z_range,W.mg_none_of X G z_all,W.mg_none_of X G z_isinstance,W.mg_none_of X G z_int,W.mg_none_of X G z_bool,W.mg_none_of X G z_str,W.mg_none_of X G z_list,W.mg_none_of X G z_tuple,W.mg_none_of X G z_abs,W.mg_none_of X G z_max,W.mg_none_of X G z_min,W.mg_none_of X G z_sum,W.mg_none_of X G z_sorted,W.mg_none_of X G z_zip,W.mg_none_of X G z_reversed,W.mg_none_of X G z_divmod,W.mg_none_of X G z_set,W.mg_none_of X G z_any,W.mg_none_of X G z_enumerate⟩
 have Fq0:=fun_mk (st:=s_above) lq0 cq0 kq0
 have bq0:=Fq0.binds (ps:=["one","other"]) fun _ _ _ _ _ _ us hl=>by obtain⟨x0,x1,rfl⟩:=len2 hl; rfl
 have mq0:=W.mg_of X G aq0
 have Fq1:=fun_mk (st:=s_above_one_of) lq1 cq1 kq1
 have bq1:=Fq1.binds (ps:=["giving","others"]) fun _ _ _ _ _ _ us hl=>by obtain⟨x0,x1,rfl⟩:=len2 hl; rfl
 have mq1:=W.mg_of X G aq1
 have Fq2:=fun_mk (st:=s_below_one_of) lq2 cq2 kq2
 have bq2:=Fq2.binds (ps:=["giving","others"]) fun _ _ _ _ _ _ us hl=>by obtain⟨x0,x1,rfl⟩:=len2 hl; rfl
 have mq2:=W.mg_of X G aq2
 have Fq3:=fun_mk (st:=s_lowest) lq3 cq3 kq3
 have bq3:=Fq3.binds (ps:=["rows"]) fun _ _ _ _ _ _ us hl=>by obtain⟨x0,rfl⟩:=len1 hl; rfl
 have mq3:=W.mg_of X G aq3
 have Fq4:=fun_mk (st:=s_highest) lq4 cq4 kq4
 have bq4:=Fq4.binds (ps:=["rows"]) fun _ _ _ _ _ _ us hl=>by obtain⟨x0,rfl⟩:=len1 hl; rfl
 have mq4:=W.mg_of X G aq4
 have Fq5:=fun_mk (st:=s_law_cell) lq5 cq5 kq5
 have bq5:=Fq5.binds (ps:=["_law_script","_law_k"]) fun _ _ _ _ _ _ us hl=>by obtain⟨x0,x1,rfl⟩:=len2 hl; rfl
 have mq5:=W.mg_of X G aq5
 have Fq6:=fun_mk (st:=s_law_draws) lq6 cq6 kq6
 have bq6:=Fq6.binds (ps:=["_law_cell_here","_law_parts"]) fun _ _ _ _ _ _ us hl=>by obtain⟨x0,x1,rfl⟩:=len2 hl; rfl
 have mq6:=W.mg_of X G aq6
 have Fq7:=fun_mk (st:=s_law_same) lq7 cq7 kq7
 have bq7:=Fq7.binds (ps:=["_law_found","_law_due"]) fun _ _ _ _ _ _ us hl=>by obtain⟨x0,x1,rfl⟩:=len2 hl; rfl
 have mq7:=W.mg_of X G aq7
 have Fq8:=fun_mk (st:=s_law_giving) lq8 cq8 kq8
 have bq8:=Fq8.binds (ps:=["_law_cell_here","_law_n","_law_most"]) fun _ _ _ _ _ _ us hl=>by obtain⟨x0,x1,x2,rfl⟩:=len3 hl; rfl
 have mq8:=W.mg_of X G aq8
 have Fq9:=fun_mk (st:=s_law_above) lq9 cq9 kq9
 have bq9:=Fq9.binds (ps:=["_law_one","_law_other"]) fun _ _ _ _ _ _ us hl=>by obtain⟨x0,x1,rfl⟩:=len2 hl; rfl
 have mq9:=W.mg_of X G aq9
 have Fq10:=fun_mk (st:=s_law_ends) lq10 cq10 kq10
 have bq10:=Fq10.binds (ps:=["_law_rows","_law_low"]) fun _ _ _ _ _ _ us hl=>by obtain⟨x0,x1,rfl⟩:=len2 hl; rfl
 have mq10:=W.mg_of X G aq10
 have Fq11:=fun_mk (st:=s_law) lq11 cq11 kq11
 have bq11:=Fq11.binds (ps:=["_law_script"]) fun _ _ _ _ _ _ us hl=>by obtain⟨x0,rfl⟩:=len1 hl; rfl
 have mq11:=W.mg_of X G aq11
 refine⟨W.fnOf "law" "law" (defArgs s_law) (defBody s_law) (defScope s_law) .none kVq11 dcq11 pmq11 anq11 cdq11 ctq11,fun s v=>.of_eq rfl,fun base _ _=>?_⟩
 have Dq0:Df l.prog w K mg base "above" 1 ["one","other"] (spAbove K):=⟨⟨_,_,ok_above Fq0 B,mq0,kq0,bq0⟩⟩
 have Dq1:Df l.prog w K mg base "above_one_of" 2 ["giving","others"] (spAboveOne):=⟨⟨_,_,ok_above_one_of Fq1 B Dq0,mq1,kq1,bq1⟩⟩
 have Dq3:Df l.prog w K mg base "lowest" 3 ["rows"] (spLowest):=⟨⟨_,_,ok_lowest Fq3 B Dq1,mq3,kq3,bq3⟩⟩
 have Dq2:Df l.prog w K mg base "below_one_of" 2 ["giving","others"] (spBelowOne):=⟨⟨_,_,ok_below_one_of Fq2 B Dq0,mq2,kq2,bq2⟩⟩
 have Dq4:Df l.prog w K mg base "highest" 3 ["rows"] (spHighest):=⟨⟨_,_,ok_highest Fq4 B Dq2,mq4,kq4,bq4⟩⟩
 have Dq5:Df l.prog w K mg base "_law_cell" 1 ["_law_script","_law_k"] (spCell K):=⟨⟨_,_,ok_law_cell Fq5 B,mq5,kq5,bq5⟩⟩
 have Dq6:Df l.prog w K mg base "_law_draws" 1 ["_law_cell_here","_law_parts"] (spDraws K):=⟨⟨_,_,ok_law_draws Fq6 B,mq6,kq6,bq6⟩⟩
 have Dq8:Df l.prog w K mg base "_law_giving" 2 ["_law_cell_here","_law_n","_law_most"] (spGiving):=⟨⟨_,_,ok_law_giving Fq8 B Dq6,mq8,kq8,bq8⟩⟩
 have S0:Df l.prog w K mg base "_law_same" 0 ["_law_found","_law_due"] (spSame 0):=⟨⟨_,_,same_none,mq7,kq7,bq7⟩⟩
 have S1:Df l.prog w K mg base "_law_same" 1 ["_law_found","_law_due"] (spSame 1):=⟨⟨_,_,ok_law_same Fq7 B S0,mq7,kq7,bq7⟩⟩
 have S2:Df l.prog w K mg base "_law_same" 2 ["_law_found","_law_due"] (spSame 2):=⟨⟨_,_,ok_law_same Fq7 B S1,mq7,kq7,bq7⟩⟩
 have S3:Df l.prog w K mg base "_law_same" 3 ["_law_found","_law_due"] (spSame 3):=⟨⟨_,_,ok_law_same Fq7 B S2,mq7,kq7,bq7⟩⟩
 have S4:Df l.prog w K mg base "_law_same" 4 ["_law_found","_law_due"] (spSame 4):=⟨⟨_,_,ok_law_same Fq7 B S3,mq7,kq7,bq7⟩⟩
 have Dq9:Df l.prog w K mg base "_law_above" 1 ["_law_one","_law_other"] (spAboveL K):=⟨⟨_,_,ok_law_above Fq9 B,mq9,kq9,bq9⟩⟩
 have Dq10:Df l.prog w K mg base "_law_ends" 7 ["_law_rows","_law_low"] (spEnds5 K):=⟨⟨_,_,ok_law_ends Fq10 B Dq9,mq10,kq10,bq10⟩⟩
 exact ok_law Fq11 B Dq5 Dq6 Dq8 S4 Dq3 Dq4 Dq10
theorem walk {l:W.OpenLaw} {q:Program} {loose:List Str} {XP:(Str->Option Value)->Heap->Prop} {YP:World->Heap->Prop} {d:DefRec} {K:Params->W.Frag} (hn:l.most=some 63) (hdf:d.params.defaults=[])
  (hY:∀ (w:World) (h:Heap),YP w h->(K w.params).In h)
  (F:∀ (w:World) (mg:Str->Option Value) (fa:Addr) (h:Heap),(K w.params).In h->h.Ns mainGlobals mg->mg d.name=some (.ref fa) →
   ∃ fd:FuncData,(∀ (s:Shared) (u:Value),BindsTo s fd ⟨[u],[]⟩ [("_law_script",u)])/\∀ base:Heap,(K w.params).In base->base.Ns mainGlobals mg->FnOk l.prog w (K w.params) mg base CX0 8 fa fd ["_law_script"] (spLaw (K w.params))) :
  W.WalkO q loose XP YP l.row.toRowW d [] (fun f vs=>PySem.call f vs) :=
 L2.walk_of (n:=63) (k:=8) (x:="_law_script") (CX:=fun _=>CX0) (sp:=fun w=>spLaw (K w.params)) hn (by decide) hdf ⟨rfl,by decide,by decide⟩ hY F (fun _ _ a ns hl _ hS=>⟨a,ns,rfl,hS,hl,fun _=>rfl⟩) fun _ _ _ _ _ z=>z
end My
end
open PySem PySem.W PyProof.Rows
set_option maxRecDepth 100000 in
set_option maxHeartbeats 0 in
theorem PySem.Challenge.cw_loveboon_k05_lowest_and_highest_holds : PySem.Challenge.rw_loveboon_k05_lowest_and_highest.Holds := by
 w_on; o_law; k_head; (case hw=>w_witness2)
 k_fill
 refine My.walk (l:=PySem.Challenge.rw_loveboon_k05_lowest_and_highest) rfl rfl (fun w h Y=>W.kIn_of Y) ?F
 case F =>
  intro w mg fa h KX G hmg
  refine' My.all_mk KX G hmg ?aq0 ?lq0 ?cq0 ?kq0 ?aq1 ?lq1 ?cq1 ?kq1 ?aq2 ?lq2 ?cq2 ?kq2 ?aq3 ?lq3 ?cq3 ?kq3 ?aq4 ?lq4 ?cq4 ?kq4 ?aq5 ?lq5 ?cq5 ?kq5 ?aq6 ?lq6 ?cq6 ?kq6 ?aq7 ?lq7 ?cq7 ?kq7 ?aq8 ?lq8 ?cq8 ?kq8 ?aq9 ?lq9 ?cq9 ?kq9 ?aq10 ?lq10 ?cq10 ?kq10 ?aq11 ?lq11 ?cq11 ?kq11 ?z_len ?z_range ?z_all ?z_isinstance ?z_int ?z_bool ?z_str ?z_list ?z_tuple ?z_abs ?z_max ?z_min ?z_sum ?z_sorted ?z_zip ?z_reversed ?z_divmod ?z_set ?z_any ?z_enumerate
  (case aq0=>k_is)
  (case lq0=>k_is)
  (case cq0=>k_is)
  (case kq0=>k_is)
  (case aq1=>k_is)
  (case lq1=>k_is)
  (case cq1=>k_is)
  (case kq1=>k_is)
  (case aq2=>k_is)
  (case lq2=>k_is)
  (case cq2=>k_is)
  (case kq2=>k_is)
  (case aq3=>k_is)
  (case lq3=>k_is)
  (case cq3=>k_is)
  (case kq3=>k_is)
  (case aq4=>k_is)
  (case lq4=>k_is)
  (case cq4=>k_is)
  (case kq4=>k_is)
  (case aq5=>k_is)
  (case lq5=>k_is)
  (case cq5=>k_is)
  (case kq5=>k_is)
  (case aq6=>k_is)
  (case lq6=>k_is)
  (case cq6=>k_is)
  (case kq6=>k_is)
  (case aq7=>k_is)
  (case lq7=>k_is)
  (case cq7=>k_is)
  (case kq7=>k_is)
  (case aq8=>k_is)
  (case lq8=>k_is)
  (case cq8=>k_is)
  (case kq8=>k_is)
  (case aq9=>k_is)
  (case lq9=>k_is)
  (case cq9=>k_is)
  (case kq9=>k_is)
  (case aq10=>k_is)
  (case lq10=>k_is)
  (case cq10=>k_is)
  (case kq10=>k_is)
  (case aq11=>k_is)
  (case lq11=>k_is)
  (case cq11=>k_is)
  (case kq11=>k_is)
  (case z_len=>k_is)
  (case z_range=>k_is)
  (case z_all=>k_is)
  (case z_isinstance=>k_is)
  (case z_int=>k_is)
  (case z_bool=>k_is)
  (case z_str=>k_is)
  (case z_list=>k_is)
  (case z_tuple=>k_is)
  (case z_abs=>k_is)
  (case z_max=>k_is)
  (case z_min=>k_is)
  (case z_sum=>k_is)
  (case z_sorted=>k_is)
  (case z_zip=>k_is)
  (case z_reversed=>k_is)
  (case z_divmod=>k_is)
  (case z_set=>k_is)
  (case z_any=>k_is)
  (case z_enumerate=>k_is)
