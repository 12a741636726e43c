import PyProof.Rows.All
import Wide.All
import OpenK.AllK
import Wide.FinOn
import Lean
import PyProof.EqAt
import PyProof.EqKinds
import PyProof.TupleCall
import PyProof.NeKinds
import PySem.Challenge.RW_loveboon_k31_whole_who_begins
noncomputable section
set_option Elab.async false
set_option linter.all false
set_option maxRecDepth 100000
namespace L2
open PySem PySem.Spec PyProof.Rows
noncomputable abbrev Key:=Sum Int Str
noncomputable def J6:Key->Value->Bool
 | .inl k,v=>Value.isInt k v
 | .inr x,v=>Value.isStrOf x v
noncomputable def M6 (w:World):Key->Int
 | .inl k=>hashInt k
 | .inr x=>hashStr w x
theorem cL:∀ {k:Key} {v:Value},J6 k v=true->(∃ i t,k=Sum.inl i/\v=Value.int i t)∨(∃ x t,k=Sum.inr x/\v=Value.str x t)
 | .inl i,v,h=>by
  obtain⟨t,e⟩:=Value.isInt_shape (k:=i) (v:=v) h
  exact .inl ⟨i,t,rfl,e⟩
 | .inr x,v,h=>by
  obtain⟨t,e⟩:=Value.isStrOf_shape (x:=x) (v:=v) h
  exact .inr ⟨x,t,rfl,e⟩
theorem JG (a b:Int):decide ((Sum.inl a:Key)=Sum.inl b)=(a == b):=by
 by_cases e:a=b
 ·subst e; simp
 ·have h:¬ (Sum.inl a:Key)=Sum.inl b:=fun q=>e (Sum.inl.inj q)
  rw[decide_eq_false h]
  exact (beq_eq_false_iff_ne.mpr e).symm
theorem J3 (a b:Str):decide ((Sum.inr a:Key)=Sum.inr b)=decide (a=b):=by
 by_cases e:a=b
 ·subst e; simp
 ·have h:¬ (Sum.inr a:Key)=Sum.inr b:=fun q=>e (Sum.inr.inj q)
  rw[decide_eq_false h,decide_eq_false e]
theorem JL (a:Int) (b:Str):decide ((Sum.inl a:Key)=Sum.inr b)=false:=decide_eq_false (fun q=>nomatch q)
theorem Kv (a:Str) (b:Int):decide ((Sum.inr a:Key)=Sum.inl b)=false:=decide_eq_false (fun q=>nomatch q)
noncomputable def Dt (prog:Program) (w:World):PySem.KeyKind prog w Key where
 is:=J6
 hash:=M6 w
 inj:=fun v a b ha hb=>by
  rcases cL ha with⟨i,t,rfl,rfl⟩ | ⟨x,t,rfl,rfl⟩
  ·rcases cL hb with⟨j,u,rfl,e⟩ | ⟨y,u,rfl,e⟩
   ·injection e with e1 _; rw[e1]
   ·exact nomatch e
  ·rcases cL hb with⟨j,u,rfl,e⟩ | ⟨y,u,rfl,e⟩
   ·exact nomatch e
   ·injection e with e1 _; rw[e1]
 byValue:=fun k v h=>by
  rcases cL h with⟨i,t,rfl,rfl⟩ | ⟨x,t,rfl,rfl⟩ <;> rfl
 pyHash:=fun hv h=>by
  rcases cL hv with⟨i,t,rfl,rfl⟩ | ⟨x,t,rfl,rfl⟩
  ·exact wpAny_pyHash_int h
  ·exact wpAny_pyHash_str h
 eqBool:=fun hu hv h=>by
  rcases cL hu with⟨i,t,rfl,rfl⟩ | ⟨x,t,rfl,rfl⟩
  ·rcases cL hv with⟨j,u,rfl,rfl⟩ | ⟨y,u,rfl,rfl⟩
   ·rw[JG] at h; exact wpAny_eqBool_int h
   ·rw[JL] at h; exact SeqAt.EqAt.int_str i t y u _ _ _ _ h
  ·rcases cL hv with⟨j,u,rfl,rfl⟩ | ⟨y,u,rfl,rfl⟩
   ·rw[Kv] at h; exact SeqAt.EqAt.str_int x t j u _ _ _ _ h
   ·rw[J3] at h; exact wpAny_eqBool_str h
 «strs»:=fun k x t v h=>by
  rcases cL h with⟨i,u,rfl,e⟩ | ⟨y,u,rfl,e⟩
  ·exact nomatch e
  ·injection e with e1 _
   subst e1
   cases v <;> rfl
end L2
namespace L2
open PySem PySem.Spec PyProof.Rows
inductive V where
 | non | bl (b:Bool) | int (i:Int) | str (x:Str) | byt (b:Array UInt8) | flt (b:UInt64) | ref (a:Addr) | ty (n:String)
 deriving DecidableEq
noncomputable def RelV:V->Value->Prop
 | .non,u=>u=Value.none
 | .bl b,u=>u=Value.bool b
 | .int i,u=>∃ t,u=Value.int i t
 | .str x,u=>∃ t,u=Value.str x t
 | .byt b,u=>∃ t,u=Value.bytes b t
 | .flt b,u=>∃ t,u=Value.float b t
 | .ref a,u=>u=Value.ref a
 | .ty n,u=>u=Value.type n
noncomputable abbrev Vals:List V->List Value->Prop:=Paired RelV
theorem Vals.length {xs:List V} {us:List Value} (r:Vals xs us):xs.length=us.length:=Paired.length r
theorem Vals.get:∀ {xs:List V} {us:List Value} {i:Nat} {x:V},Vals xs us->xs[i]? = some x->∃ u,us[i]? = some u/\RelV x u
 | _,_,_,_,.nil,e=>by simp at e
 | _,_,0,_,.cons r _,e=>by simp at e; subst e; exact⟨_,rfl,r⟩
 | _,_,i+1,x,.cons _ t,e=>by
  obtain⟨u,h1,h2⟩:=Vals.get (i:=i) (x:=x) t (by simpa using e)
  exact⟨u,by simpa using h1,h2⟩
theorem Vals.set {x:V} {u:Value} (r:RelV x u):∀ {xs:List V} {us:List Value} (i:Nat),Vals xs us->Vals (xs.set i x) (us.set i u)
 | _,_,_,.nil=>.nil
 | _,_,0,.cons _ t=>.cons r t
 | _,_,i+1,.cons q t=>.cons q (Vals.set r i t)
theorem Vals.append:∀ {xs ys:List V} {us ws:List Value},Vals xs us->Vals ys ws->Vals (xs++ys) (us++ws)
 | _,_,_,_,.nil,s=>s
 | _,_,_,_,.cons r t,s=>.cons r (Vals.append t s)
theorem Vals.take:∀ {xs:List V} {us:List Value} (n:Nat),Vals xs us->Vals (xs.take n) (us.take n)
 | _,_,0,_=>.nil
 | _,_,_+1,.nil=>.nil
 | _,_,n+1,.cons r t=>.cons r (Vals.take n t)
theorem Vals.drop:∀ {xs:List V} {us:List Value} (n:Nat),Vals xs us->Vals (xs.drop n) (us.drop n)
 | _,_,0,r=>r
 | _,_,_+1,.nil=>.nil
 | _,_,n+1,.cons _ t=>Vals.drop n t
noncomputable def Lh:Option V->Option Value->Prop
 | some v,some u=>RelV v u
 | none,none=>True
 | _,_=>False
noncomputable def KV {κ:Type}:List (κ × V)->List (κ × Value)->Prop:=Paired fun (p:κ × V) (q:κ × Value)=>p.1=q.1/\RelV p.2 q.2
noncomputable def kV:Key->V
 | .inl i=>.int i
 | .inr x=>.str x
inductive HO where
 /-- a list -/
 | lst (xs:List V)
 /-- a tuple (never changes) -/
 | tup (xs:List V)
 /-- a dict whose keys are ints and texts; one whose keys are tuples of ints and texts (the empty one is both) -/
 | dK (kvs:List (Key × V)) | dT (kvs:List (List Key × V))
 /-- a set of ints: its members,its size -/
 | set (S:Int->Bool) (n:Nat)
 /-- an instance of the class at C,its dict at dx,its attributes -/
 | ins (C dx:Addr) (fs:List (Str × V))
 /-- the dict of the instance at x -/
 | own (x:Addr)
 /-- the dict of an exception -/
 | xd (fs:List (Str × V))
 /-- a bound method,f of x -/
 | met (f x:Addr)
 /-- a range object lo,lo+1,.. below hi -/
 | rng (lo hi:Int)
 /-- a thing that is known to the object (the script; a dict while a loop walks it): read,never written while it is so -/
 | frz (o:Obj) (u:HO)
 /-- a code object's table -/
 | tbl (ps:Array Value)
 /-- any other thing,by what is true of its one object (a def of one's own: SetO a S n:=HO.ext fun h=>..) -/
 | ext (φ:Heap->Prop)
noncomputable abbrev Hp:=Addr->Option HO
noncomputable def upd (H:Hp) (a:Addr) (o:HO):Hp:=fun b=>if b=a then some o else H b
theorem aj {H:Hp} {a:Addr} {o:HO}:upd H a o a=some o:=by unfold upd; rw[if_pos rfl]
theorem cj {H:Hp} {a b:Addr} {o:HO} (h:b≠a):upd H a o b=H b:=by unfold upd; rw[if_neg h]
theorem dj {H:Hp} {a b:Addr} {o:HO} (h:H a=some o) (h':H b=none):a≠b:=by
 intro e; subst e; rw[h] at h'; cases h'
section
variable (P:Program) (w:World)
noncomputable def ir (H:Hp) (h:Heap) (a:Addr):HO->Prop
 | .lst xs=>xs.length<=sizeLine/\∃ (its:List Value) (n:Nat),Vals xs its/\h.get? a=some { cls:=.type "list",data:=.seq its.toArray n }
 | .tup xs=>xs.length<=sizeLine/\∃ its:List Value,Vals xs its/\IsTup h a its.toArray
 | .dK kvs=>kvs.length<=sizeLine/\(a == sysModules)=false/\∃ vs,KV kvs vs/\h.DictOf (Dt P w) a vs
 | .dT kvs=>kvs.length<=sizeLine/\(a == sysModules)=false/\∃ xs:List (List Key × Addr × Value),
   Paired (fun (p:List Key × V) (q:List Key × Addr × Value)=>p.1=q.1/\H q.2.1=some (.tup (p.1.map kV))/\RelV p.2 q.2.2) kvs xs ∧
   ∃ o es ep,h.get? a=some o/\o.ExactDict/\o.data = .dict es ep/\es.toList=xs.map (entryOfKey (tupleKind (Dt P w)))/\(xs.map (·.1)).Nodup
 | .set S n=>h.SetOf (intKind P w) a S n
 | .ins C dx fs=>H dx=some (.own a)/\fs.length<=1000/\dx≠a/\h.get? a=some (PySem.W.instObj C dx) ∧
   ∃ mA,h.Ns1 dx mA/\(∀ f,Lh (fs.lookup f) (mA f))/\PySem.Within mA (fs.map (·.1))
 | .own _=>∃ o,h.get? a=some o
 | .xd fs=>∃ mA,h.Ns1 a mA/\∀ f,Lh (fs.lookup f) (mA f)
 | .rng lo hi=>∃ t u v,h.get? a=some { cls:=.type "range",data:=.fields #[.int lo t,.int hi u,.int 1 v] }
 | .frz o u=>h.get? a=some o/\ir H h a u
 | .tbl ps=>h.get? a=some { cls:=.none,data:=.fields ps }
 | .met f x=>h.get? a=some (PySem.W.methodObj (.ref f) (.ref x))
 | .ext φ=>φ h/\(∃ o,h.get? a=some o)/\∀ h1 h2:Heap,φ h1->(∀ o,h1.get? a=some o->h2.get? a=some o)->φ h2
noncomputable def HOk (H:Hp) (h:Heap):Prop:=∀ a o,H a=some o->ir P w H h a o
end
section
variable {P:Program} {w:World} {H H':Hp} {h h':Heap} {a:Addr} {o:HO}
theorem ir.lt (x:ir P w H h a o):a < h.objs.size:=by
 cases o with
 | lst xs=>obtain⟨_,_,_,_,e⟩:=x; exact Heap.lt_size e
 | tup xs=>obtain⟨_,_,_,p⟩:=x; exact p.lt
 | dK kvs=>obtain⟨_,_,_,_,o,_,_,e,_⟩:=x; exact Heap.lt_size e
 | dT kvs=>obtain⟨_,_,_,_,o,_,_,e,_⟩:=x; exact Heap.lt_size e
 | set S n=>obtain⟨o,_,_,_,e,_⟩:=x; exact Heap.lt_size e
 | ins C dx fs=>obtain⟨_,_,_,e,_⟩:=x; exact Heap.lt_size e
 | own y=>obtain⟨_,e⟩:=x; exact Heap.lt_size e
 | xd fs=>obtain⟨_,⟨_,_,_,e,_⟩,_⟩:=x; exact Heap.lt_size e
 | rng lo hi=>obtain⟨_,_,_,e⟩:=x; exact Heap.lt_size e
 | frz ob u=>obtain⟨e,_⟩:=x; exact Heap.lt_size e
 | tbl ps=>exact Heap.lt_size (show h.get? a=some _ from x)
 | met f y=>exact Heap.lt_size (show h.get? a=some _ from x)
 | ext φ=>obtain⟨_,⟨_,e⟩,_⟩:=x; exact Heap.lt_size e
theorem Paired.Mm {α β:Type} {F G:α->β->Prop}:∀ {l₁:List α} {l₂:List β},Paired F l₁ l₂->(∀ a b,F a b->G a b)->Paired G l₁ l₂
 | _,_,.nil,_=>.nil
 | _,_,.cons r t,f=>.cons (f _ _ r) (Paired.Mm t f)
theorem ir.stay (x:ir P w H h a o) (k:∀ b u,(b=a∨H b=some (.own a))->h.get? b=some u->h'.get? b=some u)
  (ho:∀ b,H b=some (.own a)->H' b=some (.own a)) (ht:∀ b xs,H b=some (.tup xs)->H' b=some (.tup xs)):ir P w H' h' a o:=by
 induction o with
 | lst xs=>obtain⟨z,its,n,r,e⟩:=x; exact⟨z,its,n,r,k _ _ (.inl rfl) e⟩
 | tup xs=>obtain⟨z,its,r,ob,e,c⟩:=x; exact⟨z,its,r,ob,k _ _ (.inl rfl) e,c⟩
 | dK kvs=>obtain⟨z,y,vs,r,ob,es,ep,e,c⟩:=x; exact⟨z,y,vs,r,ob,es,ep,k _ _ (.inl rfl) e,c⟩
 | dT kvs =>
  obtain⟨z,y,xs,r,ob,es,ep,e,c⟩:=x
  exact⟨z,y,xs,Paired.Mm r fun p q z=>⟨z.1,ht _ _ z.2.1,z.2.2⟩,ob,es,ep,k _ _ (.inl rfl) e,c⟩
 | set S n=>obtain⟨ob,es,ep,t,e,c⟩:=x; exact⟨ob,es,ep,t,k _ _ (.inl rfl) e,c⟩
 | ins C dx fs =>
  obtain⟨d,z,ne,e,mA,⟨od,es,ep,e2,c⟩,r⟩:=x
  exact⟨ho _ d,z,ne,k _ _ (.inl rfl) e,mA,⟨od,es,ep,k _ _ (.inr d) e2,c⟩,r⟩
 | own y=>obtain⟨ob,e⟩:=x; exact⟨ob,k _ _ (.inl rfl) e⟩
 | xd fs=>obtain⟨mA,⟨od,es,ep,e,c⟩,r⟩:=x; exact⟨mA,⟨od,es,ep,k _ _ (.inl rfl) e,c⟩,r⟩
 | rng lo hi=>obtain⟨t,u,v,e⟩:=x; exact⟨t,u,v,k _ _ (.inl rfl) e⟩
 | frz ob u ih=>obtain⟨e,q⟩:=x; exact⟨k _ _ (.inl rfl) e,ih q⟩
 | tbl ps =>
  have e:h.get? a=some { cls:=.none,data:=.fields ps }:=x
  show h'.get? a=some { cls:=.none,data:=.fields ps }
  exact k a _ (.inl rfl) e
 | met f y =>
  have e:h.get? a=some (PySem.W.methodObj (.ref f) (.ref y)):=x
  show h'.get? a=some (PySem.W.methodObj (.ref f) (.ref y))
  exact k a _ (.inl rfl) e
 | ext φ=>obtain⟨p,⟨o,e⟩,st⟩:=x; exact⟨st _ _ p fun o q=>k _ _ (.inl rfl) q,⟨o,k _ _ (.inl rfl) e⟩,st⟩
theorem HOk.lt (x:HOk P w H h) (e:H a=some o):a < h.objs.size:=(x a o e).lt
theorem HOk.fresh (x:HOk P w H h) (e:h.objs.size<=a):H a=none:=by
 cases q:H a with
 | none=>rfl
 | some u=>exact absurd (Nat.lt_of_lt_of_le (x.lt q) e) (Nat.lt_irrefl _)
theorem HOk.kept (x:HOk P w H h) (k:∀ b u,h.get? b=some u->h'.get? b=some u):HOk P w H h':=fun a o e =>
 (x a o e).stay (fun b u _ q=>k b u q) (fun _ q=>q) fun _ _ q=>q
theorem HOk.laid (x:HOk P w H h) (k:∀ b u,h.get? b=some u->h'.get? b=some u) (hp:h.objs.size<=a) (new:ir P w (upd H a o) h' a o):HOk P w (upd H a o) h':=fun b u e=>by
 have hn:=x.fresh hp
 by_cases hb:b=a
 ·subst hb; rw[aj] at e; cases e; exact new
 ·rw[cj hb] at e
  exact (x b u e).stay (fun c v _ q=>k c v q) (fun c q=>by rw[cj (dj q hn)]; exact q) fun c xs q=>by rw[cj (dj q hn)]; exact q
end
noncomputable def Rd (H:Hp) (a:Addr) (u:HO):Prop:=H a=some u∨∃ o,H a=some (.frz o u)
theorem Rd.of {H:Hp} {a:Addr} {u:HO} (h:H a=some u):Rd H a u:=.inl h
theorem Rd.ok {P:Program} {w:World} {H:Hp} {h:Heap} {a:Addr} {u:HO} (r:Rd H a u) (x:HOk P w H h):ir P w H h a u:=by
 rcases r with r | ⟨o,r⟩
 ·exact x a u r
 ·obtain⟨_,q⟩:=x a _ r
  exact q
noncomputable def Mut:Option HO->Prop
 | some (.lst _)=>True
 | some (.dK _)=>True
 | some (.dT _)=>True
 | some (.set _ _)=>True
 | some (.ins _ _ _)=>True
 | some (.ext _)=>True
 | _=>False
section
variable {P:Program} {w:World} {H:Hp} {h h':Heap} {x e:Addr} {o':HO}
theorem HOk.write (ok:HOk P w H h) (mu:Mut (H x)) (he:e=x∨H e=some (.own x)) (k:∀ b u,b≠e->h.get? b=some u->h'.get? b=some u) (heo:∃ u,h'.get? e=some u)
  (new:ir P w (upd H x o') h' x o'):HOk P w (upd H x o') h':=fun b u q=>by
 have nown:∀ c y,H c=some (.own y)->c≠x:=fun c y r z=>by subst z; rw[r] at mu; exact mu
 have ntup:∀ c xs,H c=some (.tup xs)->c≠x:=fun c xs r z=>by subst z; rw[r] at mu; exact mu
 by_cases hb:b=x
 ·subst hb; rw[aj] at q; cases q; exact new
 ·rw[cj hb] at q
  by_cases hbe:b=e
  ·have q':H b=some (.own x):=by
    rcases he with z | z
    ·exact absurd (hbe.trans z) hb
    ·rw[hbe]; exact z
   rw[q] at q'; cases q'
   obtain⟨v,hv⟩:=heo
   exact⟨v,by rw[hbe]; exact hv⟩
  ·refine (ok b u q).stay (fun c v hc r=>k c v ?_ r) (fun c r=>by rw[cj (nown c b r)]; exact r) fun c xs r=>by rw[cj (ntup c xs r)]; exact r
   rcases hc with rfl | hc
   ·exact hbe
   ·rintro rfl
    rcases he with z | z
    ·exact nown c b hc z
    ·rw[hc] at z; cases z; exact hb rfl
end
structure Un (fs ex:List Addr) (H H':Hp) (h h':Heap):Prop where
 keep:∀ b o,h.get? b=some o->H b=none->b ∉ fs->b ∉ ex->h'.get? b=some o
 slot:∀ b o,h.get? b=some o->H b=none->b∈fs->b ∉ ex->∃ sl,h'.get? b=some { o with slots:=sl }
 free:∀ b o,h.get? b=some o->H b=none->b ∉ ex->H' b=none
 there:∀ b o,h.get? b=some o->b ∉ ex->∃ o',h'.get? b=some o'
 tups:∀ b xs,H b=some (.tup xs)->H' b=some (.tup xs)
 frzs:∀ b o u,H b=some (.frz o u)->H' b=some (.frz o u)
 tbls:∀ b ps,H b=some (.tbl ps)->∃ more,H' b=some (.tbl (ps++more))
section
variable {fs fs' ex ex':List Addr} {H H1 H2:Hp} {h h1 h2 h':Heap} {a x e:Addr} {o:HO}
theorem Un.any (u:Un fs ex H H1 h h1) {b:Addr} {ob:Obj} (q:h.get? b=some ob) (n:H b=none) (hx:b ∉ ex):∃ sl,h1.get? b=some { ob with slots:=sl }:=by
 by_cases hb:b∈fs
 ·exact u.slot b ob q n hb hx
 ·exact⟨ob.slots,u.keep b ob q n hb hx⟩
theorem Un.trans (a:Un fs ex H H1 h h1) (b:Un fs ex H1 H2 h1 h2):Un fs ex H H2 h h2 where
 keep:=fun c ob q n hc hx=>b.keep c ob (a.keep c ob q n hc hx) (a.free c ob q n hx) hc hx
 slot:=fun c ob q n hc hx=>by
  obtain⟨sl,e1⟩:=a.slot c ob q n hc hx
  obtain⟨sl',e2⟩:=b.slot c _ e1 (a.free c ob q n hx) hc hx
  exact⟨sl',e2⟩
 free:=fun c ob q n hx=>by
  obtain⟨o',e1⟩:=a.there c ob q hx
  exact b.free c o' e1 (a.free c ob q n hx) hx
 there:=fun c ob q hx=>by
  obtain⟨o',e1⟩:=a.there c ob q hx
  exact b.there c o' e1 hx
 tups:=fun c xs q=>b.tups c xs (a.tups c xs q)
 frzs:=fun c ob xs q=>b.frzs c ob xs (a.frzs c ob xs q)
 tbls:=fun c ps q=>by
  obtain⟨m1,e1⟩:=a.tbls c ps q
  obtain⟨m2,e2⟩:=b.tbls c _ e1
  exact⟨m1++m2,by rw[e2,Array.append_assoc]⟩
theorem Un.kept (k:∀ b u,h.get? b=some u->h'.get? b=some u):Un fs ex H H h h' :=
 ⟨fun b ob q _ _ _=>k b ob q,fun b ob q _ _ _=>⟨ob.slots,k b ob q⟩,fun _ _ _ n _=>n,fun b ob q _=>⟨ob,k b ob q⟩,fun _ _ q=>q,fun _ _ _ q=>q,fun _ ps q=>⟨#[],by rw[q]; simp⟩⟩
theorem Un.refl:Un fs ex H H h h:=Un.kept fun _ _ q=>q
theorem Un.laid (k:∀ b u,h.get? b=some u->h'.get? b=some u) (hp:h.objs.size<=a) (hn:H a=none):Un fs ex H (upd H a o) h h' where
 keep:=fun b u q _ _ _=>k b u q
 slot:=fun b u q _ _ _=>⟨u.slots,k b u q⟩
 free:=fun b u q n _=>by rw[cj (Nat.ne_of_lt (Nat.lt_of_lt_of_le (Heap.lt_size q) hp))]; exact n
 there:=fun b u q _=>⟨u,k b u q⟩
 tups:=fun b xs q=>by rw[cj (dj q hn)]; exact q
 frzs:=fun b u xs q=>by rw[cj (dj q hn)]; exact q
 tbls:=fun b ps q=>⟨#[],by rw[cj (dj q hn),q]; simp⟩
theorem Un.write (mu:Mut (H x)) (he:e=x∨H e=some (.own x)) (k:∀ b u,b≠e->h.get? b=some u->h'.get? b=some u) (heo:∃ u,h'.get? e=some u):Un fs ex H (upd H x o) h h':=by
 have hx:∀ b,H b=none->b≠x:=fun b n z=>by subst z; rw[n] at mu; exact mu
 have hb:∀ b,H b=none->b≠e:=fun b n z=>by
  subst z
  rcases he with r | r
  ·exact hx b n r
  ·rw[n] at r; cases r
 have hm:∀ b u,H b=some u->¬ Mut (some u)->b≠x:=fun b u q nm z=>by subst z; rw[q] at mu; exact nm mu
 refine⟨fun b u q n _ _=>k b u (hb b n) q,fun b u q n _ _=>⟨u.slots,k b u (hb b n) q⟩,fun b u q n _=>by rw[cj (hx b n)]; exact n,fun b u q _=>?_,
  fun b xs q=>by rw[cj (hm b _ q fun z=>z)]; exact q,fun b u xs q=>by rw[cj (hm b _ q fun z=>z)]; exact q,fun b ps q=>⟨#[],by rw[cj (hm b _ q fun z=>z),q]; simp⟩⟩
 by_cases hbe:b=e
 ·subst hbe; exact heo
 ·exact⟨u,k b u hbe q⟩
theorem Un.mono (u:Un fs ex H H1 h h1) (hs:∀ b∈fs,b∈fs') (hx:∀ b∈ex,b∈ex'):Un fs' ex' H H1 h h1 :=
 ⟨fun b ob q n hb he=>u.keep b ob q n (fun z=>hb (hs b z)) fun z=>he (hx b z),fun _ _ q n _ he=>u.any q n fun z=>he (hx _ z),fun b ob q n he=>u.free b ob q n fun z=>he (hx b z),fun b ob q he=>u.there b ob q fun z=>he (hx b z),u.tups,u.frzs,u.tbls⟩
end
noncomputable def trk (h:Heap) (H:Hp):List Addr:=(List.range h.objs.size).filter fun a=>(H a).isSome
noncomputable def Gd (h:Heap) (H:Hp):Heap:=PySem.W.hideAll h (trk h H)
theorem Cr (h:Heap) (H:Hp):(Gd h H).objs.size=h.objs.size:=PySem.W.hideAll_size _ _
theorem Ey {h:Heap} {H:Hp} {b:Addr} {o:Obj} (e:h.get? b=some o) (n:H b=none):(Gd h H).get? b=some o :=
 PySem.W.hideAll_get _ e fun hm=>by
  have q:(H b).isSome=true:=(List.mem_filter.mp hm).2
  rw[n] at q; simp at q
theorem Il {h:Heap} {H:Hp} {b:Addr} {o:Obj} (e:(Gd h H).get? b=some o):h.get? b=some o/\H b=none:=by
 have e':h.get? b=some o:=PySem.W.of_hideAll (trk h H) e
 refine⟨e',?_⟩
 cases q:H b with
 | none=>rfl
 | some x =>
  have hm:b∈trk h H:=List.mem_filter.mpr ⟨List.mem_range.mpr (Heap.lt_size e'),by simp [q]⟩
  have z:(Gd h H).get? b=none:=PySem.W.hideAll_none (trk h H) hm
  rw[z] at e; cases e
noncomputable def Ju (g h:Heap) (L:Addr):List (Addr × Obj):=(List.range h.objs.size).filterMap fun a=>if a=L∨(g.get? a).isSome=true then none else (h.get? a).map fun o=>(a,o)
noncomputable def rest (g h:Heap) (L d:Addr):List (Addr × Obj):=(Ju g h L).filter fun p=>decide (p.1≠d)
end L2
namespace L2
open PySem PySem.Spec PyProof.Rows
structure Mod (K:PySem.W.Frag) (mg:Str->Option Value) (base:Heap):Prop where
 kin:K.In base
 glob:base.Ns mainGlobals mg
 blt:∃ mb,base.Ns builtinsNs mb/\∀ x:Str,x≠"__name__"->mb x=bootBuiltins x
 nolimit:base.NoLimit
structure Cx where
 prog:Program
 w:World
 K:PySem.W.Frag
 mg:Str->Option Value
 base:Heap
 A:Around
 N:List Str
 s₀:Shared
 H₀:Hp
 env:Env
 outer:List Env
 stack:List Env
 ex:List Addr
 fn:Str->Bool
 calm:Bool
 pn:List (Addr × Obj)
 xe:Value->Shared->Prop
noncomputable def frs (l:List Env):List Addr:=l.filterMap (·.frame)
noncomputable abbrev Cx.fs (X:Cx):List Addr:=frs X.outer
noncomputable def Vis (sc:Scope) (x:Str):Prop:=sc.names.lookup x=some .local∨sc.names.lookup x=some .cell∨sc.names.lookup x=some .free
noncomputable def Loc (sc:Scope) (x:Str):Prop:=sc.names.lookup x=some .local∨sc.names.lookup x=some .cell
noncomputable def Look (env:Env) (h:Heap) (m:Str->Option Value) (x:Str) (u:Value):Prop :=
 (env.kindOf x=some .local/\m x=some u)∨((env.kindOf x=some .cell∨env.kindOf x=some .free)/\∃ c,env.cells.lookup x=some c/\h.IsCell c (some u))
structure Cx.Ok (X:Cx):Prop where
 mod:Mod X.K X.mg X.base
 kind:X.env.scope.kind = .function
 glob:X.env.globals=mainGlobals
 blt:X.env.builtins=builtinsNs
 above:X.s₀.heap.objs.size<=X.env.locals
 inj:∀ x y c,X.env.cells.lookup x=some c->X.env.cells.lookup y=some c->x=y
 has:∀ x,(X.env.kindOf x=some .cell∨X.env.kindOf x=some .free)->∃ c,X.env.cells.lookup x=some c
 cab:∀ x c,X.fn x=true->X.env.cells.lookup x=some c->X.s₀.heap.objs.size<=c
 hd:X.calm=true->X.A.handled=none
 frames:X.A.frames=some X.stack
 stk:X.stack=X.outer∨(X.stack=X.env::X.outer/\X.env.frame=some X.env.locals)
 exf:∀ b∈X.ex,b≠X.env.locals/\∀ x c,X.env.cells.lookup x=some c->c≠b
 bs:∀ b o,X.base.get? b=some o->X.s₀.heap.get? b=some o/\X.H₀ b=none
 bsz:X.base.objs.size<=X.s₀.heap.objs.size
 noex:∀ b o,X.base.get? b=some o->b ∉ X.ex
 exfs:∀ b∈X.ex,b ∉ X.fs
 zP:X.s₀.heap.FunFrames X.base X.outer
 frf:∀ b∈X.fs,X.H₀ b=none
structure Inv (X:Cx) (pins:List (Addr × Obj)) (σ:List (Option V)) (H:Hp) (s:Shared):Prop where
 ok:X.Ok
 os:s.os=X.s₀.os
 bare:AllBare s.gens
 base:Un X.fs X.ex X.H₀ H X.s₀.heap s.heap
 loc:∃ m,s.heap.Ns X.env.locals m/\∀ (i:Nat) (x:Str) (v:V),X.N[i]? = some x->σ[i]? = some (some v)->Vis X.env.scope x->∃ u,RelV v u/\Look X.env s.heap m x u
 cell:∀ x c,X.env.cells.lookup x=some c->∃ v,s.heap.IsCell c v
 free:H X.env.locals=none
 freeC:∀ x c,X.env.cells.lookup x=some c->H c=none
 pin:∀ p∈X.pn++pins,s.heap.get? p.1=some p.2/\H p.1=none/\p.1≠X.env.locals/\p.1 ∉ X.fs/\∀ v,p.2.data≠.cell v
 hok:HOk X.prog X.w H s.heap
 len:σ.length=X.N.length
section
variable {X:Cx} {pins:List (Addr × Obj)} {σ:List (Option V)} {H H':Hp} {s:Shared} {h':Heap}
theorem Cx.Ok.Mz (ok:X.Ok) {b:Addr} {o:Obj} (e:X.base.get? b=some o):b ∉ X.fs:=fun hb=>by
 have:=(ok.zP.mem hb).1
 rw[e] at this; cases this
theorem Inv.bs (I:Inv X pins σ H s):∀ b o,X.base.get? b=some o->s.heap.get? b=some o/\H b=none:=fun b o e =>
 ⟨I.base.keep b o (I.ok.bs b o e).1 (I.ok.bs b o e).2 (I.ok.Mz e) (I.ok.noex b o e),I.base.free b o (I.ok.bs b o e).1 (I.ok.bs b o e).2 (I.ok.noex b o e)⟩
theorem Inv.bk (I:Inv X pins σ H s):∀ b o,X.base.get? b=some o->s.heap.get? b=some o:=fun b o e=>(I.bs b o e).1
theorem Inv.mod (I:Inv X pins σ H s):Mod X.K X.mg X.base:=I.ok.mod
theorem Inv.kIn (I:Inv X pins σ H s):X.K.In s.heap:=I.ok.mod.kin.keeps I.bk
theorem Inv.nolimit (I:Inv X pins σ H s):s.heap.NoLimit:=I.ok.mod.nolimit.keeps I.bk
theorem Inv.fr (I:Inv X pins σ H s):∃ m,Fr X.base X.env.locals s.heap m :=
 let ⟨m,hn,_⟩:=I.loc
 ⟨m,hn,I.bk,Nat.le_trans I.ok.bsz I.ok.above⟩
theorem Inv.lt (I:Inv X pins σ H s):X.env.locals < s.heap.objs.size:=let ⟨_,hn,_⟩:=I.loc; hn.lt
theorem Inv.sz (I:Inv X pins σ H s):X.s₀.heap.objs.size<=s.heap.objs.size:=Nat.le_trans I.ok.above (Nat.le_of_lt I.lt)
theorem Inv.Nx (I:Inv X pins σ H s) {a:Addr} (h:s.heap.objs.size<=a):a ∉ X.fs:=fun hb=>by
 obtain⟨_,o,ho,_⟩:=I.ok.zP.mem hb
 exact absurd (Nat.lt_of_lt_of_le (Heap.lt_size ho) (Nat.le_trans I.sz h)) (Nat.lt_irrefl _)
theorem Inv.cne (I:Inv X pins σ H s):∀ x c,X.env.cells.lookup x=some c->c≠X.env.locals:=fun x c e z=>by
 obtain⟨v,o,ho,hd⟩:=I.cell x c e
 obtain⟨m,⟨o',es,ep,ho',hd',_⟩,_⟩:=I.loc
 rw[z,ho'] at ho; cases ho; rw[hd'] at hd; cases hd
theorem Inv.zP (I:Inv X pins σ H s):s.heap.FunFrames X.base X.outer:=by
 have all:∀ (l:List Env),(∀ b∈frs l,b∈X.fs)->X.s₀.heap.FunFrames X.base l->s.heap.FunFrames X.base l:=by
  intro l
  induction l with
  | nil=>intro _ _; trivial
  | cons env r ih =>
   intro hs hl
   obtain⟨hk,⟨L,o,hf,hn,ho,hd⟩,hr⟩:=hl
   have hL:L∈X.fs:=hs L (by unfold frs; rw[List.filterMap_cons,hf]; exact List.mem_cons_self)
   obtain⟨sl,e⟩:=I.base.slot L o ho (I.ok.frf L hL) hL fun z=>I.ok.exfs L z hL
   exact⟨hk,⟨L,_,hf,hn,e,hd⟩,ih (fun b hb=>hs b (by unfold frs; rw[List.filterMap_cons,hf]; exact List.mem_cons_of_mem _ hb)) hr⟩
 exact all X.outer (fun _ hb=>hb) I.ok.zP
theorem Inv.stack (I:Inv X pins σ H s):s.heap.FunFrames X.base X.stack:=by
 rcases I.ok.stk with e | ⟨e,hf⟩
 ·rw[e]; exact I.zP
 ·rw[e]
  obtain⟨m,hn,_⟩:=I.loc
  refine .cons (by rw[I.ok.kind]; decide) hf hn ?_ I.zP
  exact Heap.get?_none_of_le (Nat.le_trans I.ok.bsz I.ok.above)
theorem Inv.Aw (I:Inv X pins σ H s):∀ b∈frs X.stack,b∈X.env.locals::X.fs:=fun b hb=>by
 rcases I.ok.stk with e | ⟨e,hf⟩
 ·rw[e] at hb; exact List.mem_cons_of_mem _ hb
 ·rw[e] at hb
  unfold frs at hb
  rw[List.filterMap_cons,hf] at hb
  exact hb
theorem Inv.Av (I:Inv X pins σ H s):∀ b∈frs X.stack,H b=none:=fun b hb=>by
 rcases List.mem_cons.mp (I.Aw b hb) with e | hb
 ·rw[e]; exact I.free
 ·obtain⟨_,o,ho,_⟩:=I.ok.zP.mem hb
  exact I.base.free b o ho (I.ok.frf b hb) fun z=>I.ok.exfs b z hb
theorem Inv.step {g':Array GenState} {t':Nat} {d':Drawn} {ch:List Addr} (I:Inv X pins σ H s)
  (hch:∀ b∈ch,(b∈X.ex∨X.s₀.heap.objs.size<=b)/\b≠X.env.locals/\(∀ x c,X.env.cells.lookup x=some c->c≠b)/\∀ p∈X.pn++pins,p.1≠b)
  (keep:∀ b o,b≠X.env.locals->b ∉ X.fs->b ∉ ch->s.heap.get? b=some o->H b=none->h'.get? b=some o)
  (slot:∀ b o,b≠X.env.locals->b∈X.fs->b ∉ ch->s.heap.get? b=some o->H b=none->∃ sl,h'.get? b=some { o with slots:=sl }) (free:∀ b o,b ∉ ch->s.heap.get? b=some o->H b=none->H' b=none)
  (there:∀ b o,b ∉ ch->s.heap.get? b=some o->∃ o',h'.get? b=some o')
  (tups:∀ b xs,H b=some (.tup xs)->H' b=some (.tup xs)) (frzs:∀ b o u,H b=some (.frz o u)->H' b=some (.frz o u)) (tbls:∀ b ps,H b=some (.tbl ps)->∃ more,H' b=some (.tbl (ps++more)))
  (ns:∀ m,s.heap.Ns X.env.locals m->h'.Ns X.env.locals m) (hok:HOk X.prog X.w H' h') (hg:AllBare g') :
  Inv X pins σ H' { s with heap:=h',gens:=g',drawn:=d',toks:=t' }:=by
 have neL:∀ b o,X.s₀.heap.get? b=some o->b≠X.env.locals:=fun b o e=>Nat.ne_of_lt (Nat.lt_of_lt_of_le (Heap.lt_size e) I.ok.above)
 have neC:∀ b o,X.s₀.heap.get? b=some o->b ∉ X.ex->b ∉ ch:=fun b o e hx hb=>by
  rcases (hch b hb).1 with z | z
  ·exact hx z
  ·exact absurd (Nat.lt_of_lt_of_le (Heap.lt_size e) z) (Nat.lt_irrefl _)
 have cellK:∀ x c,X.env.cells.lookup x=some c->∀ v,s.heap.IsCell c v->h'.IsCell c v:=fun x c e v ⟨o,ho,hd⟩=>by
  have nch:c ∉ ch:=fun z=>(hch c z).2.2.1 x c e rfl
  by_cases hc:c∈X.fs
  ·obtain⟨sl,q⟩:=slot c o (I.cne x c e) hc nch ho (I.freeC x c e)
   exact⟨_,q,hd⟩
  ·exact⟨o,keep c o (I.cne x c e) hc nch ho (I.freeC x c e),hd⟩
 refine⟨I.ok,I.os,hg,⟨fun b o e n hb hx=>?_,fun b o e n hb hx=>?_,fun b o e n hx=>?_,fun b o e hx=>?_,fun b xs e=>tups b xs (I.base.tups b xs e),fun b o xs e=>frzs b o xs (I.base.frzs b o xs e),fun b ps e=>?_⟩,?_,fun x c e=>?_,?_,fun x c e=>?_,fun p hp=>?_,hok,I.len⟩
 ·exact keep b o (neL b o e) hb (neC b o e hx) (I.base.keep b o e n hb hx) (I.base.free b o e n hx)
 ·obtain⟨sl,e1⟩:=I.base.slot b o e n hb hx
  obtain⟨sl',e2⟩:=slot b _ (neL b o e) hb (neC b o e hx) e1 (I.base.free b o e n hx)
  exact⟨sl',e2⟩
 ·obtain⟨o',e1⟩:=I.base.there b o e hx
  exact free b o' (neC b o e hx) e1 (I.base.free b o e n hx)
 ·obtain⟨o',e1⟩:=I.base.there b o e hx
  exact there b o' (neC b o e hx) e1
 ·obtain⟨m1,e1⟩:=I.base.tbls b ps e
  obtain⟨m2,e2⟩:=tbls b _ e1
  exact⟨m1++m2,by rw[e2,Array.append_assoc]⟩
 ·obtain⟨m,hn,hl⟩:=I.loc
  refine⟨m,ns m hn,fun i x v e1 e2 e3=>?_⟩
  obtain⟨u,r,l⟩:=hl i x v e1 e2 e3
  refine⟨u,r,?_⟩
  rcases l with l | ⟨k,c,e,z⟩
  ·exact .inl l
  ·exact .inr ⟨k,c,e,cellK x c e _ z⟩
 ·obtain⟨v,z⟩:=I.cell x c e
  exact⟨v,cellK x c e v z⟩
 ·obtain⟨m,⟨o,_,_,ho,_⟩,_⟩:=I.loc
  exact free _ o (fun z=>(hch _ z).2.1 rfl) ho I.free
 ·obtain⟨v,o,ho,hd⟩:=I.cell x c e
  exact free c o (fun z=>(hch c z).2.2.1 x c e rfl) ho (I.freeC x c e)
 ·obtain⟨e,n,ne,nf,d⟩:=I.pin p hp
  have nch:p.1 ∉ ch:=fun z=>(hch p.1 z).2.2.2 p hp rfl
  exact⟨keep p.1 p.2 ne nf nch e n,free p.1 p.2 nch e n,ne,nf,d⟩
theorem Inv.un {t':Nat} (I:Inv X pins σ H s) (u:Un X.fs [] H H' s.heap h') (hok:HOk X.prog X.w H' h'):Inv X pins σ H' { s with heap:=h',toks:=t' }:=by
 obtain⟨m,⟨o,es,ep,ho,r⟩,_⟩:=id I.loc
 obtain⟨sl,hL⟩:=u.any ho I.free (by simp)
 exact I.step (g':=s.gens) (d':=s.drawn) (ch:=[]) (fun _ z=>nomatch z) (fun b o _ hb _ e n=>u.keep b o e n hb (by simp)) (fun b o _ hb _ e n=>u.slot b o e n hb (by simp)) (fun b o _ e n=>u.free b o e n (by simp)) (fun b o _ e=>u.there b o e (by simp)) u.tups u.frzs u.tbls (fun m' hm=>by
  obtain⟨o',es',ep',ho',r'⟩:=hm
  rw[ho] at ho'; cases ho'
  exact⟨_,es',ep',hL,r'⟩) hok I.bare
theorem Inv.call {g':Array GenState} {t':Nat} {d':Drawn} {ch:List Addr} (I:Inv X pins σ H s) (u:Un (frs X.stack) ch H H' s.heap h') (hok:HOk X.prog X.w H' h') (hg:AllBare g')
  (hch:∀ b∈ch,(b∈X.ex∨X.s₀.heap.objs.size<=b)/\b≠X.env.locals/\(∀ x c,X.env.cells.lookup x=some c->c≠b)/\∀ p∈X.pn++pins,p.1≠b) :
  Inv X pins σ H' { s with heap:=h',gens:=g',drawn:=d',toks:=t' }:=by
 obtain⟨m,⟨o,es,ep,ho,r⟩,_⟩:=id I.loc
 obtain⟨sl,hL⟩:=u.any ho I.free fun z=>(hch _ z).2.1 rfl
 exact I.step (ch:=ch) hch (fun b o hL hb hc e n=>u.keep b o e n (fun z=>(List.mem_cons.mp (I.Aw b z)).elim hL hb) hc) (fun b o _ _ hc e n=>u.any e n hc) (fun b o hc e n=>u.free b o e n hc) (fun b o hc e=>u.there b o e hc) u.tups u.frzs u.tbls (fun m' hm=>by
  obtain⟨o',es',ep',ho',r'⟩:=hm
  rw[ho] at ho'; cases ho'
  exact⟨_,es',ep',hL,r'⟩) hok hg
theorem Inv.turned {t':Nat} {it:Addr} (I:Inv X pins σ H s) (k:∀ b o,b≠it->s.heap.get? b=some o->h'.get? b=some o) (hn:H it=none) (hL:it≠X.env.locals)
  (h1:it∈X.ex∨X.s₀.heap.objs.size<=it) (h2:∀ x c,X.env.cells.lookup x=some c->c≠it) (h3:∀ p∈X.pn++pins,p.1≠it):Inv X pins σ H { s with heap:=h',toks:=t' }:=by
 have nit:∀ b u,H b=some u->b≠it:=fun b u e z=>by rw[z,hn] at e; cases e
 refine I.step (g':=s.gens) (d':=s.drawn) (ch:=[it]) (fun b hb=>?_) (fun b o _ _ hc e _=>k b o (fun z=>hc (by simp [z])) e) (fun b o _ _ hc e _=>⟨o.slots,k b o (fun z=>hc (by simp [z])) e⟩) (fun _ _ _ _ n=>n)
  (fun b o hc e=>⟨o,k b o (fun z=>hc (by simp [z])) e⟩) (fun _ _ e=>e) (fun _ _ _ e=>e) (fun b ps e=>⟨#[],by rw[e]; simp⟩) (fun m hm=>?_) (fun b u e=>?_) I.bare
 ·have e:b=it:=by simpa using hb
  subst e
  exact⟨h1,hL,h2,h3⟩
 ·obtain⟨o,es,ep,ho,r⟩:=hm
  exact⟨o,es,ep,k _ o (Ne.symm hL) ho,r⟩
 ·refine (I.hok b u e).stay (fun c v hc q=>k c v ?_ q) (fun _ q=>q) fun _ _ q=>q
  rcases hc with z | z
  ·rw[z]; exact nit b u e
  ·exact nit c _ z
theorem Inv.tok (I:Inv X pins σ H s) (t:Nat):Inv X pins σ H { s with toks:=t }:=I.un (h':=s.heap) (t':=t) Un.refl I.hok
theorem Inv.kept {t':Nat} (I:Inv X pins σ H s) (k:∀ b u,s.heap.get? b=some u->h'.get? b=some u):Inv X pins σ H { s with heap:=h',toks:=t' }:=I.un (Un.kept k) (I.hok.kept k)
theorem Inv.laid {a:Addr} {o:HO} {t':Nat} (I:Inv X pins σ H s) (k:∀ b u,s.heap.get? b=some u->h'.get? b=some u) (hp:s.heap.objs.size<=a) (new:ir X.prog X.w (upd H a o) h' a o) :
  Inv X pins σ (upd H a o) { s with heap:=h',toks:=t' }:=I.un (Un.laid k hp (I.hok.fresh hp)) (I.hok.laid k hp new)
theorem Inv.write {x e:Addr} {o:HO} {t':Nat} (I:Inv X pins σ H s) (mu:Mut (H x)) (he:e=x∨H e=some (.own x)) (k:∀ b u,b≠e->s.heap.get? b=some u->h'.get? b=some u) (heo:∃ u,h'.get? e=some u)
  (new:ir X.prog X.w (upd H x o) h' x o):Inv X pins σ (upd H x o) { s with heap:=h',toks:=t' }:=I.un (Un.write mu he k heo) (I.hok.write mu he k heo new)
theorem Inv.Bv {pins':List (Addr × Obj)} (I:Inv X pins σ H s) (h:∀ p∈pins',s.heap.get? p.1=some p.2/\H p.1=none/\p.1≠X.env.locals/\p.1 ∉ X.fs/\∀ v,p.2.data≠.cell v):Inv X pins' σ H s :=
 ⟨I.ok,I.os,I.bare,I.base,I.loc,I.cell,I.free,I.freeC,fun p hp=>(List.mem_append.mp hp).elim (fun z=>I.pin p (List.mem_append_left _ z)) (h p),I.hok,I.len⟩
theorem yw {N:List Str} (hN:N.Nodup) {i j:Nat} {x:Str} (a:N[i]? = some x) (b:N[j]? = some x):i=j:=by
 obtain⟨h1,e1⟩:=List.getElem?_eq_some_iff.mp a
 obtain⟨h2,e2⟩:=List.getElem?_eq_some_iff.mp b
 exact (List.getElem_inj hN).mp (e1.trans e2.symm)
theorem nG {M:Model} {A:Around} {E:Value->Shared->Prop} {i:Nat} {x:Str} {v:V} {u:Value} {Q:Unit->Shared->Prop} (I:Inv X pins σ H s) (hN:X.N.Nodup) (hi:X.N[i]? = some x) (hx:Loc X.env.scope x) (r:RelV v u)
  (h:∀ s',Inv X pins (σ.set i (some v)) H s'->(∃ a,Heap.SameBut a s.heap s'.heap/\(a=X.env.locals∨X.env.cells.lookup x=some a))->Q () s') (hf:X.fn x=true∨X.env.scope.names.lookup x=some .local:=by first | exact .inl rfl | exact .inr rfl | assumption):wpAny M A (storeName X.env x u) Q E s:=by
 obtain⟨m,hn,hl⟩:=id I.loc
 have hcls:(X.env.scope.kind == .class || (X.env.scope.kind == .module && X.env.locals != X.env.globals))=false:=by rw[I.ok.kind]; rfl
 have hiσ:i < σ.length:=by rw[I.len]; exact (List.getElem?_eq_some_iff.mp hi).1
 have cne:=I.cne
 have tracked:∀ {a:Addr} {h':Heap},(∃ o,s.heap.get? a=some o/\H a=none)->Heap.SameBut a s.heap h'->HOk X.prog X.w H h':=fun {a h'} ha hs b ob e=>by
  obtain⟨_,_,hfree⟩:=ha
  refine (I.hok b ob e).stay (fun c w' hc q=>(hs.2 c ?_).trans q) (fun _ q=>q) fun _ _ q=>q
  rintro rfl
  rcases hc with rfl | hc
  ·rw[hfree] at e; cases e
  ·rw[hfree] at hc; cases hc
 rcases hx with hk | hk
 ·refine wpAny_storeName_local hk hn (fun h' hn' hs=>?_) hcls
  obtain⟨oL,_,_,hoL,_⟩:=id hn
  refine h _ ⟨I.ok,I.os,I.bare,⟨fun b o e n hb hx=>?_,fun b o e n hb hx=>?_,I.base.free,fun b o e hx=>?_,I.base.tups,I.base.frzs,I.base.tbls⟩,⟨_,hn',fun j y v' e1 e2 e3=>?_⟩,fun y c e=>?_,I.free,I.freeC,fun p hp=>?_,tracked ⟨oL,hoL,I.free⟩ hs,by simpa using I.len⟩ ⟨_,hs,.inl rfl⟩
  ·exact (hs.2 b (Nat.ne_of_lt (Nat.lt_of_lt_of_le (Heap.lt_size e) I.ok.above))).trans (I.base.keep b o e n hb hx)
  ·obtain⟨sl,e1⟩:=I.base.slot b o e n hb hx
   exact⟨sl,(hs.2 b (Nat.ne_of_lt (Nat.lt_of_lt_of_le (Heap.lt_size e) I.ok.above))).trans e1⟩
  ·obtain⟨o',e1⟩:=I.base.there b o e hx
   exact⟨o',(hs.2 b (Nat.ne_of_lt (Nat.lt_of_lt_of_le (Heap.lt_size e) I.ok.above))).trans e1⟩
  ·by_cases hj:j=i
   ·subst hj
    rw[hi] at e1; cases e1
    rw[List.getElem?_set_self hiσ] at e2
    cases e2
    exact⟨u,r,.inl ⟨hk,by simp⟩⟩
   ·rw[List.getElem?_set_ne (Ne.symm hj)] at e2
    obtain⟨u',r',q⟩:=hl j y v' e1 e2 e3
    refine⟨u',r',?_⟩
    rcases q with⟨k,e⟩ | ⟨k,c,e,z⟩
    ·refine .inl ⟨k,?_⟩
     have:y≠x:=fun e=>hj (yw hN e1 (e▸hi))
     simp [this,e]
    ·exact .inr ⟨k,c,e,z.sameBut hs (cne y c e)⟩
  ·obtain⟨w',z⟩:=I.cell y c e
   exact⟨w',z.sameBut hs (cne y c e)⟩
  ·obtain⟨e,n,ne,nf,d⟩:=I.pin p hp
   exact⟨(hs.2 p.1 ne).trans e,n,ne,nf,d⟩
 ·have hfn:X.fn x=true:=by
   rcases hf with z | z
   ·exact z
   ·rw[z] at hk; cases hk
  obtain⟨c,hc⟩:=I.ok.has x (.inl hk)
  obtain⟨w',z⟩:=I.cell x c hc
  refine wpAny_storeName_cell I.ok.kind hk hc z (fun h' hc' hs=>?_)
  obtain⟨oc,hoc,hocd⟩:=id z
  refine h { s with heap:=h' } ⟨I.ok,I.os,I.bare,⟨fun b o e n hb hx=>?_,fun b o e n hb hx=>?_,I.base.free,fun b o e hx=>?_,I.base.tups,I.base.frzs,I.base.tbls⟩,⟨m,hn.sameBut hs (Ne.symm (cne x c hc)),fun j y v' e1 e2 e3=>?_⟩,fun y c' e=>?_,I.free,I.freeC,fun p hp=>?_,tracked ⟨oc,hoc,I.freeC x c hc⟩ hs,by simpa using I.len⟩ ⟨c,hs,.inr hc⟩
  ·exact (hs.2 b (Nat.ne_of_lt (Nat.lt_of_lt_of_le (Heap.lt_size e) (I.ok.cab x c hfn hc)))).trans (I.base.keep b o e n hb hx)
  ·obtain⟨sl,e1⟩:=I.base.slot b o e n hb hx
   exact⟨sl,(hs.2 b (Nat.ne_of_lt (Nat.lt_of_lt_of_le (Heap.lt_size e) (I.ok.cab x c hfn hc)))).trans e1⟩
  ·obtain⟨o',e1⟩:=I.base.there b o e hx
   exact⟨o',(hs.2 b (Nat.ne_of_lt (Nat.lt_of_lt_of_le (Heap.lt_size e) (I.ok.cab x c hfn hc)))).trans e1⟩
  ·by_cases hj:j=i
   ·subst hj
    rw[hi] at e1; cases e1
    rw[List.getElem?_set_self hiσ] at e2
    cases e2
    exact⟨u,r,.inr ⟨.inl hk,c,hc,hc'⟩⟩
   ·rw[List.getElem?_set_ne (Ne.symm hj)] at e2
    obtain⟨u',r',q⟩:=hl j y v' e1 e2 e3
    refine⟨u',r',?_⟩
    rcases q with q | ⟨k,c',e,z'⟩
    ·exact .inl q
    ·refine .inr ⟨k,c',e,z'.sameBut hs ?_⟩
     rintro rfl
     exact hj (yw hN e1 (I.ok.inj _ _ _ e hc▸hi))
  ·by_cases hcc:c'=c
   ·subst hcc; exact⟨_,hc'⟩
   ·obtain⟨w2,z2⟩:=I.cell y c' e
    exact⟨w2,z2.sameBut hs hcc⟩
  ·obtain⟨e,n,ne,nf,d⟩:=I.pin p hp
   refine⟨(hs.2 p.1 ?_).trans e,n,ne,nf,d⟩
   intro q
   rw[q,hoc] at e
   have q':oc=p.2:=Option.some.inj e
   exact d w' (by rw[← q']; exact hocd)
theorem yG {M:Model} {A:Around} {E:Value->Shared->Prop} {i:Nat} {x:Str} {v:V} {u:Value} {Q:Unit->Shared->Prop} (I:Inv X pins σ H s) (hN:X.N.Nodup) (hi:X.N[i]? = some x) (hx:Loc X.env.scope x) (r:RelV v u)
  (h:∀ s',Inv X pins (σ.set i (some v)) H s'->Q () s') (hf:X.fn x=true∨X.env.scope.names.lookup x=some .local:=by first | exact .inl rfl | exact .inr rfl | assumption):wpAny M A (storeName X.env x u) Q E s :=
 nG I hN hi hx r (fun s' I' _=>h s' I') hf
theorem Inv.call' {s':Shared} {ch:List Addr} (I:Inv X pins σ H s) (ho:s'.os=s.os) (u:Un (frs X.stack) ch H H' s.heap s'.heap) (hok:HOk X.prog X.w H' s'.heap) (hg:AllBare s'.gens)
  (hch:∀ b∈ch,(b∈X.ex∨X.s₀.heap.objs.size<=b)/\b≠X.env.locals/\(∀ x c,X.env.cells.lookup x=some c->c≠b)/\∀ p∈X.pn++pins,p.1≠b):Inv X pins σ H' s':=by
 obtain⟨h',g',d',t',o'⟩:=s'
 have e:o'=s.os:=ho
 subst e
 exact I.call (g':=g') (t':=t') (d':=d') u hok hg hch
end
noncomputable abbrev XK:=Value->Option Addr->Hp->Prop
noncomputable abbrev St:=List (Option V)
noncomputable abbrev VK:=V->Hp->Prop
noncomputable abbrev TE:=St->Hp->VK->Prop
noncomputable abbrev TT:=St->Hp->(Bool->Hp->Prop)->Prop
noncomputable abbrev TA:=St->Hp->(List V->Hp->Prop)->Prop
structure Ends where
 nx:St->Hp->Prop
 rt:VK
 bk:St->Hp->Prop:=fun _ _=>False
 ct:St->Hp->Prop:=fun _ _=>False
noncomputable abbrev TS:=Ends->St->Hp->Prop
inductive EP (X:Cx) (pins:List (Addr × Obj)) (σ:St) (Q:VK) (u:Value) (s':Shared):Prop where
 | mk (v:V) (H':Hp) (z0:Inv X pins σ H' s') (z1:RelV v u) (z2:Q v H'):EP X pins σ Q u s'
noncomputable def TP (X:Cx) (pins:List (Addr × Obj)) (σ:St) (Q:Bool->Hp->Prop) (b:Bool) (s':Shared):Prop:=∃ H',Inv X pins σ H' s'/\Q b H'
inductive AP (X:Cx) (pins:List (Addr × Obj)) (σ:St) (Q:List V->Hp->Prop) (us:List Value) (s':Shared):Prop where
 | mk (vs:List V) (H':Hp) (z0:Inv X pins σ H' s') (z1:Vals vs us) (z2:Q vs H'):AP X pins σ Q us s'
noncomputable def SP (X:Cx) (pins:List (Addr × Obj)) (D:Ends) (f:Flow) (s':Shared):Prop :=
 match f with
 | .next=>∃ σ' H',Inv X pins σ' H' s'/\D.nx σ' H'
 | .brk=>∃ σ' H',Inv X pins σ' H' s'/\D.bk σ' H'
 | .cont=>∃ σ' H',Inv X pins σ' H' s'/\D.ct σ' H'
 | .ret u=>∃ v σ' H',Inv X pins σ' H' s'/\RelV v u/\D.rt v H'
noncomputable def PE (X:Cx) (e:Expr) (t:TE):Prop :=
 ∀ (pins:List (Addr × Obj)) (s:Shared) (σ:St) (H:Hp) (Q:VK),Inv X pins σ H s->t σ H Q->wpAny (model X.prog X.w) X.A (eval e X.env) (EP X pins σ Q) X.xe s
noncomputable def PT (X:Cx) (e:Expr) (t:TT):Prop :=
 ∀ (pins:List (Addr × Obj)) (s:Shared) (σ:St) (H:Hp) (Q:Bool->Hp->Prop),Inv X pins σ H s->t σ H Q->wpAny (model X.prog X.w) X.A (isTrue e X.env (eval e X.env)) (TP X pins σ Q) X.xe s
noncomputable def PW (X:Cx) (e:Expr) (t:TT):Prop :=
 ∀ (whole:Sem Value) (pins:List (Addr × Obj)) (s:Shared) (σ:St) (H:Hp) (Q:Bool->Hp->Prop),Inv X pins σ H s->t σ H Q->wpAny (model X.prog X.w) X.A (isTrue e X.env whole) (TP X pins σ Q) X.xe s
theorem PW.pt {X:Cx} {e:Expr} {t:TT} (h:PW X e t):PT X e t:=h _
noncomputable def PA (X:Cx) (es:List Expr) (t:TA):Prop :=
 ∀ (pos:Pos) (pins:List (Addr × Obj)) (s:Shared) (σ:St) (H:Hp) (Q:List V->Hp->Prop),Inv X pins σ H s->t σ H Q->wpAny (model X.prog X.w) X.A (spliced (backTo pos (starEach es X.env))) (AP X pins σ Q) X.xe s
noncomputable def PS (X:Cx) (st:Stmt) (t:TS):Prop :=
 ∀ (pins:List (Addr × Obj)) (s:Shared) (σ:St) (H:Hp) (D:Ends),Inv X pins σ H s->t D σ H->wpAny (model X.prog X.w) X.A (exec st X.env) (SP X pins D) X.xe s
noncomputable def PSs (X:Cx) (st:List Stmt) (t:TS):Prop :=
 ∀ (pins:List (Addr × Obj)) (s:Shared) (σ:St) (H:Hp) (D:Ends),Inv X pins σ H s->t D σ H->wpAny (model X.prog X.w) X.A (execs st X.env) (SP X pins D) X.xe s
theorem thn {α:Type} {t:Sem α} {Q Q':α->Shared->Prop} {M:Model} {A:Around} {E:Value->Shared->Prop} {s:Shared} (h:wpAny M A t Q E s) (hQ:∀ a s,Q a s->Q' a s):wpAny M A t Q' E s:=wpAny_mono h hQ fun _ _ x=>x
end L2
namespace L2
open PySem PySem.Spec PyProof.Rows
section
variable {X:Cx}
inductive ExB (x:V) (P:Bool->Prop):Prop where
 | mk (c:Bool) (z0:x = .bl c) (z1:P c):ExB x P
inductive Kr (i:Nat) (σ:St) (H:Hp) (Q:VK):Prop where
 | mk (v:V) (z0:σ[i]? = some (some v)) (z1:Q v H):Kr i σ H Q
noncomputable def mX (i:Nat):TE:=fun σ H Q=>Kr i σ H Q
noncomputable def tC (v:V):TE:=fun _ H Q=>Q v H
theorem Ka {i:Nat} {x:Str} {pos:Pos} (hN:X.N[i]? = some x) (hv:Vis X.env.scope x) (hd:(x == ("__debug__" : Str))=false:=by decide) (hcd:(x == ("__classdict__" : Str))=false:=by decide):PE X (.Name x pos) (mX i):=by
 intro pins s σ H Q I h
 obtain⟨v,e,h⟩:=h
 obtain⟨m,hn,hl⟩:=I.loc
 obtain⟨u,r,l⟩:=hl i x v hN e hv
 have fin:EP X pins σ Q u s:=⟨v,H,I,r,h⟩
 rcases l with⟨hk,hm⟩ | ⟨hk,c,hc,hcell⟩
 ·exact wpAny_Name (wpAny_loadName_local I.ok.kind hk hn hm fin) hd
 ·rcases hk with hk | hk
  ·exact wpAny_Name (wpAny_loadName_cell I.ok.kind hk hc hcell fin) hd
  ·exact wpAny_Name (wpAny_loadName_free I.ok.kind hk hc hcell fin hcd) hd
theorem aq {i j pos}:PE X (.Constant (.int i) j pos) (tC (.int i)):=fun _ _ _ H _ I h=>wpAny_Constant_int ⟨.int i,H,I.tok _,⟨_,rfl⟩,h⟩
theorem mC {b j pos}:PE X (.Constant (.bool b) j pos) (tC (.bl b)):=fun _ _ _ H _ I h=>Constant_bool ⟨.bl b,H,I,rfl,h⟩
theorem JH {j pos}:PE X (.Constant .none j pos) (tC .non):=fun _ _ _ H _ I h=>Constant_none ⟨.non,H,I,rfl,h⟩
theorem bT {x j pos}:PE X (.Constant (.str x) j pos) (tC (.str x)):=fun _ _ _ H _ I h=>Calls.Constant_str ⟨.str x,H,I.tok _,⟨_,rfl⟩,h⟩
noncomputable def Gl (X:Cx) (x:Str):Prop:=X.env.kindOf x=some .globalImplicit
theorem Jo {E:Value->Shared->Prop} {pins:List (Addr × Obj)} {s:Shared} {σ:St} {H:Hp} {x:Str} {u:Value} {pos:Pos} {Q:Value->Shared->Prop} (I:Inv X pins σ H s) (hg:Gl X x) (hm:X.mg x=some u) (h:Q u s)
  (hd:(x == ("__debug__" : Str))=false:=by decide):wpAny (model X.prog X.w) X.A (eval (.Name x pos) X.env) Q E s :=
 Calls.Name_function_global I.ok.kind hg (Calls.loadGlobal_global (by rw[I.ok.glob]; exact I.mod.glob.keeps I.bk) hm h) hd
theorem jc {E:Value->Shared->Prop} {pins:List (Addr × Obj)} {s:Shared} {σ:St} {H:Hp} {x:Str} {u:Value} {pos:Pos} {Q:Value->Shared->Prop} (I:Inv X pins σ H s) (hg:Gl X x) (hm:X.mg x=none) (hv:bootBuiltins x=some u) (h:Q u s)
  (hn:x≠"__name__":=by decide) (hd:(x == ("__debug__" : Str))=false:=by decide):wpAny (model X.prog X.w) X.A (eval (.Name x pos) X.env) Q E s:=by
 obtain⟨mb,h1,h2⟩:=I.mod.blt
 exact Calls.Name_function_global I.ok.kind hg (Calls.loadGlobal_builtin (by rw[I.ok.glob]; exact I.mod.glob.keeps I.bk) hm (by rw[I.ok.blt]; exact h1.keeps I.bk) ((h2 x hn).trans hv) h) hd
theorem HF {x:Str} {v:V} {u:Value} {pos:Pos} (hg:Gl X x) (hm:X.mg x=none) (hv:bootBuiltins x=some u) (r:RelV v u) (hn:x≠"__name__":=by decide) (hd:(x == ("__debug__" : Str))=false:=by decide):PE X (.Name x pos) (tC v) :=
 fun _ _ _ H _ I h=>jc I hg hm hv ⟨v,H,I,r,h⟩ hn hd
variable {a b:Expr} {ta tb:TE} {pos:Pos}
noncomputable def PC (X:Cx) (op:CmpOp) (a b:Expr) (t:TE):Prop :=
 ∀ (pins:List (Addr × Obj)) (s:Shared) (σ:St) (H:Hp) (Q:VK),Inv X pins σ H s->t σ H Q →
  wpAny (model X.prog X.w) X.A (eval a X.env) (fun v s₁=>wpAny (model X.prog X.w) X.A (eval b X.env) (fun u s₂=>wpAny (model X.prog X.w) X.A (compareOp op v u) (EP X pins σ Q) X.xe s₂) X.xe s₁) X.xe s
theorem yo (b:Expr) {op:CmpOp} (h:op≠.In) (h2:op≠.NotIn):behindInMarks op b=false:=by
 have e1:(op == CmpOp.In)=false:=by cases op <;> first | rfl | exact absurd rfl h
 have e2:(op == CmpOp.NotIn)=false:=by cases op <;> first | rfl | exact absurd rfl h2
 cases b <;> simp [behindInMarks,e1,e2]
noncomputable def Nm (ta:TE):TE:=fun σ H Q=>ta σ H fun x H1=>Q (.bl (decide (x = .non))) H1
theorem RelV.Ei {x:V} {v:Value} (r:RelV x v):(v == Value.none)=decide (x = .non):=by
 cases x with
 | non=>cases r; rfl
 | bl _=>cases r; rfl
 | int _=>obtain⟨t,rfl⟩:=r; rfl
 | str _=>obtain⟨t,rfl⟩:=r; rfl
 | byt _=>obtain⟨t,rfl⟩:=r; rfl
 | flt _=>obtain⟨t,rfl⟩:=r; rfl
 | ref _=>cases r; rfl
 | ty _=>cases r; rfl
theorem Bb {j pos'} (ha:PE X a ta):PC X .Is a (.Constant .none j pos') (Nm ta):=by
 intro pins s σ H Q I h
 refine thn (ha pins s σ H _ I h) fun v s1 ⟨x,H1,I1,r1,q1⟩=>?_
 exact Constant_none (is_none_gen ⟨.bl _,H1,I1,by rw[r1.Ei]; rfl,q1⟩)
noncomputable def tB (t:TE):TT:=fun σ H Q=>t σ H fun x H1=>ExB x fun c=>Q c H1
theorem Ks {op:CmpOp} {t:TE} (h:PC X op a b t) (h1:behindInMarks op b=false:=by first | exact yo _ (by decide) (by decide) | rfl):PE X (.Compare a [op] [b] pos) t:=fun pins s σ H Q I hw=>wpAny_Compare1 (h pins s σ H Q I hw) h1
theorem Hl {op:CmpOp} {t:TE} (h:PC X op a b t) (h1:behindInMarks op b=false:=by first | exact yo _ (by decide) (by decide) | rfl):PT X (.Compare a [op] [b] pos) (tB t):=by
 intro pins s σ H Q I hw
 refine wpAny_isTrue_Compare1 (thn (h pins s σ H _ I hw) fun v s1 h1=>thn h1 fun u s2 h2=>thn h2 fun c s3 ⟨x,H1,I1,r1,q1⟩=>?_) h1
 obtain⟨d,rfl,q⟩:=q1
 cases r1
 exact wpAny_truthy_bool ⟨H1,I1,q⟩
theorem iR {e:Expr} {t:TE} (h:PE X e t) (he:∀ whole,isTrue e X.env whole=(do let v ← whole; standAt e.pos; holding [v] (truthy v)):=by intro _; rfl):PT X e (tB t):=by
 intro pins s σ H Q I hw
 refine isTrue_plain (thn (h pins s σ H _ I hw) fun v s1 ⟨x,H1,I1,r1,q1⟩=>?_) (he _)
 obtain⟨d,rfl,q⟩:=q1
 cases r1
 exact wpAny_truthy_bool ⟨H1,I1,q⟩
variable {tA tB':TT} {rest:List Expr}
noncomputable def Mg (t u:TT):TT:=fun σ H Q=>t σ H fun c H1=>if c=true then u σ H1 Q else Q false H1
noncomputable def tOr (t u:TT):TT:=fun σ H Q=>t σ H fun c H1=>if c=true then Q true H1 else u σ H1 Q
noncomputable def Nu (t:TT):TT:=fun σ H Q=>t σ H fun c H1=>Q (!c) H1
theorem kW (ha:PT X a tA):PW X (.BoolOp .And [a] pos) tA:=by
 intro wh pins s σ H Q I h
 refine isTrue_and (thn (ha pins s σ H Q I h) fun c s1 e=>?_)
 cases c with
 | true=>exact isTrue_and_nil e
 | false=>exact e
theorem wU (ha:PT X a tA):PW X (.BoolOp .Or [a] pos) tA:=by
 intro wh pins s σ H Q I h
 refine isTrue_or (thn (ha pins s σ H Q I h) fun c s1 e=>?_)
 cases c with
 | false=>exact isTrue_or_nil e
 | true=>exact e
theorem pK (ha:PT X a tA) (hb:PW X (.BoolOp .And (b::rest) pos) tB'):PW X (.BoolOp .And (a::b::rest) pos) (Mg tA tB'):=by
 intro wh pins s σ H Q I h
 refine isTrue_and (thn (ha pins s σ H _ I h) fun c s1 ⟨H1,I1,q1⟩=>?_)
 cases c with
 | true=>exact hb wh pins s1 σ H1 Q I1 q1
 | false=>exact⟨H1,I1,q1⟩
theorem Dj (ha:PT X a tA) (hb:PW X (.BoolOp .Or (b::rest) pos) tB'):PW X (.BoolOp .Or (a::b::rest) pos) (tOr tA tB'):=by
 intro wh pins s σ H Q I h
 refine isTrue_or (thn (ha pins s σ H _ I h) fun c s1 ⟨H1,I1,q1⟩=>?_)
 cases c with
 | true=>exact⟨H1,I1,q1⟩
 | false=>exact hb wh pins s1 σ H1 Q I1 q1
theorem tD (ha:PT X a tA):PT X (.UnaryOp .Not a pos) (Nu tA):=by
 intro pins s σ H Q I h
 exact isTrue_not (ha pins s σ H (fun c H1=>Q (!c) H1) I h)
noncomputable def Lf (ta tb:TE):TE:=fun σ H Q=>ta σ H fun x H1=>ExB x fun c=>if c=true then tb σ H1 Q else Q (.bl false) H1
noncomputable def Nh (ta tb:TE):TE:=fun σ H Q=>ta σ H fun x H1=>ExB x fun c=>if c=true then Q (.bl true) H1 else tb σ H1 Q
theorem ur {op} {t:TE} (h:PE X a t):PE X (.BoolOp op [a] pos) t:=fun pins s σ H Q I hw=>BoolOp_one (h pins s σ H Q I hw)
theorem tV (ha:PE X a ta) (hb:PE X (.BoolOp .And (b::rest) pos) tb):PE X (.BoolOp .And (a::b::rest) pos) (Lf ta tb):=by
 intro pins s σ H Q I h
 refine BoolOp_and (thn (ha pins s σ H _ I h) fun v s1 ⟨x,H1,I1,r1,q1⟩=>?_)
 obtain⟨c,rfl,q1⟩:=q1
 cases r1
 refine wpAny_truthy_bool ?_
 cases c with
 | true=>exact hb pins s1 σ H1 Q I1 q1
 | false=>exact⟨.bl false,H1,I1,rfl,q1⟩
theorem Ly (ha:PE X a ta) (hb:PE X (.BoolOp .Or (b::rest) pos) tb):PE X (.BoolOp .Or (a::b::rest) pos) (Nh ta tb):=by
 intro pins s σ H Q I h
 refine BoolOp_or (thn (ha pins s σ H _ I h) fun v s1 ⟨x,H1,I1,r1,q1⟩=>?_)
 obtain⟨c,rfl,q1⟩:=q1
 cases r1
 refine wpAny_truthy_bool ?_
 cases c with
 | false=>exact hb pins s1 σ H1 Q I1 q1
 | true=>exact⟨.bl true,H1,I1,rfl,q1⟩
noncomputable def tIf (t:TT) (ta tb:TE):TE:=fun σ H Q=>t σ H fun c H1=>if c=true then ta σ H1 Q else tb σ H1 Q
theorem yh {c:Expr} (hc:PT X c tA) (ha:PE X a ta) (hb:PE X b tb):PE X (.IfExp c a b pos) (tIf tA ta tb):=by
 intro pins s σ H Q I h
 refine wpAny_IfExp (thn (hc pins s σ H _ I h) fun d s1 ⟨H1,I1,q1⟩=>?_)
 cases d with
 | true=>exact ha pins s1 σ H1 Q I1 q1
 | false=>exact hb pins s1 σ H1 Q I1 q1
end
end L2
namespace L2
open PySem PySem.Spec PyProof.Rows
noncomputable def SqL (K:PySem.W.Frag) (H:Hp) (a:Addr) (xs:List V):Prop :=
 Rd H a (.lst xs) ∨
  ∃ (o:Obj) (its:Array Value) (n:Nat),K.lookup a=some o/\o.cls = .type "list"/\o.dict=none/\o.data = .seq its n/\its.size<=sizeLine/\Vals xs its.toList
noncomputable def SqT (K:PySem.W.Frag) (H:Hp) (a:Addr) (xs:List V):Prop :=
 Rd H a (.tup xs) ∨
  ∃ (o:Obj) (its:Array Value) (n:Nat),K.lookup a=some o/\o.cls = .type "tuple"/\o.data = .seq its n/\its.size<=sizeLine/\Vals xs its.toList
noncomputable def Nf:Value->Option V
 | .none=>some .non
 | .bool b=>some (.bl b)
 | .int i _=>some (.int i)
 | .str x _=>some (.str x)
 | .bytes b _=>some (.byt b)
 | .float b _=>some (.flt b)
 | .ref a=>some (.ref a)
 | .type n=>some (.ty n)
 | _=>none
theorem RelV.abs {x:V} {u:Value} (r:RelV x u):Nf u=some x:=by
 cases x with
 | non=>cases r; rfl
 | bl _=>cases r; rfl
 | int _=>obtain⟨t,rfl⟩:=r; rfl
 | str _=>obtain⟨t,rfl⟩:=r; rfl
 | byt _=>obtain⟨t,rfl⟩:=r; rfl
 | flt _=>obtain⟨t,rfl⟩:=r; rfl
 | ref _=>cases r; rfl
 | ty _=>cases r; rfl
theorem RelV.inj {x y:V} {u:Value} (r:RelV x u) (q:RelV y u):x=y:=Option.some.inj (r.abs.symm.trans q.abs)
theorem Vals.inj:∀ {xs ys:List V} {us:List Value},Vals xs us->Vals ys us->xs=ys
 | _,_,_,.nil,.nil=>rfl
 | _,_,_,.cons r t,.cons r' t'=>by rw[r.inj r',Vals.inj t t']
section
variable {X:Cx} {pins:List (Addr × Obj)} {σ:St} {H:Hp} {s:Shared} {a:Addr} {xs ys:List V}
theorem SqL.of {K:PySem.W.Frag} (h:H a=some (.lst xs)):SqL K H a xs:=.inl (.inl h)
theorem SqT.of {K:PySem.W.Frag} (h:H a=some (.tup xs)):SqT K H a xs:=.inl (.inl h)
theorem Inv.list (I:Inv X pins σ H s) (h:SqL X.K H a xs):∃ its:List Value,Vals xs its/\PlainL s.heap a its.toArray/\xs.length<=sizeLine:=by
 rcases h with h | ⟨o,its,n,hk,hc,hd,hs,hz,r⟩
 ·obtain⟨z,its,n,r,e⟩:=h.ok I.hok
  exact⟨its,r,⟨_,n,e,rfl,rfl,rfl⟩,z⟩
 ·refine⟨its.toList,r,⟨o,n,I.kIn a o hk,hc,hd,by simpa using hs⟩,?_⟩
  have e:=r.length
  simp only[Array.length_toList] at e
  lia
theorem Inv.tuple (I:Inv X pins σ H s) (h:SqT X.K H a xs):∃ its:List Value,Vals xs its/\IsTup s.heap a its.toArray/\xs.length<=sizeLine:=by
 rcases h with h | ⟨o,its,n,hk,hc,hs,hz,r⟩
 ·obtain⟨z,its,r,p⟩:=h.ok I.hok
  exact⟨its,r,p,z⟩
 ·refine⟨its.toList,r,⟨o,I.kIn a o hk,hc,n,by simpa using hs⟩,?_⟩
  have e:=r.length
  simp only[Array.length_toList] at e
  lia
theorem Inv.rD (I:Inv X pins σ H s) (h:SqL X.K H a xs) (h':SqL X.K H a ys):xs=ys:=by
 obtain⟨its,r,⟨o,n,e,_,_,d⟩,_⟩:=I.list h
 obtain⟨its',r',⟨o',n',e',_,_,d'⟩,_⟩:=I.list h'
 rw[e] at e'; cases e'
 rw[d] at d'
 injection d' with d1 _
 have:its=its':=by simpa using congrArg Array.toList d1
 subst this
 exact r.inj r'
theorem Inv.jX (I:Inv X pins σ H s) (h:SqT X.K H a xs) (h':SqT X.K H a ys):xs=ys:=by
 obtain⟨its,r,⟨o,e,_,n,d⟩,_⟩:=I.tuple h
 obtain⟨its',r',⟨o',e',_,n',d'⟩,_⟩:=I.tuple h'
 rw[e] at e'; cases e'
 rw[d] at d'
 injection d' with d1 _
 have:its=its':=by simpa using congrArg Array.toList d1
 subst this
 exact r.inj r'
end
noncomputable abbrev Cx.wish (X:Cx) (E:Value->Shared->Prop):Cx:={ X with xe:=E }
noncomputable abbrev Cx.nox (X:Cx):Cx:=X.wish fun _ _=>False
theorem Cx.Ok.wish {X:Cx} (ok:X.Ok) (E:Value->Shared->Prop):(X.wish E).Ok :=
 ⟨ok.mod,ok.kind,ok.glob,ok.blt,ok.above,ok.inj,ok.has,ok.cab,ok.hd,ok.frames,ok.stk,ok.exf,ok.bs,ok.bsz,ok.noex,ok.exfs,ok.zP,ok.frf⟩
theorem Cx.Ok.jw {X:Cx} {E:Value->Shared->Prop} (ok:(X.wish E).Ok):X.Ok :=
 ⟨ok.mod,ok.kind,ok.glob,ok.blt,ok.above,ok.inj,ok.has,ok.cab,ok.hd,ok.frames,ok.stk,ok.exf,ok.bs,ok.bsz,ok.noex,ok.exfs,ok.zP,ok.frf⟩
section
variable {X:Cx} {pins:List (Addr × Obj)} {σ:St} {H:Hp} {s:Shared} {E:Value->Shared->Prop}
theorem Inv.wish (I:Inv X pins σ H s) (E:Value->Shared->Prop):Inv (X.wish E) pins σ H s:=⟨I.ok.wish E,I.os,I.bare,I.base,I.loc,I.cell,I.free,I.freeC,I.pin,I.hok,I.len⟩
theorem Inv.jw (I:Inv (X.wish E) pins σ H s):Inv X pins σ H s:=⟨I.ok.jw,I.os,I.bare,I.base,I.loc,I.cell,I.free,I.freeC,I.pin,I.hok,I.len⟩
theorem SP.jw {D:Ends} {f:Flow} {s':Shared} (h:SP (X.wish E) pins D f s'):SP X pins D f s':=by
 cases f with
 | next=>obtain⟨σ',H',I,q⟩:=h; exact⟨σ',H',I.jw,q⟩
 | brk=>obtain⟨σ',H',I,q⟩:=h; exact⟨σ',H',I.jw,q⟩
 | cont=>obtain⟨σ',H',I,q⟩:=h; exact⟨σ',H',I.jw,q⟩
 | ret u=>obtain⟨v,σ',H',I,r,q⟩:=h; exact⟨v,σ',H',I.jw,r,q⟩
theorem PE.nox {e:Expr} {t:TE} (h:PE X.nox e t):PE X e t:=fun pins s σ H Q I hw =>
 wpAny_mono (h pins s σ H Q (I.wish _) hw) (fun _ _ ⟨v,H',I',r,q⟩=>⟨v,H',I'.jw,r,q⟩) fun _ _ z=>False.elim z
theorem PT.nox {e:Expr} {t:TT} (h:PT X.nox e t):PT X e t:=fun pins s σ H Q I hw =>
 wpAny_mono (h pins s σ H Q (I.wish _) hw) (fun _ _ ⟨H',I',q⟩=>⟨H',I'.jw,q⟩) fun _ _ z=>False.elim z
theorem PSs.nox {st:List Stmt} {t:TS} (h:PSs X.nox st t):PSs X st t:=fun pins s σ H D I hw =>
 wpAny_mono (h pins s σ H D (I.wish _) hw) (fun _ _ q=>q.jw) fun _ _ z=>False.elim z
end
section
variable {X:Cx} {st:Stmt} {rest:List Stmt} {t u:TS} {e:Expr} {te:TE} {pos:Pos}
noncomputable def Lb:TS:=fun D σ H=>D.nx σ H
noncomputable def DK (t u:TS):TS:=fun D σ H=>t { D with nx:=u D } σ H
theorem aX:PSs X [] Lb:=fun _ _ σ H _ I h=>wpAny_execs_nil ⟨σ,H,I,h⟩
theorem au (h1:PS X st t) (h2:PSs X rest u):PSs X (st::rest) (DK t u):=by
 intro pins s σ H D I h
 refine wpAny_execs_cons (thn (h1 pins s σ H { D with nx:=u D } I h) fun f s1 q=>?_)
 cases f with
 | next =>
  obtain⟨σ',H',I',q⟩:=q
  exact h2 pins s1 σ' H' D I' q
 | ret v=>exact q
 | brk=>exact q
 | cont=>exact q
theorem aC (h1:PS X st t):PSs X [st] t:=by
 intro pins s σ H D I h
 refine wpAny_execs_cons (thn (h1 pins s σ H D I h) fun f s1 q=>?_)
 cases f with
 | next=>exact wpAny_execs_nil q
 | ret v=>exact q
 | brk=>exact q
 | cont=>exact q
theorem Inv.quiet {pins:List (Addr × Obj)} {σ:St} {H:Hp} {s:Shared} (I:Inv X pins σ H s):interactive X.env=false:=by simp [interactive,I.ok.kind]
noncomputable def Lq (te:TE):TS:=fun D σ H=>te σ H fun _ H1=>D.nx σ H1
theorem iQ (he:PE X e te) (hs:swapsWith e none pos.line X.env=pure false:=by rfl):PS X (.Expr e pos) (Lq te):=by
 intro pins s σ H D I h
 exact wpAny_Expr_any (thn (he pins s σ H _ I h) fun v s1 ⟨x,H1,I1,r1,q1⟩=>⟨σ,H1,I1,q1⟩) I.quiet hs
noncomputable def MF (te:TE):TS:=fun D σ H=>te σ H D.rt
theorem aL (he:PE X e te):PS X (.Return (some e) pos) (MF te):=by
 intro pins s σ H D I h
 exact wpAny_Return_some (thn (he pins s σ H _ I h) fun v s1 ⟨x,H1,I1,r1,q1⟩=>⟨x,σ,H1,I1,r1,q1⟩)
noncomputable def Fv (c:TT) (t u:TS):TS:=fun D σ H=>c σ H fun b H1=>if b=true then t D σ H1 else u D σ H1
theorem cA {c:Expr} {a b:List Stmt} {tc:TT} (hc:PT X c tc) (ha:PSs X a t) (hb:PSs X b u):PS X (.If c a b pos) (Fv tc t u):=by
 intro pins s σ H D I h
 refine wpAny_If (thn (hc pins s σ H _ I h) fun d s1 ⟨H1,I1,q1⟩=>?_)
 cases d with
 | true=>exact ha pins s1 σ H1 D I1 q1
 | false=>exact hb pins s1 σ H1 D I1 q1
end
noncomputable abbrev TG:=V->St->Hp->(St->Hp->Prop)->Prop
noncomputable abbrev TGs:=List V->St->Hp->(St->Hp->Prop)->Prop
noncomputable def PG (X:Cx) (target:Expr) (t:TG):Prop :=
 ∀ (pins:List (Addr × Obj)) (s:Shared) (σ:St) (H:Hp) (v:V) (u:Value) (Q:St->Hp->Prop),Inv X pins σ H s->RelV v u->t v σ H Q →
  wpAny (model X.prog X.w) X.A (assign target X.env u) (fun _ s'=>∃ σ' H',Inv X pins σ' H' s'/\Q σ' H') X.xe s
noncomputable def PGs (X:Cx) (ts:List Expr) (t:TGs):Prop :=
 ∀ (pins:List (Addr × Obj)) (s:Shared) (σ:St) (H:Hp) (vs:List V) (us:List Value) (Q:St->Hp->Prop),Inv X pins σ H s->Vals vs us->t vs σ H Q →
  wpAny (model X.prog X.w) X.A (assignInOrder ((assignEach ts X.env).map (·.2)) us) (fun _ s'=>∃ σ' H',Inv X pins σ' H' s'/\Q σ' H') X.xe s
section
variable {X:Cx} {pos:Pos}
noncomputable def CV (i:Nat):TG:=fun v σ H Q=>Q (σ.set i (some v)) H
theorem aD {i:Nat} {x:Str} (hN:X.N.Nodup) (hi:X.N[i]? = some x) (hx:Loc X.env.scope x) (hf:X.fn x=true∨X.env.scope.names.lookup x=some .local:=by first | exact .inl rfl | exact .inr rfl | assumption):PG X (.Name x pos) (CV i):=by
 intro pins s σ H v u Q I r h
 exact wpAny_assign_Name (yG I hN hi hx r (fun s' I'=>⟨_,H,I',h⟩) hf)
noncomputable def M7:TGs:=fun vs σ H Q=>vs=[]/\Q σ H
inductive Gu (t:TG) (u:TGs) (vs:List V) (σ:St) (H:Hp) (Q:St->Hp->Prop):Prop where
 | mk (v:V) (r:List V) (z0:vs=v::r) (z1:t v σ H fun σ' H'=>u r σ' H' Q):Gu t u vs σ H Q
noncomputable def K7 (t:TG) (u:TGs):TGs:=fun vs σ H Q=>Gu t u vs σ H Q
theorem d8:PGs X [] M7:=by
 intro pins s σ H vs us Q I r h
 obtain⟨e,h⟩:=h
 subst e
 cases r
 exact assignInOrder_nil ⟨σ,H,I,h⟩
theorem bw {e:Expr} {es:List Expr} {t:TG} {u:TGs} (h1:PG X e t) (h2:PGs X es u)
  (hs:(assignEach (e::es) X.env).map (·.2)=assign e X.env::(assignEach es X.env).map (·.2):=by rfl):PGs X (e::es) (K7 t u):=by
 intro pins s σ H vs us Q I r h
 obtain⟨v,vr,e1,h⟩:=h
 subst e1
 cases r with
 | cons r rr =>
  rw[hs]
  refine assignInOrder_cons (thn (h1 pins s σ H _ _ _ I r h) fun _ s1 ⟨σ1,H1,I1,q1⟩=>?_)
  exact h2 pins s1 σ1 H1 _ _ Q I1 rr q1
inductive J5 (K:PySem.W.Frag) (n:Nat) (t:TGs) (v:V) (σ:St) (H:Hp) (Q:St->Hp->Prop):Prop where
 | mk (a:Addr) (xs:List V) (z0:v = .ref a) (z1:SqT K H a xs) (z2:xs.length=n) (z3:t xs σ H Q):J5 K n t v σ H Q
noncomputable def Mq (K:PySem.W.Frag) (n:Nat) (t:TGs):TG:=fun v σ H Q=>J5 K n t v σ H Q
theorem JN {es:List Expr} {k:Nat} {t:TGs} {n:Nat} (hc:X.calm=true) (h:PGs X es t)
  (hn:(assignEach es X.env).length=n:=by rfl) (hst:(assignEach es X.env).findIdx? (·.1)=none:=by rfl):PG X (.Tuple es k pos) (Mq X.K n t):=by
 intro pins s σ H v u Q I r hw
 obtain⟨a,xs,e1,hq,hl,hw⟩:=hw
 subst e1
 cases r
 obtain⟨its,rv,ht,hz⟩:=I.tuple hq
 refine assign_Tuple_tuple (I.ok.hd hc) ht (by simp [hn,← hl,rv.length]) hst fun h' hx=>?_
 have I1:Inv X pins σ H { s with heap:=h' }:=I.kept (t':=s.toks) fun b o e=>hx b o (Nat.ne_of_lt (Heap.lt_size e)) e
 exact h pins _ σ H xs _ Q I1 (by simpa using rv) hw
noncomputable def Mj (te:TE) (g:TG):TS:=fun D σ H=>te σ H fun x H1=>g x σ H1 D.nx
theorem Gs {tg e:Expr} {te:TE} {g:TG} (he:PE X e te) (hg:PG X tg g) (hs:swapsWithSole [tg] e pos.line X.env=pure false:=by rfl) (hw:swappedStores [tg] e X.env=pure none:=by rfl)
  (h1:(assignEach [tg] X.env).map (·.2)=[assign tg X.env]:=by rfl):PS X (.Assign [tg] e pos) (Mj te g):=by
 intro pins s σ H D I h
 refine wpAny_Assign_stores (thn (he pins s σ H _ I h) fun v s1 ⟨x,H1,I1,r1,q1⟩=>?_) hs hw
 rw[h1]
 exact thn (hg pins s1 σ H1 x v _ I1 r1 q1) fun _ s2 q=>q
theorem bj {i:Nat} {x:Str} {e:Expr} {te:TE} {pos':Pos} (hN:X.N.Nodup) (hi:X.N[i]? = some x) (hx:Loc X.env.scope x) (he:PE X e te) (hs:swapsWith e (some (.Name x pos')) pos.line X.env=pure false:=by rfl) (hf:X.fn x=true∨X.env.scope.names.lookup x=some .local:=by first | exact .inl rfl | exact .inr rfl | assumption) :
  PS X (.Assign [.Name x pos'] e pos) (Mj te (CV i)):=by
 intro pins s σ H D I h
 refine wpAny_Assign_Name (thn (he pins s σ H _ I h) fun v s1 ⟨y,H1,I1,r1,q1⟩=>?_) hs
 exact yG I1 hN hi hx r1 (fun s2 I2=>⟨_,H1,I2,q1⟩) hf
end
section
variable {X:Cx} {pos:Pos}
noncomputable def GR (c:TT) (tb:TS):TS:=fun D σ H=>∃ W:Nat->St->Hp->Prop,(∃ m,W m σ H)/\∀ m σ H,W m σ H →
 c σ H fun b H1=>if b=true then ∃ N:St->Hp->Prop,(∀ σ' H',N σ' H'->∃ m',m' < m/\W m' σ' H')/\tb { D with nx:=N,ct:=N,bk:=D.nx } σ H1 else D.nx σ H1
theorem xQ {c:Expr} {body:List Stmt} {tc:TT} {tb:TS} (hp:PassesOwn (model X.prog X.w) X.A X.env X.xe) (hc:PT X c tc) (hb:PSs X body tb):PS X (.While c body [] pos) (GR tc tb):=by
 intro pins s σ H D I h
 obtain⟨W,⟨m0,w0⟩,turn⟩:=h
 refine wpAny_While (codeAny_whileLoop (fun n s'=>∃ σ' H',Inv X pins σ' H' s'/\W n σ' H') ?_ m0 ⟨σ,H,I,w0⟩)
 rintro n s1 ⟨σ1,H1,I1,w1⟩
 refine wpAny_passesOwn hp (thn (hc pins s1 σ1 H1 _ I1 (turn n σ1 H1 w1)) fun b s2 ⟨H2,I2,q2⟩=>?_)
 cases b with
 | true =>
  obtain⟨N,hN,q2⟩:=q2
  rw[if_pos rfl]
  refine wpAny_passesOwn hp (thn (hb pins s2 σ1 H2 _ I2 q2) fun f s3 q3=>?_)
  cases f with
  | next =>
   obtain⟨σ3,H3,I3,n3⟩:=q3
   obtain⟨m',hm,w3⟩:=hN σ3 H3 n3
   exact⟨m',hm,σ3,H3,I3,w3⟩
  | cont =>
   obtain⟨σ3,H3,I3,n3⟩:=q3
   obtain⟨m',hm,w3⟩:=hN σ3 H3 n3
   exact⟨m',hm,σ3,H3,I3,w3⟩
  | brk=>exact q3
  | ret v=>exact q3
 | false =>
  rw[if_neg Bool.false_ne_true]
  exact wpAny_execs_nil ⟨σ1,H2,I2,q2⟩
end
structure It where
 go:Nat->Hp->Prop
 yld:Nat->Hp->V->Hp->Prop
 stop:Nat->Hp->Prop
noncomputable def sG (X:Cx) (pins:List (Addr × Obj)) (H:Hp) (b:Addr):Prop :=
 H b=none/\b≠X.env.locals/\b ∉ X.fs/\(b∈X.ex∨X.s₀.heap.objs.size<=b)/\(∀ x c,X.env.cells.lookup x=some c->c≠b)/\∀ p∈X.pn++pins,p.1≠b
theorem Inv.DQ {X:Cx} {pins:List (Addr × Obj)} {σ:St} {H H':Hp} {s:Shared} {b:Addr} (I:Inv X pins σ H s) (hb:s.heap.objs.size<=b) (hn:H' b=none):sG X pins H' b:=by
 refine⟨hn,Nat.ne_of_gt (Nat.lt_of_lt_of_le I.lt hb),I.Nx hb,.inr (Nat.le_trans I.sz hb),fun x c e z=>?_,fun p hp z=>?_⟩
 ·obtain⟨v,q⟩:=I.cell x c e
  exact absurd (Nat.lt_of_lt_of_le q.lt (by rw[z]; exact hb)) (Nat.lt_irrefl _)
 ·exact absurd (Nat.lt_of_lt_of_le (Heap.lt_size (I.pin p hp).1) (by rw[z]; exact hb)) (Nat.lt_irrefl _)
structure Turn (P:Program) (w:World) (K:PySem.W.Frag) (tg:Expr) (J:It) (fp:List Addr) (it:Addr) (tn:Nat->Heap->Prop):Prop where
 mem:it∈fp
 obj:∀ i h,tn i h->∀ b∈fp,∃ o,h.get? b=some o/\∀ v,o.data≠.cell v
 keep:∀ i h h',tn i h->(∀ b∈fp,∀ o,h.get? b=some o->h'.get? b=some o)->tn i h'
 item:∀ (X:Cx),X.prog=P->X.w=w->X.K=K->X.calm=true->∀ (i:Nat) (pins:List (Addr × Obj)) (s:Shared) (σ:St) (H:Hp) (E:Value->Shared->Prop),Inv X pins σ H s->(∀ b∈fp,sG X pins H b)->tn i s.heap->J.go i H →
  wpAny (model P w) X.A (pyNext (.ref it)) (fun r s1=>∃ u,r=some u ∧
   wpAny (model P w) X.A (letOwnedTupleGo tg (.ref it) u) (fun _ s2=>∃ x H',Inv X pins σ H' s2/\RelV x u/\J.yld i H x H'/\tn (i+1) s2.heap/\∀ b∈fp,H' b=none) E s1) E s
 done:∀ (X:Cx),X.prog=P->X.w=w->X.K=K->X.calm=true->∀ (i:Nat) (pins:List (Addr × Obj)) (s:Shared) (σ:St) (H:Hp) (E:Value->Shared->Prop),Inv X pins σ H s->(∀ b∈fp,sG X pins H b)->tn i s.heap->J.stop i H →
  wpAny (model P w) X.A (pyNext (.ref it)) (fun r s1=>r=none/\Inv X pins σ H s1) E s
 self:∀ (A:Around) (i:Nat) (s:Shared) (Q:Value->Shared->Prop) (E:Value->Shared->Prop),tn i s.heap->Q (.ref it) s->wpAny (model P w) A (pyIter (.ref it)) Q E s
noncomputable abbrev TI:=St->Hp->(It->Hp->Prop)->Prop
noncomputable def PIE (X:Cx) (pins:List (Addr × Obj)) (σ:St) (tg:Expr) (R:It->Hp->Prop) (itv:Value) (s2:Shared):Prop :=
 ∃ (it:Addr) (fp:List Addr) (tn:Nat->Heap->Prop) (J:It) (H':Hp),itv = .ref it/\Inv X pins σ H' s2/\Turn X.prog X.w X.K tg J fp it tn/\tn 0 s2.heap/\(∀ b∈fp,sG X pins H' b)/\R J H'
noncomputable def PI (X:Cx) (tg iter:Expr) (wi:TI):Prop :=
 ∀ (pins:List (Addr × Obj)) (s:Shared) (σ:St) (H:Hp) (R:It->Hp->Prop),Inv X pins σ H s->wi σ H R →
  wpAny (model X.prog X.w) X.A (eval iter X.env) (fun v s1=>wpAny (model X.prog X.w) X.A (pyIter v) (PIE X pins σ tg R) X.xe s1) X.xe s
theorem FW {M : Model} {A : Around} {E : Value → Shared → Prop} {s : Shared} {tg : Expr} {it : Addr} {u : Value} {o : Obj} {n : String} {vs : Array Value} {Q : Unit → Shared → Prop} (ho : s.heap.get? it = some o) (hc : o.cls = .type n) (hd : o.data = .fields vs)
    (hn : ["enumerate", "zip", "dict_itemiterator", "dict_reverseitemiterator", "odict_iterator", "itertools.zip_longest", "itertools.pairwise"].contains n = false) (hQ : Q () s) : wpAny M A (letOwnedTupleGo tg (.ref it) u) Q E s := by
  unfold letOwnedTupleGo
  cases tg <;> first
    | exact wpAny_pure hQ
    | (cases u <;> first
        | exact wpAny_pure hQ
        | (refine wpAny_bind (wpAny_load ho ?_)
           rw [hc, hd]
           show wpAny M A (if (["enumerate", "zip", "dict_itemiterator", "dict_reverseitemiterator", "odict_iterator", "itertools.zip_longest", "itertools.pairwise"].contains n && vs[0]? == some (rawInt _)) = true then _ else _) Q E s
           rw [if_neg (by intro h; rw [hn, Bool.false_and] at h; cases h)]
           exact wpAny_pure hQ))
noncomputable def Itl (K:PySem.W.Frag) (a:Addr):It :=
 ⟨fun i H=>∃ xs x,SqL K H a xs/\xs[i]? = some x,fun i H x H'=>H'=H/\∀ xs,SqL K H a xs->xs[i]? = some x,fun i H=>∃ xs,SqL K H a xs/\xs.length<=i⟩
noncomputable def Itt (K:PySem.W.Frag) (a:Addr):It :=
 ⟨fun i H=>∃ xs x,SqT K H a xs/\xs[i]? = some x,fun i H x H'=>H'=H/\∀ xs,SqT K H a xs->xs[i]? = some x,fun i H=>∃ xs,SqT K H a xs/\xs.length<=i⟩
noncomputable def Itr (lo:Int) (n:Nat):It:=⟨fun i _=>i < n,fun i H x H'=>H'=H/\x = .int (lo+i),fun i _=>n<=i⟩
theorem BK {P:Program} {w:World} {K:PySem.W.Frag} {tg:Expr} (a it:Addr):Turn P w K tg (Itl K a) [it] it (fun i h=>h.IsListIter it a i) where
 mem:=by simp
 obj:=fun i h st b hb=>by
  have e:b=it:=by simpa using hb
  subst e
  obtain⟨o,e,c,d⟩:=st
  exact⟨o,e,fun v z=>by rw[d] at z; cases z⟩
 keep:=fun i h h' st k=>st.at fun o e=>k it (by simp) o e
 item:=by
  intro X hP hw hK hc i pins s σ H E I hf st hg
  subst hP hw hK
  obtain⟨xs,x,hq,hx⟩:=hg
  obtain⟨its,rv,p,hz⟩:=I.list hq
  obtain⟨u,hu,ru⟩:=rv.get hx
  obtain⟨f0,f1,f2,f3,f4,f5⟩:=hf it (by simp)
  refine wpAny_pyNext_list_item st p.isList (x:=u) (by simpa using hu) fun h' st' sb=>?_
  have I1:Inv X pins σ H { s with heap:=h' }:=I.turned (t':=s.toks) (fun b o hb e=>(sb.2 b hb).trans e) f0 f1 f3 f4 f5
  obtain⟨o,e,c,d⟩:=id st'
  exact⟨u,rfl,FW (s:={ s with heap:=h' }) e c d (by decide) ⟨x,H,I1,ru,⟨rfl,fun ys hy=>by rw[I.rD hy hq]; exact hx⟩,st',fun b hb=>(hf b hb).1⟩⟩
 done:=by
  intro X hP hw hK hc i pins s σ H E I hf st hg
  subst hP hw hK
  obtain⟨xs,hq,hx⟩:=hg
  obtain⟨its,rv,p,hz⟩:=I.list hq
  obtain⟨f0,f1,f2,f3,f4,f5⟩:=hf it (by simp)
  have hl:=rv.length
  exact wpAny_pyNext_list_end (I.ok.hd hc) st p.isList (by simp; lia) fun h' eb=>⟨rfl,I.turned (t':=s.toks) (fun b o hb e=>eb b o hb e) f0 f1 f3 f4 f5⟩
 self:=fun _ _ _ _ _ st h=>wpAny_pyIter_listiter st h
theorem yM {P:Program} {w:World} {K:PySem.W.Frag} {tg:Expr} (a it:Addr):Turn P w K tg (Itt K a) [it] it (fun i h=>h.IsTupleIter it a i) where
 mem:=by simp
 obj:=fun i h st b hb=>by
  have e:b=it:=by simpa using hb
  subst e
  obtain⟨o,e,c,d⟩:=st
  exact⟨o,e,fun v z=>by rw[d] at z; cases z⟩
 keep:=fun i h h' st k=>st.at fun o e=>k it (by simp) o e
 item:=by
  intro X hP hw hK hc i pins s σ H E I hf st hg
  subst hP hw hK
  obtain⟨xs,x,hq,hx⟩:=hg
  obtain⟨its,rv,p,hz⟩:=I.tuple hq
  obtain⟨u,hu,ru⟩:=rv.get hx
  obtain⟨f0,f1,f2,f3,f4,f5⟩:=hf it (by simp)
  refine wpAny_pyNext_tuple_item st (show s.heap.IsTuple a its.toArray from p) (x:=u) (by simpa using hu) fun h' st' sb=>?_
  have I1:Inv X pins σ H { s with heap:=h' }:=I.turned (t':=s.toks) (fun b o hb e=>(sb.2 b hb).trans e) f0 f1 f3 f4 f5
  obtain⟨o,e,c,d⟩:=id st'
  exact⟨u,rfl,FW (s:={ s with heap:=h' }) e c d (by decide) ⟨x,H,I1,ru,⟨rfl,fun ys hy=>by rw[I.jX hy hq]; exact hx⟩,st',fun b hb=>(hf b hb).1⟩⟩
 done:=by
  intro X hP hw hK hc i pins s σ H E I hf st hg
  subst hP hw hK
  obtain⟨xs,hq,hx⟩:=hg
  obtain⟨its,rv,p,hz⟩:=I.tuple hq
  obtain⟨f0,f1,f2,f3,f4,f5⟩:=hf it (by simp)
  have hl:=rv.length
  exact wpAny_pyNext_tuple_end (I.ok.hd hc) st (show s.heap.IsTuple a its.toArray from p) (by simp; lia) fun h' eb=>⟨rfl,I.turned (t':=s.toks) (fun b o hb e=>eb b o hb e) f0 f1 f3 f4 f5⟩
 self:=fun _ _ _ _ _ st h=>wpAny_pyIter_tupleiter st h
theorem yQ {P:Program} {w:World} {K:PySem.W.Frag} {tg:Expr} (it:Addr) (lo:Int) (n:Nat):Turn P w K tg (Itr lo n) [it] it (fun i h=>IsRangeIter h it (lo+(i:Nat) * 1) ((n:Int) - (i:Nat)) 1) where
 mem:=by simp
 obj:=fun i h st b hb=>by
  have e:b=it:=by simpa using hb
  subst e
  exact⟨_,st,fun v z=>by
   have z':Data.fields _=Data.cell v:=z
   cases z'⟩
 keep:=fun i h h' st k=>k it (by simp) _ st
 item:=by
  intro X hP hw hK hc i pins s σ H E I hf st hg
  subst hP hw hK
  obtain⟨f0,f1,f2,f3,f4,f5⟩:=hf it (by simp)
  have W:=Walks.range (prog:=X.prog) (w:=X.w) (I.ok.hd hc) it lo 1 n
  refine W.item i s _ _ hg st fun v h' tk hv st' kk=>?_
  obtain⟨t,rfl⟩:=hv
  have I1:Inv X pins σ H { s with heap:=h',toks:=tk }:=I.turned (fun b o hb e=>kk b o (by simpa using hb) e) f0 f1 f3 f4 f5
  refine⟨_,rfl,FW (s:={ s with heap:=h',toks:=tk }) (n:="range_iterator") st' rfl rfl (by decide) ⟨.int (lo+i),H,I1,⟨t,?_⟩,⟨rfl,rfl⟩,st',fun b hb=>(hf b hb).1⟩⟩
  rw[Int.mul_one]
 done:=by
  intro X hP hw hK hc i pins s σ H E I hf st hg
  subst hP hw hK
  obtain⟨f0,f1,f2,f3,f4,f5⟩:=hf it (by simp)
  exact wpAny_pyNext_range_end (I.ok.hd hc) st (by have:n<=i:=hg; lia) fun h' eb=>⟨rfl,I.turned (t':=s.toks) (fun b o hb e=>eb b o hb e) f0 f1 f3 f4 f5⟩
 self:=fun _ _ _ _ _ st h=>wpAny_pyIter_rangeiter st h
end L2
namespace L2
open PySem PySem.Spec PyProof.Rows
section
variable {X:Cx} {tg:Expr}
noncomputable def JZ (K:PySem.W.Frag) (tl:TE):TI:=fun σ H R=>tl σ H fun x H1=>∃ a,x = .ref a/\(∃ xs,SqL K H1 a xs)/\R (Itl K a) H1
noncomputable def MN (K:PySem.W.Frag) (tl:TE):TI:=fun σ H R=>tl σ H fun x H1=>∃ a,x = .ref a/\(∃ xs,SqT K H1 a xs)/\R (Itt K a) H1
theorem cX {l:Expr} {tl:TE} (hl:PE X l tl):PI X tg l (JZ X.K tl):=by
 intro pins s σ H R I h
 refine thn (hl pins s σ H _ I h) fun v s1 ⟨x,H1,I1,r1,q1⟩=>?_
 obtain⟨a,e,⟨xs,hq⟩,q⟩:=q1
 subst e
 cases r1
 obtain⟨its,rv,p,hz⟩:=I1.list hq
 refine wpAny_pyIter_list p.isList ?_
 refine⟨s1.heap.objs.size,[s1.heap.objs.size],_,_,H1,rfl,I1.kept (t':=s1.toks) fun b o e=>Heap.get?_push_of_some _ e,BK a _,⟨_,Heap.get?_push_size _ rfl,rfl,rfl⟩,fun b hb=>?_,q⟩
 have e:b=s1.heap.objs.size:=by simpa using hb
 subst e
 exact I1.DQ (Nat.le_refl _) (I1.hok.fresh (Nat.le_refl _))
theorem gk {l:Expr} {tl:TE} (hl:PE X l tl):PI X tg l (MN X.K tl):=by
 intro pins s σ H R I h
 refine thn (hl pins s σ H _ I h) fun v s1 ⟨x,H1,I1,r1,q1⟩=>?_
 obtain⟨a,e,⟨xs,hq⟩,q⟩:=q1
 subst e
 cases r1
 obtain⟨its,rv,p,hz⟩:=I1.tuple hq
 refine wpAny_pyIter_tuple (show s1.heap.IsTuple a its.toArray from p) ?_
 refine⟨s1.heap.objs.size,[s1.heap.objs.size],_,_,H1,rfl,I1.kept (t':=s1.toks) fun b o e=>Heap.get?_push_of_some _ e,yM a _,⟨_,Heap.get?_push_size _ rfl,rfl,rfl⟩,fun b hb=>?_,q⟩
 have e:b=s1.heap.objs.size:=by simpa using hb
 subst e
 exact I1.DQ (Nat.le_refl _) (I1.hok.fresh (Nat.le_refl _))
theorem Et {pins:List (Addr × Obj)} {σ:St} {H:Hp} {s:Shared} {R:It->Hp->Prop} {E:Value->Shared->Prop} {lo hi:Int} {t u v:Tok} {tk:Nat} (I:Inv X pins σ H s) (h1 : -(2 ^ 62)<=lo) (h2:lo < 2 ^ 62) (h3 : -(2 ^ 62)<=hi) (h4:hi < 2 ^ 62)
  (q:R (Itr lo (hi - lo).toNat) H):wpAny (model X.prog X.w) X.A (pyIter (.ref s.heap.objs.size)) (PIE X pins σ tg R) E { s with heap:=s.heap.push { cls:=.type "range",data:=.fields #[.int lo t,.int hi u,.int 1 v] },toks:=tk }:=by
 refine wpAny_pyIter_range (IsRange.new ..) (small_one h1 h2 h3 h4) ?_
 have I1:Inv X pins σ H { s with heap:=s.heap.push { cls:=.type "range",data:=.fields #[.int lo t,.int hi u,.int 1 v] },toks:=tk }:=I.kept fun b o e=>Heap.get?_push_of_some _ e
 refine⟨(s.heap.push { cls:=.type "range",data:=.fields #[.int lo t,.int hi u,.int 1 v] }).objs.size,[(s.heap.push { cls:=.type "range",data:=.fields #[.int lo t,.int hi u,.int 1 v] }).objs.size],_,_,H,rfl,
  I1.kept (t':=tk) fun b o e=>Heap.get?_push_of_some _ e,yQ _ lo (hi - lo).toNat,?_,fun b hb=>?_,q⟩
 ·have e1:lo+((0:Nat):Int) * 1=lo:=by simp
  have e2:(((hi - lo).toNat:Nat):Int) - ((0:Nat):Int)=Builtin.Range.rangeSize lo hi 1:=by rw[rangeSize_one]; split <;> lia
  show IsRangeIter _ _ (lo+((0:Nat):Int) * 1) ((((hi - lo).toNat:Nat):Int) - ((0:Nat):Int)) 1
  rw[e1,e2]
  exact Heap.get?_push_size _ rfl
 ·have e:b=(s.heap.push { cls:=.type "range",data:=.fields #[.int lo t,.int hi u,.int 1 v] }).objs.size:=by simpa using hb
  subst e
  exact I1.DQ (Nat.le_refl _) (I1.hok.fresh (Nat.le_refl _))
noncomputable def Lz (ta:TA):TI:=fun σ H R=>ta σ H fun vs H1=>∃ j:Int,vs=[.int j]/\-(2 ^ 62)<=j/\j < 2 ^ 62/\R (Itr 0 j.toNat) H1
theorem bQ {a:Expr} {ta:TA} {p pos:Pos} (hg:Gl X "range") (hm:X.mg "range" = none) (ha:PA X [a] ta) (hs:starEach [a] X.env=[(false,eval a X.env)]:=by rfl):PI X tg (.Call (.Name "range" p) [a] [] pos) (Lz ta):=by
 intro pins s σ H R I h
 refine Call_ (jc I hg hm boot_range (PyProof.Rows.callWith_type1 (thn (ha pos pins s σ H _ I h) fun us s1 ⟨vs,H1,I1,r1,q1⟩=>?_) hs rfl))
 obtain⟨j,e,q1,q2,q⟩:=q1
 subst e
 cases r1 with
 | cons r rr =>
  cases rr
  obtain⟨t,rfl⟩:=r
  exact call_range_1 (Et I1 (by lia) (by lia) q1 q2 (by simpa using q))
noncomputable def Np (wi:TI) (g:TG) (tb:TS):TS:=fun D σ H=>wi σ H fun J H1=>∃ W:Nat->Nat->St->Hp->Prop,(∃ m,W 0 m σ H1)/\∀ i m σ H,W i m σ H →
 (J.stop i H/\D.nx σ H)∨(J.go i H/\∃ N:St->Hp->Prop,(∀ σ' H',N σ' H'->∃ m',m' < m/\W (i+1) m' σ' H')/\∀ x H',J.yld i H x H'->g x σ H' fun σ2 H2=>tb { D with nx:=N,ct:=N,bk:=D.nx } σ2 H2)
noncomputable def lX (fp:List Addr) (h:Heap):List (Addr × Obj):=fp.filterMap fun b=>(h.get? b).map fun o=>(b,o)
theorem cZ {fp:List Addr} {h:Heap} {b:Addr} {o:Obj} (hb:b∈fp) (e:h.get? b=some o):(b,o)∈lX fp h:=List.mem_filterMap.mpr ⟨b,hb,by rw[e]; rfl⟩
theorem Ag {fp:List Addr} {h:Heap} {p:Addr × Obj} (hp:p∈lX fp h):p.1∈fp/\h.get? p.1=some p.2:=by
 obtain⟨b,hb,e⟩:=List.mem_filterMap.mp hp
 cases q:h.get? b with
 | none=>rw[q] at e; cases e
 | some o =>
  rw[q] at e
  have e':(b,o)=p:=Option.some.inj e
  subst e'
  exact⟨hb,q⟩
theorem Inv.pinned {pins:List (Addr × Obj)} {σ:St} {H:Hp} {s:Shared} {fp:List Addr} (I:Inv X pins σ H s) (hf:∀ b∈fp,sG X pins H b) (ho:∀ b∈fp,∃ o,s.heap.get? b=some o/\∀ v,o.data≠.cell v):Inv X (pins++lX fp s.heap) σ H s :=
 I.Bv fun p hp=>(List.mem_append.mp hp).elim (fun z=>I.pin p (List.mem_append_right _ z)) fun z=>by
  obtain⟨hb,e⟩:=Ag z
  obtain⟨f0,f1,f2,_⟩:=hf p.1 hb
  obtain⟨o,e',d⟩:=ho p.1 hb
  rw[e] at e'; cases e'
  exact⟨e,f0,f1,f2,d⟩
theorem Inv.jf {pins pl:List (Addr × Obj)} {σ:St} {H:Hp} {s:Shared} (I:Inv X (pins++pl) σ H s):Inv X pins σ H s:=I.Bv fun p hp=>I.pin p (List.mem_append_right _ (List.mem_append_left _ hp))
theorem eE {iter:Expr} {body:List Stmt} {wi:TI} {g:TG} {tb:TS} {pos:Pos} (hp:PassesOwn (model X.prog X.w) X.A X.env X.xe) (hc:X.calm=true) (hi:PI X tg iter wi) (hg:PG X tg g) (hb:PSs X body tb)
  (hs:∀ x,foldedSetIterable iter X.env x=pure x:=by intro _; rfl):PS X (.For tg iter body [] pos) (Np wi g tb):=by
 intro pins s σ H D I h
 refine wpAny_For (thn (hi pins s σ H _ I h) fun v s1 h1=>thn h1 fun itv s2 h2=>?_) hs
 obtain⟨it,fp,tn,J,H2,e,I2,T,st2,f2,W,⟨m0,w0⟩,turn⟩:=h2
 subst e
 have stat:∀ {H':Hp},(∀ b∈fp,H' b=none)->∀ b∈fp,sG X pins H' b:=fun hn b hb=>⟨hn b hb,(f2 b hb).2⟩
 refine codeAny_forLoop_any (fun n s'=>∃ i σ' H',Inv X pins σ' H' s'/\tn i s'.heap/\(∀ b∈fp,H' b=none)/\W i n σ' H') ?_ m0 ⟨0,σ,H2,I2,st2,fun b hb=>(f2 b hb).1,w0⟩
 rintro n s3 ⟨i,σ3,H3,I3,st3,fr3,w3⟩
 rcases turn i n σ3 H3 w3 with⟨stop,qn⟩ | ⟨go,N,hN,step⟩
 ·refine wpAny_passesOwn hp (thn (T.done X rfl rfl rfl hc i pins s3 σ3 H3 X.xe I3 (stat fr3) st3 stop) fun r s4 ⟨hr,I4⟩=>?_)
  subst hr
  exact wpAny_execs_nil ⟨σ3,H3,I4,qn⟩
 ·refine wpAny_passesOwn hp (thn (T.item X rfl rfl rfl hc i pins s3 σ3 H3 X.xe I3 (stat fr3) st3 go) fun r s4 ⟨u,hr,h4⟩=>?_)
  subst hr
  refine wpAny_passesOwn hp (thn h4 fun _ s5 ⟨x,H5,I5,r5,y5,st5,fr5⟩=>?_)
  have I5':=I5.pinned (stat fr5) (T.obj _ _ st5)
  refine wpAny_passesOwn hp (thn (hg _ s5 σ3 H5 x u _ I5' r5 (step x H5 y5)) fun _ s6 ⟨σ6,H6,I6,q6⟩=>?_)
  refine wpAny_passesOwn hp (thn (hb _ s6 σ6 H6 _ I6 q6) fun f s7 q7=>?_)
  have again:∀ {σ7:St} {H7:Hp},Inv X (pins++lX fp s5.heap) σ7 H7 s7->N σ7 H7->∃ m,m < n/\∃ i σ' H',Inv X pins σ' H' s7/\tn i s7.heap/\(∀ b∈fp,H' b=none)/\W i m σ' H':=fun {σ7 H7} I7 n7=>by
   obtain⟨m',hm,w7⟩:=hN σ7 H7 n7
   refine⟨m',hm,i+1,σ7,H7,I7.jf,T.keep _ _ _ st5 fun b hb o e=>(I7.pin (b,o) (List.mem_append_right _ (List.mem_append_right _ (cZ hb e)))).1,fun b hb=>?_,w7⟩
   obtain⟨o,e,d⟩:=T.obj _ _ st5 b hb
   exact (I7.pin (b,o) (List.mem_append_right _ (List.mem_append_right _ (cZ hb e)))).2.1
  cases f with
  | next=>obtain⟨σ7,H7,I7,n7⟩:=q7; exact again I7 n7
  | cont=>obtain⟨σ7,H7,I7,n7⟩:=q7; exact again I7 n7
  | brk=>obtain⟨σ7,H7,I7,q7⟩:=q7; exact⟨σ7,H7,I7.jf,q7⟩
  | ret v=>obtain⟨x7,σ7,H7,I7,r7,q7⟩:=q7; exact⟨x7,σ7,H7,I7.jf,r7,q7⟩
end
theorem mK {K:PySem.W.Frag} {a:Addr} {xs:List V} {g:TG} {tb:TS} {D:Ends} {σ:St} {H:Hp} (Pv:Nat->St->Hp->Prop) (h0:Pv 0 σ H) (hl:∀ i σ H,i<=xs.length->Pv i σ H->SqL K H a xs)
  (hs:∀ i x σ H,xs[i]? = some x->Pv i σ H->g x σ H fun σ2 H2=>tb { D with nx:=Pv (i+1),ct:=Pv (i+1),bk:=D.nx } σ2 H2) (hd:∀ σ H,Pv xs.length σ H->D.nx σ H) :
  ∃ W:Nat->Nat->St->Hp->Prop,(∃ m,W 0 m σ H)/\∀ i m σ H,W i m σ H →
   ((Itl K a).stop i H/\D.nx σ H)∨((Itl K a).go i H/\∃ N:St->Hp->Prop,(∀ σ' H',N σ' H'->∃ m',m' < m/\W (i+1) m' σ' H')/\∀ x H',(Itl K a).yld i H x H'->g x σ H' fun σ2 H2=>tb { D with nx:=N,ct:=N,bk:=D.nx } σ2 H2):=by
 refine⟨fun i m σ H=>m=xs.length - i/\i<=xs.length/\Pv i σ H,⟨xs.length,by simp,Nat.zero_le _,h0⟩,?_⟩
 rintro i m σ H ⟨rfl,hi,p⟩
 have q:=hl i σ H hi p
 by_cases hlt:i < xs.length
 ·refine .inr ⟨⟨xs,xs[i],q,by simp [hlt]⟩,Pv (i+1),fun σ' H' p'=>⟨xs.length - (i+1),by lia,rfl,hlt,p'⟩,fun x H' y=>?_⟩
  obtain⟨e,y⟩:=y
  subst e
  exact hs i x σ _ (y xs q) p
 ·have e:i=xs.length:=by lia
  subst e
  exact .inl ⟨⟨xs,q,Nat.le_refl _⟩,hd σ H p⟩
theorem rE {K:PySem.W.Frag} {a:Addr} {xs:List V} {g:TG} {tb:TS} {D:Ends} {σ:St} {H:Hp} (Pv:Nat->St->Hp->Prop) (h0:Pv 0 σ H) (hl:∀ i σ H,i<=xs.length->Pv i σ H->SqT K H a xs)
  (hs:∀ i x σ H,xs[i]? = some x->Pv i σ H->g x σ H fun σ2 H2=>tb { D with nx:=Pv (i+1),ct:=Pv (i+1),bk:=D.nx } σ2 H2) (hd:∀ σ H,Pv xs.length σ H->D.nx σ H) :
  ∃ W:Nat->Nat->St->Hp->Prop,(∃ m,W 0 m σ H)/\∀ i m σ H,W i m σ H →
   ((Itt K a).stop i H/\D.nx σ H)∨((Itt K a).go i H/\∃ N:St->Hp->Prop,(∀ σ' H',N σ' H'->∃ m',m' < m/\W (i+1) m' σ' H')/\∀ x H',(Itt K a).yld i H x H'->g x σ H' fun σ2 H2=>tb { D with nx:=N,ct:=N,bk:=D.nx } σ2 H2):=by
 refine⟨fun i m σ H=>m=xs.length - i/\i<=xs.length/\Pv i σ H,⟨xs.length,by simp,Nat.zero_le _,h0⟩,?_⟩
 rintro i m σ H ⟨rfl,hi,p⟩
 have q:=hl i σ H hi p
 by_cases hlt:i < xs.length
 ·refine .inr ⟨⟨xs,xs[i],q,by simp [hlt]⟩,Pv (i+1),fun σ' H' p'=>⟨xs.length - (i+1),by lia,rfl,hlt,p'⟩,fun x H' y=>?_⟩
  obtain⟨e,y⟩:=y
  subst e
  exact hs i x σ _ (y xs q) p
 ·have e:i=xs.length:=by lia
  subst e
  exact .inl ⟨⟨xs,q,Nat.le_refl _⟩,hd σ H p⟩
theorem eN {lo:Int} {n:Nat} {g:TG} {tb:TS} {D:Ends} {σ:St} {H:Hp} (Pv:Nat->St->Hp->Prop) (h0:Pv 0 σ H)
  (hs:∀ i σ H,i < n->Pv i σ H->g (.int (lo+i)) σ H fun σ2 H2=>tb { D with nx:=Pv (i+1),ct:=Pv (i+1),bk:=D.nx } σ2 H2) (hd:∀ σ H,Pv n σ H->D.nx σ H) :
  ∃ W:Nat->Nat->St->Hp->Prop,(∃ m,W 0 m σ H)/\∀ i m σ H,W i m σ H →
   ((Itr lo n).stop i H/\D.nx σ H)∨((Itr lo n).go i H/\∃ N:St->Hp->Prop,(∀ σ' H',N σ' H'->∃ m',m' < m/\W (i+1) m' σ' H')/\∀ x H',(Itr lo n).yld i H x H'->g x σ H' fun σ2 H2=>tb { D with nx:=N,ct:=N,bk:=D.nx } σ2 H2):=by
 refine⟨fun i m σ H=>m=n - i/\i<=n/\Pv i σ H,⟨n,by simp,Nat.zero_le _,h0⟩,?_⟩
 rintro i m σ H ⟨rfl,hi,p⟩
 by_cases hlt:i < n
 ·refine .inr ⟨hlt,Pv (i+1),fun σ' H' p'=>⟨n - (i+1),by lia,rfl,hlt,p'⟩,fun x H' y=>?_⟩
  obtain⟨e,y⟩:=y
  subst e y
  exact hs i σ _ hlt p
 ·have e:i=n:=by lia
  subst e
  exact .inl ⟨Nat.le_refl _,hd σ H p⟩
theorem DN {c:TT} {tb:TS} {D:Ends} {σ:St} {H:Hp} (Pv:St->Hp->Prop) (μ:St->Hp->Nat) (h0:Pv σ H)
  (hs:∀ σ H,Pv σ H->c σ H fun b H1=>if b=true then tb { D with nx:=fun σ' H'=>Pv σ' H'/\μ σ' H' < μ σ H,ct:=fun σ' H'=>Pv σ' H'/\μ σ' H' < μ σ H,bk:=D.nx } σ H1 else D.nx σ H1)
  (mono:∀ σ H Q Q',(∀ b H1,Q b H1->Q' b H1)->c σ H Q->c σ H Q'):GR c tb D σ H:=by
 refine⟨fun m σ H=>m=μ σ H/\Pv σ H,⟨_,rfl,h0⟩,?_⟩
 rintro m σ H ⟨rfl,p⟩
 refine mono σ H _ _ (fun b H1 q=>?_) (hs σ H p)
 cases b with
 | true=>exact⟨_,fun σ' H' ⟨p',l⟩=>⟨_,l,rfl,p'⟩,q⟩
 | false=>exact q
end L2
namespace L2
open PySem PySem.Spec PyProof.Rows
noncomputable abbrev R2:=V->V->Hp->VK->Prop
noncomputable def OpR (X:Cx) (f:Value->Value->Sem Value) (r:R2):Prop :=
 ∀ (pins:List (Addr × Obj)) (s:Shared) (σ:St) (H:Hp) (x y:V) (v u:Value) (Q:VK),Inv X pins σ H s->RelV x v->RelV y u->r x y H Q →
  wpAny (model X.prog X.w) X.A (f v u) (EP X pins σ Q) X.xe s
noncomputable def UnR (X:Cx) (f:Value->Sem Value) (r:V->Hp->VK->Prop):Prop :=
 ∀ (pins:List (Addr × Obj)) (s:Shared) (σ:St) (H:Hp) (x:V) (v:Value) (Q:VK),Inv X pins σ H s->RelV x v->r x H Q →
  wpAny (model X.prog X.w) X.A (f v) (EP X pins σ Q) X.xe s
noncomputable def fZ (X:Cx) (f:Value) (r:List V->Hp->VK->Prop):Prop :=
 ∀ (pins:List (Addr × Obj)) (s:Shared) (σ:St) (H:Hp) (xs:List V) (us:List Value) (Q:VK),Inv X pins σ H s->Vals xs us->r xs H Q →
  wpAny (model X.prog X.w) X.A (call f us) (EP X pins σ Q) X.xe s
noncomputable def tOp (r:R2) (ta tb:TE):TE:=fun σ H Q=>ta σ H fun x H1=>tb σ H1 fun y H2=>r x y H2 Q
noncomputable def tUn (r:V->Hp->VK->Prop) (ta:TE):TE:=fun σ H Q=>ta σ H fun x H1=>r x H1 Q
inductive RII (C:Int->Int->Prop) (g:Int->Int->V) (x:V) (y:V) (H:Hp) (Q:VK):Prop where
 | mk (i:Int) (j:Int) (z0:x = .int i) (z1:y = .int j) (z2:C i j) (z3:Q (g i j) H):RII C g x y H Q
noncomputable def rI (C:Int->Int->Prop) (g:Int->Int->V):R2:=fun x y H Q=>RII C g x y H Q
inductive Mh (g:Int->Int->V) (x:V) (y:V) (H:Hp) (Q:VK):Prop where
 | mk (i:Int) (j:Int) (z0:x = .int i) (z1:y = .int j) (z2:Q (g i j) H):Mh g x y H Q
noncomputable def rI0 (g:Int->Int->V):R2:=fun x y H Q=>Mh g x y H Q
inductive RUI (g:Int->V) (x:V) (H:Hp) (Q:VK):Prop where
 | mk (i:Int) (z0:x = .int i) (z1:Q (g i) H):RUI g x H Q
noncomputable def rU (g:Int->V):V->Hp->VK->Prop:=fun x H Q=>RUI g x H Q
section
variable {X:Cx} {a b c:Expr} {ta tb tc:TE} {pos:Pos}
theorem K6 (ha:PE X a ta) (hb:PE X b tb) {pins:List (Addr × Obj)} {s:Shared} {σ:St} {H:Hp} {R:V->V->Hp->Prop} (I:Inv X pins σ H s)
  (h:ta σ H fun x H1=>tb σ H1 fun y H2=>R x y H2) {Q:Value->Shared->Prop} {f:Value->Value->Sem Value}
  (hf:∀ v u s2 x y H2,Inv X pins σ H2 s2->RelV x v->RelV y u->R x y H2->wpAny (model X.prog X.w) X.A (f v u) Q X.xe s2) :
  wpAny (model X.prog X.w) X.A (eval a X.env) (fun v s₁=>wpAny (model X.prog X.w) X.A (eval b X.env) (fun u s₂=>wpAny (model X.prog X.w) X.A (f v u) Q X.xe s₂) X.xe s₁) X.xe s:=by
 refine thn (ha pins s σ H _ I h) fun v s1 ⟨x,H1,I1,r1,q1⟩=>?_
 refine thn (hb pins s1 σ H1 _ I1 q1) fun u s2 ⟨y,H2,I2,r2,q2⟩=>?_
 exact hf v u s2 x y H2 I2 r1 r2 q2
theorem aU {op:Operator} {r:R2} (ho:OpR X (binaryOp op) r) (ha:PE X a ta) (hb:PE X b tb):PE X (.BinOp a op b pos) (tOp r ta tb):=by
 intro pins s σ H Q I h
 exact wpAny_BinOp (K6 ha hb I h fun v u s2 x y H2 I2 rx ry q=>ho pins s2 σ H2 x y v u Q I2 rx ry q)
theorem Bw {op:UnaryOp} {r:V->Hp->VK->Prop} (ho:UnR X (unaryOp op) r) (ha:PE X a ta):PE X (.UnaryOp op a pos) (tUn r ta):=by
 intro pins s σ H Q I h
 exact UnaryOp_ (thn (ha pins s σ H _ I h) fun v s1 ⟨x,H1,I1,r1,q1⟩=>ho pins s1 σ H1 x v Q I1 r1 q1)
theorem opI {f:Value->Value->Sem Value} {C:Int->Int->Prop} {g:Int->Int->Int}
  (rule:∀ (i j:Int) (t u:Tok) (s:Shared) (Q:Value->Shared->Prop) (E:Value->Shared->Prop),C i j->Q (.int (g i j) s.toks) { s with toks:=s.toks+1 }->wpAny (model X.prog X.w) X.A (f (.int i t) (.int j u)) Q E s) :
  OpR X f (rI C fun i j=>.int (g i j)):=by
 intro pins s σ H x y v u Q I rx ry h
 obtain⟨i,j,rfl,rfl,hc,q⟩:=h
 obtain⟨t,rfl⟩:=rx
 obtain⟨t',rfl⟩:=ry
 exact rule i j t t' s _ _ hc ⟨.int (g i j),H,I.tok _,⟨_,rfl⟩,q⟩
theorem Ms {f:Value->Value->Sem Value} {g:Int->Int->Int}
  (rule:∀ (i j:Int) (t u:Tok) (s:Shared) (Q:Value->Shared->Prop) (E:Value->Shared->Prop),Q (.int (g i j) s.toks) { s with toks:=s.toks+1 }->wpAny (model X.prog X.w) X.A (f (.int i t) (.int j u)) Q E s) :
  OpR X f (rI0 fun i j=>.int (g i j)):=by
 intro pins s σ H x y v u Q I rx ry h
 obtain⟨i,j,rfl,rfl,q⟩:=h
 obtain⟨t,rfl⟩:=rx
 obtain⟨t',rfl⟩:=ry
 exact rule i j t t' s _ _ ⟨.int (g i j),H,I.tok _,⟨_,rfl⟩,q⟩
theorem Lk {f:Value->Value->Sem Value} {g:Int->Int->Bool}
  (rule:∀ (i j:Int) (t u:Tok) (s:Shared) (Q:Value->Shared->Prop) (E:Value->Shared->Prop),Q (.bool (g i j)) s->wpAny (model X.prog X.w) X.A (f (.int i t) (.int j u)) Q E s) :
  OpR X f (rI0 fun i j=>.bl (g i j)):=by
 intro pins s σ H x y v u Q I rx ry h
 obtain⟨i,j,rfl,rfl,q⟩:=h
 obtain⟨t,rfl⟩:=rx
 obtain⟨t',rfl⟩:=ry
 exact rule i j t t' s _ _ ⟨.bl (g i j),H,I,rfl,q⟩
noncomputable def MP (i j:Int):Prop:=0 < j/\j < 1073741824
noncomputable def M3 (i j:Int):Prop:=0<=j/\j<=1000000/\i.natAbs < 2 ^ 64
noncomputable def Mf (i j:Int):Prop:=(-(2 ^ 64) < i/\i < 2 ^ 64)∨(-(2 ^ 64) < j/\j < 2 ^ 64)
theorem Mf.ok {i j:Int} (h:Mf i j):IntMulOk i j:=by
 rcases h with⟨h1,h2⟩ | ⟨h1,h2⟩
 ·exact .of_left (intBits_le_64 h1 h2)
 ·exact .of_right (intBits_le_64 h1 h2)
theorem bR:OpR X (binaryOp .Add) (rI0 fun i j=>.int (i+j)):=Ms fun _ _ _ _ _ _ _ q=>add_int q
theorem nA:OpR X (binaryOp .Sub) (rI0 fun i j=>.int (i - j)):=Ms fun _ _ _ _ _ _ _ q=>sub_int q
theorem gZ:OpR X (binaryOp .Mult) (rI Mf fun i j=>.int (i * j)):=opI fun _ _ _ _ _ _ _ hc q=>mul_int q hc.ok
theorem vI:OpR X (binaryOp .FloorDiv) (rI MP fun i j=>.int (i / j)):=opI fun i j _ _ _ _ _ hc q=>by
 have h1:(0:Int) < j:=hc.1
 have h2:j < 1073741824:=hc.2
 exact floordiv_int (by lia) (by rw[Int.fdiv_eq_ediv_of_nonneg i (by lia)]; exact q) (.inl (PyProof.noPylong_small (by lia)))
theorem di:OpR X (binaryOp .Mod) (rI (fun _ j=>0 < j) fun i j=>.int (i % j)):=opI fun i j _ _ _ _ _ hc q=>by
 have h1:(0:Int) < j:=hc
 exact mod_int' (by lia) (by rw[Int.fmod_eq_emod_of_nonneg i (by lia)]; exact q)
theorem pG:OpR X (binaryOp .Pow) (rI M3 fun i j=>.int (i ^ j.toNat)):=opI fun _ _ _ _ _ _ _ hc q=>pow_int_small hc.1 hc.2.1 hc.2.2 q
theorem unI {f:Value->Sem Value} {g:Int->Int}
  (rule:∀ (i:Int) (t:Tok) (s:Shared) (Q:Value->Shared->Prop) (E:Value->Shared->Prop),Q (.int (g i) s.toks) { s with toks:=s.toks+1 }->wpAny (model X.prog X.w) X.A (f (.int i t)) Q E s) :
  UnR X f (rU fun i=>.int (g i)):=by
 intro pins s σ H x v Q I rx h
 obtain⟨i,rfl,q⟩:=h
 obtain⟨t,rfl⟩:=rx
 exact rule i t s _ _ ⟨.int (g i),H,I.tok _,⟨_,rfl⟩,q⟩
theorem uV:UnR X (unaryOp .USub) (rU fun i=>.int (-i)):=unI fun _ _ _ _ _ q=>neg_int q
end
noncomputable def Mt:V->V->Bool
 | .non,.non=>true | .non,.int _=>true | .int _,.non=>true | .non,.bl _=>true | .bl _,.non=>true | .non,.str _=>true | .str _,.non=>true
 | .int _,.int _=>true | .bl _,.bl _=>true | .str _,.str _=>true | .byt _,.byt _=>true
 | .int _,.str _=>true | .str _,.int _=>true | .bl _,.str _=>true | .str _,.bl _=>true
 | _,_=>false
noncomputable def rEq:R2:=fun x y H Q=>Mt x y=true/\Q (.bl (decide (x=y))) H
noncomputable def rNe:R2:=fun x y H Q=>Mt x y=true/\Q (.bl (!decide (x=y))) H
theorem CQ {i j:Int}:decide (V.int i=V.int j)=(i == j):=by
 rw[Bool.eq_iff_iff]
 simp
theorem G3 {i j:Bool}:decide (V.bl i=V.bl j)=(i == j):=by
 rw[Bool.eq_iff_iff]
 simp
theorem Cz {i j:Str}:decide (V.str i=V.str j)=(i == j):=by
 rw[Bool.eq_iff_iff]
 simp
theorem Bs {i j:Array UInt8}:decide (V.byt i=V.byt j)=(i.toList == j.toList):=by
 rw[Bool.eq_iff_iff]
 cases i
 cases j
 simp
section
variable {X:Cx} {a b c:Expr} {ta tb tc:TE} {pos:Pos}
theorem bW {pins:List (Addr × Obj)} {σ:St} {H:Hp} {s:Shared} {Q:VK} {k k':Bool} (I:Inv X pins σ H s) (q:Q (.bl k) H) (e:k=k'):EP X pins σ Q (.bool k') s:=by
 subst e
 exact⟨.bl k,H,I,rfl,q⟩
theorem eX:OpR X (compareOp .Eq) rEq:=by
 intro pins s σ H x y v u Q I rx ry h
 obtain⟨hs,q⟩:=h
 cases x with
 | non =>
  cases rx
  cases y with
  | non=>cases ry; exact PySem.EqNone.eq_none_none (bW I q (by simp))
  | bl j=>cases ry; exact PySem.EqNone.eq_none_bool (bW I q (by simp))
  | int j=>obtain⟨t',rfl⟩:=ry; exact PySem.EqNone.eq_none_int (bW I q (by simp))
  | str j=>obtain⟨t',rfl⟩:=ry; exact PySem.EqNone.eq_none_str (bW I q (by simp))
  | _=>exact absurd (show false=true from hs) Bool.false_ne_true
 | bl i =>
  cases rx
  cases y with
  | non=>cases ry; exact PySem.EqNone.eq_bool_none (bW I q (by simp))
  | bl j=>cases ry; exact eq_bool (bW I q G3)
  | str j=>obtain⟨t',rfl⟩:=ry; exact PySem.EqMixed.eq_bool_str (bW I q (by simp))
  | _=>exact absurd (show false=true from hs) Bool.false_ne_true
 | int i =>
  obtain⟨t,rfl⟩:=rx
  cases y with
  | non=>cases ry; exact PySem.EqNone.eq_int_none (bW I q (by simp))
  | int j=>obtain⟨t',rfl⟩:=ry; exact eq_int (bW I q CQ)
  | str j=>obtain⟨t',rfl⟩:=ry; exact PySem.EqMixed.eq_int_str (bW I q (by simp))
  | _=>exact absurd (show false=true from hs) Bool.false_ne_true
 | str i =>
  obtain⟨t,rfl⟩:=rx
  cases y with
  | non=>cases ry; exact PySem.EqNone.eq_str_none (bW I q (by simp))
  | bl j=>cases ry; exact PySem.EqMixed.eq_str_bool (bW I q (by simp))
  | int j=>obtain⟨t',rfl⟩:=ry; exact PySem.EqMixed.eq_str_int (bW I q (by simp))
  | str j=>obtain⟨t',rfl⟩:=ry; exact eq_str (bW I q Cz)
  | _=>exact absurd (show false=true from hs) Bool.false_ne_true
 | byt i =>
  obtain⟨t,rfl⟩:=rx
  cases y with
  | byt j=>obtain⟨t',rfl⟩:=ry; exact PySem.W.eq_bytes (bW I q Bs)
  | _=>exact absurd (show false=true from hs) Bool.false_ne_true
 | _=>cases y <;> exact absurd (show false=true from hs) Bool.false_ne_true
theorem Ho:OpR X (compareOp .NotEq) rNe:=by
 intro pins s σ H x y v u Q I rx ry h
 obtain⟨hs,q⟩:=h
 cases x with
 | non =>
  cases rx
  cases y with
  | non=>cases ry; exact PySem.EqNone.ne_none_none (bW I q (by simp))
  | bl j=>cases ry; exact PySem.EqNone.ne_none_bool (bW I q (by simp))
  | int j=>obtain⟨t',rfl⟩:=ry; exact PySem.EqNone.ne_none_int (bW I q (by simp))
  | str j=>obtain⟨t',rfl⟩:=ry; exact PySem.EqNone.ne_none_str (bW I q (by simp))
  | _=>exact absurd (show false=true from hs) Bool.false_ne_true
 | bl i =>
  cases rx
  cases y with
  | non=>cases ry; exact PySem.EqNone.ne_bool_none (bW I q (by simp))
  | bl j=>cases ry; exact ne_bool (bW I q (congrArg not G3))
  | str j=>obtain⟨t',rfl⟩:=ry; exact PySem.EqMixed.ne_bool_str (bW I q (by simp))
  | _=>exact absurd (show false=true from hs) Bool.false_ne_true
 | int i =>
  obtain⟨t,rfl⟩:=rx
  cases y with
  | non=>cases ry; exact PySem.EqNone.ne_int_none (bW I q (by simp))
  | int j=>obtain⟨t',rfl⟩:=ry; exact ne_int (bW I q (congrArg not CQ))
  | str j=>obtain⟨t',rfl⟩:=ry; exact PySem.EqMixed.ne_int_str (bW I q (by simp))
  | _=>exact absurd (show false=true from hs) Bool.false_ne_true
 | str i =>
  obtain⟨t,rfl⟩:=rx
  cases y with
  | non=>cases ry; exact PySem.EqNone.ne_str_none (bW I q (by simp))
  | bl j=>cases ry; exact PySem.EqMixed.ne_str_bool (bW I q (by simp))
  | int j=>obtain⟨t',rfl⟩:=ry; exact PySem.EqMixed.ne_str_int (bW I q (by simp))
  | str j=>obtain⟨t',rfl⟩:=ry; exact ne_str (bW I q (congrArg not Cz))
  | _=>exact absurd (show false=true from hs) Bool.false_ne_true
 | byt i =>
  obtain⟨t,rfl⟩:=rx
  cases y with
  | byt j=>obtain⟨t',rfl⟩:=ry; exact PySem.W.ne_bytes (bW I q (congrArg not Bs))
  | _=>exact absurd (show false=true from hs) Bool.false_ne_true
 | _=>cases y <;> exact absurd (show false=true from hs) Bool.false_ne_true
theorem Ca:OpR X (compareOp .Lt) (rI0 fun i j=>.bl (decide (i < j))):=Lk fun _ _ _ _ _ _ _ q=>lt_int q
theorem zr:OpR X (compareOp .Gt) (rI0 fun i j=>.bl (decide (j < i))):=Lk fun _ _ _ _ _ _ _ q=>gt_int q
theorem o6:OpR X (compareOp .GtE) (rI0 fun i j=>.bl (decide (j<=i))):=Lk fun _ _ _ _ _ _ _ q=>ge_int q
theorem OpR.or {f:Value->Value->Sem Value} {r r':R2} (h:OpR X f r) (h':OpR X f r'):OpR X f (fun x y H Q=>r x y H Q∨r' x y H Q):=by
 intro pins s σ H x y v u Q I rx ry q
 rcases q with q | q
 ·exact h pins s σ H x y v u Q I rx ry q
 ·exact h' pins s σ H x y v u Q I rx ry q
theorem aR (b:Expr) {op:CmpOp} (h:op≠.In:=by decide) (h2:op≠.NotIn:=by decide):behindInMarks op b=false:=by
 have e1:(op == CmpOp.In)=false:=by cases op <;> first | rfl | exact absurd rfl h
 have e2:(op == CmpOp.NotIn)=false:=by cases op <;> first | rfl | exact absurd rfl h2
 cases b <;> simp [behindInMarks,e1,e2]
theorem cO {op:CmpOp} {r:R2} (ho:OpR X (compareOp op) r) (ha:PE X a ta) (hb:PE X b tb) (hm:behindInMarks op b=false):PE X (.Compare a [op] [b] pos) (tOp r ta tb):=by
 intro pins s σ H Q I h
 exact wpAny_Compare1 (K6 ha hb I h fun v u s2 x y H2 I2 rx ry q=>ho pins s2 σ H2 x y v u Q I2 rx ry q) hm
noncomputable def Lp (t:TE):TT:=fun σ H Q=>t σ H fun x H'=>ExB x fun k=>Q k H'
theorem aP {op:CmpOp} {r:R2} (ho:OpR X (compareOp op) r) (ha:PE X a ta) (hb:PE X b tb) (hm:behindInMarks op b=false):PT X (.Compare a [op] [b] pos) (Lp (tOp r ta tb)):=by
 intro pins s σ H Q I h
 refine wpAny_isTrue_Compare1 (thn (ha pins s σ H _ I h) fun v s1 ⟨x,H1,I1,r1,q1⟩=>thn (hb pins s1 σ H1 _ I1 q1) fun u s2 ⟨y,H2,I2,r2,q2⟩ =>
  thn (ho pins s2 σ H2 x y v u _ I2 r1 r2 q2) fun c s3 ⟨z,H3,I3,r3,k,e,q3⟩=>?_) hm
 subst e
 cases r3
 exact wpAny_truthy_bool ⟨H3,I3,q3⟩
theorem uJ:(sizeLine:Nat) < 2 ^ 63:=by rw[sizeLine_eq]; decide
theorem vals1 {x:V} {us:List Value} (r:Vals [x] us):∃ u,us=[u]/\RelV x u:=by
 cases r with
 | cons r1 r2=>cases r2; exact⟨_,rfl,r1⟩
theorem vals2 {x y:V} {us:List Value} (r:Vals [x,y] us):∃ u w',us=[u,w']/\RelV x u/\RelV y w':=by
 cases r with
 | cons r1 r2 =>
  cases r2 with
  | cons r3 r4=>cases r4; exact⟨_,_,rfl,r1,r3⟩
theorem mL:fZ X (.builtin "abs") (fun xs H Q=>∃ i,xs=[.int i]/\Q (.int (if i < 0 then -i else i)) H):=by
 intro pins s σ H xs us Q I r h
 obtain⟨i,rfl,q⟩:=h
 obtain⟨u,rfl,t,rfl⟩:=vals1 r
 exact call_abs_int fun u tk=>⟨.int (if i < 0 then -i else i),H,I.tok _,⟨_,rfl⟩,q⟩
theorem oF (hc:X.calm=true):fZ X (.builtin "max") (fun xs H Q=>∃ i j,xs=[.int i,.int j]/\Q (.int (if j > i then j else i)) H):=by
 intro pins s σ H xs us Q I r h
 obtain⟨i,j,rfl,q⟩:=h
 obtain⟨u,w',rfl,⟨t,rfl⟩,⟨t',rfl⟩⟩:=vals2 r
 refine max_two_ints (I.ok.hd hc) fun h' tk k=>⟨_,H,I.kept k,?_,q⟩
 by_cases hj:j > i
 ·rw[if_pos hj,if_pos hj]; exact⟨_,rfl⟩
 ·rw[if_neg hj,if_neg hj]; exact⟨_,rfl⟩
theorem CZ (hc:X.calm=true):fZ X (.builtin "min") (fun xs H Q=>∃ i j,xs=[.int i,.int j]/\Q (.int (if j < i then j else i)) H):=by
 intro pins s σ H xs us Q I r h
 obtain⟨i,j,rfl,q⟩:=h
 obtain⟨u,w',rfl,⟨t,rfl⟩,⟨t',rfl⟩⟩:=vals2 r
 refine min_two_ints (I.ok.hd hc) fun h' tk k=>⟨_,H,I.kept k,?_,q⟩
 by_cases hj:j < i
 ·rw[if_pos hj,if_pos hj]; exact⟨_,rfl⟩
 ·rw[if_neg hj,if_neg hj]; exact⟨_,rfl⟩
theorem vd:fZ X (.type "int") (fun xs H Q=>(∃ i,xs=[.int i]/\Q (.int i) H)∨∃ k,xs=[.bl k]/\Q (.int (if k then 1 else 0)) H):=by
 intro pins s σ H xs us Q I r h
 rcases h with⟨i,rfl,q⟩ | ⟨k,rfl,q⟩
 ·obtain⟨u,rfl,t,rfl⟩:=vals1 r
  exact call_int_int ⟨.int i,H,I,⟨_,rfl⟩,q⟩
 ·obtain⟨u,rfl,r1⟩:=vals1 r
  cases r1
  exact call_int_bool ⟨.int (if k then 1 else 0),H,I.tok _,⟨_,rfl⟩,q⟩
end
end L2
namespace L2
open PySem PySem.Spec PyProof.Rows
structure Lw (h:Heap) (x dx C:Addr) (mA:Str->Option Value):Prop where
 obj:h.get? x=some (PySem.W.instObj C dx)
 ns:h.Ns1 dx mA
 ne:dx≠x
theorem Ah {h:Heap} {dx:Addr} {mA:Str->Option Value} (n:h.Ns1 dx mA):∃ od,h.get? dx=some od/\∀ name,PySem.W.lookIn name od=some (mA name):=by
 obtain⟨o,es,ep,ho,hd,hk,_,hm⟩:=n
 refine⟨o,ho,fun name=>?_⟩
 have e:=hm name
 unfold nsFind findBy at e
 rw[← Array.find?_toList] at e
 unfold PySem.W.lookIn
 rw[hd]
 dsimp only
 split
 ·rename_i y q
  rw[q] at e
  exact congrArg some e
 ·rename_i q
  rw[q] at e
  have a:es.toList.any (·.refKey)=false:=by
   rw[List.any_eq_false]
   intro y hy
   obtain⟨z,t,hkey⟩:=hk y (Array.mem_toList_iff.mp hy)
   simp [DictEntry.refKey,hkey]
  have a':¬ es.toList.any (·.refKey)=true:=by rw[a]; exact Bool.false_ne_true
  rw[if_neg a']
  exact congrArg some e
theorem Lw.look {h:Heap} {x dx C:Addr} {mA:Str->Option Value} (I:Lw h x dx C mA):∃ od,PySem.W.InstAt h x (PySem.W.instObj C dx) C (some od)/\∀ name,PySem.W.lookIn name od=some (mA name) :=
 let ⟨od,ho,hl⟩:=Ah I.ns
 ⟨od,⟨I.obj,rfl,rfl,ho⟩,hl⟩
section
variable {prog:Program} {w:World} {A:Around} {E:Value->Shared->Prop} {s:Shared} {K:PySem.W.Frag} {x dx C f:Addr} {mA:Str->Option Value} {name:Str} {v:Value}
end
section
variable {P:Program} {w:World} {H H':Hp} {h h':Heap} {a C dx:Addr} {fs fs':List (Str × V)}
theorem Jj (hok:HOk P w H h) (e:H a=some (.ins C dx fs)):∃ mA,Lw h a dx C mA/\(∀ f,Lh (fs.lookup f) (mA f))/\PySem.Within mA (fs.map (·.1))/\fs.length<=1000/\H dx=some (.own a):=by
 obtain⟨d,z,ne,ob,mA,n,r,q⟩:=(show ir P w H h a (.ins C dx fs) from hok a _ e)
 exact⟨mA,⟨ob,n,ne⟩,r,q,z,d⟩
end
structure Cls (K:PySem.W.Frag) (C:Addr):Prop where
 pg:PySem.W.plainGet K C Str.empty=true
 hd:PySem.W.hasDictIn K C=true
 po:PySem.W.plainOver K C=true
 sa:PySem.W.findIn K (.ref C) "__setattr__" = some (some (.builtin "object.__setattr__"))
theorem Cls.get {K:PySem.W.Frag} {C:Addr} (c:Cls K C) (f:Str):PySem.W.plainGet K C f=true:=c.pg
structure Con (K:PySem.W.Frag) (C:Addr) (f:Str) (v:V) (u:Value):Prop where
 at_:PySem.W.findIn K (.ref C) f=some (some u)
 rel:RelV v u
 get:PySem.W.specialIn K u "__get__" = some none
 cp:PySem.W.copiedNames.contains f=false
structure Meth (K:PySem.W.Frag) (C:Addr) (m:Str) (f:Addr):Prop where
 at_:PySem.W.findIn K (.ref C) m=some (some (.ref f))
 fn:PySem.W.isFn K (.ref f)=true
 kp:PySem.W.keepIn K (.ref f)=true
section
variable {X:Cx} {pins:List (Addr × Obj)} {σ:St} {H:Hp} {s:Shared} {a C dx:Addr} {fs:List (Str × V)} {f:Str} {v:V} {A:Around} {E:Value->Shared->Prop}
theorem Inv.made (I:Inv X pins σ H s):Inv X pins σ (upd (upd H s.heap.objs.size (.own (s.heap.objs.size+1))) (s.heap.objs.size+1) (.ins C s.heap.objs.size []))
  {s with heap:=(s.heap.push PySem.W.emptyDict).push (PySem.W.instObj C s.heap.objs.size) }:=by
 have e1:(s.heap.push PySem.W.emptyDict).get? s.heap.objs.size=some PySem.W.emptyDict:=Heap.get?_push_size s.heap rfl
 have e2:((s.heap.push PySem.W.emptyDict).push (PySem.W.instObj C s.heap.objs.size)).get? (s.heap.objs.size+1)=some (PySem.W.instObj C s.heap.objs.size):=by
  have:=Heap.get?_push_size (s.heap.push PySem.W.emptyDict) (o:=PySem.W.instObj C s.heap.objs.size) rfl
  rwa [Heap.size_push] at this
 have e3:(s.heap.push PySem.W.emptyDict).Ns s.heap.objs.size (fun _=>none):=⟨PySem.W.emptyDict,#[],_,e1,rfl,(fun e he=>absurd he (by simp)),fun _=>rfl⟩
 have I1:=I.laid (a:=s.heap.objs.size) (o:=.own (s.heap.objs.size+1)) (h':=s.heap.push PySem.W.emptyDict) (t':=s.toks) (fun b u q=>Heap.get?_push_of_some _ q) (Nat.le_refl _) ⟨_,e1⟩
 refine I1.laid (a:=s.heap.objs.size+1) (o:=.ins C s.heap.objs.size []) (t':=s.toks) (fun b u q=>Heap.get?_push_of_some _ q) (Nat.le_of_eq (Heap.size_push _ _)) ?_
 have ne:s.heap.objs.size≠s.heap.objs.size+1:=Nat.ne_of_lt (Nat.lt_succ_self _)
 refine⟨by rw[cj ne,aj],Nat.zero_le _,ne,e2,fun _=>none,(Heap.Ns1.of_empty e3).at fun o q=>Heap.get?_push_of_some _ q,fun _=>True.intro,fun y hy=>absurd rfl hy⟩
end
section
variable {X:Cx} {o e value:Expr} {f:Str} {pos pos' tpos:Pos} {ta tv:TE}
end
section
variable {X:Cx} {pins:List (Addr × Obj)} {σ:St} {H:Hp} {s:Shared} {A:Around} {E:Value->Shared->Prop} {Q:Value->Shared->Prop} {c:Value} {b:Bool}
inductive zH (K:PySem.W.Frag) (H:Hp):V->Value->Prop where
 | non:zH K H .non (.type "NoneType")
 | bl (x:Bool):zH K H (.bl x) (.type "bool")
 | int (i:Int):zH K H (.int i) (.type "int")
 | str (x:Str):zH K H (.str x) (.type "str")
 | flt (x:UInt64):zH K H (.flt x) (.type "float")
 | lst {a:Addr} {xs:List V} (e:H a=some (.lst xs)):zH K H (.ref a) (.type "list")
 | frz {a:Addr} {o:Obj} {xs:List V} (e:H a=some (.frz o (.lst xs))):zH K H (.ref a) (.type "list")
 | tup {a:Addr} {xs:List V} (e:H a=some (.tup xs)):zH K H (.ref a) (.type "tuple")
 | dK {a:Addr} {kvs:List (Key × V)} (e:H a=some (.dK kvs)):zH K H (.ref a) (.type "dict")
 | dT {a:Addr} {kvs:List (List Key × V)} (e:H a=some (.dT kvs)):zH K H (.ref a) (.type "dict")
 | ins {a C dx:Addr} {fs:List (Str × V)} (e:H a=some (.ins C dx fs)) (cl:Cls K C) (ha:PySem.W.findIn K (.ref C) "__class__" = some (some (.builtin "object.__class__")))
   (hn:PySem.W.specialIn K (.builtin "object.__class__") "__get__" = some (some (.builtin "getset_descriptor.__get__"))) (htk:PySem.W.takesIn K (.builtin "object.__class__")=some true)
   (hm:PySem.W.mroIn K C (.type "object")=some true):zH K H (.ref a) (.ref C)
theorem De {x:V} {u t:Value} (I:Inv X pins σ H s) (rx:RelV x u) (ty:zH X.K H x t) (e:PySem.W.kitOne X.K t c=some b) (h:∀ tk,Q (.bool b) { s with toks:=tk }) :
  wpAny (model X.prog X.w) A (call (.builtin "isinstance") [u,c]) Q E s:=by
 cases ty with
 | non=>cases (show u=Value.none from rx); exact PySem.W.kia_one PySem.W.kitx_none I.kIn True.intro e (fun z=>nomatch z) h
 | bl y=>cases (show u=Value.bool y from rx); exact PySem.W.kia_one PySem.W.kitx_bool I.kIn True.intro e (fun z=>nomatch z) h
 | int i=>obtain⟨t,q⟩:=(show ∃ t,u=Value.int i t from rx); cases q; exact PySem.W.kia_one PySem.W.kitx_int I.kIn True.intro e (fun z=>nomatch z) h
 | str y=>obtain⟨t,q⟩:=(show ∃ t,u=Value.str y t from rx); cases q; exact PySem.W.kia_one PySem.W.kitx_str I.kIn True.intro e (fun z=>nomatch z) h
 | flt y=>obtain⟨t,q⟩:=(show ∃ t,u=Value.float y t from rx); cases q; exact PySem.W.kia_one PySem.W.kitx_float I.kIn True.intro e (fun z=>nomatch z) h
 | @lst a xs ea =>
  cases (show u=Value.ref a from rx)
  obtain⟨_,_,n,_,h1⟩:=(show ir X.prog X.w H s.heap a (.lst xs) from I.hok a _ ea)
  exact PySem.W.kia_one PySem.W.kitx_list I.kIn ⟨_,h1,rfl⟩ e (fun z=>nomatch z) h
 | @frz a ob xs ea =>
  cases (show u=Value.ref a from rx)
  obtain⟨_,_,_,n,_,h1⟩:=(show ir X.prog X.w H s.heap a (.frz ob (.lst xs)) from I.hok a _ ea)
  exact PySem.W.kia_one PySem.W.kitx_list I.kIn ⟨_,h1,rfl⟩ e (fun z=>nomatch z) h
 | @tup a xs ea =>
  cases (show u=Value.ref a from rx)
  obtain⟨_,_,_,p⟩:=(show ir X.prog X.w H s.heap a (.tup xs) from I.hok a _ ea)
  obtain⟨o,h1,h2,_⟩:=p
  exact PySem.W.kia_one PySem.W.kitx_tuple I.kIn ⟨o,h1,h2⟩ e (fun z=>nomatch z) h
 | @dK a kvs ea =>
  cases (show u=Value.ref a from rx)
  obtain⟨_,_,vs,_,p⟩:=(show ir X.prog X.w H s.heap a (.dK kvs) from I.hok a _ ea)
  obtain⟨o,es,ep,h1,h2,_⟩:=p
  exact PySem.W.kia_one PySem.W.kitx_dict I.kIn ⟨o,h1,h2.1⟩ e (fun z=>nomatch z) h
 | @dT a kvs ea =>
  cases (show u=Value.ref a from rx)
  obtain⟨_,_,xs,_,o,es,ep,h1,h2,_⟩:=(show ir X.prog X.w H s.heap a (.dT kvs) from I.hok a _ ea)
  exact PySem.W.kia_one PySem.W.kitx_dict I.kIn ⟨o,h1,h2.1⟩ e (fun z=>nomatch z) h
 | @ins a C dx fs ea cl ha hn htk hm =>
  cases (show u=Value.ref a from rx)
  obtain⟨mA,O,_⟩:=Jj I.hok ea
  obtain⟨od,J,_⟩:=O.look
  exact PySem.W.kia_one (PySem.W.kitx_own (cl.get _) cl.hd ha hn htk hm) I.kIn J e (fun z=>nomatch z) h
end
end L2
namespace L2
open PySem PySem.Spec PyProof.Rows
structure mH (k:Nat) (A:Around):Prop where
 hd:A.handled=none
 dp:A.depth+3 * k+5 < recursionLimit
 un:A.units+16 * k+200 < cLine
theorem mH.mono {j k:Nat} {A:Around} (r:mH k A) (h:j<=k):mH j A:=⟨r.hd,by have:=r.dp; lia,by have:=r.un; lia⟩
theorem mH.deeper {k:Nat} {A:Around} (r:mH (k+1) A) (env:Env):mH k (A.deeper env) :=
 ⟨r.hd,by have:=r.dp; show A.depth+1+3 * k+5 < _; lia,by have:=r.un; show A.units+3+16 * k+200 < _; lia⟩
theorem mH.in1 {k:Nat} {A:Around} (r:mH (k+1) A):mH k A.in1 :=
 ⟨r.hd,by have:=r.dp; show A.depth+3 * k+5 < _; lia,by have:=r.un; show A.units+1+16 * k+200 < _; lia⟩
theorem mH.depth {k:Nat} {A:Around} (r:mH k A):A.depth < recursionLimit:=by have:=r.dp; lia
theorem mH.units {k:Nat} {A:Around} (r:mH k A):A.units+64 < cLine:=by have:=r.un; lia
theorem mH.iV {k:Nat} {A:Around} (r:mH k A):A.units < cLine:=by have:=r.un; lia
noncomputable def yP:TA:=fun _ H Q=>Q [] H
noncomputable def gj (ta:TE) (tr:TA):TA:=fun σ H Q=>ta σ H fun x H1=>tr σ H1 fun xs H2=>Q (x::xs) H2
section
variable {X:Cx} {e:Expr} {es:List Expr} {te:TE} {t:TA} {pos:Pos}
theorem ao:PA X [] yP:=fun _ _ _ _ H Q I h=>Calls.spliced_nil ⟨[],H,I,.nil,h⟩
theorem aa (ha:PE X e te) (hr:PA X es t) (hs:starEach (e::es) X.env=(false,eval e X.env)::starEach es X.env:=by rfl):PA X (e::es) (gj te t):=by
 intro pos pins s σ H Q I h
 rw[hs]
 show wpAny _ _ (spliced ((false,eval e X.env)::backTo pos (starEach es X.env))) _ _ s
 refine Calls.spliced_cons (thn (ha pins s σ H _ I h) fun u s1 ⟨x,H1,I1,r1,q1⟩=>?_)
 exact thn (hr pos pins s1 σ H1 _ I1 q1) fun us s2 ⟨xs,H2,I2,r2,q2⟩=>⟨x::xs,H2,I2,.cons r1 r2,q2⟩
noncomputable def Kw (t:TA):TE:=fun σ H Q=>t σ H fun xs H1=>xs.length<=sizeLine/\∀ p,H1 p=none->Q (.ref p) (upd H1 p (.tup xs))
noncomputable def JF (t:TA):TE:=fun σ H Q=>t σ H fun xs H1=>xs.length<=sizeLine/\∀ p,H1 p=none->Q (.ref p) (upd H1 p (.lst xs))
theorem bM {x1} (h:PA X es t):PE X (.Tuple es x1 pos) (Kw t):=by
 intro pins s σ H Q I hq
 refine wpAny_Tuple_spliced (thn (h pos pins s σ H _ I hq) fun us s1 ⟨xs,H1,I1,r,z,q⟩=>⟨by rw[← r.length]; exact z,?_⟩)
 have hf:H1 s1.heap.objs.size=none:=I1.hok.fresh (Nat.le_refl _)
 refine⟨.ref s1.heap.objs.size,upd H1 s1.heap.objs.size (.tup xs),I1.laid (t':=s1.toks) (fun b u e=>Heap.get?_push_of_some _ e) (Nat.le_refl _) ?_,rfl,q _ hf⟩
 exact⟨z,us,r,⟨_,Heap.get?_push_size _ rfl,rfl,_,rfl⟩⟩
theorem bV (h:PA X es t):PE X (.List es pos) (JF t):=by
 intro pins s σ H Q I hq
 refine wpAny_List_spliced (thn (h pos pins s σ H _ I hq) fun us s1 ⟨xs,H1,I1,r,z,q⟩=>⟨by rw[← r.length]; exact z,?_⟩)
 have hf:H1 s1.heap.objs.size=none:=I1.hok.fresh (Nat.le_refl _)
 refine⟨.ref s1.heap.objs.size,upd H1 s1.heap.objs.size (.lst xs),I1.laid (t':=s1.toks) (fun b u e=>Heap.get?_push_of_some _ e) (Nat.le_refl _) ?_,rfl,q _ hf⟩
 exact⟨z,us,0,r,Heap.get?_push_size _ rfl⟩
end
noncomputable abbrev Sp:=List V->Hp->VK->XK->Prop
noncomputable abbrev CXT:=List Env->Hp->Shared->XK->Value->Shared->Prop
structure Ir (P:Program) (w:World) (K:PySem.W.Frag) (mg:Str->Option Value) (base:Heap) (A:Around) (outer:List Env) (s:Shared) (H:Hp):Prop where
 frames:A.frames=some outer
 mod:Mod K mg base
 bs:∀ b o,base.get? b=some o->s.heap.get? b=some o/\H b=none
 bsz:base.objs.size<=s.heap.objs.size
 zP:s.heap.FunFrames base outer
 frf:∀ b∈frs outer,H b=none
 hok:HOk P w H s.heap
 bare:AllBare s.gens
noncomputable def CE (outer:List Env) (P:Program) (w:World) (H:Hp) (s:Shared) (Q:VK) (u:Value) (s':Shared):Prop :=
 ∃ v H',s'.os=s.os/\AllBare s'.gens/\Un (frs outer) [] H H' s.heap s'.heap/\HOk P w H' s'.heap/\RelV v u/\Q v H'
noncomputable def CR (CX:CXT) (outer:List Env) (P:Program) (w:World) (H:Hp) (s:Shared) (Q:VK) (E:XK) (r:Result) (s':Shared):Prop :=
 match r with
 | .ok (.ret u)=>CE outer P w H s Q u s'
 | .ok _=>False
 | .error e=>CX outer H s E e s'
structure dz (P:Program) (w:World) (K:PySem.W.Frag) (mg:Str->Option Value) (base:Heap) (CX:CXT) (k:Nat) (f:Addr) (fd:FuncData) (ps:List Str) (sp:Sp):Prop where
 len:∀ vs H Q E,sp vs H Q E->vs.length=ps.length
 run:∀ (A:Around) (outer:List Env) (s:Shared) (H:Hp) (args:Args) (us:List Value) (vs:List V) (Q:VK) (E:XK),mH k A->Ir P w K mg base A outer s H->BindsTo s fd args (ps.zip us)->Vals vs us->sp vs H Q E →
  codeAny (model P w) A (.call (.ref f) args) (CR CX outer P w H s Q E) s
theorem dz.mono {P:Program} {w:World} {K:PySem.W.Frag} {mg:Str->Option Value} {base:Heap} {CX:CXT} {j k:Nat} {f:Addr} {fd:FuncData} {ps:List Str} {sp:Sp} (F:dz P w K mg base CX j f fd ps sp) (h:j<=k) :
  dz P w K mg base CX k f fd ps sp:=⟨F.len,fun A outer s H args us vs Q E hr=>F.run A outer s H args us vs Q E (hr.mono h)⟩
theorem dz.imp {P:Program} {w:World} {K:PySem.W.Frag} {mg:Str->Option Value} {base:Heap} {CX:CXT} {k:Nat} {f:Addr} {fd:FuncData} {ps:List Str} {sp sp':Sp} (F:dz P w K mg base CX k f fd ps sp)
  (h:∀ vs H Q E,sp' vs H Q E->sp vs H Q E):dz P w K mg base CX k f fd ps sp' :=
 ⟨fun vs H Q E q=>F.len vs H Q E (h _ _ _ _ q),fun A outer s H args us vs Q E hr he hb hv hs=>F.run A outer s H args us vs Q E hr he hb hv (h _ _ _ _ hs)⟩
theorem Ir.in1 {P:Program} {w:World} {K:PySem.W.Frag} {mg:Str->Option Value} {base:Heap} {A:Around} {outer:List Env} {s:Shared} {H:Hp} (e:Ir P w K mg base A outer s H) :
  Ir P w K mg base A.in1 outer s H:=⟨e.frames,e.mod,e.bs,e.bsz,e.zP,e.frf,e.hok,e.bare⟩
section
variable {X:Cx} {pins:List (Addr × Obj)} {σ:St} {H:Hp} {s s':Shared}
theorem Inv.env0 (I:Inv X pins σ H s):Ir X.prog X.w X.K X.mg X.base X.A X.stack s H :=
 ⟨I.ok.frames,I.ok.mod,I.bs,Nat.le_trans I.ok.bsz I.sz,I.stack,I.Av,I.hok,I.bare⟩
theorem Inv.after {Q:VK} {u:Value} (I:Inv X pins σ H s) (h:CE X.stack X.prog X.w H s Q u s'):EP X pins σ Q u s':=by
 obtain⟨v,H',os,bare,un,hok,r,q⟩:=h
 obtain⟨hh,g,d,t,os'⟩:=s'
 obtain rfl:os'=s.os:=os
 exact⟨v,H',I.call (h':=hh) (g':=g) (d':=d) (t':=t) (ch:=[]) un hok bare (fun b z=>absurd z (by simp)),r,q⟩
end
noncomputable def yI (sp:Sp) (dvs:List V) (E:XK) (t:TA):TE:=fun σ H Q=>t σ H fun vs H1=>sp (vs++dvs) H1 Q E
noncomputable def Binds (K:PySem.W.Frag) (fd:FuncData) (ps:List Str) (ds:List Value):Prop :=
 ∀ (s:Shared) (us:List Value),K.In s.heap->(us++ds).length=ps.length->BindsTo s fd ⟨us,[]⟩ (ps.zip (us++ds))
theorem Binds.all {K:PySem.W.Frag} {fd:FuncData} {ps:List Str} (h:∀ us:List Value,us.length=ps.length->bindArgs fd ⟨us,[]⟩=pure (ps.zip us)):Binds K fd ps []:=fun s us _ hl=>by
 rw[List.append_nil] at hl ⊢
 exact .of_eq (h us hl)
noncomputable def Passes (CX:CXT) (X:Cx) (E:XK):Prop:=∀ (pins:List (Addr × Obj)) (σ:St) (H:Hp) (s:Shared) (e:Value) (s':Shared),Inv X pins σ H s->CX X.stack H s E e s'->X.xe e s'
section
variable {X:Cx} {CX:CXT} {k:Nat} {f C:Addr} {fd:FuncData} {ps:List Str} {sp:Sp} {dvs:List V} {ds:List Value} {E:XK} {x m:Str} {p pos apos:Pos} {e o:Expr} {es:List Expr} {ta:TE} {t:TA}
theorem J2 {pins:List (Addr × Obj)} {σ:St} {H:Hp} {s:Shared} {Q:VK} {us:List Value} {vs:List V} (F:dz X.prog X.w X.K X.mg X.base CX k f fd ps sp) (hr:mH k X.A) (hb:Binds X.K fd ps ds) (hd:Vals dvs ds) (hx:Passes CX X E)
  (I:Inv X pins σ H s) (r:Vals vs us) (h:sp (vs++dvs) H Q E):wpAny (model X.prog X.w) X.A (call (.ref f) us) (EP X pins σ Q) X.xe s:=by
 have r2:Vals (vs++dvs) (us++ds):=r.append hd
 have hl:(us++ds).length=ps.length:=by rw[← r2.length]; exact F.len _ _ _ _ h
 refine wpAny_call (codeAny_mono (F.run X.A X.stack s H ⟨us,[]⟩ (us++ds) (vs++dvs) Q E hr I.env0 (hb s us I.kIn hl) r2 h) fun r s' hq=>?_)
 cases r with
 | error e=>exact hx pins σ H s e s' I hq
 | ok fl =>
  cases fl with
  | ret u=>exact I.after hq
  | next=>exact False.elim hq
  | brk=>exact False.elim hq
  | cont=>exact False.elim hq
theorem Ia (F:dz X.prog X.w X.K X.mg X.base CX k f fd ps sp) (hr:mH k X.A) (hg:Gl X x) (hm:X.mg x=some (.ref f)) (hk:PySem.W.keepIn X.K (.ref f)=true) (hb:Binds X.K fd ps ds) (hd:Vals dvs ds) (hx:Passes CX X E)
  (ha:PA X (e::es) t) (hdb:(x == ("__debug__" : Str))=false:=by decide) (he:starEach (e::es) X.env=(false,eval e X.env)::starEach es X.env:=by rfl) (hpl:(backTo pos (starEach es X.env)).any (·.1)=false:=by rfl) :
  PE X (.Call (.Name x p) (e::es) [] pos) (yI sp dvs E t):=by
 intro pins s σ H Q I h
 refine wpAny_Call_Name_kw (Jo I hg hm ?_ hdb)
 refine PySem.W.callWith_K (h₀:=X.base) I.ok.mod.kin hk (thn (ha pos pins s σ H _ I h) fun us s1 ⟨vs,H1,I1,r,q⟩=>⟨I1.kIn,?_⟩) he hpl
 exact J2 F hr hb hd hx I1 r q
structure Mk (K:PySem.W.Frag) (C f:Addr):Prop where
 makes:PySem.W.makesIn K C=true
 init:PySem.W.findIn K (.ref C) "__init__" = some (some (.ref f))
 fn:PySem.W.isFn K (.ref f)=true
 kp:PySem.W.keepIn K (.ref C)=true
end
section
variable {X:Cx} {CX:CXT} {k:Nat} {f C:Addr} {fd:FuncData} {ps ks:List Str} {sp:Sp} {E:XK} {x m:Str} {p pos apos kpos:Pos} {e o:Expr} {es:List Expr} {kws:List Keyword} {te ta:TE} {t tk:TA} {nm:Option Str}
structure Ml (K:PySem.W.Frag) (fd:FuncData) (ps ks:List Str) (g:List Value->List Value->List Value) (gV:List V->List V->List V):Prop where
 to:∀ (s:Shared) (us ws:List Value),K.In s.heap->(g us ws).length=ps.length->BindsTo s fd ⟨us,ks.zip ws⟩ (ps.zip (g us ws))
 rel:∀ {vs:List V} {us:List Value} {zs:List V} {ws:List Value},Vals vs us->Vals zs ws->Vals (gV vs zs) (g us ws)
variable {g:List Value->List Value->List Value} {gV:List V->List V->List V}
end
structure aY (N P:List Str) (sc:Scope):Prop where
 kind:sc.kind = .function
 co:sc.isCoroutine=false
 gen:sc.isGenerator=false
 nd:N.Nodup
 pre:N.take P.length=P
 par:∀ x∈P,sc.names.lookup x=some .local∨sc.names.lookup x=some .cell
 nofree:∀ y∈sc.names,y.2≠.free
theorem tM {kindOf:Str->Option NameKind} {x:Str}:∀ {binds:List (Str × Value)} {m:Str->Option Value},(∀ v,(x,v) ∉ binds)->bindL kindOf binds m x=m x
 | [],_,_=>rfl
 | (n,v)::r,m,h=>by
  unfold bindL
  rw[tM fun w hw=>h w (List.mem_cons_of_mem _ hw)]
  split
  ·have:x≠n:=by rintro rfl; exact h v List.mem_cons_self
   simp [this]
  ·rfl
theorem um {kindOf:Str->Option NameKind} {x:Str}:∀ {binds:List (Str × Value)} {m:Str->Option Value},(∀ v,(x,v) ∉ binds)->bindC kindOf binds m x=m x
 | [],_,_=>rfl
 | (n,v)::r,m,h=>by
  unfold bindC
  rw[um fun w hw=>h w (List.mem_cons_of_mem _ hw)]
  split
  ·rfl
  ·have:x≠n:=by rintro rfl; exact h v List.mem_cons_self
   simp [this]
theorem uX {kindOf:Str->Option NameKind} {x:Str} {v:Value}:∀ {P:List Str} {vs:List Value} {i:Nat} {m:Str->Option Value},P.Nodup->P[i]? = some x->vs[i]? = some v->kindOf x=some .local →
  bindL kindOf (P.zip vs) m x=some v
 | [],_,_,_,_,h,_,_=>by simp at h
 | _::_,[],_,_,_,_,h,_=>by simp at h
 | p::P,w::vs,0,m,nd,h1,h2,hk=>by
  simp at h1 h2; subst h1; subst h2
  show bindL kindOf ((p,w)::P.zip vs) m p=_
  unfold bindL
  rw[tM fun v hv=>(List.nodup_cons.mp nd).1 (List.of_mem_zip hv).1,if_pos hk]
  simp
 | p::P,w::vs,i+1,m,nd,h1,h2,hk=>by
  show bindL kindOf ((p,w)::P.zip vs) m x=_
  unfold bindL
  exact uX (i:=i) (List.nodup_cons.mp nd).2 (by simpa using h1) (by simpa using h2) hk
theorem uQ {kindOf:Str->Option NameKind} {x:Str} {v:Value}:∀ {P:List Str} {vs:List Value} {i:Nat} {m:Str->Option Value},P.Nodup->P[i]? = some x->vs[i]? = some v->kindOf x≠some .local →
  bindC kindOf (P.zip vs) m x=some v
 | [],_,_,_,_,h,_,_=>by simp at h
 | _::_,[],_,_,_,_,h,_=>by simp at h
 | p::P,w::vs,0,m,nd,h1,h2,hk=>by
  simp at h1 h2; subst h1; subst h2
  show bindC kindOf ((p,w)::P.zip vs) m p=_
  unfold bindC
  rw[um fun v hv=>(List.nodup_cons.mp nd).1 (List.of_mem_zip hv).1,if_neg hk]
  simp
 | p::P,w::vs,i+1,m,nd,h1,h2,hk=>by
  show bindC kindOf ((p,w)::P.zip vs) m x=_
  unfold bindC
  exact uQ (i:=i) (List.nodup_cons.mp nd).2 (by simpa using h1) (by simpa using h2) hk
noncomputable def start (N:List Str) (vs:List V):St:=vs.map some++List.replicate (N.length - vs.length) none
noncomputable def JB (CX:CXT) (P:Program) (w:World) (K:PySem.W.Frag) (mg:Str->Option Value) (base:Heap) (N:List Str) (qual:Str) (scope:Scope) (f:Addr) (cd:Value) (A:Around) (outer:List Env) (s:Shared) (H:Hp) (E:XK):Cx where
 prog:=P
 w:=w
 K:=K
 mg:=mg
 base:=base
 A:=A.deeper (envOfC qual scope s.heap.objs.size f cd)
 N:=N
 s₀:=s
 H₀:=H
 env:=envOfC qual scope s.heap.objs.size f cd
 outer:=outer
 stack:=envOfC qual scope s.heap.objs.size f cd::outer
 ex:=[]
 calm:=true
 fn:=fun _=>true
 pn:=[]
 xe:=fun e s'=>wpAny (model P w) (A.deeper (envOfC qual scope s.heap.objs.size f cd)) (leaving (envOfC qual scope s.heap.objs.size f cd) e) (fun _ s''=>CX outer H s E e s'') (fun e' s''=>CX outer H s E e' s'') s'
theorem xX {sc:Scope} {n:Nat} {x:Str} (h:sc.names.lookup x=some .cell):∃ c,(cellsFrom n sc.names []).lookup x=some c:=by
 have q:=PySem.W.cellsFrom_some sc.names n [] (.inl h)
 exact Option.isSome_iff_exists.mp q
theorem Ak {CX:CXT} {P:Program} {w:World} {K:PySem.W.Frag} {mg:Str->Option Value} {base:Heap} {N ps:List Str} {qual:Str} {scope:Scope} {f:Addr} {cd:Value} {A:Around} {outer:List Env} {s s1:Shared} {H:Hp} {E:XK} {us:List Value} {vs:List V}
  (S:aY N ps scope) (hd:A.handled=none) (e0:Ir P w K mg base A outer s H) (hl:vs.length=ps.length) (r:Vals vs us)
  (x:InCallC s s.heap.objs.size (bindL (envOfC qual scope s.heap.objs.size f cd).kindOf (ps.zip us) fun _=>none) (cellsFrom (s.heap.objs.size+1) scope.names []) (bindC (envOfC qual scope s.heap.objs.size f cd).kindOf (ps.zip us) fun _=>none) s1) :
  Inv (JB CX P w K mg base N qual scope f cd A outer s H E) [] (start N vs) H s1:=by
 have hpl:ps.length<=N.length:=by have:=congrArg List.length S.pre; rw[List.length_take] at this; lia
 obtain⟨h1,tk,rfl,hk⟩:=x.done
 have noA:∀ b:Addr,b ∉ (JB CX P w K mg base N qual scope f cd A outer s H E).ex:=fun b z=>absurd (show b∈([]:List Addr) from z) (by simp)
 refine⟨⟨e0.mod,S.kind,rfl,rfl,Nat.le_refl _,fun y z c h1 h2=>?_,fun y hy=>?_,fun y c _ h=>?_,fun _=>hd,Around.frames_deeper e0.frames,.inr ⟨rfl,rfl⟩,fun b z=>absurd z (noA b),e0.bs,e0.bsz,fun b _ _=>noA b,fun b z=>absurd z (noA b),e0.zP,e0.frf⟩,
  rfl,e0.bare,Un.kept hk,⟨_,x.toInCall.ns,fun i y v h1 h2 h3=>?_⟩,fun y c h=>⟨_,x.cell y c h⟩,e0.hok.fresh (Nat.le_refl _),fun y c h=>?_,fun p hp=>absurd (show p∈([]:List (Addr × Obj)) from hp) (by simp),e0.hok.kept hk,?_⟩
 ·exact name_of_addr x.apart (PySem.mem_of_lookup h1) (PySem.mem_of_lookup h2)
 ·have hy:scope.names.lookup y=some .cell∨scope.names.lookup y=some .free:=hy
  rcases hy with hy | hy
  ·exact xX hy
  ·exact absurd rfl (S.nofree _ (PySem.mem_of_lookup hy))
 ·exact Nat.le_of_lt (x.above y c (PySem.mem_of_lookup h))
 ·have hi:i < vs.length:=by
   unfold start at h2
   by_cases hi:i < vs.length
   ·exact hi
   ·rw[List.getElem?_append_right (by simpa using hi)] at h2
    rw[List.getElem?_replicate] at h2
    split at h2 <;> cases h2
  have ha:vs[i]? = some v:=by
   unfold start at h2
   rw[List.getElem?_append_left (by simpa using hi),List.getElem?_map] at h2
   cases e:vs[i]? with
   | none=>rw[e] at h2; cases h2
   | some a=>rw[e] at h2; cases h2; rfl
  obtain⟨u,hu,rv⟩:=r.get ha
  have hp:ps[i]? = some y:=by
   rw[← S.pre,List.getElem?_take_of_lt (by lia)]; exact h1
  have ndP:ps.Nodup:=by rw[← S.pre]; exact S.nd.sublist (List.take_sublist _ _)
  refine⟨u,rv,?_⟩
  rcases S.par y (List.mem_of_getElem? hp) with k | k
  ·exact .inl ⟨k,uX ndP hp hu k⟩
  ·obtain⟨c,e⟩:=xX (n:=s.heap.objs.size+1) k
   refine .inr ⟨.inl k,c,e,?_⟩
   have q:=x.cell y c e
   rw[uQ ndP hp hu (by show scope.names.lookup y≠_; rw[k]; decide)] at q
   exact q
 ·exact e0.hok.fresh (Nat.le_of_lt (x.above y c (PySem.mem_of_lookup h)))
 ·unfold start
  show _=N.length
  rw[List.length_append,List.length_map,List.length_replicate]
  lia
theorem K9 {CX:CXT} {P:Program} {w:World} {K:PySem.W.Frag} {mg:Str->Option Value} {base:Heap} {k:Nat} {f:Addr} {name qual:Str} {params:Arguments} {body:List Stmt} {scope:Scope} {dV kV doc pm cdv ct oc:Value} {an od:Option Addr}
  {osl:Array (Option Value)} {N ps:List Str} {sp:Sp} (lk:K.lookup f=some ⟨oc,od,.func (PySem.W.fnOf name qual params body scope dV kV doc pm an cdv ct),osl⟩) (hcd:PySem.W.codeIn K cdv qual=true) (S:aY N ps scope)
  (len:∀ vs H Q E,sp vs H Q E->vs.length=ps.length)
  (hbody:∀ (A:Around) (outer:List Env) (s:Shared) (H:Hp) (vs:List V) (Q:VK) (E:XK),mH k (A.deeper (envOfC qual scope s.heap.objs.size f cdv))->sp vs H Q E →
   ∃ t,PSs (JB CX P w K mg base N qual scope f cdv A outer s H E) body t/\t { nx:=fun _ H'=>Q .non H',rt:=Q } (start N vs) H) :
  dz P w K mg base CX (k+1) f (PySem.W.fnOf name qual params body scope dV kV doc pm an cdv ct) ps sp:=by
 refine⟨len,fun A outer s H args us vs Q E hr e0 hb r hsp=>?_⟩
 have hl:=len _ _ _ _ hsp
 have KX:K.In s.heap:=e0.mod.kin.keeps fun b o e=>(e0.bs b o e).1
 have lim:s.heap.NoLimit:=e0.mod.nolimit.keeps fun b o e=>(e0.bs b o e).1
 have hkind:∀ y∈ps.zip us,scope.names.lookup y.1=some .local∨(scope.names.lookup y.1=some .cell/\((cellsFrom (s.heap.objs.size+1) scope.names []).lookup y.1).isSome=true):=fun⟨n,v⟩ hy=>by
  rcases S.par n (List.of_mem_zip hy).1 with q | q
  ·exact .inl q
  ·exact .inr ⟨q,PySem.W.cellsFrom_some _ _ _ (.inl q)⟩
 refine codeAny_call_function hr.depth (KX _ _ lk) rfl S.co S.gen rfl (PySem.W.codeRec_of KX hcd) (hb _ _ _ _ ?_)
 refine wpAny_newFunctionEnv_cells S.kind hkind fun env he s1 x=>?_
 subst he
 refine⟨lim.keeps x.toInCall.keep,codeAny_func ?_⟩
 obtain⟨t,ht,hq⟩:=hbody A outer s H vs Q E (hr.deeper _) hsp
 have I:Inv (JB CX P w K mg base N qual scope f cdv A outer s H E) [] (start N vs) H s1:=Ak S hr.hd e0 hl r x
 refine wpAny_mono (ht [] s1 (start N vs) H _ I hq) (fun fl s' hs=>?_) fun e s' hs=>hs
 have fin:∀ {σ':St} {H':Hp} {v:V} {u:Value},Inv (JB CX P w K mg base N qual scope f cdv A outer s H E) [] σ' H' s'->RelV v u->Q v H'->CE outer P w H s Q u s' :=
  fun {σ' H' v u} J rv q=>⟨v,H',J.os,J.bare,J.base,J.hok,rv,q⟩
 cases fl with
 | ret u =>
  obtain⟨v,σ',H',J,rv,q⟩:=hs
  exact fin J rv q
 | next =>
  obtain⟨σ',H',J,q⟩:=hs
  exact fin (v:=V.non) (u:=Value.none) J rfl q
 | brk =>
  obtain⟨_,_,_,q⟩:=hs
  exact False.elim q
 | cont =>
  obtain⟨_,_,_,q⟩:=hs
  exact False.elim q
end L2
namespace L2
open PySem PySem.Spec PyProof.Rows
section
variable {X:Cx} {x:Str} {p pos:Pos} {e:Expr} {es:List Expr} {t:TA} {id T:String} {r:List V->Hp->VK->Prop}
noncomputable def tCB (r:List V->Hp->VK->Prop) (t:TA):TE:=fun σ H Q=>t σ H fun vs H1=>r vs H1 Q
theorem aJ (hc:fZ X (.builtin id) r) (hg:Gl X x) (hm:X.mg x=none) (hv:bootBuiltins x=some (.builtin id)) (ha:PA X (e::es) t) (hn:x≠"__name__":=by decide) (hdb:(x == ("__debug__" : Str))=false:=by decide)
  (he:starEach (e::es) X.env=(false,eval e X.env)::starEach es X.env:=by rfl) (hpl:(backTo pos (starEach es X.env)).any (·.1)=false:=by rfl):PE X (.Call (.Name x p) (e::es) [] pos) (tCB r t):=by
 intro pins s σ H Q I h
 refine wpAny_Call_Name_kw (jc I hg hm hv ?_ hn hdb)
 exact PyProof.Rows.callWith_builtin1 (thn (ha pos pins s σ H _ I h) fun us s1 ⟨vs,H1,I1,r1,q1⟩=>hc pins s1 σ H1 vs us Q I1 r1 q1) he hpl
theorem bI (hc:fZ X (.type T) r) (hg:Gl X x) (hm:X.mg x=none) (hv:bootBuiltins x=some (.type T)) (ha:PA X (e::es) t) (hn:x≠"__name__":=by decide) (hdb:(x == ("__debug__" : Str))=false:=by decide)
  (he:starEach (e::es) X.env=(false,eval e X.env)::starEach es X.env:=by rfl) (hpl:(backTo pos (starEach es X.env)).any (·.1)=false:=by rfl):PE X (.Call (.Name x p) (e::es) [] pos) (tCB r t):=by
 intro pins s σ H Q I h
 refine wpAny_Call_Name_kw (jc I hg hm hv ?_ hn hdb)
 exact PyProof.Rows.callWith_type1 (thn (ha pos pins s σ H _ I h) fun us s1 ⟨vs,H1,I1,r1,q1⟩=>hc pins s1 σ H1 vs us Q I1 r1 q1) he hpl
end
end L2
namespace HT
open PySem PyProof.Rows
noncomputable def lexLt:List Int->List Int->Bool
 | [],[]=>false
 | [],_::_=>true
 | _::_,[]=>false
 | x::xs,y::ys=>if x=y then lexLt xs ys else decide (x < y)
theorem kI (x y:Int) (xs ys:List Int):lexLt (x::xs) (y::ys)=if x=y then lexLt xs ys else decide (x < y):=rfl
section
open PySem.SeqAt
open PySem.AutoSeq1 (wpAny_loadPart')
open PySem.MeetsSeq PySem.MeetsSeq2 PySem.MeetsSeq3
end
section
variable {prog:Program} {w:World} {A:Around} {E:Value->Shared->Prop} {s:Shared}
theorem Iv {t b:Addr} {vs ws:List Value} {Q:Value->Shared->Prop} (ht:IsTup s.heap t vs.toArray) (hb:IsTup s.heap b ws.toArray) (hv:vs≠[])
  (h1:ws=[]->Q (.ref t) s) (h2:ws≠[]->Q (.ref s.heap.objs.size) { s with heap:=s.heap.push { cls:=.type "tuple",data:=.seq (vs++ws).toArray } })
  (hsz:vs.length+ws.length<=sizeLine):wpAny (model prog w) A (binaryOp .Add (.ref t) (.ref b)) Q E s:=by
 obtain⟨⟨cls,dd,data,sl⟩,ho,hc,n,hd⟩:=id ht
 obtain⟨⟨cls2,dd2,data2,sl2⟩,ho2,hc2,n2,hd2⟩:=id hb
 simp only at hc hd hc2 hd2
 subst hc hd hc2 hd2
 have e:vs.toArray++ws.toArray=(vs++ws).toArray:=by simp
 by_cases hw:ws=[]
 ·exact concat_meets ⟨_,ho,rfl⟩ ⟨_,ho2,rfl⟩ noFill_tuple_add seq_tuple_add PySem.F.slot_tuple_add PySem.F.entry_tuple_add (PySem.F.args_tuple_add_2 _ _)
   (tuple_addW1 t b vs.toArray ws.toArray n n2 dd dd2 sl sl2 (by simpa using hv) (by simp [hw])) ⟨ho,ho2,h1 hw⟩
 ·refine concat_meets ⟨_,ho,rfl⟩ ⟨_,ho2,rfl⟩ noFill_tuple_add seq_tuple_add PySem.F.slot_tuple_add PySem.F.entry_tuple_add (PySem.F.args_tuple_add_2 _ _)
   (tuple_addW2 t b vs.toArray ws.toArray n n2 dd dd2 sl sl2 (by simpa using hv) (by simpa using hw) (by rw[List.size_toArray,List.size_toArray]; exact hsz)) ⟨ho,ho2,?_⟩
  rw[e]
  exact h2 hw
noncomputable def sIx (n d:Nat):Option Int->Nat
 | none=>d
 | some v=>if v < 0 then (v+(n:Int)).toNat else min v.toNat n
theorem xM (n d:Nat):sIx n d none=d:=rfl
theorem qG (n d k:Nat):sIx n d (some (k:Int))=min k n:=by
 show (if (k:Int) < 0 then ((k:Int)+(n:Int)).toNat else min (k:Int).toNat n)=min k n
 rw[if_neg (by lia),Int.toNat_natCast]
theorem Ku (n d:Nat) (hd:d<=n) (o:Option Int):sIx n d o<=n:=by
 cases o with
 | none=>exact hd
 | some v =>
  show (if v < 0 then (v+(n:Int)).toNat else min v.toNat n)<=n
  by_cases hv:v < 0
  ·rw[if_pos hv]; lia
  ·rw[if_neg hv]; exact Nat.min_le_right _ _
theorem DG (v:Int) (n d:Nat):(if v < 0 then max (v+(n:Int)) 0 else min v (n:Int))=((sIx n d (some v):Nat):Int):=by
 show (if v < 0 then max (v+(n:Int)) 0 else min v (n:Int))=(((if v < 0 then (v+(n:Int)).toNat else min v.toNat n):Nat):Int)
 by_cases hv:v < 0
 ·simp only[if_pos hv]; lia
 ·simp only[if_neg hv]; lia
theorem zM (lo hi:Option Int) (n:Nat):Builtin.Slice.sliceAdjust lo hi 1 (n:Int)=(((sIx n 0 lo:Nat):Int),((sIx n n hi:Nat):Int)):=by
 have h1:¬ ((1:Int) < 0):=by lia
 unfold Builtin.Slice.sliceAdjust
 simp only[h1,if_false]
 refine Prod.ext ?_ ?_
 ·cases lo with
  | none=>rfl
  | some v=>exact DG v n 0
 ·cases hi with
  | none=>rfl
  | some v=>exact DG v n n
theorem za (i j:Nat):Builtin.Slice.slicePlaces (i:Int) (j:Int) 1=j - i:=by
 unfold Builtin.Slice.slicePlaces
 have h1:(1:Int) > 0:=by lia
 simp only[h1,if_true,Int.ediv_one]
 split <;> lia
theorem pD {v:Value} {o:Option Int} {Q:Option Int->Shared->Prop} (p:IsPart v o) (h:Q o s):wpAny (model prog w) A (Builtin.Slice.slicePartIndex v) Q E s:=by
 cases p with
 | none=>exact slicePart_none h
 | int i t=>exact slicePart_int h
theorem mF {sl:Addr} {vl vu:Value} {lo hi:Option Int} {n:Nat} {Q:Int × Int × Nat->Shared->Prop} (hs:s.heap.IsSliceOf sl vl vu .none) (pl:IsPart vl lo) (pu:IsPart vu hi)
  (h:Q (((sIx n 0 lo:Nat):Int),1,sIx n n hi - sIx n 0 lo) s):wpAny (model prog w) A (Builtin.Slice.sliceApplied (.ref sl) (pure (n:Int))) Q E s:=by
 obtain⟨os,hos,hcs,hds⟩:=id hs
 unfold Builtin.Slice.sliceApplied Builtin.Slice.sliceFields
 refine wpAny_bind (wpAny_bind (wpAny_field hos hds (x:=vl) rfl (wpAny_bind (wpAny_field hos hds (x:=vu) rfl (wpAny_bind (wpAny_field hos hds (x:=.none) rfl (wpAny_pure ?_)))))))
 refine wpAny_bind (slicePart_none ?_)
 show wpAny _ _ (if ((1:Int) == 0)=true then _ else _) _ _ s
 rw[if_neg (by decide)]
 refine wpAny_bind (pD pl (wpAny_bind (pD pu (wpAny_bind (wpAny_pure ?_)))))
 show wpAny _ _ (match Builtin.Slice.sliceAdjust lo hi 1 (n:Int) with | (lo,hi)=>pure (lo,(1:Int),Builtin.Slice.slicePlaces lo hi 1)) _ _ s
 rw[zM lo hi n]
 show wpAny _ _ (pure (((sIx n 0 lo:Nat):Int),(1:Int),Builtin.Slice.slicePlaces ((sIx n 0 lo:Nat):Int) ((sIx n n hi:Nat):Int) 1)) _ _ s
 rw[za]
 exact wpAny_pure h
theorem Ej (xs:Array Value) (i k:Nat):((List.range k).filterMap fun (m:Nat)=>xs[((i:Int)+(m:Int) * 1).toNat]?).toArray=((xs.toList.drop i).take k).toArray:=by
 have e:(fun (m:Nat)=>xs[((i:Int)+(m:Int) * 1).toNat]?)=fun m=>xs[i+m]?:=by
  funext m
  have:((i:Int)+(m:Int) * 1).toNat=i+m:=by lia
  rw[this]
 rw[e]
 have:=pick_run xs i k
 rw[List.filterMap_map] at this
 have e2:((fun x=>xs[x]?) ∘ fun x=>i+x)=fun m=>xs[i+m]?:=rfl
 rw[e2] at this
 rw[this]
theorem kY {t sl:Addr} {items:Array Value} {vl vu:Value} {lo hi:Option Int} {Q:Value->Shared->Prop} (ht:IsTup s.heap t items) (hs:s.heap.IsSliceOf sl vl vu .none) (pl:IsPart vl lo) (pu:IsPart vu hi)
  (hw:¬ (sIx items.size 0 lo=0/\sIx items.size items.size hi=items.size))
  (h:Q (.ref s.heap.objs.size) { s with heap:=s.heap.push { cls:=.type "tuple",data:=.seq ((items.toList.drop (sIx items.size 0 lo)).take (sIx items.size items.size hi - sIx items.size 0 lo)).toArray } })
  (hsz:items.size<=sizeLine):wpAny (model prog w) A (getItem (.ref t) (.ref sl)) Q E s:=by
 have htake:sizeOk (.seq ((items.toList.drop (sIx items.size 0 lo)).take (sIx items.size items.size hi - sIx items.size 0 lo)).toArray):=by
  show ((items.toList.drop (sIx items.size 0 lo)).take (sIx items.size items.size hi - sIx items.size 0 lo)).toArray.size<=sizeLine
  rw[List.size_toArray,List.length_take,List.length_drop,Array.length_toList]
  lia
 have hj:sIx items.size items.size hi<=items.size:=Ku _ _ (Nat.le_refl _) hi
 obtain⟨os,hos,hcs,hds⟩:=id hs
 have hTs:s.TypeIs (.ref sl) "slice":=⟨os,hos,hcs⟩
 unfold getItem
 try with_reducible refine wpAny_holding ?_
 first | refine wpAny_bind (wpAny_pure ?_) | skip
 refine wpAny_bind (wpAny_sequenceKey ht.typeIs (by decide) ?_)
 refine wpAny_bind (wpAny_callSpecial?_slot (name:=Str.ofString "__getitem__") ht.typeIs PyProof.Rows.slot_tuple_getitem
  (wpAny_call_entry PyProof.Rows.slot_tuple_getitem ht.typeIs entry_tuple_getitem ?_ (args_tuple_getitem _ _)))
 show wpAny _ _ (Builtin.Tuple.tupleItemsOf (.ref t) >>= _) _ _ s
 refine wpAny_bind (tupleItemsOf_ ht ?_)
 refine wpAny_bind (wpAny_typeOf hTs ?_)
 rw[if_pos (by decide)]
 refine wpAny_bind (mF hs pl pu ?_)
 have hno:¬ ((((sIx items.size 0 lo:Nat):Int) == 0 && (1:Int) == 1 && (sIx items.size items.size hi - sIx items.size 0 lo) == items.size)=true):=by
  intro q
  rw[Bool.and_eq_true,Bool.and_eq_true] at q
  have q1:((sIx items.size 0 lo:Nat):Int)=0:=eq_of_beq q.1.1
  have q2:sIx items.size items.size hi - sIx items.size 0 lo=items.size:=eq_of_beq q.2
  exact hw ⟨by lia,by lia⟩
 show wpAny _ _ (if (((sIx items.size 0 lo:Nat):Int) == 0 && (1:Int) == 1 && (sIx items.size items.size hi - sIx items.size 0 lo) == items.size)=true then _ else _) _ _ s
 rw[if_neg hno,Ej]
 first
  | exact wpAny_bind (m:=Builtin.Tuple.tupleExact _) (wpAny_newObj_type (wpAny_pure ⟨_,rfl,wpAny_pure h⟩) htake)
  | exact wpAny_bind (m:=Builtin.Tuple.tupleExact _) (wpAny_newObj_type (wpAny_bind (wpAny_pure (wpAny_pure ⟨_,rfl,wpAny_pure h⟩))) htake)
  | exact wpAny_bind (wpAny_bind (m:=Builtin.Tuple.tupleExact _) (wpAny_newObj_type (wpAny_pure (wpAny_pure ⟨_,rfl,wpAny_pure h⟩)) htake))
  | exact wpAny_bind (wpAny_bind (m:=Builtin.Tuple.tupleExact _) (wpAny_newObj_type (wpAny_pure ⟨_,rfl,wpAny_pure h⟩) htake))
end
end HT
namespace L2
open PySem PySem.Spec PyProof.Rows
noncomputable abbrev TO:=St->Hp->(Option Int->Hp->Prop)->Prop
noncomputable def PO (X:Cx) (e:Option Expr) (t:TO):Prop :=
 ∀ (pins:List (Addr × Obj)) (s:Shared) (σ:St) (H:Hp) (Q:Option Int->Hp->Prop),Inv X pins σ H s->t σ H Q →
  wpAny (model X.prog X.w) X.A (evalPart e X.env) (fun u s'=>∃ o H',Inv X pins σ H' s'/\IsPart u o/\Q o H') X.xe s
noncomputable def ni:TO:=fun _ H Q=>Q none H
noncomputable def Bk (t:TE):TO:=fun σ H Q=>t σ H fun x H1=>∃ i,x = .int i/\Q (some i) H1
theorem intsAre_of {ns:List Int}:∀ {us:List Value},Vals (ns.map V.int) us->IntsAre us ns:=by
 induction ns with
 | nil=>intro us r; rw[List.map_nil] at r; cases r; exact .nil
 | cons n ns ih =>
  intro us r
  rw[List.map_cons] at r
  cases r with
  | cons r1 r2 =>
   obtain⟨t,e⟩:=r1
   subst e
   exact .cons n t (ih r2)
section
variable {X:Cx} {e:Expr} {te:TE} {lo hi:Option Expr} {tl th:TO} {pos p2:Pos}
theorem nR:PO X none ni:=by
 intro pins s σ H Q I h
 rw[evalPart_none]
 exact wpAny_pure ⟨none,H,I,.none,h⟩
theorem jC (h:PE X e te):PO X (some e) (Bk te):=by
 intro pins s σ H Q I hw
 rw[evalPart_some]
 refine thn (h pins s σ H _ I hw) fun u s1 ⟨x,H1,I1,r1,q1⟩=>?_
 obtain⟨i,rfl,q⟩:=q1
 obtain⟨t,rfl⟩:=r1
 exact⟨some i,H1,I1,.int i t,q⟩
noncomputable def SlR (X:Cx) (r:V->Option Int->Option Int->Hp->VK->Prop):Prop :=
 ∀ (pins:List (Addr × Obj)) (s:Shared) (σ:St) (H:Hp) (x:V) (v vl vu:Value) (lo hi:Option Int) (sl:Addr) (Q:VK),Inv X pins σ H s->RelV x v->s.heap.IsSliceOf sl vl vu .none->IsPart vl lo->IsPart vu hi->r x lo hi H Q →
  ∃ T id,typeLookup (.type T) "__getitem__" = pure (some (.builtin id))/\s.TypeIs v T/\wpAny (model X.prog X.w) X.A (getItem v (.ref sl)) (EP X pins σ Q) X.xe s
theorem SlR.or {r r':V->Option Int->Option Int->Hp->VK->Prop} (h:SlR X r) (h':SlR X r'):SlR X (fun x lo hi H Q=>r x lo hi H Q∨r' x lo hi H Q):=by
 intro pins s σ H x v vl vu lo hi sl Q I rx hs pl pu q
 rcases q with q | q
 ·exact h pins s σ H x v vl vu lo hi sl Q I rx hs pl pu q
 ·exact h' pins s σ H x v vl vu lo hi sl Q I rx hs pl pu q
noncomputable def tSl (r:V->Option Int->Option Int->Hp->VK->Prop) (te:TE) (tl th:TO):TE:=fun σ H Q=>te σ H fun x H1=>tl σ H1 fun l H2=>th σ H2 fun u H3=>r x l u H3 Q
theorem jj {r:V->Option Int->Option Int->Hp->VK->Prop} (hr:SlR X r) (he:PE X e te) (hl:PO X lo tl) (hu:PO X hi th):PE X (.Subscript e (.Slice lo hi none p2) pos) (tSl r te tl th):=by
 intro pins s σ H Q I h
 refine Subscript_ (thn (he pins s σ H _ I h) fun v s1 ⟨x,H1,I1,r1,q1⟩=>?_)
 refine wpAny_Slice (thn (hl pins s1 σ H1 _ I1 q1) fun vl s2 ⟨l,H2,I2,pl,q2⟩=>thn (hu pins s2 σ H2 _ I2 q2) fun vu s3 ⟨u,H3,I3,pu,q3⟩=>?_)
 rw[evalPart_none]
 refine wpAny_pure ?_
 have I4:Inv X pins σ H3 { s3 with heap:=s3.heap.push { cls:=.type "slice",data:=.fields #[vl,vu,.none] } }:=I3.kept (t':=s3.toks) fun b ob q=>Heap.get?_push_of_some _ q
 obtain⟨T,id,hT,ht,hg⟩:=hr pins { s3 with heap:=s3.heap.push { cls:=.type "slice",data:=.fields #[vl,vu,.none] } } σ H3 x v vl vu l u s3.heap.objs.size Q I4 r1 (Heap.IsSliceOf.new ..) pl pu q3
 show wpAny (model X.prog X.w) X.A (subscriptTail e (.Slice lo hi none p2) v (.ref s3.heap.objs.size)) (EP X pins σ Q) X.xe { s3 with heap:=s3.heap.push { cls:=.type "slice",data:=.fields #[vl,vu,.none] } }
 exact tail_any (ops:=[.ref s3.heap.objs.size,v]) ht hT hg (by with_unfolding_all rfl)
noncomputable def su (xs:List V) (lo hi:Option Int):List V:=(xs.drop (HT.sIx xs.length 0 lo)).take (HT.sIx xs.length xs.length hi - HT.sIx xs.length 0 lo)
theorem nJ (xs:List V) (lo hi:Option Int):(su xs lo hi).length<=xs.length:=by
 unfold su
 rw[List.length_take,List.length_drop]
 lia
inductive KN (K:PySem.W.Frag) (x:V) (lo:Option Int) (hi:Option Int) (H:Hp) (Q:VK):Prop where
 | mk (a:Addr) (xs:List V) (z0:x = .ref a) (z1:SqT K H a xs) (z2:¬ (HT.sIx xs.length 0 lo=0/\HT.sIx xs.length xs.length hi=xs.length)) (z3:∀ p,H p=none->Q (.ref p) (upd H p (.tup (su xs lo hi)))):KN K x lo hi H Q
noncomputable def GC (K:PySem.W.Frag):V->Option Int->Option Int->Hp->VK->Prop:=fun x lo hi H Q=>KN K x lo hi H Q
theorem CP:SlR X (GC X.K):=by
 intro pins s σ H x v vl vu lo hi sl Q I rx hs pl pu h
 obtain⟨a,xs,rfl,hx,hw,q⟩:=h
 cases rx
 obtain⟨its,r,ht,hz⟩:=I.tuple hx
 have hlen:its.toArray.size=xs.length:=by rw[List.size_toArray]; exact r.length.symm
 refine⟨"tuple",_,PyProof.Rows.slot_tuple_getitem.lookup,ht.typeIs,?_⟩
 refine HT.kY ht hs pl pu (by rw[hlen]; exact hw) ?_ (by rw[hlen]; exact hz)
 rw[hlen]
 refine⟨.ref s.heap.objs.size,_,I.laid (t':=s.toks) (o:=.tup (su xs lo hi)) (fun b ob q=>Heap.get?_push_of_some _ q) (Nat.le_refl _) ?_,rfl,q _ (I.hok.fresh (Nat.le_refl _))⟩
 exact⟨Nat.le_trans (nJ xs lo hi) hz,_,(r.drop (HT.sIx xs.length 0 lo)).take (HT.sIx xs.length xs.length hi - HT.sIx xs.length 0 lo),IsTup.new _ _⟩
noncomputable def Lx (K:PySem.W.Frag):R2:=fun x y H Q=>∃ a b xs ys,x = .ref a/\y = .ref b/\SqT K H a xs/\SqT K H b ys/\xs≠[]/\xs.length+ys.length<=sizeLine ∧
 (ys=[]->Q (.ref a) H)/\(ys≠[]->∀ p,H p=none->Q (.ref p) (upd H p (.tup (xs++ys))))
theorem Vals.qJ {xs:List V} {us:List Value} (r:Vals xs us):us=[] ↔ xs=[]:=by
 cases r with
 | nil=>simp
 | cons _ _=>simp
theorem Jc:OpR X (binaryOp .Add) (Lx X.K):=by
 intro pins s σ H x y v u Q I rx ry h
 obtain⟨a,b,xs,ys,rfl,rfl,ha,hb,hx,hz,q1,q2⟩:=h
 cases rx
 cases ry
 obtain⟨its,r1,p1,_⟩:=I.tuple ha
 obtain⟨its2,r2,p2,_⟩:=I.tuple hb
 refine HT.Iv p1 p2 (fun z=>hx (r1.qJ.mp z)) (fun z=>⟨.ref a,H,I,rfl,q1 (r2.qJ.mp z)⟩) (fun z=>?_) (by rw[← r1.length,← r2.length]; exact hz)
 refine⟨.ref s.heap.objs.size,_,I.laid (t':=s.toks) (o:=.tup (xs++ys)) (fun b ob q=>Heap.get?_push_of_some _ q) (Nat.le_refl _) ?_,rfl,q2 (fun w=>z (r2.qJ.mpr w)) _ (I.hok.fresh (Nat.le_refl _))⟩
 exact⟨by rw[List.length_append]; exact hz,_,r1.append r2,IsTup.new _ _⟩
end
end L2
namespace L2
open PySem PySem.Spec PyProof.Rows
noncomputable def ixN (n:Nat) (i:Int):Option Nat:=if 0<=i then (if i < n then some i.toNat else none) else if -(n:Int)<=i then some (i+n).toNat else none
noncomputable def atI {α:Type} (xs:List α) (i:Int):Option α:=(ixN xs.length i).bind fun j=>xs[j]?
theorem Ih {n:Nat} {i:Int} {j:Nat} (h:ixN n i=some j):seqIndex? i n=some j/\j < n/\-(n:Int)<=i/\i < n:=by
 unfold ixN at h
 by_cases h0:0<=i
 ·rw[if_pos h0] at h
  by_cases h1:i < n
  ·rw[if_pos h1] at h
   have e:i.toNat=j:=Option.some.inj h
   exact⟨by rw[seqIndex_of h0 h1,e],by lia,by lia,h1⟩
  ·rw[if_neg h1] at h; cases h
 ·rw[if_neg h0] at h
  by_cases h1 : -(n:Int)<=i
  ·rw[if_pos h1] at h
   have e:(i+n).toNat=j:=Option.some.inj h
   exact⟨by rw[seqIndex_neg (by lia) h1,e],by lia,h1,by lia⟩
  ·rw[if_neg h1] at h; cases h
theorem vX {α:Type} {xs:List α} {i:Int} {v:α} (h:atI xs i=some v):∃ j,seqIndex? i xs.length=some j/\xs[j]? = some v/\j < xs.length/\-(xs.length:Int)<=i/\i < xs.length:=by
 unfold atI at h
 cases e:ixN xs.length i with
 | none=>rw[e] at h; cases h
 | some j =>
  rw[e] at h
  obtain⟨h1,h2,h3,h4⟩:=Ih e
  exact⟨j,h1,h,h2,h3,h4⟩
theorem iz {α:Type} {xs:List α} {j:Nat} {v:α} (h:xs[j]? = some v):atI xs (j:Int)=some v:=by
 have hj:j < xs.length:=(List.getElem?_eq_some_iff.mp h).1
 have e:ixN xs.length (j:Int)=some j:=by
  unfold ixN
  rw[if_pos (by lia),if_pos (by lia)]; simp
 unfold atI; rw[e]; exact h
theorem DY {α:Type} (xs:List α) (v:α):atI (xs++[v]) (-1)=some v:=by
 have hl:(xs++[v]).length=xs.length+1:=by simp
 have e:ixN (xs++[v]).length (-1)=some xs.length:=by
  unfold ixN
  rw[hl,if_neg (by decide),if_pos (by lia)]
  congr 1
  lia
 unfold atI
 rw[e]
 show (xs++[v])[xs.length]? = some v
 simp
noncomputable def HW (b:Expr):Prop:=∀ o i,subscripted b false o i=operate [o,i] (getItem o i)
noncomputable def IxR (X:Cx) (r:R2):Prop :=
 ∀ (value slice:Expr) (pins:List (Addr × Obj)) (s:Shared) (σ:St) (H:Hp) (x y:V) (v u:Value) (Q:VK),Inv X pins σ H s->RelV x v->RelV y u->r x y H Q →
  subscripted slice false v u=operate [v,u] (getItem v u)->wpAny (model X.prog X.w) X.A (subscriptTail value slice v u) (EP X pins σ Q) X.xe s
noncomputable def MtR (X:Cx) (id:String) (r:V->List V->Hp->VK->Prop):Prop :=
 ∀ (pins:List (Addr × Obj)) (s:Shared) (σ:St) (H:Hp) (x:V) (xs:List V) (v:Value) (us:List Value) (Q:VK),Inv X pins σ H s->RelV x v->Vals xs us->r x xs H Q →
  wpAny (model X.prog X.w) X.A (call (.builtin id) (v::us)) (EP X pins σ Q) X.xe s
section
variable {X:Cx} {a b:Expr} {ta tb:TE} {pos:Pos}
theorem IxR.or {r r':R2} (h:IxR X r) (h':IxR X r'):IxR X (fun x y H Q=>r x y H Q∨r' x y H Q):=by
 intro value slice pins s σ H x y v u Q I rx ry q hs
 rcases q with q | q
 ·exact h value slice pins s σ H x y v u Q I rx ry q hs
 ·exact h' value slice pins s σ H x y v u Q I rx ry q hs
theorem MtR.or {id:String} {r r':V->List V->Hp->VK->Prop} (h:MtR X id r) (h':MtR X id r'):MtR X id (fun x xs H Q=>r x xs H Q∨r' x xs H Q):=by
 intro pins s σ H x xs v us Q I rx rs q
 rcases q with q | q
 ·exact h pins s σ H x xs v us Q I rx rs q
 ·exact h' pins s σ H x xs v us Q I rx rs q
theorem aQ {r:R2} (hr:IxR X r) (ha:PE X a ta) (hb:PE X b tb) (hs:HW b):PE X (.Subscript a b pos) (tOp r ta tb):=by
 intro pins s σ H Q I h
 exact Subscript_ (K6 ha hb I h fun v u s2 x y H2 I2 rx ry q=>hr a b pins s2 σ H2 x y v u Q I2 rx ry q (hs _ _))
inductive KC (K:PySem.W.Frag) (x:V) (y:V) (H:Hp) (Q:VK):Prop where
 | mk (p:Addr) (xs:List V) (i:Int) (v:V) (z0:x = .ref p) (z1:y = .int i) (z2:SqL K H p xs) (z3:atI xs i=some v) (z4:Q v H):KC K x y H Q
noncomputable def ik (K:PySem.W.Frag):R2:=fun x y H Q=>KC K x y H Q
inductive KQ (K:PySem.W.Frag) (x:V) (y:V) (H:Hp) (Q:VK):Prop where
 | mk (p:Addr) (xs:List V) (i:Int) (v:V) (z0:x = .ref p) (z1:y = .int i) (z2:SqT K H p xs) (z3:atI xs i=some v) (z4:Q v H):KQ K x y H Q
noncomputable def eO (K:PySem.W.Frag):R2:=fun x y H Q=>KQ K x y H Q
noncomputable def Mi:R2:=fun x y H Q=>∃ z i c,x = .str z/\y = .int i/\z.length<=sizeLine/\atI z.cps.toList i=some c/\Q (.str ⟨#[c]⟩) H
theorem bc:IxR X (ik X.K):=by
 intro value slice pins s σ H x y v u Q I rx ry h hs
 obtain⟨p,xs,i,z,rfl,rfl,hq,he,q⟩:=h
 cases rx
 obtain⟨t,rfl⟩:=ry
 obtain⟨its,r,pl,hz⟩:=I.list hq
 obtain⟨j,h1,h2,h3,h4,h5⟩:=vX he
 obtain⟨w,ew,rw'⟩:=r.get h2
 have hl:=r.length
 have hn:=uJ
 have fin:EP X pins σ Q w s:=⟨z,H,I,rw',q⟩
 by_cases h0:0<=i
 ·have hj:i.toNat=j:=by
   rw[seqIndex_of h0 h5] at h1
   exact Option.some.inj h1
  exact item_listR pl.isList h0 (by lia) (by rw[hj]; simpa using ew) fin hs
 ·have hj:(i+(its.toArray.size:Int)).toNat=j:=by
   rw[seqIndex_neg (by lia) h4] at h1
   rw[List.size_toArray,← hl]
   exact Option.some.inj h1
  exact subscriptTail_builtinR (x:=w) pl.isList.typeIs slot_list_getitem.lookup
   (wpAny_getItem_list_neg (Q:=fun r s'=>r=w/\EP X pins σ Q r s') pl.isList (by lia) (by rw[List.size_toArray] <;> lia) (by lia) (by rw[hj]; simpa using ew) ⟨rfl,fin⟩) hs
theorem bh:IxR X (eO X.K):=by
 intro value slice pins s σ H x y v u Q I rx ry h hs
 obtain⟨p,xs,i,z,rfl,rfl,hq,he,q⟩:=h
 cases rx
 obtain⟨t,rfl⟩:=ry
 obtain⟨its,r,pl,hz⟩:=I.tuple hq
 obtain⟨j,h1,h2,h3,h4,h5⟩:=vX he
 obtain⟨w,ew,rw'⟩:=r.get h2
 have hl:=r.length
 have hn:=uJ
 have fin:EP X pins σ Q w s:=⟨z,H,I,rw',q⟩
 exact subscriptTail_builtinR (x:=w) pl.typeIs slot_tuple_getitem.lookup
  (getItem_tuple (j:=j) (Q:=fun r s'=>r=w/\EP X pins σ Q r s') pl (by lia) (by lia) (by rw[List.size_toArray,← hl]; exact h1) (by simpa using ew) ⟨rfl,fin⟩) hs
theorem JD:IxR X Mi:=by
 intro value slice pins s σ H x y v u Q I rx ry h hs
 obtain⟨z,i,c,rfl,rfl,hz,he,q⟩:=h
 obtain⟨t,rfl⟩:=rx
 obtain⟨t',rfl⟩:=ry
 obtain⟨j,h1,h2,h3,h4,h5⟩:=vX he
 have hl:z.cps.toList.length=z.length:=by simp [Str.length]
 rw[hl] at h1 h4 h5
 have hn:=uJ
 exact tail_any (typeIs_str s z t) slot_str_getitem.lookup (getItem_str (c:=c) (by
  have e1:decide (i < -(2 ^ 63:Int))=false:=decide_eq_false (by lia)
  have e2:decide (i ≥ 2 ^ 63)=false:=decide_eq_false (by lia)
  rw[e1,e2,Bool.or_false]) (by rw[h1]; simpa using h2) ⟨.str ⟨#[c]⟩,H,I.tok _,⟨_,rfl⟩,q⟩) hs
noncomputable def rIx (K:PySem.W.Frag):R2:=fun x y H Q=>ik K x y H Q∨eO K x y H Q∨Mi x y H Q
theorem G8:IxR X (rIx X.K):=bc.or (bh.or JD)
theorem Inv.lst {pins:List (Addr × Obj)} {σ:St} {H:Hp} {s:Shared} {p:Addr} {xs:List V} (I:Inv X pins σ H s) (h:H p=some (.lst xs)) :
  ∃ (its:List Value) (n:Nat),Vals xs its/\s.heap.get? p=some { cls:=.type "list",data:=.seq its.toArray n }/\xs.length<=sizeLine:=by
 obtain⟨z,its,n,r,e⟩:=I.hok p _ h
 exact⟨its,n,r,e,z⟩
theorem uz (lo hi:Option Int) (n:Nat):(sliceBounds lo hi none n).1=((HT.sIx n 0 lo:Nat):Int)/\(sliceBounds lo hi none n).2.1=((HT.sIx n n hi:Nat):Int)/\(sliceBounds lo hi none n).2.2=1:=by
 refine⟨?_,?_,rfl⟩
 ·cases lo with
  | none=>simp [sliceBounds,HT.sIx]
  | some i =>
   simp only[sliceBounds,HT.sIx,Option.getD_none,show (1:Int) > 0 by decide,if_true]
   by_cases h:i < 0
   ·simp only[h,if_true] <;> lia
   ·simp only[h,if_false] <;> lia
 ·cases hi with
  | none=>simp [sliceBounds,HT.sIx]
  | some i =>
   simp only[sliceBounds,HT.sIx,Option.getD_none,show (1:Int) > 0 by decide,if_true]
   by_cases h:i < 0
   ·simp only[h,if_true] <;> lia
   ·simp only[h,if_false] <;> lia
theorem qN (its:List Value) (lo hi:Option Int):slicePick its.toArray lo hi none=((its.drop (HT.sIx its.length 0 lo)).take (HT.sIx its.length its.length hi - HT.sIx its.length 0 lo)).toArray:=by
 obtain⟨h1,h2,h3⟩:=uz lo hi its.toArray.size
 unfold slicePick
 rw[h1,h2,h3]
 simp only[sliceRange_one,pick_run,List.size_toArray] <;> rfl
inductive JS (K:PySem.W.Frag) (x:V) (lo:Option Int) (hi:Option Int) (H:Hp) (Q:VK):Prop where
 | mk (a:Addr) (xs:List V) (z0:x = .ref a) (z1:SqL K H a xs) (z2:∀ p,H p=none->Q (.ref p) (upd H p (.lst (su xs lo hi)))):JS K x lo hi H Q
noncomputable def KZ (K:PySem.W.Frag):V->Option Int->Option Int->Hp->VK->Prop:=fun x lo hi H Q=>JS K x lo hi H Q
theorem wM:SlR X (KZ X.K):=by
 intro pins s σ H x v vl vu lo hi sl Q I rx hs pl pu h
 obtain⟨a,xs,rfl,hx,q⟩:=h
 cases rx
 obtain⟨its,r,ht,hz⟩:=I.list hx
 have hlen:=r.length
 refine⟨"list",_,slot_list_getitem.lookup,ht.isList.typeIs,?_⟩
 refine wpAny_getItem_list_slice ht.isList hs pl pu .none (by simp) ?_ (by rw[List.size_toArray] <;> lia)
 rw[qN,← hlen]
 refine⟨.ref s.heap.objs.size,_,I.laid (t':=s.toks) (o:=.lst (su xs lo hi)) (fun b ob q=>Heap.get?_push_of_some _ q) (Nat.le_refl _) ?_,rfl,q _ (I.hok.fresh (Nat.le_refl _))⟩
 exact⟨Nat.le_trans (nJ xs lo hi) hz,_,0,(r.drop (HT.sIx xs.length 0 lo)).take (HT.sIx xs.length xs.length hi - HT.sIx xs.length 0 lo),Heap.get?_push_size _ rfl⟩
noncomputable def rB:V->Bool
 | .non=>true
 | .bl _=>true
 | .int _=>true
 | .str _=>true
 | _=>false
noncomputable def eqV:V->V->Bool
 | .non,.non=>true
 | .bl a,.bl b=>a == b
 | .bl a,.int b=>(if a then 1 else 0) == b
 | .int a,.bl b=>a == (if b then 1 else 0)
 | .int a,.int b=>a == b
 | .str a,.str b=>a == b
 | _,_=>false
theorem J9 {A:Around} {s:Shared} {y x:V} {u v:Value} (ry:RelV y u) (rx:RelV x v) (fy:rB y=true) (fx:rB x=true):SeqAt.EqAt A s u v (eqV y x):=by
 cases y with
 | non =>
  cases ry
  cases x with
  | non=>cases rx; exact SeqAt.EqAt.same _
  | bl b=>cases rx; exact SeqAt.EqAt.none_bool b
  | int b=>obtain⟨t,rfl⟩:=rx; exact SeqAt.EqAt.none_int b t
  | str b=>obtain⟨t,rfl⟩:=rx; exact SeqAt.EqAt.none_str b t
  | _=>exact absurd (show false=true from fx) Bool.false_ne_true
 | bl a =>
  cases ry
  cases x with
  | non=>cases rx; exact SeqAt.EqAt.bool_none a
  | bl b=>cases rx; exact SeqAt.EqAt.bool_bool a b
  | int b=>obtain⟨t,rfl⟩:=rx; exact SeqAt.EqAt.bool_int a b t
  | str b=>obtain⟨t,rfl⟩:=rx; exact SeqAt.EqAt.bool_str a b t
  | _=>exact absurd (show false=true from fx) Bool.false_ne_true
 | int a =>
  obtain⟨t',rfl⟩:=ry
  cases x with
  | non=>cases rx; exact SeqAt.EqAt.int_none a t'
  | bl b=>cases rx; exact SeqAt.EqAt.int_bool a t' b
  | int b=>obtain⟨t,rfl⟩:=rx; exact SeqAt.EqAt.int_int a t' b t
  | str b=>obtain⟨t,rfl⟩:=rx; exact SeqAt.EqAt.int_str a t' b t
  | _=>exact absurd (show false=true from fx) Bool.false_ne_true
 | str a =>
  obtain⟨t',rfl⟩:=ry
  cases x with
  | non=>cases rx; exact SeqAt.EqAt.str_none a t'
  | bl b=>cases rx; exact SeqAt.EqAt.str_bool a t' b
  | int b=>obtain⟨t,rfl⟩:=rx; exact SeqAt.EqAt.str_int a t' b t
  | str b=>obtain⟨t,rfl⟩:=rx; exact SeqAt.EqAt.str_str a t' b t
  | _=>exact absurd (show false=true from fx) Bool.false_ne_true
 | _=>exact absurd (show false=true from fy) Bool.false_ne_true
noncomputable def eqU (x:V) (u:Value):Bool:=match u with
 | .none=>eqV .non x
 | .bool b=>eqV (.bl b) x
 | .int i _=>eqV (.int i) x
 | .str z _=>eqV (.str z) x
 | _=>false
theorem G7 {x y:V} {u:Value} (r:RelV y u) (f:rB y=true):eqU x u=eqV y x:=by
 cases y with
 | non=>cases r; rfl
 | bl b=>cases r; rfl
 | int i=>obtain⟨t,rfl⟩:=r; rfl
 | str z=>obtain⟨t,rfl⟩:=r; rfl
 | _=>exact absurd (show false=true from f) Bool.false_ne_true
theorem vR {x:V}:∀ {xs:List V} {us:List Value},Vals xs us->xs.all rB=true->us.any (eqU x)=xs.any fun y=>eqV y x
 | _,_,.nil,_=>rfl
 | y::xs,u::us,.cons r t,f=>by
  rw[List.all_cons,Bool.and_eq_true] at f
  rw[List.any_cons,List.any_cons,G7 r f.1,vR t f.2]
theorem qw {A:Around} {s:Shared} {x:V} {v:Value} (rx:RelV x v) (fx:rB x=true):∀ {xs:List V} {us:List Value},Vals xs us->xs.all rB=true->∀ u∈us,SeqAt.EqAt A s u v (eqU x u)
 | _,_,.nil,_=>fun u hu=>by cases hu
 | y::xs,u::us,.cons r t,f=>fun u' hu=>by
  rw[List.all_cons,Bool.and_eq_true] at f
  rcases List.mem_cons.mp hu with rfl | hu
  ·rw[G7 r f.1]; exact J9 r rx f.1 fx
  ·exact qw rx fx t f.2 u' hu
noncomputable def inV (x:V) (xs:List V):Bool:=xs.any fun y=>eqV y x
inductive Mu (K:PySem.W.Frag) (neg:Bool) (x:V) (y:V) (H:Hp) (Q:VK):Prop where
 | mk (p:Addr) (xs:List V) (z0:y = .ref p) (z1:(SqL K H p xs∨SqT K H p xs)) (z2:rB x=true) (z3:xs.all rB=true) (z4:Q (.bl (if neg then !inV x xs else inV x xs)) H):Mu K neg x y H Q
noncomputable def rIn (K:PySem.W.Frag) (neg:Bool):R2:=fun x y H Q=>Mu K neg x y H Q
theorem iZ:OpR X (compareOp .In) (rIn X.K false):=by
 intro pins s σ H x y v u Q I rx ry h
 obtain⟨p,xs,rfl,hq,fx,fs,q⟩:=h
 cases ry
 rcases hq with hq | hq
 ·obtain⟨its,r,pl,hz⟩:=I.list hq
  refine SeqAt.in_listAt (eqU x) pl.isList (fun w hw=>qw rx fx r fs w (by simpa using hw)) ⟨.bl _,H,I,rfl,?_⟩
  rw[show its.toArray.any (eqU x)=its.any (eqU x) by simp,vR r fs]
  exact q
 ·obtain⟨its,r,pl,hz⟩:=I.tuple hq
  refine SeqAt.in_tupleAt (eqU x) pl (fun w hw=>qw rx fx r fs w (by simpa using hw)) ⟨.bl _,H,I,rfl,?_⟩
  rw[show its.toArray.any (eqU x)=its.any (eqU x) by simp,vR r fs]
  exact q
theorem ue:fZ X (.builtin "len") (fun xs H Q=>∃ p ys,xs=[.ref p]/\(SqL X.K H p ys∨SqT X.K H p ys)/\Q (.int ys.length) H):=by
 intro pins s σ H xs us Q I r h
 obtain⟨p,ys,rfl,hq,q⟩:=h
 obtain⟨u,rfl,rx⟩:=vals1 r
 cases rx
 have hn:=uJ
 rcases hq with hq | hq
 ·obtain⟨its,r',pl,hz⟩:=I.list hq
  have hlen:=r'.length
  exact Calls.call_len_list pl.isList (by simp only[List.size_toArray] <;> lia) ⟨.int ys.length,H,I.tok _,⟨s.toks+1,by rw[List.size_toArray,hlen]⟩,q⟩
 ·obtain⟨its,r',pl,hz⟩:=I.tuple hq
  have hlen:=r'.length
  exact len_tuple pl (by simp only[List.size_toArray] <;> lia) ⟨.int ys.length,H,I.tok _,⟨s.toks+1,by rw[List.size_toArray,hlen]⟩,q⟩
theorem fZ.or {f:Value} {r r':List V->Hp->VK->Prop} (h:fZ X f r) (h':fZ X f r'):fZ X f (fun xs H Q=>r xs H Q∨r' xs H Q):=by
 intro pins s σ H xs us Q I rs q
 rcases q with q | q
 ·exact h pins s σ H xs us Q I rs q
 ·exact h' pins s σ H xs us Q I rs q
theorem tU:fZ X (.type "list") (fun xs H Q=>∃ p ys,xs=[.ref p]/\(SqL X.K H p ys∨SqT X.K H p ys)/\∀ l,H l=none->Q (.ref l) (upd H l (.lst ys))):=by
 intro pins s σ H xs us Q I r h
 obtain⟨p,ys,rfl,hq,q⟩:=h
 obtain⟨u,rfl,rx⟩:=vals1 r
 cases rx
 have fin:∀ (its:List Value),Vals ys its->ys.length<=sizeLine->∀ (h':Heap) (c':Nat),(∀ b o',s.heap.get? b=some o'->h'.get? b=some o') →
   h'.get? s.heap.objs.size=some { cls:=.type "list",dict:=none,data:=.seq its.toArray c',slots:=#[] }->EP X pins σ Q (.ref s.heap.objs.size) { s with heap:=h' }:=fun its r' hz h' c' kp e =>
  ⟨.ref s.heap.objs.size,_,I.laid (t':=s.toks) kp (Nat.le_refl _) (show ir X.prog X.w _ h' _ (.lst ys) from ⟨hz,its,c',r',e⟩),rfl,q _ (I.hok.fresh (Nat.le_refl _))⟩
 rcases hq with hq | hq
 ·obtain⟨its,r',pl,hz⟩:=I.list hq
  have hlen:=r'.length
  obtain⟨o,ho,hc,n,hd⟩:=pl.isList
  exact call_list_seq p (.inl rfl) ho hc hd (fun h' c' kp e=>fin its r' hz h' c' kp e) (by simp only[List.size_toArray] <;> lia)
 ·obtain⟨its,r',pl,hz⟩:=I.tuple hq
  have hlen:=r'.length
  obtain⟨o,ho,hc,n,hd⟩:=pl
  exact call_list_seq p (.inr rfl) ho hc hd (fun h' c' kp e=>fin its r' hz h' c' kp e) (by simp only[List.size_toArray] <;> lia)
theorem rC:fZ X (.type "tuple") (fun xs H Q=>∃ p ys,xs=[.ref p]/\((SqL X.K H p ys/\∀ l,H l=none->Q (.ref l) (upd H l (.tup ys)))∨(SqT X.K H p ys/\Q (.ref p) H))):=by
 intro pins s σ H xs us Q I r h
 obtain⟨p,ys,rfl,h⟩:=h
 obtain⟨u,rfl,rx⟩:=vals1 r
 cases rx
 rcases h with⟨hq,q⟩ | ⟨hq,q⟩
 ·obtain⟨its,r',pl,hz⟩:=I.list hq
  have hlen:=r'.length
  refine call_tuple_list pl.isList (fun h' kp=>?_) (by simp only[List.size_toArray] <;> lia)
  have I1:Inv X pins σ H { s with heap:=h' }:=I.kept (t':=s.toks) kp
  have I2:Inv X pins σ (upd H h'.objs.size (.tup ys)) { s with heap:=h'.push { cls:=.type "tuple",data:=.seq its.toArray } } :=
   I1.laid (t':=s.toks) (fun b o e=>Heap.get?_push_of_some _ e) (Nat.le_refl _) (show ir X.prog X.w _ _ _ (.tup ys) from ⟨hz,its,r',IsTup.new _ _⟩)
  exact⟨.ref h'.objs.size,_,I2,rfl,q _ (I1.hok.fresh (Nat.le_refl _))⟩
 ·obtain⟨its,r',pl,hz⟩:=I.tuple hq
  exact call_tuple_same pl ⟨.ref p,H,I,rfl,q⟩
noncomputable def tyV (K:PySem.W.Frag) (T:String) (x:V) (H:Hp):Prop:=match x with
 | .str _=>T = "str"
 | .int _=>T = "int"
 | .ref p=>(T = "list"/\∃ xs,SqL K H p xs)∨(T = "tuple"/\∃ o,K.lookup p=some o/\o.cls = .type "tuple"/\o.dict=none) ∨
   (T = "dict"/\((∃ kvs,H p=some (.dK kvs))∨∃ kvs,H p=some (.dT kvs)))∨(T = "set"/\∃ S n,H p=some (.set S n))
 | _=>False
theorem Kl {pins:List (Addr × Obj)} {σ:St} {H:Hp} {s:Shared} {T:String} {x:V} {v:Value} (I:Inv X pins σ H s) (r:RelV x v) (ty:tyV X.K T x H) :
  s.TypeIs v T/\∀ a,v = .ref a->∃ ob,s.heap.get? a=some ob/\ob.dict=none:=by
 cases x with
 | str z =>
  obtain⟨t,rfl⟩:=r
  cases (show T = "str" from ty)
  exact⟨typeIs_str s z t,fun _ e=>nomatch e⟩
 | int i =>
  obtain⟨t,rfl⟩:=r
  cases (show T = "int" from ty)
  exact⟨typeIs_int s i t,fun _ e=>nomatch e⟩
 | ref p =>
  cases r
  rcases ty with⟨rfl,xs,hq⟩ | ⟨rfl,o,hk,hc,hd⟩ | ⟨rfl,hk⟩ | ⟨rfl,S,n,hk⟩
  ·obtain⟨its,_,pl,_⟩:=I.list hq
   refine⟨pl.isList.typeIs,fun a e=>?_⟩
   cases e
   obtain⟨o,n,e,c,hd,_⟩:=pl
   exact⟨o,e,hd⟩
  ·refine⟨⟨o,I.kIn p o hk,hc⟩,fun a e=>?_⟩
   cases e
   exact⟨o,I.kIn _ o hk,hd⟩
  ·have z:∃ o,s.heap.get? p=some o/\o.ExactDict:=by
    rcases hk with⟨kvs,hk⟩ | ⟨kvs,hk⟩
    ·obtain⟨_,_,_,_,o,_,_,e,ex,_⟩:=I.hok p _ hk
     exact⟨o,e,ex⟩
    ·obtain⟨_,_,_,_,o,_,_,e,ex,_⟩:=I.hok p _ hk
     exact⟨o,e,ex⟩
   obtain⟨o,e,ex⟩:=z
   refine⟨⟨o,e,ex.1⟩,fun a e2=>?_⟩
   cases e2
   exact⟨o,e,ex.2.1⟩
  ·obtain⟨o,_,_,_,e,ex,_⟩:=I.hok p _ hk
   refine⟨⟨o,e,ex.1⟩,fun a e2=>?_⟩
   cases e2
   exact⟨o,e,ex.2.1⟩
 | _=>exact False.elim ty
noncomputable def tBM (K:PySem.W.Frag) (T:String) (r:V->List V->Hp->VK->Prop) (to:TE) (t:TA):TE:=fun σ H Q=>to σ H fun x H1=>tyV K T x H1/\t σ H1 fun xs H2=>r x xs H2 Q
variable {o e:Expr} {es:List Expr} {to:TE} {t:TA} {name:Str} {apos cpos:Pos} {T id:String} {r:V->List V->Hp->VK->Prop}
theorem sZ (pa:PlainAttrs T) (slot:Slot T name id) (hty:typeOf (.builtin id)=pure (.type "method_descriptor")) (hm:MtR X id r) (ho:PE X o to) (ha:PA X (e::es) t)
  (hbase:attributeBase o name X.env (eval o X.env)=eval o X.env:=by rfl)
  (hfew:((backTo cpos (starEach (e::es) X.env)).all (fun x=>!x.1) && (backToKw cpos (keywordEach [] X.env)).all (fun x=>x.1.isSome)
   && decide ((e::es).length+([]:List Keyword).length+(if ([]:List Keyword).isEmpty then 0 else 1) < 30))=true:=by rfl)
  (hline:(apos.endLine == cpos.line)=true:=by rfl) (hs:starEach (e::es) X.env=(false,eval e X.env)::starEach es X.env:=by rfl) (hplain:(backTo cpos (starEach es X.env)).any (·.1)=false:=by rfl) :
  PE X (.Call (.Attribute o name apos) (e::es) [] cpos) (tBM X.K T r to t):=by
 intro pins s σ H Q I h
 refine wpAny_Call_method_late hbase hfew hline rfl (thn (ho pins s σ H _ I h) fun v s1 ⟨x,H1,I1,r1,ty,q1⟩=>?_)
 obtain⟨h1,h2⟩:=Kl I1 r1 ty
 refine⟨T,id,pa,slot,hty,h1,h2,?_⟩
 have hA:=ha cpos pins s1 σ H1 _ I1 q1
 rw[hs] at hA ⊢
 refine Calls.callWith_builtin (by show (false || (backTo cpos (starEach es X.env)).any (·.1))=false; rw[hplain] <;> rfl) (Calls.evalArgs_plain ?_)
 exact thn hA fun us s2 ⟨vs,H2,I2,r2,q2⟩=>hm pins s2 σ H2 x vs v us Q I2 r1 r2 q2
/- xs.append(e),list.index on a module's tuple .. are MtR facts of 06m -/
end
end L2
namespace L2
open PySem PySem.Spec PyProof.Rows
noncomputable def MtM (X:Cx) (id:String) (r:V->List V->Hp->VK->Prop):Prop :=
 ∀ (pins:List (Addr × Obj)) (s:Shared) (σ:St) (H:Hp) (x:V) (xs:List V) (v:Value) (us:List Value) (Q:VK),Inv X pins σ H s->RelV x v->Vals xs us->r x xs H Q →
  wpAny (model X.prog X.w) X.A (call (.builtin id) (v::us)) (EP X pins σ Q) X.xe s
theorem Vals.one:∀ {x:V} {us:List Value},Vals [x] us->∃ u,us=[u]/\RelV x u
 | _,_,.cons r .nil=>⟨_,rfl,r⟩
theorem Vals.two:∀ {x y:V} {us:List Value},Vals [x,y] us->∃ u v,us=[u,v]/\RelV x u/\RelV y v
 | _,_,_,.cons r (.cons q .nil)=>⟨_,_,rfl,r,q⟩
theorem Vals.zero:∀ {us:List Value},Vals [] us->us=[]
 | _,.nil=>rfl
theorem Vals.dropLast {xs:List V} {us:List Value} (h:Vals xs us):Vals xs.dropLast us.dropLast:=by
 induction h with
 | nil=>exact .nil
 | cons r t ih =>
  cases t with
  | nil=>exact .nil
  | cons q t'=>exact .cons r ih
theorem Vals.eraseIdx:∀ {xs:List V} {us:List Value} (i:Nat),Vals xs us->Vals (xs.eraseIdx i) (us.eraseIdx i)
 | _,_,_,.nil=>.nil
 | _,_,0,.cons _ t=>t
 | _,_,i+1,.cons r t=>.cons r (Vals.eraseIdx i t)
theorem Vals.reverse {xs:List V} {us:List Value} (h:Vals xs us):Vals xs.reverse us.reverse:=by
 induction h with
 | nil=>exact .nil
 | cons r t ih=>rw[List.reverse_cons,List.reverse_cons]; exact Vals.append ih (.cons r .nil)
theorem Vals.rep {xs:List V} {us:List Value} (h:Vals xs us):∀ k:Nat,Vals (List.replicate k xs).flatten (List.replicate k us).flatten
 | 0=>.nil
 | k+1=>by
  rw[List.replicate_succ,List.replicate_succ,List.flatten_cons,List.flatten_cons]
  exact Vals.append h (Vals.rep h k)
theorem foldl_rep (its:List Value):∀ (k:Nat) (acc:List Value),
  List.foldl (fun x1 x2=>x1++x2) acc.toArray (List.replicate k its.toArray)=(acc++(List.replicate k its).flatten).toArray
 | 0,acc=>by simp
 | k+1,acc=>by
  have e:acc.toArray++its.toArray=(acc++its).toArray:=by simp
  have e2:(acc++its)++(List.replicate k its).flatten=acc++(List.replicate (k+1) its).flatten:=by
   rw[List.replicate_succ,List.flatten_cons,List.append_assoc]
  rw[← e2,← foldl_rep its k (acc++its),← e,List.replicate_succ,List.foldl_cons]
section
variable {X:Cx} {pins:List (Addr × Obj)} {σ:St} {H:Hp} {s:Shared} {l b:Addr} {xs ys zs:List V}
theorem Inv.M9 {its its':List Value} {n:Nat} {f:Array Value->Array Value} {t':Nat} (I:Inv X pins σ H s) (hH:H l=some (.lst xs))
  (e:s.heap.get? l=some { cls:=.type "list",data:=.seq its.toArray n }) (hf:f its.toArray=its'.toArray) (hv:Vals ys its') (hz:ys.length<=sizeLine) :
  Inv X pins σ (upd H l (.lst ys)) { s with heap:=s.heap.update l (Obj.mapSeq f),toks:=t' }:=by
 have q:=PySem.IsL.update e f
 rw[hf] at q
 refine I.write (x:=l) (e:=l) (by rw[hH]; exact trivial) (.inl rfl) (fun b' u hb hu=>(Heap.get?_update_other s.heap (Obj.mapSeq f) (Ne.symm hb)).trans hu) ⟨_,q⟩ ?_
 exact⟨hz,its',_,hv,q⟩
theorem Inv.K3 {its:List Value} {t':Nat} (I:Inv X pins σ H s) (hv:Vals ys its) (hz:ys.length<=sizeLine) :
  Inv X pins σ (upd H s.heap.objs.size (.lst ys)) { s with heap:=s.heap.push { cls:=.type "list",data:=.seq its.toArray },toks:=t' } :=
 I.laid (fun _ _ q=>Heap.get?_push_of_some _ q) (Nat.le_refl _) ⟨hz,its,0,hv,Heap.get?_push_size _ rfl⟩
theorem Inv.fresh (I:Inv X pins σ H s):H s.heap.objs.size=none:=I.hok.fresh (Nat.le_refl _)
theorem Inv.K1 (I:Inv X pins σ H s) (hH:H l=some (.lst xs)):xs.length<=sizeLine/\∃ (its:List Value) (n:Nat),Vals xs its/\xs.length=its.length/\s.heap.get? l=some { cls:=.type "list",data:=.seq its.toArray n }:=by
 obtain⟨z,its,n,r,e⟩:=I.hok l _ hH
 exact⟨z,its,n,r,r.length,e⟩
theorem Fq {n:Nat} (h:n<=sizeLine):Builtin.List.listTooLong n=false:=by
 unfold Builtin.List.listTooLong
 exact decide_eq_false (by lia)
end
section
variable {X:Cx}
inductive xr (x:V) (vs:List V) (H:Hp) (Q:VK):Prop where
 | mk (l:Addr) (xs:List V) (y:V) (z0:x = .ref l) (z1:vs=[y]) (z2:H l=some (.lst xs)) (z3:xs.length < sizeLine) (z4:Q .non (upd H l (.lst (xs++[y])))):xr  x vs H Q
noncomputable def Hu:V->List V->Hp->VK->Prop:=fun x vs H Q=>xr  x vs H Q
theorem cV:MtM X "list.append" Hu:=by
 intro pins s σ H x vs v us Q I rx rv h
 obtain⟨l,xs,y,rfl,rfl,hH,hz,q⟩:=h
 cases rx
 obtain⟨u,rfl,ru⟩:=rv.one
 obtain⟨z,its,n,r,hl,e⟩:=I.K1 hH
 refine call_meets F.slot_list_append ⟨_,e,rfl⟩ F.entry_list_append (F.args_list_append_2 _ _) (PySem.list_append l its.toArray n u (by rw[List.size_toArray]; lia)) ⟨e,?_⟩
 refine⟨.non,_,I.M9 (its':=its++[u]) hH e (by simp) (r.append (.cons ru .nil)) ?_,rfl,q⟩
 rw[List.length_append,List.length_singleton]
 lia
inductive Kf (x:V) (y:V) (H:Hp) (Q:VK):Prop where
 | mk (l:Addr) (b:Addr) (xs:List V) (zs:List V) (z0:x = .ref l) (z1:y = .ref b) (z2:H l=some (.lst xs)) (z3:H b=some (.lst zs)) (z4:xs.length+zs.length<=sizeLine) (z5:∀ p,H p=none->Q (.ref p) (upd H p (.lst (xs++zs)))):Kf  x y H Q
noncomputable def Ma:R2:=fun x y H Q=>Kf  x y H Q
theorem nY:OpR X (binaryOp .Add) Ma:=by
 intro pins s σ H x y v u Q I rx ry h
 obtain⟨l,b,xs,zs,rfl,rfl,hH,hB,hz,q⟩:=h
 cases rx
 cases ry
 obtain⟨z,its,n,r,hl,e⟩:=I.K1 hH
 obtain⟨z2,its2,n2,r2,hl2,e2⟩:=I.K1 hB
 refine PySem.P.add_list e e2 ?_ (by rw[List.size_toArray,List.size_toArray]; lia)
 have ea:its.toArray++its2.toArray=(its++its2).toArray:=by simp
 rw[ea]
 exact⟨.ref _,_,I.K3 (t':=s.toks) (r.append r2) (by rw[List.length_append]; lia),rfl,q _ I.fresh⟩
noncomputable def MT:R2:=fun x y H Q=>∃ l k xs,x = .ref l/\y = .int k/\H l=some (.lst xs)/\-(2 ^ 63)<=k/\k < 2 ^ 63/\xs.length * k.toNat<=sizeLine ∧
 ∀ p,H p=none->Q (.ref p) (upd H p (.lst (List.replicate k.toNat xs).flatten))
theorem len_rep {α:Type} (xs:List α) (k:Nat):(List.replicate k xs).flatten.length=k * xs.length:=by
 induction k with
 | zero=>simp
 | succ k ih=>rw[List.replicate_succ,List.flatten_cons,List.length_append,ih,Nat.succ_mul,Nat.add_comm]
theorem Kh:OpR X (binaryOp .Mult) MT:=by
 intro pins s σ H x y v u Q I rx ry h
 obtain⟨l,k,xs,rfl,rfl,hH,h1,h2,hz,q⟩:=h
 cases rx
 obtain⟨t,rfl⟩:=ry
 obtain⟨z,its,n,r,hl,e⟩:=I.K1 hH
 have hlen:its.toArray.size * k.toNat<=sizeLine:=by rw[List.size_toArray,← hl]; exact hz
 have hcap:¬ its.toArray.size * k.toNat > (2 ^ 63 - 1) / 8:=by
  have:(sizeLine:Nat)<=(2 ^ 63 - 1) / 8:=by decide
  lia
 have hfit:¬ (!Builtin.List.listFitsIndex k)=true:=by
  rw[fitsIndex_both h1 h2]
  exact Bool.false_ne_true
 have hlong:¬ Builtin.List.listTooLong (its.toArray.size * k.toNat)=true:=by
  rw[Fq hlen]
  exact Bool.false_ne_true
 have hnew:List.foldl (fun x1 x2=>x1++x2) #[] (List.replicate (if its.toArray.isEmpty=true then 0 else k.toNat) its.toArray)=(List.replicate k.toNat its).flatten.toArray:=by
  have f0:∀ m:Nat,List.foldl (fun x1 x2=>x1++x2) #[] (List.replicate m its.toArray)=(List.replicate m its).flatten.toArray:=fun m=>by
   have:=foldl_rep its m []
   rw[List.nil_append] at this
   exact this
  rw[f0]
  cases its with
  | nil=>simp
  | cons a r'=>rw[if_neg (by simp)]
 refine wpAny_binaryOp_repeat_ref (T:="list") (U:="int") (by decide) ⟨_,e,rfl⟩ (fun s'=>typeIs_int s' k t) noFill_list_mul F.fills_int_mul F.slot_int_rmul repeat_list F.slot_int_index.lookup
  (call_meets F.slot_int_rmul (typeIs_int s k t) F.entry_int_rmul (F.args_int_rmul_2 _ _) (int___rmul___int_list k t l its.toArray n)
   ⟨e,rfl,⟨_,e,rfl⟩,call_meets F.slot_list_mul ⟨_,e,rfl⟩ F.entry_list_mul (F.args_list_mul_2 _ _) (AutoListH.list___mul___list_int_3 l its.toArray n k t hfit hcap hlong) ⟨e,?_⟩⟩)
 rw[hnew]
 exact⟨.ref _,_,I.K3 (t':=s.toks) (r.rep k.toNat) (by rw[len_rep,Nat.mul_comm]; exact hz),rfl,q _ I.fresh⟩
end
section
variable {prog:Program} {w:World} {A:Around} {E:Value->Shared->Prop} {s:Shared}
set_option maxRecDepth 100000 in
end
section
variable {X:Cx}
end
end L2
namespace Att
open PySem PySem.W PySem.Calls PyProof.Rows
theorem oR {P:Params} {h:Heap}:∀ (ns:List Int) (vs:List Value),WellAll P h vs (ns.map WData.int)->IntsAre vs ns:=by
 intro ns
 induction ns with
 | nil =>
  intro vs w
  rw[List.map_nil] at w
  cases w
  exact .nil
 | cons n ns ih =>
  intro vs w
  rw[List.map_cons] at w
  cases w with
  | cons a b =>
   cases a
   exact .cons _ _ (ih _ b)
theorem Bl {l:OpenLaw} {n:Nat} (hn:l.most=some n) {P:Params} {h:Heap} {args:List WData} {vals:List Value}
  (hpre:l.row.toRowW.claim.pre args=true) (hwl:WellAll P h vals args) :
  ∃ a vs ns,vals=[Value.ref a]/\args=[WData.list (ns.map WData.int)]/\h.get? a=some { cls:=.type "list",data:=.seq vs.toArray }/\IntsAre vs ns/\ns.length<=n:=by
 have hsh:WShape.hasAll [] args [.list .int]=true:=(pre_splitW hpre).1
 have hc:l.pre.holds [] { args:=args }=true:=(pre_splitW hpre).2
 obtain⟨d,r,rfl,h1,h2⟩:=hasAllW_cons hsh
 obtain rfl:=hasAllW_nil h2
 obtain⟨xs,rfl,h3⟩:=hasW_list h1
 obtain⟨ns,rfl⟩:=items_int h3
 have hlen:ns.length<=n:=by
  unfold OpenLaw.pre at hc
  have h4:(WTm.not (.lt (.lit (.int (n:Int))) (.len (.arg 0)))).holds [] { args:=[.list (ns.map .int)] }=true:=by
   have h4:=(holds_andW hc).1
   rw[hn] at h4
   exact h4
  have h5:=condW_of h4 (w_not (w_lt w_lit (w_len_list (w_arg rfl))))
  rw[List.length_map] at h5
  refine Nat.le_of_not_lt fun q=>?_
  have q':(n:Int) < ((ns.length:Nat):Int):=by lia
  first
   | (rw[decide_eq_true q'] at h5; exact absurd h5 (by decide))
   | (simp at h5; lia)
 cases hwl with
 | cons w1 w2 =>
  cases w2
  cases w1 with
  | list ho hall=>exact⟨_,_,ns,rfl,rfl,ho,oR ns _ hall,hlen⟩
theorem Dp (l:OpenLaw) (args:List WData):l.row.toRowW.claim.post args (.bool true) args=true :=
 postW_of (r:=l.row.toRowW) (X:=(true == true))
  (show WShape.has [] (.bool true) .bool=true by first | rfl | decide | simp [WShape.has,WShape.arms,WShape.armsAll])
  (show (WTm.eq .res (.lit (.bool true))).value [] { args:=args,res:=some (.bool true),after:=args }=some (.bool (true == true)) from w_eq_bool (w_res rfl) w_lit) rfl
theorem wH {l:OpenLaw} {n:Nat} {q:Program} {loose:List Str} {XP:(Str->Option Value)->Heap->Prop} {YP:World->Heap->Prop} {d:DefRec}
  (hn:l.most=some n) (hdf:d.params.defaults=[])
  (call:∀ (w:World) (s₀ s₁:Shared) (mg mb:Str->Option Value) (fa:Addr) (o:Obj) (pm cd doc:Value) (a:Addr) (vs:List Value) (ns:List Int),
   Ground q loose [] XP w s₀ mg mb s₁.heap->YP w s₁.heap →
   s₁.heap.get? fa=some o->o.data = .func (docDef d.name d.params d.body d.scope pm cd doc)->s₁.heap.CodeRec cd d.name->mg d.name=some (.ref fa) →
   s₁.heap.get? a=some { cls:=.type "list",data:=.seq vs.toArray }->IntsAre vs ns->ns.length<=n->s₁.gens = #[] →
   codeAny (model l.prog w) callerA (.call (.ref fa) ⟨[.ref a],[]⟩) (fun r s'=>r = .ok (.ret (.bool true))/\OldK s₁.heap s'.heap/\s'.os=s₁.os/\AllBare s'.gens) s₁) :
  WalkO q loose XP YP l.row.toRowW d [] (fun f vs=>PySem.call f vs):=by
 intro w s₀ s₁ mg mb G Y fa o pm cd doc dV kV ho hd hcd hD hmg hg args vals as hpre hlay hrd hwl hlo
 obtain rfl:dV = .none:=Dflts.none hD hdf
 obtain rfl:kV = .none:=Dflts.noKw hD
 obtain⟨a,vs,ns,rfl,rfl,hobj,hints,hlen⟩:=Bl hn hpre hwl
 refine enter_call (codeAny_mono (call w s₀ s₁ mg mb fa o pm cd doc a vs ns G Y ho (fd_plain hd) hcd hmg hobj hints hlen hg) fun r s' hq=>?_)
 obtain⟨rfl,h2,h3,h4⟩:=hq
 exact⟨.inl ⟨.bool true,.bool true,[],rfl,fun _=>rfl,.bool true,Dp l _,fun _=>⟨List.Pairwise.nil,fun _ hm=>(nomatch hm)⟩⟩,h2,h3,h4⟩
section
variable {prog:Program} {w:World} {A:Around} {E:Value->Shared->Prop} {s:Shared} {K:Frag}
noncomputable def ledger (h:Heap) (L d:Addr):List (Addr × Obj):=(List.range h.objs.size).filterMap fun a=>if a=L∨a=d then none else (h.get? a).map fun o=>(a,o)
end
end Att
namespace L2
open PySem PySem.Spec PyProof.Rows
theorem j0:∀ {vs:List Value} {ns:List Int},IntsAre vs ns->Vals (ns.map V.int) vs
 | _,_,.nil=>.nil
 | _,_,.cons n t h=>.cons ⟨t,rfl⟩ (j0 h)
noncomputable def Only (H:Hp):Prop:=∀ b,H b=none∨∃ o xs,H b=some (.frz o (.lst xs))
theorem En {P:Program} {w:World} {K:PySem.W.Frag} {mg mb:Str->Option Value} {CX:CXT} {k:Nat} {fa a:Addr} {fd:FuncData} {x:Str} {sp:Sp} {s₁:Shared} {vs:List Value} {ns:List Int}
  (KX:K.In s₁.heap) (hns:s₁.heap.Ns mainGlobals mg) (hb:s₁.heap.Ns builtinsNs mb) (hbb:∀ x:Str,x≠"__name__"->mb x=bootBuiltins x) (hlim:s₁.heap.NoLimit) (hg:s₁.gens = #[])
  (ha:s₁.heap.get? a=some { cls:=.type "list",data:=.seq vs.toArray }) (hi:IntsAre vs ns) (hl:ns.length<=sizeLine) (hr:mH k callerA)
  (F:∀ base:Heap,K.In base->base.Ns mainGlobals mg->dz P w K mg base CX k fa fd [x] sp) (hbind:∀ (s:Shared) (u:Value),BindsTo s fd ⟨[u],[]⟩ [(x,u)])
  (hsp:∀ H:Hp,Only H->SqL K H a (ns.map V.int)->sp [.ref a] H (fun v _=>v = .bl true) fun _ _ _=>False)
  (hCX:∀ H e s',CX [] H s₁ (fun _ _ _=>False) e s'->False) :
  codeAny (model P w) callerA (.call (.ref fa) ⟨[.ref a],[]⟩) (fun r s'=>r = .ok (.ret (.bool true))/\OldK s₁.heap s'.heap/\s'.os=s₁.os/\AllBare s'.gens) s₁:=by
 have rv:=j0 hi
 have lenV:=hi.length
 have core:∀ H:Hp,Only H->SqL K H a (ns.map V.int)->HOk P w H s₁.heap->(∀ b,H b≠none->b=a)->(H a≠none->K.lookup a=none) →
   codeAny (model P w) callerA (.call (.ref fa) ⟨[.ref a],[]⟩) (fun r s'=>r = .ok (.ret (.bool true))/\OldK s₁.heap s'.heap/\s'.os=s₁.os/\AllBare s'.gens) s₁:=by
  intro H hO hS hok hA hK
  have base_of:∀ {b:Addr} {o:Obj},s₁.heap.get? b=some o->H b=none->(Gd s₁.heap H).get? b=some o:=fun e n=>Ey e n
  have noA:∀ {b:Addr} {o:Obj} {es:Array DictEntry} {ep:Nat},s₁.heap.get? b=some o->o.data = .dict es ep->H b=none:=fun {b o es ep} e d=>by
   cases q:H b with
   | none=>rfl
   | some u =>
    have e':b=a:=hA b (by rw[q]; simp)
    subst e'
    rw[ha] at e; cases e
    have d':Data.seq vs.toArray _=Data.dict es ep:=d
    cases d'
  have nsK:∀ {b:Addr} {m:Str->Option Value},s₁.heap.Ns b m->(Gd s₁.heap H).Ns b m:=fun {b m} ⟨o,es,ep,e,d,r⟩=>⟨o,es,ep,base_of e (noA e d),d,r⟩
  have hKb:K.In (Gd s₁.heap H):=fun b o e=>base_of (KX b o e) (by
   cases q:H b with
   | none=>rfl
   | some u =>
    have e':b=a:=hA b (by rw[q]; simp)
    subst e'
    rw[hK (by rw[q]; simp)] at e; cases e)
  have hM:Mod K mg (Gd s₁.heap H):=⟨hKb,nsK hns,⟨mb,nsK hb,hbb⟩,let ⟨mc,h1,h2⟩:=hlim; ⟨mc,nsK h1,h2⟩⟩
  have e0:Ir P w K mg (Gd s₁.heap H) callerA [] s₁ H:=⟨rfl,hM,fun b o e=>Il e,Nat.le_of_eq (Cr _ _),trivial,fun b hb=>absurd (show b∈([]:List Addr) from hb) (by simp),hok,.of_eq hg⟩
  refine codeAny_mono ((F _ hKb (nsK hns)).run callerA [] s₁ H ⟨[.ref a],[]⟩ [.ref a] [.ref a] _ _ hr e0 (hbind s₁ (.ref a)) (.cons rfl .nil) (hsp H hO hS)) fun r s' h=>?_
  cases r with
  | error e=>exact (hCX H e s' h).elim
  | ok fl =>
   cases fl with
   | next=>exact False.elim h
   | brk=>exact False.elim h
   | cont=>exact False.elim h
   | ret u =>
    obtain⟨v,H',os,bare,un,hok',r',q⟩:=h
    have q':v = .bl true:=q
    subst q'
    obtain rfl:u=Value.bool true:=r'
    refine⟨rfl,OldK.of_keep fun b o e=>?_,os,bare⟩
    cases q:H b with
    | none=>exact un.keep b o e q (by intro z; exact absurd (show b∈([]:List Addr) from z) (by simp)) (by simp)
    | some u =>
     rcases hO b with z | ⟨ob,xs,z⟩
     ·rw[q] at z; cases z
     ·have z2:=un.frzs b ob _ z
      obtain⟨e1,_⟩:=hok b _ z
      obtain⟨e2,_⟩:=hok' b _ z2
      rw[e] at e1; cases e1
      exact e2
 cases hk:K.lookup a with
 | some o =>
  have e:=KX a o hk
  rw[ha] at e
  cases e
  refine core (fun _=>none) (fun _=>.inl rfl) (.inr ⟨_,vs.toArray,_,hk,rfl,rfl,rfl,by rw[List.size_toArray,lenV]; exact hl,by simpa using rv⟩) (fun b u z=>by have z':(none:Option HO)=some u:=z; cases z') (fun b z=>absurd rfl z) fun z=>absurd rfl z
 | none =>
  refine core (fun b=>if b=a then some (.frz { cls:=.type "list",data:=.seq vs.toArray } (.lst (ns.map V.int))) else none) (fun b=>?_) (.inl (.inr ⟨{ cls:=.type "list",data:=.seq vs.toArray },if_pos rfl⟩)) (fun b u z=>?_) (fun b z=>?_) fun _=>hk
  ·by_cases hb:b=a
   ·exact .inr ⟨_,_,if_pos hb⟩
   ·exact .inl (if_neg hb)
  ·by_cases hb:b=a
   ·have z':=(if_pos hb).symm.trans z
    cases z'
    subst hb
    exact⟨ha,by rw[List.length_map]; exact hl,vs,_,rv,ha⟩
   ·have z':=(if_neg hb).symm.trans z
    cases z'
  ·by_cases hb:b=a
   ·exact hb
   ·exact absurd (if_neg hb) z
end L2
namespace L2
open PySem PySem.Spec PyProof.Rows
theorem Js {l:PySem.W.OpenLaw} {n k:Nat} {q:Program} {loose:List Str} {XP:(Str->Option Value)->Heap->Prop} {YP:World->Heap->Prop} {d:DefRec} {K:Params->PySem.W.Frag} {CX:World->CXT} {sp:World->Sp} {x:Str}
  (hn:l.most=some n) (hn2:n<=sizeLine) (hdf:d.params.defaults=[]) (hr:mH k callerA)
  (hY:∀ (w:World) (h:Heap),YP w h->(K w.params).In h)
  (F:∀ (w:World) (mg:Str->Option Value) (fa:Addr) (h:Heap),(K w.params).In h->h.Ns mainGlobals mg->mg d.name=some (.ref fa) →
   ∃ fd:FuncData,(∀ (s:Shared) (u:Value),BindsTo s fd ⟨[u],[]⟩ [(x,u)]) ∧
    ∀ base:Heap,(K w.params).In base->base.Ns mainGlobals mg->dz l.prog w (K w.params) mg base (CX w) k fa fd [x] (sp w))
  (hsp:∀ (w:World) (H:Hp) (a:Addr) (ns:List Int),ns.length<=n->Only H->SqL (K w.params) H a (ns.map V.int)->sp w [.ref a] H (fun v _=>v = .bl true) fun _ _ _=>False)
  (hCX:∀ (w:World) (H:Hp) (s:Shared) (e:Value) (s':Shared),CX w [] H s (fun _ _ _=>False) e s'->False) :
  PySem.W.WalkO q loose XP YP l.row.toRowW d [] (fun f vs=>PySem.call f vs):=by
 refine Att.wH hn hdf fun w s₀ s₁ mg mb fa o pm cd doc a vs ns G Y ho hd hcd hmg hobj hints hlen hg=>?_
 have KX:=hY w _ Y
 obtain⟨fd,hb,hF⟩:=F w mg fa _ KX G.T.g hmg
 exact En KX G.T.g G.T.b G.T.builtins G.T.nolimit hg hobj hints (Nat.le_trans hlen hn2) hr hF hb (fun H hO hS=>hsp w H a ns hlen hO hS) fun H e s'=>hCX w H s₁ e s'
end L2
namespace L2
open PySem PySem.Spec PyProof.Rows
noncomputable def aW (s:Stmt):Arguments:=match s with
 | .FunctionDef _ a _ _ _ _ _ _ _ _=>a
 | _=>{ posonlyargs:=[],args:=[],vararg:=none,kwonlyargs:=[],kw_defaults:=[],kwarg:=none,defaults:=[] }
noncomputable def aV (s:Stmt):List Stmt:=match s with
 | .FunctionDef _ _ b _ _ _ _ _ _ _=>b
 | _=>[]
noncomputable def aB (s:Stmt):Scope:=match s with
 | .FunctionDef _ _ _ _ _ _ sc _ _ _=>sc
 | _=>{ kind:=.function,names:=[],isGenerator:=false,isCoroutine:=false }
noncomputable abbrev CX0:CXT:=fun _ _ _ _ _ _=>False
noncomputable abbrev E0:XK:=fun _ _ _=>False
theorem LQ {X:Cx}:Passes CX0 X E0:=fun _ _ _ _ _ _ _ h=>h.elim
structure Fun (K:PySem.W.Frag) (x qual:Str) (st:Stmt) (f:Addr) (fd:FuncData):Prop where
 ex:∃ (oc:Value) (od:Option Addr) (kV doc pm:Value) (an:Option Addr) (cdv ct:Value) (osl:Array (Option Value)),
  fd=PySem.W.fnOf x qual (aW st) (aV st) (aB st) .none kV doc pm an cdv ct/\K.lookup f=some ⟨oc,od,.func fd,osl⟩/\PySem.W.codeIn K cdv qual=true
 kp:PySem.W.keepIn K (.ref f)=true
section
variable {P:Program} {w:World} {K:PySem.W.Frag} {mg:Str->Option Value} {base:Heap}
theorem Fun.ok {x qual:Str} {st:Stmt} {f:Addr} {fd:FuncData} {N ps:List Str} {k:Nat} {sp:Sp} (F:Fun K x qual st f fd) (S:aY N ps (aB st)) (len:∀ vs H Q E,sp vs H Q E->vs.length=ps.length)
  (hbody:∀ (cdv:Value) (A:Around) (outer:List Env) (s:Shared) (H:Hp) (vs:List V) (Q:VK) (E:XK),mH k (A.deeper (envOfC qual (aB st) s.heap.objs.size f cdv))->sp vs H Q E →
   ∃ t,PSs (JB CX0 P w K mg base N qual (aB st) f cdv A outer s H E).nox (aV st) t/\t { nx:=fun _ H'=>Q .non H',rt:=Q } (start N vs) H):dz P w K mg base CX0 (k+1) f fd ps sp:=by
 obtain⟨oc,od,kV,doc,pm,an,cdv,ct,osl,rfl,lk,hcd⟩:=F.ex
 refine K9 lk hcd S len fun A outer s H vs Q E hr hsp=>?_
 obtain⟨t,h,q⟩:=hbody cdv A outer s H vs Q E hr hsp
 exact⟨t,h.nox,q⟩
theorem Fun.binds {x qual:Str} {st:Stmt} {f:Addr} {fd:FuncData} {ps:List Str} (F:Fun K x qual st f fd)
  (h:∀ (kV doc pm:Value) (an:Option Addr) (cdv ct:Value) (us:List Value),us.length=ps.length->bindArgs (PySem.W.fnOf x qual (aW st) (aV st) (aB st) .none kV doc pm an cdv ct) ⟨us,[]⟩=pure (ps.zip us)):Binds K fd ps []:=by
 obtain⟨oc,od,kV,doc,pm,an,cdv,ct,osl,rfl,lk,hcd⟩:=F.ex
 exact .all (h kV doc pm an cdv ct)
theorem bD {x qual:Str} {st:Stmt} {f:Addr} {oc:Value} {od an:Option Addr} {osl:Array (Option Value)} {kV doc pm cdv ct:Value} (l:K.lookup f=some ⟨oc,od,.func (PySem.W.fnOf x qual (aW st) (aV st) (aB st) .none kV doc pm an cdv ct),osl⟩)
  (c:PySem.W.codeIn K cdv qual=true) (k:PySem.W.keepIn K (.ref f)=true):Fun K x qual st f (PySem.W.fnOf x qual (aW st) (aV st) (aB st) .none kV doc pm an cdv ct):=⟨⟨oc,od,kV,doc,pm,an,cdv,ct,osl,rfl,l,c⟩,k⟩
end
theorem aG {n:Nat} (h:n<=1000):n < sizeLine:=Nat.lt_of_le_of_lt h (by decide)
section
variable {X:Cx}
theorem pv (i:Nat) {x:Str} {pos:Pos} (hN:X.N[i]? = some x:=by rfl) (hv:Vis X.env.scope x:=by first | exact Or.inl rfl | exact Or.inr (Or.inl rfl) | exact Or.inr (Or.inr rfl)) (hd:(x == ("__debug__" : Str))=false:=by decide)
  (hcd:(x == ("__classdict__" : Str))=false:=by decide):PE X (.Name x pos) (mX i):=Ka hN hv hd hcd
end
theorem gU {A B:Prop} (h:B):if false=true then A else B:=by
 rw[if_neg Bool.false_ne_true]
 exact h
theorem jJ {A B:Prop} (h:A):if true=true then A else B:=by
 rw[if_pos rfl]
 exact h
theorem zQ {c A B:Prop} [Decidable c] (h1:c->A) (h2:¬ c->B):if c then A else B:=by
 by_cases h:c
 ·rw[if_pos h]
  exact h1 h
 ·rw[if_neg h]
  exact h2 h
noncomputable def aN (H H':Hp):Prop:=∀ b o,H b=some o->H' b=some o
theorem aN.refl (H:Hp):aN H H:=fun _ _ h=>h
theorem aN.trans {H H1 H2:Hp} (a:aN H H1) (b:aN H1 H2):aN H H2:=fun c o h=>b c o (a c o h)
theorem aN.free {H H':Hp} (e:aN H H') {l:Addr} (h:H' l=Option.none):H l=Option.none:=by
 cases q:H l with
 | none=>rfl
 | some o =>
  rw[e l o q] at h
  cases h
theorem aN.seq {K:PySem.W.Frag} {H H':Hp} {a:Addr} {xs:List V} (e:aN H H') (h:SqL K H a xs):SqL K H' a xs:=by
 rcases h with (h | ⟨o,h⟩) | h
 ·exact .inl (.inl (e _ _ h))
 ·exact .inl (.inr ⟨o,e _ _ h⟩)
 ·exact .inr h
end L2
set_option maxHeartbeats 4000000
namespace L2
open PySem PySem.Spec PyProof.Rows
theorem An {env:Env}:∀ {names:List (Str × NameKind)} {x:Str},names.lookup x=some .free →
  (names.map fun (n,k)=>if (k == NameKind.free && env.scope.kind == .function && env.kindOf n == some .cell) then (n,NameKind.cell) else (n,k)).lookup x=some .cell ∨
  (names.map fun (n,k)=>if (k == NameKind.free && env.scope.kind == .function && env.kindOf n == some .cell) then (n,NameKind.cell) else (n,k)).lookup x=some .free
 | [],_,h=>by simp at h
 | (n,k)::r,x,h=>by
  have ih:=@An env r x
  rw[List.map_cons]
  cases hx:x == n with
  | true =>
   rw[List.lookup_cons,hx] at h
   cases h
   by_cases hc:(NameKind.free == NameKind.free && env.scope.kind == .function && env.kindOf n == some .cell)=true
   ·refine .inl ?_
    dsimp only
    rw[if_pos hc,List.lookup_cons,hx]
   ·refine .inr ?_
    dsimp only
    rw[if_neg hc,List.lookup_cons,hx]
  | false =>
   rw[List.lookup_cons,hx] at h
   dsimp only
   by_cases hc:(k == NameKind.free && env.scope.kind == .function && env.kindOf n == some .cell)=true
   ·rw[if_pos hc,List.lookup_cons,hx]; exact ih h
   ·rw[if_neg hc,List.lookup_cons,hx]; exact ih h
theorem wJ {env:Env}:∀ {names:List (Str × NameKind)} {x:Str} {k':NameKind},
  (names.map fun (n,k)=>if (k == NameKind.free && env.scope.kind == .function && env.kindOf n == some .cell) then (n,NameKind.cell) else (n,k)).lookup x=some k'->names.lookup x=some k'∨names.lookup x=some .free
 | [],_,_,h=>by simp at h
 | (n,k)::r,x,k',h=>by
  have ih:=@wJ env r x k'
  rw[List.map_cons] at h
  dsimp only at h
  cases hx:x == n with
  | true =>
   rw[List.lookup_cons,hx]
   by_cases hc:(k == NameKind.free && env.scope.kind == .function && env.kindOf n == some .cell)=true
   ·have hk:k = .free:=by
     rw[Bool.and_eq_true,Bool.and_eq_true] at hc
     exact eq_of_beq hc.1.1
    exact .inr (by rw[hk])
   ·rw[if_neg hc,List.lookup_cons,hx] at h
    exact .inl h
  | false =>
   rw[List.lookup_cons,hx]
   by_cases hc:(k == NameKind.free && env.scope.kind == .function && env.kindOf n == some .cell)=true
   ·rw[if_pos hc,List.lookup_cons,hx] at h; exact ih h
   ·rw[if_neg hc,List.lookup_cons,hx] at h; exact ih h
theorem vC {env:Env}:∀ (names:List (Str × NameKind)) (acc:List (Str × Addr)),(∀ y∈names,y.2 = .free->∃ c,env.cells.lookup y.1=some c)->(∀ n c,acc.lookup n=some c->env.cells.lookup n=some c) →
  ∃ cl,(forIn names acc (fun (x:Str × NameKind) (r:List (Str × Addr))=>(match x with | (name,kind)=>if (kind == NameKind.free)=true then (do let c ← cellOf env name; pure (ForInStep.yield ((name,c)::r))) else pure (ForInStep.yield r):Sem (ForInStep (List (Str × Addr))))))=pure cl ∧
   (∀ n c,cl.lookup n=some c->env.cells.lookup n=some c)/\(∀ n c,acc.lookup n=some c->∃ c',cl.lookup n=some c')/\∀ y∈names,y.2 = .free->∃ c,cl.lookup y.1=some c
 | [],acc,_,h=>⟨acc,by rw[List.forIn_nil],h,fun _ c e=>⟨c,e⟩,fun y hy=>by simp at hy⟩
 | (n,k)::r,acc,hf,h=>by
  rw[List.forIn_cons]
  dsimp only
  by_cases hk:(k == NameKind.free)=true
  ·rw[if_pos hk]
   have hk':k = .free:=eq_of_beq hk
   obtain⟨c,hc⟩:=hf (n,k) List.mem_cons_self hk'
   have hc:env.cells.lookup n=some c:=hc
   have ec:cellOf env n=pure c:=by unfold cellOf; rw[hc]
   have h2:∀ m d,((n,c)::acc).lookup m=some d->env.cells.lookup m=some d:=fun m d e=>by
    rw[List.lookup_cons] at e
    cases hx:m == n with
    | true=>rw[hx] at e; cases e; rw[eq_of_beq hx]; exact hc
    | false=>rw[hx] at e; exact h m d e
   obtain⟨cl,e1,e2,e3,e4⟩:=vC r ((n,c)::acc) (fun y hy=>hf y (List.mem_cons_of_mem _ hy)) h2
   refine⟨cl,by rw[ec,pure_bind,pure_bind]; exact e1,e2,fun m d e=>?_,fun y hy hyf=>?_⟩
   ·refine (match hx:m == n with | true=>e3 m c (by rw[List.lookup_cons,hx]) | false=>e3 m d (by rw[List.lookup_cons,hx]; exact e))
   ·rcases List.mem_cons.mp hy with rfl | hy
    ·exact e3 n c (by rw[List.lookup_cons,beq_self_eq_true])
    ·exact e4 y hy hyf
  ·rw[if_neg hk]
   obtain⟨cl,e1,e2,e3,e4⟩:=vC r acc (fun y hy=>hf y (List.mem_cons_of_mem _ hy)) h
   refine⟨cl,by rw[pure_bind]; exact e1,e2,e3,fun y hy hyf=>?_⟩
   rcases List.mem_cons.mp hy with rfl | hy
   ·exact absurd (by rw[show k=NameKind.free from hyf]; rfl) hk
   ·exact e4 y hy hyf
theorem wF {scope:Scope} {env:Env} (h:∀ y∈scope.names,y.2 = .free->∃ c,env.cells.lookup y.1=some c) :
  ∃ cl,closureFor scope env=pure cl/\(∀ n c,cl.lookup n=some c->env.cells.lookup n=some c)/\∀ y∈scope.names,y.2 = .free->∃ c,cl.lookup y.1=some c:=by
 obtain⟨cl,e1,e2,_,e4⟩:=vC scope.names [] h (fun _ _ e=>by simp at e)
 refine⟨cl,?_,e2,e4⟩
 unfold closureFor
 first
  | exact e1
  | (rw[← bind_pure (x:=pure cl),← e1]; rfl)
  | (simp only[bind_pure]; exact e1)
noncomputable def bG (X:Cx) (scope:Scope) (cl:List (Str × Addr)) (C:Addr) (N:List Str) (s:Shared) (H:Hp) (fp:List Addr):Cx :=
 {X with N:=N,s₀:=s,H₀:=H,env:=compEnvC scope cl C X.env,outer:=X.stack,ex:=fp,fn:=fun _=>false,pn:=[],xe:=fun _ _=>False }
structure nF (X:Cx) (scope:Scope) (F:List Str) (cap:List Nat):Prop where
 kind:scope.kind = .function
 cell:∀ y∈scope.names,y.2≠.cell
 nms:∀ y∈scope.names,y.2 = .local->scope.names.lookup y.1=some .local
 fr:∀ y∈scope.names,y.2 = .free->X.env.kindOf y.1=some .cell∨X.env.kindOf y.1=some .free
 len:cap.length=F.length
 at':∀ (k:Nat) (x:Str),F[k]? = some x->∃ i,cap[k]? = some i/\X.N[i]? = some x/\scope.names.lookup x=some .free
noncomputable def PTs (X:Cx) (ifs:List Expr) (t:TT):Prop :=
 ∀ (pins:List (Addr × Obj)) (s:Shared) (σ:St) (H:Hp) (Q:Bool->Hp->Prop),Inv X pins σ H s->t σ H Q →
  wpAny (model X.prog X.w) X.A (forIn ifs true fun c r=>if r=true then do let ok ← isTrue c X.env (eval c X.env); pure (ForInStep.yield ok) else pure (ForInStep.yield r)) (TP X pins σ Q) X.xe s
noncomputable def Fl:TT:=fun _ H Q=>Q true H
theorem bC {X:Cx}:PTs X [] Fl:=fun _ _ _ H _ I h=>wpAny_tests_nil ⟨H,I,h⟩
theorem wg {X:Cx} {c:Expr} {t:TT} (hc:PT X c t):PTs X [c] t:=fun pins s σ H Q I h=>wpAny_tests_one (hc pins s σ H Q I h)
theorem yJ {prog:Program} {w:World} {A:Around} {R:Result->Shared->Prop} {s:Shared} {elt target iter:Expr} {ifs:List Expr} {scope:Scope} {pos:Pos} {it acc:Value} {env:Env} (I:Nat->Shared->Prop)
  (turn:∀ n s,I n s->wpAny (model prog w) A (pyNext it) (fun r s₁=>match r with
   | none=>R (.ok .next) s₁
   | some v=>wpAny (model prog w) A (letOwnedTupleGo target it v) (fun _ s₀=>wpAny (model prog w) A (assign target env v) (fun _ s₂ =>
     wpAny (model prog w) A (forIn ifs true fun c r=>if r=true then do let ok ← isTrue c env (eval c env); pure (ForInStep.yield ok) else pure (ForInStep.yield r)) (fun ok s₃ =>
      if ok=true then wpAny (model prog w) A (eval elt env) (fun x s₄=>wpAny (model prog w) A (call (.builtin "list.append") [acc,x]) (fun _ s₅=>∃ m,m < n/\I m s₅) (fun _ _=>False) s₄) (fun _ _=>False) s₃
      else ∃ m,m < n/\I m s₃) (fun _ _=>False) s₂) (fun _ _=>False) s₀) (fun _ _=>False) s₁) (fun _ _=>False) s)
  (n:Nat) (h:I n s):codeAny (model prog w) A (.compLoop (.ListComp elt [⟨target,iter,ifs,0⟩] scope pos) 0 it acc env) R s:=by
 have no:∀ {E:Value->Shared->Prop} (x:Value) (s':Shared),(fun (_:Value) (_:Shared)=>False) x s'->E x s':=fun _ _ z=>z.elim
 refine codeAny_loop rfl I (fun n s hI=>?_) n h
 refine (show wpAny (model prog w) A ((compTurn (.ListComp elt [⟨target,iter,ifs,0⟩] scope pos) 0 it acc env).onRaise (fun x=>do noteFrame x env; theTreesLotGoes x)) _ _ s from wpAny_noted ?_)
 rw[compTurn_list]
 refine wpAny_bind (wpAny_standAt (wpAny_bind (wpAny_mono (turn n s hI) (fun r s₁ h₁=>?_) no)))
 cases r with
 | none=>exact wpAny_pure h₁
 | some v =>
  refine wpAny_bind (wpAny_mono h₁ (fun _ s₀ h₀=>wpAny_bind (wpAny_mono h₀ (fun _ s₂ h₂=>wpAny_bind (wpAny_mono h₂ (fun ok s₃ h₃=>?_) no)) no)) no)
  cases ok with
  | false=>exact wpAny_pure ⟨rfl,h₃⟩
  | true=>exact wpAny_bind (wpAny_bind (wpAny_mono h₃ (fun x s₄ h₄=>wpAny_bind (wpAny_mono h₄ (fun _ s₅ h₅=>wpAny_pure (wpAny_pure ⟨rfl,h₅⟩)) no)) no))
noncomputable def iC (D:Addr) (σ0:St) (J:It) (g:TG) (tt:TT) (te:TE) (H1:Hp) (Q:Hp->Prop):Prop :=
 ∃ W:Nat->Nat->List V->St->Hp->Prop,(∃ m,W 0 m [] σ0 (upd H1 D (.lst []))) ∧
  ∀ i m ys σ' H',W i m ys σ' H'->H' D=some (.lst ys)/\((J.stop i H'/\Q H')∨(J.go i H'/\∃ N:List V->St->Hp->Prop,(∀ zs σ2 H2,N zs σ2 H2->∃ m',m' < m/\W (i+1) m' zs σ2 H2) ∧
   ∀ x H2,J.yld i H' x H2->g x σ' H2 fun σ3 H3=>tt σ3 H3 fun b H4=>if b=true then te σ3 H4 fun y H5=>H5 D=some (.lst ys)/\ys.length < sizeLine/\N (ys++[y]) σ3 (upd H5 D (.lst (ys++[y]))) else N ys σ3 H4))
noncomputable def G5 (n:Nat) (cap:List Nat) (σ:St):St:=List.replicate n none++cap.map fun i=>(σ[i]?).join
noncomputable def Le (n:Nat) (cap:List Nat) (wi:TI) (g:TG) (tt:TT) (te:TE):TE:=fun σ H Q=>wi σ H fun J H1=>∀ D,H1 D=none->iC D (G5 n cap σ) J g tt te H1 fun H2=>Q (.ref D) H2
section
variable {X:Cx} {elt tg iter:Expr} {ifs:List Expr} {scope:Scope} {pos:Pos} {L F:List Str} {cap:List Nat} {wi:TI} {g:TG} {tt:TT} {te:TE}
theorem vP {pins:List (Addr × Obj)} {σ:St} {H:Hp} {s:Shared} (I:Inv X pins σ H s) {b:Addr} (h1:b≠X.env.locals) (h2:b ∉ X.fs):b ∉ frs X.stack:=fun z=>(List.mem_cons.mp (I.Aw b z)).elim h1 h2
theorem ph {cl:List (Str × Addr)} {pins:List (Addr × Obj)} {σ:St} {H:Hp} {s:Shared} {fp:List Addr} {h₁:Heap} {tk:Nat} (ok:nF X scope F cap) (I:Inv X pins σ H s) (hfp:∀ b∈fp,sG X pins H b/\b < s.heap.objs.size)
  (sub:∀ n c,cl.lookup n=some c->X.env.cells.lookup n=some c) (all:∀ y∈scope.names,y.2 = .free->∃ c,cl.lookup y.1=some c)
  (ns:h₁.Ns s.heap.objs.size fun _=>none) (kp:∀ b o,s.heap.get? b=some o->h₁.get? b=some o) :
  Inv (bG X scope cl s.heap.objs.size (L++F) s H fp) [] (G5 L.length cap σ) H { s with heap:=h₁,toks:=tk }:=by
 have frk:∀ x,scope.names.lookup x=some .free->X.env.kindOf x=some .cell∨X.env.kindOf x=some .free:=fun x e=>ok.fr (x,.free) (PySem.mem_of_lookup e) rfl
 have okX:(bG X scope cl s.heap.objs.size (L++F) s H fp).Ok:=by
  refine⟨I.ok.mod,ok.kind,I.ok.glob,I.ok.blt,Nat.le_refl _,fun x y c e1 e2=>I.ok.inj x y c (sub x c e1) (sub y c e2),fun x hx=>?_,fun x c hx _=>?_,I.ok.hd,I.ok.frames,.inl rfl,fun b hb=>?_,I.bs,Nat.le_trans I.ok.bsz I.sz,fun b o e hb=>?_,fun b hb=>?_,I.stack,I.Av⟩
  ·have e:scope.names.lookup x=some .free:=by
    rcases hx with hx | hx
    ·rcases wJ (env:=X.env) (show _=some NameKind.cell from hx) with e | e
     ·exact absurd rfl (ok.cell _ (PySem.mem_of_lookup e))
     ·exact e
    ·rcases wJ (env:=X.env) (show _=some NameKind.free from hx) with e | e <;> exact e
   exact all (x,.free) (PySem.mem_of_lookup e) rfl
  ·exact absurd (show false=true from hx) Bool.false_ne_true
  ·exact⟨Nat.ne_of_lt (hfp b hb).2,fun x c e=>(hfp b hb).1.2.2.2.2.1 x c (sub x c e)⟩
  ·obtain⟨_,_,_,f3,_⟩:=(hfp b hb).1
   rcases f3 with z | z
   ·exact I.ok.noex b o e z
   ·exact absurd (Nat.lt_of_lt_of_le (Heap.lt_size e) (Nat.le_trans I.ok.bsz z)) (Nat.lt_irrefl _)
  ·obtain⟨_,f1,f2,_⟩:=(hfp b hb).1
   exact vP I f1 f2
 refine⟨okX,rfl,I.bare,Un.kept kp,⟨_,ns,fun i x v e1 e2 e3=>?_⟩,fun x c e=>?_,I.hok.fresh (Nat.le_refl _),fun x c e=>I.freeC x c (sub x c e),fun p hp=>absurd (show p∈([]:List (Addr × Obj)) from hp) (by simp),I.hok.kept kp,?_⟩
 ·have e1:(L++F)[i]? = some x:=e1
  have e2:(List.replicate L.length none++cap.map fun i=>(σ[i]?).join)[i]? = some (some v):=e2
  have hL:¬ i < L.length:=fun hi=>by
   rw[List.getElem?_append_left (by simpa using hi),List.getElem?_replicate] at e2
   split at e2 <;> cases e2
  have hi:L.length<=i:=Nat.le_of_not_lt hL
  rw[List.getElem?_append_right hi] at e1
  rw[List.getElem?_append_right (by simpa using hi),List.length_replicate,List.getElem?_map] at e2
  obtain⟨j,hj,hN,hk⟩:=ok.at' _ _ e1
  rw[hj] at e2
  have e4:(σ[j]?).join=some v:=by simpa using e2
  have e5:σ[j]? = some (some v):=by
   cases q:σ[j]? with
   | none=>rw[q] at e4; cases e4
   | some a=>rw[q] at e4; exact congrArg some e4
  obtain⟨m,hn,hl⟩:=I.loc
  have kd:=frk x hk
  obtain⟨u,r,lk⟩:=hl j x v hN e5 (kd.elim (fun z=>.inr (.inl z)) fun z=>.inr (.inr z))
  obtain⟨c,hc,hcell⟩:∃ c,X.env.cells.lookup x=some c/\s.heap.IsCell c (some u):=by
   rcases lk with⟨z,_⟩ | ⟨_,c,z1,z2⟩
   ·rcases kd with y | y <;> (rw[y] at z; cases z)
   ·exact⟨c,z1,z2⟩
  obtain⟨c',hc'⟩:=all (x,.free) (PySem.mem_of_lookup hk) rfl
  have ec:c'=c:=by
   have:=sub x c' hc'
   rw[hc] at this
   exact (Option.some.inj this).symm
  subst ec
  obtain⟨o,ho,hd⟩:=hcell
  exact⟨u,r,.inr ⟨(An (env:=X.env) hk),c',hc',o,kp _ _ ho,hd⟩⟩
 ·obtain⟨v,o,ho,hd⟩:=I.cell x c (sub x c e)
  exact⟨v,o,kp _ _ ho,hd⟩
 ·show (List.replicate L.length (none:Option V)++cap.map fun i=>(σ[i]?).join).length=(L++F).length
  rw[List.length_append,List.length_append,List.length_replicate,List.length_map,ok.len]
theorem yf {cl:List (Str × Addr)} {pins:List (Addr × Obj)} {σ:St} {s2:Shared} {H2:Hp} {it:Addr} {fp:List Addr} {tn:Nat->Heap->Prop} {J:It} {use:Option (Value->Sem Unit)} {QQ:Value->Shared->Prop} {Z:Hp->Prop} {E:Value->Shared->Prop}
  (hc:X.calm=true) (ok:nF X scope F cap)
  (sub:∀ n c,cl.lookup n=some c->X.env.cells.lookup n=some c) (all:∀ y∈scope.names,y.2 = .free->∃ c,cl.lookup y.1=some c)
  (hg:∀ cl C s H fp,PG (bG X scope cl C (L++F) s H fp) tg g) (ht:∀ cl C s H fp,PTs (bG X scope cl C (L++F) s H fp) ifs tt) (he:∀ cl C s H fp,PE (bG X scope cl C (L++F) s H fp) elt te)
  (I2:Inv X pins σ H2 s2) (T:Turn X.prog X.w X.K tg J fp it tn) (st2:tn 0 s2.heap) (f2:∀ b∈fp,sG X pins H2 b)
  (q2:iC s2.heap.objs.size (G5 L.length cap σ) J g tt te H2 Z)
  (fin:∀ (C:Addr) (s':Shared) (H':Hp),Z H'->Inv X pins σ H' s'->(∃ m,s'.heap.Ns C m)->H' C=none->C≠X.env.locals->X.s₀.heap.objs.size<=C->(∀ x c,X.env.cells.lookup x=some c->c≠C)->(∀ p∈X.pn++pins,p.1≠C) →
   compPost (model X.prog X.w) X.A E use QQ (.ref s2.heap.objs.size) C (.ok .next) s') :
  wpAny (model X.prog X.w) X.A (newList []) (fun acc s₃=>wpAny (model X.prog X.w) X.A (newFunctionEnv scope X.env.globals cl [] X.env.qual none .none (some X.env)) (fun cenv s₄ =>
   codeAny (model X.prog X.w) X.A (.compStart (.ListComp elt [⟨tg,iter,ifs,0⟩] scope pos) 0 (.ref it) acc { cenv with scope:=relabel scope X.env }) (compPost (model X.prog X.w) X.A E use QQ acc cenv.locals) s₄) E s₃) E s2:=by
 have hD:H2 s2.heap.objs.size=none:=I2.fresh
 refine wpAny_newObj_type (wpAny_newFunctionEnv ok.cell (by intro y hy; simp at hy) (fun h₁ hns₁ hsb₁=>?_) ok.kind)
 dsimp only at hns₁ hsb₁ ⊢
 have I3:Inv X pins σ (upd H2 s2.heap.objs.size (.lst [])) { s2 with heap:=s2.heap.push { cls:=.type "list",data:=.seq ([]:List Value).toArray } }:=I2.K3 (t':=s2.toks) (ys:=[]) (its:=[]) .nil (Nat.zero_le _)
 have blt:∀ b∈fp,b < s2.heap.objs.size:=fun b hb=>let ⟨_,e,_⟩:=T.obj 0 _ st2 b hb; Heap.lt_size e
 have szC:(s2.heap.push { cls:=.type "list",data:=.seq ([]:List Value).toArray }).objs.size=s2.heap.objs.size+1:=Heap.size_push _ _
 generalize hs3:({ s2 with heap:=s2.heap.push { cls:=.type "list",data:=.seq ([]:List Value).toArray } }:Shared)=s3 at I3
 have es3:s3.heap=s2.heap.push { cls:=.type "list",data:=.seq ([]:List Value).toArray }:=by rw[← hs3]
 have eos:s3.os=s2.os:=by rw[← hs3]
 have fok:∀ b∈fp,sG X pins (upd H2 s2.heap.objs.size (.lst [])) b/\b < s3.heap.objs.size:=fun b hb=>by
  obtain⟨f0,fr⟩:=f2 b hb
  refine⟨⟨by rw[cj (Nat.ne_of_lt (blt b hb))]; exact f0,fr⟩,?_⟩
  rw[es3,szC]
  exact Nat.lt_succ_of_lt (blt b hb)
 have hkp:∀ b o,s3.heap.get? b=some o->h₁.get? b=some o:=fun b o e=>by
  have e':b < s3.heap.objs.size:=Heap.lt_size e
  rw[es3] at e e'
  exact (hsb₁.2 b (Nat.ne_of_lt e')).trans (Heap.get?_push_of_some _ e)
 have hns:h₁.Ns s3.heap.objs.size fun _=>none:=by
  rw[es3]
  exact hns₁
 have I4:∀ tk,Inv (bG X scope cl s3.heap.objs.size (L++F) s3 (upd H2 s2.heap.objs.size (.lst [])) fp) [] (G5 L.length cap σ) (upd H2 s2.heap.objs.size (.lst [])) { s3 with heap:=h₁,toks:=tk }:=fun tk =>
  ph (L:=L) ok I3 fok sub all hns hkp
 have stat:∀ {H':Hp},(∀ b∈fp,H' b=none)->∀ b∈fp,sG (bG X scope cl s3.heap.objs.size (L++F) s3 (upd H2 s2.heap.objs.size (.lst [])) fp) [] H' b:=fun {H'} hn b hb=>by
  obtain⟨⟨_,g1,g2,g3,g4,g5⟩,g6⟩:=fok b hb
  exact⟨hn b hb,Nat.ne_of_lt g6,vP I3 g1 g2,.inl hb,fun x c e=>g4 x c (sub x c e),fun p hp=>absurd (show p∈([]:List (Addr × Obj)) from hp) (by simp)⟩
 have loop:∀ tk,codeAny (model X.prog X.w) X.A (.compLoop (.ListComp elt [⟨tg,iter,ifs,0⟩] scope pos) 0 (.ref it) (.ref s2.heap.objs.size) (compEnvC scope cl s3.heap.objs.size X.env))
   (compPost (model X.prog X.w) X.A E use QQ (.ref s2.heap.objs.size) s3.heap.objs.size) { s3 with heap:=h₁,toks:=tk }:=fun tk=>by
  obtain⟨W,⟨m0,w0⟩,turn⟩:=q2
  have st3:tn 0 h₁:=T.keep 0 _ _ st2 fun b hb o e=>hkp b o (by rw[es3]; exact Heap.get?_push_of_some _ e)
  refine yJ (fun n s'=>∃ i ys σ' H',Inv (bG X scope cl s3.heap.objs.size (L++F) s3 (upd H2 s2.heap.objs.size (.lst [])) fp) [] σ' H' s'/\tn i s'.heap/\(∀ b∈fp,H' b=none)/\W i n ys σ' H') ?_ m0
   ⟨0,[],_,_,I4 tk,st3,fun b hb=>(fok b hb).1.1,w0⟩
  rintro n s5 ⟨i,ys,σ5,H5,I5,st5,fr5,w5⟩
  obtain⟨hDl,alt⟩:=turn i n ys σ5 H5 w5
  rcases alt with⟨stop,qz⟩ | ⟨go,N,hN,step⟩
  ·refine thn (T.done (bG X scope cl s3.heap.objs.size (L++F) s3 (upd H2 s2.heap.objs.size (.lst [])) fp) rfl rfl rfl hc i [] s5 σ5 H5 _ I5 (stat fr5) st5 stop) fun r s6 ⟨hr,I6⟩=>?_
   subst hr
   have un:Un (frs X.stack) fp H2 H5 s2.heap s6.heap:=by
    have u1:Un (frs X.stack) fp H2 (upd H2 s2.heap.objs.size (.lst [])) s2.heap s3.heap:=by
     rw[es3]
     exact Un.laid (fun _ _ q=>Heap.get?_push_of_some _ q) (Nat.le_refl _) hD
    exact u1.trans I6.base
   have J1:Inv X pins σ H5 s6:=I2.call' (I6.os.trans eos) un I6.hok I6.bare fun b hb=>by
    obtain⟨_,g1,_,g3,g4,g5⟩:=f2 b hb
    exact⟨g3,g1,g4,g5⟩
   have hC:s2.heap.objs.size<=s3.heap.objs.size:=by rw[es3,szC]; exact Nat.le_succ _
   obtain⟨m,hm,_⟩:=I6.loc
   refine fin s3.heap.objs.size s6 H5 qz J1 ⟨m,hm⟩ I6.free (Nat.ne_of_gt (Nat.lt_of_lt_of_le I2.lt hC)) (Nat.le_trans I2.sz hC) (fun x c e z=>?_) (fun p hp z=>?_)
   ·obtain⟨v,q⟩:=I2.cell x c e
    exact absurd (Nat.lt_of_lt_of_le q.lt (by rw[z]; exact hC)) (Nat.lt_irrefl _)
   ·exact absurd (Nat.lt_of_lt_of_le (Heap.lt_size (I2.pin p hp).1) (by rw[z]; exact hC)) (Nat.lt_irrefl _)
  ·refine thn (T.item (bG X scope cl s3.heap.objs.size (L++F) s3 (upd H2 s2.heap.objs.size (.lst [])) fp) rfl rfl rfl hc i [] s5 σ5 H5 _ I5 (stat fr5) st5 go) fun r s6 ⟨u,hr,h6⟩=>?_
   subst hr
   refine thn h6 fun _ s7 ⟨x,H7,I7,r7,y7,st7,fr7⟩=>?_
   have I7':=I7.pinned (stat fr7) (T.obj _ _ st7)
   refine thn (hg _ _ _ _ _ _ s7 σ5 H7 x u _ I7' r7 (step x H7 y7)) fun _ s8 ⟨σ8,H8,I8,q8⟩=>?_
   have again:∀ {σ9:St} {H9:Hp} {s9:Shared} {zs:List V},Inv (bG X scope cl s3.heap.objs.size (L++F) s3 (upd H2 s2.heap.objs.size (.lst [])) fp) ([]++lX fp s7.heap) σ9 H9 s9->N zs σ9 H9 →
     ∃ m,m < n/\∃ i ys σ' H',Inv (bG X scope cl s3.heap.objs.size (L++F) s3 (upd H2 s2.heap.objs.size (.lst [])) fp) [] σ' H' s9/\tn i s9.heap/\(∀ b∈fp,H' b=none)/\W i m ys σ' H':=fun {σ9 H9 s9 zs} I9 n9=>by
    obtain⟨m',hm,w9⟩:=hN zs σ9 H9 n9
    refine⟨m',hm,i+1,zs,σ9,H9,I9.jf,T.keep _ _ _ st7 fun b hb o e=>(I9.pin (b,o) (List.mem_append_right _ (List.mem_append_right _ (cZ hb e)))).1,fun b hb=>?_,w9⟩
    obtain⟨o,e,d⟩:=T.obj _ _ st7 b hb
    exact (I9.pin (b,o) (List.mem_append_right _ (List.mem_append_right _ (cZ hb e)))).2.1
   refine thn (ht _ _ _ _ _ _ s8 σ8 H8 _ I8 q8) fun okb s9 ⟨H9,I9,q9⟩=>?_
   cases okb with
   | false =>
    rw[if_neg Bool.false_ne_true] at q9 ⊢
    exact again I9 q9
   | true =>
    rw[if_pos rfl] at q9 ⊢
    refine thn (he _ _ _ _ _ _ s9 σ8 H9 _ I9 q9) fun y s10 ⟨yv,H10,I10,r10,e10,z10,n10⟩=>?_
    refine thn (cV _ s10 σ8 H10 (.ref s2.heap.objs.size) [yv] (.ref s2.heap.objs.size) [y] (fun _ H'=>N (ys++[yv]) σ8 H') I10 rfl (.cons r10 .nil) ⟨_,ys,yv,rfl,rfl,e10,z10,n10⟩) fun _ s11 ⟨_,H11,I11,_,n11⟩=>?_
    exact again I11 n11
 have eC:(s2.heap.push { cls:=.type "list",data:=.seq ([]:List Value).toArray }).objs.size=s3.heap.objs.size:=by rw[es3]
 have goal:∀ tk,codeAny (model X.prog X.w) X.A (.compStart (.ListComp elt [⟨tg,iter,ifs,0⟩] scope pos) 0 (.ref it) (.ref s2.heap.objs.size) (compEnvC scope cl s3.heap.objs.size X.env))
   (compPost (model X.prog X.w) X.A E use QQ (.ref s2.heap.objs.size) s3.heap.objs.size) { s3 with heap:=h₁,toks:=tk }:=fun tk =>
  codeAny_compStart_list (loop tk) (T.self _ 0 _ _ _ (T.keep 0 _ _ st2 fun b hb o e=>hkp b o (by rw[es3]; exact Heap.get?_push_of_some _ e)) (loop tk))
 have g0:=goal (s2.toks+([]:List (Str × Value)).length)
 subst hs3
 exact g0
theorem bH (hc:X.calm=true) (ok:nF X scope F cap) (hi:PI X tg iter wi)
  (hg:∀ cl C s H fp,PG (bG X scope cl C (L++F) s H fp) tg g) (ht:∀ cl C s H fp,PTs (bG X scope cl C (L++F) s H fp) ifs tt) (he:∀ cl C s H fp,PE (bG X scope cl C (L++F) s H fp) elt te)
  (hs:∀ x,foldedSetIterable iter X.env x=pure x:=by intro _; rfl):PE X (.ListComp elt [⟨tg,iter,ifs,0⟩] scope pos) (Le L.length cap wi g tt te):=by
 intro pins s σ H Q I h
 obtain⟨cl,e1,e2,e3⟩:=wF (scope:=scope) (env:=X.env) (fun y hy hf=>I.ok.has _ (ok.fr y hy hf))
 rw[eval_ListComp]
 refine wpAny_comprehension_free (use:=none) rfl hs e1 ok.kind ok.nms (thn (hi pins s σ H _ I h) fun v s1 h1=>thn h1 fun itv s2 h2=>?_)
 obtain⟨it,fp,tn,J,H2,e,I2,T,st2,f2,q2⟩:=h2
 subst e
 refine yf (Z:=fun H'=>Q (.ref s2.heap.objs.size) H') hc ok e2 e3 hg ht he I2 T st2 f2 (q2 _ I2.fresh) fun C s' H' z J m hCf hCl hCs hCc hCp=>?_
 ·obtain⟨m,hm⟩:=m
  exact⟨m,hm,fun h' hs'=>⟨.ref _,H',J.turned (t':=s'.toks) (fun b o hb e=>(hs'.2 b hb).trans e) hCf hCl (.inr hCs) hCc hCp,rfl,z⟩⟩
noncomputable def JM (n:Nat) (cap:List Nat) (wi:TI) (g:TG) (tt:TT) (te:TE) (j:Nat):TS:=fun D σ H=>wi σ H fun J H1=>∀ d,H1 d=none->iC d (G5 n cap σ) J g tt te H1 fun H2=>D.nx (σ.set j (some (.ref d))) H2
theorem oE {j:Nat} {y:Str} {py spos:Pos} (hN:X.N.Nodup) (hj:X.N[j]? = some y) (hy:Loc X.env.scope y) (hc:X.calm=true) (ok:nF X scope F cap) (hi:PI X tg iter wi)
  (hg:∀ cl C s H fp,PG (bG X scope cl C (L++F) s H fp) tg g) (ht:∀ cl C s H fp,PTs (bG X scope cl C (L++F) s H fp) ifs tt) (he:∀ cl C s H fp,PE (bG X scope cl C (L++F) s H fp) elt te)
  (hsw:swapsWith (.ListComp elt [⟨tg,iter,ifs,0⟩] scope pos) (some (.Name y py)) spos.line X.env=pure true:=by rfl)
  (hs:∀ x,foldedSetIterable iter X.env x=pure x:=by intro _; rfl) (hf:X.fn y=true∨X.env.scope.names.lookup y=some .local:=by first | exact .inl rfl | exact .inr rfl | assumption) :
  PS X (.Assign [.Name y py] (.ListComp elt [⟨tg,iter,ifs,0⟩] scope pos) spos) (JM L.length cap wi g tt te j):=by
 intro pins s σ H D I h
 obtain⟨cl,e1,e2,e3⟩:=wF (scope:=scope) (env:=X.env) (fun y hy hf=>I.ok.has _ (ok.fr y hy hf))
 rw[exec_Assign_Name_used _ _ _ _ hsw]
 refine wpAny_bind (wpAny_standAt (wpAny_bind ?_))
 show wpAny (model X.prog X.w) X.A (do let _ ← comprehension (.ListComp elt [⟨tg,iter,ifs,0⟩] scope pos) scope X.env _ (newList []) false (eval iter X.env) (some (assign (.Name y py) X.env))) _ _ s
 refine wpAny_bind (wpAny_mono (wpAny_comprehension_free (use:=some (assign (.Name y py) X.env)) (Q:=fun _ s'=>SP X pins D .next s') rfl hs e1 ok.kind ok.nms
  (thn (hi pins s σ H _ I h) fun v s1 h1=>thn h1 fun itv s2 h2=>?_)) (fun _ s' hq=>wpAny_pure (wpAny_pure hq)) fun _ _ e=>e)
 obtain⟨it,fp,tn,J,H2,e,I2,T,st2,f2,q2⟩:=h2
 subst e
 refine yf (Z:=fun H'=>D.nx (σ.set j (some (.ref s2.heap.objs.size))) H') hc ok e2 e3 hg ht he I2 T st2 f2 (q2 _ I2.fresh) fun C s' H' z J m hCf hCl hCs hCc hCp=>?_
 obtain⟨m,hm⟩:=m
 refine wpAny_assign_Name (nG J hN hj hy (v:=.ref s2.heap.objs.size) rfl (fun s5 I5 hs5=>?_) hf)
 obtain⟨a,sb,ha⟩:=hs5
 have hne:C≠a:=by
  rcases ha with rfl | ha
  ·exact hCl
  ·exact Ne.symm (hCc y a ha)
 exact⟨m,hm.sameBut sb hne,fun h' hs'=>⟨_,H',I5.turned (t':=s5.toks) (fun b o hb e=>(hs'.2 b hb).trans e) hCf hCl (.inr hCs) hCc hCp,z⟩⟩
end
end L2
namespace L2
open PySem PySem.Spec PyProof.Rows
structure Df (P:Program) (w:World) (K:PySem.W.Frag) (mg:Str->Option Value) (base:Heap) (x:Str) (k:Nat) (ps:List Str) (sp:Sp):Prop where
 ex:∃ (f:Addr) (fd:FuncData),dz P w K mg base CX0 k f fd ps sp/\mg x=some (.ref f)/\PySem.W.keepIn K (.ref f)=true/\Binds K fd ps []
section
variable {X:Cx} {k j:Nat} {x:Str} {ps:List Str} {sp:Sp} {p pos:Pos} {e:Expr} {es:List Expr} {t:TA}
theorem bA (D:Df X.prog X.w X.K X.mg X.base x k ps sp) (hr:mH j X.A) (ha:PA X (e::es) t) (hk:k<=j:=by first | decide | exact Nat.le_refl _ | lia) (hg:Gl X x:=by rfl)
  (hdb:(x == ("__debug__" : Str))=false:=by decide) (he:starEach (e::es) X.env=(false,eval e X.env)::starEach es X.env:=by rfl) (hpl:(backTo pos (starEach es X.env)).any (·.1)=false:=by rfl) :
  PE X (.Call (.Name x p) (e::es) [] pos) (yI sp [] E0 t):=by
 obtain⟨f,fd,F,hm,hkp,hb⟩:=D.ex
 exact Ia F (hr.mono hk) hg hm hkp hb .nil LQ ha hdb he hpl
theorem o4 {T:String} (hm:X.mg x=none) (hv:bootBuiltins x=some (.type T)) (hg:Gl X x:=by rfl) (hn:x≠"__name__":=by decide) (hd:(x == ("__debug__" : Str))=false:=by decide):PE X (.Name x pos) (tC (.ty T)):=HF hg hm hv rfl hn hd
inductive KD (K:W.Frag) (xs:List V) (H:Hp) (Q:VK):Prop where
 | mk (x:V) (T:String) (t:Value) (b:Bool) (z0:xs=[x,.ty T]) (z1:zH K H x t) (z2:W.kitOne K t (.type T)=some b) (z3:Q (.bl b) H):KD K xs H Q
noncomputable def Ay (K:W.Frag):List V->Hp->VK->Prop:=fun xs H Q=>KD K xs H Q
theorem d9:fZ X (.builtin "isinstance") (Ay X.K):=by
 intro pins s σ H xs us Q I r h
 obtain⟨x,T,t,b,rfl,ty,e,q⟩:=h
 obtain⟨u,v,rfl,ru,rv⟩:=vals2 r
 cases (show v=Value.type T from rv)
 exact De I ru ty e fun tk=>⟨.bl b,H,I.tok tk,rfl,q⟩
noncomputable def vh (K:W.Frag):List V->Hp->VK->Prop:=fun xs H Q=>∃ (p:Addr) (ys:List V),xs=[.ref p]/\(SqL K H p ys∨SqT K H p ys)/\Q (.int ys.length) H
theorem bU:fZ X (.builtin "len") (vh X.K):=ue
noncomputable def rQ (K:W.Frag):List V->Hp->VK->Prop:=fun xs H Q=>∃ (p:Addr) (ys:List V),xs=[.ref p]/\(SqL K H p ys∨SqT K H p ys)/\∀ l,H l=none->Q (.ref l) (upd H l (.lst ys))
theorem lG:fZ X (.type "list") (rQ X.K):=tU
noncomputable def gC (K:W.Frag):List V->Hp->VK->Prop:=fun xs H Q=>∃ (p:Addr) (ys:List V),xs=[.ref p]/\((SqL K H p ys/\∀ l,H l=none->Q (.ref l) (upd H l (.tup ys)))∨(SqT K H p ys/\Q (.ref p) H))
theorem bJ:fZ X (.type "tuple") (gC X.K):=rC
theorem jz:∀ bs:List Bool,(List.range bs.length).all (fun i=>bs.getD i true)=bs.all fun b=>b
 | []=>rfl
 | b::r=>by
  have ih:=jz r
  rw[List.length_cons,List.range_succ_eq_map,List.all_cons,List.all_map,List.all_cons,← ih]
  rfl
inductive Gi (K:W.Frag) (xs:List V) (H:Hp) (Q:VK):Prop where
 | mk (p:Addr) (bs:List Bool) (z0:xs=[.ref p]) (z1:SqL K H p (bs.map V.bl)) (z2:Q (.bl (bs.all fun b=>b)) H):Gi K xs H Q
noncomputable def Eb (K:W.Frag):List V->Hp->VK->Prop:=fun xs H Q=>Gi K xs H Q
theorem mY (hc:X.calm=true):fZ X (.builtin "all") (Eb X.K):=by
 intro pins s σ H xs us Q I r h
 obtain⟨p,bs,rfl,hq,q⟩:=h
 obtain⟨u,rfl,ru⟩:=vals1 r
 cases ru
 obtain⟨its,rv,pl,hz⟩:=I.list hq
 have hlen:bs.length=its.length:=by simpa using rv.length
 refine call_all_walk (wpAny_pyIter_list pl.isList ?_)
 have I1:Inv X pins σ H { s with heap:=s.heap.push { cls:=.type "list_iterator",data:=.fields #[.ref p,.int 0 0] } }:=I.kept (t':=s.toks) fun b o e=>Heap.get?_push_of_some _ e
 have hne:p≠s.heap.objs.size:=by
  obtain⟨o,ho,_⟩:=pl.isList
  exact Nat.ne_of_lt (Heap.lt_size ho)
 refine⟨s.heap.objs.size,_,_,_,_,_,fun i=>bs.getD i true,rfl,Walks.list (A:=X.A.in1) (I.ok.hd hc) s.heap.objs.size p hne its.toArray,⟨⟨_,Heap.get?_push_size _ rfl,rfl,rfl⟩,?_⟩,?_,fun h' tk hk=>?_⟩
 ·obtain⟨o,ho,hr⟩:=pl.isList
  exact⟨o,Heap.get?_push_of_some _ ho,hr⟩
 ·intro i v s' Q' E' hP hQ
  have hP:its[i]? = some v:=by simpa using hP
  have hi:i < bs.length:=by
   rw[hlen]
   exact (List.getElem?_eq_some_iff.mp hP).1
  obtain⟨u',hu',ru'⟩:=rv.get (i:=i) (x:=V.bl bs[i]) (by rw[List.getElem?_map,List.getElem?_eq_getElem hi]; rfl)
  rw[hP] at hu'
  cases hu'
  cases (show v=Value.bool bs[i] from ru')
  refine wpAny_truthy_bool ?_
  have eg:bs.getD i true=bs[i]:=by rw[List.getD_eq_getElem?_getD,List.getElem?_eq_getElem hi]; rfl
  have hQ':Q' (bs.getD i true) s':=hQ
  rw[eg] at hQ'
  exact hQ'
 ·have f:=I.DQ (b:=s.heap.objs.size) (H':=H) (Nat.le_refl _) I.fresh
  have eall:(List.range its.toArray.size).all (fun i=>bs.getD i true)=bs.all fun b=>b:=by
   have el:its.toArray.size=bs.length:=by rw[List.size_toArray,hlen]
   rw[el]
   exact jz bs
  rw[eall]
  exact⟨.bl _,H,I1.turned (t':=tk) (it:=s.heap.objs.size) (fun b o hb e=>hk b o (by simpa using hb) e) f.1 f.2.1 f.2.2.2.1 f.2.2.2.2.1 f.2.2.2.2.2,rfl,q⟩
end
end L2
namespace L2
open PySem PySem.Spec PyProof.Rows
noncomputable def Ao (osc:Scope) (oN:List Str) (sc:Scope) (F:List Str) (cap:List Nat):Bool :=
 decide (sc.kind = .function) && sc.names.all (fun y=>!decide (y.2 = .cell)) && sc.names.all (fun y=>!decide (y.2 = .local) || decide (sc.names.lookup y.1=some .local)) &&
 sc.names.all (fun y=>!decide (y.2 = .free) || decide (osc.names.lookup y.1=some .cell) || decide (osc.names.lookup y.1=some .free)) && decide (cap.length=F.length) &&
 (List.range F.length).all fun k=>(decide (F[k]? = none) || decide ((cap[k]?.bind fun i=>oN[i]?)=F[k]?)) && decide ((F[k]?.bind fun x=>sc.names.lookup x)=some .free)
theorem bx {X:Cx} {osc sc:Scope} {oN F:List Str} {cap:List Nat} (ho:X.env.scope=osc) (hN:X.N=oN) (h:Ao osc oN sc F cap=true):nF X sc F cap:=by
 unfold Ao at h
 simp only[Bool.and_eq_true] at h
 obtain⟨⟨⟨⟨⟨h1,h2⟩,h3⟩,h4⟩,h5⟩,h6⟩:=h
 refine⟨of_decide_eq_true h1,fun y hy e=>?_,fun y hy e=>?_,fun y hy e=>?_,of_decide_eq_true h5,fun k x e=>?_⟩
 ·have:=List.all_eq_true.mp h2 y hy
  rw[e] at this
  exact absurd this (by decide)
 ·have:=List.all_eq_true.mp h3 y hy
  rw[decide_eq_true e] at this
  exact of_decide_eq_true (by simpa using this)
 ·have:=List.all_eq_true.mp h4 y hy
  rw[decide_eq_true e] at this
  have z:decide (osc.names.lookup y.1=some .cell)=true∨decide (osc.names.lookup y.1=some .free)=true:=by
   rw[Bool.not_true,Bool.false_or,Bool.or_eq_true] at this
   exact this
  show X.env.scope.names.lookup y.1=_∨X.env.scope.names.lookup y.1=_
  rw[ho]
  exact z.elim (fun q=>.inl (of_decide_eq_true q)) fun q=>.inr (of_decide_eq_true q)
 ·have hk:k < F.length:=(List.getElem?_eq_some_iff.mp e).1
  have q:=List.all_eq_true.mp h6 k (List.mem_range.mpr hk)
  rw[e,Bool.and_eq_true] at q
  obtain⟨q1,q2⟩:=q
  have q1:(cap[k]?.bind fun i=>oN[i]?)=some x:=by
   rw[Bool.or_eq_true] at q1
   rcases q1 with z | z
   ·exact absurd (of_decide_eq_true z) (by simp)
   ·exact of_decide_eq_true z
  have q2:sc.names.lookup x=some .free:=of_decide_eq_true q2
  cases hc:cap[k]? with
  | none=>rw[hc] at q1; cases q1
  | some i =>
   rw[hc] at q1
   exact⟨i,rfl,by rw[hN]; exact q1,q2⟩
theorem aZ {X:Cx} {scope:Scope} {cl:List (Str × Addr)} {C:Addr} {N:List Str} {s:Shared} {H:Hp} {fp:List Addr} (h:N.Nodup):(bG X scope cl C N s H fp).N.Nodup:=h
section
variable {K:W.Frag} {a D:Addr} {xs:List V} {g:TG} {tt:TT} {te:TE} {H1:Hp} {Q:Hp->Prop} {σ0:St}
theorem dw (Pv:Nat->List V->St->Hp->Prop) (h0:Pv 0 [] σ0 (upd H1 D (.lst []))) (hl:∀ i ys σ H,i<=xs.length->Pv i ys σ H->SqT K H a xs/\H D=some (.lst ys))
  (hs:∀ i ys x σ H,xs[i]? = some x->Pv i ys σ H->g x σ H fun σ3 H3=>tt σ3 H3 fun b H4=>if b=true then te σ3 H4 fun y H5=>H5 D=some (.lst ys)/\ys.length < sizeLine/\Pv (i+1) (ys++[y]) σ3 (upd H5 D (.lst (ys++[y]))) else Pv (i+1) ys σ3 H4)
  (hd:∀ ys σ H,Pv xs.length ys σ H->Q H):iC D σ0 (Itt K a) g tt te H1 Q:=by
 refine⟨fun i m ys σ H=>m=xs.length - i/\i<=xs.length/\Pv i ys σ H,⟨xs.length,by simp,Nat.zero_le _,h0⟩,?_⟩
 rintro i m ys σ H ⟨rfl,hi,p⟩
 obtain⟨q,qD⟩:=hl i ys σ H hi p
 refine⟨qD,?_⟩
 by_cases hlt:i < xs.length
 ·refine .inr ⟨⟨xs,xs[i],q,by simp [hlt]⟩,Pv (i+1),fun zs σ' H' p'=>⟨xs.length - (i+1),by lia,rfl,hlt,p'⟩,fun x H' y=>?_⟩
  obtain⟨e,y⟩:=y
  subst e
  exact hs i ys x σ _ (y xs q) p
 ·have e:i=xs.length:=by lia
  subst e
  exact .inl ⟨⟨xs,q,Nat.le_refl _⟩,hd ys σ H p⟩
theorem cM (Pv:Nat->List V->St->Hp->Prop) (h0:Pv 0 [] σ0 (upd H1 D (.lst []))) (hl:∀ i ys σ H,i<=xs.length->Pv i ys σ H->SqL K H a xs/\H D=some (.lst ys))
  (hs:∀ i ys x σ H,xs[i]? = some x->Pv i ys σ H->g x σ H fun σ3 H3=>tt σ3 H3 fun b H4=>if b=true then te σ3 H4 fun y H5=>H5 D=some (.lst ys)/\ys.length < sizeLine/\Pv (i+1) (ys++[y]) σ3 (upd H5 D (.lst (ys++[y]))) else Pv (i+1) ys σ3 H4)
  (hd:∀ ys σ H,Pv xs.length ys σ H->Q H):iC D σ0 (Itl K a) g tt te H1 Q:=by
 refine⟨fun i m ys σ H=>m=xs.length - i/\i<=xs.length/\Pv i ys σ H,⟨xs.length,by simp,Nat.zero_le _,h0⟩,?_⟩
 rintro i m ys σ H ⟨rfl,hi,p⟩
 obtain⟨q,qD⟩:=hl i ys σ H hi p
 refine⟨qD,?_⟩
 by_cases hlt:i < xs.length
 ·refine .inr ⟨⟨xs,xs[i],q,by simp [hlt]⟩,Pv (i+1),fun zs σ' H' p'=>⟨xs.length - (i+1),by lia,rfl,hlt,p'⟩,fun x H' y=>?_⟩
  obtain⟨e,y⟩:=y
  subst e
  exact hs i ys x σ _ (y xs q) p
 ·have e:i=xs.length:=by lia
  subst e
  exact .inl ⟨⟨xs,q,Nat.le_refl _⟩,hd ys σ H p⟩
theorem dh {lo:Int} {n:Nat} (Pv:Nat->List V->St->Hp->Prop) (h0:Pv 0 [] σ0 (upd H1 D (.lst []))) (hl:∀ i ys σ H,i<=n->Pv i ys σ H->H D=some (.lst ys))
  (hs:∀ i ys σ H,i < n->Pv i ys σ H->g (.int (lo+i)) σ H fun σ3 H3=>tt σ3 H3 fun b H4=>if b=true then te σ3 H4 fun y H5=>H5 D=some (.lst ys)/\ys.length < sizeLine/\Pv (i+1) (ys++[y]) σ3 (upd H5 D (.lst (ys++[y]))) else Pv (i+1) ys σ3 H4)
  (hd:∀ ys σ H,Pv n ys σ H->Q H):iC D σ0 (Itr lo n) g tt te H1 Q:=by
 refine⟨fun i m ys σ H=>m=n - i/\i<=n/\Pv i ys σ H,⟨n,by simp,Nat.zero_le _,h0⟩,?_⟩
 rintro i m ys σ H ⟨rfl,hi,p⟩
 refine⟨hl i ys σ H hi p,?_⟩
 by_cases hlt:i < n
 ·refine .inr ⟨hlt,Pv (i+1),fun zs σ' H' p'=>⟨n - (i+1),by lia,rfl,hlt,p'⟩,fun x H' y=>?_⟩
  obtain⟨e,y⟩:=y
  subst e y
  exact hs i ys σ _ hlt p
 ·have e:i=n:=by lia
  subst e
  exact .inl ⟨Nat.le_refl _,hd ys σ H p⟩
end
structure Bt (mg:Str->Option Value):Prop where
 len_:mg "len" = none
 range_:mg "range" = none
 all_:mg "all" = none
 isinstance_:mg "isinstance" = none
 int_:mg "int" = none
 bool_:mg "bool" = none
 str_:mg "str" = none
 list_:mg "list" = none
 tuple_:mg "tuple" = none
 abs_:mg "abs" = none
 max_:mg "max" = none
 min_:mg "min" = none
 sum_:mg "sum" = none
 sorted_:mg "sorted" = none
 zip_:mg "zip" = none
 reversed_:mg "reversed" = none
 divmod_:mg "divmod" = none
 set_:mg "set" = none
 any_:mg "any" = none
 enumerate_:mg "enumerate" = none
theorem gh:bootBuiltins "len" = some (.builtin "len"):=PySem.boot_len
theorem Dh:bootBuiltins "all" = some (.builtin "all"):=by decide+kernel
theorem bK:bootBuiltins "isinstance" = some (.builtin "isinstance"):=by decide+kernel
theorem xR:bootBuiltins "abs" = some (.builtin "abs"):=by decide+kernel
theorem nH:bootBuiltins "max" = some (.builtin "max"):=by decide+kernel
theorem KH:bootBuiltins "min" = some (.builtin "min"):=by decide+kernel
theorem Bx:bootBuiltins "sum" = some (.builtin "sum"):=by decide+kernel
theorem xG:bootBuiltins "int" = some (.type "int"):=by decide+kernel
theorem CT:bootBuiltins "bool" = some (.type "bool"):=by decide+kernel
theorem Hj:bootBuiltins "str" = some (.type "str"):=by decide+kernel
theorem oJ:bootBuiltins "list" = some (.type "list"):=by decide+kernel
theorem cI:bootBuiltins "tuple" = some (.type "tuple"):=by decide+kernel
theorem oY (K:W.Frag) (T:String):W.kitOne K (.type T) (.type T)=some true:=by
 unfold PySem.W.kitOne
 rw[if_pos (beq_self_eq_true _)]
theorem nq (K:W.Frag):W.kitOne K (.type "int") (.type "bool")=some false:=by kernel_rfl
theorem m6 (K:W.Frag):W.kitOne K (.type "bool") (.type "int")=some true:=by kernel_rfl
theorem zK (K:W.Frag):W.kitOne K (.type "int") (.type "str")=some false:=by kernel_rfl
theorem wj (K:W.Frag):W.kitOne K (.type "bool") (.type "str")=some false:=by kernel_rfl
theorem uf (K:W.Frag):W.kitOne K (.type "tuple") (.type "str")=some false:=by kernel_rfl
theorem wO (K:W.Frag):W.kitOne K (.type "list") (.type "str")=some false:=by kernel_rfl
theorem uI (K:W.Frag):W.kitOne K (.type "tuple") (.type "int")=some false:=by kernel_rfl
theorem vD (K:W.Frag):W.kitOne K (.type "list") (.type "int")=some false:=by kernel_rfl
theorem jZ (K:W.Frag):W.kitOne K (.type "tuple") (.type "list")=some false:=by kernel_rfl
theorem jP (K:W.Frag):W.kitOne K (.type "list") (.type "tuple")=some false:=by kernel_rfl
end L2
namespace L2
open PySem PySem.Spec PyProof.Rows
inductive Dm where
 | non | bl (b:Bool) | int (i:Int) | str (x:Str) | tup (ds:List Dm) | lst (ds:List Dm)
mutual
noncomputable def Dm.dep:Dm->Nat
 | .tup ds=>yN ds+1
 | .lst ds=>yN ds+1
 | _=>0
noncomputable def yN:List Dm->Nat
 | []=>0
 | d::r=>max d.dep (yN r)
end
mutual
inductive Rep (H:Hp):V->Dm->Prop where
 | non:Rep H .non .non
 | bl (b:Bool):Rep H (.bl b) (.bl b)
 | int (i:Int):Rep H (.int i) (.int i)
 | str (x:Str):Rep H (.str x) (.str x)
 | tup {a:Addr} {xs:List V} {ds:List Dm}:H a=some (.tup xs)->xs.length<=100000->sE H xs ds->Rep H (.ref a) (.tup ds)
 | lst {a:Addr} {xs:List V} {ds:List Dm}:H a=some (.lst xs)->xs.length<=100000->sE H xs ds->Rep H (.ref a) (.lst ds)
inductive sE (H:Hp):List V->List Dm->Prop where
 | nil:sE H [] []
 | cons {v:V} {d:Dm} {vs:List V} {ds:List Dm}:Rep H v d->sE H vs ds->sE H (v::vs) (d::ds)
end
mutual
theorem Rep.mono {H H':Hp} (e:aN H H'):∀ {v:V} {d:Dm},Rep H v d->Rep H' v d
 | _,_,.non=>.non
 | _,_,.bl b=>.bl b
 | _,_,.int i=>.int i
 | _,_,.str x=>.str x
 | _,_,.tup h l r=>.tup (e _ _ h) l (sE.mono e r)
 | _,_,.lst h l r=>.lst (e _ _ h) l (sE.mono e r)
theorem sE.mono {H H':Hp} (e:aN H H'):∀ {vs:List V} {ds:List Dm},sE H vs ds->sE H' vs ds
 | _,_,.nil=>.nil
 | _,_,.cons h r=>.cons (Rep.mono e h) (sE.mono e r)
end
theorem sE.length {H:Hp}:∀ {vs:List V} {ds:List Dm},sE H vs ds->vs.length=ds.length
 | _,_,.nil=>rfl
 | _,_,.cons _ r=>by rw[List.length_cons,List.length_cons,sE.length r]
theorem sE.get {H:Hp}:∀ {vs:List V} {ds:List Dm} {i:Nat},sE H vs ds->i < vs.length->∃ v d,vs[i]? = some v/\ds[i]? = some d/\Rep H v d
 | _,_,_,.nil,h=>absurd h (Nat.not_lt_zero _)
 | _,_,0,.cons h _,_=>⟨_,_,rfl,rfl,h⟩
 | _,_,i+1,.cons _ r,h=>by
  obtain⟨v,d,e1,e2,e3⟩:=sE.get (i:=i) r (Nat.lt_of_succ_lt_succ h)
  exact⟨v,d,by simpa using e1,by simpa using e2,e3⟩
theorem qW:∀ {ds:List Dm} {i:Nat} {d:Dm},ds[i]? = some d->d.dep<=yN ds
 | [],_,_,h=>by simp at h
 | d::r,0,_,h=>by
  cases (show some d=some _ from h)
  rw[yN]
  exact Nat.le_max_left _ _
 | d::r,i+1,_,h=>by
  rw[yN]
  exact Nat.le_trans (qW (i:=i) (ds:=r) (by simpa using h)) (Nat.le_max_right _ _)
theorem mZ {H:Hp}:∀ ns:List Int,sE H (ns.map V.int) (ns.map Dm.int)
 | []=>.nil
 | n::r=>.cons (.int n) (mZ r)
section
variable {X:Cx}
inductive J7 (K:W.Frag) (x:V) (y:V) (H:Hp) (Q:VK):Prop where
 | mk (a b:Addr) (xs:List V) (z0:x = .ref a) (z1:y = .ref b) (z2:SqL K H a xs) (z3:SqL K H b []) (z4:Q (.bl xs.isEmpty) H):J7 K x y H Q
noncomputable def Li (K:W.Frag):R2:=fun x y H Q=>J7 K x y H Q
theorem Gx (hu:X.A.units < cLine):OpR X (compareOp .Eq) (Li X.K):=by
 intro pins s σ H x y v u Q I rx ry h
 obtain⟨a,b,xs,rfl,rfl,ha,hb,q⟩:=h
 cases rx
 cases ry
 obtain⟨its,r1,p1,_⟩:=I.list ha
 obtain⟨its2,r2,p2,_⟩:=I.list hb
 cases r2
 cases r1 with
 | nil=>exact SeqAt.eq_listAt (e:=fun _=>true) p1.isList p2.isList rfl hu (fun j h1 _=>absurd h1 (by simp)) ⟨.bl true,H,I,rfl,q⟩
 | cons r t=>exact SeqAt.eq_list_lengthsAt p1.isList p2.isList (by simp) hu ⟨.bl false,H,I,rfl,q⟩
inductive Kq (K:W.Frag) (x:V) (y:V) (H:Hp) (Q:VK):Prop where
 | mk (a b:Addr) (xs:List V) (z0:x = .ref a) (z1:y = .ref b) (z2:SqL K H a xs) (z3:SqL K H b []) (z4:Q (.bl (!xs.isEmpty)) H):Kq K x y H Q
noncomputable def Mv (K:W.Frag):R2:=fun x y H Q=>Kq K x y H Q
theorem Kp (hu:X.A.units < cLine):OpR X (compareOp .NotEq) (Mv X.K):=by
 intro pins s σ H x y v u Q I rx ry h
 obtain⟨a,b,xs,rfl,rfl,ha,hb,q⟩:=h
 cases rx
 cases ry
 obtain⟨its,r1,p1,_⟩:=I.list ha
 obtain⟨its2,r2,p2,_⟩:=I.list hb
 cases r2
 cases r1 with
 | nil=>exact SeqAt.RcNeAt.lists (e:=fun _=>true) p1.isList p2.isList rfl hu (fun j h1 _=>absurd h1 (by simp)) X.prog X.w X.xe _ ⟨.bl false,H,I,rfl,q⟩
 | cons r t=>exact SeqAt.RcNeAt.lists_lengths p1.isList p2.isList (by simp) hu X.prog X.w X.xe _ ⟨.bl true,H,I,rfl,q⟩
end
end L2
namespace L2
open PySem PySem.Spec PyProof.Rows
section
variable {prog:Program} {w:World} {A:Around} {E:Value->Shared->Prop} {s:Shared}
theorem vZ {it t:Addr} {i:Nat} {its:Array Value} {x:Value} {Q:Value->Shared->Prop} (j:s.heap.IsTupleIter it t i) (ht:s.heap.IsTuple t its) (hx:its[i]? = some x)
  (k:∀ h',h'.IsTupleIter it t (i+1)->Heap.SameBut it s.heap h'->Q x { s with heap:=h' }):wpAny (model prog w) A (Builtin.SmallTypes.nextOf (.ref it)) Q E s:=by
 obtain⟨o,e1,c1,d1⟩:=id j; obtain⟨o2,e2,_,n2,d2⟩:=ht; unfold Builtin.SmallTypes.nextOf
 refine wpAny_bind (wpAny_callSpecial?_slot (name:=Str.ofString "__next__") j.typeIs F.slot_tuple_iterator_next (wpAny_call_entry F.slot_tuple_iterator_next j.typeIs F.entry_tuple_iterator_next ?_ (F.args_tuple_iterator_next_1 _)))
 show wpAny _ _ (field (.ref it) 0 >>= _) _ _ s; refine wpAny_bind (wpAny_field e1 d1 (x:=.ref t) rfl ?_)
 show wpAny _ _ (if (Value.ref t == Value.none)=true then _ else _) _ _ s; rw[if_neg (show ¬ ((Value.ref t == Value.none)=true) from Bool.false_ne_true)]
 show wpAny _ _ (field (.ref it) 1 >>= _) _ _ s; refine wpAny_bind (wpAny_field e1 d1 (x:=.int i 0) rfl ?_)
 show wpAny _ _ (seqItems? (.ref t) >>= _) _ _ s; refine wpAny_bind (wpAny_seqItems e2 d2 ?_); simp only[Int.toNat_natCast,hx]
 refine wpAny_bind (wpAny_setField e1 d1 (by simp) (wpAny_pure ⟨x,rfl,wpAny_pure (k _ ?_ (Heap.SameBut.update ..))⟩))
 exact⟨_,Heap.get?_update_self _ e1 (Obj.isFreed_of_fields (Obj.data_mapFields d1 _)),(Obj.cls_mapFields ..).trans c1,by rw[Obj.data_mapFields d1]; simp [rawInt]⟩
theorem Hh {it t:Addr} {i:Nat} {its:Array Value} {Q:Value->Shared->Prop} (hh:A.handled=none) (j:s.heap.IsTupleIter it t i) (ht:s.heap.IsTuple t its) (hx:its[i]? = none)
  (k:∀ h' e,Heap.ExtBut it s.heap h'->(∃ o,h'.get? e=some o/\o.cls = .type "StopIteration")->E (.ref e) { s with heap:=h' }):wpAny (model prog w) A (Builtin.SmallTypes.nextOf (.ref it)) Q E s:=by
 obtain⟨o,e1,c1,d1⟩:=id j; obtain⟨o2,e2,_,n2,d2⟩:=ht; unfold Builtin.SmallTypes.nextOf
 refine wpAny_bind (wpAny_callSpecial?_slot (name:=Str.ofString "__next__") j.typeIs F.slot_tuple_iterator_next (wpAny_call_entry F.slot_tuple_iterator_next j.typeIs F.entry_tuple_iterator_next ?_ (F.args_tuple_iterator_next_1 _)))
 show wpAny _ _ (field (.ref it) 0 >>= _) _ _ s; refine wpAny_bind (wpAny_field e1 d1 (x:=.ref t) rfl ?_)
 show wpAny _ _ (if (Value.ref t == Value.none)=true then _ else _) _ _ s; rw[if_neg (show ¬ ((Value.ref t == Value.none)=true) from Bool.false_ne_true)]
 show wpAny _ _ (field (.ref it) 1 >>= _) _ _ s; refine wpAny_bind (wpAny_field e1 d1 (x:=.int i 0) rfl ?_)
 show wpAny _ _ (seqItems? (.ref t) >>= _) _ _ s; refine wpAny_bind (wpAny_seqItems e2 d2 ?_); simp only[Int.toNat_natCast,hx]
 refine wpAny_bind (wpAny_rule (wpAny_bind (wpAny_setField e1 d1 (by simp) ?_))); show wpAny _ _ (newExc (.type "StopIteration") [] >>= _) _ _ _
 refine wpAny_bind ?_; simp only[newExc,newTuple]; refine wpAny_bind (wpAny_newObj_type ?_ (by size_fits))
 refine wpAny_bind (m:=firstArgMember _ _) (wpAny_of_eq (a:=Value.none) (by first | rfl | (simp only[firstArgMember]; rfl)) ?_); refine wpAny_newObj_type ?_ (by size_fits)
 simp only[raiseNew]; refine wpAny_bind (wpAny_handled ?_); first | rw[show A.in1.handled=none from hh] | rw[hh]
 refine wpAny_bind (wpAny_pure (wpAny_throw ?_)); exact k _ _ (((Heap.SameBut.update ..).extBut.push _).push _) ⟨_,Heap.get?_push_size _ rfl,rfl⟩
structure Zap (z p q i1 i2 l1 l2:Addr):Prop where
 pz:p≠z
 qz:q≠z
 az:i1≠z
 bz:i2≠z
 pq:p≠q
 pa:p≠i1
 pb:p≠i2
 qa:q≠i1
 qb:q≠i2
 ab:i1≠i2
 xz:l1≠z
 xq:l1≠q
 xa:l1≠i1
 xb:l1≠i2
 yz:l2≠z
 yq:l2≠q
 ya:l2≠i1
 yb:l2≠i2
theorem yx {h h':Heap} {a t:Addr} {its:Array Value} (ht:h.IsTuple t its) (sb:Heap.SameBut a h h') (ne:t≠a):h'.IsTuple t its:=by
 obtain⟨o,e,r⟩:=ht
 exact⟨o,(sb.2 t ne).trans e,r⟩
theorem nM {h h':Heap} {a it t:Addr} {i:Nat} (ht:h.IsTupleIter it t i) (sb:Heap.SameBut a h h') (ne:it≠a):h'.IsTupleIter it t i:=by
 obtain⟨o,e,r⟩:=ht
 exact⟨o,(sb.2 it ne).trans e,r⟩
noncomputable abbrev zA (h:Heap) (t:Addr):Heap:=h.push { cls:=.type "tuple_iterator",data:=.fields #[.ref t,.int 0 0] }
end
theorem Inv.lF {X:Cx} {pins:List (Addr × Obj)} {σ:St} {H:Hp} {s:Shared} {h':Heap} {t':Nat} {ch:List Addr} (I:Inv X pins σ H s) (k:∀ b o,b ∉ ch->s.heap.get? b=some o->h'.get? b=some o) (hf:∀ b∈ch,sG X pins H b) :
  Inv X pins σ H { s with heap:=h',toks:=t' }:=by
 have nit:∀ b u,H b=some u->b ∉ ch:=fun b u e z=>by
  have:=(hf b z).1
  rw[this] at e; cases e
 refine I.step (g':=s.gens) (d':=s.drawn) (ch:=ch) (fun b hb=>let ⟨_,f1,_,f3,f4,f5⟩:=hf b hb; ⟨f3,f1,f4,f5⟩) (fun b o _ _ hc e _=>k b o hc e) (fun b o _ _ hc e _=>⟨o.slots,k b o hc e⟩) (fun _ _ _ _ n=>n)
  (fun b o hc e=>⟨o,k b o hc e⟩) (fun _ _ e=>e) (fun _ _ _ e=>e) (fun b ps e=>⟨#[],by rw[e]; simp⟩) (fun m hm=>?_) (fun b u e=>?_) I.bare
 ·obtain⟨o,es,ep,ho,r⟩:=hm
  exact⟨o,es,ep,k _ o (fun z=>(hf _ z).2.1 rfl) ho,r⟩
 ·refine (I.hok b u e).stay (fun c v hc q=>k c v ?_ q) (fun _ q=>q) fun _ _ q=>q
  rcases hc with z | z
  ·rw[z]; exact nit b u e
  ·exact nit c _ z
theorem Ii {n c d:Nat} (hc:c < n) (hd:d < n):Zap (n+4) (n+2) (n+3) n (n+1) c d:=by
 constructor <;> (refine (fun (h:¬ @Eq Nat _ _)=>h) ?_) <;> lia
end L2
namespace L2
open PySem PySem.Spec PyProof.Rows
theorem jR:∀ ns ms:List Int,((List.range (min ns.length ms.length)).all (fun j=>ns.getD j 0 == ms.getD j 0) && ns.length == ms.length)=decide (ns=ms)
 | [],[]=>rfl
 | [],m::ms=>by rw[decide_eq_false (by simp)]; rfl
 | n::ns,[]=>by rw[decide_eq_false (by simp)]; rfl
 | n::ns,m::ms=>by
  have ih:=jR ns ms
  have e:min (n::ns).length (m::ms).length=min ns.length ms.length+1:=by rw[List.length_cons,List.length_cons]; lia
  have el:((n::ns).length == (m::ms).length)=(ns.length == ms.length):=by simp
  have e3:decide (n::ns=m::ms)=(n == m && decide (ns=ms)):=by
   by_cases h1:n=m
   ·subst h1
    by_cases h2:ns=ms
    ·subst h2; simp
    ·simp [h2]
   ·simp [h1]
  rw[e,List.range_succ_eq_map,List.all_cons,List.all_map,el,e3,← ih,Bool.and_assoc]
  rfl
theorem dF {X:Cx} {pos:Pos} {K:W.Frag} {es:List Expr} {k:Nat} {t:TGs} (n:Nat) (hK:X.K=K) (hc:X.calm=true) (h:PGs X es t)
  (hn:(assignEach es X.env).length=n:=by rfl) (hst:(assignEach es X.env).findIdx? (·.1)=none:=by rfl):PG X (.Tuple es k pos) (Mq K n t):=by
 subst hK
 exact JN hc h hn hst
section
variable {X:Cx}
inductive GQ (K:W.Frag) (x:V) (y:V) (H:Hp) (Q:VK):Prop where
 | mk (a b:Addr) (ns ms:List Int) (z0:x = .ref a) (z1:y = .ref b) (z2:SqT K H a (ns.map V.int)) (z3:SqT K H b (ms.map V.int)) (z4:Q (.bl (decide (ns=ms))) H):GQ K x y H Q
noncomputable def zp (K:W.Frag):R2:=fun x y H Q=>GQ K x y H Q
theorem ints_get {ns:List Int} {its:List Value} (i:IntsAre its ns) {j:Nat} (h:j < its.length):∃ t,its[j] = .int (ns.getD j 0) t:=by
 induction i generalizing j with
 | nil=>exact absurd h (Nat.not_lt_zero _)
 | cons n t r ih =>
  cases j with
  | zero=>exact⟨t,rfl⟩
  | succ j =>
   obtain⟨u,e⟩:=ih (j:=j) (Nat.lt_of_succ_lt_succ h)
   exact⟨u,by simpa using e⟩
theorem nD (hu:X.A.units < cLine):OpR X (compareOp .Eq) (zp X.K):=by
 intro pins s σ H x y v u Q I rx ry h
 obtain⟨a,b,ns,ms,rfl,rfl,ha,hb,q⟩:=h
 cases rx
 cases ry
 obtain⟨its,r1,p1,_⟩:=I.tuple ha
 obtain⟨its2,r2,p2,_⟩:=I.tuple hb
 have i1:IntsAre its ns:=intsAre_of r1
 have i2:IntsAre its2 ms:=intsAre_of r2
 have l1:=i1.length
 have l2:=i2.length
 refine SeqAt.eq_tupleAt (e:=fun j=>ns.getD j 0 == ms.getD j 0) (show s.heap.IsTuple a its.toArray from p1) (show s.heap.IsTuple b its2.toArray from p2) hu (fun j h1 h2=>?_) ?_
 ·obtain⟨t,e1⟩:=ints_get i1 (j:=j) (by simpa using h1)
  obtain⟨t',e2⟩:=ints_get i2 (j:=j) (by simpa using h2)
  rw[List.getElem_toArray,List.getElem_toArray,e1,e2]
  exact SeqAt.EqAt.int_int _ _ _ _
 ·refine⟨.bl _,H,I,?_,q⟩
  have e:=jR ns ms
  have s1:its.toArray.size=ns.length:=by rw[List.size_toArray]; exact l1
  have s2:its2.toArray.size=ms.length:=by rw[List.size_toArray]; exact l2
  rw[s1,s2,e]
  rfl
inductive Cp (K:W.Frag) (x:V) (y:V) (H:Hp) (Q:VK):Prop where
 | mk (a b:Addr) (xs ys:List V) (z0:x = .ref a) (z1:y = .ref b) (z2:SqT K H a xs) (z3:SqT K H b ys) (z4:xs.length+ys.length<=sizeLine) (z5:(xs=[]->Q (.ref b) H)) (z6:(xs≠[]->ys=[]->Q (.ref a) H)) (z7:(xs≠[]->ys≠[]->∀ p,H p=none->Q (.ref p) (upd H p (.tup (xs++ys))))):Cp K x y H Q
noncomputable def nQ (K:W.Frag):R2:=fun x y H Q=>Cp K x y H Q
theorem rR:OpR X (binaryOp .Add) (nQ X.K):=by
 intro pins s σ H x y v u Q I rx ry h
 obtain⟨a,b,xs,ys,rfl,rfl,ha,hb,hz,q0,q1,q2⟩:=h
 by_cases hx:xs=[]
 ·subst hx
  cases rx
  cases ry
  obtain⟨its,r1,p1,_⟩:=I.tuple ha
  obtain⟨its2,r2,p2,_⟩:=I.tuple hb
  cases r1
  obtain⟨⟨c1,d1,dt1,sl1⟩,ho,hc,n,hd⟩:=id p1
  obtain⟨⟨c2,d2,dt2,sl2⟩,ho2,hc2,n2,hd2⟩:=id p2
  simp only at hc hd hc2 hd2
  subst hc hd hc2 hd2
  exact concat_meets ⟨_,ho,rfl⟩ ⟨_,ho2,rfl⟩ noFill_tuple_add seq_tuple_add PySem.F.slot_tuple_add PySem.F.entry_tuple_add (PySem.F.args_tuple_add_2 _ _) (tuple_addW0 a b _ _ n n2 d1 d2 sl1 sl2 rfl) ⟨ho,ho2,⟨.ref b,H,I,rfl,q0 rfl⟩⟩
 ·exact Jc pins s σ H _ _ v u Q I rx ry ⟨a,b,xs,ys,rfl,rfl,ha,hb,hx,hz,q1 hx,q2 hx⟩
end
end L2
namespace L2
open PySem PySem.Spec PyProof.Rows
theorem jA:∀ bs:List Bool,(List.range bs.length).any (fun i=>bs.getD i false)=bs.any fun b=>b
 | []=>rfl
 | b::r=>by
  have ih:=jA r
  rw[List.length_cons,List.range_succ_eq_map,List.any_cons,List.any_map,List.any_cons,← ih]
  rfl
theorem zu (l:Addr) (items:Array Value) (n:Nat) (dd:Option Addr) (sl:Array (Option Value)) (x:Int) (u:Tok) (h1:1 < x) (h2:x < 2 ^ 31) (he:items.isEmpty=false) (hz:items.size * x.toNat<=sizeLine) :
  Meets (Builtin.«tuple.__mul__» ⟨[.ref l,.int x u],[]⟩) (fun _ R s=>s.heap.get? l=some { cls:=.type "tuple",dict:=dd,data:=.seq items n,slots:=sl }/\R (.ok (.ret (Value.ref s.heap.objs.size))) { s with heap:=s.heap.push { cls:=Value.type "tuple",data:=Data.seq (List.foldl (fun x1 x2=>x1++x2) #[] (List.replicate x.toNat items)) },toks:=s.toks }) :=
 .of_wp fun prog w A R s h=>by
  obtain⟨hp,g,d,tk,os⟩:=s
  obtain⟨hl,h⟩:=h
  have f1:=AutoSeq1.idx_int
  have c1:(decide (x < -(2 ^ 63)) || decide (x ≥ 2 ^ 63))=false:=by
   rw[decide_eq_false (by lia),decide_eq_false (by lia)]
   rfl
  have c2:(items.isEmpty || x == 1)=false:=by
   rw[he,beq_false_of_ne (by lia)]
   rfl
  have c3:(decide (x<=0) || items.isEmpty)=false:=by
   rw[he,decide_eq_false (by lia)]
   rfl
  have ez:((items.size * x.toNat:Nat):Int)=(items.size:Int) * x:=by
   rw[Int.natCast_mul,Int.toNat_of_nonneg (by lia)]
  have c4:¬ (items.size:Int) * x > (2 ^ 63 - 1) / 8:=by
   have:(sizeLine:Nat)<=(2 ^ 63 - 1) / 8:=by decide
   lia
  have c5:Builtin.Tuple.tupleTooMany ((items.size:Int) * x)=false:=by
   unfold Builtin.Tuple.tupleTooMany
   rw[decide_eq_false]
   lia
  have c6:¬ (List.foldl (fun x1 x2=>x1++x2) #[] (List.replicate x.toNat items)).size > sizeLine:=by
   have e:=foldl_rep items.toList x.toNat []
   rw[List.nil_append,Array.toArray_toList] at e
   rw[e,List.size_toArray,len_rep,Array.length_toList,Nat.mul_comm]
   lia
  wp_walk using wpAny_loadPart' hl
  refine wpAny_ite_false (decide_eq_false (by rw[c1]; exact Bool.false_ne_true)) ?_
  wp_walk using wpAny_loadPart' hl
  refine wpAny_ite_false (decide_eq_false (by rw[c2]; exact Bool.false_ne_true)) ?_
  wp_walk using wpAny_loadPart' hl
  refine wpAny_ite_false (decide_eq_false (by rw[c3]; exact Bool.false_ne_true)) ?_
  wp_walk using wpAny_loadPart' hl
  refine wpAny_ite_false (decide_eq_false c4) ?_
  wp_walk using wpAny_loadPart' hl
  exact⟨_,rfl,h⟩
theorem zL (l:Addr) (items:Array Value) (n:Nat) (dd:Option Addr) (sl:Array (Option Value)) (u:Tok) :
  Meets (Builtin.«tuple.__mul__» ⟨[.ref l,.int 1 u],[]⟩) (fun _ R s=>s.heap.get? l=some { cls:=.type "tuple",dict:=dd,data:=.seq items n,slots:=sl }/\R (.ok (.ret (Value.ref l))) s) :=
 .of_wp fun prog w A R s h=>by
  obtain⟨hp,g,d,tk,os⟩:=s
  obtain⟨hl,h⟩:=h
  have f1:=AutoSeq1.idx_int
  have c2:(items.isEmpty || (1:Int) == 1)=true:=by rw[show ((1:Int) == 1)=true from rfl,Bool.or_true]
  wp_walk using wpAny_loadPart' hl
  exact⟨_,rfl,h⟩
theorem iJ:fillsNumberSlot (.type "tuple") "mul" = pure false :=
 PySem.fillsNumberSlot_seq (id:="tuple.__mul__") (r:=some (.builtin "tuple.__rmul__")) F.slot_tuple_mul.lookup (by decide+kernel) F.slot_tuple_rmul.lookup (by decide+kernel)
theorem lW:seqRepeat? (.type "tuple")=pure (some (.builtin "tuple.__mul__")):=by
 unfold seqRepeat?
 rw[PySem.seqSlot_of (T:="tuple") (name:="__mul__") (id:="tuple.__mul__") F.slot_tuple_mul.lookup (by decide+kernel),PySem.seqSlot_of (T:="tuple") (name:="__rmul__") (id:="tuple.__rmul__") F.slot_tuple_rmul.lookup (by decide+kernel)]
 rfl
theorem jy (a:Int) (t:Tok) (l:Addr) (items:Array Value) (n:Nat) (dd:Option Addr) (sl:Array (Option Value)) :
  Meets (Builtin.«int.__rmul__» ⟨[.int a t,.ref l],[]⟩) (fun _ R s=>s.heap.get? l=some { cls:=.type "tuple",dict:=dd,data:=.seq items n,slots:=sl }/\R (.ok (.ret Value.notImplemented)) s) :=
 .of_wp fun prog w A R s h=>by
  obtain⟨hp,g,d,tk,os⟩:=s
  obtain⟨hl,h⟩:=h
  wp_walk
  exact⟨_,rfl,h⟩
section
variable {X:Cx}
inductive Gn (K:W.Frag) (x:V) (y:V) (H:Hp) (Q:VK):Prop where
 | mk (l:Addr) (k:Int) (xs:List V) (z0:x = .ref l) (z1:y = .int k) (z2:SqT K H l xs) (z3:xs≠[]) (z4:1<=k) (z5:k < 2 ^ 31) (z6:xs.length * k.toNat<=sizeLine) (z7:(k=1->Q (.ref l) H)) (z8:(k≠1->∀ p,H p=none->Q (.ref p) (upd H p (.tup (List.replicate k.toNat xs).flatten)))):Gn K x y H Q
noncomputable def HD (K:W.Frag):R2:=fun x y H Q=>Gn K x y H Q
theorem Jx:OpR X (binaryOp .Mult) (HD X.K):=by
 intro pins s σ H x y v u Q I rx ry h
 obtain⟨l,k,xs,rfl,rfl,hl,hx,h1,h2,hz,q1,q2⟩:=h
 cases rx
 obtain⟨t,rfl⟩:=ry
 obtain⟨its,r,p,_⟩:=I.tuple hl
 have hlen:=r.length
 obtain⟨⟨c1,d1,dt1,sl1⟩,ho,hc,n,hd⟩:=id p
 simp only at hc hd
 subst hc hd
 by_cases hk:k=1
 ·subst hk
  exact wpAny_binaryOp_repeat_ref (T:="tuple") (U:="int") (by decide) ⟨_,ho,rfl⟩ (fun s'=>typeIs_int s' 1 t) iJ F.fills_int_mul F.slot_int_rmul lW F.slot_int_index.lookup
   (call_meets F.slot_int_rmul (typeIs_int s 1 t) F.entry_int_rmul (F.args_int_rmul_2 _ _) (jy 1 t l its.toArray n d1 sl1)
    ⟨ho,rfl,⟨_,ho,rfl⟩,call_meets F.slot_tuple_mul ⟨_,ho,rfl⟩ F.entry_tuple_mul (F.args_tuple_mul_2 _ _) (zL l its.toArray n d1 sl1 t) ⟨ho,⟨.ref l,H,I,rfl,q1 rfl⟩⟩⟩)
 ·have he:its.toArray.isEmpty=false:=by
   cases its with
   | nil=>exact absurd (r.qJ.mp rfl) hx
   | cons a r'=>rfl
  have hnew:List.foldl (fun x1 x2=>x1++x2) #[] (List.replicate k.toNat its.toArray)=(List.replicate k.toNat its).flatten.toArray:=by
   have:=foldl_rep its k.toNat []
   rw[List.nil_append] at this
   exact this
  have hz':its.toArray.size * k.toNat<=sizeLine:=by rw[List.size_toArray,← hlen]; exact hz
  refine wpAny_binaryOp_repeat_ref (T:="tuple") (U:="int") (by decide) ⟨_,ho,rfl⟩ (fun s'=>typeIs_int s' k t) iJ F.fills_int_mul F.slot_int_rmul lW F.slot_int_index.lookup
   (call_meets F.slot_int_rmul (typeIs_int s k t) F.entry_int_rmul (F.args_int_rmul_2 _ _) (jy k t l its.toArray n d1 sl1)
    ⟨ho,rfl,⟨_,ho,rfl⟩,call_meets F.slot_tuple_mul ⟨_,ho,rfl⟩ F.entry_tuple_mul (F.args_tuple_mul_2 _ _) (zu l its.toArray n d1 sl1 k t (by lia) h2 he hz') ⟨ho,?_⟩⟩)
  rw[hnew]
  refine⟨.ref s.heap.objs.size,_,I.laid (t':=s.toks) (o:=.tup (List.replicate k.toNat xs).flatten) (fun b ob q=>Heap.get?_push_of_some _ q) (Nat.le_refl _) ?_,rfl,q2 hk _ (I.hok.fresh (Nat.le_refl _))⟩
  exact⟨by rw[len_rep,Nat.mul_comm]; exact hz,_,r.rep k.toNat,IsTup.new _ _⟩
inductive Gm (K:W.Frag) (xs:List V) (H:Hp) (Q:VK):Prop where
 | mk (p:Addr) (ns:List Int) (z0:xs=[.ref p]) (z1:SqL K H p (ns.map V.int)) (z2:Q (.int ns.sum) H):Gm K xs H Q
noncomputable def Ec (K:W.Frag):List V->Hp->VK->Prop:=fun xs H Q=>Gm K xs H Q
theorem nU (hc:X.calm=true):fZ X (.builtin "sum") (Ec X.K):=by
 intro pins s σ H xs us Q I r h
 obtain⟨p,ns,rfl,hq,q⟩:=h
 obtain⟨u,rfl,ru⟩:=vals1 r
 cases ru
 obtain⟨its,rv,pl,hz⟩:=I.list hq
 have hi:IntsAre its ns:=intsAre_of rv
 obtain⟨zs,hx⟩:=hi.allInts.items
 have hl':s.heap.IsList p (intItems zs):=hx▸pl.isList
 refine sum_intListG (I.ok.hd hc) hl' fun h' tk t' hk=>?_
 have e1:ns=zs.toList.map (·.1):=by
  rw[← nums_intItems,← hx]
  exact (show numsOf its.toArray.toList=ns from hi.numsOf).symm
 have e2:preSum (numAt zs) zs.size=ns.sum:=by
  rw[preSum_eq,List.take_of_length_le (by simp),e1]
 rw[e2]
 exact⟨.int _,H,I.kept (t':=tk) hk,⟨_,rfl⟩,q⟩
inductive GF (K:W.Frag) (xs:List V) (H:Hp) (Q:VK):Prop where
 | mk (p:Addr) (bs:List Bool) (z0:xs=[.ref p]) (z1:SqL K H p (bs.map V.bl)) (z2:Q (.bl (bs.any fun b=>b)) H):GF K xs H Q
noncomputable def Kg (K:W.Frag):List V->Hp->VK->Prop:=fun xs H Q=>GF K xs H Q
theorem Af (hc:X.calm=true):fZ X (.builtin "any") (Kg X.K):=by
 intro pins s σ H xs us Q I r h
 obtain⟨p,bs,rfl,hq,q⟩:=h
 obtain⟨u,rfl,ru⟩:=vals1 r
 cases ru
 obtain⟨its,rv,pl,hz⟩:=I.list hq
 have hlen:bs.length=its.length:=by simpa using rv.length
 refine call_any_walk (wpAny_pyIter_list pl.isList ?_)
 have I1:Inv X pins σ H { s with heap:=s.heap.push { cls:=.type "list_iterator",data:=.fields #[.ref p,.int 0 0] } }:=I.kept (t':=s.toks) fun b o e=>Heap.get?_push_of_some _ e
 have hne:p≠s.heap.objs.size:=by
  obtain⟨o,ho,_⟩:=pl.isList
  exact Nat.ne_of_lt (Heap.lt_size ho)
 refine⟨s.heap.objs.size,_,_,_,_,_,fun i=>bs.getD i false,rfl,Walks.list (A:=X.A.in1) (I.ok.hd hc) s.heap.objs.size p hne its.toArray,⟨⟨_,Heap.get?_push_size _ rfl,rfl,rfl⟩,?_⟩,?_,fun h' tk hk=>?_⟩
 ·obtain⟨o,ho,hr⟩:=pl.isList
  exact⟨o,Heap.get?_push_of_some _ ho,hr⟩
 ·intro i v s' Q' E' hP hQ
  have hP:its[i]? = some v:=by simpa using hP
  have hi:i < bs.length:=by
   rw[hlen]
   exact (List.getElem?_eq_some_iff.mp hP).1
  obtain⟨u',hu',ru'⟩:=rv.get (i:=i) (x:=V.bl bs[i]) (by rw[List.getElem?_map,List.getElem?_eq_getElem hi]; rfl)
  rw[hP] at hu'
  cases hu'
  cases (show v=Value.bool bs[i] from ru')
  refine wpAny_truthy_bool ?_
  have eg:bs.getD i false=bs[i]:=by rw[List.getD_eq_getElem?_getD,List.getElem?_eq_getElem hi]; rfl
  have hQ':Q' (bs.getD i false) s':=hQ
  rw[eg] at hQ'
  exact hQ'
 ·have f:=I.DQ (b:=s.heap.objs.size) (H':=H) (Nat.le_refl _) I.fresh
  have eany:(List.range its.toArray.size).any (fun i=>bs.getD i false)=bs.any fun b=>b:=by
   have el:its.toArray.size=bs.length:=by rw[List.size_toArray,hlen]
   rw[el]
   exact jA bs
  rw[eany]
  exact⟨.bl _,H,I1.turned (t':=tk) (it:=s.heap.objs.size) (fun b o hb e=>hk b o (by simpa using hb) e) f.1 f.2.1 f.2.2.2.1 f.2.2.2.2.1 f.2.2.2.2.2,rfl,q⟩
end
theorem Ko:bootBuiltins "any" = some (.builtin "any"):=by decide+kernel
end L2
namespace L2
open PySem PySem.Spec PyProof.Rows
noncomputable def KJ:List V->Hp->VK->Prop:=fun xs H Q=>(∃ i,xs=[.int i]/\Q (.int i) H)∨∃ k,xs=[.bl k]/\Q (.int (if k then 1 else 0)) H
end L2
namespace L2
open PySem
noncomputable def Ris (xs:Array Nat):Prop:=xs.toList.Pairwise (· < ·)
theorem ym {xs:Array Nat} (h:Ris xs) {i j x y:Nat} (hij:i < j) (hi:xs[i]? = some x) (hj:xs[j]? = some y):x < y:=by
 rw[← Array.getElem?_toList] at hi hj
 obtain⟨li,ei⟩:=List.getElem?_eq_some_iff.mp hi
 obtain⟨lj,ej⟩:=List.getElem?_eq_some_iff.mp hj
 have:=List.pairwise_iff_getElem.mp h i j li lj hij
 rw[ei,ej] at this
 exact this
theorem qt {xs:Array Nat} (h:Ris xs) (j:Nat):∀ (fuel lo hi:Nat),hi - lo<=fuel->lo<=hi->hi<=xs.size->(∀ i x,i < lo->xs[i]? = some x->x < j)->(∀ i x,hi<=i->xs[i]? = some x->j<=x) →
  SetTable.below.go xs j fuel lo hi<=xs.size/\(∀ i x,i < SetTable.below.go xs j fuel lo hi->xs[i]? = some x->x < j)/\(∀ i x,SetTable.below.go xs j fuel lo hi<=i->xs[i]? = some x->j<=x)
 | 0,lo,hi,hf,hl,hs,h1,h2=>by
  rw[SetTable.below.go]
  have e:lo=hi:=by lia
  subst e
  exact⟨hs,h1,h2⟩
 | fuel+1,lo,hi,hf,hl,hs,h1,h2=>by
  rw[SetTable.below.go]
  by_cases hlt:lo < hi
  ·rw[if_pos hlt]
   dsimp only
   have hm1:lo<=(lo+hi) / 2:=by lia
   have hm2:(lo+hi) / 2 < hi:=by lia
   have hms:(lo+hi) / 2 < xs.size:=by lia
   generalize (lo+hi) / 2=m at *
   have eg:xs[m]? = some xs[m]:=Array.getElem?_eq_getElem hms
   have ed:xs.getD m j=xs[m]:=by rw[Array.getD_eq_getD_getElem?,eg]; rfl
   rw[ed]
   by_cases hc:xs[m] < j
   ·rw[if_pos hc]
    refine qt h j fuel (m+1) hi (by lia) (by lia) hs (fun i x hi' e=>?_) h2
    by_cases hm:i=m
    ·subst hm
     rw[eg] at e
     cases e
     exact hc
    ·exact Nat.lt_trans (ym h (show i < m by lia) e eg) hc
   ·rw[if_neg hc]
    refine qt h j fuel lo m (by lia) hm1 (by lia) h1 (fun i x hi' e=>?_)
    by_cases hm:i=m
    ·subst hm
     rw[eg] at e
     cases e
     lia
    ·have:=ym h (show m < i by lia) eg e
     lia
  ·rw[if_neg hlt]
   have e:lo=hi:=by lia
   subst e
   exact⟨hs,h1,h2⟩
theorem qC {xs:Array Nat} (h:Ris xs) (j:Nat):SetTable.below xs j<=xs.size/\(∀ i x,i < SetTable.below xs j->xs[i]? = some x->x < j)/\(∀ i x,SetTable.below xs j<=i->xs[i]? = some x->j<=x):=by
 unfold SetTable.below
 refine qt h j xs.size 0 xs.size (by lia) (Nat.zero_le _) (Nat.le_refl _) (fun i x hi=>absurd hi (Nat.not_lt_zero _)) fun i x hi e=>?_
 rw[Array.getElem?_eq_none hi] at e
 cases e
theorem below_at {xs:Array Nat} (h:Ris xs) {i x:Nat} (e:xs[i]? = some x):SetTable.below xs (x+1)=i+1:=by
 obtain⟨h1,h2,h3⟩:=qC h (x+1)
 have hi:i < xs.size:=(Array.getElem?_eq_some_iff.mp e).1
 generalize SetTable.below xs (x+1)=p at *
 rcases Nat.lt_trichotomy p (i+1) with hp | hp | hp
 ·have:=h3 i x (by lia) e
  lia
 ·exact hp
 ·have hs:i+1 < xs.size:=by lia
  have:=ym h (Nat.lt_succ_self i) e (Array.getElem?_eq_getElem hs)
  have:=h2 (i+1) _ hp (Array.getElem?_eq_getElem hs)
  lia
theorem zN {xs:Array Nat} (h:Ris xs):SetTable.below xs 0=0:=by
 obtain⟨h1,h2,h3⟩:=qC h 0
 generalize SetTable.below xs 0=p at *
 rcases Nat.eq_zero_or_pos p with hp | hp
 ·exact hp
 ·have hs:0 < xs.size:=by lia
  have:=h2 0 _ hp (Array.getElem?_eq_getElem hs)
  lia
theorem HS {xs:Array Nat} (h:Ris xs) {j:Nat} (hj:xs[SetTable.below xs j]?≠some j):Ris (SetTable.insertAt xs (SetTable.below xs j) j):=by
 obtain⟨h1,h2,h3⟩:=qC h j
 unfold Ris
 rw[SetTable.toList_insertAt]
 generalize hp:SetTable.below xs j=p at *
 have hh:xs.toList.Pairwise (· < ·):=h
 have hlt:∀ x∈xs.toList.take p,x < j:=fun x hx=>by
  obtain⟨i,hi,e⟩:=List.getElem_of_mem hx
  rw[List.length_take] at hi
  rw[List.getElem_take] at e
  exact h2 i x (by lia) (by rw[← Array.getElem?_toList,List.getElem?_eq_getElem (by lia),e])
 have hgt:∀ x∈xs.toList.drop p,j < x:=fun x hx=>by
  obtain⟨i,hi,e⟩:=List.getElem_of_mem hx
  rw[List.length_drop] at hi
  rw[List.getElem_drop] at e
  have ex:xs[p+i]? = some x:=by rw[← Array.getElem?_toList,List.getElem?_eq_getElem (by lia),e]
  have:=h3 (p+i) x (by lia) ex
  rcases Nat.lt_or_ge j x with q | q
  ·exact q
  ·have ejx:x=j:=by lia
   subst ejx
   by_cases hi0:i=0
   ·subst hi0
    exact absurd ex hj
   ·have hps:p < xs.size:=by
     have:=(Array.getElem?_eq_some_iff.mp ex).1
     lia
    have:=ym h (show p < p+i by lia) (Array.getElem?_eq_getElem hps) ex
    have:=h3 p _ (Nat.le_refl _) (Array.getElem?_eq_getElem hps)
    lia
 rw[List.pairwise_append]
 refine⟨hh.sublist (List.take_sublist _ _),List.pairwise_cons.mpr ⟨hgt,hh.sublist (List.drop_sublist _ _)⟩,fun a ha b hb=>?_⟩
 rcases List.mem_cons.mp hb with rfl | hb
 ·exact hlt a ha
 ·exact Nat.lt_trans (hlt a ha) (hgt b hb)
noncomputable def oK (t:SetTable) (j:Nat):Prop:=t.place[SetTable.below t.place j]?≠some j
theorem pF {t:SetTable} {j:Nat} (h:t.slot j = .empty∨t.slot j = .dummy):oK t j:=by
 intro e
 unfold SetTable.slot at h
 dsimp only at h
 rw[e,if_pos (by exact beq_self_eq_true _)] at h
 rcases h with h | h <;> cases h
theorem lC {t:SetTable} {f:Nat->Int} {h:Int}:∀ (fuel:Nat) (p:SetTable.Probe) {j:Nat} {d:Option Nat},(∀ x,p.dummy=some x->oK t x)->SetTable.probe.go t f h fuel p=some (.empty j d)->oK t j/\∀ x,d=some x->oK t x
 | 0,_,_,_,_,e=>by rw[SetTable.probe.go] at e; cases e
 | fuel+1,p,j,d,hd,e=>by
  rw[SetTable.probe.go] at e
  have adv:∀ q:SetTable.Probe,(t.advance q).dummy=q.dummy:=fun q=>by
   unfold SetTable.advance
   split <;> rfl
  cases hs:t.slot p.j with
  | empty =>
   rw[hs] at e
   cases e
   exact⟨pF (.inl hs),hd⟩
  | dummy =>
   rw[hs] at e
   dsimp only at e
   refine lC fuel _ (fun x hx=>?_) e
   rw[adv] at hx
   cases hx
   exact pF (.inr hs)
  | live i =>
   rw[hs] at e
   dsimp only at e
   by_cases hc:(f i == h)=true
   ·rw[if_pos hc] at e
    cases e
   ·rw[if_neg hc] at e
    exact lC fuel _ (fun x hx=>by rw[adv] at hx; exact hd x hx) e
theorem vz {t:SetTable} {h:Int} {j:Nat} {b:Bool} (e:t.freeSlot h=some (j,b)):oK t j:=by
 unfold SetTable.freeSlot SetTable.probe at e
 split at e
 ·rename_i j' d hp
  obtain⟨h1,h2⟩:=lC _ _ (fun x hx=>by cases hx) hp
  cases e
  cases d with
  | none=>exact h1
  | some x=>exact h2 x rfl
 ·cases e
structure TOk (b:Bool) (t:SetTable):Prop where
 led:t.led=b
 ris:t.plain=true->Ris t.place
theorem Cu (b:Bool):TOk b (.fresh 0 0 b):=⟨rfl,fun _=>List.Pairwise.nil⟩
theorem iG {b:Bool} {t:SetTable} (h:TOk b t) (n:Nat):TOk b (t.standIn n):=⟨h.led,fun z=>by cases z⟩
theorem zx {b:Bool} {t:SetTable} (h:TOk b t) (es:Array (Int × Value)) (k:Int) (x:Value):TOk b (layNew t es k x).2.1:=by
 unfold layNew
 split
 ·rename_i slot wd e
  dsimp only
  unfold SetTable.orStandIn
  have ht:TOk b (t.put slot).1:=⟨h.led,fun z=>HS (h.ris z) (vz e)⟩
  split
  ·exact ht
  ·exact iG ht _
 ·exact iG h _
theorem FN (owner:Array (Option Nat)):∀ l:List Nat,l.Pairwise (· < ·)->((l.filterMap fun j=>(owner.getD j none).map (j,·)).map (·.1)).Pairwise (· < ·):=fun l hl=>by
 have hs:List.Sublist ((l.filterMap fun j=>(owner.getD j none).map (j,·)).map (·.1)) l:=by
  induction l with
  | nil=>exact List.Sublist.slnil
  | cons a r ih =>
   have ih:=ih (List.pairwise_cons.mp hl).2
   rw[List.filterMap_cons]
   cases e:owner.getD a none with
   | none=>exact ih.cons _
   | some k=>exact ih.cons₂ _
 exact hl.sublist hs
theorem uT {b:Bool} {t:SetTable} (h:TOk b t) (es:Array (Int × Value)) (m:Nat):TOk b (relayAll t es m).2.1:=by
 unfold relayAll
 split
 ·rename_i t' order e
  dsimp only
  split
  ·unfold SetTable.relaid SetTable.laid at e
   cases ho:SetTable.layClean (SetTable.sizeAbove m - 1) (es.map (·.1)) with
   | none=>rw[ho] at e; cases e
   | some owner =>
    rw[ho] at e
    cases e
    exact⟨h.led,fun _=>FN owner _ List.pairwise_lt_range⟩
  ·exact iG h _
 ·exact iG h _
end L2
namespace L2
open PySem PySem.Spec PyProof.Rows
section
variable {P:Program} {w:World} {A:Around} {E:Value->Shared->Prop} {s:Shared}
noncomputable def lA (P:Program) (w:World) (b:Bool) (h:Heap) (a:Addr) (ks:List Int):Prop :=
 ∃ o es ep t,h.get? a=some o/\o.ExactSet/\o.data = .set es ep t/\ElemsOf (intKind P w) es.toList/\t.fits es.size=true/\TOk b t/\∃ ns,IntsAre (es.toList.map (·.2)) ns/\ns.Perm ks
theorem gM {l l':List Value} (p:l.Perm l'):∀ {ns:List Int},IntsAre l ns->∃ ms,IntsAre l' ms/\ms.Perm ns:=by
 induction p with
 | nil=>intro ns h; exact⟨ns,h,.refl _⟩
 | cons x p ih =>
  intro ns h
  cases h with
  | cons n t r =>
   obtain⟨ms,h1,h2⟩:=ih r
   exact⟨n::ms,.cons n t h1,h2.cons n⟩
 | swap x y l =>
  intro ns h
  cases h with
  | cons n t r =>
   cases r with
   | cons m u r=>exact⟨m::n::_,.cons m u (.cons n t r),.swap _ _ _⟩
 | trans p q ih1 ih2 =>
  intro ns h
  obtain⟨ms,h1,h2⟩:=ih1 h
  obtain⟨ks,h3,h4⟩:=ih2 h1
  exact⟨ks,h3,h4.trans h2⟩
theorem lM {k:Int} {t:Tok}:∀ {l:List Value} {ns:List Int},IntsAre l ns->IntsAre (l++[.int k t]) (ns++[k])
 | _,_,.nil=>.cons k t .nil
 | _,_,.cons n u r=>.cons n u (lM r)
theorem ou {k:Int}:∀ {l:List Value} {ns:List Int},IntsAre l ns->(k∈ns ↔ ∃ v∈l,(intKind P w).is k v=true)
 | _,_,.nil=>by simp
 | _,_,.cons n t r=>by
  have ih:=ou (k:=k) r
  have e:(intKind P w).is k (.int n t)=decide (k=n):=KeyKind.is_eq_decide (intKind_is _ _ _ _) k
  rw[List.mem_cons,ih]
  constructor
  ·rintro (h | ⟨v,hv,q⟩)
   ·exact⟨_,List.mem_cons_self,by rw[e]; exact decide_eq_true h⟩
   ·exact⟨v,List.mem_cons_of_mem _ hv,q⟩
  ·rintro⟨v,hv,q⟩
   rcases List.mem_cons.mp hv with rfl | hv
   ·rw[e] at q
    exact .inl (of_decide_eq_true q)
   ·exact .inr ⟨v,hv,q⟩
theorem lV {b:Bool} {h:Heap} {a:Addr} {o:Obj} {es es':Array (Int × Value)} {ep:Nat} {t t':SetTable} {ks:List Int} (ho:h.get? a=some o) (hx:o.ExactSet) (hd:o.data = .set es ep t)
  (hel:ElemsOf (intKind P w) es'.toList) (hf:t'.fits es'.size=true) (tk:TOk b t') (hn:∃ ns,IntsAre (es'.toList.map (·.2)) ns/\ns.Perm ks) :
  (h.update a (Obj.putSet es' t')).get? a=some { o with data:=.set es' (ep+1) t' }/\lA P w b (h.update a (Obj.putSet es' t')) a ks:=by
 have g:(h.update a (Obj.putSet es' t')).get? a=some { o with data:=.set es' (ep+1) t' }:=by
  have q:=Heap.get?_update_self (Obj.putSet es' t') ho (by rw[putSet_of es' t' hd]; rfl)
  rwa [putSet_of es' t' hd] at q
 exact⟨g,_,es',ep+1,t',g,hx,rfl,hel,hf,tk,hn⟩
theorem Ip {b:Bool} {a:Addr} {ks:List Int} {k:Int} {t0:Tok} {Q:Bool->Shared->Prop} (hS:lA P w b s.heap a ks) (hroom:ks.length+1 < scanBound)
  (h:∀ h' r,Heap.SameBut a s.heap h'->lA P w b h' a (step_dedup ks k)->Q r { s with heap:=h' }):wpAny (model P w) A (setAddHashed a (.int k t0) ((intKind P w).hash k)) Q E s:=by
 obtain⟨o,es,ep,t,ho,hx,hd,hel,hf,tk,ns,hi,hp⟩:=hS
 have key:(intKind P w).is k (.int k t0)=true:=intKind_is _ _ _ _
 have hlen:es.size=ks.length:=by
  rw[← hp.length_eq,← hi.length,List.length_map,Array.length_toList]
 have hb:es.size < scanBound:=by lia
 have hm:=ou (P:=P) (w:=w) (k:=k) hi
 unfold setAddHashed setAddHashedIn
 refine wpAny_holding (wpAny_bind (wpAny_setState_of ho hd hf ?_))
 dsimp only
 rw[byScan_of rfl hb hel]
 simp only[↓reduceIte]
 unfold setAddByScan
 refine wpAny_bind (wpAny_bind (wpAny_rule (wpAny_bind (wpAny_setScan_of key ho hd hf hel ?_))))
 cases hr:es.toList.findIdx? (fun e=>(intKind P w).is k e.2) with
 | some j =>
  dsimp only
  obtain⟨hj,q,_⟩:=List.findIdx?_eq_some_iff_getElem.mp hr
  have hk:k∈ks:=hp.mem_iff.mp (hm.mpr ⟨es.toList[j].2,List.mem_map.mpr ⟨_,List.getElem_mem hj,rfl⟩,q⟩)
  have es0:step_dedup ks k=ks:=by
   unfold step_dedup
   have hany:(ks.any fun x=>x == k)=true:=List.any_eq_true.mpr ⟨k,hk,beq_self_eq_true k⟩
   rw[if_pos hany]
  have q':=h s.heap false (Heap.SameBut.refl a s.heap) (by rw[es0]; exact⟨o,es,ep,t,ho,hx,hd,hel,hf,tk,ns,hi,hp⟩)
  exact wpAny_pure (wpAny_pure q')
 | none =>
  dsimp only
  have hk:k ∉ ks:=fun z=>by
   obtain⟨v,hv,q⟩:=hm.mp (hp.mem_iff.mpr z)
   obtain⟨e,he,rfl⟩:=List.mem_map.mp hv
   rw[List.findIdx?_eq_none_iff.mp hr e he] at q
   cases q
  have es0:step_dedup ks k=ks++[k]:=by
   unfold step_dedup
   rw[if_neg]
   intro z
   obtain⟨x,hx',e⟩:=List.any_eq_true.mp z
   exact hk (by rw[← eq_of_beq e]; exact hx')
  rw[es0] at h
  have pm:=layNew_perm t es ((intKind P w).hash k) (.int k t0)
  have ft:=layNew_fits t es ((intKind P w).hash k) (.int k t0)
  have tk1:=zx tk es ((intKind P w).hash k) (.int k t0)
  generalize layNew t es ((intKind P w).hash k) (.int k t0)=L at pm ft tk1 ⊢
  obtain⟨es1,t1,wd,gv⟩:=L
  dsimp only at pm ft tk1 ⊢
  rw[Array.toList_push] at pm
  have hel1:ElemsOf (intKind P w) es1.toList:=(hel.push key rfl).perm pm
  have hn1:∃ ns,IntsAre (es1.toList.map (·.2)) ns/\ns.Perm (ks++[k]):=by
   have i1:IntsAre ((es.toList++[((intKind P w).hash k,Value.int k t0)]).map (·.2)) (ns++[k]):=by
    rw[List.map_append]
    exact lM hi
   obtain⟨ms,h1,h2⟩:=gM (pm.symm.map (·.2)) i1
   exact⟨ms,h1,h2.trans (hp.append (.refl _))⟩
  have hs1:es1.size<=sizeLine:=by
   have:es1.size=es.size+1:=by rw[← Array.length_toList,pm.length_eq,List.length_append,Array.length_toList]; rfl
   exact fits_of_scanBound (by lia)
  have gw:∀ (b:Bool) {s₁:Shared} {Q':Unit->Shared->Prop},Q' () s₁->wpAny (model P w) A (match b with | true=>rule "set.scan.the-table-gave-way" | false=>pure ()) Q' E s₁:=fun b s₁ Q' hq=>by
   cases b
   ·exact wpAny_pure hq
   ·exact wpAny_rule hq
  have tail:∀ (g:Bool->Sem Unit) (R:Option Bool->Shared->Prop) (t2:SetTable),(∀ (b:Bool) (s₁:Shared) (Q':Unit->Shared->Prop),Q' () s₁->wpAny (model P w) A (g b) Q' E s₁)->t2.fits es1.size=true->TOk b t2 →
    (∀ h',Heap.SameBut a s.heap h'->lA P w b h' a (ks++[k])->R (some true) { s with heap:=h' })->wpAny (model P w) A (do
    storeSet a es1 t2
    if (!wd && t2.tooFull)=true then do
      g (relayAll t2 es1 (SetTable.grown es1.size)).2.2
      storeSet a (relayAll t2 es1 (SetTable.grown es1.size)).1 (relayAll t2 es1 (SetTable.grown es1.size)).2.1
      pure (some true)
     else pure (some true)) R E s:=fun g R t2 hg f2 k2 hR=>by
   refine wpAny_bind (wpAny_storeSet_of ho hd ?_ hs1)
   obtain⟨ho1,hS1⟩:=lV (P:=P) (w:=w) ho hx hd hel1 f2 k2 hn1
   have sb1:=Heap.SameBut.update s.heap a (Obj.putSet es1 t2)
   split
   ·have pr:=relayAll_perm t2 es1 (SetTable.grown es1.size)
    have fr:=relayAll_fits t2 es1 (SetTable.grown es1.size)
    have tr:=uT k2 es1 (SetTable.grown es1.size)
    generalize relayAll t2 es1 (SetTable.grown es1.size)=R at pr fr tr ⊢
    obtain⟨es2,t3,g2⟩:=R
    dsimp only at pr fr tr ⊢
    have hn2:∃ ns,IntsAre (es2.toList.map (·.2)) ns/\ns.Perm (ks++[k]):=by
     obtain⟨ns1,i1,p1⟩:=hn1
     obtain⟨ms,h1,h2⟩:=gM (pr.symm.map (·.2)) i1
     exact⟨ms,h1,h2.trans p1⟩
    have hs2:es2.size<=sizeLine:=by
     have:es2.size=es1.size:=by rw[← Array.length_toList,pr.length_eq,Array.length_toList]
     lia
    refine wpAny_bind (hg _ _ _ (wpAny_bind (wpAny_storeSet_of ho1 rfl ?_ hs2)))
    obtain⟨_,hS2⟩:=lV (P:=P) (w:=w) ho1 hx rfl (hel1.perm pr) fr tr hn2
    exact wpAny_pure (hR _ (sb1.trans (Heap.SameBut.update _ a _)) hS2)
   ·exact wpAny_pure (hR _ sb1 hS1)
  refine wpAny_bind (gw _ ?_)
  split
  ·refine wpAny_bind ?_
   rw[hashByValue_scannable 8 rfl]
   refine wpAny_pure (tail _ _ _ (fun b s₁ Q' hq=>gw b hq) ?_ ?_ fun h' sb hS=>wpAny_pure (h h' true sb hS))
   ·exact ft
   ·exact tk1
  ·exact wpAny_bind (wpAny_pure (tail _ _ _ (fun b s₁ Q' hq=>gw b hq) ft tk1 fun h' sb hS=>wpAny_pure (h h' true sb hS)))
end
end L2
namespace L2
open PySem PySem.Spec PyProof.Rows
theorem km {P:Program} {w:World} {b:Bool} {h h':Heap} {a:Addr} {ks:List Int} (hk:∀ o,h.get? a=some o->h'.get? a=some o) (hS:lA P w b h a ks):lA P w b h' a ks:=by
 obtain⟨o,es,ep,t,ho,r⟩:=hS
 exact⟨o,es,ep,t,hk o ho,r⟩
section
variable {P:Program} {w:World} {A:Around} {R:Result->Shared->Prop} {I:Addr} {fp wr:List Addr} {G:Array GenState->Array GenState->Prop} {n:Nat} {Pv:Nat->Value->Prop} {St:Nat->Shared->Prop} {b:Bool}
theorem Ed (W:WalksS P w A.in1 I fp wr G n Pv St) (S:Addr) (hS:S ∉ fp) (val:Nat->Int) (hv:∀ i v,Pv i v->∃ t,v = .int (val i) t) (hb:n+1 < scanBound) :
  ∀ (k i:Nat) (s:Shared),n - i=k->i<=n->St i s->lA P w b s.heap S (firstMet val i)->(∀ s',Moved (S::wr) G s s'->lA P w b s'.heap S (firstMet val n)->R (.ok (.ret .none)) s') →
   codeAny (model P w) A (.builtin "set.update.loop" ⟨[.ref S,.ref I],[]⟩) R s:=by
 have nw:S ∉ wr:=fun z=>hS (W.sub _ z)
 have sub:∀ x∈wr,x∈S::wr:=fun x hx=>List.mem_cons_of_mem _ hx
 intro k
 induction k with
 | zero =>
  intro i s hk hi st hs hR
  obtain rfl:i=n:=by lia
  refine codeAny_builtin F.entry_set_update_loop ?_
  rw[Around.under_plainId F.plain_set_update_loop _]
  refine (show wpAny _ A.in1 (pyNext (.ref I) >>= _) _ _ s from wpAny_bind (W.done s _ _ st fun s' hm=>?_))
  exact (show wpAny _ A.in1 (ret Value.none) _ _ s' from wpAny_pure (hR s' (hm.mono sub) (km (fun o e=>hm.heap S o nw e) hs)))
 | succ k ih =>
  intro i s hk hi st hs hR
  have lt:i < n:=by lia
  refine codeAny_builtin F.entry_set_update_loop ?_
  rw[Around.under_plainId F.plain_set_update_loop _]
  refine (show wpAny _ A.in1 (pyNext (.ref I) >>= _) _ _ s from wpAny_bind (W.item i s _ _ lt st fun v s' hP st' hm=>?_))
  obtain⟨t,rfl⟩:=hv i v hP
  have hs':=km (h':=s'.heap) (fun o e=>hm.heap S o nw e) hs
  have room:(firstMet val i).length+1 < scanBound:=by
   have:=firstMet_length_le val i
   lia
  refine (show wpAny _ A.in1 (holding [Value.int (val i) t] (setAdd S (.int (val i) t)) >>= _) _ _ s' from wpAny_bind (wpAny_holding ?_))
  unfold setAdd
  refine wpAny_holding (wpAny_bind ((intKind P w).pyHash (k:=val i) (intKind_is _ _ _ _) ?_))
  refine Ip (s:={ s' with toks:=s'.toks+1 }) hs' room fun h' r sb hn=>?_
  rw[← firstMet_succ] at hn
  refine wpAny_pure ⟨plainId_quiet F.plain_set_update_loop _,ih (i+1) _ (by lia) lt (W.frame _ s' _ _ st' (Nat.le_succ _) fun x hx o e=>?_) hn fun s'' hm'' hs''=>?_⟩
  ·rw[sb.2 x (fun z:x=S=>hS (by rw[← z]; exact hx))]
   exact e
  ·refine hR s'' (Moved.trans W.gtrans ((hm.mono sub).then_heap (Nat.le_succ _) fun x o hx e=>?_) hm'') hs''
   rw[sb.2 x (fun z:x=S=>hx (by rw[z]; exact List.mem_cons_self))]
   exact e
end
end L2
namespace L2
open PySem PySem.Spec PyProof.Rows
section
variable {P:Program} {w:World} {A:Around} {E:Value->Shared->Prop} {s:Shared}
noncomputable def Es (w:World):Bool:=!w.params.followText "set-order"
noncomputable def newS (w:World):Obj:={ cls:=.type "set",dict:=none,data:=.set #[] 0 (.fresh 0 0 (Es w)) }
theorem HX (a:Value) {Q₁:Value->Shared->Prop} (h:Q₁ (.ref s.heap.objs.size) { s with heap:=s.heap.push (newS w) }) :
  codeAny (model P w) A (.call (.builtin "set.__new__") ⟨[.type "set",a],[]⟩) (wants Q₁ E) s:=by
 refine codeAny_of_tree (show wpAny _ A.in1 (do checkBuiltinCall "set.__new__" ⟨[.type "set",a],[]⟩; again (.builtin "set.__new__" ⟨[.type "set",a],[]⟩)) _ _ s from ?_)
 refine wpAny_bind (wpAny_of_eq (PySem.F.newCall_set_1 a) (wpAny_pure ⟨plainId_quiet PySem.F.plain_set_new _,codeAny_builtin PySem.F.entry_set_new ?_⟩))
 rw[Around.under_plainId PySem.F.plain_set_new _]
 unfold Builtin.«set.__new__» Builtin.Frozenset.newClass; have hsub:=sub_set_self; obtain⟨hp,g,d,tk,os⟩:=s
 dsimp only
 wp_walk
 refine wpAny_askSetting (wpAny_pure ?_)
 dsimp only
 simp only[newObj]; refine wpAny_bind (wpAny_alloc (wpAny_pure ?_))
 exact wpAny_pure h
end
end L2
namespace L2
open PySem PySem.Spec PyProof.Rows
section
variable {P:Program} {w:World} {A:Around} {E:Value->Shared->Prop} {s:Shared}
set_option maxRecDepth 100000 in
set_option maxHeartbeats 3200000 in
theorem wL {l:Addr} {items:Array Value} {ns:List Int} {Q:Value->Shared->Prop} (hh:A.handled=none) (hl:s.heap.IsList l items) (hi:IntsAre items.toList ns) (hb:items.size+1 < scanBound)
  (h:∀ (h':Heap) (tk:Nat),lA P w (Es w) h' s.heap.objs.size (firstMet (fun i=>ns.getD i 0) items.size)->(∀ b o,b < s.heap.objs.size->s.heap.get? b=some o->h'.get? b=some o)->Q (.ref s.heap.objs.size) { s with heap:=h',toks:=tk }) :
  wpAny (model P w) A (call (.type "set") [.ref l]) Q E s:=by
 obtain⟨c,tl,hmro⟩:=PySem.F.called_set.mro
 have hmade:=PySem.F.called_set.made
 have hsub:=PySem.F.called_set.sub
 refine wpAny_call (codeAny_of_tree (show wpAny _ _ (callAny (.type "set") _) _ _ _ from wpAny_pure ⟨Code.quiet_builtin _ (by decide+kernel),codeAny_builtin PySem.F.entry_type_call ?_⟩))
 rw[Around.under_plain (weight_type_call_type "set" [.ref l] []) rfl]
 have h1:=PySem.F.called_set.notType
 have h2:=PySem.F.called_set.canCreate
 have hct:=PySem.F.typeCall_set_1 (.ref l)
 repeat (any_goals (first | assumption | wp_step))
 refine codeAny_mono (HX (.ref l) (E:=E) (Q₁:=fun obj s₁=>obj = .ref s.heap.objs.size/\s₁={ s with heap:=s.heap.push (newS w) }) ⟨rfl,rfl⟩) fun r s₁ hr=>?_
 cases r with
 | error e=>exact hr
 | ok fl =>
  cases fl with
  | ret obj =>
   obtain⟨rfl,rfl⟩:=hr
   have gS:(s.heap.push (newS w)).get? s.heap.objs.size=some (newS w):=Heap.get?_push_size _ rfl
   have hT:Shared.TypeIs { s with heap:=s.heap.push (newS w) } (.ref s.heap.objs.size) "set":=⟨_,gS,rfl⟩
   have hli:=PySem.F.called_set.init.lookup
   have hbi:=PySem.F.called_set.init.bind (.ref s.heap.objs.size)
   repeat (any_goals (first | assumption | wp_step))
   refine codeAny_mono (codeAny_call_builtin (R:=wants (fun r s₂=>r = .none/\∃ h' tk,s₂={ s with heap:=h',toks:=tk }/\lA P w (Es w) h' s.heap.objs.size (firstMet (fun i=>ns.getD i 0) items.size) ∧
     (∀ b o,b < s.heap.objs.size->s.heap.get? b=some o->h'.get? b=some o)) E) PySem.F.called_set.init.plain PySem.F.entry_set_init (check_set_init_1 hT ?_)) fun r₂ s₂ hr₂=>?_
   ·obtain⟨ol,hol,hcl,nl,hdl⟩:=hl
    obtain⟨ocls,odict,odata,oslots⟩:=ol
    simp only at hcl hdl
    subst hcl hdl
    have hol':(s.heap.push (newS w)).get? l=some { cls:=.type "list",dict:=odict,data:=.seq items nl,slots:=oslots }:=Heap.get?_push_of_some _ hol
    have hsls:=PySem.F.sub_list_set
    have hslf:=PySem.F.sub_list_frozenset
    have hne:(Value.type "list" == Value.type "dict")=false:=by decide
    have hl1:(s.heap.push (newS w)).IsList l items:=⟨_,hol',rfl,nl,rfl⟩
    have gS':(s.heap.push (newS w)).get? s.heap.objs.size=some { cls:=.type "set",dict:=none,data:=.set #[] 0 (.fresh 0 0 (Es w)) }:=gS
    unfold Builtin.«set.__init__» noKeywords Builtin.Frozenset.updateFrom; generalize hPI:pyIter=PI
    wp_walk
    subst hPI
    refine wpAny_pyIter_list hl1 (wpAny_bind (wpAny_runValue ?_))
    have hlS:l < s.heap.objs.size:=Heap.lt_size hol
    have hh3:A.in1.in1.in1.handled=none:=by simp [hh]
    have hneI:l≠(s.heap.push (newS w)).objs.size:=by
     rw[Heap.size_push]
     exact Nat.ne_of_lt (Nat.lt_succ_of_lt hlS)
    have hSf:s.heap.objs.size ∉ [(s.heap.push (newS w)).objs.size,l]:=by
     rw[Heap.size_push,List.mem_cons,List.mem_singleton]
     rintro (z | z)
     ·exact absurd z (Nat.ne_of_lt (Nat.lt_succ_self _))
     ·exact absurd z (Nat.ne_of_gt hlS)
    refine Ed (b:=Es w) ((Walks.list hh3 _ l hneI items).toS) s.heap.objs.size hSf (fun i=>ns.getD i 0) (fun i v hv=>IntsAre.int_at hi i v (by rw[Array.getElem?_toList]; exact hv)) hb (items.size - 0) 0 _ (by lia) (Nat.zero_le _)
     ⟨⟨_,Heap.get?_push_size _ rfl,rfl,rfl⟩,(hl1.push _)⟩ ?hS0 ?hR
    case hS0=>exact⟨newS w,#[],0,_,Heap.get?_push_of_some _ gS,⟨rfl,rfl,rfl⟩,rfl,(fun e he=>by simp at he),rfl,Cu _,[],.nil,.refl _⟩
    case hR =>
     intro s' hm hS'
     obtain⟨h',g',d',tk',os'⟩:=s'
     obtain rfl:g'=s.gens:=hm.gens
     obtain rfl:d'=s.drawn:=hm.drawn
     obtain rfl:os'=s.os:=hm.os
     refine (show wpAny _ _ _ _ _ _ from wpAny_pure (show wpAny _ _ (ret Value.none) _ _ _ from wpAny_pure ⟨rfl,h',tk',rfl,hS',fun b o hb e=>?_⟩))
     refine hm.heap b o ?_ (Heap.get?_push_of_some _ (Heap.get?_push_of_some _ e))
     rw[List.mem_cons,List.mem_singleton,Heap.size_push]
     rintro (z | z)
     ·exact absurd z (Nat.ne_of_lt hb)
     ·exact absurd z (Nat.ne_of_lt (Nat.lt_succ_of_lt hb))
   ·cases r₂ with
    | error e=>exact hr₂
    | ok fl₂ =>
     cases fl₂ with
     | ret r =>
      obtain⟨rfl,h',tk,rfl,hS',hk'⟩:=hr₂
      repeat (any_goals (first | assumption | wp_step))
      exact h h' tk hS' hk'
     | _=>exact hr₂.elim
  | _=>exact hr.elim
end
end L2
namespace L2
open PySem PySem.Spec PyProof.Rows
theorem uF:Manifest.owners.lookup (String.ofList ['r','o','t','a','r','e','t','i','_','t','e','s'].reverse)=some Manifest.sig_set_iterator:=by kernel_rfl
theorem bF:Slot "set_iterator" "__next__" "set_iterator.__next__" :=
 .of (owner:="set_iterator") (n:="__next__") (by rw[typeLookup_type,builtinLookup_eq_fast]; kernel_rfl) (by decide+kernel) (by decide+kernel) (by decide+kernel) (by first | exact .inl (by decide+kernel) | exact .inr (by decide+kernel)) (by rw[isSubtype_type]; kernel_rfl)
theorem eV:entryFor table "set_iterator.__next__" = some Builtin.«set_iterator.__next__»:=entryFor_of_tree (by kernel_rfl)
theorem fQ (a:Value):argsOk "set_iterator.__next__" ⟨[a],[]⟩:=by
 unfold argsOk
 rw[signature?_of (id:="set_iterator.__next__") (n:=['_','_','t','x','e','n','_','_']) (o:=['r','o','t','a','r','e','t','i','_','t','e','s']) (by kernel_rfl) uF]
 kernel_rfl
theorem iY:Slot "set_iterator" "__iter__" "set_iterator.__iter__" :=
 .of (owner:="set_iterator") (n:="__iter__") (by rw[typeLookup_type,builtinLookup_eq_fast]; kernel_rfl) (by decide+kernel) (by decide+kernel) (by decide+kernel) (by first | exact .inl (by decide+kernel) | exact .inr (by decide+kernel)) (by rw[isSubtype_type]; kernel_rfl)
theorem mz:entryFor table "set_iterator.__iter__" = some Builtin.«dict_keyiterator.__iter__»:=entryFor_alias (id':="dict_keyiterator.__iter__") (by kernel_rfl) rfl (by decide+kernel) (by kernel_rfl)
theorem nO (a:Value):argsOk "set_iterator.__iter__" ⟨[a],[]⟩:=by
 unfold argsOk
 rw[signature?_of (id:="set_iterator.__iter__") (n:=['_','_','r','e','t','i','_','_']) (o:=['r','o','t','a','r','e','t','i','_','t','e','s']) (by kernel_rfl) uF]
 kernel_rfl
theorem nj:entryFor table "set.__iter__" = some Builtin.«frozenset.__iter__»:=entryFor_alias (id':="frozenset.__iter__") (by kernel_rfl) rfl (by decide+kernel) (by kernel_rfl)
theorem lB {α:Type}:∀ (l:List α) (j:Nat) (h:j < l.length),(l[j]::l.eraseIdx j).Perm l
 | a::r,0,_=>.refl _
 | a::r,j+1,h=>by
  have ih:=lB r j (Nat.lt_of_succ_lt_succ h)
  rw[List.getElem_cons_succ,List.eraseIdx_cons_succ]
  exact (List.Perm.swap _ _ _).trans (ih.cons a)
theorem uH {α:Type} (nx:Nat->Nat):∀ (fuel k:Nat) (left:List α) (out:Array α),left.length<=fuel->(pickOrder.go nx fuel k left out).toList.Perm (out.toList++left)
 | 0,k,left,out,h=>by
  rw[pickOrder.go]
  have e:left=[]:=List.eq_nil_of_length_eq_zero (by lia)
  subst e
  rw[List.append_nil]
 | fuel+1,k,left,out,h=>by
  rw[pickOrder.go]
  cases hl:left with
  | nil =>
   simp
  | cons a r =>
   have hlen:nx k % (a::r).length < (a::r).length:=Nat.mod_lt _ (by simp)
   rw[List.getElem?_eq_getElem hlen]
   dsimp only
   generalize nx k % (a::r).length=j at hlen ⊢
   have ih:=uH nx fuel (k+1) ((a::r).eraseIdx j) (out.push (a::r)[j]) (by rw[List.length_eraseIdx_of_lt hlen,← hl]; lia)
   refine ih.trans ?_
   rw[Array.toList_push,List.append_assoc]
   refine List.Perm.append (.refl _) ?_
   show ((a::r)[j]::(a::r).eraseIdx j).Perm (a::r)
   exact lB _ j hlen
theorem nT {α:Type} (nx:Nat->Nat) (xs:Array α):(pickOrder nx xs).toList.Perm xs.toList:=by
 unfold pickOrder
 have:=uH nx xs.size 0 xs.toList #[] (by rw[Array.length_toList]; exact Nat.le_refl _)
 simpa using this
section
variable {P:Program} {w:World} {A:Around} {E:Value->Shared->Prop} {s:Shared}
theorem tE {α:Type} {Q:List α->Shared->Prop}:∀ (n:Nat) (xs:List α) (s:Shared),xs.length=n->(∀ ys d,ys.Perm xs->Q ys { s with drawn:=d })->wpAny (model P w) A (drawOrder n xs) Q E s
 | 0,xs,s,h,hq=>by
  rw[drawOrder]
  have e:xs=[]:=List.eq_nil_of_length_eq_zero h
  subst e
  exact wpAny_pure (hq [] s.drawn (.refl _))
 | n+1,[],s,h,hq=>by cases h
 | n+1,x::xs,s,h,hq=>by
  rw[drawOrder]
  ·refine wpAny_bind (fun Γ p hΓ=>?_)
   show Sem.wp _ _ (.choose .order (x::xs).length .pure) _ _ _ _
   rw[Sem.wp_choose]
   refine⟨by simp,?_⟩
   rw[Sem.wp_pure]
   generalize (model P w).w.draws .order (s.drawn.get .order)=z
   have hlen:z % (x::xs).length < (x::xs).length:=Nat.mod_lt _ (by simp)
   generalize z % (x::xs).length=j at hlen ⊢
   show wpAny _ _ _ _ _ _
   rw[List.getElem?_eq_getElem hlen]
   dsimp only
   refine wpAny_bind (tE n ((x::xs).eraseIdx j) _ (by rw[List.length_eraseIdx_of_lt hlen]; rw[List.length_cons] at h ⊢; lia) fun ys d p=>wpAny_pure ?_)
   exact hq _ d ((p.cons _).trans (lB _ j hlen))
  ·simp
end
end L2
namespace L2
open PySem PySem.Spec PyProof.Rows
noncomputable def SIt (h:Heap) (I S:Addr) (f:Value) (i n ep:Nat):Prop:=h.get? I=some { cls:=.type "set_iterator",dict:=none,data:=.fields #[f,.int i 0,.ref S,.int n 0,.int ep 0],slots:=#[] }
section
variable {P:Program} {w:World} {A:Around} {E:Value->Shared->Prop} {s:Shared} {I S:Addr} {o:Obj} {es:Array (Int × Value)} {ep:Nat} {t:SetTable}
theorem rZ {sl:Int} {tk:Tok} {i:Nat} {Q:Option Value->Shared->Prop} {r:Option (Value × Nat)} (hh:A.handled=none) (hI:SIt s.heap I S (.int sl tk) i es.size ep) (hS:s.heap.get? S=some o) (hd:o.data = .set es ep t) (hf:t.fits es.size=true)
  (hn:∀ (A:Around) (E:Value->Shared->Prop) (Q:Option (Value × Nat)->Shared->Prop),Q r s->wpAny (model P w) A (setNext S sl.toNat i ep) Q E s)
  (hs:∀ x j h',r=some (x,j)->SIt h' I S (.int (j:Nat) 0) (i+1) es.size ep->Heap.SameBut I s.heap h'->Q (some x) { s with heap:=h' }) (he:∀ h',r=none->Heap.ExtBut I s.heap h'->Q none { s with heap:=h' }):wpAny (model P w) A (pyNext (.ref I)) Q E s:=by
 have hT:s.TypeIs (.ref I) "set_iterator":=⟨_,hI,rfl⟩
 unfold pyNext
 refine wpAny_bind (wpAny_attempt (wpAny_callSpecial?_slot (name:=Str.ofString "__next__") hT bF (wpAny_call_entry bF hT eV ?_ (fQ _))))
 refine (show wpAny _ _ (fieldsOf (.ref I) >>= _) _ _ s from wpAny_bind (wpAny_fieldsOf hI rfl ?_))
 refine (show wpAny _ _ (setEntries S >>= _) _ _ s from wpAny_bind (wpAny_setEntries_of hS hd hf ?_))
 rw[if_neg (by simp)]
 refine (show wpAny _ _ (setNext S sl.toNat (i:Int).toNat (ep:Int).toNat >>= _) _ _ s from wpAny_bind ?_)
 rw[Int.toNat_natCast,Int.toNat_natCast]
 refine hn _ _ _ ?_
 cases hr:r with
 | some xj =>
  obtain⟨x,j⟩:=xj
  dsimp only
  refine wpAny_bind (wpAny_setField hI rfl (by simp) ?_)
  have g1:=Heap.get?_update_self (Obj.mapFields (·.setIfInBounds 0 (rawInt (j:Int)))) hI rfl
  refine wpAny_bind (wpAny_setField g1 rfl (by simp) ?_)
  have g2:=Heap.get?_update_self (Obj.mapFields (·.setIfInBounds 1 (rawInt ((i:Int)+1)))) g1 rfl
  refine wpAny_pure ⟨x,rfl,wpAny_pure (hs x j _ hr ?_ ((Heap.SameBut.update ..).trans (Heap.SameBut.update ..)))⟩
  exact g2
 | none =>
  dsimp only
  refine wpAny_bind (wpAny_setField hI rfl (by simp) ?_)
  refine (show wpAny _ _ (newExc (.type "StopIteration") [] >>= _) _ _ _ from wpAny_bind ?_)
  simp only[newExc,newTuple]
  refine wpAny_bind (wpAny_newObj_type ?_ (by size_fits))
  refine wpAny_bind (m:=firstArgMember _ _) (wpAny_of_eq (a:=Value.none) (by first | rfl | (simp only[firstArgMember]; rfl)) (wpAny_newObj_type ?_ (by size_fits)))
  simp only[raiseNew]
  refine wpAny_bind (wpAny_handled ?_)
  first | rw[show A.in1.handled=none from hh] | rw[hh]
  refine wpAny_bind (wpAny_pure (wpAny_throw ?_))
  refine wpAny_bind (wpAny_isInstance (T:="StopIteration") (b:=true) ⟨_,Heap.get?_push_size _ rfl,rfl⟩ isSubtype_stop (wpAny_pure ?_))
  exact he _ hr (((Heap.SameBut.update ..).extBut.push _).push _)
end
end L2
namespace L2
open PySem PySem.Spec PyProof.Rows
section
variable {P:Program} {w:World} {A:Around} {E:Value->Shared->Prop} {s:Shared} {I S:Addr} {o:Obj} {es:Array (Int × Value)} {ep:Nat} {t:SetTable}
theorem tO {sl i:Nat} {Q:Option (Value × Nat)->Shared->Prop} (hb:w.params.followText "set-order" = true) (hS:s.heap.get? S=some o) (hd:o.data = .set es ep t) (hf:t.fits es.size=true)
  (h:Q (((pickOrder (w.params.setOrder S ep) es)[i]?).map fun e=>(e.2,sl)) s):wpAny (model P w) A (setNext S sl i ep) Q E s:=by
 unfold setNext
 refine wpAny_bind (wpAny_setState_of hS hd hf ?_)
 dsimp only
 unfold setsByText
 refine wpAny_bind (wpAny_bind (wpAny_askSetting (wpAny_pure ?_)))
 rw[if_pos (show (model P w).w.params.followText "set-order" = true from hb),if_neg (by simp)]
 unfold setWalk
 refine wpAny_bind (wpAny_bind (wpAny_setState_of hS hd hf ?_))
 dsimp only
 unfold setsByText
 refine wpAny_bind (wpAny_bind (wpAny_askSetting (wpAny_pure ?_)))
 rw[if_pos (show (model P w).w.params.followText "set-order" = true from hb)]
 exact wpAny_bind (wpAny_askSetting (wpAny_pure (wpAny_pure h)))
theorem ql {sl i:Nat} {Q:Option (Value × Nat)->Shared->Prop} (hb:w.params.followText "set-order" = false) (hS:s.heap.get? S=some o) (hd:o.data = .set es ep t) (hf:t.fits es.size=true) (hl:t.led=true)
  (hp:t.plain=true∨es.size<=1) (hi:SetTable.below t.place sl=i)
  (h:Q (match es[i]?,t.place[i]? with | some (_,x),some j=>some (x,j+1) | _,_=>none) s):wpAny (model P w) A (setNext S sl i ep) Q E s:=by
 unfold setNext
 refine wpAny_bind (wpAny_setState_of hS hd hf ?_)
 dsimp only
 unfold setsByText
 refine wpAny_bind (wpAny_bind (wpAny_askSetting (wpAny_pure ?_)))
 rw[if_neg (show ¬ (model P w).w.params.followText "set-order" = true by rw[show (model P w).w.params.followText "set-order" = false from hb]; exact Bool.false_ne_true)]
 have hdr:(!t.plain && decide (es.size > 1))=false:=by
  rcases hp with q | q
  ·rw[q]
   rfl
  ·rw[decide_eq_false (by lia),Bool.and_false]
 refine wpAny_ite_false (show decide ((!t.plain && decide (es.size > 1))=true)=false from decide_eq_false (by rw[hdr]; exact Bool.false_ne_true)) ?_
 refine wpAny_bind (show wpAny _ _ (if (!t.led && !es.isEmpty)=true then unsupported "set:maker-not-led" else pure ()) _ _ _ from ?_)
 rw[hl]
 refine wpAny_ite_false (decide_eq_false (by simp)) (wpAny_pure (wpAny_pure ?_))
 rw[hi]
 exact h
theorem qP {f:Value} {i n:Nat} {Q:Value->Shared->Prop} (hI:SIt s.heap I S f i n ep) (h:Q (.ref I) s):wpAny (model P w) A (pyIter (.ref I)) Q E s:=by
 have hT:s.TypeIs (.ref I) "set_iterator":=⟨_,hI,rfl⟩
 refine wpAny_pyIter_slot hT iY (wpAny_call_entry iY hT mz (show wpAny _ _ (ret (.ref I)) _ _ s from ?_) (nO _))
 exact wpAny_pure ⟨_,rfl,"set_iterator",_,hT,bF.lookup,h⟩
theorem Ck (hh:A.handled=none) (hne:S≠I) (hb:w.params.followText "set-order" = true) (hd:o.data = .set es ep t) (hf:t.fits es.size=true) :
  Walks P w A I [I,S] [I] es.size (fun i v=>((pickOrder (w.params.setOrder S ep) es).toList.map (·.2))[i]? = some v) (fun i h=>(∃ (sl:Nat) (tk:Tok),SIt h I S (.int (sl:Int) tk) i es.size ep)/\h.get? S=some o) where
 sub:=fun b hb=>by simp at hb; simp [hb]
 frame:=fun i h h' st hk=>by
  obtain⟨⟨sl,tk,hI⟩,hS⟩:=st
  exact⟨⟨sl,tk,hk I (by simp) _ hI⟩,hk S (by simp) _ hS⟩
 item:=fun i s Q E hi st hQ=>by
  obtain⟨⟨sl,tk,hI⟩,hS⟩:=st
  have pl:(pickOrder (w.params.setOrder S ep) es).size=es.size:=by
   have:=(nT (w.params.setOrder S ep) es).length_eq
   simpa using this
  have hx:(pickOrder (w.params.setOrder S ep) es)[i]? = some ((pickOrder (w.params.setOrder S ep) es)[i]'(by lia)):=Array.getElem?_eq_getElem _
  generalize (pickOrder (w.params.setOrder S ep) es)[i]'(by lia)=x at hx
  refine rZ (r:=some (x.2,sl)) hh hI hS hd hf (fun A E Q q=>?_) (fun v j h' hr hI' sb=>?_) (fun h' hr _=>by cases hr)
  ·refine tO hb hS hd hf ?_
   rw[Int.toNat_natCast,hx]
   exact q
  ·cases hr
   refine hQ _ h' s.toks ?_ ⟨⟨sl,0,hI'⟩,sb.2 S hne▸hS⟩ fun b o' hb' e=>?_
   ·rw[List.getElem?_map,Array.getElem?_toList,hx]
    rfl
   ·rw[sb.2 b (fun z=>hb' (by rw[z]; exact List.mem_singleton.mpr rfl))]
    exact e
 done:=fun s Q E st hQ=>by
  obtain⟨⟨sl,tk,hI⟩,hS⟩:=st
  have pl:(pickOrder (w.params.setOrder S ep) es).size=es.size:=by
   have:=(nT (w.params.setOrder S ep) es).length_eq
   simpa using this
  refine rZ (r:=none) hh hI hS hd hf (fun A E Q q=>?_) (fun v j h' hr=>by cases hr) (fun h' _ hx=>?_)
  ·refine tO hb hS hd hf ?_
   rw[Array.getElem?_eq_none (by lia)]
   exact q
  ·exact hQ h' s.toks fun b o' hb' e=>hx b o' (fun z=>hb' (by rw[z]; exact List.mem_singleton.mpr rfl)) e
 self:=fun i s Q E st hQ=>by
  obtain⟨⟨sl,tk,hI⟩,_⟩:=st
  exact qP hI hQ
noncomputable def slotAt (pl:Array Nat):Nat->Nat
 | 0=>0
 | i+1=>pl.getD i 0+1
theorem lQ {pl:Array Nat} (h:Ris pl):∀ {i:Nat},i<=pl.size->SetTable.below pl (slotAt pl i)=i
 | 0,_=>zN h
 | i+1,hi=>by
  have e:pl[i]? = some (pl.getD i 0):=by
   rw[Array.getElem?_eq_getElem (by lia),Array.getD_eq_getD_getElem?,Array.getElem?_eq_getElem (by lia)]
   rfl
  exact below_at h e
theorem yO (hh:A.handled=none) (hne:S≠I) (hb:w.params.followText "set-order" = false) (hd:o.data = .set es ep t) (hf:t.fits es.size=true) (hl:t.led=true) (hp:t.plain=true∨es.size<=1) (hr:Ris t.place) :
  Walks P w A I [I,S] [I] es.size (fun i v=>(es.toList.map (·.2))[i]? = some v) (fun i h=>(∃ tk:Tok,SIt h I S (.int (slotAt t.place i:Nat) tk) i es.size ep)/\h.get? S=some o) where
 sub:=fun b hb=>by simp at hb; simp [hb]
 frame:=fun i h h' st hk=>by
  obtain⟨⟨tk,hI⟩,hS⟩:=st
  exact⟨⟨tk,hk I (by simp) _ hI⟩,hk S (by simp) _ hS⟩
 item:=fun i s Q E hi st hQ=>by
  obtain⟨⟨tk,hI⟩,hS⟩:=st
  have ps:t.place.size=es.size:=by
   simp only[SetTable.fits,Bool.and_eq_true,beq_iff_eq] at hf
   exact hf.1
  have hx:es[i]? = some es[i]:=Array.getElem?_eq_getElem hi
  have hj:t.place[i]? = some (t.place.getD i 0):=by
   rw[Array.getElem?_eq_getElem (by lia),Array.getD_eq_getD_getElem?,Array.getElem?_eq_getElem (by lia)]
   rfl
  generalize es[i]=x at hx
  obtain⟨k,v⟩:=x
  refine rZ (r:=some (v,t.place.getD i 0+1)) hh hI hS hd hf (fun A E Q q=>?_) (fun u j h' hr hI' sb=>?_) (fun h' hr _=>by cases hr)
  ·refine ql hb hS hd hf hl hp (i:=i) (by rw[Int.toNat_natCast]; exact lQ hr (by lia)) ?_
   rw[hx,hj]
   exact q
  ·cases hr
   refine hQ _ h' s.toks ?_ ⟨⟨0,hI'⟩,sb.2 S hne▸hS⟩ fun b o' hb' e=>?_
   ·rw[List.getElem?_map,Array.getElem?_toList,hx]
    rfl
   ·rw[sb.2 b (fun z=>hb' (by rw[z]; exact List.mem_singleton.mpr rfl))]
    exact e
 done:=fun s Q E st hQ=>by
  obtain⟨⟨tk,hI⟩,hS⟩:=st
  have ps:t.place.size=es.size:=by
   simp only[SetTable.fits,Bool.and_eq_true,beq_iff_eq] at hf
   exact hf.1
  refine rZ (r:=none) hh hI hS hd hf (fun A E Q q=>?_) (fun v j h' hr=>by cases hr) (fun h' _ hx=>?_)
  ·refine ql hb hS hd hf hl hp (i:=es.size) (by rw[Int.toNat_natCast]; exact lQ hr (by lia)) ?_
   rw[Array.getElem?_eq_none (Nat.le_refl _)]
   exact q
  ·exact hQ h' s.toks fun b o' hb' e=>hx b o' (fun z=>hb' (by rw[z]; exact List.mem_singleton.mpr rfl)) e
 self:=fun i s Q E st hQ=>by
  obtain⟨⟨tk,hI⟩,_⟩:=st
  exact qP hI hQ
end
end L2
namespace L2
open PySem PySem.Spec PyProof.Rows
section
variable {P:Program} {w:World} {A:Around} {E:Value->Shared->Prop} {s:Shared} {I S T:Addr} {o:Obj} {es:Array (Int × Value)} {ep:Nat} {t:SetTable}
noncomputable def cW (pl:List Nat):List Value:=pl.map fun j:Nat=>rawInt (j:Int)
theorem zj {pl:List Nat} (hh:A.handled=none) (hne:S≠I) (hnt:T≠I) (hd:o.data = .set es ep t) (hf:t.fits es.size=true) (hp:pl.Perm (List.range es.size)) :
  Walks P w A I [I,S,T] [I] es.size (fun i v=>(pl.map fun j=>(es.getD j (0,.none)).2)[i]? = some v) (fun i h=>SIt h I S (.ref T) i es.size ep/\h.get? S=some o/\h.IsTuple T (cW pl).toArray) where
 sub:=fun b hb=>by simp at hb; simp [hb]
 frame:=fun i h h' st hk=>by
  obtain⟨hI,hS,o',ho',r⟩:=st
  exact⟨hk I (by simp) _ hI,hk S (by simp) _ hS,o',hk T (by simp) _ ho',r⟩
 item:=fun i s Q E hi st hQ=>by
  obtain⟨hI,hS,hT⟩:=st
  have lp:pl.length=es.size:=by rw[hp.length_eq,List.length_range]
  have hT0:s.TypeIs (.ref I) "set_iterator":=⟨_,hI,rfl⟩
  obtain⟨j,hj⟩:∃ j,pl[i]? = some j:=⟨pl[i],List.getElem?_eq_getElem (by lia)⟩
  have hj2:j < es.size:=List.mem_range.mp (hp.mem_iff.mp (List.mem_of_getElem? hj))
  have hx:es[j]? = some (es.getD j (0,.none)):=by
   rw[Array.getElem?_eq_getElem hj2,Array.getD_eq_getD_getElem?,Array.getElem?_eq_getElem hj2]
   rfl
  obtain⟨ot,hot,hct,nt,hdt⟩:=id hT
  unfold pyNext
  refine wpAny_bind (wpAny_attempt (wpAny_callSpecial?_slot (name:=Str.ofString "__next__") hT0 bF (wpAny_call_entry bF hT0 eV ?_ (fQ _))))
  refine (show wpAny _ _ (fieldsOf (.ref I) >>= _) _ _ s from wpAny_bind (wpAny_fieldsOf hI rfl ?_))
  refine (show wpAny _ _ (setEntries S >>= _) _ _ s from wpAny_bind (wpAny_setEntries_of hS hd hf ?_))
  rw[if_neg (by simp)]
  refine (show wpAny _ _ (seqItems? (.ref T) >>= _) _ _ s from wpAny_bind (wpAny_seqItems hot hdt ?_))
  have hpl:(cW pl).toArray[(i:Int).toNat]? = some (.int (j:Int) 0):=by
   rw[Int.toNat_natCast,List.getElem?_toArray]
   show (pl.map fun j:Nat=>rawInt (j:Int))[i]? = _
   rw[List.getElem?_map,hj]
   rfl
  dsimp only
  rw[hpl]
  dsimp only
  refine wpAny_bind (show wpAny _ _ (setNextDrawn S (j:Int).toNat (ep:Int).toNat) _ _ _ from ?_)
  unfold setNextDrawn
  refine wpAny_bind (wpAny_setState_of hS hd hf ?_)
  dsimp only
  rw[Int.toNat_natCast,Int.toNat_natCast,if_neg (by simp),hx]
  refine wpAny_pure (wpAny_bind (wpAny_setField hI rfl (by simp) ?_))
  have g1:=Heap.get?_update_self (Obj.mapFields (·.setIfInBounds 1 (rawInt ((i:Int)+1)))) hI rfl
  refine wpAny_pure ⟨_,rfl,wpAny_pure (hQ _ _ s.toks ?_ ⟨g1,?_,?_⟩ fun b o' hb' e=>?_)⟩
  ·rw[List.getElem?_map,hj]
   rfl
  ·rw[Heap.get?_update_other _ _ (Ne.symm hne)]
   exact hS
  ·exact⟨ot,by rw[Heap.get?_update_other _ _ (Ne.symm hnt)]; exact hot,hct,nt,hdt⟩
  ·rw[Heap.get?_update_other _ _ (fun z:I=b=>hb' (by rw[z]; exact List.mem_singleton.mpr rfl))]
   exact e
 done:=fun s Q E st hQ=>by
  obtain⟨hI,hS,hT⟩:=st
  have lp:pl.length=es.size:=by rw[hp.length_eq,List.length_range]
  have hT0:s.TypeIs (.ref I) "set_iterator":=⟨_,hI,rfl⟩
  obtain⟨ot,hot,hct,nt,hdt⟩:=id hT
  unfold pyNext
  refine wpAny_bind (wpAny_attempt (wpAny_callSpecial?_slot (name:=Str.ofString "__next__") hT0 bF (wpAny_call_entry bF hT0 eV ?_ (fQ _))))
  refine (show wpAny _ _ (fieldsOf (.ref I) >>= _) _ _ s from wpAny_bind (wpAny_fieldsOf hI rfl ?_))
  refine (show wpAny _ _ (setEntries S >>= _) _ _ s from wpAny_bind (wpAny_setEntries_of hS hd hf ?_))
  rw[if_neg (by simp)]
  refine (show wpAny _ _ (seqItems? (.ref T) >>= _) _ _ s from wpAny_bind (wpAny_seqItems hot hdt ?_))
  have hpl:(cW pl).toArray[(es.size:Int).toNat]? = none:=by
   rw[Int.toNat_natCast,List.getElem?_toArray]
   show (pl.map fun j:Nat=>rawInt (j:Int))[es.size]? = _
   rw[List.getElem?_map,List.getElem?_eq_none (by lia)]
   rfl
  dsimp only
  rw[hpl]
  dsimp only
  refine wpAny_bind (wpAny_setField hI rfl (by simp) ?_)
  have g1:=Heap.get?_update_self (Obj.mapFields (·.setIfInBounds 0 (rawInt 0))) hI rfl
  refine wpAny_bind (wpAny_setField g1 rfl (by simp) ?_)
  refine (show wpAny _ _ (newExc (.type "StopIteration") [] >>= _) _ _ _ from wpAny_bind ?_)
  simp only[newExc,newTuple]
  refine wpAny_bind (wpAny_newObj_type ?_ (by size_fits))
  refine wpAny_bind (m:=firstArgMember _ _) (wpAny_of_eq (a:=Value.none) (by first | rfl | (simp only[firstArgMember]; rfl)) (wpAny_newObj_type ?_ (by size_fits)))
  simp only[raiseNew]
  refine wpAny_bind (wpAny_handled ?_)
  first | rw[show A.in1.handled=none from hh] | rw[hh]
  refine wpAny_bind (wpAny_pure (wpAny_throw ?_))
  refine wpAny_bind (wpAny_isInstance (T:="StopIteration") (b:=true) ⟨_,Heap.get?_push_size _ rfl,rfl⟩ isSubtype_stop (wpAny_pure ?_))
  refine hQ _ s.toks fun b o' hb' e=>?_
  have hbI:b≠I:=fun z=>hb' (by rw[z]; exact List.mem_singleton.mpr rfl)
  exact ((((Heap.SameBut.update ..).trans (Heap.SameBut.update ..)).extBut.push _).push _) b o' hbI e
 self:=fun i s Q E st hQ=>qP st.1 hQ
end
end L2
namespace L2
open PySem PySem.Spec PyProof.Rows
section
variable {P:Program} {w:World} {A:Around} {E:Value->Shared->Prop} {s:Shared} {S:Addr}
theorem Eu {Q:Bool->Shared->Prop} (hT:s.TypeIs (.ref S) "set") (h:Q false s):wpAny (model P w) A (Builtin.List.listLengthHint (.ref S)) Q E s:=by
 unfold Builtin.List.listLengthHint; refine wpAny_bind (wpAny_specialOf hT PySem.F.slot_set_len.lookup ?_)
 generalize hid:("set.__len__" : String)=id0
 wp_delta
 rw[show splitId id0=some ("set","__len__") from by subst hid; decide+kernel]
 subst hid
 refine wpAny_bind (wpAny_isInstance (T:="set") (b:=true) hT (by rw[isSubtype_type]; kernel_rfl) ?_)
 refine wpAny_ite_split (fun z=>absurd z (by decide)) (fun _=>wpAny_ite_split (fun _=>?_) (fun z=>absurd (by decide+kernel) z))
 exact wpAny_bind (wpAny_typeOf hT (wpAny_pure h))
theorem Fp {b:Bool} {ks:List Int} {Q:Value->Shared->Prop} (hh:A.handled=none) (hb:b=Es w) (hS:lA P w b s.heap S ks) (hz:ks.length<=sizeLine)
  (h:∀ (I:Addr) (fp:List Addr) (n:Nat) (vs:List Value) (ns:List Int) (St:Nat->Heap->Prop) (s':Shared),Walks P w A I fp [I] n (fun i v=>vs[i]? = some v) St->St 0 s'.heap->IntsAre vs ns->ns.Perm ks->vs.length=n->(∀ x∈fp,x=S∨s.heap.objs.size<=x)->s.heap.objs.size<=I →
   s'.os=s.os->s'.gens=s.gens->(∀ b o,s.heap.get? b=some o->s'.heap.get? b=some o)->Q (.ref I) s'):wpAny (model P w) A (pyIter (.ref S)) Q E s:=by
 obtain⟨o,es,ep,t,ho,hx,hd,hel,hf,tk,ns,hi,hp⟩:=hS
 have hT:s.TypeIs (.ref S) "set":=⟨o,ho,hx.1⟩
 have hlt:S < s.heap.objs.size:=Heap.lt_size ho
 refine wpAny_pyIter_slot hT PySem.F.slot_set_iter (wpAny_call_entry PySem.F.slot_set_iter hT nj ?_ (PySem.F.args_set_iter_1 _))
 refine (show wpAny _ _ (Builtin.Frozenset.sizeOf S >>= _) _ _ s from ?_)
 unfold Builtin.Frozenset.sizeOf
 refine wpAny_bind (wpAny_bind (wpAny_setEntries_of ho hd hf (wpAny_pure ?_)))
 unfold setDrawn setsByText
 refine wpAny_bind (wpAny_bind (wpAny_setState_of ho hd hf ?_))
 dsimp only
 refine wpAny_bind (wpAny_bind (wpAny_askSetting (wpAny_pure (wpAny_pure ?_))))
 have hps:t.place.size=es.size:=by
  simp only[SetTable.fits,Bool.and_eq_true,beq_iff_eq] at hf
  exact hf.1
 have hlen:(es.toList.map (·.2)).length=es.size:=by rw[List.length_map,Array.length_toList]
 have hez:es.size<=sizeLine:=by
  have h1:=hi.length
  have h2:=hp.length_eq
  lia
 have start:∀ (vs:List Value) (ns':List Int) (St:Nat->Heap->Prop),Walks P w A s.heap.objs.size [s.heap.objs.size,S] [s.heap.objs.size] es.size (fun i v=>vs[i]? = some v) St->(∀ h,SIt h s.heap.objs.size S (.int (0:Nat) 0) 0 es.size ep->h.get? S=some o->St 0 h) →
   IntsAre vs ns'->ns'.Perm ks->vs.length=es.size->wpAny (model P w) A.in1 (do
    let first ← pure (rawInt 0)
    let e ← setEpoch S
    let r ← newFields "set_iterator" [first,rawInt 0,Value.ref S,rawInt (es.size:Int),rawInt (e:Int)]
    ret r) (fun fin s'=>∃ v,fin=Fin.done (Flow.ret v)/\∃ T' r,s'.TypeIs v T'/\typeLookup (Value.type T') (Str.ofString "__next__")=pure (some r)/\Q v s') E s:=fun vs ns' St W hst hi' hp' hl'=>by
  refine wpAny_bind (wpAny_pure (wpAny_bind (wpAny_setEpoch_of ho hd hf (wpAny_bind (wpAny_newObj_type (wpAny_pure ?_))))))
  have g:(s.heap.push { cls:=.type "set_iterator",data:=.fields [rawInt 0,rawInt 0,Value.ref S,rawInt (es.size:Int),rawInt (ep:Int)].toArray }).get? s.heap.objs.size=some { cls:=.type "set_iterator",data:=.fields [rawInt 0,rawInt 0,Value.ref S,rawInt (es.size:Int),rawInt (ep:Int)].toArray }:=Heap.get?_push_size _ rfl
  refine⟨_,rfl,"set_iterator",_,⟨_,g,rfl⟩,bF.lookup,?_⟩
  refine h s.heap.objs.size [s.heap.objs.size,S] es.size vs ns' St _ W (hst _ g (Heap.get?_push_of_some _ ho)) hi' hp' hl' (fun x hx'=>?_) (Nat.le_refl _) rfl rfl fun b' o' e=>Heap.get?_push_of_some _ e
  rcases List.mem_cons.mp hx' with rfl | hx'
  ·exact .inr (Nat.le_refl _)
  ·exact .inl (List.mem_singleton.mp hx')
 have hne:S≠s.heap.objs.size:=Nat.ne_of_lt hlt
 cases hB:w.params.followText "set-order" with
 | true =>
  refine wpAny_ite_false (decide_eq_false (show ¬ (!w.params.followText "set-order" && (!t.plain && decide (es.size > 1)))=true by rw[hB]; exact Bool.false_ne_true)) ?_
  have pp:=nT (w.params.setOrder S ep) es
  obtain⟨ms,h1,h2⟩:=gM (pp.symm.map (·.2)) hi
  exact start _ ms _ (Ck hh hne hB hd hf) (fun h' q1 q2=>⟨⟨0,0,q1⟩,q2⟩) h1 (h2.trans hp) (by rw[List.length_map,pp.length_eq,Array.length_toList])
 | false =>
  have hled:t.led=true:=by
   rw[tk.led,hb]
   unfold Es
   rw[hB]
   rfl
  cases hD:(!t.plain && decide (es.size > 1)) with
  | false =>
   refine wpAny_ite_false (decide_eq_false (show ¬ (!w.params.followText "set-order" && (!t.plain && decide (es.size > 1)))=true by rw[hD,Bool.and_false]; exact Bool.false_ne_true)) ?_
   have hpl:t.plain=true∨es.size<=1:=by
    rw[Bool.and_eq_false_iff] at hD
    rcases hD with q | q
    ·exact .inl (by simpa using q)
    ·exact .inr (by have:=of_decide_eq_false q; lia)
   have hris:Ris t.place:=by
    rcases hpl with q | q
    ·exact tk.ris q
    ·unfold Ris
     have hl1:t.place.toList.length<=1:=by rw[Array.length_toList]; lia
     generalize t.place.toList=l at hl1
     match l,hl1 with
     | [],_=>exact List.Pairwise.nil
     | [x],_=>exact List.pairwise_singleton _ _
   exact start _ ns _ (yO hh hne hB hd hf hled hpl hris) (fun h' q1 q2=>⟨⟨0,q1⟩,q2⟩) hi hp hlen
  | true =>
   refine wpAny_ite_true (decide_eq_true (show (!w.params.followText "set-order" && (!t.plain && decide (es.size > 1)))=true by rw[hD,hB]; rfl)) ?_
   refine wpAny_bind (tE es.size (List.range es.size) s List.length_range fun pl d pp=>?_)
   simp only[newTuple]
   have lp:pl.length=es.size:=by rw[pp.length_eq,List.length_range]
   refine wpAny_bind (wpAny_newObj_type ?_ (show (cW pl).toArray.size<=sizeLine by unfold cW; rw[List.size_toArray,List.length_map]; lia))
   have sz1:(s.heap.push { cls:=.type "tuple",data:=.seq (cW pl).toArray }).objs.size=s.heap.objs.size+1:=Heap.size_push _ _
   have gT:(s.heap.push { cls:=.type "tuple",data:=.seq (cW pl).toArray }).get? s.heap.objs.size=some { cls:=.type "tuple",data:=.seq (cW pl).toArray }:=Heap.get?_push_size _ rfl
   have ho1:(s.heap.push { cls:=.type "tuple",data:=.seq (cW pl).toArray }).get? S=some o:=Heap.get?_push_of_some _ ho
   refine wpAny_bind (wpAny_setEpoch_of (o:=o) (es:=es) (t:=t) ho1 hd hf (wpAny_bind (wpAny_newObj_type (wpAny_pure ?_))))
   have g:((s.heap.push { cls:=.type "tuple",data:=.seq (cW pl).toArray }).push { cls:=.type "set_iterator",data:=.fields [Value.ref s.heap.objs.size,rawInt 0,Value.ref S,rawInt (es.size:Int),rawInt (ep:Int)].toArray }).get? (s.heap.push { cls:=.type "tuple",data:=.seq (cW pl).toArray }).objs.size=some { cls:=.type "set_iterator",data:=.fields [Value.ref s.heap.objs.size,rawInt 0,Value.ref S,rawInt (es.size:Int),rawInt (ep:Int)].toArray }:=Heap.get?_push_size _ rfl
   refine⟨_,rfl,"set_iterator",_,⟨_,g,rfl⟩,bF.lookup,?_⟩
   have hne1:S≠(s.heap.push { cls:=.type "tuple",data:=.seq (cW pl).toArray }).objs.size:=by
    rw[sz1]
    exact Nat.ne_of_lt (Nat.lt_succ_of_lt hlt)
   have hne2:s.heap.objs.size≠(s.heap.push { cls:=.type "tuple",data:=.seq (cW pl).toArray }).objs.size:=by
    rw[sz1]
    exact Nat.ne_of_lt (Nat.lt_succ_self _)
   have hv:(pl.map fun j=>(es.getD j (0,.none)).2).Perm (es.toList.map (·.2)):=by
    refine (pp.map _).trans ?_
    have e:(List.range es.size).map (fun j=>(es.getD j (0,Value.none)).2)=es.toList.map (·.2):=by
     apply List.ext_getElem?
     intro i
     have ea:es.toList[i]? = es[i]?:=Array.getElem?_toList
     rw[List.getElem?_map,List.getElem?_map,ea]
     by_cases hi':i < es.size
     ·rw[List.getElem?_range hi',Array.getElem?_eq_getElem hi']
      simp [Array.getD_eq_getD_getElem?,Array.getElem?_eq_getElem hi']
     ·have er:(List.range es.size)[i]? = none:=List.getElem?_eq_none (by rw[List.length_range]; lia)
      rw[er,Array.getElem?_eq_none (by lia)]
      rfl
    rw[e]
   have le1:s.heap.objs.size<=(s.heap.push { cls:=.type "tuple",data:=.seq (cW pl).toArray }).objs.size:=by
    rw[sz1]
    exact Nat.le_succ _
   obtain⟨ms,h1,h2⟩:=gM hv.symm hi
   refine h _ [(s.heap.push { cls:=.type "tuple",data:=.seq (cW pl).toArray }).objs.size,S,s.heap.objs.size] es.size _ ms _ _ (zj (T:=s.heap.objs.size) hh hne1 hne2 hd hf pp) ⟨g,Heap.get?_push_of_some _ ho1,_,Heap.get?_push_of_some _ gT,rfl,0,rfl⟩ h1 (h2.trans hp) (by rw[List.length_map]; exact lp) (fun x hx'=>?_) le1 rfl rfl fun b' o' e=>Heap.get?_push_of_some _ (Heap.get?_push_of_some _ e)
   rcases List.mem_cons.mp hx' with rfl | hx'
   ·exact .inr le1
   ·rcases List.mem_cons.mp hx' with rfl | hx'
    ·exact .inl rfl
    ·exact .inr (by rw[List.mem_singleton.mp hx']; exact Nat.le_refl _)
theorem vA {ks:List Int} {Q:List Value->Shared->Prop} (hh:A.handled=none) (hS:lA P w (Es w) s.heap S ks) (hz:ks.length<=sizeLine)
  (h:∀ (vs:List Value) (ns:List Int) (s':Shared),IntsAre vs ns->ns.Perm ks->s.heap.objs.size<=s'.heap.objs.size->s'.os=s.os->s'.gens=s.gens->(∀ b o,s.heap.get? b=some o->s'.heap.get? b=some o)->Q vs s'):wpAny (model P w) A (collect (.ref S)) Q E s:=by
 obtain⟨o,es,ep,t,ho,hx,_⟩:=id hS
 have hlt:S < s.heap.objs.size:=Heap.lt_size ho
 have hSl:s.heap.objs.size≠S:=Nat.ne_of_gt hlt
 unfold collect
 refine wpAny_bind (wpAny_runValue (codeAny_builtin PySem.F.entry_proto_collect ?_))
 rw[Around.under_plainId PySem.F.plain_proto_collect _]
 refine (show wpAny _ A.in1 (newList [] >>= fun l=>again (.builtin "list.__iadd__" ⟨[l,.ref S],[]⟩)) _ _ s from wpAny_bind (wpAny_newObj_type ?_))
 refine wpAny_pure ⟨plainId_quiet PySem.F.plain_list_iadd _,codeAny_builtin PySem.F.entry_list_iadd ?_⟩
 rw[Around.under_plainId PySem.F.plain_list_iadd _]
 generalize hN:s.heap.push { cls:=.type "list",data:=.seq ([]:List Value).toArray }=h1
 have gL:h1.get? s.heap.objs.size=some { cls:=.type "list",data:=.seq ([]:List Value).toArray }:=by rw[← hN]; exact Heap.get?_push_size _ rfl
 have k1:∀ b o,s.heap.get? b=some o->h1.get? b=some o:=fun b o e=>by rw[← hN]; exact Heap.get?_push_of_some _ e
 have sz1:h1.objs.size=s.heap.objs.size+1:=by rw[← hN]; exact Heap.size_push _ _
 have hT:Shared.TypeIs { s with heap:=h1 } (.ref S) "set":=⟨o,k1 _ _ ho,hx.1⟩
 refine (show wpAny _ A.in1 (Builtin.List.listExtendWith (.ref s.heap.objs.size) (.ref S) (.ref s.heap.objs.size)) _ _ { s with heap:=h1 } from ?_)
 unfold Builtin.List.listExtendWith; refine wpAny_bind (wpAny_typeOf hT ?_)
 have q1:Builtin.List.listSameRef (.ref s.heap.objs.size) (.ref S)=false:=by simp [Builtin.List.listSameRef,hSl]
 have q2:(Value.type "set" == Value.type "list")=false:=by decide
 have q3:(Value.type "set" == Value.type "tuple")=false:=by decide
 simp only[q1,q2,q3,Bool.or_false,Bool.false_eq_true,if_false]
 refine wpAny_bind (Fp (s:={ s with heap:=h1 }) hh rfl (km (fun o e=>k1 S o e) hS) hz fun I fp n vs ns St s2 W st hi hp hl hfp hI os2 gs2 k2=>?_)
 have gL2:=k2 _ _ gL
 have hTs:s2.TypeIs (.ref S) "set":=⟨o,k2 _ _ (k1 _ _ ho),hx.1⟩
 have hLf:s.heap.objs.size ∉ fp:=fun z=>by
  rcases hfp _ z with q | q
  ·exact hSl q
  ·have q':h1.objs.size<=s.heap.objs.size:=q
   rw[sz1] at q'
   exact absurd q' (Nat.not_succ_le_self _)
 have hz':n<=sizeLine:=by
  have e1:=hi.length
  have e2:=hp.length_eq
  lia
 have key:∀ (R:Result->Shared->Prop),(∀ (s':Shared) (c':Nat),s'.heap.get? s.heap.objs.size=some { cls:=.type "list",dict:=none,data:=.seq vs.toArray c',slots:=#[] }->s'.os=s.os->s'.gens=s.gens->(∀ b o,s.heap.get? b=some o->s'.heap.get? b=some o)->R (.ok (.ret (.ref s.heap.objs.size))) s') →
   ∀ (h':Heap) (c tk:Nat),St 0 h'->(∀ b o,b≠s.heap.objs.size->s2.heap.get? b=some o->h'.get? b=some o)->h'.get? s.heap.objs.size=some { cls:=.type "list",data:=.seq #[] c } →
   codeAny (model P w) A (.builtin "list.extend.loop" ⟨[.ref s.heap.objs.size,.ref I,.ref s.heap.objs.size],[]⟩) R { s2 with heap:=h',toks:=tk }:=fun R hR h' c tk st' kp gl=>by
  refine codeAny_extend_loopS W.toS hz' s.heap.objs.size hLf _ n 0 _ #[] c rfl (Nat.zero_le _) st' gl (ItemsOf.nil _) fun s' acc' c' hm gL' hacc=>?_
  have eacc:acc'=vs.toArray:=by
   apply Array.ext_getElem?
   intro j
   have ev:vs.toArray[j]? = vs[j]?:=List.getElem?_toArray
   rw[ev]
   by_cases hj:j < acc'.size
   ·have e:=hacc.2 j acc'[j] (Array.getElem?_eq_getElem hj)
    rw[Array.getElem?_eq_getElem hj]
    exact e.symm
   ·rw[Array.getElem?_eq_none (by lia),List.getElem?_eq_none (by have:=hacc.1; lia)]
  rw[eacc] at gL'
  refine hR s' c' gL' (hm.os.trans os2) (hm.gens.trans gs2) fun b o' e=>?_
  have hbl:b < s.heap.objs.size:=Heap.lt_size e
  refine hm.heap b o' ?_ (kp b o' (Nat.ne_of_lt hbl) (k2 _ _ (k1 _ _ e)))
  rw[List.mem_cons,List.mem_singleton]
  rintro (z | z)
  ·exact absurd z (Nat.ne_of_lt hbl)
  ·have q:h1.objs.size<=I:=hI
   rw[sz1,← z] at q
   exact absurd (Nat.lt_of_lt_of_le hbl (Nat.le_of_succ_le q)) (Nat.lt_irrefl _)
 refine wpAny_bind (wpAny_holding (Eu hTs ?_))
 have fin:∀ (s':Shared) (c':Nat),s'.heap.get? s.heap.objs.size=some { cls:=.type "list",dict:=none,data:=.seq vs.toArray c',slots:=#[] }->s'.os=s.os->s'.gens=s.gens->(∀ b o,s.heap.get? b=some o->s'.heap.get? b=some o) →
   wpAny (model P w) A (load s.heap.objs.size >>= fun o=>match o.data with | .seq xs _=>pure xs.toList | _=>unsupported "internal:collect") Q E s':=fun s' c' g e1 e2 e3=>wpAny_bind (wpAny_load g (wpAny_pure (h vs ns s' hi hp (Nat.le_of_lt (Heap.lt_size g)) e1 e2 e3)))
 refine wpAny_ite_split (fun _=>?_) (fun _=>wpAny_pure ⟨plainId_quiet PySem.F.plain_extend_loop _,key _ (fun s' c' g e1 e2 e3=>fin s' c' g e1 e2 e3) s2.heap _ s2.toks st (fun b o _ e=>e) gL2⟩)
 refine wpAny_bind (wpAny_rule (wpAny_bind (show wpAny _ _ (updateSeq s.heap.objs.size (·.push .none) >>= fun _=>updateSeq s.heap.objs.size (·.pop)) _ _ _ from ?_)))
 refine wpAny_bind (wpAny_updateSeq gL2 rfl ?_)
 have g3:=Heap.get?_update_self (Obj.mapSeq (·.push Value.none)) gL2 rfl
 refine wpAny_updateSeq (hz:=by seq_fits) g3 rfl ?_
 have g4:=Heap.get?_update_self (Obj.mapSeq (·.pop)) g3 rfl
 have oth:∀ b o',b≠s.heap.objs.size->s2.heap.get? b=some o'->((s2.heap.update s.heap.objs.size (Obj.mapSeq (·.push Value.none))).update s.heap.objs.size (Obj.mapSeq (·.pop))).get? b=some o':=fun b o' hb e=>by
  rw[Heap.get?_update_other _ _ (Ne.symm hb),Heap.get?_update_other _ _ (Ne.symm hb)]
  exact e
 exact wpAny_pure ⟨plainId_quiet PySem.F.plain_extend_loop _,key _ (fun s' c' g e1 e2 e3=>fin s' c' g e1 e2 e3) _ _ s2.toks (W.frame 0 _ _ st fun b hb o' e=>oth b o' (fun z=>hLf (by rw[← z]; exact hb)) e) oth g4⟩
end
end L2
namespace L2
open PySem PySem.Spec PyProof.Rows
section
variable {P:Program} {w:World} {A:Around} {E:Value->Shared->Prop} {s:Shared} {S:Addr}
theorem yV {ks:List Int} {Q:Value->Shared->Prop} (hh:A.handled=none) (hS:lA P w (Es w) s.heap S ks) (h64:ks.length < 64)
  (h:∀ (l:Addr) (vs:List Value) (ns:List Int) (c:Nat) (s':Shared),IntsAre vs ns->ns.Perm ks->ns.Pairwise (·<=·)->s'.heap.get? l=some { cls:=.type "list",data:=.seq vs.toArray c }->s.heap.objs.size<=l->s'.os=s.os->s'.gens=s.gens →
   (∀ b o,s.heap.get? b=some o->s'.heap.get? b=some o)->Q (.ref l) s'):wpAny (model P w) A (call (.builtin "sorted") [.ref S]) Q E s:=by
 refine Calls.call_function_entry kind_sorted plain_sorted entry_sorted (args_sorted1 _) ?_
 unfold Builtin.«sorted»; refine wpAny_bind (m:=checkCount "sorted" 1 1 _) (wpAny_pure ?_)
 refine wpAny_bind (vA hh hS (Nat.le_of_lt (Nat.lt_of_lt_of_le h64 (by decide))) fun vs ns s1 hi hp hsz os1 gs1 k1=>?_)
 have hl:vs.length < 64:=by
  have e1:=hi.length
  have e2:=hp.length_eq
  lia
 refine wpAny_bind (wpAny_newList ?_)
 have g1:(s1.heap.push (seqObj "list" vs.toArray 0)).get? s1.heap.objs.size=some (seqObj "list" vs.toArray 0):=Heap.get?_push_size _ rfl
 refine wpAny_bind (wpAny_holding (wpAny_call_entry slot_list_sort ⟨_,g1,rfl⟩ entry_list_sort (list_sort_tree g1 hi hl fun out ns' a1 a2 a3=>⟨_,rfl,?_⟩) (args_list_sort _)))
 obtain⟨c,hc⟩:=sortedHeap_at (out:=out) g1
 refine wpAny_pure ⟨_,rfl,h s1.heap.objs.size out.toList ns' c _ a1 (a2.trans hp) a3 ?_ hsz os1 gs1 fun b o e=>?_⟩
 ·exact hc
 ·have e1:=k1 b o e
  have lt:=Heap.lt_size e1
  rw[sortedHeap_old (Nat.ne_of_lt lt) (by rw[Heap.size_push]; exact Nat.lt_succ_of_lt lt)]
  exact Heap.get?_push_of_some _ e1
end
end L2
namespace L2
open PySem PySem.Spec PyProof.Rows
noncomputable def ddI (ns:List Int):List Int:=firstMet (fun i=>ns.getD i 0) ns.length
theorem Inv.Jp {X:Cx} {pins:List (Addr × Obj)} {σ:St} {H:Hp} {s s':Shared} {l:Addr} {ys:List V} {its:List Value} {c:Nat} (I:Inv X pins σ H s) (ho:s'.os=s.os) (hg:s'.gens=s.gens) (k:∀ b u,s.heap.get? b=some u->s'.heap.get? b=some u)
  (hl:s.heap.objs.size<=l) (hv:Vals ys its) (hz:ys.length<=sizeLine) (g:s'.heap.get? l=some { cls:=.type "list",data:=.seq its.toArray c }):Inv X pins σ (upd H l (.lst ys)) s':=by
 have J:=I.laid (t':=s.toks) (o:=.lst ys) k hl ⟨hz,its,c,hv,g⟩
 exact⟨J.ok,ho.trans I.os,by rw[hg]; exact I.bare,J.base,J.loc,J.cell,J.free,J.freeC,J.pin,J.hok,J.len⟩
noncomputable def tSS (K:W.Frag) (te:TA):TE:=fun σ H Q=>te σ H fun xs H1=>∃ (a:Addr) (ns:List Int),xs=[.ref a]/\SqL K H1 a (ns.map V.int)/\ns.length<=4000/\(ddI ns).length < 64/\∀ ms:List Int,ms.Perm (ddI ns)->ms.Pairwise (·<=·)->∀ l,H1 l=none->Q (.ref l) (upd H1 l (.lst (ms.map V.int)))
theorem sV {X:Cx} {e:Expr} {te:TA} {p1 p2 q1 q2:Pos} (hc:X.calm=true) (hg1:Gl X "sorted") (hm1:X.mg "sorted" = none) (hg2:Gl X "set") (hm2:X.mg "set" = none) (ha:PA X [e] te)
  (hb1:bootBuiltins "sorted" = some (.builtin "sorted"):=by decide+kernel) (hb2:bootBuiltins "set" = some (.type "set"):=by decide+kernel)
  (he1:starEach [.Call (.Name "set" p2) [e] [] q2] X.env=(false,eval (.Call (.Name "set" p2) [e] [] q2) X.env)::starEach [] X.env:=by rfl) (hp1:(backTo q1 (starEach [] X.env)).any (·.1)=false:=by rfl)
  (he2:starEach [e] X.env=(false,eval e X.env)::starEach [] X.env:=by rfl) (hp2:(backTo q2 (starEach [] X.env)).any (·.1)=false:=by rfl) :
  PE X (.Call (.Name "sorted" p1) [.Call (.Name "set" p2) [e] [] q2] [] q1) (tSS X.K te):=by
 intro pins s σ H Q I h
 refine wpAny_Call_Name_kw (jc I hg1 hm1 hb1 ?_ (by decide) (by decide))
 refine PyProof.Rows.callWith_builtin1 ?_ he1 hp1
 rw[he1]
 refine (show wpAny _ _ (spliced ((false,eval (.Call (.Name "set" p2) [e] [] q2) X.env)::backTo q1 (starEach [] X.env))) _ _ s from Calls.spliced_cons ?_)
 refine wpAny_Call_Name_kw (jc I hg2 hm2 hb2 ?_ (by decide) (by decide))
 refine PyProof.Rows.callWith_type1 (thn (ha q2 pins s σ H _ I h) fun us s1 ⟨vs,H1,I1,r1,q⟩=>?_) he2 hp2
 obtain⟨a,ns,rfl,hq,hl,h64,hQ⟩:=q
 obtain⟨u,rfl,ru⟩:=vals1 r1
 cases ru
 obtain⟨its,rv,pl,_⟩:=I1.list hq
 have hi:IntsAre its ns:=intsAre_of rv
 have hsz:its.toArray.size=ns.length:=by rw[List.size_toArray]; exact hi.length
 refine wL (I1.ok.hd hc) pl.isList hi (by rw[hsz]; exact Nat.lt_of_le_of_lt (Nat.succ_le_succ hl) (by decide)) fun h' tk hS hk=>?_
 rw[hsz] at hS
 have I2:Inv X pins σ H1 { s1 with heap:=h',toks:=tk }:=I1.kept (t':=tk) fun b o e=>hk b o (Heap.lt_size e) e
 refine (show wpAny _ _ (spliced []) _ _ _ from Calls.spliced_nil ?_)
 refine yV (I1.ok.hd hc) hS h64 fun l vs ms c s3 hi3 hp3 hw3 g3 hl3 os3 gs3 k3=>?_
 have hml:(ms.map V.int).length<=sizeLine:=by
  rw[List.length_map,hp3.length_eq]
  exact Nat.le_of_lt (Nat.lt_of_lt_of_le h64 (by decide))
 exact⟨.ref l,_,I2.Jp os3 gs3 k3 hl3 (j0 hi3) hml g3,rfl,hQ ms hp3 hw3 l (I2.hok.fresh hl3)⟩
end L2
namespace L2
open PySem PySem.Spec PyProof.Rows
noncomputable def mxD (d:Int):List Int->Int
 | []=>d
 | a::r=>r.foldl max a
theorem gF:∀ (r:List Int) (a:Int),a<=r.foldl max a/\∀ b∈r,b<=r.foldl max a
 | [],a=>⟨Int.le_refl _,by simp⟩
 | c::r,a=>by
  obtain⟨h1,h2⟩:=gF r (max a c)
  rw[List.foldl_cons]
  refine⟨by lia,fun b hb=>?_⟩
  rcases List.mem_cons.mp hb with rfl | hb
  ·lia
  ·exact h2 b hb
theorem qK {n:Int}:∀ {l:List Value} {ns:List Int} {j:Nat},IntsAre l ns->ns[j]? = some n->∃ t,l[j]? = some (.int n t)
 | _,_,j,.nil,h=>by simp at h
 | _,_,0,.cons _ _ _,h=>by
  cases (show some _=some n from h)
  exact⟨_,rfl⟩
 | _,_,j+1,.cons _ _ r,h=>by
  obtain⟨t,e⟩:=qK (j:=j) r (by simpa using h)
  exact⟨t,by simpa using e⟩
noncomputable def dkw (dk:Option (Int × Tok)):List (Str × Value):=dk.toList.map fun d=>(("default" : Str),Value.int d.1 d.2)
section
variable {prog:Program} {w:World} {A:Around} {R:Result->Shared->Prop} {E:Value->Shared->Prop} {s:Shared}
theorem Aj {it l S:Addr} {items:Array Value} {ns:List Int} (hh:A.handled=none) (hi:IntsAre items.toList ns) (hne:l≠it) (hS1:S≠it) (hS2:S≠l) (kw:List (Str × Value)) :
  ∀ (k j:Nat) (s:Shared) (b:Int) (t:Tok) (c:Nat),ns.length - j=k->j<=ns.length->s.heap.IsListIter it l j->s.heap.IsList l items →
   s.heap.get? S=some { cls:=.type "list",dict:=none,data:=.seq #[.int b t,.int b t] c,slots:=#[] } →
   (∀ t' h' tk,(∀ a o,a≠it->a≠S->s.heap.get? a=some o->h'.get? a=some o)->R (.ok (.ret (.int ((ns.drop j).foldl max b) t'))) { s with heap:=h',toks:=tk }) →
   codeAny (model prog w) A (.builtin "max.loop" ⟨[.ref it,.none,.ref S],kw⟩) R s:=by
 have W:=Walks.list (prog:=prog) (w:=w) (A:=A.in1) hh it l hne items
 have hname:(toString "max"++toString ".loop" : String) = "max.loop":=by decide
 have hsz:items.size=ns.length:=by rw[← Array.length_toList]; exact hi.length
 intro k
 induction k with
 | zero =>
  intro j s b t c hk hj h1 h2 hS hR
  refine codeAny_builtin F.entry_max_loop ?_; rw[Around.under_plainId F.plain_max_loop _]
  show wpAny _ A.in1 (seqItems? (.ref S) >>= _) _ _ s; refine wpAny_bind (wpAny_seqItems hS rfl ?_)
  have ej:j=items.size:=by lia
  show wpAny _ A.in1 (tryCatch (pyNext (.ref it)) _ >>= _) _ _ s; refine wpAny_bind (wpAny_tryCatch (W.done s _ _ (by rw[← ej]; exact⟨h1,h2⟩) fun h' tk hm=>?_))
  have hS':=hm S _ (by simpa using hS1) hS
  show wpAny _ A.in1 (updateSeq S (fun _=>#[]) >>= _) _ _ _; refine wpAny_bind (wpAny_updateSeq hS' rfl (wpAny_bind (wpAny_letGo (wpAny_pure ?_))))
  rw[List.drop_of_length_le (by lia)] at hR
  exact hR t _ tk fun a o ha hb e=>(Heap.get?_update_other _ _ (Ne.symm hb)).trans (hm a o (by simpa using ha) e)
 | succ k ih =>
  intro j s b t c hk hj h1 h2 hS hR
  refine codeAny_builtin F.entry_max_loop ?_; rw[Around.under_plainId F.plain_max_loop _]
  show wpAny _ A.in1 (seqItems? (.ref S) >>= _) _ _ s; refine wpAny_bind (wpAny_seqItems hS rfl ?_)
  have hlt:j < ns.length:=by lia
  obtain⟨u,hu⟩:=qK hi (List.getElem?_eq_getElem hlt)
  have ed:ns.drop j=ns[j]::ns.drop (j+1):=List.drop_eq_getElem_cons hlt
  show wpAny _ A.in1 (tryCatch (pyNext (.ref it)) _ >>= _) _ _ s; refine wpAny_bind (wpAny_tryCatch (W.item j s _ _ (by lia) ⟨h1,h2⟩ fun v h' tk hP st hm=>?_))
  obtain⟨g1,g2⟩:=st
  have ev:v = .int ns[j] u:=by
   have e:items[j]? = some v:=hP
   rw[← Array.getElem?_toList,hu] at e
   exact (Option.some.inj e).symm
  subst ev
  have hS':=hm S _ (by simpa using hS1) hS
  show wpAny _ A.in1 (tryCatch (holding [Value.int ns[j] u,Value.int ns[j] u] (richCompare .Gt (.int ns[j] u) (.int b t) >>= _)) _ >>= _) _ _ _
  refine wpAny_bind (wpAny_tryCatch (wpAny_holding (wpAny_bind ((CmpOf.ints_gt (P:=fun i v=>∃ t,v = .int (if i=0 then ns[j] else b) t) (fun i=>if i=0 then ns[j] else b) (fun _ _ h=>h)) 0 1 _ _ _ _ _ ⟨u,rfl⟩ ⟨t,rfl⟩ ?_))))
  refine wpAny_bind (wpAny_holding (wpAny_truthy_bool (wpAny_bind (wpAny_letGo (wpAny_pure ?_)))))
  show wpAny _ A.in1 (if decide (ns[j] > b)=true then _ else _) _ _ _
  by_cases hb:ns[j] > b
  ·rw[if_pos (decide_eq_true hb)]
   refine wpAny_bind (wpAny_updateSeq hS' rfl (wpAny_bind (wpAny_letGo ?_)))
   rw[hname]
   refine wpAny_pure ⟨plainId_quiet F.plain_max_loop _,ih (j+1) _ ns[j] u _ (by lia) hlt ?_ ?_ (Heap.get?_update_self _ hS' rfl) fun t' h2 tk2 k2=>?_⟩
   ·exact g1.at fun o e=>(Heap.get?_update_other _ _ hS1).trans e
   ·exact g2.at fun o e=>(Heap.get?_update_other _ _ hS2).trans e
   ·have q:=hR t' h2 tk2 fun a o ha hb e=>k2 a o ha hb ((Heap.get?_update_other _ _ (Ne.symm hb)).trans (hm a o (by simpa using ha) e))
    rw[ed,List.foldl_cons,show max b ns[j]=ns[j] by lia] at q
    exact q
  ·rw[if_neg (by simpa using hb)]
   refine wpAny_bind (wpAny_letGo ?_)
   rw[hname]
   refine wpAny_pure ⟨plainId_quiet F.plain_max_loop _,ih (j+1) _ b t c (by lia) hlt g1 g2 hS' fun t' h2 tk2 k2=>?_⟩
   have q:=hR t' h2 tk2 fun a o ha hb e=>k2 a o ha hb (hm a o (by simpa using ha) e)
   rw[ed,List.foldl_cons,show max b ns[j]=b by lia] at q
   exact q
theorem zg {it l S:Addr} {items:Array Value} {ns:List Int} {c:Nat} (hh:A.handled=none) (hi:IntsAre items.toList ns) (hne:l≠it) (hS1:S≠it) (hS2:S≠l) (dk:Option (Int × Tok)) (hd:ns=[]->dk≠none)
  (h1:s.heap.IsListIter it l 0) (h2:s.heap.IsList l items) (hS:s.heap.get? S=some { cls:=.type "list",dict:=none,data:=.seq #[] c,slots:=#[] })
  (hR:∀ t' h' tk,(∀ a o,a≠it->a≠S->s.heap.get? a=some o->h'.get? a=some o)->R (.ok (.ret (.int (mxD ((dk.map (·.1)).getD 0) ns) t'))) { s with heap:=h',toks:=tk }) :
  codeAny (model prog w) A (.builtin "max.loop" ⟨[.ref it,.none,.ref S],dkw dk⟩) R s:=by
 have W:=Walks.list (prog:=prog) (w:=w) (A:=A.in1) hh it l hne items
 have hname:(toString "max"++toString ".loop" : String) = "max.loop":=by decide
 have hsz:items.size=ns.length:=by rw[← Array.length_toList]; exact hi.length
 refine codeAny_builtin F.entry_max_loop ?_; rw[Around.under_plainId F.plain_max_loop _]
 show wpAny _ A.in1 (seqItems? (.ref S) >>= _) _ _ s; refine wpAny_bind (wpAny_seqItems hS rfl ?_)
 show wpAny _ A.in1 (tryCatch (pyNext (.ref it)) _ >>= _) _ _ s
 cases ns with
 | nil =>
  have e0:items.size=0:=hsz
  refine wpAny_bind (wpAny_tryCatch (W.done s _ _ (by rw[e0]; exact⟨h1,h2⟩) fun h' tk hm=>?_))
  cases dk with
  | none=>exact absurd rfl (hd rfl)
  | some d =>
   refine wpAny_bind (wpAny_rule ?_)
   exact wpAny_pure (hR d.2 h' tk fun a o ha hb e=>hm a o (by simpa using ha) e)
 | cons n r =>
  obtain⟨u,hu⟩:=qK (n:=n) (j:=0) hi rfl
  refine wpAny_bind (wpAny_tryCatch (W.item 0 s _ _ (by rw[hsz]; exact Nat.succ_pos _) ⟨h1,h2⟩ fun v h' tk hP st hm=>?_))
  obtain⟨g1,g2⟩:=st
  have ev:v = .int n u:=by
   have e:items[0]? = some v:=hP
   rw[← Array.getElem?_toList,hu] at e
   exact (Option.some.inj e).symm
  subst ev
  have hS':=hm S _ (by simpa using hS1) hS
  show wpAny _ A.in1 (updateSeq S (fun _=>#[Value.int n u,Value.int n u]) >>= _) _ _ _
  refine wpAny_bind (wpAny_updateSeq hS' rfl ?_)
  rw[hname]
  refine wpAny_pure ⟨plainId_quiet F.plain_max_loop _,Aj hh hi hne hS1 hS2 _ _ 1 _ n u _ rfl (Nat.succ_le_succ (Nat.zero_le _)) ?_ ?_ (Heap.get?_update_self _ hS' rfl) fun t' h2 tk2 k2=>?_⟩
  ·exact g1.at fun o e=>(Heap.get?_update_other _ _ hS1).trans e
  ·exact g2.at fun o e=>(Heap.get?_update_other _ _ hS2).trans e
  ·exact hR t' h2 tk2 fun a o ha hb e=>k2 a o ha hb ((Heap.get?_update_other _ _ (Ne.symm hb)).trans (hm a o (by simpa using ha) e))
theorem Be (a v:Value):argsOk "max" ⟨[a],[("default",v)]⟩:=by unfold argsOk; kernel_rfl
theorem Dd (v:Value):Builtin.Builtins.bindParams "max" ["key","default"] 0 ⟨[],[("default",v)]⟩=pure [none,some v]:=by kernel_rfl
theorem Gw {l:Addr} {items:Array Value} {ns:List Int} {Q:Value->Shared->Prop} (hh:A.handled=none) (hl:s.heap.IsList l items) (hi:IntsAre items.toList ns) (dk:Option (Int × Tok)) (hd:ns=[]->dk≠none)
  (h:∀ t h' tk,(∀ a o,s.heap.get? a=some o->h'.get? a=some o)->Q (.int (mxD ((dk.map (·.1)).getD 0) ns) t) { s with heap:=h',toks:=tk }) :
  wpAny (model prog w) A (call (.builtin "max") [.ref l] (dkw dk)) Q E s:=by
 have ha:argsOk "max" ⟨[.ref l],dkw dk⟩:=by
  cases dk with
  | none=>exact F.args_max1 _
  | some d=>exact Be _ _
 have hb:Builtin.Builtins.bindParams "max" ["key","default"] 0 ⟨[],dkw dk⟩=pure [none,dk.map fun d=>.int d.1 d.2]:=by
  cases dk with
  | none=>rfl
  | some d=>exact Dd _
 have hname:(toString "max"++toString ".loop" : String) = "max.loop":=by decide
 refine wpAny_call (codeAny_call_builtin F.plain_max F.entry_max ?_)
 have main:wpAny (model prog w) A.in1 (Builtin.«max» ⟨[.ref l],dkw dk⟩) (fun fin s'=>match fin with
   | .done f=>(match (Except.ok f:Result) with | .ok (.ret v)=>Q v s' | .ok _=>False | .error e=>E e s')
   | .again c'=>c'.quiet=true/\codeAny (model prog w) A c' (fun r s'=>match r with | .ok (.ret v)=>Q v s' | .ok _=>False | .error e=>E e s') s') E s:=by
  show wpAny _ A.in1 (Builtin.Builtins.bindParams "max" ["key","default"] 0 ⟨[],dkw dk⟩ >>= _) _ _ s
  refine wpAny_bind (wpAny_of_eq hb (wpAny_bind (wpAny_pure ?_)))
  refine wpAny_bind (wpAny_pyIter_list hl (wpAny_bind (wpAny_newObj_type ?_)))
  have lt:l < s.heap.objs.size:=by obtain⟨o,e,_⟩:=hl; exact Heap.lt_size e
  have hs1:(s.heap.push { cls:=.type "list_iterator",data:=.fields #[.ref l,.int 0 0] }).objs.size=s.heap.objs.size+1:=Heap.size_push ..
  rw[hname]
  have ek:(dk.map fun d=>Value.int d.1 d.2).toList.map (fun d=>(("default" : Str),d))=dkw dk:=by cases dk <;> rfl
  refine wpAny_pure ⟨plainId_quiet F.plain_max_loop _,?_⟩
  show codeAny _ A (.builtin "max.loop" ⟨[.ref s.heap.objs.size,.none,_],(dk.map fun d=>Value.int d.1 d.2).toList.map (fun d=>(("default" : Str),d))⟩) _ _
  rw[ek]
  refine zg hh hi (Nat.ne_of_lt lt) (by rw[hs1]; exact Nat.ne_of_gt (Nat.lt_succ_self _)) (by rw[hs1]; exact Nat.ne_of_gt (Nat.lt_succ_of_lt lt)) dk hd
   ⟨_,Heap.get?_push_of_some _ (Heap.get?_push_size _ rfl),rfl,rfl⟩ ((hl.push _).push _) (Heap.get?_push_size _ rfl) fun t h' tk k=>?_
  exact h t h' tk fun a o e=>k a o (Nat.ne_of_lt (Heap.lt_size e)) (by rw[hs1]; exact Nat.ne_of_lt (Nat.lt_succ_of_lt (Heap.lt_size e))) (Heap.get?_push_of_some _ (Heap.get?_push_of_some _ e))
 simp only[checkBuiltinCall,F.kind_max]
 cases hsig:Manifest.signature? "max" with
 | none=>exact wpAny_pure main
 | some sig =>
  have ha':Bind.checkArgs "max" sig ⟨[.ref l],dkw dk⟩=pure ():=by simpa only [argsOk,hsig] using ha
  simp only[ha']
  exact wpAny_pure main
end
section
variable {X:Cx}
inductive Ds (K:W.Frag) (xs:List V) (H:Hp) (Q:VK):Prop where
 | mk (p:Addr) (ns:List Int) (z0:xs=[.ref p]) (z1:SqL K H p (ns.map V.int)) (z2:ns.length < 64) (z3:∀ ms:List Int,ms.Perm ns->ms.Pairwise (·<=·)->∀ l,H l=none->Q (.ref l) (upd H l (.lst (ms.map V.int)))):Ds K xs H Q
noncomputable def GK (K:W.Frag):List V->Hp->VK->Prop:=fun xs H Q=>Ds K xs H Q
theorem zy:fZ X (.builtin "sorted") (GK X.K):=by
 intro pins s σ H xs us Q I r h
 obtain⟨p,ns,rfl,hq,h64,q⟩:=h
 obtain⟨u,rfl,ru⟩:=vals1 r
 cases ru
 obtain⟨its,rv,pl,hz⟩:=I.list hq
 have hi:IntsAre its ns:=intsAre_of rv
 refine sorted_ints pl.isList hi (by have:=hi.length; lia) fun out ns' a1 a2 a3=>?_
 obtain⟨e,he⟩:=sortedAll_at s.heap its out
 have hml:(ns'.map V.int).length<=sizeLine:=by
  rw[List.length_map,a2.length_eq]
  exact Nat.le_of_lt (Nat.lt_of_lt_of_le h64 (by decide))
 exact⟨.ref _,_,I.Jp rfl rfl (fun _ _=>sortedAll_old) (Nat.le_succ _) (j0 a1) hml he,rfl,q ns' a2 a3 _ (I.hok.fresh (Nat.le_succ _))⟩
inductive Gv (K:W.Frag) (xs:List V) (H:Hp) (Q:VK):Prop where
 | mk (p:Addr) (ns:List Int) (z0:xs=[.ref p]) (z1:SqL K H p (ns.map V.int)) (z2:ns≠[]) (z3:Q (.int (mxD 0 ns)) H):Gv K xs H Q
noncomputable def Ac (K:W.Frag):List V->Hp->VK->Prop:=fun xs H Q=>Gv K xs H Q
theorem j8 (hc:X.calm=true):fZ X (.builtin "max") (Ac X.K):=by
 intro pins s σ H xs us Q I r h
 obtain⟨p,ns,rfl,hq,hne,q⟩:=h
 obtain⟨u,rfl,ru⟩:=vals1 r
 cases ru
 obtain⟨its,rv,pl,hz⟩:=I.list hq
 exact Gw (I.ok.hd hc) pl.isList (show IntsAre its.toArray.toList ns from intsAre_of rv) none (fun e=>absurd e hne) fun t h' tk k=>⟨.int _,H,I.kept (t':=tk) k,⟨_,rfl⟩,q⟩
noncomputable def Ls (K:W.Frag) (d:Int) (te:TA):TE:=fun σ H Q=>te σ H fun xs H1=>∃ (p:Addr) (ns:List Int),xs=[.ref p]/\SqL K H1 p (ns.map V.int)/\Q (.int (mxD d ns)) H1
theorem Jq {e:Expr} {te:TA} {d:Int} {j} {p pos kp cp:Pos} (hc:X.calm=true) (hg:Gl X "max") (hm:X.mg "max" = none) (ha:PA X [e] te)
  (hb:bootBuiltins "max" = some (.builtin "max"):=by decide+kernel)
  (he:backTo pos (starEach [e] X.env)=(false,eval e X.env)::backTo pos (starEach [] X.env):=by rfl) (hp:(backTo pos (starEach [e] X.env)).any (·.1)=false:=by rfl) :
  PE X (.Call (.Name "max" p) [e] [⟨some "default",.Constant (.int d) j cp,kp⟩] pos) (Ls X.K d te):=by
 intro pins s σ H Q I h
 refine wpAny_Call_Name_kw (jc I hg hm hb ?_ (by decide) (by decide))
 refine callWith_kw (thn (ha pos pins s σ H _ I h) fun us s1 ⟨vs,H1,I1,r1,q⟩=>?_) he hp
 obtain⟨a,ns,rfl,hq,q⟩:=q
 obtain⟨u,rfl,ru⟩:=vals1 r1
 cases ru
 refine kws_cons (wpAny_Constant_int (kws_nil ?_))
 have I2:Inv X pins σ H1 { s1 with toks:=s1.toks+1 }:=I1.tok _
 obtain⟨its,rv,pl,hz⟩:=I2.list hq
 exact Gw (I.ok.hd hc) pl.isList (show IntsAre its.toArray.toList ns from intsAre_of rv) (some (d,_)) (fun _ z=>nomatch z) fun t h' tk k=>⟨.int _,H1,I2.kept (t':=tk) k,⟨_,rfl⟩,q⟩
end
end L2
namespace L2
open PySem PySem.Spec PyProof.Rows
theorem BX:Manifest.owners.lookup (String.ofList ['d','e','s','r','e','v','e','r'].reverse)=some Manifest.sig_reversed:=by kernel_rfl
theorem dC:Slot "reversed" "__next__" "reversed.__next__" :=
 .of (owner:="reversed") (n:="__next__") (by rw[typeLookup_type,builtinLookup_eq_fast]; kernel_rfl) (by decide+kernel) (by decide+kernel) (by decide+kernel) (by first | exact .inl (by decide+kernel) | exact .inr (by decide+kernel)) (by rw[isSubtype_type]; kernel_rfl)
theorem qX:Slot "reversed" "__init__" "object.__init__" :=
 .of (owner:="object") (n:="__init__") (by rw[typeLookup_type,builtinLookup_eq_fast]; kernel_rfl) (by decide+kernel) (by decide+kernel) (by decide+kernel) (by first | exact .inl (by decide+kernel) | exact .inr (by decide+kernel)) (by rw[isSubtype_type]; kernel_rfl)
theorem ju:entryFor table "reversed.__next__" = some Builtin.«reversed.__next__»:=entryFor_of_tree (by kernel_rfl)
theorem jU (a:Value):argsOk "reversed.__next__" ⟨[a],[]⟩:=by
 unfold argsOk
 rw[signature?_of (id:="reversed.__next__") (n:=['_','_','t','x','e','n','_','_']) (o:=['d','e','s','r','e','v','e','r']) (by kernel_rfl) BX]
 kernel_rfl
theorem jT:Slot "reversed" "__iter__" "reversed.__iter__" :=
 .of (owner:="reversed") (n:="__iter__") (by rw[typeLookup_type,builtinLookup_eq_fast]; kernel_rfl) (by decide+kernel) (by decide+kernel) (by decide+kernel) (by first | exact .inl (by decide+kernel) | exact .inr (by decide+kernel)) (by rw[isSubtype_type]; kernel_rfl)
theorem o8:entryFor table "reversed.__iter__" = some Builtin.«dict_keyiterator.__iter__»:=entryFor_alias (id':="dict_keyiterator.__iter__") (by kernel_rfl) rfl (by decide+kernel) (by kernel_rfl)
theorem rA (a:Value):argsOk "reversed.__iter__" ⟨[a],[]⟩:=by
 unfold argsOk
 rw[signature?_of (id:="reversed.__iter__") (n:=['_','_','r','e','t','i','_','_']) (o:=['d','e','s','r','e','v','e','r']) (by kernel_rfl) BX]
 kernel_rfl
theorem zb:TypeCalled "reversed" "reversed.__new__" "object.__init__" :=
 ⟨by decide+kernel,by decide+kernel,⟨_,_,F.mro_reversed⟩,F.made_reversed,by decide+kernel,by rw[isSubtype_type]; kernel_rfl,qX⟩
theorem uP:typeLookup (.type "tuple") "__reversed__" = pure none:=by rw[typeLookup_type,builtinLookup_eq_fast]; kernel_rfl
theorem sY:isSubtype (.type "tuple") (.type "dict")=pure false:=by rw[isSubtype_type]; kernel_rfl
noncomputable def RIt (h:Heap) (I t:Addr) (i:Int):Prop:=h.get? I=some { cls:=.type "reversed",dict:=none,data:=.fields #[.ref t,.int i 0],slots:=#[] }
theorem Fg (a:Value):Builtin.SmallTypes.newClass "reversed" ⟨[.type "reversed",a],[]⟩=pure (.type "reversed",[a]):=by
 unfold Builtin.SmallTypes.newClass
 simp only[isType,F.sub_reversed_self,pure_bind,Bool.not_true,Bool.false_eq_true,if_false]
theorem FJ (t:Addr) (items:Array Value) (hf:(items.size:Int) < 2 ^ 63) :
  Meets (Builtin.«reversed.__new__» ⟨[.type "reversed",.ref t],[]⟩) (fun _ R s=>IsTup s.heap t items/\R (.ok (.ret (.ref s.heap.objs.size))) { s with heap:=s.heap.push { cls:=.type "reversed",data:=.fields #[.ref t,.int ((items.size:Int) - 1) 0] },toks:=s.toks+1+1 }) :=
 .of_wp fun prog w A R s h=>by
  obtain⟨ht,h⟩:=h
  unfold Builtin.«reversed.__new__»
  refine wpAny_bind (wpAny_of_eq (Fg _) ?_)
  try dsimp only
  refine wpAny_bind (wpAny_of_eq (a:=()) (by first | rfl | kernel_rfl) (wpAny_bind (wpAny_of_eq (a:=()) (by first | rfl | kernel_rfl) ?_)))
  try dsimp only
  refine wpAny_bind (wpAny_specialOf ht.typeIs uP ?_)
  try dsimp only
  refine (show wpAny _ _ ((isInstance (.ref t) (.type "dict") >>= _) >>= _) _ _ s from wpAny_bind (wpAny_bind (wpAny_isInstance ht.typeIs sY ?_)))
  rw[if_neg Bool.false_ne_true]
  refine wpAny_bind (wpAny_specialOf ht.typeIs slot_tuple_getitem.lookup ?_)
  dsimp only
  rw[if_pos (by decide+kernel)]
  refine wpAny_pure ?_
  rw[if_neg (by simp)]
  refine wpAny_bind (len_tuple ht hf ?_)
  refine wpAny_bind (wpAny_of_eq (a:=some ((items.size:Nat):Int)) rfl ?_)
  dsimp only
  refine wpAny_bind ?_
  refine (show wpAny _ _ (newObj (.type "reversed") (.fields #[.ref t,rawInt ((items.size:Int) - 1)])) _ _ _ from wpAny_newObj_type ?_)
  exact wpAny_pure ⟨_,rfl,h⟩
section
variable {prog:Program} {w:World} {A:Around} {E:Value->Shared->Prop} {s:Shared}
theorem Aa {t:Addr} {items:Array Value} {Q:Value->Shared->Prop} (ht:IsTup s.heap t items) (hf:(items.size:Int) < 2 ^ 63)
  (h:Q (.ref s.heap.objs.size) { s with heap:=s.heap.push { cls:=.type "reversed",data:=.fields #[.ref t,.int ((items.size:Int) - 1) 0] },toks:=s.toks+1+1 }):wpAny (model prog w) A (call (.type "reversed") [.ref t]) Q E s:=by
 refine callType_new zb (by decide) (F.typeCall_reversed_1 _) (F.newCall_reversed_1 _) (fun obj=>F.args_object_init_2 obj _) F.entry_reversed_new (FJ t items hf) ⟨ht,?_⟩
 exact⟨⟨_,Heap.get?_push_size _ rfl,rfl⟩,h⟩
theorem Ea {it t:Addr} {i:Nat} {items:Array Value} {x:Value} {Q:Option Value->Shared->Prop} (hit:RIt s.heap it t (i:Int)) (ht:IsTup s.heap t items) (hi:(i:Int) < 2 ^ 63) (hx:items[i]? = some x)
  (hQ:∀ h',RIt h' it t ((i:Int) - 1)->Heap.SameBut it s.heap h'->Q (some x) { s with heap:=h',toks:=s.toks+1 }):wpAny (model prog w) A (pyNext (.ref it)) Q E s:=by
 have hT:s.TypeIs (.ref it) "reversed":=⟨_,hit,rfl⟩
 unfold pyNext
 refine wpAny_bind (wpAny_attempt (wpAny_callSpecial?_slot (name:=Str.ofString "__next__") hT dC (wpAny_call_entry dC hT ju ?_ (jU _))))
 unfold Builtin.«reversed.__next__»
 refine wpAny_bind (wpAny_of_eq (a:=(Value.ref it,[])) rfl ?_)
 dsimp only
 refine wpAny_bind (wpAny_field hit rfl (x:=.ref t) rfl (wpAny_bind (wpAny_field hit rfl (x:=.int (i:Int) 0) rfl ?_)))
 dsimp only
 rw[if_neg (by lia)]
 refine wpAny_bind (wpAny_specialOf ht.typeIs slot_tuple_getitem.lookup ?_)
 rw[if_neg (by simp)]
 refine wpAny_bind (wpAny_mkInt ?_)
 have hsz:i < items.size:=(Array.getElem?_eq_some_iff.mp hx).1
 have hk:seqIndex? (i:Int) items.size=some i:=by
  have e0:¬ ((i:Int) < 0):=by lia
  unfold seqIndex?
  simp only[if_neg e0]
  simp [hsz]
 refine wpAny_bind (wpAny_attempt (getItem_tuple (s:={ s with toks:=s.toks+1 }) (show IsTup s.heap t items from ht) (by lia) hi hk hx ?_))
 dsimp only
 refine wpAny_bind (wpAny_field (s:={ s with toks:=s.toks+1 }) hit rfl (x:=.int (i:Int) 0) rfl ?_)
 dsimp only
 refine wpAny_bind (wpAny_setField (s:={ s with toks:=s.toks+1 }) hit rfl (by simp) ?_)
 refine wpAny_pure ⟨x,rfl,wpAny_pure (hQ _ ?_ (Heap.SameBut.update ..))⟩
 exact Heap.get?_update_self (Obj.mapFields (·.setIfInBounds 1 (rawInt ((i:Int) - 1)))) hit rfl
theorem Je {it t:Addr} {Q:Option Value->Shared->Prop} (hh:A.handled=none) (hit:RIt s.heap it t (-1)) (hQ:∀ h',Heap.ExtBut it s.heap h'->Q none { s with heap:=h' }):wpAny (model prog w) A (pyNext (.ref it)) Q E s:=by
 have hT:s.TypeIs (.ref it) "reversed":=⟨_,hit,rfl⟩
 unfold pyNext
 refine wpAny_bind (wpAny_attempt (wpAny_callSpecial?_slot (name:=Str.ofString "__next__") hT dC (wpAny_call_entry dC hT ju ?_ (jU _))))
 unfold Builtin.«reversed.__next__»
 refine wpAny_bind (wpAny_of_eq (a:=(Value.ref it,[])) rfl ?_)
 dsimp only
 refine wpAny_bind (wpAny_field hit rfl (x:=.ref t) rfl (wpAny_bind (wpAny_field hit rfl (x:=.int (-1) 0) rfl ?_)))
 dsimp only
 rw[if_pos (by decide)]
 refine wpAny_bind (wpAny_rule ?_)
 refine wpAny_bind ?_
 refine (show wpAny _ _ (setField (.ref it) 1 (rawInt (-1)) >>= _) _ _ s from wpAny_bind (wpAny_setField hit rfl (by simp) ?_))
 have g1:=Heap.get?_update_self (Obj.mapFields (·.setIfInBounds 1 (rawInt (-1)))) hit rfl
 refine wpAny_setField g1 rfl (by simp) ?_
 refine wpAny_bind ?_
 refine (show wpAny _ _ (newExc (.type "StopIteration") [] >>= _) _ _ _ from wpAny_bind ?_)
 simp only[newExc,newTuple]
 refine wpAny_bind (wpAny_newObj_type ?_ (by size_fits))
 refine wpAny_bind (m:=firstArgMember _ _) (wpAny_of_eq (a:=Value.none) (by first | rfl | (simp only[firstArgMember]; rfl)) (wpAny_newObj_type ?_ (by size_fits)))
 simp only[raiseNew]
 refine wpAny_bind (wpAny_handled ?_)
 first | rw[show A.in1.handled=none from hh] | rw[hh]
 refine wpAny_bind (wpAny_pure (wpAny_throw ?_))
 refine wpAny_bind (wpAny_isInstance (T:="StopIteration") (b:=true) ⟨_,Heap.get?_push_size _ rfl,rfl⟩ isSubtype_stop (wpAny_pure ?_))
 exact hQ _ ((((Heap.SameBut.update ..).trans (Heap.SameBut.update ..)).extBut.push _).push _)
theorem yr {it t:Addr} {i:Int} {Q:Value->Shared->Prop} (hI:RIt s.heap it t i) (h:Q (.ref it) s):wpAny (model prog w) A (pyIter (.ref it)) Q E s:=by
 have hT:s.TypeIs (.ref it) "reversed":=⟨_,hI,rfl⟩
 refine wpAny_pyIter_slot hT jT (wpAny_call_entry jT hT o8 (show wpAny _ _ (ret (.ref it)) _ _ s from ?_) (rA _))
 exact wpAny_pure ⟨_,rfl,"reversed",_,hT,dC.lookup,h⟩
end
noncomputable def Itv (K:W.Frag) (a:Addr) (n:Nat):It :=
 ⟨fun i H=>i < n/\∃ xs x,SqT K H a xs/\xs.length=n/\xs[n - 1 - i]? = some x,fun i H x H'=>H'=H/\∀ xs,SqT K H a xs->xs[n - 1 - i]? = some x,fun i _=>i=n⟩
theorem DW {P:Program} {w:World} {K:W.Frag} {tg:Expr} (a it:Addr) (n:Nat) (hn:(n:Int) < 2 ^ 63):Turn P w K tg (Itv K a n) [it] it (fun i h=>RIt h it a ((n:Int) - 1 - (i:Int))) where
 mem:=by simp
 obj:=fun i h st b hb=>by
  have e:b=it:=by simpa using hb
  subst e
  exact⟨_,st,fun v z=>by cases (show Data.fields _=Data.cell v from z)⟩
 keep:=fun i h h' st k=>k it (by simp) _ st
 item:=by
  intro X hP hw hK hc i pins s σ H E I hf st hg
  subst hP hw hK
  obtain⟨hin,xs,x,hq,hlen,hx⟩:=hg
  obtain⟨its,rv,p,hz⟩:=I.tuple hq
  obtain⟨u,hu,ru⟩:=rv.get hx
  obtain⟨f0,f1,f2,f3,f4,f5⟩:=hf it (by simp)
  have e:(n:Int) - 1 - (i:Int)=((n - 1 - i:Nat):Int):=by lia
  have st':RIt s.heap it a ((n - 1 - i:Nat):Int):=by rw[← e]; exact st
  refine Ea st' p (by lia) (x:=u) (by simpa using hu) fun h' st2 sb=>?_
  have e2:((n - 1 - i:Nat):Int) - 1=(n:Int) - 1 - ((i+1:Nat):Int):=by lia
  rw[e2] at st2
  have I1:Inv X pins σ H { s with heap:=h',toks:=s.toks+1 }:=I.turned (t':=s.toks+1) (fun b o hb e=>(sb.2 b hb).trans e) f0 f1 f3 f4 f5
  exact⟨u,rfl,FW (s:={ s with heap:=h',toks:=s.toks+1 }) st2 rfl rfl (by decide) ⟨x,H,I1,ru,⟨rfl,fun ys hy=>by rw[I.jX hy hq]; exact hx⟩,st2,fun b hb=>(hf b hb).1⟩⟩
 done:=by
  intro X hP hw hK hc i pins s σ H E I hf st hg
  subst hP hw hK
  cases (show i=n from hg)
  obtain⟨f0,f1,f2,f3,f4,f5⟩:=hf it (by simp)
  have st':RIt s.heap it a (-1):=by
   have e:(n:Int) - 1 - (n:Int) = -1:=by lia
   rw[← e]; exact st
  exact Je (I.ok.hd hc) st' fun h' eb=>⟨rfl,I.turned (t':=s.toks) (fun b o hb e=>eb b o hb e) f0 f1 f3 f4 f5⟩
 self:=fun _ _ _ _ _ st h=>yr st h
noncomputable def M5 (K:W.Frag) (ta:TA):TI:=fun σ H R=>ta σ H fun vs H1=>∃ a xs,vs=[.ref a]/\SqT K H1 a xs/\R (Itv K a xs.length) H1
theorem J8 {X:Cx} {tg:Expr} {a:Expr} {ta:TA} {p pos:Pos} (hg:Gl X "reversed") (hm:X.mg "reversed" = none) (ha:PA X [a] ta) (hs:starEach [a] X.env=[(false,eval a X.env)]:=by rfl) :
  PI X tg (.Call (.Name "reversed" p) [a] [] pos) (M5 X.K ta):=by
 intro pins s σ H R I h
 refine Call_ (jc I hg hm boot_reversed (PyProof.Rows.callWith_type1 (thn (ha pos pins s σ H _ I h) fun us s1 ⟨vs,H1,I1,r1,q1⟩=>?_) hs rfl))
 obtain⟨c,xs,e,hx,q⟩:=q1
 subst e
 obtain⟨u1,rfl,ru1⟩:=vals1 r1
 cases ru1
 obtain⟨its,rv,tp,hz⟩:=I1.tuple hx
 have hl:=rv.length
 have hn:=uJ
 have hsz:((its.toArray.size:Nat):Int) < 2 ^ 63:=by rw[List.size_toArray,← hl]; lia
 refine Aa tp hsz ?_
 have g:RIt (s1.heap.push { cls:=.type "reversed",data:=.fields #[.ref c,.int ((its.toArray.size:Int) - 1) 0] }) s1.heap.objs.size c ((xs.length:Int) - 1 - ((0:Nat):Int)):=by
  have e:((xs.length:Int) - 1 - ((0:Nat):Int))=(its.toArray.size:Int) - 1:=by rw[List.size_toArray,← hl]; lia
  rw[e]
  exact Heap.get?_push_size _ rfl
 refine yr g ⟨s1.heap.objs.size,[s1.heap.objs.size],_,_,H1,rfl,I1.kept (t':=s1.toks+1+1) fun b o e=>Heap.get?_push_of_some _ e,DW c _ xs.length (by lia),g,fun b hb=>?_,q⟩
 have e:b=s1.heap.objs.size:=by simpa using hb
 subst e
 exact I1.DQ (Nat.le_refl _) (I1.hok.fresh (Nat.le_refl _))
theorem Im {K:W.Frag} {a:Addr} {xs:List V} {g:TG} {tb:TS} {D:Ends} {σ:St} {H:Hp} (Pv:Nat->St->Hp->Prop) (h0:Pv 0 σ H) (hl:∀ i σ H,i<=xs.length->Pv i σ H->SqT K H a xs)
  (hs:∀ i x σ H,i < xs.length->xs[xs.length - 1 - i]? = some x->Pv i σ H->g x σ H fun σ2 H2=>tb { D with nx:=Pv (i+1),ct:=Pv (i+1),bk:=D.nx } σ2 H2) (hd:∀ σ H,Pv xs.length σ H->D.nx σ H) :
  ∃ W:Nat->Nat->St->Hp->Prop,(∃ m,W 0 m σ H)/\∀ i m σ H,W i m σ H →
   ((Itv K a xs.length).stop i H/\D.nx σ H)∨((Itv K a xs.length).go i H/\∃ N:St->Hp->Prop,(∀ σ' H',N σ' H'->∃ m',m' < m/\W (i+1) m' σ' H')/\∀ x H',(Itv K a xs.length).yld i H x H'->g x σ H' fun σ2 H2=>tb { D with nx:=N,ct:=N,bk:=D.nx } σ2 H2):=by
 refine⟨fun i m σ H=>m=xs.length - i/\i<=xs.length/\Pv i σ H,⟨xs.length,by simp,Nat.zero_le _,h0⟩,?_⟩
 rintro i m σ H ⟨rfl,hi,p⟩
 have q1:=hl i σ H hi p
 by_cases hlt:i < xs.length
 ·refine .inr ⟨⟨hlt,xs,xs[xs.length - 1 - i],q1,rfl,List.getElem?_eq_getElem (by lia)⟩,Pv (i+1),fun σ' H' p'=>⟨xs.length - (i+1),by lia,rfl,hlt,p'⟩,fun v H' y=>?_⟩
  obtain⟨rfl,hx⟩:=y
  exact hs i v σ _ hlt (hx xs q1) p
 ·have e:i=xs.length:=by lia
  subst e
  exact .inl ⟨rfl,hd σ H p⟩
end L2
namespace L2
open PySem PySem.Spec PyProof.Rows
section
variable {prog:Program} {w:World} {A:Around} {E:Value->Shared->Prop} {s:Shared}
theorem pR {h h':Heap} {a t:Addr} {its:Array Value} (ht:h.IsList t its) (sb:Heap.SameBut a h h') (ne:t≠a):h'.IsList t its:=by
 obtain⟨o,e,r⟩:=ht
 exact⟨o,(sb.2 t ne).trans e,r⟩
theorem jd {h h':Heap} {a it t:Addr} {i:Nat} (ht:h.IsListIter it t i) (sb:Heap.SameBut a h h') (ne:it≠a):h'.IsListIter it t i:=by
 obtain⟨o,e,r⟩:=ht
 exact⟨o,(sb.2 it ne).trans e,r⟩
theorem Iw {z p q i1 i2 l1 l2:Addr} {k:Nat} {xs ys:Array Value} {x y a b:Value} {Q:Option Value->Shared->Prop} (D:Zap z p q i1 i2 l1 l2)
  (hz:IsZip s.heap z p q .none) (hp:IsPair s.heap p (.ref i1) (.ref i2)) (hq:IsPair s.heap q a b) (j1:s.heap.IsTupleIter i1 l1 k) (j2:s.heap.IsListIter i2 l2 k) (t1:s.heap.IsTuple l1 xs) (t2:s.heap.IsList l2 ys)
  (hx:xs[k]? = some x) (hy:ys[k]? = some y)
  (hQ:∀ h',IsZip h' z p q (rawInt s.heap.objs.size)->IsPair h' q x y->h'.IsTupleIter i1 l1 (k+1)->h'.IsListIter i2 l2 (k+1)->IsPair h' s.heap.objs.size x y->h'.objs.size=s.heap.objs.size+1 →
   (∀ c o,c≠z->c≠q->c≠i1->c≠i2->s.heap.get? c=some o->h'.get? c=some o)->Q (some (.ref s.heap.objs.size)) { s with heap:=h' }):wpAny (model prog w) A (pyNext (.ref z)) Q E s:=by
 have hT:s.TypeIs (.ref z) "zip":=⟨_,hz,rfl⟩; unfold pyNext
 refine wpAny_bind (wpAny_attempt (wpAny_callSpecial?_slot (name:=Str.ofString "__next__") hT F.slot_zip_next (wpAny_call_entry F.slot_zip_next hT F.entry_zip_next ?_ (F.args_zip_next_1 _))))
 show wpAny _ _ (field (.ref z) 2 >>= _) _ _ _; refine wpAny_bind (wpAny_field hz rfl (x:=.bool false) rfl ?_)
 show wpAny _ _ (field (.ref z) 3 >>= _) _ _ _; refine wpAny_bind (wpAny_field hz rfl (x:=.ref p) rfl ?_); refine wpAny_bind (wpAny_seqItems hp rfl ?_)
 show wpAny _ _ (Builtin.SmallTypes.ownedTupleIsFree (.ref z) >>= _) _ _ _; refine wpAny_bind ?_; unfold Builtin.SmallTypes.ownedTupleIsFree
 refine wpAny_bind (wpAny_field hz rfl (x:=.none) rfl (wpAny_pure ?_)); simp only[if_true]; refine wpAny_bind (wpAny_rule ?_); refine wpAny_bind (wpAny_field hz rfl (x:=.ref q) rfl ?_)
 refine wpAny_bind (wpAny_setField_rec hz (by simp) fun h1 z1 b1=>?_); replace z1:IsZip h1 z p q .ellipsis:=z1
 refine wpAny_bind ?_; simp only[List.zipIdx_cons,List.zipIdx_nil,List.forIn_cons,List.forIn_nil]; refine wpAny_bind (wpAny_bind (wpAny_onRaise ?_))
 show wpAny _ _ (Builtin.SmallTypes.nextOf (.ref i1) >>= _) _ _ _; refine wpAny_bind (vZ (nM j1 b1 D.az) (yx t1 b1 D.xz) hx fun h2 u1 b2=>wpAny_pure ?_)
 have q2:IsPair h2 q a b:=(b2.2 _ D.qa).trans ((b1.2 _ D.qz).trans hq); refine wpAny_bind (wpAny_seqItems q2 rfl ?_); refine wpAny_bind (wpAny_updateSeq_pair q2 fun h3 q3 b3=>?_)
 replace q3:IsPair h3 q x b:=q3; refine wpAny_bind (wpAny_letGo (wpAny_pure ?_)); refine wpAny_bind (wpAny_bind (wpAny_onRaise ?_))
 show wpAny _ _ (Builtin.SmallTypes.nextOf (.ref i2) >>= _) _ _ _
 refine wpAny_bind (wpAny_nextOf_list_item (jd (jd (jd j2 b1 D.bz) b2 D.ab.symm) b3 D.qb.symm) (pR (pR (pR t2 b1 D.yz) b2 D.ya) b3 D.yq) hy fun h4 u2 b4=>wpAny_pure ?_)
 have q4:IsPair h4 q x b:=(b4.2 _ D.qb).trans q3; refine wpAny_bind (wpAny_seqItems q4 rfl ?_); refine wpAny_bind (wpAny_updateSeq_pair q4 fun h5 q5 b5=>?_)
 replace q5:IsPair h5 q x y:=q5; refine wpAny_bind (wpAny_letGo (wpAny_pure (wpAny_pure ?_))); refine wpAny_bind (wpAny_seqItems q5 rfl ?_); refine wpAny_bind (wpAny_newTuple ?_)
 have sz:h5.objs.size=s.heap.objs.size:=by rw[b5.1,b4.1,b3.1,b2.1,b1.1]
 have z5:IsZip h5 z p q .ellipsis:=(b5.2 _ D.qz.symm).trans ((b4.2 _ D.bz.symm).trans ((b3.2 _ D.qz.symm).trans ((b2.2 _ D.az.symm).trans z1)))
 have kp:∀ c o,c≠z->c≠q->c≠i1->c≠i2->s.heap.get? c=some o->h5.get? c=some o:=fun c o c1 c2 c3 c4 e=>(b5.2 c c2).trans ((b4.2 c c4).trans ((b3.2 c c2).trans ((b2.2 c c3).trans ((b1.2 c c1).trans e))))
 have u15:h5.IsTupleIter i1 l1 (k+1):=nM (nM (nM u1 b3 D.qa.symm) b4 D.ab) b5 D.qa.symm
 have u25:h5.IsListIter i2 l2 (k+1):=jd u2 b5 D.qb.symm
 have zl:z < h5.objs.size:=Heap.lt_size z5
 show wpAny _ _ (Builtin.SmallTypes.ownedTupleHandOut (.ref z) (.ref h5.objs.size) >>= _) _ _ _; refine wpAny_bind ?_; unfold Builtin.SmallTypes.ownedTupleHandOut
 have z6:IsZip (h5.push { cls:=.type "tuple",data:=.seq #[x,y] }) z p q .ellipsis:=Heap.get?_push_of_some _ z5
 refine wpAny_bind (wpAny_setField_rec z6 (by simp) fun h7 z7 b7=>?_); replace z7:IsZip h7 z p q (rawInt h5.objs.size):=z7
 refine wpAny_setField_rec z7 (by simp) fun h8 z8 b8=>?_; replace z8:IsZip h8 z p q (rawInt h5.objs.size):=z8
 have up:∀ c o,c≠z->h5.get? c=some o->h8.get? c=some o:=fun c o c1 e=>(b8.2 c c1).trans ((b7.2 c c1).trans (Heap.get?_push_of_some _ e))
 have t8:IsPair h8 h5.objs.size x y:=(b8.2 _ (Nat.ne_of_gt zl)).trans ((b7.2 _ (Nat.ne_of_gt zl)).trans (Heap.get?_push_size _ rfl))
 have s8:h8.objs.size=h5.objs.size+1:=by rw[b8.1,b7.1,Heap.size_push]
 rw[sz] at z8 t8 s8; refine wpAny_pure ⟨_,rfl,?_⟩
 show wpAny _ _ _ _ _ _
 rw[sz]
 exact wpAny_pure (hQ h8 z8 (up _ _ D.qz q5) (by obtain⟨o,e,r⟩:=u15; exact⟨o,up _ o D.az e,r⟩) (by obtain⟨o,e,r⟩:=u25; exact⟨o,up _ o D.bz e,r⟩) t8 s8 fun c o c1 c2 c3 c4 e=>up c o c1 (kp c o c1 c2 c3 c4 e))
theorem Ik {z p q i1 i2 l1 l2:Addr} {k:Nat} {xs ys:Array Value} {a b:Value} {Q:Fin->Shared->Prop} (hh:A.handled=none) (D:Zap z p q i1 i2 l1 l2)
  (hz:IsZip s.heap z p q .none) (hp:IsPair s.heap p (.ref i1) (.ref i2)) (hq:IsPair s.heap q a b) (j1:s.heap.IsTupleIter i1 l1 k) (j2:s.heap.IsListIter i2 l2 k) (t1:s.heap.IsTuple l1 xs) (t2:s.heap.IsList l2 ys)
  (hend:xs[k]? = none∨ys[k]? = none) (hE:∀ h' e,(∀ c o,c≠z->c≠q->c≠i1->c≠i2->s.heap.get? c=some o->h'.get? c=some o)->(∃ o,h'.get? e=some o/\o.cls = .type "StopIteration")->E (.ref e) { s with heap:=h' }) :
  wpAny (model prog w) A (Builtin.«zip.__next__» ⟨[.ref z],[]⟩) Q E s:=by
 show wpAny _ _ (field (.ref z) 2 >>= _) _ _ _; refine wpAny_bind (wpAny_field hz rfl (x:=.bool false) rfl ?_)
 show wpAny _ _ (field (.ref z) 3 >>= _) _ _ _; refine wpAny_bind (wpAny_field hz rfl (x:=.ref p) rfl ?_); refine wpAny_bind (wpAny_seqItems hp rfl ?_)
 show wpAny _ _ (Builtin.SmallTypes.ownedTupleIsFree (.ref z) >>= _) _ _ _; refine wpAny_bind ?_; unfold Builtin.SmallTypes.ownedTupleIsFree
 refine wpAny_bind (wpAny_field hz rfl (x:=.none) rfl (wpAny_pure ?_)); simp only[if_true]; refine wpAny_bind (wpAny_rule ?_); refine wpAny_bind (wpAny_field hz rfl (x:=.ref q) rfl ?_)
 refine wpAny_bind (wpAny_setField_rec hz (by simp) fun h1 z1 b1=>?_); replace z1:IsZip h1 z p q .ellipsis:=z1
 refine wpAny_bind ?_; simp only[List.zipIdx_cons,List.zipIdx_nil,List.forIn_cons,List.forIn_nil]; refine wpAny_bind (wpAny_bind (wpAny_onRaise ?_))
 show wpAny _ _ (Builtin.SmallTypes.nextOf (.ref i1) >>= _) _ _ _
 cases hx:xs[k]? with
 | none =>
  refine wpAny_bind (Hh hh (nM j1 b1 D.az) (yx t1 b1 D.xz) hx fun h2 e b2 he=>?_)
  obtain⟨oe,ho,hc⟩:=he
  have z2:IsZip h2 z p q .ellipsis:=b2 _ _ D.az.symm z1
  have ez:e≠z:=fun u=>by subst u; rw[z2] at ho; cases ho; simp at hc
  exact wpAny_setField_rec z2 (by simp) fun h3 _ b3=>hE h3 e (fun c o c1 _ c3 _ u=>(b3.2 c c1).trans (b2 _ _ c3 ((b1.2 c c1).trans u))) ⟨oe,(b3.2 e ez).trans ho,hc⟩
 | some x =>
  have hy:ys[k]? = none:=hend.elim (fun u=>by rw[hx] at u; cases u) id
  refine wpAny_bind (vZ (nM j1 b1 D.az) (yx t1 b1 D.xz) hx fun h2 u1 b2=>wpAny_pure ?_)
  have q2:IsPair h2 q a b:=(b2.2 _ D.qa).trans ((b1.2 _ D.qz).trans hq); refine wpAny_bind (wpAny_seqItems q2 rfl ?_); refine wpAny_bind (wpAny_updateSeq_pair q2 fun h3 q3 b3=>?_)
  refine wpAny_bind (wpAny_letGo (wpAny_pure ?_)); refine wpAny_bind (wpAny_bind (wpAny_onRaise ?_)); show wpAny _ _ (Builtin.SmallTypes.nextOf (.ref i2) >>= _) _ _ _
  refine wpAny_bind (wpAny_nextOf_list_end hh (jd (jd (jd j2 b1 D.bz) b2 D.ab.symm) b3 D.qb.symm) (pR (pR (pR t2 b1 D.yz) b2 D.ya) b3 D.yq) hy fun h4 e b4 he=>?_)
  obtain⟨oe,ho,hc⟩:=he
  have z4:IsZip h4 z p q .ellipsis:=b4 _ _ D.bz.symm ((b3.2 _ D.qz.symm).trans ((b2.2 _ D.az.symm).trans z1))
  have ez:e≠z:=fun u=>by subst u; rw[z4] at ho; cases ho; simp at hc
  exact wpAny_setField_rec z4 (by simp) fun h5 _ b5=>hE h5 e (fun c o c1 c2 c3 c4 u=>(b5.2 c c1).trans (b4 _ _ c4 ((b3.2 c c2).trans ((b2.2 c c3).trans ((b1.2 c c1).trans u))))) ⟨oe,(b5.2 e ez).trans ho,hc⟩
theorem Kd {z p q i1 i2 l1 l2:Addr} {k:Nat} {xs ys:Array Value} {a b:Value} {Q:Option Value->Shared->Prop} (hh:A.handled=none) (D:Zap z p q i1 i2 l1 l2)
  (hz:IsZip s.heap z p q .none) (hp:IsPair s.heap p (.ref i1) (.ref i2)) (hq:IsPair s.heap q a b) (j1:s.heap.IsTupleIter i1 l1 k) (j2:s.heap.IsListIter i2 l2 k) (t1:s.heap.IsTuple l1 xs) (t2:s.heap.IsList l2 ys)
  (hend:xs[k]? = none∨ys[k]? = none) (hQ:∀ h',(∀ c o,c≠z->c≠q->c≠i1->c≠i2->s.heap.get? c=some o->h'.get? c=some o)->Q none { s with heap:=h' }):wpAny (model prog w) A (pyNext (.ref z)) Q E s:=by
 have hT:s.TypeIs (.ref z) "zip":=⟨_,hz,rfl⟩; unfold pyNext
 refine wpAny_bind (wpAny_attempt (wpAny_callSpecial?_slot (name:=Str.ofString "__next__") hT F.slot_zip_next (wpAny_call_entry F.slot_zip_next hT F.entry_zip_next (Ik hh D hz hp hq j1 j2 t1 t2 hend fun h' e kp he=>?_) (F.args_zip_next_1 _))))
 obtain⟨o,ho,hc⟩:=he
 exact wpAny_bind (wpAny_isInstance (T:="StopIteration") (b:=true) ⟨o,ho,hc⟩ isSubtype_stop (wpAny_pure (hQ _ kp)))
noncomputable abbrev uB (h:Heap) (t:Addr):Heap:=h.push { cls:=.type "list_iterator",data:=.fields #[.ref t,.int 0 0] }
noncomputable abbrev uC (h:Heap) (t u:Addr):Heap:=(uB (zA h t) u).push { cls:=.type "tuple",data:=.seq #[.ref h.objs.size,.ref (zA h t).objs.size] }
noncomputable abbrev uD (h:Heap) (t u:Addr):Heap:=(uC h t u).push { cls:=.type "tuple",data:=.seq #[.none,.none] }
noncomputable abbrev uE (h:Heap) (t u:Addr):Heap:=(uD h t u).push { cls:=.type "zip",data:=.fields #[.none,.bool false,.bool false,.ref (uB (zA h t) u).objs.size,.ref (uC h t u).objs.size] }
theorem J4 (l1 l2:Addr) (xs ys:Array Value) :
  Meets (Builtin.«zip.__new__» ⟨[.type "zip",.ref l1,.ref l2],[]⟩) (fun _ R s=>s.heap.IsTuple l1 xs/\s.heap.IsList l2 ys/\R (.ok (.ret (.ref (uD s.heap l1 l2).objs.size))) { s with heap:=uE s.heap l1 l2 }) :=
 .of_wp fun prog w A R s h=>by
  obtain⟨hp,g,d,tk,os⟩:=s; obtain⟨a1,a2,h⟩:=h; have hsub:=sub_zip
  have T1:Heap.IsTuple (Shared.heap ⟨hp,g,d,tk,os⟩) l1 xs:=a1
  have T2:Heap.IsList (Shared.heap ⟨hp.push { cls:=.type "tuple_iterator",data:=.fields #[.ref l1,.int 0 0] },g,d,tk,os⟩) l2 ys:=by
   obtain⟨o,e,r⟩:=a2
   exact⟨o,Heap.get?_push_of_some _ e,r⟩
  wp_walk using wpAny_pyIter_tuple T1,wpAny_pyIter_list T2
  exact⟨_,rfl,h⟩
theorem Hq {l1 l2:Addr} {xs ys:Array Value} {Q:Value->Shared->Prop} (t1:s.heap.IsTuple l1 xs) (t2:s.heap.IsList l2 ys)
  (h:∀ h',IsZip h' (s.heap.objs.size+4) (s.heap.objs.size+2) (s.heap.objs.size+3) .none->IsPair h' (s.heap.objs.size+2) (.ref s.heap.objs.size) (.ref (s.heap.objs.size+1))->IsPair h' (s.heap.objs.size+3) .none .none →
   h'.IsTupleIter s.heap.objs.size l1 0->h'.IsListIter (s.heap.objs.size+1) l2 0->(∀ c o,s.heap.get? c=some o->h'.get? c=some o)->Q (.ref (s.heap.objs.size+4)) { s with heap:=h' }) :
  wpAny (model prog w) A (call (.type "zip") [.ref l1,.ref l2]) Q E s:=by
 refine callType_new F.called_zip (by decide) (F.typeCall_zip_2 _ _) (F.newCall_zip_2 _ _) (fun obj=>F.args_object_init_3 obj _ _) F.entry_zip_new (J4 l1 l2 xs ys) ⟨t1,t2,?_⟩
 have y1:(zA s.heap l1).objs.size=s.heap.objs.size+1:=Heap.size_push ..
 have y2:(uB (zA s.heap l1) l2).objs.size=s.heap.objs.size+2:=by rw[Heap.size_push,y1]
 have y3:(uC s.heap l1 l2).objs.size=s.heap.objs.size+3:=by rw[Heap.size_push,y2]
 have y4:(uD s.heap l1 l2).objs.size=s.heap.objs.size+4:=by rw[Heap.size_push,y3]
 have w5:(uE s.heap l1 l2).get? (uD s.heap l1 l2).objs.size=some _:=Heap.get?_push_size _ rfl
 have w4:(uE s.heap l1 l2).get? (uC s.heap l1 l2).objs.size=some _:=Heap.get?_push_of_some _ (Heap.get?_push_size _ rfl)
 have w3:(uE s.heap l1 l2).get? (uB (zA s.heap l1) l2).objs.size=some _:=Heap.get?_push_of_some _ (Heap.get?_push_of_some _ (Heap.get?_push_size _ rfl))
 have w2:(uE s.heap l1 l2).get? (zA s.heap l1).objs.size=some _:=Heap.get?_push_of_some _ (Heap.get?_push_of_some _ (Heap.get?_push_of_some _ (Heap.get?_push_size _ rfl)))
 have w1:(uE s.heap l1 l2).get? s.heap.objs.size=some _:=Heap.get?_push_of_some _ (Heap.get?_push_of_some _ (Heap.get?_push_of_some _ (Heap.get?_push_of_some _ (Heap.get?_push_size _ rfl))))
 show _/\_
 rw[y2,y3,y4] at w5; rw[y1,y2] at w3; rw[y3] at w4; rw[y1] at w2; rw[y4]
 exact⟨⟨_,w5,rfl⟩,h _ w5 w3 w4 ⟨_,w1,rfl,rfl⟩ ⟨_,w2,rfl,rfl⟩ fun c o u=>Heap.get?_push_of_some _ (Heap.get?_push_of_some _ (Heap.get?_push_of_some _ (Heap.get?_push_of_some _ (Heap.get?_push_of_some _ u))))⟩
end
noncomputable def Itu (K : W.Frag) (a b : Addr) : It :=
  ⟨fun i H => ∃ xs ys x y, SqT K H a xs ∧ SqL K H b ys ∧ xs[i]? = some x ∧ ys[i]? = some y,
   fun i H v H' => ∃ p x y, H p = none ∧ v = .ref p ∧ (∀ xs, SqT K H a xs → xs[i]? = some x) ∧ (∀ ys, SqL K H b ys → ys[i]? = some y) ∧ H' = upd H p (.tup [x, y]),
   fun i H => ∃ xs ys, SqT K H a xs ∧ SqL K H b ys ∧ (xs.length ≤ i ∨ ys.length ≤ i)⟩
noncomputable def tnU (z p q i1 i2 a b:Addr) (i:Nat) (h:Heap):Prop:=IsZip h z p q .none/\IsPair h p (.ref i1) (.ref i2)/\(∃ u v,IsPair h q u v)/\h.IsTupleIter i1 a i/\h.IsListIter i2 b i
theorem Gb {P:Program} {w:World} {K:W.Frag} {elts:List Expr} {x1} {pos:Pos} {z p q i1 i2 a b:Addr} (D:Zap z p q i1 i2 a b) :
  Turn P w K (.Tuple elts x1 pos) (Itu K a b) [z,p,q,i1,i2] z (tnU z p q i1 i2 a b) where
 mem:=by simp
 obj:=fun i h st c hc=>by
  obtain⟨hz,hp,⟨u,v,hq⟩,⟨o1,e1,_,d1⟩,⟨o2,e2,_,d2⟩⟩:=st
  simp only[List.mem_cons,List.not_mem_nil,or_false] at hc
  rcases hc with rfl | rfl | rfl | rfl | rfl
  ·exact⟨_,hz,fun v z=>by cases z⟩
  ·exact⟨_,hp,fun v z=>by cases z⟩
  ·exact⟨_,hq,fun v z=>by cases z⟩
  ·exact⟨_,e1,fun v z=>by rw[d1] at z; cases z⟩
  ·exact⟨_,e2,fun v z=>by rw[d2] at z; cases z⟩
 keep:=fun i h h' st k=>by
  obtain⟨hz,hp,⟨u,v,hq⟩,⟨o1,e1,r1⟩,⟨o2,e2,r2⟩⟩:=st
  exact⟨k z (by simp) _ hz,k p (by simp) _ hp,⟨u,v,k q (by simp) _ hq⟩,⟨o1,k i1 (by simp) _ e1,r1⟩,⟨o2,k i2 (by simp) _ e2,r2⟩⟩
 item:=by
  intro X hP hw hK hc i pins s σ H E I hf st hg
  subst hP hw hK
  obtain⟨xs,ys,x,y,hx,hy,ex,ey⟩:=hg
  obtain⟨hz,hp,⟨u,v,hq⟩,j1,j2⟩:=st
  obtain⟨its,rv,tp,_⟩:=I.tuple hx
  obtain⟨its2,rv2,tp2,_⟩:=I.list hy
  obtain⟨xu,hxu,rx⟩:=rv.get ex
  obtain⟨yu,hyu,ry⟩:=rv2.get ey
  refine Iw D hz hp hq j1 j2 (show s.heap.IsTuple a its.toArray from tp) (show s.heap.IsList b its2.toArray from tp2.isList) (x:=xu) (y:=yu) (by simpa using hxu) (by simpa using hyu) fun h' z' q' u1 u2 t' _ kp=>⟨_,rfl,?_⟩
  refine wpAny_letOwnedTupleGo_zip z' fun h2 z2 b2=>?_
  have lt:∀ {c o},s.heap.get? c=some o->c < s.heap.objs.size:=fun e=>Heap.lt_size e
  have zne:s.heap.objs.size≠z:=Nat.ne_of_gt (lt hz)
  have hfr:H s.heap.objs.size=none:=I.fresh
  have I1:Inv X pins σ (upd H s.heap.objs.size (.tup [x,y])) { s with heap:=s.heap.push { cls:=.type "tuple",data:=.seq #[xu,yu] } } :=
   I.laid (t':=s.toks) (fun _ _ e=>Heap.get?_push_of_some _ e) (Nat.le_refl _) ⟨by show 2<=sizeLine; decide,[xu,yu],.cons rx (.cons ry .nil),⟨_,Heap.get?_push_size _ rfl,rfl,_,rfl⟩⟩
  have blt:∀ c∈[z,p,q,i1,i2],c < s.heap.objs.size:=fun c hc=>by
   obtain⟨_,e1,_⟩:=j1
   obtain⟨_,e2,_⟩:=j2
   simp only[List.mem_cons,List.not_mem_nil,or_false] at hc
   rcases hc with rfl | rfl | rfl | rfl | rfl
   ·exact lt hz
   ·exact lt hp
   ·exact lt hq
   ·exact lt e1
   ·exact lt e2
  have ff:∀ c∈[z,p,q,i1,i2],sG X pins (upd H s.heap.objs.size (.tup [x,y])) c:=fun c hc=>by
   obtain⟨f0,fr⟩:=hf c hc
   exact⟨by rw[cj (Nat.ne_of_lt (blt c hc))]; exact f0,fr⟩
  have kk:∀ c o,c ∉ [z,q,i1,i2]->(s.heap.push { cls:=.type "tuple",data:=.seq #[xu,yu] }).get? c=some o->h2.get? c=some o:=fun c o hc e=>by
   have c1:c≠z:=fun h=>hc (by simp [h])
   refine (b2.2 c c1).trans ?_
   rcases Heap.get?_push_cases e with⟨ec,eo⟩ | e'
   ·subst ec
    subst eo
    exact t'
   ·exact kp c o c1 (fun h=>hc (by simp [h])) (fun h=>hc (by simp [h])) (fun h=>hc (by simp [h])) e'
  have I2:Inv X pins σ (upd H s.heap.objs.size (.tup [x,y])) { s with heap:=h2 } :=
   Inv.lF (s:={ s with heap:=s.heap.push { cls:=.type "tuple",data:=.seq #[xu,yu] } }) (h':=h2) (t':=s.toks) (ch:=[z,q,i1,i2]) I1 kk fun c hc=>ff c (by
    simp only[List.mem_cons] at hc ⊢
    rcases hc with h | h | h | h
    ·exact .inl h
    ·exact .inr (.inr (.inl h))
    ·exact .inr (.inr (.inr (.inl h)))
    ·exact .inr (.inr (.inr (.inr h))))
  refine⟨.ref s.heap.objs.size,_,I2,rfl,⟨_,x,y,hfr,rfl,fun zs hzs=>?_,fun zs hzs=>?_,rfl⟩,⟨z2,(b2.2 _ D.pz).trans (kp _ _ D.pz D.pq D.pa D.pb hp),⟨_,_,(b2.2 _ D.qz).trans q'⟩,nM u1 b2 D.az,jd u2 b2 D.bz⟩,fun c hc=>(ff c hc).1⟩
  ·rw[I.jX hzs hx]; exact ex
  ·rw[I.rD hzs hy]; exact ey
 done:=by
  intro X hP hw hK hc i pins s σ H E I hf st hg
  subst hP hw hK
  obtain⟨xs,ys,hx,hy,hend⟩:=hg
  obtain⟨hz,hp,⟨u,v,hq⟩,j1,j2⟩:=st
  obtain⟨its,rv,tp,_⟩:=I.tuple hx
  obtain⟨its2,rv2,tp2,_⟩:=I.list hy
  have l1:=rv.length
  have l2:=rv2.length
  refine Kd (I.ok.hd hc) D hz hp hq j1 j2 (show s.heap.IsTuple a its.toArray from tp) (show s.heap.IsList b its2.toArray from tp2.isList) (hend.imp (fun h=>by simp; lia) fun h=>by simp; lia) fun h' kp=>⟨rfl,?_⟩
  exact I.lF (t':=s.toks) (ch:=[z,q,i1,i2]) (fun c o hc e=>kp c o (fun h=>hc (by simp [h])) (fun h=>hc (by simp [h])) (fun h=>hc (by simp [h])) (fun h=>hc (by simp [h])) e)
   fun c hc=>hf c (by simp only[List.mem_cons] at hc ⊢; rcases hc with h | h | h | h; exact .inl h; exact .inr (.inr (.inl h)); exact .inr (.inr (.inr (.inl h))); exact .inr (.inr (.inr (.inr h))))
 self:=fun _ _ _ _ _ st h=>wpAny_pyIter_zip st.1 h
noncomputable def Nv (K:W.Frag) (ta:TA):TI:=fun σ H R=>ta σ H fun vs H1=>∃ a b xs ys,vs=[.ref a,.ref b]/\SqT K H1 a xs/\SqL K H1 b ys/\R (Itu K a b) H1
theorem GZ {X:Cx} {elts:List Expr} {x1} {tpos:Pos} {a b:Expr} {ta:TA} {p pos:Pos} (hg:Gl X "zip") (hm:X.mg "zip" = none) (ha:PA X [a,b] ta) (hs:starEach [a,b] X.env=[(false,eval a X.env),(false,eval b X.env)]:=by rfl) (hs2:starEach [b] X.env=[(false,eval b X.env)]:=by rfl) :
  PI X (.Tuple elts x1 tpos) (.Call (.Name "zip" p) [a,b] [] pos) (Nv X.K ta):=by
 intro pins s σ H R I h
 refine Call_ (jc I hg hm boot_zip (PyProof.Rows.callWith_type1 (thn (ha pos pins s σ H _ I h) fun us s1 ⟨vs,H1,I1,r1,q1⟩=>?_) (by rw[hs,hs2]) (by rw[hs2]; rfl)))
 obtain⟨c,d,xs,ys,e,hx,hy,q⟩:=q1
 subst e
 obtain⟨u1,u2,rfl,ru1,ru2⟩:=vals2 r1
 cases ru1
 cases ru2
 obtain⟨its,_,tp,_⟩:=I1.tuple hx
 obtain⟨its2,_,tp2,_⟩:=I1.list hy
 refine Hq (show s1.heap.IsTuple c its.toArray from tp) (show s1.heap.IsList d its2.toArray from tp2.isList) fun h' z' p' q' j1 j2 kp=>?_
 have lc:c < s1.heap.objs.size:=by obtain⟨o,e,_⟩:=tp; exact Heap.lt_size e
 have ld:d < s1.heap.objs.size:=by obtain⟨o,e,_⟩:=tp2.isList; exact Heap.lt_size e
 have D:Zap (s1.heap.objs.size+4) (s1.heap.objs.size+2) (s1.heap.objs.size+3) s1.heap.objs.size (s1.heap.objs.size+1) c d:=Ii lc ld
 refine wpAny_pyIter_zip z' ⟨_,_,_,_,H1,rfl,I1.kept (t':=s1.toks) kp,Gb D,⟨z',p',⟨_,_,q'⟩,j1,j2⟩,fun e he=>?_,q⟩
 have hle:s1.heap.objs.size<=e:=by
  simp only[List.mem_cons,List.not_mem_nil,or_false] at he
  rcases he with rfl | rfl | rfl | rfl | rfl <;> lia
 exact I1.DQ hle (I1.hok.fresh hle)
theorem xY {K:W.Frag} {a b D:Addr} {xs ys:List V} {g:TG} {tt:TT} {te:TE} {H1:Hp} {Q:Hp->Prop} {σ0:St} (hlen:xs.length=ys.length) (Pv:Nat->List V->St->Hp->Prop) (h0:Pv 0 [] σ0 (upd H1 D (.lst [])))
  (hl:∀ i zs σ H,i<=xs.length->Pv i zs σ H->SqT K H a xs/\SqL K H b ys/\H D=some (.lst zs))
  (hs:∀ i zs x y p σ H,xs[i]? = some x->ys[i]? = some y->H p=none->Pv i zs σ H->g (.ref p) σ (upd H p (.tup [x,y])) fun σ3 H3=>tt σ3 H3 fun c H4=>if c=true then te σ3 H4 fun v H5=>H5 D=some (.lst zs)/\zs.length < sizeLine/\Pv (i+1) (zs++[v]) σ3 (upd H5 D (.lst (zs++[v]))) else Pv (i+1) zs σ3 H4)
  (hd:∀ zs σ H,Pv xs.length zs σ H->Q H):iC D σ0 (Itu K a b) g tt te H1 Q:=by
 refine⟨fun i m zs σ H=>m=xs.length - i/\i<=xs.length/\Pv i zs σ H,⟨xs.length,by simp,Nat.zero_le _,h0⟩,?_⟩
 rintro i m zs σ H ⟨rfl,hi,p⟩
 obtain⟨q1,q2,qD⟩:=hl i zs σ H hi p
 refine⟨qD,?_⟩
 by_cases hlt:i < xs.length
 ·have hlt2:i < ys.length:=by lia
  refine .inr ⟨⟨xs,ys,xs[i],ys[i],q1,q2,by simp [hlt],by simp [hlt2]⟩,Pv (i+1),fun zs' σ' H' p'=>⟨xs.length - (i+1),by lia,rfl,hlt,p'⟩,fun v H' y=>?_⟩
  obtain⟨pp,x,y,hp,rfl,hx,hy,rfl⟩:=y
  exact hs i zs x y pp σ _ (hx xs q1) (hy ys q2) hp p
 ·have e:i=xs.length:=by lia
  subst e
  exact .inl ⟨⟨xs,ys,q1,q2,.inl (Nat.le_refl _)⟩,hd zs σ H p⟩
end L2
namespace L2
open PySem PySem.Spec PyProof.Rows
noncomputable def Itn (K : W.Frag) (a : Addr) : It :=
  ⟨fun i H => ∃ xs x, SqL K H a xs ∧ xs[i]? = some x,
   fun i H v H' => ∃ p x, H p = none ∧ v = .ref p ∧ (∀ xs, SqL K H a xs → xs[i]? = some x) ∧ H' = upd H p (.tup [.int (i : Int), x]),
   fun i H => ∃ xs, SqL K H a xs ∧ xs.length ≤ i⟩
noncomputable def tnN (e it a:Addr) (i:Nat) (h:Heap):Prop:=(∃ old,IsEnum h e it (i:Int) old)/\h.IsListIter it a i
theorem Bu {P:Program} {w:World} {K:W.Frag} {elts:List Expr} {x1} {pos:Pos} {e it a:Addr} (hne:e≠it) :
  Turn P w K (.Tuple elts x1 pos) (Itn K a) [e,it] e (tnN e it a) where
 mem:=by simp
 obj:=fun i h st c hc=>by
  obtain⟨⟨old,he⟩,⟨o,ho,_,d⟩⟩:=st
  simp only[List.mem_cons,List.not_mem_nil,or_false] at hc
  rcases hc with rfl | rfl
  ·exact⟨_,he,fun v z=>by cases z⟩
  ·exact⟨_,ho,fun v z=>by rw[d] at z; cases z⟩
 keep:=fun i h h' st k=>by
  obtain⟨⟨old,he⟩,j⟩:=st
  exact⟨⟨old,k e (by simp) _ he⟩,j.at fun o q=>k it (by simp) o q⟩
 item:=by
  intro X hP hw hK hc i pins s σ H E I hf st hg
  subst hP hw hK
  obtain⟨xs,x,hx,ex⟩:=hg
  obtain⟨⟨old,he⟩,j⟩:=st
  obtain⟨its,rv,pl,_⟩:=I.list hx
  obtain⟨xu,hxu,rx⟩:=rv.get ex
  refine wpAny_pyNext_enum_item he j pl.isList (x:=xu) (by simpa using hxu) hne fun h' e1 j1 t1 z1 kp=>⟨_,rfl,?_⟩
  refine wpAny_letOwnedTupleGo_enum e1 fun h2 e2 b2=>?_
  have el:e < s.heap.objs.size:=Heap.lt_size he
  have il:it < s.heap.objs.size:=by obtain⟨o,q,_⟩:=j; exact Heap.lt_size q
  have I1:Inv X pins σ (upd H s.heap.objs.size (.tup [.int (i:Int),x])) { s with heap:=s.heap.push { cls:=.type "tuple",data:=.seq #[.int i s.toks,xu] },toks:=s.toks+1 } :=
   I.laid (t':=s.toks+1) (fun _ _ q=>Heap.get?_push_of_some _ q) (Nat.le_refl _) ⟨by show 2<=sizeLine; decide,[.int i s.toks,xu],.cons ⟨_,rfl⟩ (.cons rx .nil),⟨_,Heap.get?_push_size _ rfl,rfl,_,rfl⟩⟩
  have ff:∀ c∈[e,it],sG X pins (upd H s.heap.objs.size (.tup [.int (i:Int),x])) c:=fun c hc=>by
   obtain⟨f0,fr⟩:=hf c hc
   have cl:c < s.heap.objs.size:=by
    simp only[List.mem_cons,List.not_mem_nil,or_false] at hc
    rcases hc with rfl | rfl
    ·exact el
    ·exact il
   exact⟨by rw[cj (Nat.ne_of_lt cl)]; exact f0,fr⟩
  have kk:∀ c o,c ∉ [e,it]->(s.heap.push { cls:=.type "tuple",data:=.seq #[.int i s.toks,xu] }).get? c=some o->h2.get? c=some o:=fun c o hc q=>by
   have c1:c≠e:=fun h=>hc (by simp [h])
   have c2:c≠it:=fun h=>hc (by simp [h])
   refine (b2.2 c c1).trans ?_
   rcases Heap.get?_push_cases q with⟨ec,eo⟩ | q'
   ·subst ec
    subst eo
    exact t1
   ·exact kp c o c1 c2 q'
  have I2:Inv X pins σ (upd H s.heap.objs.size (.tup [.int (i:Int),x])) { s with heap:=h2,toks:=s.toks+1 } :=
   Inv.lF (s:={ s with heap:=s.heap.push { cls:=.type "tuple",data:=.seq #[.int i s.toks,xu] },toks:=s.toks+1 }) (h':=h2) (t':=s.toks+1) (ch:=[e,it]) I1 kk ff
  refine⟨.ref s.heap.objs.size,_,I2,rfl,⟨_,x,I.fresh,rfl,fun zs hzs=>?_,rfl⟩,⟨⟨_,e2⟩,j1.at fun o q=>(b2.2 it (Ne.symm hne)).trans q⟩,fun c hc=>(ff c hc).1⟩
  rw[I.rD hzs hx]; exact ex
 done:=by
  intro X hP hw hK hc i pins s σ H E I hf st hg
  subst hP hw hK
  obtain⟨xs,hx,hend⟩:=hg
  obtain⟨⟨old,he⟩,j⟩:=st
  obtain⟨its,rv,pl,_⟩:=I.list hx
  have l1:=rv.length
  refine wpAny_pyNext_enum_end (I.ok.hd hc) he j pl.isList (by simp; lia) fun h' eb=>⟨rfl,?_⟩
  exact I.lF (t':=s.toks) (ch:=[e,it]) (fun c o hc q=>eb c o (fun h=>hc (by simp [h])) q) hf
 self:=fun _ _ _ _ _ st h=>by
  obtain⟨⟨old,he⟩,_⟩:=st
  exact wpAny_pyIter_enum he h
noncomputable def Ln (K:W.Frag) (ta:TA):TI:=fun σ H R=>ta σ H fun vs H1=>∃ a xs,vs=[.ref a]/\H1 a=some (.lst xs)/\R (Itn K a) H1
theorem Hw {X:Cx} {elts:List Expr} {x1} {tpos:Pos} {a:Expr} {ta:TA} {p pos:Pos} (hg:Gl X "enumerate") (hm:X.mg "enumerate" = none) (ha:PA X [a] ta) (hs:starEach [a] X.env=[(false,eval a X.env)]:=by rfl) :
  PI X (.Tuple elts x1 tpos) (.Call (.Name "enumerate" p) [a] [] pos) (Ln X.K ta):=by
 intro pins s σ H R I h
 refine Call_ (jc I hg hm boot_enumerate (PyProof.Rows.callWith_type1 (thn (ha pos pins s σ H _ I h) fun us s1 ⟨vs,H1,I1,r1,q1⟩=>?_) hs rfl))
 obtain⟨c,xs,e,hx,q⟩:=q1
 subst e
 obtain⟨u1,rfl,ru1⟩:=vals1 r1
 cases ru1
 obtain⟨z,its,n,rv,ho⟩:=I1.hok c _ hx
 refine call_enumerate_1 ho fun h' e1 j1 _ kp=>?_
 have en:s1.heap.objs.size+1≠s1.heap.objs.size:=Nat.ne_of_gt (Nat.lt_succ_self _)
 refine wpAny_pyIter_enum e1 ⟨_,_,_,_,H1,rfl,I1.kept (t':=s1.toks) kp,Bu (a:=c) en,⟨⟨_,e1⟩,j1⟩,fun b hb=>?_,q⟩
 have hle:s1.heap.objs.size<=b:=by
  simp only[List.mem_cons,List.not_mem_nil,or_false] at hb
  rcases hb with rfl | rfl
  ·exact Nat.le_succ _
  ·exact Nat.le_refl _
 exact I1.DQ hle (I1.hok.fresh hle)
theorem Fe {K:W.Frag} {a:Addr} {xs:List V} {g:TG} {tb:TS} {D:Ends} {σ:St} {H:Hp} (Pv:Nat->St->Hp->Prop) (h0:Pv 0 σ H) (hl:∀ i σ H,i<=xs.length->Pv i σ H->SqL K H a xs)
  (hs:∀ i x p σ H,xs[i]? = some x->H p=none->Pv i σ H->g (.ref p) σ (upd H p (.tup [.int (i:Int),x])) fun σ2 H2=>tb { D with nx:=Pv (i+1),ct:=Pv (i+1),bk:=D.nx } σ2 H2) (hd:∀ σ H,Pv xs.length σ H->D.nx σ H) :
  ∃ W:Nat->Nat->St->Hp->Prop,(∃ m,W 0 m σ H)/\∀ i m σ H,W i m σ H →
   ((Itn K a).stop i H/\D.nx σ H)∨((Itn K a).go i H/\∃ N:St->Hp->Prop,(∀ σ' H',N σ' H'->∃ m',m' < m/\W (i+1) m' σ' H')/\∀ x H',(Itn K a).yld i H x H'->g x σ H' fun σ2 H2=>tb { D with nx:=N,ct:=N,bk:=D.nx } σ2 H2):=by
 refine⟨fun i m σ H=>m=xs.length - i/\i<=xs.length/\Pv i σ H,⟨xs.length,by simp,Nat.zero_le _,h0⟩,?_⟩
 rintro i m σ H ⟨rfl,hi,p⟩
 have q1:=hl i σ H hi p
 by_cases hlt:i < xs.length
 ·refine .inr ⟨⟨xs,xs[i],q1,by simp [hlt]⟩,Pv (i+1),fun σ' H' p'=>⟨xs.length - (i+1),by lia,rfl,hlt,p'⟩,fun v H' y=>?_⟩
  obtain⟨pp,x,hp,rfl,hx,rfl⟩:=y
  exact hs i x pp σ _ (hx xs q1) hp p
 ·have e:i=xs.length:=by lia
  subst e
  exact .inl ⟨⟨xs,q1,Nat.le_refl _⟩,hd σ H p⟩
end L2
namespace L2
open PySem PySem.Spec PyProof.Rows
section
variable {X:Cx} {k:Nat}
noncomputable def Ja (H:Hp) (a b:Addr):Prop:=∃ xs ys:List V,H a=some (.lst xs)/\H b=some (.lst ys)/\xs.length=ys.length/\∀ (i:Nat) (u v:V),xs[i]? = some u->ys[i]? = some v->∃ (c d:Addr) (rs:List Addr),u = .ref c/\v = .ref d/\H c=some (.lst (rs.map V.ref))/\H d=some (.lst (rs.map V.ref))
theorem nC:∀ {rs:List Addr} {its:List Value},Vals (rs.map V.ref) its->its=rs.map Value.ref
 | [],_,.nil=>rfl
 | r::rs,_,.cons h t=>by
  rw[nC (rs:=rs) t,List.map_cons,show _=Value.ref r from h]
theorem twin_at {pins:List (Addr × Obj)} {s:Shared} {σ:St} {H:Hp} {a b:Addr} (I:Inv X pins σ H s) (hu:X.A.units+1 < cLine) (h:Ja H a b) :
  ∃ its its':Array Value,s.heap.IsList a its/\s.heap.IsList b its'/\its.size=its'.size/\∀ j (h1:j < its.size) (h2:j < its'.size),SeqAt.EqAt X.A.in1 s its[j] its'[j] true:=by
 obtain⟨xs,ys,ha,hb,hl,hp⟩:=h
 obtain⟨its,r1,p1,_⟩:=I.list (SqL.of ha)
 obtain⟨its',r2,p2,_⟩:=I.list (SqL.of hb)
 have l1:=r1.length
 have l2:=r2.length
 refine⟨its.toArray,its'.toArray,p1.isList,p2.isList,by simp; lia,fun j h1 h2=>?_⟩
 have h1:j < its.length:=by simpa using h1
 have h2:j < its'.length:=by simpa using h2
 have k1:j < xs.length:=by lia
 have k2:j < ys.length:=by lia
 obtain⟨c,d,rs,e1,e2,hc,hd⟩:=hp j xs[j] ys[j] (List.getElem?_eq_getElem k1) (List.getElem?_eq_getElem k2)
 obtain⟨u,hu1,ru⟩:=r1.get (List.getElem?_eq_getElem k1)
 obtain⟨v,hv1,rv⟩:=r2.get (List.getElem?_eq_getElem k2)
 rw[List.getElem?_eq_getElem h1] at hu1
 rw[List.getElem?_eq_getElem h2] at hv1
 rw[e1] at ru
 rw[e2] at rv
 rw[List.getElem_toArray,List.getElem_toArray,Option.some.inj hu1,Option.some.inj hv1,show u=Value.ref c from ru,show v=Value.ref d from rv]
 by_cases hcd:c=d
 ·rw[hcd]
  exact SeqAt.EqAt.same _
 ·obtain⟨jts,q1,o1,_⟩:=I.list (SqL.of hc)
  obtain⟨jts',q2,o2,_⟩:=I.list (SqL.of hd)
  rw[nC q1] at o1
  rw[nC q2] at o2
  have r:=SeqAt.RcAt.lists (A:=X.A.in1) (e:=fun _=>true) o1.isList o2.isList rfl hu fun j h1 h2=>SeqAt.EqAt.same _
  have et:∀ n:Nat,(List.range n).all (fun _=>true)=true:=fun n=>by simp
  rw[et] at r
  exact SeqAt.EqAt.of_refs hcd r
inductive Gh (x:V) (y:V) (H:Hp) (Q:VK):Prop where
 | mk (a b:Addr) (z0:x = .ref a) (z1:y = .ref b) (z2:Ja H a b) (z3:Q (.bl false) H):Gh  x y H Q
noncomputable def IW:R2:=fun x y H Q=>Gh  x y H Q
theorem BP (hr:mH k X.A):OpR X (compareOp .NotEq) IW:=by
 intro pins s σ H x y v u Q I rx ry h
 obtain⟨a,b,rfl,rfl,t,q⟩:=h
 cases rx
 cases ry
 have hu:=hr.units
 obtain⟨its,its',p,p',e1,ea⟩:=twin_at I (by lia) t
 have r:=SeqAt.RcNeAt.lists (e:=fun _=>true) p p' e1 hr.iV ea
 have et:∀ n:Nat,(List.range n).all (fun _=>true)=true:=fun n=>by simp
 rw[et] at r
 exact r X.prog X.w X.xe _ ⟨.bl _,H,I,rfl,q⟩
inductive G6 (K:W.Frag) (x:V) (y:V) (H:Hp) (Q:VK):Prop where
 | mk (a b:Addr) (ns ms:List Int) (z0:x = .ref a) (z1:y = .ref b) (z2:SqT K H a (ns.map V.int)) (z3:SqT K H b (ms.map V.int)) (z4:Q (.bl (!decide (ns=ms))) H):G6 K x y H Q
noncomputable def JT (K:W.Frag):R2:=fun x y H Q=>G6 K x y H Q
theorem HY (hu:X.A.units < cLine):OpR X (compareOp .NotEq) (JT X.K):=by
 intro pins s σ H x y v u Q I rx ry h
 obtain⟨a,b,ns,ms,rfl,rfl,ha,hb,q⟩:=h
 cases rx
 cases ry
 obtain⟨its,r1,p1,_⟩:=I.tuple ha
 obtain⟨its2,r2,p2,_⟩:=I.tuple hb
 have i1:IntsAre its ns:=intsAre_of r1
 have i2:IntsAre its2 ms:=intsAre_of r2
 have l1:=i1.length
 have l2:=i2.length
 have r:=SeqAt.RcNeAt.tuples (e:=fun j=>ns.getD j 0 == ms.getD j 0) (show s.heap.IsTuple a its.toArray from p1) (show s.heap.IsTuple b its2.toArray from p2) hu fun j h1 h2=>by
  obtain⟨t,e1⟩:=ints_get i1 (j:=j) (by simpa using h1)
  obtain⟨t',e2⟩:=ints_get i2 (j:=j) (by simpa using h2)
  rw[List.getElem_toArray,List.getElem_toArray,e1,e2]
  exact SeqAt.EqAt.int_int _ _ _ _
 have e:=jR ns ms
 have s1:its.toArray.size=ns.length:=by rw[List.size_toArray]; exact l1
 have s2:its2.toArray.size=ms.length:=by rw[List.size_toArray]; exact l2
 rw[s1,s2,e] at r
 exact r X.prog X.w X.xe _ ⟨.bl _,H,I,rfl,q⟩
end
end L2
namespace L2
open PySem PySem.Spec PyProof.Rows
theorem rn {X:Cx} {tg l:Expr} {tl:TE} (K:W.Frag) (hK:X.K=K) (hl:PE X l tl):PI X tg l (JZ K tl):=by
 subst hK
 exact cX hl
end L2
namespace L2
open PySem PySem.Spec PyProof.Rows
section
variable {prog:Program} {w:World} {A:Around} {E:Value->Shared->Prop} {s:Shared}
end
end L2
namespace L2
open PySem PySem.Spec PyProof.Rows
theorem Draws.Gp {prog:Program} {w:World} {A:Around} (hh:A.handled=none) (it l:Addr) (hne:l≠it) (items:Array Value) :
  Draws prog w A it [it,l] items.size (fun i v=>items[i]? = some v) (fun i h=>h.IsTupleIter it l i/\h.IsTuple l items) where
 live:=fun _ _ st=>let ⟨o,ho,_⟩:=st.1; ⟨o,ho⟩
 frame:=fun _ _ _ st hk=>by
  obtain⟨⟨o1,q1,r1⟩,⟨o2,q2,r2⟩⟩:=st
  exact⟨⟨o1,hk it (by simp) o1 q1,r1⟩,⟨o2,hk l (by simp) o2 q2,r2⟩⟩
 item:=fun i s Q E hi st hQ=>by
  refine vZ st.1 st.2 (x:=items[i]) (by simp [hi]) fun h' j' sb=>?_
  exact hQ _ h' s.toks (by simp [hi]) ⟨j',yx st.2 sb hne⟩ sb
 done:=fun s Q E st hE=>Hh hh st.1 st.2 (by simp) hE
theorem Ar (l:Addr) (xs:Array Value) :
  Meets (Builtin.«enumerate.__new__» ⟨[.type "enumerate",.ref l],[]⟩) (fun _ R s=>s.heap.IsTuple l xs/\R (.ok (.ret (.ref (zA s.heap l).objs.size))) { s with heap:=(zA s.heap l).push { cls:=.type "enumerate",data:=.fields #[.none,.bool false,.ref s.heap.objs.size,rawInt 0,.none,.none] } }) :=
 .of_wp fun prog w A R s h=>by
  obtain⟨hp,g,d,tk,os⟩:=s; obtain⟨hl,h⟩:=h
  have hsub:=sub_enumerate
  have hL:Heap.IsTuple (Shared.heap ⟨hp,g,d,tk,os⟩) l xs:=hl
  wp_walk
  refine wpAny_stack_any fun st=>wpAny_pure ?_
  split
  ·rename_i c _ _ _ _ _
   cases (c == Value.type "enumerate") <;> (wp_walk using wpAny_pyIter_tuple hL; exact⟨_,rfl,h⟩)
  ·wp_walk using wpAny_pyIter_tuple hL
   exact⟨_,rfl,h⟩
theorem yZ {prog:Program} {w:World} {A:Around} {E:Value->Shared->Prop} {s:Shared} {l:Addr} {xs:Array Value} {Q:Value->Shared->Prop} (hl:s.heap.IsTuple l xs)
  (h:∀ h',IsEnum h' (s.heap.objs.size+1) s.heap.objs.size 0 .none->h'.IsTupleIter s.heap.objs.size l 0->(∀ b o,s.heap.get? b=some o->h'.get? b=some o)->Q (.ref (s.heap.objs.size+1)) { s with heap:=h' }) :
  wpAny (model prog w) A (call (.type "enumerate") [.ref l]) Q E s:=by
 refine callType_new F.called_enumerate (by decide) (F.typeCall_enumerate_1 _) (F.newCall_enumerate_1 _) (fun obj=>F.args_object_init_2 obj _) F.entry_enumerate_new (Ar l xs) ⟨hl,?_⟩
 have hz:(zA s.heap l).objs.size=s.heap.objs.size+1:=Heap.size_push ..
 show _/\_
 have he:((zA s.heap l).push { cls:=.type "enumerate",data:=.fields #[.none,.bool false,.ref s.heap.objs.size,rawInt 0,.none,.none] }).get? (zA s.heap l).objs.size=some _:=Heap.get?_push_size _ rfl
 rw[hz] at he ⊢
 exact⟨⟨_,he,rfl⟩,h _ he ⟨_,Heap.get?_push_of_some _ (Heap.get?_push_size _ rfl),rfl,rfl⟩ fun b o x=>Heap.get?_push_of_some _ (Heap.get?_push_of_some _ x)⟩
noncomputable def Itm (K : W.Frag) (a : Addr) : It :=
  ⟨fun i H => ∃ xs x, SqT K H a xs ∧ xs[i]? = some x,
   fun i H v H' => ∃ p x, H p = none ∧ v = .ref p ∧ (∀ xs, SqT K H a xs → xs[i]? = some x) ∧ H' = upd H p (.tup [.int (i : Int), x]),
   fun i H => ∃ xs, SqT K H a xs ∧ xs.length = i⟩
noncomputable def tnM (e it a:Addr) (i:Nat) (h:Heap):Prop:=(∃ old,IsEnum h e it (i:Int) old)/\h.IsTupleIter it a i
theorem yW {P:Program} {w:World} {K:W.Frag} {elts:List Expr} {x1} {pos:Pos} {e it a:Addr} (hne:e≠it) :
  Turn P w K (.Tuple elts x1 pos) (Itm K a) [e,it] e (tnM e it a) where
 mem:=by simp
 obj:=fun i h st c hc=>by
  obtain⟨⟨old,he⟩,⟨o,ho,_,d⟩⟩:=st
  simp only[List.mem_cons,List.not_mem_nil,or_false] at hc
  rcases hc with rfl | rfl
  ·exact⟨_,he,fun v z=>by cases z⟩
  ·exact⟨_,ho,fun v z=>by rw[d] at z; cases z⟩
 keep:=fun i h h' st k=>by
  obtain⟨⟨old,he⟩,j⟩:=st
  exact⟨⟨old,k e (by simp) _ he⟩,j.at fun o q=>k it (by simp) o q⟩
 item:=by
  intro X hP hw hK hc i pins s σ H E I hf st hg
  subst hP hw hK
  obtain⟨xs,x,hx,ex⟩:=hg
  obtain⟨⟨old,he⟩,j⟩:=st
  obtain⟨its,rv,pl,_⟩:=I.tuple hx
  obtain⟨xu,hxu,rx⟩:=rv.get ex
  have tl:a≠it:=fun z=>by
   obtain⟨o1,q1,c1,_⟩:=j
   obtain⟨o2,q2,c2,_⟩:=(show s.heap.IsTuple a its.toArray from pl)
   rw[z,q1] at q2
   cases q2
   rw[c1] at c2
   injection c2 with z2
   exact absurd z2 (by decide)
  have te:a≠e:=fun z=>by
   obtain⟨o2,q2,c2,_⟩:=(show s.heap.IsTuple a its.toArray from pl)
   rw[z,he] at q2
   cases q2
   injection c2 with z2
   exact absurd z2 (by decide)
  have hin:i < its.toArray.size:=by
   have:=(List.getElem?_eq_some_iff.mp hxu).1
   simpa using this
  refine wpAny_pyNext_enum_itemD (Draws.Gp (A:=X.A.in1) (I.ok.hd hc) it a tl its.toArray) he ⟨j,show s.heap.IsTuple a its.toArray from pl⟩ hin hne (by simp [hne,te.symm]) fun x' h' tk hP e1 st1 t1 z1 kp=>⟨_,rfl,?_⟩
  obtain⟨j1,_⟩:=st1
  have ex':x'=xu:=by
   have hP':its.toArray[i]? = some x':=hP
   rw[show its.toArray[i]? = some xu by simpa using hxu] at hP'
   exact (Option.some.inj hP').symm
  subst x'
  refine wpAny_letOwnedTupleGo_enum e1 fun h2 e2 b2=>?_
  have el:e < s.heap.objs.size:=Heap.lt_size he
  have il:it < s.heap.objs.size:=by obtain⟨o,q,_⟩:=j; exact Heap.lt_size q
  have I1:Inv X pins σ (upd H s.heap.objs.size (.tup [.int (i:Int),x])) { s with heap:=s.heap.push { cls:=.type "tuple",data:=.seq #[.int i tk,xu] },toks:=tk+1 } :=
   I.laid (t':=tk+1) (fun _ _ q=>Heap.get?_push_of_some _ q) (Nat.le_refl _) ⟨by show 2<=sizeLine; decide,[.int i tk,xu],.cons ⟨_,rfl⟩ (.cons rx .nil),⟨_,Heap.get?_push_size _ rfl,rfl,_,rfl⟩⟩
  have ff:∀ c∈[e,it],sG X pins (upd H s.heap.objs.size (.tup [.int (i:Int),x])) c:=fun c hc=>by
   obtain⟨f0,fr⟩:=hf c hc
   have cl:c < s.heap.objs.size:=by
    simp only[List.mem_cons,List.not_mem_nil,or_false] at hc
    rcases hc with rfl | rfl
    ·exact el
    ·exact il
   exact⟨by rw[cj (Nat.ne_of_lt cl)]; exact f0,fr⟩
  have kk:∀ c o,c ∉ [e,it]->(s.heap.push { cls:=.type "tuple",data:=.seq #[.int i tk,xu] }).get? c=some o->h2.get? c=some o:=fun c o hc q=>by
   have c1:c≠e:=fun h=>hc (by simp [h])
   have c2:c≠it:=fun h=>hc (by simp [h])
   refine (b2.2 c c1).trans ?_
   rcases Heap.get?_push_cases q with⟨ec,eo⟩ | q'
   ·subst ec
    subst eo
    exact t1
   ·exact kp c o c1 c2 q'
  have I2:Inv X pins σ (upd H s.heap.objs.size (.tup [.int (i:Int),x])) { s with heap:=h2,toks:=tk+1 } :=
   Inv.lF (s:={ s with heap:=s.heap.push { cls:=.type "tuple",data:=.seq #[.int i tk,xu] },toks:=tk+1 }) (h':=h2) (t':=tk+1) (ch:=[e,it]) I1 kk ff
  refine⟨.ref s.heap.objs.size,_,I2,rfl,⟨_,x,I.fresh,rfl,fun zs hzs=>?_,rfl⟩,⟨⟨_,e2⟩,j1.at fun o q=>(b2.2 it (Ne.symm hne)).trans q⟩,fun c hc=>(ff c hc).1⟩
  rw[I.jX hzs hx]; exact ex
 done:=by
  intro X hP hw hK hc i pins s σ H E I hf st hg
  subst hP hw hK
  obtain⟨xs,hx,hend⟩:=hg
  obtain⟨⟨old,he⟩,j⟩:=st
  obtain⟨its,rv,pl,_⟩:=I.tuple hx
  have l1:=rv.length
  have tl:a≠it:=fun z=>by
   obtain⟨o1,q1,c1,_⟩:=j
   obtain⟨o2,q2,c2,_⟩:=(show s.heap.IsTuple a its.toArray from pl)
   rw[z,q1] at q2
   cases q2
   rw[c1] at c2
   injection c2 with z2
   exact absurd z2 (by decide)
  have hin:i=its.toArray.size:=by
   rw[List.size_toArray]
   lia
  refine wpAny_pyNext_enum_endD (Draws.Gp (A:=X.A.in1) (I.ok.hd hc) it a tl its.toArray) he ⟨by rw[← hin]; exact j,show s.heap.IsTuple a its.toArray from pl⟩ fun h' eb=>⟨rfl,?_⟩
  exact I.lF (t':=s.toks) (ch:=[e,it]) (fun c o hc q=>eb c o (fun h=>hc (by simp [h])) q) hf
 self:=fun _ _ _ _ _ st h=>by
  obtain⟨⟨old,he⟩,_⟩:=st
  exact wpAny_pyIter_enum he h
noncomputable def JV (K:W.Frag) (ta:TA):TI:=fun σ H R=>ta σ H fun vs H1=>∃ a xs,vs=[.ref a]/\SqT K H1 a xs/\R (Itm K a) H1
theorem yj {X:Cx} {elts:List Expr} {x1} {tpos:Pos} {a:Expr} {ta:TA} {p pos:Pos} (hg:Gl X "enumerate") (hm:X.mg "enumerate" = none) (ha:PA X [a] ta) (hs:starEach [a] X.env=[(false,eval a X.env)]:=by rfl) :
  PI X (.Tuple elts x1 tpos) (.Call (.Name "enumerate" p) [a] [] pos) (JV X.K ta):=by
 intro pins s σ H R I h
 refine Call_ (jc I hg hm boot_enumerate (PyProof.Rows.callWith_type1 (thn (ha pos pins s σ H _ I h) fun us s1 ⟨vs,H1,I1,r1,q1⟩=>?_) hs rfl))
 obtain⟨c,xs,e,hx,q⟩:=q1
 subst e
 obtain⟨u1,rfl,ru1⟩:=vals1 r1
 cases ru1
 obtain⟨its,rv,tp,_⟩:=I1.tuple hx
 refine yZ (show s1.heap.IsTuple c its.toArray from tp) fun h' e1 j1 kp=>?_
 have en:s1.heap.objs.size+1≠s1.heap.objs.size:=Nat.ne_of_gt (Nat.lt_succ_self _)
 refine wpAny_pyIter_enum e1 ⟨_,_,_,_,H1,rfl,I1.kept (t':=s1.toks) kp,yW (a:=c) en,⟨⟨_,e1⟩,j1⟩,fun b hb=>?_,q⟩
 have hle:s1.heap.objs.size<=b:=by
  simp only[List.mem_cons,List.not_mem_nil,or_false] at hb
  rcases hb with rfl | rfl
  ·exact Nat.le_succ _
  ·exact Nat.le_refl _
 exact I1.DQ hle (I1.hok.fresh hle)
theorem pX {K:W.Frag} {a D:Addr} {xs:List V} {g:TG} {tt:TT} {te:TE} {H1:Hp} {Q:Hp->Prop} {σ0:St} (Pv:Nat->List V->St->Hp->Prop) (h0:Pv 0 [] σ0 (upd H1 D (.lst [])))
  (hl:∀ i zs σ H,i<=xs.length->Pv i zs σ H->SqT K H a xs/\H D=some (.lst zs))
  (hs:∀ i zs x p σ H,xs[i]? = some x->H p=none->Pv i zs σ H->g (.ref p) σ (upd H p (.tup [.int (i:Int),x])) fun σ3 H3=>tt σ3 H3 fun c H4=>if c=true then te σ3 H4 fun v H5=>H5 D=some (.lst zs)/\zs.length < sizeLine/\Pv (i+1) (zs++[v]) σ3 (upd H5 D (.lst (zs++[v]))) else Pv (i+1) zs σ3 H4)
  (hd:∀ zs σ H,Pv xs.length zs σ H->Q H):iC D σ0 (Itm K a) g tt te H1 Q:=by
 refine⟨fun i m zs σ H=>m=xs.length - i/\i<=xs.length/\Pv i zs σ H,⟨xs.length,by simp,Nat.zero_le _,h0⟩,?_⟩
 rintro i m zs σ H ⟨rfl,hi,p⟩
 obtain⟨q1,qD⟩:=hl i zs σ H hi p
 refine⟨qD,?_⟩
 by_cases hlt:i < xs.length
 ·refine .inr ⟨⟨xs,xs[i],q1,by simp [hlt]⟩,Pv (i+1),fun zs' σ' H' p'=>⟨xs.length - (i+1),by lia,rfl,hlt,p'⟩,fun v H' y=>?_⟩
  obtain⟨pp,x,hp,rfl,hx,rfl⟩:=y
  exact hs i zs x pp σ _ (hx xs q1) hp p
 ·have e:i=xs.length:=by lia
  subst e
  exact .inl ⟨⟨xs,q1,rfl⟩,hd zs σ H p⟩
end L2
namespace L2
open PySem PySem.Spec PyProof.Rows
section
variable {X:Cx}
end
end L2
namespace L2
open PySem PySem.Spec PyProof.Rows
end L2
namespace L2
open PySem PySem.Spec PyProof.Rows
section
variable {X:Cx}
end
end L2
namespace L2
open PySem PySem.Spec PyProof.Rows
theorem vq (elt t0 i0 t1 i1:Expr) (scope:Scope) (pos:Pos) (it acc:Value) (env:Env) :
  compTurn (.ListComp elt [⟨t0,i0,[],0⟩,⟨t1,i1,[],0⟩] scope pos) 0 it acc env=(do
   standAt i0.pos
   match ← pyNext it with
   | none=>pure (.done .next)
   | some v =>
    letOwnedTupleGo t0 it v
    assign t0 env v
    let x ← eval i1 env
    standAt i1.pos
    let x ← foldedSetIterable i1 env x
    let _ ← runOwn (.compStart (.ListComp elt [⟨t0,i0,[],0⟩,⟨t1,i1,[],0⟩] scope pos) 1 (← holding [x] (pyIter x)) acc env) env
    again (.compLoop (.ListComp elt [⟨t0,i0,[],0⟩,⟨t1,i1,[],0⟩] scope pos) 0 it acc env)):=by rfl
theorem wA (elt t0 i0 t1 i1:Expr) (scope:Scope) (pos:Pos) (it acc:Value) (env:Env) :
  compTurn (.ListComp elt [⟨t0,i0,[],0⟩,⟨t1,i1,[],0⟩] scope pos) 1 it acc env=(standAt i1.pos >>= fun _=>pyNext it >>= fun r=>match r with
   | none=>pure (.done .next)
   | some v=>letOwnedTupleGo t1 it v >>= fun _=>assign t1 env v >>= fun _ =>
    (eval elt env >>= fun x=>call (.builtin "list.append") [acc,x] >>= fun _=>pure ()) >>= fun _ =>
     again (.compLoop (.ListComp elt [⟨t0,i0,[],0⟩,⟨t1,i1,[],0⟩] scope pos) 1 it acc env)):=by rfl
section
variable {prog:Program} {w:World} {A:Around} {R:Result->Shared->Prop} {s:Shared} {elt t0 i0 t1 i1:Expr} {scope:Scope} {pos:Pos} {it acc:Value} {env:Env}
theorem uY (h0:codeAny (model prog w) A (.compLoop (.ListComp elt [⟨t0,i0,[],0⟩,⟨t1,i1,[],0⟩] scope pos) 1 it acc env) R s)
  (h:wpAny (model prog w) A (pyIter it) (fun it' s'=>codeAny (model prog w) A (.compLoop (.ListComp elt [⟨t0,i0,[],0⟩,⟨t1,i1,[],0⟩] scope pos) 1 it' acc env) R s') (notedBy (model prog w) A env fun x s'=>R (.error x) s') s) :
  codeAny (model prog w) A (.compStart (.ListComp elt [⟨t0,i0,[],0⟩,⟨t1,i1,[],0⟩] scope pos) 1 it acc env) R s:=by
 refine codeAny_of_tree ?_
 show wpAny _ _ ((compStart (.ListComp elt [⟨t0,i0,[],0⟩,⟨t1,i1,[],0⟩] scope pos) 1 it acc env).onRaise (fun x=>do noteFrame x env; standAt theWindowsPlace)) _ _ s
 refine wpAny_notedAt ?_
 unfold compStart
 show wpAny _ _ (ask >>= _) _ _ s
 refine wpAny_bind (wpAny_askSetting (wpAny_ite ?_))
 split
 ·first
   | exact wpAny_bind (wpAny_pure (wpAny_pure (And.intro rfl h0)))
   | exact wpAny_pure (And.intro rfl h0)
 ·first
   | exact wpAny_bind (wpAny_rule (wpAny_bind (wpAny_standAt (wpAny_bind (wpAny_mono h (fun it' s' h'=>wpAny_pure (And.intro rfl h')) fun _ _ x=>x)))))
   | (refine wpAny_bind (wpAny_rule ?_); show wpAny _ _ (standAt i1.pos >>= _) _ _ s; exact wpAny_bind (wpAny_standAt (wpAny_bind (wpAny_mono h (fun it' s' h'=>wpAny_pure (And.intro rfl h')) fun _ _ x=>x))))
noncomputable abbrev noX:Value->Shared->Prop:=fun _ _=>False
theorem gO {E:Value->Shared->Prop} (x:Value) (s':Shared) (z:noX x s'):E x s':=z.elim
theorem tZ (hs1:∀ x,foldedSetIterable i1 env x=pure x) (I:Nat->Shared->Prop)
  (turn:∀ n s,I n s->wpAny (model prog w) A (pyNext it) (fun r s₁=>match r with
   | none=>R (.ok .next) s₁
   | some v=>wpAny (model prog w) A (letOwnedTupleGo t0 it v) (fun _ s₀=>wpAny (model prog w) A (assign t0 env v) (fun _ s₂=>wpAny (model prog w) A (eval i1 env) (fun x s₃=>wpAny (model prog w) A (pyIter x) (fun it1 s₄ =>
     codeAny (model prog w) A (.compStart (.ListComp elt [⟨t0,i0,[],0⟩,⟨t1,i1,[],0⟩] scope pos) 1 it1 acc env) (fun r s'=>match r with | .ok _=>∃ m,m < n/\I m s' | .error _=>False) s₄) noX s₃) noX s₂) noX s₀) noX s₁) noX s)
  (n:Nat) (h:I n s):codeAny (model prog w) A (.compLoop (.ListComp elt [⟨t0,i0,[],0⟩,⟨t1,i1,[],0⟩] scope pos) 0 it acc env) R s:=by
 refine codeAny_loop rfl I (fun n s hI=>?_) n h
 refine (show wpAny (model prog w) A ((compTurn (.ListComp elt [⟨t0,i0,[],0⟩,⟨t1,i1,[],0⟩] scope pos) 0 it acc env).onRaise (fun x=>do noteFrame x env; theTreesLotGoes x)) _ _ s from wpAny_noted ?_)
 rw[vq]
 refine wpAny_bind (wpAny_standAt (wpAny_bind (wpAny_mono (turn n s hI) (fun r s₁ h₁=>?_) gO)))
 cases r with
 | none=>exact wpAny_pure h₁
 | some v =>
  refine wpAny_bind (wpAny_mono h₁ (fun _ s₀ h₀=>wpAny_bind (wpAny_mono h₀ (fun _ s₂ h₂=>wpAny_bind (wpAny_mono h₂ (fun x s₃ h₃=>wpAny_bind (wpAny_standAt (wpAny_bind (wpAny_of_eq (hs1 x) (wpAny_bind (wpAny_holding (wpAny_mono h₃ (fun it1 s₄ h₄=>?_) gO))))))) gO)) gO)) gO)
  refine wpAny_bind (wpAny_runOwn (codeAny_mono h₄ fun r s' hr=>?_))
  cases r with
  | ok f=>exact wpAny_pure ⟨rfl,hr⟩
  | error e=>exact hr.elim
theorem sU (I:Nat->Shared->Prop)
  (turn:∀ n s,I n s->wpAny (model prog w) A (pyNext it) (fun r s₁=>match r with
   | none=>R (.ok .next) s₁
   | some v=>wpAny (model prog w) A (letOwnedTupleGo t1 it v) (fun _ s₀=>wpAny (model prog w) A (assign t1 env v) (fun _ s₂=>wpAny (model prog w) A (eval elt env) (fun x s₄=>wpAny (model prog w) A (call (.builtin "list.append") [acc,x]) (fun _ s₅=>∃ m,m < n/\I m s₅) noX s₄) noX s₂) noX s₀) noX s₁) noX s)
  (n:Nat) (h:I n s):codeAny (model prog w) A (.compLoop (.ListComp elt [⟨t0,i0,[],0⟩,⟨t1,i1,[],0⟩] scope pos) 1 it acc env) R s:=by
 refine codeAny_loop rfl I (fun n s hI=>?_) n h
 refine (show wpAny (model prog w) A ((compTurn (.ListComp elt [⟨t0,i0,[],0⟩,⟨t1,i1,[],0⟩] scope pos) 1 it acc env).onRaise (fun x=>do noteFrame x env; theTreesLotGoes x)) _ _ s from wpAny_noted ?_)
 rw[wA]
 refine wpAny_bind (wpAny_standAt (wpAny_bind (wpAny_mono (turn n s hI) (fun r s₁ h₁=>?_) gO)))
 cases r with
 | none=>exact wpAny_pure h₁
 | some v =>
  refine wpAny_bind (wpAny_mono h₁ (fun _ s₀ h₀=>wpAny_bind (wpAny_mono h₀ (fun _ s₂ h₂=>wpAny_bind (wpAny_bind (wpAny_mono h₂ (fun x s₄ h₄=>wpAny_bind (wpAny_mono h₄ (fun _ s₅ h₅=>wpAny_pure (wpAny_pure ⟨rfl,h₅⟩)) gO)) gO))) gO)) gO)
end
noncomputable def qY (D:Addr) (σ0:St) (J:It) (g:TG) (wi1:TI) (g1:TG) (te:TE) (H1:Hp) (Q:Hp->Prop):Prop :=
 ∃ W:Nat->Nat->List V->St->Hp->Prop,(∃ m,W 0 m [] σ0 (upd H1 D (.lst []))) ∧
  ∀ i m ys σ' H',W i m ys σ' H'->((J.stop i H'/\Q H')∨(J.go i H'/\∃ N:List V->St->Hp->Prop,(∀ zs σ2 H2,N zs σ2 H2->∃ m',m' < m/\W (i+1) m' zs σ2 H2) ∧
   ∀ x H2,J.yld i H' x H2->g x σ' H2 fun σ3 H3=>wi1 σ3 H3 fun J1 H4 =>
    ∃ Y:Nat->Nat->List V->St->Hp->Prop,(∃ m,Y 0 m ys σ3 H4) ∧
     ∀ j m zs σ5 H5,Y j m zs σ5 H5->((J1.stop j H5/\N zs σ5 H5)∨(J1.go j H5/\∃ M:List V->St->Hp->Prop,(∀ zs σ6 H6,M zs σ6 H6->∃ m',m' < m/\Y (j+1) m' zs σ6 H6) ∧
      ∀ y H6,J1.yld j H5 y H6->g1 y σ5 H6 fun σ7 H7=>te σ7 H7 fun v H8=>H8 D=some (.lst zs)/\zs.length < sizeLine/\M (zs++[v]) σ7 (upd H8 D (.lst (zs++[v])))))))
section
variable {X:Cx} {elt t0 i0 t1 i1:Expr} {scope:Scope} {pos:Pos} {L F:List Str} {cap:List Nat} {wi wi1:TI} {g g1:TG} {te:TE}
theorem Ae {cl:List (Str × Addr)} {pins:List (Addr × Obj)} {σ:St} {s2:Shared} {H2:Hp} {it:Addr} {fp:List Addr} {tn:Nat->Heap->Prop} {J:It} {use:Option (Value->Sem Unit)} {QQ:Value->Shared->Prop} {Z:Hp->Prop} {E:Value->Shared->Prop}
  (hc:X.calm=true) (ok:nF X scope F cap)
  (sub:∀ n c,cl.lookup n=some c->X.env.cells.lookup n=some c) (all:∀ y∈scope.names,y.2 = .free->∃ c,cl.lookup y.1=some c)
  (hg:∀ cl C s H fp,PG (bG X scope cl C (L++F) s H fp) t0 g) (hi1:∀ cl C s H fp,PI (bG X scope cl C (L++F) s H fp) t1 i1 wi1) (hg1:∀ cl C s H fp,PG (bG X scope cl C (L++F) s H fp) t1 g1) (he:∀ cl C s H fp,PE (bG X scope cl C (L++F) s H fp) elt te)
  (hs1:∀ (env:Env) x,foldedSetIterable i1 env x=pure x)
  (I2:Inv X pins σ H2 s2) (T:Turn X.prog X.w X.K t0 J fp it tn) (st2:tn 0 s2.heap) (f2:∀ b∈fp,sG X pins H2 b)
  (q2:qY s2.heap.objs.size (G5 L.length cap σ) J g wi1 g1 te H2 Z)
  (fin:∀ (C:Addr) (s':Shared) (H':Hp),Z H'->Inv X pins σ H' s'->(∃ m,s'.heap.Ns C m)->H' C=none->C≠X.env.locals->X.s₀.heap.objs.size<=C->(∀ x c,X.env.cells.lookup x=some c->c≠C)->(∀ p∈X.pn++pins,p.1≠C) →
   compPost (model X.prog X.w) X.A E use QQ (.ref s2.heap.objs.size) C (.ok .next) s') :
  wpAny (model X.prog X.w) X.A (newList []) (fun acc s₃=>wpAny (model X.prog X.w) X.A (newFunctionEnv scope X.env.globals cl [] X.env.qual none .none (some X.env)) (fun cenv s₄ =>
   codeAny (model X.prog X.w) X.A (.compStart (.ListComp elt [⟨t0,i0,[],0⟩,⟨t1,i1,[],0⟩] scope pos) 0 (.ref it) acc { cenv with scope:=relabel scope X.env }) (compPost (model X.prog X.w) X.A E use QQ acc cenv.locals) s₄) E s₃) E s2:=by
 have hD:H2 s2.heap.objs.size=none:=I2.fresh
 refine wpAny_newObj_type (wpAny_newFunctionEnv ok.cell (by intro y hy; simp at hy) (fun h₁ hns₁ hsb₁=>?_) ok.kind)
 dsimp only at hns₁ hsb₁ ⊢
 have I3:Inv X pins σ (upd H2 s2.heap.objs.size (.lst [])) { s2 with heap:=s2.heap.push { cls:=.type "list",data:=.seq ([]:List Value).toArray } }:=I2.K3 (t':=s2.toks) (ys:=[]) (its:=[]) .nil (Nat.zero_le _)
 have blt:∀ b∈fp,b < s2.heap.objs.size:=fun b hb=>let ⟨_,e,_⟩:=T.obj 0 _ st2 b hb; Heap.lt_size e
 have szC:(s2.heap.push { cls:=.type "list",data:=.seq ([]:List Value).toArray }).objs.size=s2.heap.objs.size+1:=Heap.size_push _ _
 generalize hs3:({ s2 with heap:=s2.heap.push { cls:=.type "list",data:=.seq ([]:List Value).toArray } }:Shared)=s3 at I3
 have es3:s3.heap=s2.heap.push { cls:=.type "list",data:=.seq ([]:List Value).toArray }:=by rw[← hs3]
 have eos:s3.os=s2.os:=by rw[← hs3]
 have fok:∀ b∈fp,sG X pins (upd H2 s2.heap.objs.size (.lst [])) b/\b < s3.heap.objs.size:=fun b hb=>by
  obtain⟨f0,fr⟩:=f2 b hb
  refine⟨⟨by rw[cj (Nat.ne_of_lt (blt b hb))]; exact f0,fr⟩,?_⟩
  rw[es3,szC]
  exact Nat.lt_succ_of_lt (blt b hb)
 have hkp:∀ b o,s3.heap.get? b=some o->h₁.get? b=some o:=fun b o e=>by
  have e':b < s3.heap.objs.size:=Heap.lt_size e
  rw[es3] at e e'
  exact (hsb₁.2 b (Nat.ne_of_lt e')).trans (Heap.get?_push_of_some _ e)
 have hns:h₁.Ns s3.heap.objs.size fun _=>none:=by
  rw[es3]
  exact hns₁
 have I4:∀ tk,Inv (bG X scope cl s3.heap.objs.size (L++F) s3 (upd H2 s2.heap.objs.size (.lst [])) fp) [] (G5 L.length cap σ) (upd H2 s2.heap.objs.size (.lst [])) { s3 with heap:=h₁,toks:=tk }:=fun tk =>
  ph (L:=L) ok I3 fok sub all hns hkp
 have stat:∀ {H':Hp},(∀ b∈fp,H' b=none)->∀ b∈fp,sG (bG X scope cl s3.heap.objs.size (L++F) s3 (upd H2 s2.heap.objs.size (.lst [])) fp) [] H' b:=fun {H'} hn b hb=>by
  obtain⟨⟨_,g1,g2,g3,g4,g5⟩,g6⟩:=fok b hb
  exact⟨hn b hb,Nat.ne_of_lt g6,vP I3 g1 g2,.inl hb,fun x c e=>g4 x c (sub x c e),fun p hp=>absurd (show p∈([]:List (Addr × Obj)) from hp) (by simp)⟩
 have loop:∀ tk,codeAny (model X.prog X.w) X.A (.compLoop (.ListComp elt [⟨t0,i0,[],0⟩,⟨t1,i1,[],0⟩] scope pos) 0 (.ref it) (.ref s2.heap.objs.size) (compEnvC scope cl s3.heap.objs.size X.env))
   (compPost (model X.prog X.w) X.A E use QQ (.ref s2.heap.objs.size) s3.heap.objs.size) { s3 with heap:=h₁,toks:=tk }:=fun tk=>by
  obtain⟨W,⟨m0,w0⟩,turn⟩:=q2
  have st3:tn 0 h₁:=T.keep 0 _ _ st2 fun b hb o e=>hkp b o (by rw[es3]; exact Heap.get?_push_of_some _ e)
  refine tZ (hs1 _) (fun n s'=>∃ i ys σ' H',Inv (bG X scope cl s3.heap.objs.size (L++F) s3 (upd H2 s2.heap.objs.size (.lst [])) fp) [] σ' H' s'/\tn i s'.heap/\(∀ b∈fp,H' b=none)/\W i n ys σ' H') ?_ m0
   ⟨0,[],_,_,I4 tk,st3,fun b hb=>(fok b hb).1.1,w0⟩
  rintro n s5 ⟨i,ys,σ5,H5,I5,st5,fr5,w5⟩
  rcases turn i n ys σ5 H5 w5 with⟨stop,qz⟩ | ⟨go,N,hN,step⟩
  ·refine thn (T.done (bG X scope cl s3.heap.objs.size (L++F) s3 (upd H2 s2.heap.objs.size (.lst [])) fp) rfl rfl rfl hc i [] s5 σ5 H5 _ I5 (stat fr5) st5 stop) fun r s6 ⟨hr,I6⟩=>?_
   subst hr
   have un:Un (frs X.stack) fp H2 H5 s2.heap s6.heap:=by
    have u1:Un (frs X.stack) fp H2 (upd H2 s2.heap.objs.size (.lst [])) s2.heap s3.heap:=by
     rw[es3]
     exact Un.laid (fun _ _ q=>Heap.get?_push_of_some _ q) (Nat.le_refl _) hD
    exact u1.trans I6.base
   have J1:Inv X pins σ H5 s6:=I2.call' (I6.os.trans eos) un I6.hok I6.bare fun b hb=>by
    obtain⟨_,g1,_,g3,g4,g5⟩:=f2 b hb
    exact⟨g3,g1,g4,g5⟩
   have hC:s2.heap.objs.size<=s3.heap.objs.size:=by rw[es3,szC]; exact Nat.le_succ _
   obtain⟨m,hm,_⟩:=I6.loc
   refine fin s3.heap.objs.size s6 H5 qz J1 ⟨m,hm⟩ I6.free (Nat.ne_of_gt (Nat.lt_of_lt_of_le I2.lt hC)) (Nat.le_trans I2.sz hC) (fun x c e z=>?_) (fun p hp z=>?_)
   ·obtain⟨v,q⟩:=I2.cell x c e
    exact absurd (Nat.lt_of_lt_of_le q.lt (by rw[z]; exact hC)) (Nat.lt_irrefl _)
   ·exact absurd (Nat.lt_of_lt_of_le (Heap.lt_size (I2.pin p hp).1) (by rw[z]; exact hC)) (Nat.lt_irrefl _)
  ·refine thn (T.item (bG X scope cl s3.heap.objs.size (L++F) s3 (upd H2 s2.heap.objs.size (.lst [])) fp) rfl rfl rfl hc i [] s5 σ5 H5 _ I5 (stat fr5) st5 go) fun r s6 ⟨u,hr,h6⟩=>?_
   subst hr
   refine thn h6 fun _ s7 ⟨x,H7,I7,r7,y7,st7,fr7⟩=>?_
   have I7':=I7.pinned (stat fr7) (T.obj _ _ st7)
   refine thn (hg _ _ _ _ _ _ s7 σ5 H7 x u _ I7' r7 (step x H7 y7)) fun _ s8 ⟨σ8,H8,I8,q8⟩=>?_
   have again:∀ {σ9:St} {H9:Hp} {s9:Shared} {zs:List V},Inv (bG X scope cl s3.heap.objs.size (L++F) s3 (upd H2 s2.heap.objs.size (.lst [])) fp) ([]++lX fp s7.heap) σ9 H9 s9->N zs σ9 H9 →
     ∃ m,m < n/\∃ i ys σ' H',Inv (bG X scope cl s3.heap.objs.size (L++F) s3 (upd H2 s2.heap.objs.size (.lst [])) fp) [] σ' H' s9/\tn i s9.heap/\(∀ b∈fp,H' b=none)/\W i m ys σ' H':=fun {σ9 H9 s9 zs} I9 n9=>by
    obtain⟨m',hm,w9⟩:=hN zs σ9 H9 n9
    refine⟨m',hm,i+1,zs,σ9,H9,I9.jf,T.keep _ _ _ st7 fun b hb o e=>(I9.pin (b,o) (List.mem_append_right _ (List.mem_append_right _ (cZ hb e)))).1,fun b hb=>?_,w9⟩
    obtain⟨o,e,d⟩:=T.obj _ _ st7 b hb
    exact (I9.pin (b,o) (List.mem_append_right _ (List.mem_append_right _ (cZ hb e)))).2.1
   refine thn (hi1 _ _ _ _ _ _ s8 σ8 H8 _ I8 q8) fun v1 s9 h9=>thn h9 fun itv s10 h10=>?_
   obtain⟨it1,fp1,tn1,J1,H10,e,I10,T1,st10,f10,Y,⟨m1,y0⟩,turn1⟩:=h10
   subst e
   have stat1:∀ {H':Hp},(∀ b∈fp1,H' b=none)->∀ b∈fp1,sG (bG X scope cl s3.heap.objs.size (L++F) s3 (upd H2 s2.heap.objs.size (.lst [])) fp) ([]++lX fp s7.heap) H' b:=fun hn b hb=>⟨hn b hb,(f10 b hb).2⟩
   have loop1:codeAny (model X.prog X.w) X.A (.compLoop (.ListComp elt [⟨t0,i0,[],0⟩,⟨t1,i1,[],0⟩] scope pos) 1 (.ref it1) (.ref s2.heap.objs.size) (compEnvC scope cl s3.heap.objs.size X.env))
     (fun r s'=>match r with | .ok _=>∃ m,m < n/\∃ i ys σ' H',Inv (bG X scope cl s3.heap.objs.size (L++F) s3 (upd H2 s2.heap.objs.size (.lst [])) fp) [] σ' H' s'/\tn i s'.heap/\(∀ b∈fp,H' b=none)/\W i m ys σ' H' | .error _=>False) s10:=by
    refine sU (fun k s'=>∃ j zs σ' H',Inv (bG X scope cl s3.heap.objs.size (L++F) s3 (upd H2 s2.heap.objs.size (.lst [])) fp) ([]++lX fp s7.heap) σ' H' s'/\tn1 j s'.heap/\(∀ b∈fp1,H' b=none)/\Y j k zs σ' H') ?_ m1
     ⟨0,ys,_,_,I10,st10,fun b hb=>(f10 b hb).1,y0⟩
    rintro k s11 ⟨j,zs,σ11,H11,I11,st11,fr11,w11⟩
    rcases turn1 j k zs σ11 H11 w11 with⟨stop1,n1⟩ | ⟨go1,M,hM,step1⟩
    ·refine thn (T1.done (bG X scope cl s3.heap.objs.size (L++F) s3 (upd H2 s2.heap.objs.size (.lst [])) fp) rfl rfl rfl hc j _ s11 σ11 H11 _ I11 (stat1 fr11) st11 stop1) fun r s12 ⟨hr,I12⟩=>?_
     subst hr
     exact again I12 n1
    ·refine thn (T1.item (bG X scope cl s3.heap.objs.size (L++F) s3 (upd H2 s2.heap.objs.size (.lst [])) fp) rfl rfl rfl hc j _ s11 σ11 H11 _ I11 (stat1 fr11) st11 go1) fun r s12 ⟨u1,hr,h12⟩=>?_
     subst hr
     refine thn h12 fun _ s13 ⟨x1,H13,I13,r13,y13,st13,fr13⟩=>?_
     have I13':=I13.pinned (stat1 fr13) (T1.obj _ _ st13)
     refine thn (hg1 _ _ _ _ _ _ s13 σ11 H13 x1 u1 _ I13' r13 (step1 x1 H13 y13)) fun _ s14 ⟨σ14,H14,I14,q14⟩=>?_
     refine thn (he _ _ _ _ _ _ s14 σ14 H14 _ I14 q14) fun y s15 ⟨yv,H15,I15,r15,e15,z15,n15⟩=>?_
     refine thn (cV _ s15 σ14 H15 (.ref s2.heap.objs.size) [yv] (.ref s2.heap.objs.size) [y] (fun _ H'=>M (zs++[yv]) σ14 H') I15 rfl (.cons r15 .nil) ⟨_,zs,yv,rfl,rfl,e15,z15,n15⟩) fun _ s16 ⟨_,H16,I16,_,n16⟩=>?_
     obtain⟨m',hm,w16⟩:=hM _ _ _ n16
     refine⟨m',hm,j+1,_,σ14,H16,I16.jf,T1.keep _ _ _ st13 fun b hb o e=>(I16.pin (b,o) (List.mem_append_right _ (List.mem_append_right _ (cZ hb e)))).1,fun b hb=>?_,w16⟩
     obtain⟨o,e,d⟩:=T1.obj _ _ st13 b hb
     exact (I16.pin (b,o) (List.mem_append_right _ (List.mem_append_right _ (cZ hb e)))).2.1
   exact uY loop1 (T1.self _ 0 _ _ _ st10 loop1)
 have eC:(s2.heap.push { cls:=.type "list",data:=.seq ([]:List Value).toArray }).objs.size=s3.heap.objs.size:=by rw[es3]
 have goal:∀ tk,codeAny (model X.prog X.w) X.A (.compStart (.ListComp elt [⟨t0,i0,[],0⟩,⟨t1,i1,[],0⟩] scope pos) 0 (.ref it) (.ref s2.heap.objs.size) (compEnvC scope cl s3.heap.objs.size X.env))
   (compPost (model X.prog X.w) X.A E use QQ (.ref s2.heap.objs.size) s3.heap.objs.size) { s3 with heap:=h₁,toks:=tk }:=fun tk =>
  codeAny_compStart_list (loop tk) (T.self _ 0 _ _ _ (T.keep 0 _ _ st2 fun b hb o e=>hkp b o (by rw[es3]; exact Heap.get?_push_of_some _ e)) (loop tk))
 have g0:=goal (s2.toks+([]:List (Str × Value)).length)
 subst hs3
 exact g0
end
end L2
namespace L2
open PySem PySem.Spec PyProof.Rows
section
variable {X:Cx}
inductive G9 (K:W.Frag) (x:V) (y:V) (H:Hp) (Q:VK):Prop where
 | mk (a b:Addr) (ns:List Int) (z0:x = .ref a) (z1:y = .ref b) (z2:SqL K H a (ns.map V.int)) (z3:SqL K H b (ns.map V.int)) (z4:Q (.bl false) H):G9 K x y H Q
noncomputable def JQ (K:W.Frag):R2:=fun x y H Q=>G9 K x y H Q
theorem Hs (hu:X.A.units < cLine):OpR X (compareOp .NotEq) (JQ X.K):=by
 intro pins s σ H x y v u Q I rx ry h
 obtain⟨a,b,ns,rfl,rfl,ha,hb,q⟩:=h
 cases rx
 cases ry
 obtain⟨its,r1,p1,_⟩:=I.list ha
 obtain⟨its2,r2,p2,_⟩:=I.list hb
 have i1:IntsAre its ns:=intsAre_of r1
 have i2:IntsAre its2 ns:=intsAre_of r2
 have s1:its.toArray.size=ns.length:=by rw[List.size_toArray]; exact i1.length
 have s2:its2.toArray.size=ns.length:=by rw[List.size_toArray]; exact i2.length
 have r:=SeqAt.RcNeAt.lists (e:=fun _=>true) p1.isList p2.isList (by rw[s1,s2]) hu fun j h1 h2=>by
  obtain⟨t,e1⟩:=ints_get i1 (j:=j) (by simpa using h1)
  obtain⟨t',e2⟩:=ints_get i2 (j:=j) (by simpa using h2)
  rw[List.getElem_toArray,List.getElem_toArray,e1,e2]
  have:=SeqAt.EqAt.int_int (A:=X.A.in1) (s:=s) (ns.getD j 0) t (ns.getD j 0) t'
  rw[beq_self_eq_true] at this
  exact this
 have et:∀ n:Nat,(List.range n).all (fun _=>true)=true:=fun n=>by simp
 rw[et] at r
 exact r X.prog X.w X.xe _ ⟨.bl _,H,I,rfl,q⟩
end
end L2
namespace L2
open PySem PySem.Spec PyProof.Rows
noncomputable def In2 (D:Addr) (J1:It) (g1:TG) (te:TE) (N:List V->St->Hp->Prop) (ys:List V) (σ3:St) (H4:Hp):Prop :=
 ∃ Y:Nat->Nat->List V->St->Hp->Prop,(∃ m,Y 0 m ys σ3 H4) ∧
  ∀ j m zs σ5 H5,Y j m zs σ5 H5->((J1.stop j H5/\N zs σ5 H5)∨(J1.go j H5/\∃ M:List V->St->Hp->Prop,(∀ zs σ6 H6,M zs σ6 H6->∃ m',m' < m/\Y (j+1) m' zs σ6 H6) ∧
   ∀ y H6,J1.yld j H5 y H6->g1 y σ5 H6 fun σ7 H7=>te σ7 H7 fun v H8=>H8 D=some (.lst zs)/\zs.length < sizeLine/\M (zs++[v]) σ7 (upd H8 D (.lst (zs++[v])))))
theorem Fi {K:W.Frag} {b D:Addr} {ws:List V} {g1:TG} {te:TE} {N:List V->St->Hp->Prop} {ys:List V} {σ3:St} {H4:Hp} (Pw:Nat->List V->St->Hp->Prop) (h0:Pw 0 ys σ3 H4)
  (hl:∀ j zs σ H,j<=ws.length->Pw j zs σ H->SqL K H b ws)
  (hs:∀ j zs y σ H,ws[j]? = some y->Pw j zs σ H->g1 y σ H fun σ7 H7=>te σ7 H7 fun v H8=>H8 D=some (.lst zs)/\zs.length < sizeLine/\Pw (j+1) (zs++[v]) σ7 (upd H8 D (.lst (zs++[v]))))
  (hd:∀ zs σ H,Pw ws.length zs σ H->N zs σ H):In2 D (Itl K b) g1 te N ys σ3 H4:=by
 refine⟨fun j m zs σ H=>m=ws.length - j/\j<=ws.length/\Pw j zs σ H,⟨ws.length,by simp,Nat.zero_le _,h0⟩,?_⟩
 rintro j m zs σ H ⟨rfl,hj,p⟩
 have q:=hl j zs σ H hj p
 by_cases hlt:j < ws.length
 ·refine .inr ⟨⟨ws,ws[j],q,by simp [hlt]⟩,Pw (j+1),fun zs' σ' H' p'=>⟨ws.length - (j+1),by lia,rfl,hlt,p'⟩,fun y H' z=>?_⟩
  obtain⟨e,z⟩:=z
  subst e
  exact hs j zs y σ _ (z ws q) p
 ·have e:j=ws.length:=by lia
  subst e
  exact .inl ⟨⟨ws,q,Nat.le_refl _⟩,hd zs σ H p⟩
end L2
namespace L2
open PySem PySem.Spec PyProof.Rows
section
variable {prog:Program} {w:World} {A:Around} {E:Value->Shared->Prop} {s:Shared}
end
section
variable {X:Cx}
end
end L2
namespace L2
open PySem PySem.Spec PyProof.Rows
section
variable {X:Cx} {elt t0 i0 t1 i1:Expr} {scope:Scope} {pos:Pos} {L F:List Str} {cap:List Nat} {wi wi1:TI} {g g1:TG} {te:TE}
noncomputable def Ig (n:Nat) (cap:List Nat) (wi:TI) (g:TG) (wi1:TI) (g1:TG) (te:TE) (j:Nat):TS:=fun D σ H=>wi σ H fun J H1=>∀ d,H1 d=none->qY d (G5 n cap σ) J g wi1 g1 te H1 fun H2=>D.nx (σ.set j (some (.ref d))) H2
theorem FP {j:Nat} {y:Str} {py spos:Pos} (hN:X.N.Nodup) (hj:X.N[j]? = some y) (hy:Loc X.env.scope y) (hc:X.calm=true) (ok:nF X scope F cap) (hi:PI X t0 i0 wi)
  (hg:∀ cl C s H fp,PG (bG X scope cl C (L++F) s H fp) t0 g) (hi1:∀ cl C s H fp,PI (bG X scope cl C (L++F) s H fp) t1 i1 wi1) (hg1:∀ cl C s H fp,PG (bG X scope cl C (L++F) s H fp) t1 g1) (he:∀ cl C s H fp,PE (bG X scope cl C (L++F) s H fp) elt te)
  (hsw:swapsWith (.ListComp elt [⟨t0,i0,[],0⟩,⟨t1,i1,[],0⟩] scope pos) (some (.Name y py)) spos.line X.env=pure true:=by rfl)
  (hs:∀ x,foldedSetIterable i0 X.env x=pure x:=by intro _; rfl) (hs1:∀ (env:Env) x,foldedSetIterable i1 env x=pure x:=by intro _ _; rfl) (hf:X.fn y=true∨X.env.scope.names.lookup y=some .local:=by first | exact .inl rfl | exact .inr rfl | assumption) :
  PS X (.Assign [.Name y py] (.ListComp elt [⟨t0,i0,[],0⟩,⟨t1,i1,[],0⟩] scope pos) spos) (Ig L.length cap wi g wi1 g1 te j):=by
 intro pins s σ H D I h
 obtain⟨cl,e1,e2,e3⟩:=wF (scope:=scope) (env:=X.env) (fun y hy hf=>I.ok.has _ (ok.fr y hy hf))
 rw[exec_Assign_Name_used _ _ _ _ hsw]
 refine wpAny_bind (wpAny_standAt (wpAny_bind ?_))
 show wpAny (model X.prog X.w) X.A (do let _ ← comprehension (.ListComp elt [⟨t0,i0,[],0⟩,⟨t1,i1,[],0⟩] scope pos) scope X.env _ (newList []) false (eval i0 X.env) (some (assign (.Name y py) X.env))) _ _ s
 refine wpAny_bind (wpAny_mono (wpAny_comprehension_free (use:=some (assign (.Name y py) X.env)) (Q:=fun _ s'=>SP X pins D .next s') rfl hs e1 ok.kind ok.nms
  (thn (hi pins s σ H _ I h) fun v s1 h1=>thn h1 fun itv s2 h2=>?_)) (fun _ s' hq=>wpAny_pure (wpAny_pure hq)) fun _ _ e=>e)
 obtain⟨it,fp,tn,J,H2,e,I2,T,st2,f2,q2⟩:=h2
 subst e
 refine Ae (Z:=fun H'=>D.nx (σ.set j (some (.ref s2.heap.objs.size))) H') hc ok e2 e3 hg hi1 hg1 he hs1 I2 T st2 f2 (q2 _ I2.fresh) fun C s' H' z J m hCf hCl hCs hCc hCp=>?_
 obtain⟨m,hm⟩:=m
 refine wpAny_assign_Name (nG J hN hj hy (v:=.ref s2.heap.objs.size) rfl (fun s5 I5 hs5=>?_) hf)
 obtain⟨a,sb,ha⟩:=hs5
 have hne:C≠a:=by
  rcases ha with rfl | ha
  ·exact hCl
  ·exact Ne.symm (hCc y a ha)
 exact⟨m,hm.sameBut sb hne,fun h' hs'=>⟨_,H',I5.turned (t':=s5.toks) (fun b o hb e=>(hs'.2 b hb).trans e) hCf hCl (.inr hCs) hCc hCp,z⟩⟩
end
end L2
namespace L2
open PySem PySem.Spec PyProof.Rows
section
variable {X:Cx} {tg:Expr}
end
end L2
namespace L2
open PySem PySem.Spec PyProof.Rows
structure Lj (X:Cx) (scope:Scope) (x0:Str) (F:List Str) (cap:List Nat):Prop where
 kind:scope.kind = .function
 cf:∀ (n:Nat) (acc:List (Str × Addr)),cellsFrom n scope.names acc=(x0,n)::acc
 pc:∀ h:Heap,pushCells h scope.names=h.push { cls:=.type "cell",data:=.cell none }
 own:∀ x,scope.names.lookup x=some .cell->x=x0
 own0:scope.names.lookup x0=some .cell
 nms:∀ y∈scope.names,y.2 = .local->scope.names.lookup y.1=some .local
 fr:∀ y∈scope.names,y.2 = .free->X.env.kindOf y.1=some .cell∨X.env.kindOf y.1=some .free
 len:cap.length=F.length
 at':∀ (k:Nat) (x:Str),F[k]? = some x->∃ i,cap[k]? = some i/\X.N[i]? = some x/\scope.names.lookup x=some .free
section
variable {X:Cx} {elt tg iter:Expr} {ifs:List Expr} {scope:Scope} {pos:Pos} {x0:Str} {L F:List Str} {cap:List Nat} {wi:TI} {g:TG} {tt:TT} {te:TE}
end
end L2
namespace L2
open PySem PySem.Spec PyProof.Rows
end L2
namespace L2
open PySem PySem.Spec PyProof.Rows
section
variable {X:Cx}
end
end L2
namespace L2
open PySem PySem.Spec PyProof.Rows
section
variable {X:Cx}
end
end L2
namespace L2
open PySem PySem.Spec PyProof.Rows PySem.W
section
variable {prog:Program} {w:World} {A:Around} {E:Value->Shared->Prop} {κ:SortKind} {it:Array Keyed} {s:Shared}
end
theorem Az:∀ (l:List (Addr × List Int)) (us:List Value),Vals (l.map fun p=>V.ref p.1) us->us=l.map fun p=>Value.ref p.1
 | [],_,z=>by cases z; rfl
 | p::l,_,z=>by
  cases z with
  | cons e t =>
   cases e
   rw[Az l _ t]
   rfl
section
variable {X:Cx}
end
end L2
namespace L2
open PySem PySem.W PyProof.Rows
structure Srt where
 a:List Nat
 pend:Array (Nat × Nat × Nat)
 gal:Nat
noncomputable def Srt.ok (_:Srt):Bool:=true
noncomputable abbrev my:=StateT Srt Option
noncomputable def im (it:Array Keyed) (l:List Nat):Array Keyed:=(l.map (kas_item it)).toArray
noncomputable def Srt.st (κ:SortKind) (it:Array Keyed) (ps:Srt):SortSt:=SortSt.mk' κ (im it ps.a) ps.pend ps.gal none
section
variable (prog:Program) (w:World) (A:Around) (E:Value->Shared->Prop) (κ:SortKind) (it:Array Keyed) (s:Shared)
noncomputable def Sim {α α':Type} (f:α'->α) (m:StateT SortSt Sem α) (m':my α'):Prop:=∀ (ps:Srt) (a:α') (ps':Srt),m'.run ps=some (a,ps')->∀ Q:α->SortSt->Shared->Prop,Q (f a) (ps'.st κ it) s->kasC (model prog w) A E m Q (ps.st κ it) s
end
section
variable {prog:Program} {w:World} {A:Around} {E:Value->Shared->Prop} {κ:SortKind} {it:Array Keyed} {s:Shared}
theorem aO {α α' β β':Type} {f:α'->α} {g:β'->β} {m:StateT SortSt Sem α} {m':my α'} {k:α->StateT SortSt Sem β} {k':α'->my β'} (h1:Sim prog w A E κ it s f m m') (h2:∀ a,Sim prog w A E κ it s g (k (f a)) (k' a)):Sim prog w A E κ it s g (m >>= k) (m' >>= k'):=by
 intro ps b ps' e Q q
 rw[StateT.run_bind] at e
 cases e1:m'.run ps with
 | none=>rw[e1] at e; cases e
 | some r =>
  obtain⟨a,ps1⟩:=r
  rw[e1] at e
  exact kasC_bind (h1 ps a ps1 e1 _ (h2 a ps1 b ps' e Q q))
theorem aM {α α':Type} {f:α'->α} {a:α'} {b:α} (h:b=f a):Sim prog w A E κ it s f (pure b) (pure a):=by
 intro ps c ps' e Q q
 subst h
 rw[StateT.run_pure] at e
 cases e
 exact kasC_pure q
theorem iU:Sim prog w A E κ it s (Srt.st κ it) (get:StateT SortSt Sem SortSt) (get:my Srt):=by
 intro ps c ps' e Q q
 rw[StateT.run_get] at e
 cases e
 exact kasC_get q
theorem sr {u:SortSt->SortSt} {u':Srt->Srt} (h:∀ ps,u (ps.st κ it)=(u' ps).st κ it):Sim prog w A E κ it s id (modify u:StateT SortSt Sem PUnit) (modify u':my PUnit):=by
 intro ps c ps' e Q q
 rw[StateT.run_modify] at e
 cases e
 refine kasC_modify ?_
 rw[h]
 exact q
noncomputable def La (c:Srt->Bool) (u:Srt->Srt):my PUnit:=fun ps=>if c ps=true then some ((),u ps) else none
theorem xN {c:Srt->Bool} {u:SortSt->SortSt} {u':Srt->Srt} (h:∀ ps,c ps=true->u (ps.st κ it)=(u' ps).st κ it):Sim prog w A E κ it s id (modify u:StateT SortSt Sem PUnit) (La c u'):=by
 intro ps x ps' e Q q
 have e':(if c ps=true then some ((),u' ps) else none)=some (x,ps'):=e
 by_cases hc:c ps=true
 ·rw[if_pos hc] at e'
  cases e'
  refine kasC_modify ?_
  rw[h ps hc]
  exact q
 ·rw[if_neg hc] at e'
  cases e'
theorem Ie {v:SortSt} {v':Srt} (h:v=v'.st κ it):Sim prog w A E κ it s id (set v:StateT SortSt Sem PUnit) (set v':my PUnit):=by
 intro ps c ps' e Q q
 rw[StateT.run_set] at e
 cases e
 unfold kasC
 rw[StateT.run_set,h]
 exact wpAny_pure q
theorem Ft {r:String}:Sim prog w A E κ it s id (liftM (rule r):StateT SortSt Sem Unit) (pure ()):=by
 intro ps c ps' e Q q
 rw[StateT.run_pure] at e
 cases e
 exact kasC_lift (wpAny_rule q)
theorem cJ {α α':Type} {f:α'->α} {c:Prop} [Decidable c] {t e:StateT SortSt Sem α} {t' e':my α'} (h1:c->Sim prog w A E κ it s f t t') (h2:¬ c->Sim prog w A E κ it s f e e'):Sim prog w A E κ it s f (if c then t else e) (if c then t' else e'):=by
 by_cases h:c
 ·rw[if_pos h,if_pos h]
  exact h1 h
 ·rw[if_neg h,if_neg h]
  exact h2 h
noncomputable def vQ {β β':Type} (f:β'->β):ForInStep β'->ForInStep β
 | .done b=>.done (f b)
 | .yield b=>.yield (f b)
theorem wY {β β':Type} {f:β'->β} {body:Nat->β->StateT SortSt Sem (ForInStep β)} {body':Nat->β'->my (ForInStep β')} (h:∀ x b,Sim prog w A E κ it s (vQ f) (body x (f b)) (body' x b)) :
  ∀ (l:List Nat) (b:β'),Sim prog w A E κ it s f (forIn l (f b) body) (forIn l b body')
 | [],b=>by
  rw[List.forIn_nil,List.forIn_nil]
  exact aM rfl
 | x::l,b=>by
  rw[List.forIn_cons,List.forIn_cons]
  refine aO (h x b) fun r=>?_
  cases r with
  | done b'=>exact aM rfl
  | yield b'=>exact wY h l b'
theorem eH {β β':Type} {f:β'->β} {b0:β} {n m:Nat} {body:Nat->β->StateT SortSt Sem (ForInStep β)} {body':Nat->β'->my (ForInStep β')} {b:β'} (e:b0=f b) (h:∀ x b,Sim prog w A E κ it s (vQ f) (body x (f b)) (body' x b)) :
  Sim prog w A E κ it s f (forIn [n:m] b0 body) (forIn (List.range' n (m - n)) b body'):=by
 subst e
 intro ps a ps' e Q q
 exact kasC_range (wY h _ _ ps a ps' e Q q)
noncomputable def LM {ρ ρ' β β':Type} (fr:ρ'->ρ) (fb:β'->β) (x:Option ρ' × β'):Option ρ × β:=(x.1.map fr,fb x.2)
theorem gG {ρ ρ' β β' γ γ':Type} {fr:ρ'->ρ} {fb:β'->β} {g:γ'->γ} {m:StateT SortSt Sem (Option ρ × β)} {m':my (Option ρ' × β')} {k:Option ρ × β->StateT SortSt Sem γ} {k':Option ρ' × β'->my γ'}
  (h1:Sim prog w A E κ it s (LM fr fb) m m') (hs:∀ r b,Sim prog w A E κ it s g (k (some (fr r),fb b)) (k' (some r,b))) (hn:∀ b,Sim prog w A E κ it s g (k (none,fb b)) (k' (none,b))):Sim prog w A E κ it s g (m >>= k) (m' >>= k') :=
 aO h1 fun x=>match x with
  | (some r,b)=>hs r b
  | (none,b)=>hn b
end
noncomputable def kE:Bool->Keyed->Array Keyed->Nat->Nat->Nat->StateT SortSt Sem (Option Nat):=sortPriv% PySem.Builtin.gallop
noncomputable def fc:Nat->StateT SortSt Sem Unit:=sortPriv% PySem.Builtin.setMinGallop
noncomputable def qp:Array Keyed->Array Keyed->StateT SortSt Sem (Array Keyed):=sortPriv% PySem.Builtin.mergeLo
noncomputable def DP:Array Keyed->Array Keyed->StateT SortSt Sem (Array Keyed):=sortPriv% PySem.Builtin.mergeHi
theorem mj (g:Nat):fc g=modify fun st=>SortSt.mk' (kindOf st) (arrOf st) (pendingOf st) g (failedOf st):=rfl
theorem yL (left:Bool) (key:Keyed) (arr:Array Keyed) (base n hint:Nat):kE left key arr base n hint=(do
 let beyond (i:Nat):StateT SortSt Sem (Option Bool):=do
  let x ← elem' arr (base+i)
  if left then lt' x key else return (← lt' key x).map (!·)
 let mut lastofs:=0
 let mut ofs:=1
 let mut lo:=0
 let mut hi:=0
 let some right ← beyond hint | return none
 if right then
  let maxofs:=n - hint
  for _ in [0:n] do
   if ofs ≥ maxofs then break
   let some more ← beyond (hint+ofs) | return none
   if !more then break
   lastofs:=ofs
   ofs:=2 * ofs+1
  lo:=hint+lastofs+1
  hi:=hint+min ofs maxofs
 else
  let maxofs:=hint+1
  for _ in [0:n] do
   if ofs ≥ maxofs then break
   let some found ← beyond (hint - ofs) | return none
   if found then break
   lastofs:=ofs
   ofs:=2 * ofs+1
  lo:=hint+1 - min ofs maxofs
  hi:=hint - lastofs
 for _ in [0:n] do
  if lo ≥ hi then break
  let m:=lo+(hi - lo) / 2
  let some more ← beyond m | return none
  if more then lo:=m+1 else hi:=m
 return some hi):=rfl
section
variable (o:Nat->Nat->Bool) (N:Nat)
noncomputable def je (arr:List Nat) (i:Nat):my Nat:=match arr[i]? with
 | some p=>pure p
 | none=>failure
noncomputable def ltP (x y:Nat):my (Option Bool):=if x < N/\y < N then pure (some (o x y)) else failure
noncomputable def lg (left:Bool) (key:Nat) (arr:List Nat) (base n hint:Nat):my (Option Nat):=do
 let beyond (i:Nat):my (Option Bool):=do
  let x ← je arr (base+i)
  if left then ltP o N x key else return (← ltP o N key x).map (!·)
 let mut lastofs:=0
 let mut ofs:=1
 let mut lo:=0
 let mut hi:=0
 let some right ← beyond hint | return none
 if right then
  let maxofs:=n - hint
  for _ in List.range' 0 (n - 0) do
   if ofs ≥ maxofs then break
   let some more ← beyond (hint+ofs) | return none
   if !more then break
   lastofs:=ofs
   ofs:=2 * ofs+1
  lo:=hint+lastofs+1
  hi:=hint+min ofs maxofs
 else
  let maxofs:=hint+1
  for _ in List.range' 0 (n - 0) do
   if ofs ≥ maxofs then break
   let some found ← beyond (hint - ofs) | return none
   if found then break
   lastofs:=ofs
   ofs:=2 * ofs+1
  lo:=hint+1 - min ofs maxofs
  hi:=hint - lastofs
 for _ in List.range' 0 (n - 0) do
  if lo ≥ hi then break
  let m:=lo+(hi - lo) / 2
  let some more ← beyond m | return none
  if more then lo:=m+1 else hi:=m
 return some hi
end
section
variable {prog:Program} {w:World} {A:Around} {E:Value->Shared->Prop} {κ:SortKind} {it:Array Keyed} {s:Shared} {o:Nat->Nat->Bool} {N:Nat}
theorem jq {arr:List Nat} {i:Nat}:Sim prog w A E κ it s (kas_item it) (elem' (im it arr) i) (je arr i):=by
 unfold je im
 rw[elem'_eq,List.getElem?_toArray,List.getElem?_map]
 cases arr[i]? with
 | none=>intro ps a ps' e; cases e
 | some p=>exact aM rfl
theorem wV (hO:∀ i j,i < N->j < N->∀ C:Bool->Shared->Prop,C (o i j) s->kas_cmp prog w A κ it i j C s) {x y:Nat}:Sim prog w A E κ it s id (lt' (kas_item it x) (kas_item it y)) (ltP o N x y):=by
 unfold ltP
 by_cases h:x < N/\y < N
 ·rw[if_pos h]
  intro ps a ps' e Q q
  rw[StateT.run_pure] at e
  cases e
  rw[lt'_eq]
  refine kasC_bind (kasC_get ?_)
  refine kasC_bind (kasC_lift (wpAny_attempt (wpAny_mono (hO x y h.1 h.2 (fun c s'=>c=o x y/\s'=s) ⟨rfl,rfl⟩) (fun c s' hc=>?_) fun _ _ hF=>hF.elim)))
  obtain⟨rfl,rfl⟩:=hc
  exact kasC_pure q
 ·rw[if_neg h]
  intro ps a ps' e
  cases e
theorem kZ (hO:∀ i j,i < N->j < N->∀ C:Bool->Shared->Prop,C (o i j) s->kas_cmp prog w A κ it i j C s) {left:Bool} {key:Nat} {arr:List Nat} {base n hint:Nat} :
  Sim prog w A E κ it s id (kE left (kas_item it key) (im it arr) base n hint) (lg o N left key arr base n hint):=by
 rw[yL]
 unfold lg
 have hb:∀ i,Sim prog w A E κ it s id (do
   let x ← elem' (im it arr) (base+i)
   if left then lt' x (kas_item it key) else return (← lt' (kas_item it key) x).map (!·)) (do
   let x ← je arr (base+i)
   if left then ltP o N x key else return (← ltP o N key x).map (!·)):=fun i=>by
  refine aO jq fun a=>cJ (fun _=>wV hO) fun _=>aO (wV hO) fun b=>aM rfl
 dsimp only
 repeat' first
  | exact aM rfl
  | (refine aO (hb _) fun a=>?_; rcases a with _ | a <;> dsimp only [id])
  | (refine gG (fr:=id) (fb:=id) (eH rfl fun x b=>?_) (fun r b=>?_) fun b=>?_ <;> dsimp only [id,LM])
  | (refine cJ (fun _=>?_) fun _=>?_)
end
theorem wN (a b:Array Keyed):qp a b=(do
 rule "list.sort.merge-lo"
 let total:=a.size+b.size
 let done (out:Array Keyed) (ia ib:Nat):=out++a.extract ia a.size++b.extract ib b.size
 let lastOfA (out:Array Keyed) (ia ib:Nat):=out++b.extract ib b.size++a.extract ia a.size
 let mut out:Array Keyed:=#[← elem' b 0]
 let mut ia:=0
 let mut ib:=1
 if ib == b.size then return done out ia ib
 if ia+1 == a.size then return lastOfA out ia ib
 let mut minGallop:=gallopOf (← get)
 for _ in [0:total] do
  let mut acount:=0
  let mut bcount:=0
  for _ in [0:total] do
   let some bWins ← lt' (← elem' b ib) (← elem' a ia) | return done out ia ib
   if bWins then
    out:=out.push (← elem' b ib); ib:=ib+1; bcount:=bcount+1; acount:=0
    if ib == b.size then return done out ia ib
    if bcount ≥ minGallop then break
   else
    out:=out.push (← elem' a ia); ia:=ia+1; acount:=acount+1; bcount:=0
    if ia+1 == a.size then return lastOfA out ia ib
    if acount ≥ minGallop then break
  rule "list.sort.gallop"
  minGallop:=minGallop+1
  for _ in [0:total] do
   if minGallop > 1 then minGallop:=minGallop - 1
   fc minGallop
   let some k ← kE false (← elem' b ib) a ia (a.size - ia) 0 | return done out ia ib
   acount:=k
   if k > 0 then
    out:=out++a.extract ia (ia+k); ia:=ia+k
    if ia+1 == a.size then return lastOfA out ia ib
    if ia == a.size then return done out ia ib
   out:=out.push (← elem' b ib); ib:=ib+1
   if ib == b.size then return done out ia ib
   let some k ← kE true (← elem' a ia) b ib (b.size - ib) 0 | return done out ia ib
   bcount:=k
   if k > 0 then
    out:=out++b.extract ib (ib+k); ib:=ib+k
    if ib == b.size then return done out ia ib
   out:=out.push (← elem' a ia); ia:=ia+1
   if ia+1 == a.size then return lastOfA out ia ib
   if acount < 7 && bcount < 7 then break
  minGallop:=minGallop+1
  fc minGallop
 unsupported "internal:list.sort.merge-bound"):=rfl
noncomputable def IK (g:Nat):my Unit:=modify fun ps=>{ ps with gal:=g }
noncomputable def DX (_:String):my Unit:=pure ()
noncomputable def rG (o:Nat->Nat->Bool) (N:Nat) (a b:List Nat):my (List Nat):=do
 DX "list.sort.merge-lo"
 let total:=a.length+b.length
 let done (out:List Nat) (ia ib:Nat):=out++a.extract ia a.length++b.extract ib b.length
 let lastOfA (out:List Nat) (ia ib:Nat):=out++b.extract ib b.length++a.extract ia a.length
 let mut out:List Nat:=[← je b 0]
 let mut ia:=0
 let mut ib:=1
 if ib == b.length then return done out ia ib
 if ia+1 == a.length then return lastOfA out ia ib
 let mut minGallop:=(← get).gal
 for _ in List.range' 0 (total - 0) do
  let mut acount:=0
  let mut bcount:=0
  for _ in List.range' 0 (total - 0) do
   let some bWins ← ltP o N (← je b ib) (← je a ia) | return done out ia ib
   if bWins then
    out:=out++[← je b ib]; ib:=ib+1; bcount:=bcount+1; acount:=0
    if ib == b.length then return done out ia ib
    if bcount ≥ minGallop then break
   else
    out:=out++[← je a ia]; ia:=ia+1; acount:=acount+1; bcount:=0
    if ia+1 == a.length then return lastOfA out ia ib
    if acount ≥ minGallop then break
  DX "list.sort.gallop"
  minGallop:=minGallop+1
  for _ in List.range' 0 (total - 0) do
   if minGallop > 1 then minGallop:=minGallop - 1
   IK minGallop
   let some k ← lg o N false (← je b ib) a ia (a.length - ia) 0 | return done out ia ib
   acount:=k
   if k > 0 then
    out:=out++a.extract ia (ia+k); ia:=ia+k
    if ia+1 == a.length then return lastOfA out ia ib
    if ia == a.length then return done out ia ib
   out:=out++[← je b ib]; ib:=ib+1
   if ib == b.length then return done out ia ib
   let some k ← lg o N true (← je a ia) b ib (b.length - ib) 0 | return done out ia ib
   bcount:=k
   if k > 0 then
    out:=out++b.extract ib (ib+k); ib:=ib+k
    if ib == b.length then return done out ia ib
   out:=out++[← je a ia]; ia:=ia+1
   if ia+1 == a.length then return lastOfA out ia ib
   if acount < 7 && bcount < 7 then break
  minGallop:=minGallop+1
  IK minGallop
 failure
section
variable {prog:Program} {w:World} {A:Around} {E:Value->Shared->Prop} {κ:SortKind} {it:Array Keyed} {s:Shared} {o:Nat->Nat->Bool} {N:Nat}
noncomputable def FB {β:Type} (it:Array Keyed) (x:List Nat × β):Array Keyed × β:=(im it x.1,x.2)
theorem jo (it:Array Keyed) (l:List Nat) (a b:Nat):(im it l).extract a b=im it (l.extract a b):=by simp [im,List.extract]
theorem vW (it:Array Keyed) (l:List Nat):(im it l).size=l.length:=by simp [im]
theorem uW {r:String}:Sim prog w A E κ it s id (liftM (rule r):StateT SortSt Sem Unit) (DX r):=Ft
theorem Ef {g:Nat}:Sim prog w A E κ it s id (fc g) (IK g):=by
 rw[mj]
 exact sr fun ps=>rfl
theorem jk {α α':Type} {f:α'->α} {m:StateT SortSt Sem α}:Sim prog w A E κ it s f m failure:=by
 intro ps a ps' e
 cases e
theorem vK (hO:∀ i j,i < N->j < N->∀ C:Bool->Shared->Prop,C (o i j) s->kas_cmp prog w A κ it i j C s) {a b:List Nat} :
  Sim prog w A E κ it s (im it) (qp (im it a) (im it b)) (rG o N a b):=by
 rw[wN]
 unfold rG
 dsimp only
 simp only[vW]
 repeat' first
  | (with_reducible refine aM ?_); (first | rfl | (simp [vQ,LM,FB,im,List.extract]; done) | (rw[jo,jo]; simp [im]; done))
  | with_reducible exact jk
  | with_reducible refine cJ (fun _=>?_) fun _=>?_
  | with_reducible refine aO jq fun a=>?_
  | with_reducible refine aO Ef fun _=>?_
  | with_reducible refine aO uW fun _=>?_
  | with_reducible refine aO iU fun _=>?_
  | (with_reducible refine aO (wV hO) fun a=>?_); rcases a with _ | a <;> dsimp only [id]
  | (with_reducible refine aO (kZ hO) fun a=>?_); rcases a with _ | a <;> dsimp only [id]
  | (with_reducible refine gG (fr:=im it) (fb:=FB it) (eH ?_ fun x b=>?_) (fun r b=>?_) fun b=>?_) <;> (first | rfl | simp [LM,FB,Srt.st,im]; done | dsimp only [LM,FB])
end
theorem wk (i:Nat):mergeAt' i=(do
 let s ← get
 let (some (sa,na,power),some (sb,nb,_)):=((pendingOf s)[i]?,(pendingOf s)[i+1]?) | unsupported "internal:list.sort.pending"
 set (setPending s (((pendingOf s).setIfInBounds i (sa,na+nb,power)).eraseIdxIfInBounds (i+1)))
 let some k ← kE false (← elem' (arrOf s) sb) (arrOf s) sa na 0 | return false
 let (sa,na):=(sa+k,na - k)
 if na == 0 then return true
 let some nb ← kE true (← elem' (arrOf s) (sa+na - 1)) (arrOf s) sb nb (nb - 1) | return false
 if nb == 0 then return true
 let x:=(arrOf s).extract sa sb
 let y:=(arrOf s).extract sb (sb+nb)
 let merged ← if na<=nb then qp x y else DP x y
 modify fun s=>setArr s (merged.toList.zipIdx.foldl (fun a (p,j)=>a.setIfInBounds (sa+j) p) (arrOf s))
 return (failedOf (← get)).isNone):=rfl
noncomputable def mQ (o:Nat->Nat->Bool) (N:Nat) (i:Nat):my Bool:=do
 let s ← get
 let (some (sa,na,power),some (sb,nb,_)):=(s.pend[i]?,s.pend[i+1]?) | failure
 set ({ s with pend:=((s.pend.setIfInBounds i (sa,na+nb,power)).eraseIdxIfInBounds (i+1)) }:Srt)
 let some k ← lg o N false (← je s.a sb) s.a sa na 0 | return false
 let (sa,na):=(sa+k,na - k)
 if na == 0 then return true
 let some nb ← lg o N true (← je s.a (sa+na - 1)) s.a sb nb (nb - 1) | return false
 if nb == 0 then return true
 let x:=s.a.extract sa sb
 let y:=s.a.extract sb (sb+nb)
 let merged ← if na<=nb then rG o N x y else failure
 La (fun s=>Nat.ble (sa+merged.length) s.a.length) fun s=>{ s with a:=s.a.take sa++(merged++s.a.drop (sa+merged.length)) }
 return (← get).ok
section
variable {prog:Program} {w:World} {A:Around} {E:Value->Shared->Prop} {κ:SortKind} {it:Array Keyed} {s:Shared} {o:Nat->Nat->Bool} {N:Nat}
noncomputable def Bo (a:List Nat) (src dst:Nat):List Nat:=a.take dst++((a.drop src).take 1++((a.drop dst).take (src - dst)++a.drop (src+1)))
theorem Gg (c:Nat):∀ (l:List Keyed) (n:Nat) (p:List Keyed),c+n+l.length<=p.length->List.foldl (fun (a:Array Keyed) (x:Keyed × Nat)=>a.setIfInBounds (c+x.snd) x.fst) p.toArray (l.zipIdx n)=(p.take (c+n)++(l++p.drop (c+n+l.length))).toArray
 | [],n,p,h=>by simp
 | x::l,n,p,h=>by
  rw[List.length_cons] at h
  rw[List.zipIdx_cons,List.foldl_cons]
  show List.foldl _ ((p.toArray).setIfInBounds (c+n) x) (l.zipIdx (n+1))=_
  rw[List.setIfInBounds_toArray,Gg c l (n+1) (p.set (c+n) x) (by rw[List.length_set]; lia)]
  congr 1
  have e1:(p.set (c+n) x).take (c+(n+1))=p.take (c+n)++[x]:=by
   rw[show c+(n+1)=c+n+1 by lia,List.take_add_one,List.take_set_of_le (Nat.le_refl _),List.getElem?_set_self (by lia)]
   rfl
  rw[e1,List.drop_set_of_lt (by lia),show c+(n+1)+l.length=c+n+(x::l).length by rw[List.length_cons]; lia]
  simp
theorem Jy (it:Array Keyed) (m:List Nat) (c:Nat) (p:List Nat) (h:c+m.length<=p.length):List.foldl (fun (a:Array Keyed) (x:Keyed × Nat)=>a.setIfInBounds (c+x.snd) x.fst) (im it p) (im it m).toList.zipIdx=im it (p.take c++(m++p.drop (c+m.length))):=by
 have:=Gg c (m.map (kas_item it)) 0 (p.map (kas_item it)) (by simp; lia)
 unfold im
 rw[show ((m.map (kas_item it)).toArray).toList=m.map (kas_item it) from rfl,this]
 simp
theorem Jt (it:Array Keyed) {p:List Nat} {i j:Nat} (h1:j<=i) (h2:i < p.length):bubble (im it p) i (i - j)=im it (Bo p i j):=by
 have hs:i < (im it p).size:=by rw[vW]; exact h2
 apply Array.ext_getElem?
 intro k
 rw[getElem?_bubble hs (i - j) (by lia) k,show i - (i - j)=j by lia]
 have g:∀ k:Nat,(im it p)[k]? = (p[k]?).map (kas_item it):=fun k=>by simp [im]
 have g2:(im it (Bo p i j))[k]? = ((Bo p i j)[k]?).map (kas_item it):=by simp [im]
 rw[g2,g,g,g]
 have lj:(p.take j).length=j:=by rw[List.length_take]; lia
 have l1:((p.drop i).take 1).length=1:=by rw[List.length_take,List.length_drop]; lia
 have l2:((p.drop j).take (i - j)).length=i - j:=by rw[List.length_take,List.length_drop]; lia
 unfold Bo
 by_cases c1:k=j
 ·subst c1
  rw[if_pos rfl,List.getElem?_append_right (by lia),lj,Nat.sub_self,List.getElem?_append_left (by lia),List.getElem?_take_of_lt (by lia),List.getElem?_drop,Nat.add_zero]
 ·rw[if_neg c1]
  by_cases c2:j < k/\k<=i
  ·rw[if_pos c2,List.getElem?_append_right (by lia),lj,List.getElem?_append_right (by lia),l1,List.getElem?_append_left (by lia),List.getElem?_take_of_lt (by lia),List.getElem?_drop,show j+(k - j - 1)=k - 1 by lia]
  ·rw[if_neg c2]
   by_cases c3:k < j
   ·rw[List.getElem?_append_left (by lia),List.getElem?_take_of_lt c3]
   ·rw[List.getElem?_append_right (by lia),lj,List.getElem?_append_right (by lia),l1,List.getElem?_append_right (by lia),l2,List.getElem?_drop,show i+1+(k - j - 1 - (i - j))=k by lia]
theorem oH (hO:∀ i j,i < N->j < N->∀ C:Bool->Shared->Prop,C (o i j) s->kas_cmp prog w A κ it i j C s) {i:Nat}:Sim prog w A E κ it s id (mergeAt' i) (mQ o N i):=by
 rw[wk]
 unfold mQ
 dsimp only
 refine aO iU fun ps=>?_
 rw[show pendingOf (Srt.st κ it ps)=ps.pend from rfl,show arrOf (Srt.st κ it ps)=im it ps.a from rfl]
 rcases ps.pend[i]? with _ | ⟨sa,na,pw⟩
 ·exact jk
 rcases ps.pend[i+1]? with _ | ⟨sb,nb,pw'⟩
 ·exact jk
 dsimp only
 refine aO (Ie rfl) fun _=>aO jq fun x=>aO (kZ hO) fun k=>?_
 rcases k with _ | k <;> dsimp only [id]
 ·exact aM rfl
 refine cJ (fun _=>aM rfl) fun _=>?_
 refine aO jq fun x=>aO (kZ hO) fun k2=>?_
 rcases k2 with _ | nb2 <;> dsimp only [id]
 ·exact aM rfl
 refine cJ (fun _=>aM rfl) fun _=>?_
 refine cJ (fun _=>?_) fun _=>jk
 rw[jo,jo]
 refine aO (vK hO) fun m=>?_
 refine aO (xN fun ps hc=>?_) fun _=>aO iU fun _=>aM rfl
 show SortSt.mk' κ _ _ _ none=SortSt.mk' κ _ _ _ none
 congr 1
 exact Jy it _ _ _ (Nat.le_of_ble_eq_true hc)
noncomputable def Dv (o:Nat->Nat->Bool) (N i j:Nat):my (Option Bool):=do
 let a:=(← get).a
 ltP o N (← je a i) (← je a j)
noncomputable def JR (src dst:Nat):my Unit:=La (fun ps=>Nat.ble dst src && Nat.blt src ps.a.length) fun ps=>{ ps with a:=Bo ps.a src dst }
noncomputable def countP (o:Nat->Nat->Bool) (N lo nrem:Nat):my (Option Nat):=do
 let mut n:=1
 for _ in List.range' 1 (nrem - 1) do
  let some smaller ← Dv o N (lo+n) (lo+n - 1) | return none
  if smaller then break
  n:=n+1
 if n == nrem then return some n
 if n > 1 then
  let some rose ← Dv o N lo (lo+n - 1) | return none
  if rose then return some n else failure
 else failure
noncomputable def LK (o:Nat->Nat->Bool) (N lo n ok:Nat):my Bool:=do
 for k in List.range' (max ok 1) (n - max ok 1) do
  let mut l:=0
  let mut r:=k
  for _ in List.range' 0 (k - 0) do
   if l ≥ r then break
   let m:=(l+r) / 2
   let some less ← Dv o N (lo+k) (lo+m) | return false
   if less then r:=m else l:=m+1
  JR (lo+k) (lo+l)
 return true
noncomputable def j6 (o:Nat->Nat->Bool) (N:Nat):my Unit:=do
 let size:=(← get).a.length
 let minrun:=minRun' size size 0
 let mut lo:=0
 for _ in List.range' 0 (size - 0) do
  if lo ≥ size then break
  let some found ← countP o N lo (size - lo) | return
  let mut n:=found
  if n < minrun then
   DX "list.sort.binary-insertion"
   let force:=min (size - lo) minrun
   if !(← LK o N lo force n) then return
   n:=force
  if let some (s1,n1,_):=(← get).pend.back? then
   let pw:=power' size (2 * s1+n1) (2 * s1+n1+n1+n) size
   for _ in List.range' 0 (size - 0) do
    let p:=(← get).pend
    let some (_,_,older):=(if p.size > 1 then p[p.size - 2]? else none) | break
    if older<=pw then break
    if !(← mQ o N (p.size - 2)) then return
   modify fun s=>{ s with pend:=s.pend.modify (s.pend.size - 1) fun (st,len,_)=>(st,len,pw) }
  modify fun s=>{ s with pend:=s.pend.push (lo,n,0) }
  lo:=lo+n
 for _ in List.range' 0 (size - 0) do
  let p:=(← get).pend
  if p.size<=1 then break
  let i:=p.size - 2
  let before:=if i > 0 then p[i - 1]?.map (·.2.1) else none
  let i:=if before.any (· < (p[i+1]?.elim 0 (·.2.1))) then i - 1 else i
  if !(← mQ o N i) then return
theorem qM (hO:∀ i j,i < N->j < N->∀ C:Bool->Shared->Prop,C (o i j) s->kas_cmp prog w A κ it i j C s) {i j:Nat}:Sim prog w A E κ it s id (ltAt' i j) (Dv o N i j):=by
 rw[ltAt'_eq]
 unfold Dv
 dsimp only
 refine aO iU fun ps=>?_
 rw[show arrOf (Srt.st κ it ps)=im it ps.a from rfl]
 exact aO jq fun _=>aO jq fun _=>wV hO
theorem Fy {i j:Nat}:Sim prog w A E κ it s id (moveDown' i j) (JR i j):=by
 rw[moveDown'_eq]
 refine xN fun ps hc=>?_
 show SortSt.mk' κ _ _ _ none=SortSt.mk' κ _ _ _ none
 congr 1
 obtain⟨h1,h2⟩:=Bool.and_eq_true_iff.mp hc
 exact Jt it (Nat.le_of_ble_eq_true h1) (Nat.le_of_ble_eq_true h2)
theorem Dc (hO:∀ i j,i < N->j < N->∀ C:Bool->Shared->Prop,C (o i j) s->kas_cmp prog w A κ it i j C s) {lo nrem:Nat}:Sim prog w A E κ it s id (countRun' lo nrem) (countP o N lo nrem):=by
 rw[countRun'_eq]
 unfold countP
 dsimp only
 refine gG (fr:=id) (fb:=id) (eH rfl fun x b=>?_) (fun r b=>?_) fun b=>?_
 ·refine aO (qM hO) fun a=>?_
  rcases a with _ | a <;> dsimp only [id]
  ·exact aM rfl
  ·exact cJ (fun _=>aM rfl) fun _=>aM rfl
 ·exact aM rfl
 ·dsimp only [id]
  refine cJ (fun _=>aM rfl) fun _=>cJ (fun _=>?_) fun _=>jk
  refine aO (qM hO) fun a=>?_
  rcases a with _ | a <;> dsimp only [id]
  ·exact aM rfl
  ·exact cJ (fun _=>aM rfl) fun _=>jk
theorem Hn (hO:∀ i j,i < N->j < N->∀ C:Bool->Shared->Prop,C (o i j) s->kas_cmp prog w A κ it i j C s) {lo n ok:Nat}:Sim prog w A E κ it s id (binarySort' lo n ok) (LK o N lo n ok):=by
 rw[binarySort'_eq]
 unfold LK
 dsimp only
 refine gG (fr:=id) (fb:=id) (eH rfl fun x b=>?_) (fun r b=>?_) fun b=>?_
 ·refine gG (fr:=id) (fb:=id) (eH rfl fun x b=>?_) (fun r b=>?_) fun b=>?_
  ·dsimp only [LM,id]
   refine cJ (fun _=>aM rfl) fun _=>aO (qM hO) fun a=>?_
   rcases a with _ | a <;> dsimp only [id]
   ·exact aM rfl
   ·exact cJ (fun _=>aM rfl) fun _=>aM rfl
  ·exact aM rfl
  ·exact aO Fy fun _=>aM rfl
 ·exact aM rfl
 ·exact aM rfl
theorem FQ (hO:∀ i j,i < N->j < N->∀ C:Bool->Shared->Prop,C (o i j) s->kas_cmp prog w A κ it i j C s):Sim prog w A E κ it s id sortRuns' (j6 o N):=by
 rw[sortRuns'_eq]
 unfold j6
 dsimp only
 refine aO iU fun ps=>?_
 rw[show (arrOf (Srt.st κ it ps)).size=ps.a.length from vW it ps.a]
 have pd:∀ q:Srt,pendingOf (Srt.st κ it q)=q.pend:=fun q=>rfl
 refine gG (fr:=id) (fb:=id) (eH rfl fun x b=>?_) (fun r b=>?_) fun b=>?_
 ·dsimp only [LM,id]
  refine cJ (fun _=>aM rfl) fun _=>?_
  refine aO (Dc hO) fun a=>?_
  rcases a with _ | a <;> dsimp only [id]
  ·exact aM rfl
  refine cJ (fun _=>aO uW fun _=>aO (Hn hO) fun ok=>cJ (fun _=>aM rfl) fun _=>?_) fun _=>?_
  all_goals
   refine aO iU fun q=>?_
   rw[pd]
   rcases q.pend.back? with _ | ⟨s1,n1,_⟩ <;> dsimp only
   ·exact aO (sr fun q=>rfl) fun _=>aM rfl
   refine gG (fr:=id) (fb:=id) (eH rfl fun x b=>?_) (fun r b=>?_) fun b=>?_
   ·refine aO iU fun q=>?_
    rw[pd]
    generalize (if q.pend.size > 1 then q.pend[q.pend.size - 2]? else none)=z
    rcases z with _ | ⟨_,_,older⟩ <;> dsimp only
    ·exact aM rfl
    ·exact cJ (fun _=>aM rfl) fun _=>aO (oH hO) fun ok=>cJ (fun _=>aM rfl) fun _=>aM rfl
   ·exact aM rfl
   ·exact aO (sr fun q=>rfl) fun _=>aO (sr fun q=>rfl) fun _=>aM rfl
 ·exact aM rfl
 ·refine gG (fr:=id) (fb:=id) (eH rfl fun x b=>?_) (fun r b=>?_) fun b=>?_
  ·refine aO iU fun q=>?_
   rw[pd]
   exact cJ (fun _=>aM rfl) fun _=>aO (oH hO) fun ok=>cJ (fun _=>aM rfl) fun _=>aM rfl
  ·exact aM rfl
  ·exact aM rfl
theorem zB {n:Nat} {p:List Nat} {Q:Unit->SortSt->Shared->Prop} (hO:∀ i j,i < n->j < n->∀ C:Bool->Shared->Prop,C (o i j) s->kas_cmp prog w A κ it i j C s)
  (e:(((j6 o n).run ⟨List.range n,#[],7⟩).map fun r=>r.2.a)=some p) (hG:∀ st',arrOf st'=im it p->failedOf st'=none->Q () st' s):kasC (model prog w) A E sortRuns' Q (SortSt.mk' κ (im it (List.range n)) #[] 7 none) s:=by
 cases e1:(j6 o n).run ⟨List.range n,#[],7⟩with
 | none=>rw[e1] at e; cases e
 | some r =>
  obtain⟨u,ps'⟩:=r
  rw[e1] at e
  have e2:ps'.a=p:=Option.some.inj e
  subst e2
  exact FQ hO ⟨List.range n,#[],7⟩ u ps' e1 Q (hG _ rfl rfl)
end
noncomputable def bZ:Nat->List (List Nat)
 | 0=>[[]]
 | n+1=>bZ n++(bZ n).map (·++[n])
noncomputable def K4:List Nat->List Nat->Bool
 | [],[]=>false
 | [],_::_=>true
 | _::_,[]=>false
 | a::l,b::r=>if a=b then K4 l r else decide (a < b)
noncomputable def Ld (a b:List Nat):Bool:=if a.length=b.length then K4 a b else decide (a.length < b.length)
noncomputable def crO (n i j:Nat):Bool:=Ld ((bZ n).getD i []) ((bZ n).getD j [])
noncomputable def crR:Nat->List Nat
 | 1=>[0,1]
 | 2=>[0,1,2,3]
 | 3=>[0,1,2,4,3,5,6,7]
 | 4=>[0,1,2,5,3,6,8,11,4,7,9,12,10,13,14,15]
 | 5=>[0,1,2,6,3,7,10,16,4,8,11,17,13,19,22,26,5,9,12,18,14,20,23,27,15,21,24,28,25,29,30,31]
 | 6=>[0,1,2,7,3,8,12,22,4,9,13,23,16,26,32,42,5,10,14,24,17,27,33,43,19,29,35,45,38,48,52,57,6,11,15,25,18,28,34,44,20,30,36,46,39,49,53,58,21,31,37,47,40,50,54,59,41,51,55,60,56,61,62,63]
 | _=>[]
noncomputable def crS:Nat->List Nat
 | 1=>[0,1]
 | 2=>[0,1,2,3]
 | 3=>[0,1,2,4,3,5,6,7]
 | 4=>[0,1,2,4,8,3,5,9,6,10,12,7,11,13,14,15]
 | 5=>[0,1,2,4,8,16,3,5,9,17,6,10,18,12,20,24,7,11,19,13,21,25,14,22,26,28,15,23,27,29,30,31]
 | 6=>[0,1,2,4,8,16,32,3,5,9,17,33,6,10,18,34,12,20,36,24,40,48,7,11,19,35,13,21,37,25,41,49,14,22,38,26,42,50,28,44,52,56,15,23,39,27,43,51,29,45,53,57,30,46,54,58,60,31,47,55,59,61,62,63]
 | _=>[]
theorem Mw:(((j6 (fun i j=>Nat.blt ((crR 1).getD i 0) ((crR 1).getD j 0)) 2).run ⟨List.range 2,#[],7⟩).map fun r=>r.2.a)=some (crS 1):=by decide+kernel
theorem Mx:∀ i < 2,∀ j < 2,crO 1 i j=Nat.blt ((crR 1).getD i 0) ((crR 1).getD j 0):=by decide+kernel
theorem Nb:(((j6 (fun i j=>Nat.blt ((crR 2).getD i 0) ((crR 2).getD j 0)) 4).run ⟨List.range 4,#[],7⟩).map fun r=>r.2.a)=some (crS 2):=by decide+kernel
theorem Ni:∀ i < 4,∀ j < 4,crO 2 i j=Nat.blt ((crR 2).getD i 0) ((crR 2).getD j 0):=by decide+kernel
theorem M4:(((j6 (fun i j=>Nat.blt ((crR 3).getD i 0) ((crR 3).getD j 0)) 8).run ⟨List.range 8,#[],7⟩).map fun r=>r.2.a)=some (crS 3):=by decide+kernel
theorem Nk:∀ i < 8,∀ j < 8,crO 3 i j=Nat.blt ((crR 3).getD i 0) ((crR 3).getD j 0):=by decide+kernel
theorem Nq:(((j6 (fun i j=>Nat.blt ((crR 4).getD i 0) ((crR 4).getD j 0)) 16).run ⟨List.range 16,#[],7⟩).map fun r=>r.2.a)=some (crS 4):=by decide+kernel
theorem Nr:∀ i < 16,∀ j < 16,crO 4 i j=Nat.blt ((crR 4).getD i 0) ((crR 4).getD j 0):=by decide+kernel
theorem Nt:(((j6 (fun i j=>Nat.blt ((crR 5).getD i 0) ((crR 5).getD j 0)) 32).run ⟨List.range 32,#[],7⟩).map fun r=>r.2.a)=some (crS 5):=by decide+kernel
theorem Nj:∀ i < 32,∀ j < 32,crO 5 i j=Nat.blt ((crR 5).getD i 0) ((crR 5).getD j 0):=by decide+kernel
theorem M8:(((j6 (fun i j=>Nat.blt ((crR 6).getD i 0) ((crR 6).getD j 0)) 64).run ⟨List.range 64,#[],7⟩).map fun r=>r.2.a)=some (crS 6):=by decide+kernel
theorem MJ:∀ i < 64,∀ j < 64,crO 6 i j=Nat.blt ((crR 6).getD i 0) ((crR 6).getD j 0):=by decide+kernel
end L2
namespace L2
open PySem PySem.Spec PyProof.Rows PySem.W PySem.SeqAt
open AutoSeq1 (wpAny_loadPart')
open MeetsSeq MeetsSeq2 MeetsSeq3
theorem lH:∀ {vs:List Value} {ns:List Int} {i:Nat} {n:Int},IntsAre vs ns->ns[i]? = some n->∃ t,vs[i]? = some (.int n t)
 | _,_,i,_,.nil,h=>by simp at h
 | _,_,0,_,.cons m t r,h=>by
  cases h
  exact⟨t,rfl⟩
 | _,_,i+1,n,.cons m t r,h=>by
  obtain⟨t',e⟩:=lH (i:=i) r (by simpa using h)
  exact⟨t',by simpa using e⟩
theorem Ce (l b:Addr) (items items2:Array Value) (n n2:Nat) (dd dd2:Option Addr) (sl sl2:Array (Option Value)) {ns ms:List Int} (i1:IntsAre items.toList ns) (i2:IntsAre items2.toList ms) (hsz:ns.length=ms.length) (k:Nat) :
  ∀ i:Nat,ns.length - i=k->Meets (Builtin.«list.__eq__.loop» ⟨[.ref l,.ref b,rawInt i,rawInt 0],[]⟩)
   (fun A R s=>s.heap.get? l=some { cls:=.type "list",dict:=dd,data:=.seq items n,slots:=sl }/\s.heap.get? b=some { cls:=.type "list",dict:=dd2,data:=.seq items2 n2,slots:=sl2 } ∧
    R (.ok (.ret (.bool (HT.lexLt (ns.drop i) (ms.drop i))))) s):=by
 have z1:items.size=ns.length:=by rw[← Array.length_toList]; exact i1.length
 have z2:items2.size=ms.length:=by rw[← Array.length_toList]; exact i2.length
 induction k with
 | zero =>
  intro i hk prog w A R s h
  obtain⟨hp,g,d,tk,os⟩:=s; obtain⟨hl,hb,h⟩:=h
  wp_walk using wpAny_loadPart' hl,wpAny_loadPart' hb
  have hi1:items[((i:Nat):Int).toNat]? = none:=by simp; lia
  have hi2:items2[((i:Nat):Int).toNat]? = none:=by simp; lia
  rw[List.drop_of_length_le (by lia),List.drop_of_length_le (by lia)] at h
  rw[hi1,hi2]
  wp_walk using wpAny_loadPart' hl,wpAny_loadPart' hb
  show R (.ok (.ret (.bool (decide (items.size < items2.size))))) _
  rw[z1,z2,hsz,decide_eq_false (Nat.lt_irrefl _)]
  exact h
 | succ k ih =>
  intro i hk prog w A R s h
  obtain⟨hp,g,d,tk,os⟩:=s; obtain⟨hl,hb,h⟩:=h
  wp_walk using wpAny_loadPart' hl,wpAny_loadPart' hb
  have hlt:i < ns.length:=by lia
  have hlt2:i < ms.length:=by lia
  obtain⟨t1,e1⟩:=lH i1 (List.getElem?_eq_getElem hlt)
  obtain⟨t2,e2⟩:=lH i2 (List.getElem?_eq_getElem hlt2)
  have hi1:items[((i:Nat):Int).toNat]? = some (.int ns[i] t1):=by rw[Int.toNat_natCast,← Array.getElem?_toList]; exact e1
  have hi2:items2[((i:Nat):Int).toNat]? = some (.int ms[i] t2):=by rw[Int.toNat_natCast,← Array.getElem?_toList]; exact e2
  have hc:((i:Int)+1)=((i+1:Nat):Int):=by push_cast; rfl
  rw[List.drop_eq_getElem_cons hlt,List.drop_eq_getElem_cons hlt2,HT.kI] at h
  rw[hi1,hi2]
  refine wpAny_bind (wpAny_eqBool_int ?_)
  by_cases hb':ns[i]=ms[i]
  ·rw[if_pos hb'] at h
   rw[show (ns[i] == ms[i])=true by simp [hb']]
   wp_walk
   rw[hc]
   exact⟨plainId_quiet plain_eq_loop _,codeAny_builtin entry_eq_loop (by
    rw[Around.under_plainId plain_eq_loop _]
    exact ih (i+1) (by lia) prog w A R _ ⟨hl,hb,h⟩)⟩
  ·rw[if_neg hb'] at h
   rw[show (ns[i] == ms[i])=false by simp [hb']]
   wp_walk using wpAny_loadPart' hl,wpAny_loadPart' hb
   rw[hi1,hi2]
   show wpAny _ _ (do let v ← richCompare .Lt (.int ns[i] t1) (.int ms[i] t2); ret v) _ _ _
   refine wpAny_bind (show wpAny _ _ (compareOp .Lt (.int ns[i] t1) (.int ms[i] t2)) _ _ _ from PyProof.Rows.lt_int ?_)
   exact wpAny_pure h
theorem Cy (l b:Addr) (items items2:Array Value) (n n2:Nat) (dd dd2:Option Addr) (sl sl2:Array (Option Value)) {ns ms:List Int} (i1:IntsAre items.toList ns) (i2:IntsAre items2.toList ms) (hsz:ns.length=ms.length) :
  Meets (Builtin.«list.__lt__» ⟨[.ref l,.ref b],[]⟩)
   (fun A R s=>s.heap.get? l=some { cls:=.type "list",dict:=dd,data:=.seq items n,slots:=sl }/\s.heap.get? b=some { cls:=.type "list",dict:=dd2,data:=.seq items2 n2,slots:=sl2 } ∧
    R (.ok (.ret (.bool (HT.lexLt ns ms)))) s):=by
 intro prog w A R s h
 obtain⟨hp,g,d,tk,os⟩:=s; obtain⟨hl,hb,h⟩:=h
 have f3:=AutoSeq1.sub_list_list
 wp_walk using wpAny_loadPart' hl,wpAny_loadPart' hb
 exact⟨plainId_quiet plain_eq_loop _,codeAny_builtin entry_eq_loop (by
  rw[Around.under_plainId plain_eq_loop _]
  exact Ce l b items items2 n n2 dd dd2 sl sl2 i1 i2 hsz _ 0 rfl prog w A R _ ⟨hl,hb,h⟩)⟩
section
variable {prog:Program} {w:World} {A:Around} {E:Value->Shared->Prop} {s:Shared}
theorem El {l b:Addr} {items items2:Array Value} {ns ms:List Int} {Q:Value->Shared->Prop} (hl:s.heap.IsList l items) (hb:s.heap.IsList b items2) (i1:IntsAre items.toList ns) (i2:IntsAre items2.toList ms) (hsz:ns.length=ms.length) (hu:A.units < cLine) (h:Q (.bool (HT.lexLt ns ms)) s):wpAny (model prog w) A (compareOp .Lt (.ref l) (.ref b)) Q E s:=by
 obtain⟨⟨cls,dd,data,sl⟩,ho,hc,n,hd⟩:=id hl
 obtain⟨⟨cls2,dd2,data2,sl2⟩,ho2,hc2,n2,hd2⟩:=id hb
 simp only at hc hd hc2 hd2
 subst hc hd hc2 hd2
 exact richCompare_meets_room (op:=.Lt) ⟨_,ho,rfl⟩ ⟨_,ho2,rfl⟩ F.slot_list_lt F.entry_list_lt (F.args_list_lt_2 _ _) (Cy l b items items2 n n2 dd dd2 sl sl2 i1 i2 hsz)
  ⟨ho,ho2,show Value.bool (HT.lexLt ns ms)≠Value.notImplemented/\Q (.bool (HT.lexLt ns ms)) s from ⟨(fun x=>nomatch x),h⟩⟩ hu
noncomputable def qx (h h':Heap) (a:Addr):Prop:=∀ b o,b≠a->h.get? b=some o->h'.get? b=some o
theorem nu {a:Addr} {vs:List Value} {n:Nat} {κ:SortKind} {o:Nat->Nat->Bool} {p:List Nat} {P:Fin->Shared->Prop} (ho:s.heap.get? a=some (seqObj "list" vs.toArray n)) (hz:vs.length<=5000) (h2:2<=vs.length) (hpl:p.length=vs.length)
  (hk:∀ h',qx s.heap h' a->∀ Q:SortKind->Shared->Prop,Q κ { s with heap:=h' }->wpAny (model prog w) A (keyKind' vs.toArray) Q E { s with heap:=h' })
  (hO:∀ h',qx s.heap h' a->∀ i j,i < vs.length->j < vs.length->∀ C:Bool->Shared->Prop,C (o i j) { s with heap:=h' }->wpAny (model prog w) A (keyLt' κ (vs.getD i Value.none) (vs.getD j Value.none)) C (fun _ _=>False) { s with heap:=h' })
  (he:(((j6 o vs.length).run ⟨List.range vs.length,#[],7⟩).map fun r=>r.2.a)=some p)
  (h:P (.done (.ret .none)) { s with heap:=sortedHeap s.heap a vs (p.map fun i=>vs.getD i Value.none).toArray }) :
  wpAny (model prog w) A (Builtin.«list.sort» ⟨[.ref a],[]⟩) P E s:=by
 rw[list_sort_plain]
 have ha:a < s.heap.objs.size:=Heap.lt_size ho
 refine wpAny_bind (listItems_at ho rfl ?_)
 refine wpAny_bind (listUpdate_at ho rfl ?_ (by rw[List.size_toArray,sizeLine_eq]; lia) (Nat.zero_le _))
 obtain⟨e1,ho1⟩:∃ e1,(s.heap.update a (Obj.mapSeq fun _=>#[])).get? a=some (seqObj "list" #[] e1):=⟨_,get?_update_seq ho (fun _=>#[])⟩
 refine wpAny_bind (seqEpoch_at ho1 rfl ?_)
 refine wpAny_bind (wpAny_newTuple ?_ (by show vs.length<=_; rw[sizeLine_eq]; lia))
 refine wpAny_bind (wpAny_newList ?_ (Nat.zero_le _))
 refine wpAny_holding ?_
 have ho6:(((s.heap.update a (Obj.mapSeq fun _=>#[])).push (seqObj "tuple" vs.toArray 0)).push (seqObj "list" #[] 0)).get? a=some (seqObj "list" #[] e1):=by
  rw[Heap.get?_push_ne _ _ _ (by rw[size_push',Heap.size_update]; exact Nat.ne_of_lt (Nat.lt_succ_of_lt ha)),Heap.get?_push_ne _ _ _ (by rw[Heap.size_update]; exact Nat.ne_of_lt ha)]
  exact ho1
 have kp:qx s.heap (((s.heap.update a (Obj.mapSeq fun _=>#[])).push (seqObj "tuple" vs.toArray 0)).push (seqObj "list" #[] 0)) a:=fun b o hb e=>by
  have hlt:b < s.heap.objs.size:=Heap.lt_size e
  rw[Heap.get?_push_ne _ _ _ (by rw[size_push',Heap.size_update]; exact Nat.ne_of_lt (Nat.lt_succ_of_lt hlt)),Heap.get?_push_ne _ _ _ (by rw[Heap.size_update]; exact Nat.ne_of_lt hlt),Heap.get?_update_ne _ _ _ _ hb]
  exact e
 show wpAny (model prog w) A _ P E { s with heap:=((s.heap.update a (Obj.mapSeq fun _=>#[])).push (seqObj "tuple" vs.toArray 0)).push (seqObj "list" #[] 0) }
 dsimp only
 have hsz:vs.toArray.size=vs.length:=by simp
 rw[if_neg (by lia),if_neg (by lia)]
 refine wpAny_bind (hk _ kp _ ?_)
 have est:SortSt.mk' κ (vs.toArray.zip vs.toArray) #[] 7 none=SortSt.mk' κ (im (pairsOf vs) (List.range vs.length)) #[] 7 none:=by
  have e:=kas_range (pairsOf vs)
  rw[show (pairsOf vs).size=vs.length from pairsOf_size vs] at e
  congr 1
  rw[im,← List.map_toArray,e]
  rfl
 rw[est]
 refine wpAny_bind (wpAny_mono (zB (prog:=prog) (w:=w) (A:=A) (E:=E) (it:=pairsOf vs) (κ:=κ) (s:={ s with heap:=((s.heap.update a (Obj.mapSeq fun _=>#[])).push (seqObj "tuple" vs.toArray 0)).push (seqObj "list" #[] 0) })
  (Q:=fun _ st' s'=>(arrOf st'=im (pairsOf vs) p/\failedOf st'=none)/\s'={ s with heap:=((s.heap.update a (Obj.mapSeq fun _=>#[])).push (seqObj "tuple" vs.toArray 0)).push (seqObj "list" #[] 0) }) (fun i j hi hj C hC=>?_) he fun st' e1 e2=>⟨⟨e1,e2⟩,rfl⟩) ?_ fun _ _ e=>e)
 ·unfold kas_cmp
  rw[kas_item_eq,kas_item_eq]
  exact hO _ kp i j hi hj C hC
 ·rintro⟨⟨⟩,st'⟩ s' ⟨⟨e1,e2⟩,rfl⟩
  dsimp only at e1 e2 ⊢
  have em:(arrOf st').map (·.2)=(p.map fun i=>vs.getD i Value.none).toArray:=by
   rw[e1,im]
   simp [kas_item_eq]
  refine wpAny_bind (seqEpoch_at ho6 rfl ?_)
  refine wpAny_bind (listUpdate_at ho6 rfl ?_ (Nat.zero_le _) (by rw[em,List.size_toArray,List.length_map,hpl,sizeLine_eq]; lia))
  rw[e2]
  simp only[bne_self_eq_false,Bool.false_eq_true,if_false]
  rw[em]
  exact wpAny_pure h
theorem uy {l:Addr} {vs:List Value} {κ:SortKind} {o:Nat->Nat->Bool} {p:List Nat} {Q:Value->Shared->Prop} (hl:s.heap.IsList l vs.toArray) (hz:vs.length<=5000) (h2:2<=vs.length) (hpl:p.length=vs.length)
  (hk:∀ h':Heap,(∀ b o,s.heap.get? b=some o->h'.get? b=some o)->∀ Q:SortKind->Shared->Prop,Q κ { s with heap:=h' }->wpAny (model prog w) A.in1.in1 (keyKind' vs.toArray) Q E { s with heap:=h' })
  (hO:∀ h':Heap,(∀ b o,s.heap.get? b=some o->h'.get? b=some o)->∀ i j,i < vs.length->j < vs.length->∀ C:Bool->Shared->Prop,C (o i j) { s with heap:=h' }->wpAny (model prog w) A.in1.in1 (keyLt' κ (vs.getD i Value.none) (vs.getD j Value.none)) C (fun _ _=>False) { s with heap:=h' })
  (he:(((j6 o vs.length).run ⟨List.range vs.length,#[],7⟩).map fun r=>r.2.a)=some p)
  (h:Q (.ref (s.heap.objs.size+1)) { s with heap:=sortedAll s.heap vs (p.map fun i=>vs.getD i Value.none).toArray }) :
  wpAny (model prog w) A (call (.builtin "sorted") [.ref l]) Q E s:=by
 refine Calls.call_function_entry kind_sorted plain_sorted entry_sorted (args_sorted1 _) ?_
 unfold Builtin.«sorted»
 refine wpAny_bind (m:=checkCount "sorted" 1 1 _) (wpAny_pure ?_)
 refine wpAny_bind (collect_list hl ?_ (by rw[sizeLine_eq]; lia))
 refine wpAny_bind (wpAny_newList ?_ (by rw[sizeLine_eq]; lia))
 have hsz:((s.heap.push (seqObj "list" #[] 0)).update s.heap.objs.size (Obj.mapSeq (·++vs.toArray))).objs.size=s.heap.objs.size+1:=by
  rw[Heap.size_update,size_push']
 have hoL:(((s.heap.push (seqObj "list" #[] 0)).update s.heap.objs.size (Obj.mapSeq (·++vs.toArray))).push (seqObj "list" vs.toArray 0)).get? (s.heap.objs.size+1)=some (seqObj "list" vs.toArray 0):=by
  rw[← hsz]; exact Heap.get?_push_size _ rfl
 have keep:∀ b o,s.heap.get? b=some o->(((s.heap.push (seqObj "list" #[] 0)).update s.heap.objs.size (Obj.mapSeq (·++vs.toArray))).push (seqObj "list" vs.toArray 0)).get? b=some o:=fun b o q=>by
  have hlt:b < s.heap.objs.size:=Heap.lt_size q
  rw[Heap.get?_push_ne _ _ _ (by rw[hsz]; exact Nat.ne_of_lt (Nat.lt_succ_of_lt hlt)),Heap.get?_update_ne _ _ _ _ (Nat.ne_of_lt hlt),Heap.get?_push_ne _ _ _ (Nat.ne_of_lt hlt)]
  exact q
 have kb:∀ h':Heap,qx (((s.heap.push (seqObj "list" #[] 0)).update s.heap.objs.size (Obj.mapSeq (·++vs.toArray))).push (seqObj "list" vs.toArray 0)) h' (s.heap.objs.size+1)->∀ b o,s.heap.get? b=some o->h'.get? b=some o:=fun h' k b o q =>
  k b o (Nat.ne_of_lt (Nat.lt_succ_of_lt (Heap.lt_size q))) (keep b o q)
 show wpAny _ _ _ _ _ { s with heap:=((s.heap.push (seqObj "list" #[] 0)).update s.heap.objs.size (Obj.mapSeq (·++vs.toArray))).push (seqObj "list" vs.toArray 0) }
 rw[hsz]
 refine wpAny_bind (wpAny_holding (wpAny_call_entry slot_list_sort ⟨_,hoL,rfl⟩ entry_list_sort (nu (s:={ s with heap:=((s.heap.push (seqObj "list" #[] 0)).update s.heap.objs.size (Obj.mapSeq (·++vs.toArray))).push (seqObj "list" vs.toArray 0) }) hoL hz h2 hpl (fun h' k=>hk h' (kb h' k)) (fun h' k=>hO h' (kb h' k)) he ⟨_,rfl,?_⟩) (args_list_sort _)))
 exact wpAny_pure ⟨_,rfl,h⟩
noncomputable def lZ (h:Heap) (p:Addr) (ns:List Int):Prop:=∃ (t:Tok) (l:Addr) (its:List Value),h.IsTuple p #[.int (ns.length:Int) t,.ref l]/\h.IsList l its.toArray/\IntsAre its ns
theorem lZ.keep {h h':Heap} {p:Addr} {ns:List Int} (x:lZ h p ns) (k:∀ b o,h.get? b=some o->h'.get? b=some o):lZ h' p ns:=by
 obtain⟨t,l,its,⟨o1,e1,r1⟩,⟨o2,e2,r2⟩,i⟩:=x
 exact⟨t,l,its,⟨o1,k _ _ e1,r1⟩,⟨o2,k _ _ e2,r2⟩,i⟩
noncomputable def tR (a b:List Int):Bool:=if a.length=b.length then HT.lexLt a b else decide (a.length < b.length)
theorem Ep {l b:Addr} {its its2:List Value} {ns ms:List Int} {Q:Bool->Shared->Prop} (hl:s.heap.IsList l its.toArray) (hb:s.heap.IsList b its2.toArray) (i1:IntsAre its ns) (i2:IntsAre its2 ms) (hsz:ns.length=ms.length) (hu:A.units < cLine) (h:Q (decide (ns=ms)) s):wpAny (model prog w) A (eqBool (.ref l) (.ref b)) Q E s:=by
 have s1:its.toArray.size=ns.length:=by rw[List.size_toArray]; exact i1.length
 have s2:its2.toArray.size=ms.length:=by rw[List.size_toArray]; exact i2.length
 have e:=jR ns ms
 by_cases hne:l=b
 ·subst hne
  obtain⟨o1,e1,c1,n1,d1⟩:=hl
  obtain⟨o2,e2,c2,n2,d2⟩:=hb
  rw[e1] at e2
  cases e2
  rw[d1] at d2
  have ei:its=its2:=by injection d2 with d2; simpa using d2
  subst ei
  have en:ns=ms:=by rw[← i1.numsOf,← i2.numsOf]
  rw[decide_eq_true en] at h
  exact SeqAt.EqAt.same _ prog w E _ h
 ·have r:=SeqAt.RcAt.lists (A:=A) (e:=fun j=>ns.getD j 0 == ms.getD j 0) hl hb (by rw[s1,s2]; exact hsz) hu fun j h1 h2=>by
   obtain⟨t,e1⟩:=ints_get i1 (j:=j) (by simpa using h1)
   obtain⟨t',e2⟩:=ints_get i2 (j:=j) (by simpa using h2)
   rw[List.getElem_toArray,List.getElem_toArray,e1,e2]
   exact SeqAt.EqAt.int_int _ _ _ _
  rw[← hsz,Nat.min_self,beq_self_eq_true,Bool.and_true] at e
  rw[s1,e] at r
  exact SeqAt.EqAt.of_refs hne r prog w E _ h
theorem pP:∀ ns:List Int,HT.lexLt ns ns=false
 | []=>rfl
 | a::r=>by rw[HT.kI,if_pos rfl]; exact pP r
theorem Fz {p q : Addr} {ns ms : List Int} {C : Bool → Shared → Prop} (hp : lZ s.heap p ns) (hq : lZ s.heap q ms) (hu : A.units < cLine) (h : C (tR ns ms) s) : wpAny (model prog w) A (keyLt' (tuples' true) (.ref p) (.ref q)) C E s := by
  obtain ⟨t1, l1, i1, ⟨o1, e1, c1, n1, d1⟩, hl1, a1⟩ := hp
  obtain ⟨t2, l2, i2, ⟨o2, e2, c2, n2, d2⟩, hl2, a2⟩ := hq
  refine kat_lt e1 d1 e2 d2 ?_
  show KatLex prog w A true _ C [(.int (ns.length : Int) t1, .int (ms.length : Int) t2), (.ref l1, .ref l2)] 0 s
  unfold tR at h
  refine kat_cons (wpAny_eqBool_int (kat_go (fun e => kat_yes ?_) fun e => kat_no ?_))
  · have el : ns.length = ms.length := by have : (ns.length : Int) = ms.length := by simpa using e
                                          lia
    rw [if_pos el] at h
    refine kat_cons (Ep hl1 hl2 a1 a2 el hu ?_)
    refine kat_go (fun e => kat_yes ?_) fun e => kat_no ?_
    · have e' : ns = ms := by simpa using e
      subst e'
      rw [pP] at h
      exact h
    · exact kat_one _ _ (El hl1 hl2 (by simpa using a1) (by simpa using a2) el hu (show PySem.W.BoolBack C (.bool _) s from h))
  · have el : ¬ ns.length = ms.length := fun z => by rw [z] at e; simp at e
    rw [if_neg el] at h
    refine oneLt_int ?_
    have : decide ((ns.length : Int) < (ms.length : Int)) = decide (ns.length < ms.length) := by
      by_cases z : ns.length < ms.length
      · rw [decide_eq_true z, decide_eq_true (by lia)]
      · rw [decide_eq_false z, decide_eq_false (by lia)]
    rw [this]
    exact h
theorem kat_pairs:∀ {ps:List (Addr × List Int)},(∀ p∈ps,lZ s.heap p.1 p.2)->∃ fs:List Value,fs.length=ps.length/\KatTups s.heap (ps.map fun p=>Value.ref p.1) fs/\∀ v∈fs,∃ (n:Int) (t:Tok),v = .int n t
 | [],_=>⟨[],rfl,KatTups.nil,by simp⟩
 | p::ps,h=>by
  obtain⟨fs,e,k,z⟩:=kat_pairs (ps:=ps) fun q hq=>h q (List.mem_cons_of_mem _ hq)
  obtain⟨t,l,its,⟨o,ho,hc,n,hd⟩,_⟩:=h p List.mem_cons_self
  refine⟨.int (p.2.length:Int) t::fs,by simp [e],KatTups.cons ho hc hd (by simp) k,fun v hv=>?_⟩
  rcases List.mem_cons.mp hv with rfl | hv
  ·exact⟨_,_,rfl⟩
  ·exact z v hv
theorem zf {M:Model} {ps:List (Addr × List Int)} {Q:SortKind->Shared->Prop} (h0:0 < ps.length) (ht:∀ p∈ps,lZ s.heap p.1 p.2) (h:Q (tuples' true) s):wpAny M A (keyKind' (ps.map fun p=>Value.ref p.1).toArray) Q E s:=by
 obtain⟨fs,e,k,z⟩:=kat_pairs ht
 refine kat_kind (T:=.type "int") k (by lia) (fun v hv=>?_) (by rfl) ?_
 ·obtain⟨n,t,rfl⟩:=z v hv
  exact Looks.of_pure rfl
 ·exact h
end
section
variable {X:Cx} {k:Nat}
inductive Bf (K:W.Frag) (xs:List V) (H:Hp) (Q:VK):Prop where
 | mk (p:Addr) (ps:List (Addr × List Int)) (o:Nat->Nat->Bool) (pm:List Nat) (z0:xs=[.ref p]) (z1:SqL K H p (ps.map fun p=>V.ref p.1)) (z2:2<=ps.length) (z3:ps.length<=5000) (z4:(∀ q∈ps,∃ l:Addr,SqT K H q.1 [.int (q.2.length:Int),.ref l]/\SqL K H l (q.2.map V.int))) (z5:(∀ i j a b,ps[i]? = some a->ps[j]? = some b->o i j=tR a.2 b.2)) (z6:pm.length=ps.length) (z7:(∀ i∈pm,i < ps.length)) (z8:(((j6 o ps.length).run ⟨List.range ps.length,#[],7⟩).map fun r=>r.2.a)=some pm) (z9:∀ l,H l=none->Q (.ref l) (upd H l (.lst (pm.map fun i=>V.ref (ps.getD i (0,[])).1)))):Bf K xs H Q
noncomputable def Gj (K:W.Frag):List V->Hp->VK->Prop:=fun xs H Q=>Bf K xs H Q
theorem Bd {ps:List (Addr × List Int)}:∀ pm:List Nat,(∀ i∈pm,i < ps.length)->Vals (pm.map fun i=>V.ref (ps.getD i (0,[])).1) (pm.map fun i=>(ps.map fun p=>Value.ref p.1).getD i Value.none)
 | [],_=>.nil
 | i::pm,h=>by
  have hi:=h i List.mem_cons_self
  refine .cons ?_ (Bd pm fun j hj=>h j (List.mem_cons_of_mem _ hj))
  show (ps.map fun p=>Value.ref p.1).getD i Value.none = .ref (ps.getD i (0,[])).1
  simp [hi]
theorem yS (hr:mH k X.A):fZ X (.builtin "sorted") (Gj X.K):=by
 intro pins s σ H xs us Q I r h
 obtain⟨p,ps,o,pm,rfl,hq,h2,hz,ht,ho,hpm,hlt,he,q⟩:=h
 obtain⟨u,rfl,ru⟩:=vals1 r
 cases ru
 obtain⟨its,rv,pl,_⟩:=I.list hq
 have ei:=Az ps its rv
 subst ei
 have lv:(ps.map fun p=>Value.ref p.1).length=ps.length:=by simp
 have pr:∀ p∈ps,lZ s.heap p.1 p.2:=fun p hm=>by
  obtain⟨l,x1,x2⟩:=ht p hm
  obtain⟨i1,r1,p1,_⟩:=I.tuple x1
  obtain⟨i2,r2,p2,_⟩:=I.list x2
  cases r1 with
  | cons ra r1 =>
   cases r1 with
   | cons rb r1 =>
    cases r1
    obtain⟨t,rfl⟩:=ra
    cases rb
    exact⟨t,l,i2,p1,p2.isList,intsAre_of r2⟩
 have hu:X.A.in1.in1.units < cLine:=by
  have:=hr.un
  show X.A.units+1+1 < _
  lia
 refine uy (o:=o) (p:=pm) (κ:=tuples' true) pl.isList (by lia) (by lia) (by lia) (fun h' kp Q' hQ=>zf (by lia) (fun p hm=>(pr p hm).keep kp) hQ) (fun h' kp i j hi hj C hC=>?_) (by rw[lv]; exact he) ?_
 ·have hi':i < ps.length:=by lia
  have hj':j < ps.length:=by lia
  rw[show (ps.map fun p=>Value.ref p.1).getD i Value.none = .ref ps[i].1 by simp [hi'],show (ps.map fun p=>Value.ref p.1).getD j Value.none = .ref ps[j].1 by simp [hj']]
  refine Fz ((pr ps[i] (List.getElem_mem hi')).keep kp) ((pr ps[j] (List.getElem_mem hj')).keep kp) hu ?_
  rw[← ho i j _ _ (List.getElem?_eq_getElem hi') (List.getElem?_eq_getElem hj')]
  exact hC
 ·obtain⟨e,he⟩:=sortedAll_at s.heap (ps.map fun p=>Value.ref p.1) (pm.map fun i=>(ps.map fun p=>Value.ref p.1).getD i Value.none).toArray
  have hml:(pm.map fun i=>V.ref (ps.getD i (0,[])).1).length<=sizeLine:=by
   rw[List.length_map,sizeLine_eq]
   lia
  exact⟨.ref _,_,I.Jp rfl rfl (fun _ _=>sortedAll_old) (Nat.le_succ _) (Bd pm hlt) hml he,rfl,q _ (I.hok.fresh (Nat.le_succ _))⟩
end
end L2
namespace My
open PySem L2
variable {P:Program} {w:World} {K:W.Frag} {mg:Str->Option Value} {base:Heap} {f:Addr} {fd:FuncData}
noncomputable def top (i:Nat):Stmt:=PySem.Challenge.pw_loveboon_k31_whole_who_begins.main.body.getD i (.Pass ⟨0,0,0,0⟩)
theorem aA {H:Hp} {p:Addr} (h:H p=none) (o:HO):aN H (upd H p o):=fun b u q=>by rw[cj (dj q h)]; exact q
theorem aK {H H':Hp} {p:Addr} (s:aN H H') (h:H p=none) (o:HO):aN H (upd H' p o):=fun b u q=>by rw[cj (dj q h)]; exact s b u q
theorem eQ {K:W.Frag} {H H':Hp} {a:Addr} {xs:List V} (e:aN H H') (h:SqT K H a xs):SqT K H' a xs:=by
 rcases h with (h | ⟨o,h⟩) | h
 ·exact .inl (.inl (e _ _ h))
 ·exact .inl (.inr ⟨o,e _ _ h⟩)
 ·exact .inr h
theorem CW {H:Hp} {p:Addr} {o o':HO}:upd (upd H p o) p o'=upd H p o':=by
 funext b
 unfold upd
 by_cases e:b=p
 ·rw[if_pos e,if_pos e]
 ·rw[if_neg e,if_neg e,if_neg e]
theorem small {n:Nat} (h:n<=1000):n<=sizeLine:=Nat.le_of_lt (aG h)
theorem int_at {ns:List Int} {i:Nat} {x:V} (h:(ns.map V.int)[i]? = some x):∃ n,ns[i]? = some n/\x = .int n:=by
 rw[List.getElem?_map] at h
 cases e:ns[i]? with
 | none=>rw[e] at h; cases h
 | some n=>rw[e] at h; exact⟨n,rfl,(Option.some.inj h).symm⟩
theorem qQ {α β:Type} (f:α->β) {xs:List α} {i:Nat} {x:α} (h:xs[i]? = some x):(xs.take i).map f++[f x]=(xs.take (i+1)).map f:=by
 rw[List.take_add_one,h,List.map_append]
 rfl
theorem iW {ns:List Int} {i:Nat} (h:i < ns.length):atI (ns.map V.int) (i:Int)=some (.int ns[i]):=iz (by rw[List.getElem?_map,List.getElem?_eq_getElem h]; rfl)
theorem gT {i:Nat} {x:V} {σ:St} {H:Hp} {A B:St->Hp->Prop} (h:A (σ.set i (some x)) H):CV i x σ H (fun σ3 H3=>Fl σ3 H3 (fun b H4=>if b=true then A σ3 H4 else B σ3 H4)):=by
 show if true=true then A (σ.set i (some x)) H else B (σ.set i (some x)) H
 rw[if_pos rfl]
 exact h
theorem aH {H H1:Hp} {p:Addr} {o:HO} (e:upd H p o=H1) (h:H p=none):aN H H1/\H1 p=some o:=by
 subst e
 exact⟨aA h _,aj⟩
theorem aF {xs:List V} {k:Nat} {v:V} (h:xs[k]? = some v):atI xs (k:Int)=some v:=iz h
theorem eU {ns:List Int} {k:Nat} {n:Int} (h:ns[k]? = some n):(ns.map V.int)[k]? = some (.int n):=by rw[List.getElem?_map,h]; rfl
theorem tT {σ:St} {H:Hp} {A B:Hp->Prop} (h:A H):Fl σ H (fun b H4=>if b=true then A H4 else B H4):=by
 show if true=true then A H else B H
 rw[if_pos rfl]
 exact h
theorem oG:∀ ns:List Int,yN (ns.map Dm.int)=0
 | []=>by simp [yN]
 | n::r=>by simp [yN,Dm.dep,oG r]
theorem xH {H:Hp} {a:Addr} {ns:List Int} (h:H a=some (.tup (ns.map V.int))) (l:ns.length<=1000):Rep H (.ref a) (.tup (ns.map Dm.int)):=.tup h (by rw[List.length_map]; lia) (mZ ns)
theorem Ib (ns:List Int):(Dm.tup (ns.map Dm.int)).dep=1:=by rw[Dm.dep,oG]
noncomputable def vN (i:Nat):V:=.int (i:Int)
theorem iB (c:List Nat):c.map vN=(c.map fun i:Nat=>(i:Int)).map V.int:=by rw[List.map_map]; rfl
theorem ux {c:List Nat} {j:Nat} {x:V} (h:(c.map vN)[j]? = some x):∃ i,c[j]? = some i/\x=vN i:=by
 rw[List.getElem?_map] at h
 cases e:c[j]? with
 | none=>rw[e] at h; cases h
 | some i=>rw[e] at h; exact⟨i,rfl,(Option.some.inj h).symm⟩
theorem dB {H:Hp} {D:Addr} {zs zs':List V} (h:H D=some (.lst zs)):∀ a xs,H a=some (HO.tup xs)->upd H D (.lst zs') a=some (HO.tup xs):=fun a xs q=>by
 rw[cj (fun z=>by rw[z,h] at q; cases q)]
 exact q
theorem CJ {α:Type} {xs:List α} {v:α} (h:xs[xs.length - 1]? = some v):atI xs (-1)=some v:=by
 have hl:xs.length - 1 < xs.length:=(List.getElem?_eq_some_iff.mp h).1
 have hne:xs≠[]:=fun z=>by rw[z] at hl; exact absurd hl (Nat.lt_irrefl _)
 have e:xs=xs.dropLast++[v]:=by
  rw[← List.getLast?_eq_getElem?,List.getLast?_eq_some_getLast hne] at h
  rw[← Option.some.inj h]
  exact (List.dropLast_concat_getLast hne).symm
 rw[e]
 exact DY _ _
noncomputable abbrev dU:Stmt:=top 23
theorem cu:aY ["_law_cell_here","_law_parts","_law_one","_law_two","_law_six","_law_found","_law_part"] ["_law_cell_here","_law_parts"] (aB dU):=⟨rfl,rfl,rfl,by decide+kernel,rfl,by decide+kernel,by decide+kernel⟩
noncomputable def rY (c:Int):Int:=(c * 48271+11) % 2147483647
noncomputable def FZ (c:Int):Int:=(rY c * rY c+40692 * rY c+c) % 2147483399
noncomputable def LR (c:Int):Int:=(FZ c * 16807+rY c) % 1000000007
noncomputable def mG (c:Int):Int:=if decide ((if c < 0 then -c else c) < 10 ^ (18:Int).toNat)=true then FZ c+2147483399 * (LR c+1000000007 * rY c) else (if c < 0 then -c else c) - 10 ^ (18:Int).toNat
noncomputable def vm:Int->List Int->List Int
 | _,[]=>[]
 | c,p::ps=>c % p::vm (c / p) ps
noncomputable def divC:Int->List Int->Int
 | c,[]=>c
 | c,p::ps=>divC (c / p) ps
theorem oV (p:Int):∀ (ps:List Int) (c:Int),vm c (ps++[p])=vm c ps++[divC c ps % p]
 | [],_=>rfl
 | q::ps,c=>by
  show c % q::vm (c / q) (ps++[p])=c % q::(vm (c / q) ps++[divC (c / q) ps % p])
  rw[oV p ps]
theorem kh (p:Int):∀ (ps:List Int) (c:Int),divC c (ps++[p])=divC c ps / p
 | [],_=>rfl
 | q::ps,c=>kh p ps (c / q)
theorem iy:∀ (ps:List Int) (c:Int),(vm c ps).length=ps.length
 | [],_=>rfl
 | _::ps,_=>congrArg Nat.succ (iy ps _)
theorem cF:∀ {ps:List Int} {c:Int} {i:Nat} {p:Int},(∀ q∈ps,0 < q)->ps[i]? = some p->∃ v,(vm c ps)[i]? = some v/\0<=v/\v < p
 | [],_,_,_,_,h=>by simp at h
 | q::ps,c,0,p,hp,h=>by
  cases (show some q=some p from h)
  exact⟨c % q,rfl,Int.emod_nonneg _ (by have:=hp q List.mem_cons_self; lia),Int.emod_lt_of_pos _ (hp q List.mem_cons_self)⟩
 | q::ps,c,i+1,p,hp,h=>by
  obtain⟨v,e,r⟩:=cF (ps:=ps) (c:=c / q) (i:=i) (fun z hz=>hp z (List.mem_cons_of_mem _ hz)) (by simpa using h)
  exact⟨v,by simpa [vm] using e,r⟩
noncomputable def Bc (c:Int) (ps:List Int):List Int:=vm (mG c) ps
theorem HR (c:Int):0<=rY c/\rY c < 2147483647:=⟨Int.emod_nonneg _ (by decide),Int.emod_lt_of_pos _ (by decide)⟩
theorem HJ (c:Int):0<=FZ c/\FZ c < 2147483399:=⟨Int.emod_nonneg _ (by decide),Int.emod_lt_of_pos _ (by decide)⟩
inductive xW (K:W.Frag) (vs:List V) (H:Hp) (Q:VK):Prop where
 | mk (c:Int) (p:Addr) (ps:List Int) (z0:vs=[.int c,.ref p]) (z1:SqL K H p (ps.map V.int)) (z2:(∀ q∈ps,0 < q/\q < 1073741824)) (z3:ps.length<=1000) (z4:∀ r,H r=none->Q (.ref r) (upd H r (.lst ((Bc c ps).map V.int)))):xW K vs H Q
noncomputable def jK (K:W.Frag):Sp:=fun vs H Q _=>xW K vs H Q
theorem uo (F:Fun K "_law_draws" "_law_draws" dU f fd) (B:Bt mg) :
  dz P w K mg base CX0 1 f fd ["_law_cell_here","_law_parts"] (jK K):=by
 refine F.ok cu (fun vs H Q E h=>?_) (fun cdv A outer s H vs Q E hr h=>?_)
 ·obtain⟨c,p,ps,rfl,_⟩:=h
  rfl
 ·obtain⟨c,p,ps,rfl,hS,hp,hl,q⟩:=h
  refine⟨_,(au (cA (aP Ca (aJ mL rfl B.abs_ xR (aa (pv 0) ao)) (aU pG aq aq) (aR _)) (au (bj (i:=2) cu.nd rfl (Or.inl rfl) (aU di (aU bR (aU gZ (pv 0) aq) aq) aq))
 (au (bj (i:=3) cu.nd rfl (Or.inl rfl) (aU di (aU bR (aU bR (aU gZ (pv 2) (pv 2)) (aU gZ aq (pv 2))) (pv 0)) aq))
 (au (bj (i:=4) cu.nd rfl (Or.inl rfl) (aU di (aU bR (aU gZ (pv 3) aq) (pv 2)) aq))
 (aC (bj (i:=0) cu.nd rfl (Or.inl rfl) (aU bR (pv 3) (aU gZ aq (aU bR (pv 4) (aU gZ aq (pv 2)))))))))) (aC (bj (i:=0) cu.nd rfl (Or.inl rfl) (aU nA (aJ mL rfl B.abs_ xR (aa (pv 0) ao)) (aU pG aq aq)))))
 (au (bj (i:=5) cu.nd rfl (Or.inl rfl) (bV ao))
 (au (eE PassesOwn.never rfl (cX (pv 1)) (aD (i:=6) cu.nd rfl (Or.inl rfl)) (au (iQ (sZ PySem.F.plainAttrs_list PySem.F.slot_list_append PySem.F.type_list_append cV (pv 5) (aa (aU di (pv 0) (pv 6)) ao)))
 (aC (bj (i:=0) cu.nd rfl (Or.inl rfl) (aU vI (pv 0) (pv 6))))))
 (aC (aL (pv 5)))))),?_⟩
  have b1:=HR c
  have b2:=HJ c
  refine⟨_,rfl,_,rfl,_,_,rfl,rfl,⟨by decide,by decide,by decide⟩,_,_,rfl,rfl,_,rfl,?_⟩
  refine zQ (fun h=>?_) (fun h=>?_)
  ·refine⟨_,rfl,_,_,rfl,rfl,.inr ⟨by decide,by decide⟩,_,_,rfl,rfl,_,_,rfl,rfl,(by show (0:Int) < 2147483647; decide),?_⟩
   refine⟨_,rfl,_,rfl,_,_,rfl,rfl,.inl (show -(2 ^ 64) < rY c/\rY c < 2 ^ 64 from ⟨by lia,by lia⟩),_,rfl,_,_,rfl,rfl,.inl ⟨by decide,by decide⟩,_,_,rfl,rfl,_,rfl,_,_,rfl,rfl,_,_,rfl,rfl,(by show (0:Int) < 2147483399; decide),?_⟩
   refine⟨_,rfl,_,_,rfl,rfl,.inr ⟨by decide,by decide⟩,_,rfl,_,_,rfl,rfl,_,_,rfl,rfl,(by show (0:Int) < 1000000007; decide),?_⟩
   refine⟨_,rfl,_,rfl,_,rfl,_,_,rfl,rfl,.inl ⟨by decide,by decide⟩,_,_,rfl,rfl,_,_,rfl,rfl,.inl ⟨by decide,by decide⟩,_,_,rfl,rfl,?_⟩
   refine⟨small (Nat.zero_le _),fun r hr0=>?_⟩
   refine⟨_,rfl,p,rfl,⟨_,(aA hr0 _).seq hS⟩,mK (K:=K) (a:=p) (xs:=ps.map V.int) (fun i σ H2=>∃ (z:Int) (o t u v:Option V),z=divC (mG c) (ps.take i)/\σ=[some (.int z),some (.ref p),o,t,u,some (.ref r),v] ∧
    H2=upd H r (.lst ((vm (mG c) (ps.take i)).map V.int))) ⟨_,_,_,_,_,(if_pos h).symm,rfl,rfl⟩ ?_ ?_ ?_⟩
   ·rintro i σ H2 hi ⟨z,o,t,u,v,_,_,e⟩
    subst e
    exact (aA hr0 _).seq hS
   ·rintro i x σ H2 hx ⟨z,o,t,u,v,ez,rfl,rfl⟩
    obtain⟨d,hd,rfl⟩:=int_at hx
    obtain⟨h1,h2⟩:=hp d (List.mem_of_getElem? hd)
    have et:ps.take (i+1)=ps.take i++[d]:=by rw[List.take_add_one,hd]; rfl
    refine⟨_,rfl,.inl ⟨rfl,_,SqL.of aj⟩,_,rfl,_,rfl,_,_,rfl,rfl,h1,r,_,_,rfl,rfl,aj,?_,_,rfl,_,rfl,_,_,rfl,rfl,⟨h1,h2⟩,_,_,_,_,_,?_,rfl,?_⟩
    ·rw[List.length_map,iy,List.length_take]
     exact aG (by lia)
    ·rw[et,kh,ez]
    ·rw[CW,et,oV,List.map_append,ez]
     rfl
   ·rintro σ H2 ⟨z,o,t,u,v,_,rfl,rfl⟩
    refine⟨_,rfl,?_⟩
    have q':=q r hr0
    rw[List.length_map,List.take_length]
    exact q'
  ·refine⟨_,rfl,_,rfl,_,_,rfl,rfl,⟨by decide,by decide,by decide⟩,_,_,rfl,rfl,?_⟩
   refine⟨small (Nat.zero_le _),fun r hr0=>?_⟩
   refine⟨_,rfl,p,rfl,⟨_,(aA hr0 _).seq hS⟩,mK (K:=K) (a:=p) (xs:=ps.map V.int) (fun i σ H2=>∃ (z:Int) (o t u v:Option V),z=divC (mG c) (ps.take i)/\σ=[some (.int z),some (.ref p),o,t,u,some (.ref r),v] ∧
    H2=upd H r (.lst ((vm (mG c) (ps.take i)).map V.int))) ⟨_,_,_,_,_,(if_neg h).symm,rfl,rfl⟩ ?_ ?_ ?_⟩
   ·rintro i σ H2 hi ⟨z,o,t,u,v,_,_,e⟩
    subst e
    exact (aA hr0 _).seq hS
   ·rintro i x σ H2 hx ⟨z,o,t,u,v,ez,rfl,rfl⟩
    obtain⟨d,hd,rfl⟩:=int_at hx
    obtain⟨h1,h2⟩:=hp d (List.mem_of_getElem? hd)
    have et:ps.take (i+1)=ps.take i++[d]:=by rw[List.take_add_one,hd]; rfl
    refine⟨_,rfl,.inl ⟨rfl,_,SqL.of aj⟩,_,rfl,_,rfl,_,_,rfl,rfl,h1,r,_,_,rfl,rfl,aj,?_,_,rfl,_,rfl,_,_,rfl,rfl,⟨h1,h2⟩,_,_,_,_,_,?_,rfl,?_⟩
    ·rw[List.length_map,iy,List.length_take]
     exact aG (by lia)
    ·rw[et,kh,ez]
    ·rw[CW,et,oV,List.map_append,ez]
     rfl
   ·rintro σ H2 ⟨z,o,t,u,v,_,rfl,rfl⟩
    refine⟨_,rfl,?_⟩
    have q':=q r hr0
    rw[List.length_map,List.take_length]
    exact q'
noncomputable abbrev fO:Stmt:=top 22
theorem wu:aY ["_law_script","_law_k"] ["_law_script","_law_k"] (aB fO):=⟨rfl,rfl,rfl,by decide+kernel,rfl,by decide+kernel,by decide+kernel⟩
inductive Dl (K:W.Frag) (vs:List V) (H:Hp) (Q:VK):Prop where
 | mk (a:Addr) (ns:List Int) (k:Nat) (z0:vs=[.ref a,.int (k:Int)]) (z1:SqL K H a (ns.map V.int)) (z2:Q (.int (ns.getD k 0)) H):Dl K vs H Q
noncomputable def yE (K:W.Frag):Sp:=fun vs H Q _=>Dl K vs H Q
theorem vL (F:Fun K "_law_cell" "_law_cell" fO f fd) (B:Bt mg) :
  dz P w K mg base CX0 1 f fd ["_law_script","_law_k"] (yE K):=by
 refine F.ok wu (fun vs H Q E h=>?_) (fun cdv A outer s H vs Q E hr h=>?_)
 ·obtain⟨a,ns,k,rfl,_⟩:=h
  rfl
 ·obtain⟨a,ns,k,rfl,hS,q⟩:=h
  refine⟨_,(au (cA (aP Ca (pv 1) (aJ (r:=vh K) bU rfl B.len_ gh (aa (pv 0) ao)) (aR _)) (aC (aL (aQ (r:=ik K) bc (pv 0) (pv 1) (fun _ _=>rfl)))) aX)
 (aC (aL aq))),?_⟩
  refine⟨_,rfl,_,rfl,a,_,rfl,.inl hS,_,_,rfl,rfl,_,rfl,?_⟩
  have el:(((ns.map V.int).length:Nat):Int)=(ns.length:Int):=by rw[List.length_map]
  rw[el]
  refine zQ (fun c=>?_) (fun c=>?_)
  ·have c':(k:Int) < (ns.length:Int):=of_decide_eq_true c
   have hk:k < ns.length:=by lia
   refine⟨_,rfl,_,rfl,a,_,_,_,rfl,rfl,hS,iW hk,?_⟩
   rw[List.getD_eq_getElem?_getD,List.getElem?_eq_getElem hk] at q
   exact q
  ·have c':¬ (k:Int) < (ns.length:Int):=fun z=>c (decide_eq_true z)
   have hk:ns.length<=k:=by lia
   rw[List.getD_eq_getElem?_getD,List.getElem?_eq_none hk] at q
   exact q
noncomputable abbrev c7:Stmt:=top 32
theorem rP:aY ["_law_cell_here","_law_n","_law_most"] ["_law_cell_here","_law_n","_law_most"] (aB c7):=⟨rfl,rfl,rfl,by decide+kernel,rfl,by decide+kernel,by decide+kernel⟩
noncomputable def JC (c:Int) (n:Nat) (m:Int):List Int:=Bc c (List.replicate n (m+1))
theorem jF (c:Int) (n:Nat) (m:Int):(JC c n m).length=n:=by
 unfold JC Bc
 rw[iy,List.length_replicate]
theorem Fw {c:Int} {n:Nat} {m:Int} (hm:0<=m) {i:Nat} (hi:i < n):∃ v,(JC c n m)[i]? = some v/\0<=v/\v<=m:=by
 obtain⟨v,e,b1,b2⟩:=cF (ps:=List.replicate n (m+1)) (c:=mG c) (i:=i) (p:=m+1) (fun q hq=>by rw[List.mem_replicate] at hq; lia) (by rw[List.getElem?_replicate,if_pos hi])
 exact⟨v,e,b1,by lia⟩
inductive vf (vs:List V) (H:Hp) (Q:VK):Prop where
 | mk (c:Int) (n:Nat) (m:Int) (z0:vs=[.int c,.int (n:Int),.int m]) (z1:n<=1000) (z2:0<=m) (z3:m<=1000000) (z4:∀ (r:Addr) (H':Hp),aN H H'->H r=none->H' r=some (.tup ((JC c n m).map V.int))->Q (.ref r) H'):vf  vs H Q
noncomputable def rT:Sp:=fun vs H Q _=>vf  vs H Q
theorem xK (z:Int) (n:Nat):(List.replicate n [V.int z]).flatten=(List.replicate n z).map V.int:=by
 induction n with
 | zero=>rfl
 | succ n ih=>rw[List.replicate_succ,List.flatten_cons,ih,List.replicate_succ]; rfl
theorem rO (F:Fun K "_law_giving" "_law_giving" c7 f fd) (B:Bt mg)
  (D_law_draws:Df P w K mg base "_law_draws" 1 ["_law_cell_here","_law_parts"] (jK K)):dz P w K mg base CX0 2 f fd ["_law_cell_here","_law_n","_law_most"] rT:=by
 refine F.ok rP (fun vs H Q E h=>?_) (fun cdv A outer s H vs Q E hr h=>?_)
 ·obtain⟨c,n,m,rfl,_⟩:=h
  rfl
 ·obtain⟨c,n,m,rfl,hn,h0,h1,q⟩:=h
  refine⟨_,(aC (aL (bI (r:=gC K) bJ rfl B.tuple_ cI (aa (bA D_law_draws hr (aa (pv 0) (aa (aU Kh (bV (aa (aU bR (pv 2) aq) ao)) (pv 1)) ao))) ao)))),?_⟩
  refine⟨_,rfl,_,rfl,_,_,rfl,rfl,small (by show 1<=1000; decide),fun p1 h1'=>?_⟩
  generalize eH1:upd H p1 _=H1
  obtain⟨g1,e1⟩:=aH eH1 h1'
  have et:((n:Int)).toNat=n:=Int.toNat_natCast n
  refine⟨_,rfl,p1,_,_,rfl,rfl,e1,by lia,by lia,?_,fun p2 h2=>?_⟩
  ·rw[et]
   show 1 * n<=sizeLine
   exact small (by lia)
  rw[et,xK]
  generalize eH2:upd H1 p2 _=H2
  obtain⟨g2,e2⟩:=aH eH2 h2
  refine⟨c,p2,List.replicate n (m+1),rfl,SqL.of e2,fun z hz=>?_,?_,fun p3 h3=>?_⟩
  ·rw[List.mem_replicate] at hz
   lia
  ·rw[List.length_replicate]
   exact hn
  generalize eH3:upd H2 p3 _=H3
  obtain⟨g3,e3⟩:=aH eH3 h3
  refine⟨p3,_,rfl,.inl ⟨SqL.of e3,fun p4 h4=>?_⟩⟩
  exact q p4 _ (g1.trans (g2.trans (g3.trans (aA h4 _)))) ((g1.trans (g2.trans g3)).free h4) aj
noncomputable abbrev fJ:Stmt:=top 24
theorem vU:aY ["_law_found","_law_due"] ["_law_found","_law_due"] (aB fJ):=⟨rfl,rfl,rfl,by decide+kernel,rfl,by decide+kernel,by decide+kernel⟩
inductive Cw (n:Nat) (vs:List V) (H:Hp) (Q:VK):Prop where
 | mk (x y:V) (d:Dm) (z0:vs=[x,y]) (z1:Rep H x d) (z2:Rep H y d) (z3:d.dep < n) (z4:∀ H',aN H H'->Q (.bl true) H'):Cw n vs H Q
noncomputable def jx (n:Nat):Sp:=fun vs H Q _=>Cw n vs H Q
theorem Lr {x:V}:decide (x=x)=true:=decide_eq_true rfl
theorem ye (n:Nat):(List.replicate n true).all (fun b=>b)=true:=by
 induction n with
 | zero=>rfl
 | succ n ih=>rw[List.replicate_succ,List.all_cons,ih]; rfl
theorem yD (n:Nat):(List.replicate n true).map V.bl=List.replicate n (V.bl true):=List.map_replicate
theorem iD {n:Nat} (F:Fun K "_law_same" "_law_same" fJ f fd) (B:Bt mg)
  (D_law_same:Df P w K mg base "_law_same" n ["_law_found","_law_due"] (jx n)):dz P w K mg base CX0 (n+1) f fd ["_law_found","_law_due"] (jx (n+1)):=by
 refine F.ok vU (fun vs H Q E h=>?_) (fun cdv A outer s H vs Q E hr h=>?_)
 ·obtain⟨x,y,d,rfl,_⟩:=h
  rfl
 ·obtain⟨x,y,d,rfl,rx,ry,hd,q⟩:=h
  refine⟨_,(au (cA (Hl (Bb (pv 1))) (aC (aL (Ks (Bb (pv 0))))) aX)
 (au (cA (iR (aJ (r:=Ay K) d9 rfl B.isinstance_ bK (aa (pv 1) (aa (o4 B.str_ Hj) ao)))) (aC (aL (tV (aJ (r:=Ay K) d9 rfl B.isinstance_ bK (aa (pv 0) (aa (o4 B.str_ Hj) ao))) (ur (cO eX (pv 0) (pv 1) (aR _)))))) aX)
 (au (cA (iR (aJ (r:=Ay K) d9 rfl B.isinstance_ bK (aa (pv 1) (aa (o4 B.int_ xG) ao)))) (aC (aL (tV (aJ (r:=Ay K) d9 rfl B.isinstance_ bK (aa (pv 0) (aa (o4 B.int_ xG) ao))) (tV (cO eX (aJ (r:=Ay K) d9 rfl B.isinstance_ bK (aa (pv 0) (aa (o4 B.bool_ CT) ao))) (aJ (r:=Ay K) d9 rfl B.isinstance_ bK (aa (pv 1) (aa (o4 B.bool_ CT) ao))) (aR _)) (ur (cO eX (pv 0) (pv 1) (aR _))))))) aX)
 (au (cA (PW.pt (Dj (aP Ho (aJ (r:=Ay K) d9 rfl B.isinstance_ bK (aa (pv 1) (aa (o4 B.list_ oJ) ao))) (aJ (r:=Ay K) d9 rfl B.isinstance_ bK (aa (pv 0) (aa (o4 B.list_ oJ) ao))) (aR _)) (wU (aP Ho (aJ (r:=Ay K) d9 rfl B.isinstance_ bK (aa (pv 1) (aa (o4 B.tuple_ cI) ao))) (aJ (r:=Ay K) d9 rfl B.isinstance_ bK (aa (pv 0) (aa (o4 B.tuple_ cI) ao))) (aR _))))) (aC (aL mC)) aX)
 (aC (aL (tV (cO eX (aJ (r:=vh K) bU rfl B.len_ gh (aa (pv 0) ao)) (aJ (r:=vh K) bU rfl B.len_ gh (aa (pv 1) ao)) (aR _)) (ur (aJ (r:=Eb K) (mY rfl) rfl B.all_ Dh (aa (bH (L:=["_law_k"]) (F:=["_law_found","_law_due"]) (cap:=[0,1]) rfl (bx rfl rfl (by kernel_rfl)) (bQ rfl B.range_ (aa (aJ (r:=vh K) bU rfl B.len_ gh (aa (pv 1) ao)) ao)) (fun _ _ _ _ _=>(aD (i:=0) (aZ (by decide+kernel)) rfl (Or.inl rfl))) (fun _ _ _ _ _=>bC) (fun _ _ _ _ _=>(bA D_law_same hr (aa (aQ (r:=rIx K) G8 (pv 1) (pv 0) (fun _ _=>rfl)) (aa (aQ (r:=rIx K) G8 (pv 2) (pv 0) (fun _ _=>rfl)) ao))))) ao)))))))))),?_⟩
  cases rx with
  | non =>
   cases ry
   refine⟨_,rfl,_,rfl,jJ ?_⟩
   exact⟨_,rfl,q H (aN.refl H)⟩
  | bl b =>
   cases ry
   refine⟨_,rfl,_,rfl,gU ?_⟩
   refine⟨_,rfl,_,_,_,_,rfl,.bl b,wj _,_,rfl,gU ?_⟩
   refine⟨_,rfl,_,_,_,_,rfl,.bl b,m6 _,_,rfl,jJ ?_⟩
   refine⟨_,rfl,_,_,_,_,rfl,.bl b,m6 _,_,rfl,jJ ?_⟩
   refine⟨_,rfl,_,_,_,_,rfl,.bl b,oY _ _,_,rfl,_,_,_,_,rfl,.bl b,oY _ _,rfl,_,rfl,jJ ?_⟩
   refine⟨_,rfl,_,rfl,rfl,?_⟩
   have q':=q H (aN.refl H)
   rw[← Lr (x:=V.bl b)] at q'
   exact q'
  | int i =>
   cases ry
   refine⟨_,rfl,_,rfl,gU ?_⟩
   refine⟨_,rfl,_,_,_,_,rfl,.int i,zK _,_,rfl,gU ?_⟩
   refine⟨_,rfl,_,_,_,_,rfl,.int i,oY _ _,_,rfl,jJ ?_⟩
   refine⟨_,rfl,_,_,_,_,rfl,.int i,oY _ _,_,rfl,jJ ?_⟩
   refine⟨_,rfl,_,_,_,_,rfl,.int i,nq _,_,rfl,_,_,_,_,rfl,.int i,nq _,rfl,_,rfl,jJ ?_⟩
   refine⟨_,rfl,_,rfl,rfl,?_⟩
   have q':=q H (aN.refl H)
   rw[← Lr (x:=V.int i)] at q'
   exact q'
  | str z =>
   cases ry
   refine⟨_,rfl,_,rfl,gU ?_⟩
   refine⟨_,rfl,_,_,_,_,rfl,.str z,oY _ _,_,rfl,jJ ?_⟩
   refine⟨_,rfl,_,_,_,_,rfl,.str z,oY _ _,_,rfl,jJ ?_⟩
   refine⟨_,rfl,_,rfl,rfl,?_⟩
   have q':=q H (aN.refl H)
   rw[← Lr (x:=V.str z)] at q'
   exact q'
  | @tup a xs ds ha la ra =>
   cases ry with
   | @tup b ys _ hb lb rb =>
    have ex:=ra.length
    have ey:=rb.length
    have hdl:yN ds < n:=by
     have hd':yN ds+1 < n+1:=by rw[Dm.dep] at hd; exact hd
     lia
    refine⟨_,rfl,_,rfl,gU ?_⟩
    refine⟨_,rfl,_,_,_,_,rfl,.tup hb,uf _,_,rfl,gU ?_⟩
    refine⟨_,rfl,_,_,_,_,rfl,.tup hb,uI _,_,rfl,gU ?_⟩
    refine⟨_,rfl,_,_,_,_,rfl,.tup hb,jZ _,_,rfl,_,_,_,_,rfl,.tup ha,jZ _,rfl,_,rfl,gU ?_⟩
    refine⟨_,rfl,_,_,_,_,rfl,.tup hb,oY _ _,_,rfl,_,_,_,_,rfl,.tup ha,oY _ _,rfl,_,rfl,gU ?_⟩
    refine⟨_,rfl,a,_,rfl,.inr (SqT.of ha),_,rfl,b,_,rfl,.inr (SqT.of hb),rfl,_,rfl,?_⟩
    have ec:decide (V.int (xs.length:Int)=V.int (ys.length:Int))=true:=decide_eq_true (by rw[ex,ey])
    rw[ec]
    refine jJ ?_
    refine⟨_,rfl,b,_,rfl,.inr (SqT.of hb),_,rfl,by lia,by lia,fun D hD=>dh (lo:=0) (n:=ys.length) (fun i zs σ' H2=>(∃ v,σ'=[v,some (.ref a),some (.ref b)])/\zs=List.replicate i (V.bl true)/\aN H H2/\H2 D=some (.lst zs))
     ⟨⟨_,rfl⟩,rfl,aA hD _,aj⟩ (fun i zs σ' H2 _ h=>h.2.2.2) ?_ ?_⟩
    ·rintro i zs σ' H2 hi ⟨⟨v,rfl⟩,rfl,sm,hDl⟩
     obtain⟨v1,d1,e1,e2,r1⟩:=ra.get (i:=i) (by lia)
     obtain⟨v2,d2,e3,e4,r2⟩:=rb.get (i:=i) hi
     rw[e2] at e4
     cases e4
     have at1:atI xs (0+(i:Int))=some v1:=by rw[Int.zero_add]; exact iz e1
     have at2:atI ys (0+(i:Int))=some v2:=by rw[Int.zero_add]; exact iz e3
     refine gT ?_
     refine⟨_,rfl,_,rfl,.inr (.inl ⟨a,xs,_,v1,rfl,rfl,SqT.of (sm _ _ ha),at1,_,rfl,_,rfl,.inr (.inl ⟨b,ys,_,v2,rfl,rfl,SqT.of (sm _ _ hb),at2,v1,v2,d1,rfl,r1.mono sm,r2.mono sm,?_,fun H3 s3=>⟨s3 _ _ hDl,?_,⟨_,rfl⟩,?_,aK (sm.trans s3) hD _,aj⟩⟩)⟩)⟩
     ·exact Nat.lt_of_le_of_lt (qW e2) hdl
     ·rw[List.length_replicate]
      exact Nat.lt_of_lt_of_le (show i < 100000 by lia) (by decide)
     ·rw[List.replicate_succ']
    ·rintro zs σ' H2 ⟨_,rfl,sm,hDl⟩
     refine⟨D,List.replicate ys.length true,rfl,SqL.of (by rw[hDl,yD]),?_⟩
     rw[ye]
     exact q _ sm
  | @lst a xs ds ha la ra =>
   cases ry with
   | @lst b ys _ hb lb rb =>
    have ex:=ra.length
    have ey:=rb.length
    have hdl:yN ds < n:=by
     have hd':yN ds+1 < n+1:=by rw[Dm.dep] at hd; exact hd
     lia
    refine⟨_,rfl,_,rfl,gU ?_⟩
    refine⟨_,rfl,_,_,_,_,rfl,.lst hb,wO _,_,rfl,gU ?_⟩
    refine⟨_,rfl,_,_,_,_,rfl,.lst hb,vD _,_,rfl,gU ?_⟩
    refine⟨_,rfl,_,_,_,_,rfl,.lst hb,oY _ _,_,rfl,_,_,_,_,rfl,.lst ha,oY _ _,rfl,_,rfl,gU ?_⟩
    refine⟨_,rfl,_,_,_,_,rfl,.lst hb,jP _,_,rfl,_,_,_,_,rfl,.lst ha,jP _,rfl,_,rfl,gU ?_⟩
    refine⟨_,rfl,a,_,rfl,.inl (SqL.of ha),_,rfl,b,_,rfl,.inl (SqL.of hb),rfl,_,rfl,?_⟩
    have ec:decide (V.int (xs.length:Int)=V.int (ys.length:Int))=true:=decide_eq_true (by rw[ex,ey])
    rw[ec]
    refine jJ ?_
    refine⟨_,rfl,b,_,rfl,.inl (SqL.of hb),_,rfl,by lia,by lia,fun D hD=>dh (lo:=0) (n:=ys.length) (fun i zs σ' H2=>(∃ v,σ'=[v,some (.ref a),some (.ref b)])/\zs=List.replicate i (V.bl true)/\aN H H2/\H2 D=some (.lst zs))
     ⟨⟨_,rfl⟩,rfl,aA hD _,aj⟩ (fun i zs σ' H2 _ h=>h.2.2.2) ?_ ?_⟩
    ·rintro i zs σ' H2 hi ⟨⟨v,rfl⟩,rfl,sm,hDl⟩
     obtain⟨v1,d1,e1,e2,r1⟩:=ra.get (i:=i) (by lia)
     obtain⟨v2,d2,e3,e4,r2⟩:=rb.get (i:=i) hi
     rw[e2] at e4
     cases e4
     have at1:atI xs (0+(i:Int))=some v1:=by rw[Int.zero_add]; exact iz e1
     have at2:atI ys (0+(i:Int))=some v2:=by rw[Int.zero_add]; exact iz e3
     refine gT ?_
     refine⟨_,rfl,_,rfl,.inl ( ⟨a,xs,_,v1,rfl,rfl,SqL.of (sm _ _ ha),at1,_,rfl,_,rfl,.inl ( ⟨b,ys,_,v2,rfl,rfl,SqL.of (sm _ _ hb),at2,v1,v2,d1,rfl,r1.mono sm,r2.mono sm,?_,fun H3 s3=>⟨s3 _ _ hDl,?_,⟨_,rfl⟩,?_,aK (sm.trans s3) hD _,aj⟩⟩)⟩)⟩
     ·exact Nat.lt_of_le_of_lt (qW e2) hdl
     ·rw[List.length_replicate]
      exact Nat.lt_of_lt_of_le (show i < 100000 by lia) (by decide)
     ·rw[List.replicate_succ']
    ·rintro zs σ' H2 ⟨_,rfl,sm,hDl⟩
     refine⟨D,List.replicate ys.length true,rfl,SqL.of (by rw[hDl,yD]),?_⟩
     rw[ye]
     exact q _ sm
theorem same_none:dz P w K mg base CX0 0 f fd ["_law_found","_law_due"] (jx 0):=by
 have no:∀ vs H Q E,¬ jx 0 vs H Q E:=fun vs H Q E h=>by
  obtain⟨x,y,d,_,_,_,h1,_⟩:=h
  lia
 exact⟨fun vs H Q E h=>absurd h (no vs H Q E),fun A outer s H args us vs Q E _ _ _ _ h=>absurd h (no vs H Q E)⟩
noncomputable abbrev dW:Stmt:=top 25
theorem gD:aY ["_law_cell_here","_law_k","_law_rest","_law_turn"] ["_law_cell_here","_law_k"] (aB dW):=⟨rfl,rfl,rfl,by decide+kernel,rfl,by decide+kernel,by decide+kernel⟩
noncomputable def Ij (c:Int) (k:Nat):Int:=if decide ((if c < 0 then -c else c) < 10 ^ (18:Int).toNat)=true then (c * 48271+7919 * (k:Int)+13) % 2147483647 else 10 ^ (18:Int).toNat+divC ((if c < 0 then -c else c) - 10 ^ (18:Int).toNat) (List.replicate (k+1) (10 ^ (9:Int).toNat))
inductive xm (vs:List V) (H:Hp) (Q:VK):Prop where
 | mk (c:Int) (k:Nat) (z0:vs=[.int c,.int (k:Int)]) (z1:k<=1000) (z2:Q (.int (Ij c k)) H):xm  vs H Q
noncomputable def n8:Sp:=fun vs H Q _=>xm  vs H Q
theorem uG (F:Fun K "_law_under" "_law_under" dW f fd) (B:Bt mg) :
  dz P w K mg base CX0 1 f fd ["_law_cell_here","_law_k"] n8:=by
 refine F.ok gD (fun vs H Q E h=>?_) (fun cdv A outer s H vs Q E hr h=>?_)
 ·obtain⟨c,k,rfl,_⟩:=h
  rfl
 ·obtain⟨c,k,rfl,hk,q⟩:=h
  refine⟨_,(au (cA (aP Ca (aJ mL rfl B.abs_ xR (aa (pv 0) ao)) (aU pG aq aq) (aR _)) (aC (aL (aU di (aU bR (aU bR (aU gZ (pv 0) aq) (aU gZ aq (pv 1))) aq) aq))) aX)
 (au (bj (i:=2) gD.nd rfl (Or.inl rfl) (aU nA (aJ mL rfl B.abs_ xR (aa (pv 0) ao)) (aU pG aq aq)))
 (au (eE PassesOwn.never rfl (bQ rfl B.range_ (aa (aU bR (pv 1) aq) ao)) (aD (i:=3) gD.nd rfl (Or.inl rfl)) (aC (bj (i:=2) gD.nd rfl (Or.inl rfl) (aU vI (pv 2) (aU pG aq aq)))))
 (aC (aL (aU bR (aU pG aq aq) (pv 2))))))),?_⟩
  refine⟨_,rfl,_,rfl,_,_,rfl,rfl,⟨by decide,by decide,by decide⟩,_,_,rfl,rfl,_,rfl,?_⟩
  refine zQ (fun h=>?_) (fun h=>?_)
  ·refine⟨_,rfl,_,_,rfl,rfl,.inr ⟨by decide,by decide⟩,_,rfl,_,_,rfl,rfl,.inl ⟨by decide,by decide⟩,_,_,rfl,rfl,_,_,rfl,rfl,_,_,rfl,rfl,(by show (0:Int) < 2147483647; decide),?_⟩
   unfold Ij at q
   rw[if_pos h] at q
   exact q
  ·unfold Ij at q
   rw[if_neg h] at q
   refine⟨_,rfl,_,rfl,_,_,rfl,rfl,⟨by decide,by decide,by decide⟩,_,_,rfl,rfl,?_⟩
   have ek:((k:Int)+1).toNat=k+1:=by lia
   refine⟨_,rfl,_,_,rfl,rfl,_,rfl,by lia,by lia,eN (lo:=0) (n:=((k:Int)+1).toNat) (fun i σ H2=>(∃ t:Option V,σ=[some (.int c),some (.int (k:Int)),some (.int (divC ((if c < 0 then -c else c) - 10 ^ (18:Int).toNat) (List.replicate i (10 ^ (9:Int).toNat)))),t])/\H2=H) ⟨⟨_,rfl⟩,rfl⟩ ?_ ?_⟩
   ·rintro i σ H2 hi ⟨⟨t,rfl⟩,rfl⟩
    refine⟨_,rfl,_,_,rfl,rfl,⟨by decide,by decide,by decide⟩,_,_,rfl,rfl,⟨by show (0:Int) < 10 ^ 9; decide,by show (10 ^ 9:Int) < 1073741824; decide⟩,⟨some (.int (0+(i:Int))),?_⟩,rfl⟩
    rw[List.replicate_succ',kh]
    rfl
   ·rintro σ H2 ⟨⟨t,rfl⟩,rfl⟩
    refine⟨_,_,rfl,rfl,⟨by decide,by decide,by decide⟩,_,rfl,_,_,rfl,rfl,?_⟩
    rw[ek]
    exact q
noncomputable abbrev dR:Stmt:=top 26
theorem gK:aY ["_law_number","_law_n","_law_found","_law_one"] ["_law_number","_law_n"] (aB dR):=⟨rfl,rfl,rfl,by decide+kernel,rfl,by decide+kernel,by decide+kernel⟩
inductive yF (vs:List V) (H:Hp) (Q:VK):Prop where
 | mk (m:Int) (n:Nat) (z0:vs=[.int m,.int (n:Int)]) (z1:n<=100) (z2:∀ (c:List Nat) (r:Addr) (H':Hp),(∀ i∈c,i < n)->c.Pairwise (· < ·)->c.length<=n->aN H H'->H r=none->H' r=some (.tup (c.map vN))->Q (.ref r) H'):yF  vs H Q
noncomputable def rM:Sp:=fun vs H Q _=>yF  vs H Q
theorem uM (F:Fun K "_law_crowd" "_law_crowd" dR f fd) (B:Bt mg) :
  dz P w K mg base CX0 1 f fd ["_law_number","_law_n"] rM:=by
 refine F.ok gK (fun vs H Q E h=>?_) (fun cdv A outer s H vs Q E hr h=>?_)
 ·obtain⟨m,n,rfl,_⟩:=h
  rfl
 ·obtain⟨m,n,rfl,hn,q⟩:=h
  refine⟨_,(au (bj (i:=2) gK.nd rfl (Or.inl rfl) (bV ao))
 (au (eE PassesOwn.never rfl (bQ rfl B.range_ (aa (pv 1) ao)) (aD (i:=3) gK.nd rfl (Or.inl rfl)) (au (cA (aP eX (aU di (pv 0) aq) aq (aR _)) (aC (iQ (sZ PySem.F.plainAttrs_list PySem.F.slot_list_append PySem.F.type_list_append cV (pv 2) (aa (pv 3) ao)))) aX)
 (aC (bj (i:=0) gK.nd rfl (Or.inl rfl) (aU vI (pv 0) aq)))))
 (aC (aL (bI (r:=gC K) bJ rfl B.tuple_ cI (aa (pv 2) ao)))))),?_⟩
  refine⟨small (by show 0<=1000; decide),fun r hr0=>?_⟩
  have en:((n:Int)).toNat=n:=Int.toNat_natCast n
  refine⟨_,rfl,_,rfl,by lia,by lia,eN (lo:=0) (n:=((n:Int)).toNat) (fun i σ H2=>∃ (z:Int) (t:Option V) (c:List Nat),σ=[some (.int z),some (.int (n:Int)),some (.ref r),t]/\H2=upd H r (.lst (c.map vN))/\(∀ j∈c,j < i)/\c.Pairwise (· < ·)/\c.length<=i)
   ⟨_,_,[],rfl,rfl,by simp,by simp,Nat.le_refl _⟩ ?_ ?_⟩
  ·rintro i σ H2 hi ⟨z,t,c,rfl,rfl,hc,hp,hl⟩
   refine⟨_,rfl,_,_,rfl,rfl,(by show (0:Int) < 2; decide),rfl,_,rfl,?_⟩
   refine zQ (fun _=>?_) (fun _=>?_)
   ·refine⟨_,rfl,.inl ⟨rfl,_,SqL.of aj⟩,_,rfl,r,_,_,rfl,rfl,aj,?_,_,rfl,_,_,rfl,rfl,⟨by decide,by decide⟩,_,_,c++[i],rfl,?_,?_,?_,?_⟩
    ·rw[List.length_map]
     exact aG (by lia)
    ·rw[CW,List.map_append,Int.zero_add]
     rfl
    ·intro j hj
     rcases List.mem_append.mp hj with h | h
     ·have:=hc j h
      lia
     ·have:=List.mem_singleton.mp h
      lia
    ·rw[List.pairwise_append]
     refine⟨hp,by simp,fun a ha b hb=>?_⟩
     rw[List.mem_singleton.mp hb]
     exact hc a ha
    ·rw[List.length_append]
     show c.length+1<=i+1
     lia
   ·refine⟨_,rfl,_,_,rfl,rfl,⟨by decide,by decide⟩,_,_,c,rfl,rfl,fun j hj=>Nat.lt_succ_of_lt (hc j hj),hp,by lia⟩
  ·rintro σ H2 ⟨z,t,c,rfl,rfl,hc,hp,hl⟩
   refine⟨_,rfl,r,_,rfl,.inl ⟨SqL.of aj,fun l hl'=>?_⟩⟩
   rw[en] at hc hl
   exact q c l _ hc hp hl ((aA hr0 _).trans (aA hl' _)) ((aA hr0 _).free hl') aj
inductive Tm where
 | free | never | gives (i:Nat) (k:Int) | sum (c:List Nat) (k:Int) | crowd (c:List Nat) (k m:Int) | all (ts:List Tm) | any (ts:List Tm)
mutual
noncomputable def Tm.dep:Tm->Nat
 | .all ts=>tdL ts+1
 | .any ts=>tdL ts+1
 | _=>1
noncomputable def tdL:List Tm->Nat
 | []=>0
 | t::r=>max t.dep (tdL r)
end
mutual
noncomputable def hF (g:List Int):Tm->Bool
 | .free=>true
 | .never=>false
 | .gives i k=>decide (k<=g.getD i 0)
 | .sum c k=>decide (k<=(c.map fun i=>g.getD i 0).sum)
 | .crowd c k m=>decide (m<=((c.filter fun i=>decide (k<=g.getD i 0)).length:Int))
 | .all ts=>oW g ts
 | .any ts=>oX g ts
noncomputable def oW (g:List Int):List Tm->Bool
 | []=>true
 | t::r=>hF g t && oW g r
noncomputable def oX (g:List Int):List Tm->Bool
 | []=>false
 | t::r=>hF g t || oX g r
end
mutual
inductive lK (n:Nat) (H:Hp):V->Tm->Prop where
 | free {a:Addr}:H a=some (.tup [.str "free"])->lK n H (.ref a) .free
 | never {a:Addr}:H a=some (.tup [.str "never"])->lK n H (.ref a) .never
 | gives {a:Addr} {i:Nat} {k:Int}:H a=some (.tup [.str "gives",vN i,.int k])->i < n->1<=k->k<=9->lK n H (.ref a) (.gives i k)
 | sum {a b:Addr} {c:List Nat} {k:Int}:H a=some (.tup [.str "sum",.ref b,.int k])->H b=some (.tup (c.map vN))->(∀ i∈c,i < n)->c.Pairwise (· < ·)->c.length<=20->2<=c.length->1<=k->k<=99->lK n H (.ref a) (.sum c k)
 | crowd {a b:Addr} {c:List Nat} {k m:Int}:H a=some (.tup [.str "crowd",.ref b,.int k,.int m])->H b=some (.tup (c.map vN))->(∀ i∈c,i < n)->c.Pairwise (· < ·)->c.length<=20->1<=c.length->1<=k->k<=9->1<=m->m<=12->lK n H (.ref a) (.crowd c k m)
 | all {a b:Addr} {vs:List V} {ts:List Tm}:H a=some (.tup [.str "all",.ref b])->H b=some (.tup vs)->2<=vs.length->vs.length<=6->du n H vs ts->lK n H (.ref a) (.all ts)
 | any {a b:Addr} {vs:List V} {ts:List Tm}:H a=some (.tup [.str "any",.ref b])->H b=some (.tup vs)->2<=vs.length->vs.length<=6->du n H vs ts->lK n H (.ref a) (.any ts)
inductive du (n:Nat) (H:Hp):List V->List Tm->Prop where
 | nil:du n H [] []
 | cons {v:V} {t:Tm} {vs:List V} {ts:List Tm}:lK n H v t->du n H vs ts->du n H (v::vs) (t::ts)
end
mutual
theorem lK.cD {n:Nat} {H H':Hp} (e:∀ a xs,H a=some (HO.tup xs)->H' a=some (HO.tup xs)):∀ {v:V} {t:Tm},lK n H v t->lK n H' v t
 | _,_,.free h=>.free (e _ _ h)
 | _,_,.never h=>.never (e _ _ h)
 | _,_,.gives h a b c=>.gives (e _ _ h) a b c
 | _,_,.sum h h2 a b c d f g=>.sum (e _ _ h) (e _ _ h2) a b c d f g
 | _,_,.crowd h h2 a b c d f g i j=>.crowd (e _ _ h) (e _ _ h2) a b c d f g i j
 | _,_,.all h h2 a b r=>.all (e _ _ h) (e _ _ h2) a b (du.cD e r)
 | _,_,.any h h2 a b r=>.any (e _ _ h) (e _ _ h2) a b (du.cD e r)
theorem du.cD {n:Nat} {H H':Hp} (e:∀ a xs,H a=some (HO.tup xs)->H' a=some (HO.tup xs)):∀ {vs:List V} {ts:List Tm},du n H vs ts->du n H' vs ts
 | _,_,.nil=>.nil
 | _,_,.cons h r=>.cons (lK.cD e h) (du.cD e r)
end
theorem lK.mono {n:Nat} {H H':Hp} (e:aN H H') {v:V} {t:Tm} (h:lK n H v t):lK n H' v t:=h.cD fun a xs q=>e a _ q
theorem du.mono {n:Nat} {H H':Hp} (e:aN H H') {vs:List V} {ts:List Tm} (h:du n H vs ts):du n H' vs ts:=h.cD fun a xs q=>e a _ q
theorem du.length {n:Nat} {H:Hp}:∀ {vs:List V} {ts:List Tm},du n H vs ts->vs.length=ts.length
 | _,_,.nil=>rfl
 | _,_,.cons _ r=>by rw[List.length_cons,List.length_cons,du.length r]
theorem du.get {n:Nat} {H:Hp}:∀ {vs:List V} {ts:List Tm} {i:Nat} {v:V},du n H vs ts->vs[i]? = some v->∃ t,ts[i]? = some t/\lK n H v t
 | _,_,_,_,.nil,h=>by simp at h
 | _,_,0,_,.cons h _,e=>by
  cases (show some _=some _ from e)
  exact⟨_,rfl,h⟩
 | _,_,i+1,_,.cons _ r,e=>by
  obtain⟨t,e1,e2⟩:=du.get (i:=i) r (by simpa using e)
  exact⟨t,by simpa using e1,e2⟩
theorem du.snoc {n:Nat} {H:Hp}:∀ {vs:List V} {ts:List Tm} {v:V} {t:Tm},du n H vs ts->lK n H v t->du n H (vs++[v]) (ts++[t])
 | _,_,_,_,.nil,h=>.cons h .nil
 | _,_,_,_,.cons a r,h=>.cons a (du.snoc r h)
theorem lD:∀ {ts:List Tm} {i:Nat} {t:Tm},ts[i]? = some t->t.dep<=tdL ts
 | [],_,_,h=>by simp at h
 | d::r,0,_,h=>by
  cases (show some d=some _ from h)
  rw[tdL]
  exact Nat.le_max_left _ _
 | d::r,i+1,_,h=>by
  rw[tdL]
  exact Nat.le_trans (lD (i:=i) (ts:=r) (by simpa using h)) (Nat.le_max_right _ _)
theorem xV {m:Nat} {t:Tm} (h:t.dep<=m):∀ {ts:List Tm},tdL ts<=m->tdL (ts++[t])<=m
 | [],_=>by simp only[List.nil_append,tdL]; lia
 | d::r,h2=>by
  rw[tdL] at h2
  rw[List.cons_append,tdL]
  have:=xV (m:=m) h (ts:=r) (by lia)
  lia
theorem Tm.wG:∀ t:Tm,1<=t.dep
 | .free | .never | .gives .. | .sum .. | .crowd ..=>Nat.le_refl 1
 | .all ts=>by rw[Tm.dep]; lia
 | .any ts=>by rw[Tm.dep]; lia
theorem sX:∀ {g:List Int} {ts:List Tm} {i:Nat} {t:Tm},ts[i]? = some t->oW g (ts.take (i+1))=(oW g (ts.take i) && hF g t)
 | _,[],_,_,h=>by simp at h
 | g,d::r,0,t,h=>by
  cases (show some d=some _ from h)
  rw[List.take_succ_cons,oW,List.take_zero,List.take_zero,oW,Bool.and_true,Bool.true_and]
 | g,d::r,i+1,t,h=>by
  rw[List.take_succ_cons,oW,sX (i:=i) (ts:=r) (by simpa using h),List.take_succ_cons,oW,Bool.and_assoc]
theorem tG:∀ {g:List Int} {ts:List Tm} {i:Nat} {t:Tm},ts[i]? = some t->oX g (ts.take (i+1))=(oX g (ts.take i) || hF g t)
 | _,[],_,_,h=>by simp at h
 | g,d::r,0,t,h=>by
  cases (show some d=some _ from h)
  rw[List.take_succ_cons,oX,List.take_zero,List.take_zero,oX,Bool.or_false,Bool.false_or]
 | g,d::r,i+1,t,h=>by
  rw[List.take_succ_cons,oX,tG (i:=i) (ts:=r) (by simpa using h),List.take_succ_cons,oX,Bool.or_assoc]
theorem pJ:∀ {g:List Int} {ts:List Tm} {i:Nat} {t:Tm},ts[i]? = some t->hF g t=false->oW g ts=false
 | _,[],_,_,h,_=>by simp at h
 | g,d::r,0,t,h,e=>by
  cases (show some d=some _ from h)
  rw[oW,e,Bool.false_and]
 | g,d::r,i+1,t,h,e=>by rw[oW,pJ (i:=i) (ts:=r) (by simpa using h) e,Bool.and_false]
theorem uv:∀ {g:List Int} {ts:List Tm} {i:Nat} {t:Tm},ts[i]? = some t->hF g t=true->oX g ts=true
 | _,[],_,_,h,_=>by simp at h
 | g,d::r,0,t,h,e=>by
  cases (show some d=some _ from h)
  rw[oX,e,Bool.true_or]
 | g,d::r,i+1,t,h,e=>by rw[oX,uv (i:=i) (ts:=r) (by simpa using h) e,Bool.or_true]
noncomputable def LeG (g g':List Int):Prop:=∀ i,g.getD i 0<=g'.getD i 0
theorem pW (f f':Nat->Int) (h:∀ i,f i<=f' i):∀ c:List Nat,(c.map f).sum<=(c.map f').sum
 | []=>Int.le_refl _
 | i::c=>by
  have:=pW f f' h c
  have:=h i
  simp only[List.map_cons,List.sum_cons]
  lia
theorem filter_le (f f':Nat->Bool) (h:∀ i,f i=true->f' i=true):∀ c:List Nat,(c.filter f).length<=(c.filter f').length
 | []=>Nat.le_refl _
 | i::c=>by
  have ih:=filter_le f f' h c
  rw[List.filter_cons,List.filter_cons]
  by_cases e:f i=true
  ·rw[if_pos e,if_pos (h i e),List.length_cons,List.length_cons]
   lia
  ·rw[if_neg e]
   split
   ·rw[List.length_cons]
    lia
   ·exact ih
mutual
theorem vG {g g':List Int} (l:LeG g g'):∀ t:Tm,hF g t=true->hF g' t=true
 | .free,_=>by rw[hF]
 | .never,h=>by rw[hF] at h; cases h
 | .gives i k,h=>by
  rw[hF] at h ⊢
  have:=of_decide_eq_true h
  have:=l i
  exact decide_eq_true (by lia)
 | .sum c k,h=>by
  rw[hF] at h ⊢
  have:=of_decide_eq_true h
  have:=pW _ _ l c
  exact decide_eq_true (by lia)
 | .crowd c k m,h=>by
  rw[hF] at h ⊢
  have:=of_decide_eq_true h
  have:=filter_le (fun i=>decide (k<=g.getD i 0)) (fun i=>decide (k<=g'.getD i 0)) (fun i e=>decide_eq_true (Int.le_trans (of_decide_eq_true e) (l i))) c
  exact decide_eq_true (by lia)
 | .all ts,h=>by
  rw[hF] at h ⊢
  exact tX l ts h
 | .any ts,h=>by
  rw[hF] at h ⊢
  exact tK l ts h
theorem tX {g g':List Int} (l:LeG g g'):∀ ts:List Tm,oW g ts=true->oW g' ts=true
 | [],_=>by rw[oW]
 | t::r,h=>by
  rw[oW,Bool.and_eq_true] at h
  rw[oW,vG l t h.1,tX l r h.2]
  rfl
theorem tK {g g':List Int} (l:LeG g g'):∀ ts:List Tm,oX g ts=true->oX g' ts=true
 | [],h=>by rw[oX] at h; cases h
 | t::r,h=>by
  rw[oX,Bool.or_eq_true] at h
  rw[oX]
  rcases h with h | h
  ·rw[vG l t h,Bool.true_or]
  ·rw[tK l r h,Bool.or_true]
end
theorem fW {c A B:Prop} [Decidable c] (hc:¬ c) (h:B):if decide c=true then A else B:=by
 rw[decide_eq_false hc]
 exact gU h
theorem zR {c A B:Prop} [Decidable c] (hc:c) (h:A):if decide c=true then A else B:=by
 rw[decide_eq_true hc]
 exact jJ h
theorem bu {a b:Str} (h:a≠b):¬ V.str a=V.str b:=fun z=>h (by cases z; rfl)
theorem atD {g:List Int} {i:Nat} (h:i < g.length):atI (g.map V.int) (i:Int)=some (.int (g.getD i 0)):=by
 rw[iW h,List.getD_eq_getElem?_getD,List.getElem?_eq_getElem h]
 rfl
noncomputable abbrev fP:Stmt:=top 3
noncomputable abbrev dG:Stmt:=top 4
noncomputable abbrev kj:Stmt:=top 5
theorem nP:aY ["parts","giving","part"] ["parts","giving"] (aB fP):=⟨rfl,rfl,rfl,by decide+kernel,rfl,by decide+kernel,by decide+kernel⟩
theorem lY:aY ["parts","giving","part"] ["parts","giving"] (aB dG):=⟨rfl,rfl,rfl,by decide+kernel,rfl,by decide+kernel,by decide+kernel⟩
theorem yC:aY ["term","giving","kind"] ["term","giving"] (aB kj):=⟨rfl,rfl,rfl,by decide+kernel,rfl,by decide+kernel,by decide+kernel⟩
inductive yl (K:W.Frag) (d:Nat) (vs:List V) (H:Hp) (Q:VK):Prop where
 | mk (v:V) (g:Addr) (n:Nat) (t:Tm) (ns:List Int) (z0:vs=[v,.ref g]) (z1:lK n H v t) (z2:t.dep<=d) (z3:SqT K H g (ns.map V.int)) (z4:n<=ns.length) (z5:∀ H',aN H H'->Q (.bl (hF ns t)) H'):yl K d vs H Q
noncomputable def cC (K:W.Frag) (d:Nat):Sp:=fun vs H Q _=>yl K d vs H Q
inductive Ba (K:W.Frag) (d:Nat) (vs:List V) (H:Hp) (Q:VK):Prop where
 | mk (b g:Addr) (n:Nat) (us:List V) (ts:List Tm) (ns:List Int) (z0:vs=[.ref b,.ref g]) (z1:H b=some (.tup us)) (z2:du n H us ts) (z3:tdL ts<=d) (z4:SqT K H g (ns.map V.int)) (z5:n<=ns.length) (z6:∀ H',aN H H'->Q (.bl (oW ns ts)) H'):Ba K d vs H Q
noncomputable def pB (K:W.Frag) (d:Nat):Sp:=fun vs H Q _=>Ba K d vs H Q
inductive Ci (K:W.Frag) (d:Nat) (vs:List V) (H:Hp) (Q:VK):Prop where
 | mk (b g:Addr) (n:Nat) (us:List V) (ts:List Tm) (ns:List Int) (z0:vs=[.ref b,.ref g]) (z1:H b=some (.tup us)) (z2:du n H us ts) (z3:tdL ts<=d) (z4:SqT K H g (ns.map V.int)) (z5:n<=ns.length) (z6:∀ H',aN H H'->Q (.bl (oX ns ts)) H'):Ci K d vs H Q
noncomputable def pN (K:W.Frag) (d:Nat):Sp:=fun vs H Q _=>Ci K d vs H Q
theorem zG:dz P w K mg base CX0 0 f fd ["term","giving"] (cC K 0):=by
 have no:∀ vs H Q E,¬ cC K 0 vs H Q E:=fun vs H Q E h=>by
  obtain⟨v,g,n,t,ns,_,_,h1,_⟩:=h
  have:=t.wG
  lia
 exact⟨fun vs H Q E h=>absurd h (no vs H Q E),fun A outer s H args us vs Q E _ _ _ _ h=>absurd h (no vs H Q E)⟩
theorem iI {d k:Nat} (F:Fun K "all_hold" "all_hold" fP f fd) (B:Bt mg)
  (D_holds:Df P w K mg base "holds" k ["term","giving"] (cC K d)):dz P w K mg base CX0 (k+1) f fd ["parts","giving"] (pB K d):=by
 refine F.ok nP (fun vs H Q E h=>?_) (fun cdv A outer s H vs Q E hr h=>?_)
 ·obtain⟨b,g,n,us,ts,ns,rfl,_⟩:=h
  rfl
 ·obtain⟨b,g,n,us,ts,ns,rfl,hb,rp,hd,hg,hn,q⟩:=h
  refine⟨_,(au (eE PassesOwn.never rfl (gk (pv 0)) (aD (i:=2) nP.nd rfl (Or.inl rfl)) (aC (cA (tD (iR (bA D_holds hr (aa (pv 2) (aa (pv 1) ao))))) (aC (aL mC)) aX)))
 (aC (aL mC))),?_⟩
  have el:=rp.length
  refine⟨_,rfl,b,rfl,⟨_,SqT.of hb⟩,rE (K:=K) (a:=b) (xs:=us) (fun i σ H2=>(∃ u,σ=[some (.ref b),some (.ref g),u])/\aN H H2/\oW ns (ts.take i)=true) ⟨⟨_,rfl⟩,aN.refl H,by rw[List.take_zero,oW]⟩ (fun i σ H2 _ h=>eQ h.2.1 (SqT.of hb)) ?_ ?_⟩
  ·rintro i x σ H2 hx ⟨⟨u,rfl⟩,sm,ab⟩
   obtain⟨t,ht,rt⟩:=rp.get hx
   refine⟨_,rfl,_,rfl,x,g,n,t,ns,rfl,rt.mono sm,Nat.le_trans (lD ht) hd,eQ sm hg,hn,fun H3 s3=>⟨_,rfl,?_⟩⟩
   cases e:hF ns t with
   | false =>
    have q':=q H3 (sm.trans s3)
    rw[pJ ht e] at q'
    exact jJ q'
   | true=>exact gU ⟨⟨_,rfl⟩,sm.trans s3,by rw[sX ht,ab,e]; rfl⟩
  ·rintro σ H2 ⟨⟨u,rfl⟩,sm,ab⟩
   have q':=q H2 sm
   rw[el,List.take_length] at ab
   rw[ab] at q'
   exact q'
theorem gJ {d k:Nat} (F:Fun K "any_holds" "any_holds" dG f fd) (B:Bt mg)
  (D_holds:Df P w K mg base "holds" k ["term","giving"] (cC K d)):dz P w K mg base CX0 (k+1) f fd ["parts","giving"] (pN K d):=by
 refine F.ok lY (fun vs H Q E h=>?_) (fun cdv A outer s H vs Q E hr h=>?_)
 ·obtain⟨b,g,n,us,ts,ns,rfl,_⟩:=h
  rfl
 ·obtain⟨b,g,n,us,ts,ns,rfl,hb,rp,hd,hg,hn,q⟩:=h
  refine⟨_,(au (eE PassesOwn.never rfl (gk (pv 0)) (aD (i:=2) lY.nd rfl (Or.inl rfl)) (aC (cA (iR (bA D_holds hr (aa (pv 2) (aa (pv 1) ao)))) (aC (aL mC)) aX)))
 (aC (aL mC))),?_⟩
  have el:=rp.length
  refine⟨_,rfl,b,rfl,⟨_,SqT.of hb⟩,rE (K:=K) (a:=b) (xs:=us) (fun i σ H2=>(∃ u,σ=[some (.ref b),some (.ref g),u])/\aN H H2/\oX ns (ts.take i)=false) ⟨⟨_,rfl⟩,aN.refl H,by rw[List.take_zero,oX]⟩ (fun i σ H2 _ h=>eQ h.2.1 (SqT.of hb)) ?_ ?_⟩
  ·rintro i x σ H2 hx ⟨⟨u,rfl⟩,sm,ab⟩
   obtain⟨t,ht,rt⟩:=rp.get hx
   refine⟨_,rfl,_,rfl,x,g,n,t,ns,rfl,rt.mono sm,Nat.le_trans (lD ht) hd,eQ sm hg,hn,fun H3 s3=>⟨_,rfl,?_⟩⟩
   cases e:hF ns t with
   | true =>
    have q':=q H3 (sm.trans s3)
    rw[uv ht e] at q'
    exact jJ q'
   | false=>exact gU ⟨⟨_,rfl⟩,sm.trans s3,by rw[tG ht,ab,e]; rfl⟩
  ·rintro σ H2 ⟨⟨u,rfl⟩,sm,ab⟩
   have q':=q H2 sm
   rw[el,List.take_length] at ab
   rw[ab] at q'
   exact q'
theorem mU {d k:Nat} (F:Fun K "holds" "holds" kj f fd) (B:Bt mg)
  (D_all_hold:Df P w K mg base "all_hold" k ["parts","giving"] (pB K d)) (D_any_holds:Df P w K mg base "any_holds" k ["parts","giving"] (pN K d)):dz P w K mg base CX0 (k+1) f fd ["term","giving"] (cC K (d+1)):=by
 refine F.ok yC (fun vs H Q E h=>?_) (fun cdv A outer s H vs Q E hr h=>?_)
 ·obtain⟨v,g,n,t,ns,rfl,_⟩:=h
  rfl
 ·obtain⟨v,g,n,t,ns,rfl,rt,hd,hg,hn,q⟩:=h
  refine⟨_,(au (bj (i:=2) yC.nd rfl (Or.inl rfl) (aQ (r:=eO K) bh (pv 0) aq (fun _ _=>rfl)))
 (au (cA (aP eX (pv 2) bT (aR _)) (aC (aL (cO o6 (aQ (r:=eO K) bh (pv 1) (aQ (r:=eO K) bh (pv 0) aq (fun _ _=>rfl)) (fun _ _=>rfl)) (aQ (r:=eO K) bh (pv 0) aq (fun _ _=>rfl)) (aR _)))) aX)
 (au (cA (aP eX (pv 2) bT (aR _)) (aC (aL (cO o6 (aJ (r:=Ec K) (nU rfl) rfl B.sum_ Bx (aa (bH (L:=["one"]) (F:=["giving"]) (cap:=[1]) rfl (bx rfl rfl (by kernel_rfl)) (gk (aQ (r:=eO K) bh (pv 0) aq (fun _ _=>rfl))) (fun _ _ _ _ _=>(aD (i:=0) (aZ (by decide+kernel)) rfl (Or.inl rfl))) (fun _ _ _ _ _=>bC) (fun _ _ _ _ _=>(aQ (r:=eO K) bh (pv 1) (pv 0) (fun _ _=>rfl)))) ao)) (aQ (r:=eO K) bh (pv 0) aq (fun _ _=>rfl)) (aR _)))) aX)
 (au (cA (aP eX (pv 2) bT (aR _)) (aC (aL (cO o6 (aJ (r:=vh K) bU rfl B.len_ gh (aa (bH (L:=["one"]) (F:=["giving","term"]) (cap:=[1,0]) rfl (bx rfl rfl (by kernel_rfl)) (gk (aQ (r:=eO K) bh (pv 0) aq (fun _ _=>rfl))) (fun _ _ _ _ _=>(aD (i:=0) (aZ (by decide+kernel)) rfl (Or.inl rfl))) (fun _ _ _ _ _=>(wg (aP o6 (aQ (r:=eO K) bh (pv 1) (pv 0) (fun _ _=>rfl)) (aQ (r:=eO K) bh (pv 2) aq (fun _ _=>rfl)) (aR _)))) (fun _ _ _ _ _=>(pv 0))) ao)) (aQ (r:=eO K) bh (pv 0) aq (fun _ _=>rfl)) (aR _)))) aX)
 (au (cA (aP eX (pv 2) bT (aR _)) (aC (aL (bA D_all_hold hr (aa (aQ (r:=eO K) bh (pv 0) aq (fun _ _=>rfl)) (aa (pv 1) ao))))) aX)
 (au (cA (aP eX (pv 2) bT (aR _)) (aC (aL (bA D_any_holds hr (aa (aQ (r:=eO K) bh (pv 0) aq (fun _ _=>rfl)) (aa (pv 1) ao))))) aX)
 (aC (aL (cO eX (pv 2) bT (aR _)))))))))),?_⟩
  cases rt with
  | @free a ha =>
   refine⟨_,rfl,a,_,_,_,rfl,rfl,SqT.of ha,aF (k:=0) rfl,?_⟩
   refine⟨_,rfl,rfl,_,rfl,fW (bu (by decide)) ?_⟩
   refine⟨_,rfl,rfl,_,rfl,fW (bu (by decide)) ?_⟩
   refine⟨_,rfl,rfl,_,rfl,fW (bu (by decide)) ?_⟩
   refine⟨_,rfl,rfl,_,rfl,fW (bu (by decide)) ?_⟩
   refine⟨_,rfl,rfl,_,rfl,fW (bu (by decide)) ?_⟩
   refine⟨_,rfl,rfl,?_⟩
   have q':=q H (aN.refl H)
   rw[hF] at q'
   rw[decide_eq_true rfl]
   exact q'
  | @never a ha =>
   refine⟨_,rfl,a,_,_,_,rfl,rfl,SqT.of ha,aF (k:=0) rfl,?_⟩
   refine⟨_,rfl,rfl,_,rfl,fW (bu (by decide)) ?_⟩
   refine⟨_,rfl,rfl,_,rfl,fW (bu (by decide)) ?_⟩
   refine⟨_,rfl,rfl,_,rfl,fW (bu (by decide)) ?_⟩
   refine⟨_,rfl,rfl,_,rfl,fW (bu (by decide)) ?_⟩
   refine⟨_,rfl,rfl,_,rfl,fW (bu (by decide)) ?_⟩
   refine⟨_,rfl,rfl,?_⟩
   have q':=q H (aN.refl H)
   rw[hF] at q'
   rw[decide_eq_false (bu (by decide))]
   exact q'
  | @gives a i k ha hi _ _ =>
   refine⟨_,rfl,a,_,_,_,rfl,rfl,SqT.of ha,aF (k:=0) rfl,?_⟩
   refine⟨_,rfl,rfl,_,rfl,zR rfl ?_⟩
   refine⟨_,rfl,_,rfl,a,_,_,_,rfl,rfl,SqT.of ha,aF (k:=1) rfl,g,_,_,_,rfl,rfl,hg,atD (by lia),_,rfl,a,_,_,_,rfl,rfl,SqT.of ha,aF (k:=2) rfl,_,_,rfl,rfl,?_⟩
   have q':=q H (aN.refl H)
   rw[hF] at q'
   exact q'
  | @sum a b c k ha hb hc _ hl _ _ _ =>
   refine⟨_,rfl,a,_,_,_,rfl,rfl,SqT.of ha,aF (k:=0) rfl,?_⟩
   refine⟨_,rfl,rfl,_,rfl,fW (bu (by decide)) ?_⟩
   refine⟨_,rfl,rfl,_,rfl,zR rfl ?_⟩
   refine⟨_,rfl,a,_,_,_,rfl,rfl,SqT.of ha,aF (k:=1) rfl,b,rfl,⟨_,SqT.of hb⟩,fun D hD=>dw (K:=K) (a:=b) (xs:=c.map vN) (fun i zs σ' H2=>(∃ u,σ'=[u,some (.ref g)])/\zs=((c.take i).map fun i=>ns.getD i 0).map V.int/\aN H H2/\H2 D=some (.lst zs))
    ⟨⟨_,rfl⟩,rfl,aA hD _,aj⟩ (fun i zs σ' H2 _ h=>⟨eQ h.2.2.1 (SqT.of hb),h.2.2.2⟩) ?_ ?_⟩
   ·rintro j zs x σ' H2 hx ⟨⟨u,rfl⟩,e1,sm,hDl⟩
    obtain⟨i,hi,rfl⟩:=ux hx
    have hin:i < n:=hc i (List.mem_of_getElem? hi)
    refine gT ?_
    refine⟨_,rfl,_,rfl,g,_,_,_,rfl,rfl,eQ sm hg,atD (by lia),hDl,?_,⟨_,rfl⟩,?_,aK sm hD _,aj⟩
    ·rw[e1,List.length_map,List.length_map,List.length_take]
     exact aG (by lia)
    ·rw[e1,List.take_add_one,hi,List.map_append,List.map_append]
     rfl
   ·rintro zs σ' H2 ⟨⟨u,rfl⟩,e1,sm,hDl⟩
    rw[List.length_map,List.take_length] at e1
    refine⟨D,_,rfl,SqL.of (by rw[hDl,e1]),_,rfl,a,_,_,_,rfl,rfl,SqT.of (sm _ _ ha),aF (k:=2) rfl,_,_,rfl,rfl,?_⟩
    have q':=q H2 sm
    rw[hF] at q'
    exact q'
  | @crowd a b c k m ha hb hc _ hl _ _ _ _ _ =>
   refine⟨_,rfl,a,_,_,_,rfl,rfl,SqT.of ha,aF (k:=0) rfl,?_⟩
   refine⟨_,rfl,rfl,_,rfl,fW (bu (by decide)) ?_⟩
   refine⟨_,rfl,rfl,_,rfl,fW (bu (by decide)) ?_⟩
   refine⟨_,rfl,rfl,_,rfl,zR rfl ?_⟩
   refine⟨_,rfl,a,_,_,_,rfl,rfl,SqT.of ha,aF (k:=1) rfl,b,rfl,⟨_,SqT.of hb⟩,fun D hD=>dw (K:=K) (a:=b) (xs:=c.map vN) (fun i zs σ' H2=>(∃ u,σ'=[u,some (.ref g),some (.ref a)])/\zs=((c.take i).filter fun i=>decide (k<=ns.getD i 0)).map vN/\aN H H2/\H2 D=some (.lst zs))
    ⟨⟨_,rfl⟩,rfl,aA hD _,aj⟩ (fun i zs σ' H2 _ h=>⟨eQ h.2.2.1 (SqT.of hb),h.2.2.2⟩) ?_ ?_⟩
   ·rintro j zs x σ' H2 hx ⟨⟨u,rfl⟩,e1,sm,hDl⟩
    obtain⟨i,hi,rfl⟩:=ux hx
    have hin:i < n:=hc i (List.mem_of_getElem? hi)
    have et:c.take (j+1)=c.take j++[i]:=by rw[List.take_add_one,hi]; rfl
    refine⟨_,rfl,_,rfl,g,_,_,_,rfl,rfl,eQ sm hg,atD (by lia),_,rfl,a,_,_,_,rfl,rfl,SqT.of (sm _ _ ha),aF (k:=2) rfl,_,_,rfl,rfl,_,rfl,?_⟩
    refine zQ (fun cc=>?_) (fun cc=>?_)
    ·refine⟨_,rfl,hDl,?_,⟨_,rfl⟩,?_,aK sm hD _,aj⟩
     ·rw[e1,List.length_map]
      have:=List.length_filter_le (fun i=>decide (k<=ns.getD i 0)) (c.take j)
      rw[List.length_take] at this
      exact aG (by lia)
     ·rw[e1,et,List.filter_append,List.map_append,List.filter_cons,if_pos cc]
      rfl
    ·refine⟨⟨_,rfl⟩,?_,sm,hDl⟩
     rw[e1,et,List.filter_append,List.filter_cons,if_neg cc]
     simp
   ·rintro zs σ' H2 ⟨⟨u,rfl⟩,e1,sm,hDl⟩
    rw[List.length_map,List.take_length] at e1
    refine⟨D,_,rfl,.inl (SqL.of (by rw[hDl,e1])),_,rfl,a,_,_,_,rfl,rfl,SqT.of (sm _ _ ha),aF (k:=3) rfl,_,_,rfl,rfl,?_⟩
    have q':=q H2 sm
    rw[hF] at q'
    rw[List.length_map]
    exact q'
  | @all a b us ts ha hb _ _ rl =>
   refine⟨_,rfl,a,_,_,_,rfl,rfl,SqT.of ha,aF (k:=0) rfl,?_⟩
   refine⟨_,rfl,rfl,_,rfl,fW (bu (by decide)) ?_⟩
   refine⟨_,rfl,rfl,_,rfl,fW (bu (by decide)) ?_⟩
   refine⟨_,rfl,rfl,_,rfl,fW (bu (by decide)) ?_⟩
   refine⟨_,rfl,rfl,_,rfl,zR rfl ?_⟩
   refine⟨_,rfl,a,_,_,_,rfl,rfl,SqT.of ha,aF (k:=1) rfl,_,rfl,b,g,n,us,ts,ns,rfl,hb,rl,?_,hg,hn,fun H' s'=>?_⟩
   ·rw[Tm.dep] at hd
    lia
   ·have q':=q H' s'
    rw[hF] at q'
    exact q'
  | @any a b us ts ha hb _ _ rl =>
   refine⟨_,rfl,a,_,_,_,rfl,rfl,SqT.of ha,aF (k:=0) rfl,?_⟩
   refine⟨_,rfl,rfl,_,rfl,fW (bu (by decide)) ?_⟩
   refine⟨_,rfl,rfl,_,rfl,fW (bu (by decide)) ?_⟩
   refine⟨_,rfl,rfl,_,rfl,fW (bu (by decide)) ?_⟩
   refine⟨_,rfl,rfl,_,rfl,fW (bu (by decide)) ?_⟩
   refine⟨_,rfl,rfl,_,rfl,zR rfl ?_⟩
   refine⟨_,rfl,a,_,_,_,rfl,rfl,SqT.of ha,aF (k:=1) rfl,_,rfl,b,g,n,us,ts,ns,rfl,hb,rl,?_,hg,hn,fun H' s'=>?_⟩
   ·rw[Tm.dep] at hd
    lia
   ·have q':=q H' s'
    rw[hF] at q'
    exact q'
theorem jG {t u:TS} {D:Ends} {σ:St} {H:Hp} (P:St->Hp->Prop) (h2:∀ σ H,P σ H->u D σ H) (h1:∀ N:St->Hp->Prop,(∀ σ H,P σ H->N σ H)->t { D with nx:=N } σ H):DK t u D σ H:=h1 (u D) h2
theorem qT {A B:TT} {t u:TS} {D:Ends} {σ:St} {H:Hp} (b1 b2:Bool) (R:Hp->Prop) (hA:∀ Q:Bool->Hp->Prop,(∀ H1,R H1->Q b1 H1)->A σ H Q) (hB:∀ H1,R H1->∀ Q:Bool->Hp->Prop,Q b2 H1->B σ H1 Q)
  (ht:∀ H1,R H1->b1=true->b2=true->t D σ H1) (hu:∀ H1,R H1->(b1=true->b2=false)->u D σ H1):Fv (Mg A B) t u D σ H:=by
 refine hA _ fun H1 r1=>?_
 show if b1=true then B σ H1 (fun b H2=>if b=true then t D σ H2 else u D σ H2) else (if false=true then t D σ H1 else u D σ H1)
 cases b1 with
 | false=>exact gU (gU (hu H1 r1 fun z=>by cases z))
 | true =>
  refine jJ (hB H1 r1 _ ?_)
  cases b2 with
  | false=>exact gU (hu H1 r1 fun _=>rfl)
  | true=>exact jJ (ht H1 r1 rfl rfl)
theorem gN {i:Nat} {x:V} {σ:St} {H:Hp} {P:St->Hp->Prop} (h:P (σ.set i (some x)) H):CV i x σ H P:=h
noncomputable abbrev fD:Stmt:=top 27
theorem fU:aY ["_law_cell_here","_law_n","_law_deep","_law_most","_law_drawn","_law_parts","_law_crowd_here"] ["_law_cell_here","_law_n","_law_deep","_law_most"] (aB fD):=⟨rfl,rfl,rfl,by decide+kernel,rfl,by decide+kernel,by decide+kernel⟩
inductive Bq (d:Nat) (vs:List V) (H:Hp) (Q:VK):Prop where
 | mk (c:Int) (n:Nat) (deep most:Int) (z0:vs=[.int c,.int (n:Int),.int deep,.int most]) (z1:1<=n) (z2:n<=12) (z3:1<=deep) (z4:deep<=(d:Int)) (z5:1<=most) (z6:most<=9) (z7:∀ (v:V) (t:Tm) (H':Hp),aN H H'->lK n H' v t->(t.dep:Int)<=deep->Q v H'):Bq d vs H Q
noncomputable def jQ (d:Nat):Sp:=fun vs H Q _=>Bq d vs H Q
theorem term_none:dz P w K mg base CX0 1 f fd ["_law_cell_here","_law_n","_law_deep","_law_most"] (jQ 0):=by
 have no:∀ vs H Q E,¬ jQ 0 vs H Q E:=fun vs H Q E h=>by
  obtain⟨c,n,deep,most,_,_,_,h1,h2,_⟩:=h
  lia
 exact⟨fun vs H Q E h=>absurd h (no vs H Q E),fun A outer s H args us vs Q E _ _ _ _ h=>absurd h (no vs H Q E)⟩
theorem jM {d:Nat} (F:Fun K "_law_term" "_law_term" fD f fd) (B:Bt mg)
  (D_law_draws:Df P w K mg base "_law_draws" 1 ["_law_cell_here","_law_parts"] (jK K)) (D_law_under:Df P w K mg base "_law_under" 1 ["_law_cell_here","_law_k"] n8) (D_law_crowd:Df P w K mg base "_law_crowd" 1 ["_law_number","_law_n"] rM)
  (D_law_term:Df P w K mg base "_law_term" (d+1) ["_law_cell_here","_law_n","_law_deep","_law_most"] (jQ d)):dz P w K mg base CX0 (d+2) f fd ["_law_cell_here","_law_n","_law_deep","_law_most"] (jQ (d+1)):=by
 refine F.ok fU (fun vs H Q E h=>?_) (fun cdv A outer s H vs Q E hr h=>?_)
 ·obtain⟨c,n,deep,most,rfl,_⟩:=h
  rfl
 ·obtain⟨c,n,deep,most,rfl,n1,n12,de1,ded,m1,m9,q⟩:=h
  refine⟨_,(au (bj (i:=4) fU.nd rfl (Or.inl rfl) (bA D_law_draws hr (aa (pv 0) (aa (bV (aa aq (aa aq (aa aq (aa aq (aa aq ao)))))) ao))))
 (au (cA (PW.pt (pK (aP Ca (aQ (r:=ik K) bc (pv 4) aq (fun _ _=>rfl)) aq (aR _)) (kW (aP zr (pv 2) aq (aR _))))) (au (oE (L:=["_law_k"]) (F:=["_law_n","_law_most","_law_cell_here","_law_deep"]) (cap:=[1,3,0,2]) (j:=5) fU.nd rfl (Or.inl rfl) rfl (bx rfl rfl (by kernel_rfl)) (bQ rfl B.range_ (aa (aU bR aq (aU di (aQ (r:=ik K) bc (pv 4) aq (fun _ _=>rfl)) aq)) ao)) (fun _ _ _ _ _=>(aD (i:=0) (aZ (by decide+kernel)) rfl (Or.inl rfl))) (fun _ _ _ _ _=>bC) (fun _ _ _ _ _=>(bA D_law_term hr (aa (bA D_law_under hr (aa (pv 3) (aa (pv 0) ao))) (aa (pv 1) (aa (aU nA (pv 4) aq) (aa (pv 2) ao)))))))
 (aC (aL (bM (aa (aQ (r:=ik K) bc (bV (aa bT (aa bT ao))) (aQ (r:=ik K) bc (pv 4) aq (fun _ _=>rfl)) (fun _ _=>rfl)) (aa (bI (r:=gC K) bJ rfl B.tuple_ cI (aa (pv 5) ao)) ao)))))) aX)
 (au (bj (i:=6) fU.nd rfl (Or.inl rfl) (bA D_law_crowd hr (aa (aQ (r:=ik K) bc (pv 4) aq (fun _ _=>rfl)) (aa (pv 1) ao))))
 (au (cA (aP (r:=zp K) (nD hr.iV) (pv 6) (bM ao) (aR _)) (aC (bj (i:=6) fU.nd rfl (Or.inl rfl) (bM (aa (aU di (aQ (r:=ik K) bc (pv 4) aq (fun _ _=>rfl)) (pv 1)) ao)))) aX)
 (au (cA (PW.pt (pK (aP (r:=rIn K false) iZ (aQ (r:=ik K) bc (pv 4) aq (fun _ _=>rfl)) (bM (aa aq (aa aq ao))) rfl) (kW (aP zr (aJ (r:=vh K) bU rfl B.len_ gh (aa (pv 6) ao)) aq (aR _))))) (aC (aL (bM (aa bT (aa (pv 6) (aa (aU bR aq (aU di (aU bR (aU gZ aq (aQ (r:=ik K) bc (pv 4) aq (fun _ _=>rfl))) (aQ (r:=ik K) bc (pv 4) aq (fun _ _=>rfl))) (aJ (CZ rfl) rfl B.min_ KH (aa aq (aa (aU gZ (pv 3) (aJ (r:=vh K) bU rfl B.len_ gh (aa (pv 6) ao))) ao))))) ao)))))) aX)
 (au (cA (aP eX (aQ (r:=ik K) bc (pv 4) aq (fun _ _=>rfl)) aq (aR _)) (aC (aL (bM (aa bT (aa (pv 6) (aa (aU bR aq (aU di (aQ (r:=ik K) bc (pv 4) aq (fun _ _=>rfl)) (pv 3))) (aa (aU bR aq (aU di (aQ (r:=ik K) bc (pv 4) aq (fun _ _=>rfl)) (aJ (r:=vh K) bU rfl B.len_ gh (aa (pv 6) ao)))) ao))))))) aX)
 (au (cA (aP eX (aQ (r:=ik K) bc (pv 4) aq (fun _ _=>rfl)) aq (aR _)) (aC (aL (bM (aa (aQ (r:=ik K) bc (bV (aa bT (aa bT (aa bT ao)))) (aU di (aQ (r:=ik K) bc (pv 4) aq (fun _ _=>rfl)) aq) (fun _ _=>rfl)) ao)))) aX)
 (aC (aL (bM (aa bT (aa (aU di (aQ (r:=ik K) bc (pv 4) aq (fun _ _=>rfl)) (pv 1)) (aa (aU bR aq (aU di (aQ (r:=ik K) bc (pv 4) aq (fun _ _=>rfl)) (pv 3))) ao))))))))))))),?_⟩
  refine⟨_,rfl,small (by show 5<=1000; decide),fun p1 h1=>?_⟩
  generalize eH1:upd H p1 _=H1
  obtain⟨g1,e1⟩:=aH eH1 h1
  refine⟨c,p1,[9,12,9,4096,12],rfl,SqL.of e1,by decide,by decide,fun p2 h2=>?_⟩
  generalize eH2:upd H1 p2 _=H2
  obtain⟨g2,e2⟩:=aH eH2 h2
  have hps:∀ q∈([9,12,9,4096,12]:List Int),0 < q:=by decide
  obtain⟨d0,k0,b0⟩:=cF (c:=mG c) (i:=0) hps rfl
  obtain⟨d1,k1,b1⟩:=cF (c:=mG c) (i:=1) hps rfl
  obtain⟨d2,k2,b2⟩:=cF (c:=mG c) (i:=2) hps rfl
  obtain⟨d3,k3,b3⟩:=cF (c:=mG c) (i:=3) hps rfl
  obtain⟨d4,k4,b4⟩:=cF (c:=mG c) (i:=4) hps rfl
  have a0:=aF (eU k0)
  have a1:=aF (eU k1)
  have a2:=aF (eU k2)
  have a3:=aF (eU k3)
  have a4:=aF (eU k4)
  change _=some (HO.lst ((vm (mG c) [9,12,9,4096,12]).map V.int)) at e2
  generalize vm (mG c) [9,12,9,4096,12]=ds at *
  have gH:aN H H2:=g1.trans g2
  refine gN ?_
  dsimp only
  show DK (Fv _ _ _) _ _ _ _
  refine jG (fun σ H3=>σ=[some (.int c),some (.int (n:Int)),some (.int deep),some (.int most),some (.ref p2),none,none]/\H2=H3) ?rest (fun _ R=>?_)
  case rest =>
   rintro σ H3 ⟨rfl,rfl⟩
   refine⟨_,rfl,p2,_,_,_,rfl,rfl,SqL.of e2,a3,_,rfl,d3,n,rfl,by lia,fun cs r3 H3 hc hp hl s3 f3 e3=>?_⟩
   refine gN ?_
   dsimp only
   show DK (Fv _ _ _) _ _ _ _
   refine jG (fun σ H5=>∃ (rc:Addr) (cs:List Nat),σ=[some (.int c),some (.int (n:Int)),some (.int deep),some (.int most),some (.ref p2),none,some (.ref rc)]/\aN H2 H5/\H5 rc=some (.tup (cs.map vN))/\(∀ i∈cs,i < n)/\cs.Pairwise (· < ·)/\cs.length<=n/\1<=cs.length) ?rest2 (fun _ R=>?_)
   case rest2 =>
    rintro σ H5 ⟨rc,cs,rfl,s5,e5,hc,hp,hl,h1l⟩
    have e2':=s5 _ _ e2
    have lenr:((cs.map vN).length:Int)=(cs.length:Int):=by rw[List.length_map]
    show DK (Fv _ _ _) _ _ _ _
    refine jG (fun σ H6=>σ=[some (.int c),some (.int (n:Int)),some (.int deep),some (.int most),some (.ref p2),none,some (.ref rc)]/\aN H5 H6) ?rest3 (fun _ R=>?_)
    case rest3 =>
     rintro σ H6 ⟨rfl,s6⟩
     have e2':=s6 _ _ e2'
     have e5:=s6 _ _ e5
     have s56:aN H H6:=gH.trans (s5.trans s6)
     refine⟨_,rfl,p2,_,_,_,rfl,rfl,SqL.of e2',a0,rfl,_,rfl,?_⟩
     refine zQ (fun _=>?_) (fun _=>?_)
     ·refine⟨_,rfl,_,rfl,p2,_,_,_,rfl,rfl,SqL.of e2',a2,_,rfl,_,_,rfl,rfl,(by show (0:Int) < most; lia),_,_,rfl,rfl,?_⟩
      refine⟨_,rfl,p2,_,_,_,rfl,rfl,SqL.of e2',a4,_,rfl,rc,_,rfl,.inr (SqT.of e5),_,_,rfl,rfl,?_,_,_,rfl,rfl,small (by show 4<=1000; decide),fun p7 h7=>?_⟩
      ·rw[lenr]
       lia
      ·have u1:0<=d2 % most:=Int.emod_nonneg _ (by lia)
       have u2:d2 % most < most:=Int.emod_lt_of_pos _ (by lia)
       have u3:0<=d4 % ((cs.map vN).length:Int):=Int.emod_nonneg _ (by rw[lenr]; lia)
       have u4:d4 % ((cs.map vN).length:Int) < (cs.length:Int):=by
        have:=Int.emod_lt_of_pos d4 (b:=((cs.map vN).length:Int)) (by rw[lenr]; lia)
        rw[lenr] at this ⊢
        exact this
       refine q (.ref p7) (.crowd cs (1+d2 % most) (1+d4 % ((cs.map vN).length:Int))) _ (s56.trans (aA h7 _)) (.crowd aj (aA h7 _ _ _ e5) hc hp (by lia) h1l (by lia) (by lia) (by lia) (by lia)) ?_
       exact de1
     ·refine⟨_,rfl,p2,_,_,_,rfl,rfl,SqL.of e2',a0,rfl,_,rfl,?_⟩
      refine zQ (fun _=>?_) (fun _=>?_)
      ·refine⟨small (by show 3<=1000; decide),fun p7 h7=>?_⟩
       generalize eH7:upd H6 p7 _=H7
       obtain⟨g7,e7⟩:=aH eH7 h7
       have u1:0<=d1 % 3:=Int.emod_nonneg _ (by lia)
       have u2:d1 % 3 < 3:=Int.emod_lt_of_pos _ (by lia)
       have fin:∀ p8 (x:Str),H7 p8=none->(x = "free"∨x = "never")->Q (.ref p8) (upd H7 p8 (.tup [.str x])):=fun p8 x h8 hx=>by
        rcases hx with rfl | rfl
        ·refine q (.ref p8) .free _ (s56.trans (g7.trans (aA h8 _))) (.free aj) ?_
         exact de1
        ·refine q (.ref p8) .never _ (s56.trans (g7.trans (aA h8 _))) (.never aj) ?_
         exact de1
       refine⟨_,rfl,p2,_,_,_,rfl,rfl,SqL.of (g7 _ _ e2'),a1,_,_,rfl,rfl,(by show (0:Int) < 3; decide),?_⟩
       rcases (show d1 % 3=0∨d1 % 3=1∨d1 % 3=2 by lia) with z | z | z
       ·exact⟨p7,_,_,_,rfl,rfl,SqL.of e7,by rw[z]; rfl,small (by show 1<=1000; decide),fun p8 h8=>fin p8 _ h8 (.inl rfl)⟩
       ·exact⟨p7,_,_,_,rfl,rfl,SqL.of e7,by rw[z]; rfl,small (by show 1<=1000; decide),fun p8 h8=>fin p8 _ h8 (.inl rfl)⟩
       ·exact⟨p7,_,_,_,rfl,rfl,SqL.of e7,by rw[z]; rfl,small (by show 1<=1000; decide),fun p8 h8=>fin p8 _ h8 (.inr rfl)⟩
      ·have u1:0<=d1 % (n:Int):=Int.emod_nonneg _ (by lia)
       have u2:d1 % (n:Int) < (n:Int):=Int.emod_lt_of_pos _ (by lia)
       have u3:0<=d2 % most:=Int.emod_nonneg _ (by lia)
       have u4:d2 % most < most:=Int.emod_lt_of_pos _ (by lia)
       refine⟨_,rfl,p2,_,_,_,rfl,rfl,SqL.of e2',a1,_,rfl,_,_,rfl,rfl,(by show (0:Int) < (n:Int); lia),?_⟩
       refine⟨_,rfl,p2,_,_,_,rfl,rfl,SqL.of e2',a2,_,rfl,_,_,rfl,rfl,(by show (0:Int) < most; lia),_,_,rfl,rfl,small (by show 3<=1000; decide),fun p7 h7=>?_⟩
       obtain⟨i,hi⟩:=Int.eq_ofNat_of_zero_le u1
       rw[hi] at u2
       refine q (.ref p7) (.gives i (1+d2 % most)) _ (s56.trans (aA h7 _)) (.gives (aj.trans (by show some (HO.tup [V.str "gives",V.int (d1 % (n:Int)),V.int (1+d2 % most)])=some (HO.tup [V.str "gives",V.int (i:Int),V.int (1+d2 % most)]); rw[hi])) (by lia) (by lia) (by lia)) ?_
       exact de1
    ·refine qT (inV (.int d0) [.int 3,.int 4]) (decide (1 < (cs.length:Int))) (fun H6=>aN H5 H6) (fun Q' hQ=>?_) (fun H6 s6 Q' hQ=>?_) (fun H6 s6 _ hl2=>?_) (fun H6 s6 _=>R _ _ ⟨rfl,s6⟩)
     ·refine⟨_,rfl,p2,_,_,_,rfl,rfl,SqL.of e2',a0,small (by show 2<=1000; decide),fun p6 h6=>⟨p6,_,rfl,.inr (SqT.of aj),rfl,rfl,_,rfl,hQ _ (aA h6 _)⟩⟩
     ·refine⟨_,rfl,rc,_,rfl,.inr (SqT.of (s6 _ _ e5)),_,_,rfl,rfl,_,rfl,?_⟩
      rw[lenr]
      exact hQ
     ·have e2':=s6 _ _ e2'
      have e5:=s6 _ _ e5
      have s56:aN H H6:=gH.trans (s5.trans s6)
      have hl3:(1:Int) < (cs.length:Int):=of_decide_eq_true hl2
      refine⟨_,rfl,_,rfl,p2,_,_,_,rfl,rfl,SqL.of e2',a1,_,_,rfl,rfl,.inl ⟨by decide,by decide⟩,_,rfl,p2,_,_,_,rfl,rfl,SqL.of e2',a2,_,_,rfl,rfl,?_⟩
      refine⟨_,rfl,_,rfl,rc,_,rfl,.inr (SqT.of e5),_,_,rfl,rfl,.inl ⟨by lia,by lia⟩,_,_,rfl,?_⟩
      have pz:0 < most * ((cs.map vN).length:Int):=by
       rw[lenr]
       exact Int.mul_pos (by lia) (by lia)
      generalize hz:(if most * ((cs.map vN).length:Int) < 99 then most * ((cs.map vN).length:Int) else 99)=z
      have z1:0 < z:=by
       rw[← hz]
       split <;> lia
      have z2:z<=99:=by
       rw[← hz]
       split <;> lia
      have u3:0<=(9 * d1+d2) % z:=Int.emod_nonneg _ (by lia)
      have u4:(9 * d1+d2) % z < z:=Int.emod_lt_of_pos _ z1
      refine⟨_,_,rfl,rfl,z1,_,_,rfl,rfl,small (by show 3<=1000; decide),fun p7 h7=>?_⟩
      refine q (.ref p7) (.sum cs (1+(9 * d1+d2) % z)) _ (s56.trans (aA h7 _)) (.sum aj (aA h7 _ _ _ e5) hc hp (by lia) (by lia) (by lia) (by lia)) ?_
      exact de1
   ·refine⟨_,rfl,small (by show 0<=1000; decide),fun p4 h4=>?_⟩
    have e3':SqT K H3 r3 ((cs.map fun i:Nat=>(i:Int)).map V.int):=by rw[← iB]; exact SqT.of e3
    have g4:aN H3 (upd H3 p4 (.tup [])):=aA h4 _
    refine⟨r3,p4,cs.map (fun i:Nat=>(i:Int)),[],rfl,rfl,eQ g4 e3',SqT.of aj,_,rfl,?_⟩
    refine zQ (fun ce=>?_) (fun ce=>?_)
    ·have u1:0<=d4 % (n:Int):=Int.emod_nonneg _ (by lia)
     have u2:d4 % (n:Int) < (n:Int):=Int.emod_lt_of_pos _ (by lia)
     refine⟨_,rfl,p2,_,_,_,rfl,rfl,SqL.of (g4 _ _ (s3 _ _ e2)),a4,_,rfl,_,_,rfl,rfl,(by show (0:Int) < (n:Int); lia),small (by show 1<=1000; decide),fun p5 h5=>?_⟩
     obtain⟨i,hi⟩:=Int.eq_ofNat_of_zero_le u1
     rw[hi] at u2
     refine R _ _ ⟨p5,[i],rfl,s3.trans (g4.trans (aA h5 _)),aj.trans (by show some (HO.tup [V.int (d4 % (n:Int))])=some (HO.tup [V.int (i:Int)]); rw[hi]),?_,by simp,n1,Nat.le_refl _⟩
     intro j hj
     rw[List.mem_singleton] at hj
     lia
    ·refine R _ _ ⟨r3,cs,rfl,s3.trans g4,g4 _ _ e3,hc,hp,hl,?_⟩
     cases cs with
     | nil=>exact absurd (decide_eq_true rfl) ce
     | cons x xs=>rw[List.length_cons]; lia
  ·refine qT (decide (d0 < 2)) (decide (1 < deep)) (fun H3=>H2=H3) (fun Q' hQ=>?_) (fun H3 e Q' hQ=>?_) (fun H3 e c1 c2=>?_) (fun H3 e _=>R _ _ ⟨rfl,e⟩)
   ·exact⟨_,rfl,p2,_,_,_,rfl,rfl,SqL.of e2,a0,_,_,rfl,rfl,_,rfl,hQ _ rfl⟩
   ·exact⟨_,rfl,_,_,rfl,rfl,_,rfl,hQ⟩
   ·subst e
    have c1:d0 < 2:=of_decide_eq_true c1
    have c2:1 < deep:=of_decide_eq_true c2
    have u1:0<=d4 % 5:=Int.emod_nonneg _ (by lia)
    have u2:d4 % 5 < 5:=Int.emod_lt_of_pos _ (by lia)
    refine⟨_,rfl,p2,_,_,_,rfl,rfl,SqL.of e2,a4,_,_,rfl,rfl,(by show (0:Int) < 5; decide),_,_,rfl,rfl,_,rfl,by lia,by lia,fun D hD=>dh (lo:=0) (n:=(2+d4 % 5).toNat)
     (fun i zs σ' H5=>(∃ u,σ'=[u,some (.int (n:Int)),some (.int most),some (.int c),some (.int deep)])/\aN H2 H5/\H5 D=some (.lst zs)/\zs.length=i/\∃ ts,du n H5 zs ts/\(tdL ts:Int)<=deep - 1)
     ⟨⟨_,rfl⟩,aA hD _,aj,rfl,[],.nil,by rw[tdL]; lia⟩ (fun i zs σ' H5 _ h=>h.2.2.1) ?_ ?_⟩
    ·rintro i zs σ' H5 hi ⟨⟨u,rfl⟩,s5,eD,lz,ts,rt,td⟩
     refine gT ?_
     refine⟨_,rfl,_,rfl,c,i,by rw[Int.zero_add]; rfl,by lia,_,rfl,_,rfl,_,_,rfl,rfl,_,rfl,Ij c i,n,deep - 1,most,rfl,n1,n12,by lia,by lia,m1,m9,fun v t H6 s6 r6 d6=>?_⟩
     refine⟨s6 _ _ eD,?_,⟨_,rfl⟩,aK (s5.trans s6) hD _,aj,?_,ts++[t],?_,?_⟩
     ·exact aG (by lia)
     ·rw[List.length_append,lz]
      rfl
     ·have s7:=dB (zs':=zs++[v]) (s6 _ _ eD)
      exact ((rt.mono s6).cD s7).snoc (r6.cD s7)
     ·have:=xV (m:=(deep - 1).toNat) (t:=t) (by lia) (ts:=ts) (by lia)
      lia
    ·rintro zs σ' H5 ⟨⟨u,rfl⟩,s5,eD,lz,ts,rt,td⟩
     refine⟨small (by show 2<=1000; decide),fun p6 h6=>?_⟩
     generalize eH6:upd H5 p6 _=H6
     obtain⟨g6,e6⟩:=aH eH6 h6
     refine⟨_,rfl,p2,_,_,_,rfl,rfl,SqL.of (g6 _ _ (s5 _ _ e2)),a0,?_⟩
     rcases (show d0=0∨d0=1 by lia) with z | z
     ·subst z
      refine⟨p6,_,_,_,rfl,rfl,SqL.of e6,rfl,_,rfl,D,_,rfl,.inl ⟨SqL.of (g6 _ _ eD),fun p7 h7=>?_⟩⟩
      generalize eH7:upd H6 p7 _=H7
      obtain⟨g7,e7⟩:=aH eH7 h7
      refine⟨small (by show 2<=1000; decide),fun p8 h8=>?_⟩
      refine q (.ref p8) (.all ts) _ (gH.trans (s5.trans (g6.trans (g7.trans (aA h8 _))))) (.all aj (aA h8 _ _ _ e7) (by lia) (by lia) (rt.mono (g6.trans (g7.trans (aA h8 _))))) ?_
      rw[Tm.dep]
      lia
     ·subst z
      refine⟨p6,_,_,_,rfl,rfl,SqL.of e6,rfl,_,rfl,D,_,rfl,.inl ⟨SqL.of (g6 _ _ eD),fun p7 h7=>?_⟩⟩
      generalize eH7:upd H6 p7 _=H7
      obtain⟨g7,e7⟩:=aH eH7 h7
      refine⟨small (by show 2<=1000; decide),fun p8 h8=>?_⟩
      refine q (.ref p8) (.any ts) _ (gH.trans (s5.trans (g6.trans (g7.trans (aA h8 _))))) (.any aj (aA h8 _ _ _ e7) (by lia) (by lia) (rt.mono (g6.trans (g7.trans (aA h8 _))))) ?_
      rw[Tm.dep]
      lia
noncomputable abbrev dZ:Stmt:=top 36
theorem uN:aY ["_law_term_here","_law_giving_here"] ["_law_term_here","_law_giving_here"] (aB dZ):=⟨rfl,rfl,rfl,by decide+kernel,rfl,by decide+kernel,by decide+kernel⟩
theorem Cd (g:List Int):∀ ts:List Tm,(ts.map (hF g)).all (fun b=>b)=oW g ts
 | []=>by rw[oW]; rfl
 | t::r=>by rw[oW,← Cd g r]; rfl
theorem Dr (g:List Int):∀ ts:List Tm,(ts.map (hF g)).any (fun b=>b)=oX g ts
 | []=>by rw[oX]; rfl
 | t::r=>by rw[oX,← Dr g r]; rfl
theorem yt (f:Nat->Bool):∀ c:List Nat,(c.map fun i=>if f i=true then (1:Int) else 0).sum=((c.filter f).length:Int)
 | []=>rfl
 | i::c=>by
  have ih:=yt f c
  rw[List.map_cons,List.sum_cons,ih,List.filter_cons]
  split
  ·rw[List.length_cons]
   lia
  ·lia
theorem v7:dz P w K mg base CX0 0 f fd ["_law_term_here","_law_giving_here"] (cC K 0):=by
 have no:∀ vs H Q E,¬ cC K 0 vs H Q E:=fun vs H Q E h=>by
  obtain⟨v,g,n,t,ns,_,_,h1,_⟩:=h
  have:=t.wG
  lia
 exact⟨fun vs H Q E h=>absurd h (no vs H Q E),fun A outer s H args us vs Q E _ _ _ _ h=>absurd h (no vs H Q E)⟩
theorem gm {d:Nat} (F:Fun K "_law_holds" "_law_holds" dZ f fd) (B:Bt mg)
  (D_law_holds:Df P w K mg base "_law_holds" d ["_law_term_here","_law_giving_here"] (cC K d)):dz P w K mg base CX0 (d+1) f fd ["_law_term_here","_law_giving_here"] (cC K (d+1)):=by
 refine F.ok uN (fun vs H Q E h=>?_) (fun cdv A outer s H vs Q E hr h=>?_)
 ·obtain⟨v,g,n,t,ns,rfl,_⟩:=h
  rfl
 ·obtain⟨v,g,n,t,ns,rfl,rt,hd,hg,hn,q⟩:=h
  refine⟨_,(au (cA (aP eX (aQ (r:=eO K) bh (pv 0) aq (fun _ _=>rfl)) bT (aR _)) (aC (aL (cO o6 (aQ (r:=eO K) bh (pv 1) (aQ (r:=eO K) bh (pv 0) aq (fun _ _=>rfl)) (fun _ _=>rfl)) (aQ (r:=eO K) bh (pv 0) aq (fun _ _=>rfl)) (aR _)))) aX)
 (au (cA (aP eX (aQ (r:=eO K) bh (pv 0) aq (fun _ _=>rfl)) bT (aR _)) (aC (aL (cO o6 (aJ (r:=Ec K) (nU rfl) rfl B.sum_ Bx (aa (bH (L:=["_law_one"]) (F:=["_law_giving_here"]) (cap:=[1]) rfl (bx rfl rfl (by kernel_rfl)) (gk (aQ (r:=eO K) bh (pv 0) aq (fun _ _=>rfl))) (fun _ _ _ _ _=>(aD (i:=0) (aZ (by decide+kernel)) rfl (Or.inl rfl))) (fun _ _ _ _ _=>bC) (fun _ _ _ _ _=>(aQ (r:=eO K) bh (pv 1) (pv 0) (fun _ _=>rfl)))) ao)) (aQ (r:=eO K) bh (pv 0) aq (fun _ _=>rfl)) (aR _)))) aX)
 (au (cA (aP eX (aQ (r:=eO K) bh (pv 0) aq (fun _ _=>rfl)) bT (aR _)) (aC (aL (cO o6 (aJ (r:=Ec K) (nU rfl) rfl B.sum_ Bx (aa (bH (L:=["_law_one"]) (F:=["_law_giving_here","_law_term_here"]) (cap:=[1,0]) rfl (bx rfl rfl (by kernel_rfl)) (gk (aQ (r:=eO K) bh (pv 0) aq (fun _ _=>rfl))) (fun _ _ _ _ _=>(aD (i:=0) (aZ (by decide+kernel)) rfl (Or.inl rfl))) (fun _ _ _ _ _=>bC) (fun _ _ _ _ _=>(bI (r:=KJ) vd rfl B.int_ xG (aa (cO o6 (aQ (r:=eO K) bh (pv 1) (pv 0) (fun _ _=>rfl)) (aQ (r:=eO K) bh (pv 2) aq (fun _ _=>rfl)) (aR _)) ao)))) ao)) (aQ (r:=eO K) bh (pv 0) aq (fun _ _=>rfl)) (aR _)))) aX)
 (au (cA (aP eX (aQ (r:=eO K) bh (pv 0) aq (fun _ _=>rfl)) bT (aR _)) (aC (aL (aJ (r:=Eb K) (mY rfl) rfl B.all_ Dh (aa (bH (L:=["_law_part"]) (F:=["_law_giving_here"]) (cap:=[1]) rfl (bx rfl rfl (by kernel_rfl)) (gk (aQ (r:=eO K) bh (pv 0) aq (fun _ _=>rfl))) (fun _ _ _ _ _=>(aD (i:=0) (aZ (by decide+kernel)) rfl (Or.inl rfl))) (fun _ _ _ _ _=>bC) (fun _ _ _ _ _=>(bA D_law_holds hr (aa (pv 0) (aa (pv 1) ao))))) ao)))) aX)
 (aC (aL (Ly (cO eX (aQ (r:=eO K) bh (pv 0) aq (fun _ _=>rfl)) bT (aR _)) (ur (tV (cO eX (aQ (r:=eO K) bh (pv 0) aq (fun _ _=>rfl)) bT (aR _)) (ur (aJ (r:=Kg K) (Af rfl) rfl B.any_ Ko (aa (bH (L:=["_law_part"]) (F:=["_law_giving_here"]) (cap:=[1]) rfl (bx rfl rfl (by kernel_rfl)) (gk (aQ (r:=eO K) bh (pv 0) aq (fun _ _=>rfl))) (fun _ _ _ _ _=>(aD (i:=0) (aZ (by decide+kernel)) rfl (Or.inl rfl))) (fun _ _ _ _ _=>bC) (fun _ _ _ _ _=>(bA D_law_holds hr (aa (pv 0) (aa (pv 1) ao))))) ao)))))))))))),?_⟩
  have parts:∀ (D:Addr),H D=none->∀ (b:Addr) (us:List V) (ts:List Tm) (Z:Hp->Prop) (te:TE),us.length<=6->H b=some (.tup us)->du n H us ts->tdL ts<=d →
    (∀ (x:V) (t:Tm) (σ':St) (H2:Hp) (R:V->Hp->Prop),lK n H2 x t->aN H H2->t.dep<=d->σ'=[some x,some (.ref g)]->(∀ H3,aN H2 H3->R (.bl (hF ns t)) H3)->te σ' H2 R) →
    (∀ H2:Hp,aN H H2->H2 D=some (.lst ((ts.map (hF ns)).map V.bl))->Z H2)->iC D [none,some (.ref g)] (Itt K b) (CV 0) Fl te H Z:=fun D hD b us ts Z te lu hb rl td hte hQ=>by
   have el:=rl.length
   refine dw (K:=K) (a:=b) (xs:=us) (fun i zs σ' H2=>(∃ u,σ'=[u,some (.ref g)])/\zs=((ts.take i).map (hF ns)).map V.bl/\aN H H2/\H2 D=some (.lst zs))
    ⟨⟨_,rfl⟩,rfl,aA hD _,aj⟩ (fun i zs σ' H2 _ h=>⟨eQ h.2.2.1 (SqT.of hb),h.2.2.2⟩) ?_ ?_
   ·rintro j zs x σ' H2 hx ⟨⟨u,rfl⟩,e1,sm,hDl⟩
    obtain⟨t,ht,rt⟩:=rl.get hx
    have hj:j < us.length:=(List.getElem?_eq_some_iff.mp hx).1
    refine gT ?_
    refine hte x t _ H2 _ (rt.mono sm) sm (Nat.le_trans (lD ht) td) rfl fun H3 s3=>⟨s3 _ _ hDl,?_,⟨_,rfl⟩,?_,aK (sm.trans s3) hD _,aj⟩
    ·rw[e1,List.length_map,List.length_map,List.length_take]
     exact aG (by lia)
    ·rw[e1,List.take_add_one,ht,List.map_append,List.map_append]
     rfl
   ·rintro zs σ' H2 ⟨⟨u,rfl⟩,e1,sm,hDl⟩
    rw[el,List.take_length] at e1
    exact hQ H2 sm (by rw[hDl,e1])
  cases rt with
  | @free a ha =>
   refine⟨_,rfl,a,_,_,_,rfl,rfl,SqT.of ha,aF (k:=0) rfl,rfl,_,rfl,fW (bu (by decide)) ?_⟩
   refine⟨_,rfl,a,_,_,_,rfl,rfl,SqT.of ha,aF (k:=0) rfl,rfl,_,rfl,fW (bu (by decide)) ?_⟩
   refine⟨_,rfl,a,_,_,_,rfl,rfl,SqT.of ha,aF (k:=0) rfl,rfl,_,rfl,fW (bu (by decide)) ?_⟩
   refine⟨_,rfl,a,_,_,_,rfl,rfl,SqT.of ha,aF (k:=0) rfl,rfl,_,rfl,fW (bu (by decide)) ?_⟩
   refine⟨_,rfl,a,_,_,_,rfl,rfl,SqT.of ha,aF (k:=0) rfl,rfl,_,rfl,zR rfl ?_⟩
   have q':=q H (aN.refl H)
   rw[hF] at q'
   exact q'
  | @never a ha =>
   refine⟨_,rfl,a,_,_,_,rfl,rfl,SqT.of ha,aF (k:=0) rfl,rfl,_,rfl,fW (bu (by decide)) ?_⟩
   refine⟨_,rfl,a,_,_,_,rfl,rfl,SqT.of ha,aF (k:=0) rfl,rfl,_,rfl,fW (bu (by decide)) ?_⟩
   refine⟨_,rfl,a,_,_,_,rfl,rfl,SqT.of ha,aF (k:=0) rfl,rfl,_,rfl,fW (bu (by decide)) ?_⟩
   refine⟨_,rfl,a,_,_,_,rfl,rfl,SqT.of ha,aF (k:=0) rfl,rfl,_,rfl,fW (bu (by decide)) ?_⟩
   refine⟨_,rfl,a,_,_,_,rfl,rfl,SqT.of ha,aF (k:=0) rfl,rfl,_,rfl,fW (bu (by decide)) ?_⟩
   refine⟨_,rfl,a,_,_,_,rfl,rfl,SqT.of ha,aF (k:=0) rfl,rfl,_,rfl,fW (bu (by decide)) ?_⟩
   have q':=q H (aN.refl H)
   rw[hF] at q'
   exact q'
  | @gives a i k ha hi _ _ =>
   refine⟨_,rfl,a,_,_,_,rfl,rfl,SqT.of ha,aF (k:=0) rfl,rfl,_,rfl,zR rfl ?_⟩
   refine⟨_,rfl,_,rfl,a,_,_,_,rfl,rfl,SqT.of ha,aF (k:=1) rfl,g,_,_,_,rfl,rfl,hg,atD (by lia),_,rfl,a,_,_,_,rfl,rfl,SqT.of ha,aF (k:=2) rfl,_,_,rfl,rfl,?_⟩
   have q':=q H (aN.refl H)
   rw[hF] at q'
   exact q'
  | @sum a b c k ha hb hc _ hl _ _ _ =>
   refine⟨_,rfl,a,_,_,_,rfl,rfl,SqT.of ha,aF (k:=0) rfl,rfl,_,rfl,fW (bu (by decide)) ?_⟩
   refine⟨_,rfl,a,_,_,_,rfl,rfl,SqT.of ha,aF (k:=0) rfl,rfl,_,rfl,zR rfl ?_⟩
   refine⟨_,rfl,a,_,_,_,rfl,rfl,SqT.of ha,aF (k:=1) rfl,b,rfl,⟨_,SqT.of hb⟩,fun D hD=>dw (K:=K) (a:=b) (xs:=c.map vN) (fun i zs σ' H2=>(∃ u,σ'=[u,some (.ref g)])/\zs=((c.take i).map fun i=>ns.getD i 0).map V.int/\aN H H2/\H2 D=some (.lst zs))
    ⟨⟨_,rfl⟩,rfl,aA hD _,aj⟩ (fun i zs σ' H2 _ h=>⟨eQ h.2.2.1 (SqT.of hb),h.2.2.2⟩) ?_ ?_⟩
   ·rintro j zs x σ' H2 hx ⟨⟨u,rfl⟩,e1,sm,hDl⟩
    obtain⟨i,hi,rfl⟩:=ux hx
    have hin:i < n:=hc i (List.mem_of_getElem? hi)
    refine gT ?_
    refine⟨_,rfl,_,rfl,g,_,_,_,rfl,rfl,eQ sm hg,atD (by lia),hDl,?_,⟨_,rfl⟩,?_,aK sm hD _,aj⟩
    ·rw[e1,List.length_map,List.length_map,List.length_take]
     exact aG (by lia)
    ·rw[e1,List.take_add_one,hi,List.map_append,List.map_append]
     rfl
   ·rintro zs σ' H2 ⟨⟨u,rfl⟩,e1,sm,hDl⟩
    rw[List.length_map,List.take_length] at e1
    refine⟨D,_,rfl,SqL.of (by rw[hDl,e1]),_,rfl,a,_,_,_,rfl,rfl,SqT.of (sm _ _ ha),aF (k:=2) rfl,_,_,rfl,rfl,?_⟩
    have q':=q H2 sm
    rw[hF] at q'
    exact q'
  | @crowd a b c k m ha hb hc _ hl _ _ _ _ _ =>
   refine⟨_,rfl,a,_,_,_,rfl,rfl,SqT.of ha,aF (k:=0) rfl,rfl,_,rfl,fW (bu (by decide)) ?_⟩
   refine⟨_,rfl,a,_,_,_,rfl,rfl,SqT.of ha,aF (k:=0) rfl,rfl,_,rfl,fW (bu (by decide)) ?_⟩
   refine⟨_,rfl,a,_,_,_,rfl,rfl,SqT.of ha,aF (k:=0) rfl,rfl,_,rfl,zR rfl ?_⟩
   refine⟨_,rfl,a,_,_,_,rfl,rfl,SqT.of ha,aF (k:=1) rfl,b,rfl,⟨_,SqT.of hb⟩,fun D hD=>dw (K:=K) (a:=b) (xs:=c.map vN) (fun i zs σ' H2=>(∃ u,σ'=[u,some (.ref g),some (.ref a)])/\zs=((c.take i).map fun i=>if decide (k<=ns.getD i 0)=true then (1:Int) else 0).map V.int/\aN H H2/\H2 D=some (.lst zs))
    ⟨⟨_,rfl⟩,rfl,aA hD _,aj⟩ (fun i zs σ' H2 _ h=>⟨eQ h.2.2.1 (SqT.of hb),h.2.2.2⟩) ?_ ?_⟩
   ·rintro j zs x σ' H2 hx ⟨⟨u,rfl⟩,e1,sm,hDl⟩
    obtain⟨i,hi,rfl⟩:=ux hx
    have hin:i < n:=hc i (List.mem_of_getElem? hi)
    refine gT ?_
    refine⟨_,rfl,_,rfl,g,_,_,_,rfl,rfl,eQ sm hg,atD (by lia),_,rfl,a,_,_,_,rfl,rfl,SqT.of (sm _ _ ha),aF (k:=2) rfl,_,_,rfl,rfl,.inr ⟨_,rfl,hDl,?_,⟨_,rfl⟩,?_,aK sm hD _,aj⟩⟩
    ·rw[e1,List.length_map,List.length_map,List.length_take]
     exact aG (by lia)
    ·rw[e1,List.take_add_one,hi,List.map_append,List.map_append]
     rfl
   ·rintro zs σ' H2 ⟨⟨u,rfl⟩,e1,sm,hDl⟩
    rw[List.length_map,List.take_length] at e1
    refine⟨D,_,rfl,SqL.of (by rw[hDl,e1]),_,rfl,a,_,_,_,rfl,rfl,SqT.of (sm _ _ ha),aF (k:=3) rfl,_,_,rfl,rfl,?_⟩
    have q':=q H2 sm
    rw[hF] at q'
    rw[yt]
    exact q'
  | @all a b us ts ha hb _ lu rl =>
   refine⟨_,rfl,a,_,_,_,rfl,rfl,SqT.of ha,aF (k:=0) rfl,rfl,_,rfl,fW (bu (by decide)) ?_⟩
   refine⟨_,rfl,a,_,_,_,rfl,rfl,SqT.of ha,aF (k:=0) rfl,rfl,_,rfl,fW (bu (by decide)) ?_⟩
   refine⟨_,rfl,a,_,_,_,rfl,rfl,SqT.of ha,aF (k:=0) rfl,rfl,_,rfl,fW (bu (by decide)) ?_⟩
   refine⟨_,rfl,a,_,_,_,rfl,rfl,SqT.of ha,aF (k:=0) rfl,rfl,_,rfl,zR rfl ?_⟩
   refine⟨_,rfl,a,_,_,_,rfl,rfl,SqT.of ha,aF (k:=1) rfl,b,rfl,⟨_,SqT.of hb⟩,fun D hD=>parts D hD b us ts _ _ lu hb rl (by rw[Tm.dep] at hd; lia) (fun x t σ' H2 R rt sm dt eσ hR=>?_) fun H2 sm hDl=>?_⟩
   ·subst eσ
    exact⟨_,rfl,_,rfl,x,g,n,t,ns,rfl,rt,dt,eQ sm hg,hn,hR⟩
   ·refine⟨D,_,rfl,SqL.of hDl,?_⟩
    rw[Cd]
    have q':=q H2 sm
    rw[hF] at q'
    exact q'
  | @any a b us ts ha hb _ lu rl =>
   refine⟨_,rfl,a,_,_,_,rfl,rfl,SqT.of ha,aF (k:=0) rfl,rfl,_,rfl,fW (bu (by decide)) ?_⟩
   refine⟨_,rfl,a,_,_,_,rfl,rfl,SqT.of ha,aF (k:=0) rfl,rfl,_,rfl,fW (bu (by decide)) ?_⟩
   refine⟨_,rfl,a,_,_,_,rfl,rfl,SqT.of ha,aF (k:=0) rfl,rfl,_,rfl,fW (bu (by decide)) ?_⟩
   refine⟨_,rfl,a,_,_,_,rfl,rfl,SqT.of ha,aF (k:=0) rfl,rfl,_,rfl,fW (bu (by decide)) ?_⟩
   refine⟨_,rfl,a,_,_,_,rfl,rfl,SqT.of ha,aF (k:=0) rfl,rfl,_,rfl,fW (bu (by decide)) ?_⟩
   refine⟨_,rfl,a,_,_,_,rfl,rfl,SqT.of ha,aF (k:=0) rfl,rfl,_,rfl,zR rfl ?_⟩
   refine⟨_,rfl,a,_,_,_,rfl,rfl,SqT.of ha,aF (k:=1) rfl,b,rfl,⟨_,SqT.of hb⟩,fun D hD=>parts D hD b us ts _ _ lu hb rl (by rw[Tm.dep] at hd; lia) (fun x t σ' H2 R rt sm dt eσ hR=>?_) fun H2 sm hDl=>?_⟩
   ·subst eσ
    exact⟨_,rfl,_,rfl,x,g,n,t,ns,rfl,rt,dt,eQ sm hg,hn,hR⟩
   ·refine⟨D,_,rfl,SqL.of hDl,?_⟩
    rw[Dr]
    have q':=q H2 sm
    rw[hF] at q'
    exact q'
theorem Hv {e:Expr} {es:List Expr} {env:Env} (h:∀ x p,e≠.Starred x p):starEach (e::es) env=(false,eval e env)::starEach es env:=by
 rw[starEach]
 intro x p z
 exact h x p z
theorem cP {X:Cx} {e:Expr} {es:List Expr} {te:TE} {t:TA} (ha:PE X e te) (hr:PA X es t) (h:∀ x p,e≠.Starred x p:=by intro x p z; cases z):PA X (e::es) (gj te t):=aa ha hr (Hv h)
theorem yc (ns:List Int) (lo hi:Option Int):∃ ks:List Int,su (ns.map V.int) lo hi=ks.map V.int/\ks.length<=ns.length:=by
 unfold su
 generalize HT.sIx _ _ lo=x
 generalize HT.sIx _ _ hi=y
 refine⟨(ns.drop x).take (y - x),by rw[List.map_take,List.map_drop],?_⟩
 rw[List.length_take,List.length_drop]
 lia
theorem xT:∀ (ns acc:List Int),acc.Nodup->(ns.foldl PyProof.Rows.step_dedup acc).Nodup
 | [],acc,h=>h
 | n::r,acc,h=>by
  rw[List.foldl_cons]
  refine xT r _ ?_
  unfold PyProof.Rows.step_dedup
  split
  ·exact h
  ·rename_i z
   rw[List.nodup_append]
   refine⟨h,by simp,fun a ha b hb e=>?_⟩
   rw[List.mem_singleton] at hb
   subst hb
   subst e
   exact z (List.any_eq_true.mpr ⟨a,ha,beq_self_eq_true a⟩)
theorem Al:∀ (ns acc:List Int),(ns.foldl PyProof.Rows.step_dedup acc).length<=acc.length+ns.length
 | [],acc=>by simp
 | n::r,acc=>by
  rw[List.foldl_cons]
  refine Nat.le_trans (Al r _) ?_
  unfold PyProof.Rows.step_dedup
  split
  ·rw[List.length_cons]; lia
  ·simp only[List.length_append,List.length_cons,List.length_nil]; lia
theorem Dk (ns:List Int):ddI ns=ns.foldl PyProof.Rows.step_dedup []:=by
 unfold ddI PyProof.Rows.firstMet
 congr 1
 apply List.ext_getElem?
 intro i
 rw[List.getElem?_map]
 by_cases h:i < ns.length
 ·rw[List.getElem?_range h,List.getElem?_eq_getElem h]
  simp [List.getD_eq_getElem?_getD,List.getElem?_eq_getElem h]
 ·have e1:(List.range ns.length)[i]? = none:=List.getElem?_eq_none (by rw[List.length_range]; lia)
  rw[e1,List.getElem?_eq_none (by lia)]
  rfl
theorem pY:∀ {a b:List Int},a.Perm b->a.Pairwise (·<=·)->b.Pairwise (·<=·)->a=b
 | [],b,p,_,_=>(List.Perm.nil_eq p)
 | x::a,[],p,_,_=>absurd p.length_eq (by simp)
 | x::a,y::b,p,ha,hb=>by
  rw[List.pairwise_cons] at ha hb
  have h1:x<=y:=by
   rcases List.mem_cons.mp (p.mem_iff.mpr List.mem_cons_self) with h | h
   ·lia
   ·exact ha.1 y h
  have h2:y<=x:=by
   rcases List.mem_cons.mp (p.mem_iff.mp List.mem_cons_self) with h | h
   ·lia
   ·exact hb.1 x h
  have e:x=y:=by lia
  subst e
  rw[pY (List.Perm.cons_inv p) ha.2 hb.2]
noncomputable abbrev Pl:=List (Int × Tm)
inductive eZ (n:Nat) (H:Hp):List V->Pl->Prop where
 | nil:eZ n H [] []
 | cons {r:Addr} {k:Int} {v:V} {t:Tm} {vs:List V} {ps:Pl}:H r=some (.tup [.int k,v])->lK n H v t->eZ n H vs ps->eZ n H (.ref r::vs) ((k,t)::ps)
theorem eZ.cD {n:Nat} {H H':Hp} (e:∀ a xs,H a=some (HO.tup xs)->H' a=some (HO.tup xs)):∀ {vs:List V} {ps:Pl},eZ n H vs ps->eZ n H' vs ps
 | _,_,.nil=>.nil
 | _,_,.cons h t r=>.cons (e _ _ h) (t.cD e) (eZ.cD e r)
theorem eZ.length {n:Nat} {H:Hp}:∀ {vs:List V} {ps:Pl},eZ n H vs ps->vs.length=ps.length
 | _,_,.nil=>rfl
 | _,_,.cons _ _ r=>by rw[List.length_cons,List.length_cons,eZ.length r]
theorem eZ.get {n:Nat} {H:Hp}:∀ {vs:List V} {ps:Pl} {i:Nat} {v:V},eZ n H vs ps->vs[i]? = some v->∃ r k u t,v = .ref r/\H r=some (.tup [.int k,u])/\lK n H u t/\ps[i]? = some (k,t)
 | _,_,_,_,.nil,h=>by simp at h
 | _,_,0,_,.cons h t _,e=>by
  cases (show some _=some _ from e)
  exact⟨_,_,_,_,rfl,h,t,rfl⟩
 | _,_,i+1,_,.cons _ _ r,e=>by
  obtain⟨a,k,u,t,h1,h2,h3,h4⟩:=eZ.get (i:=i) r (by simpa using e)
  exact⟨a,k,u,t,h1,h2,h3,by simpa using h4⟩
theorem eZ.snoc {n:Nat} {H:Hp} {r:Addr} {k:Int} {v:V} {t:Tm} (h:H r=some (.tup [.int k,v])) (ht:lK n H v t):∀ {vs:List V} {ps:Pl},eZ n H vs ps->eZ n H (vs++[.ref r]) (ps++[(k,t)])
 | _,_,.nil=>.cons h ht .nil
 | _,_,.cons a b c=>.cons a b (eZ.snoc h ht c)
noncomputable def okP (p:Pl):Prop:=p≠[]/\p.length<=9/\(p.map (·.1)).Pairwise (· < ·)/\∀ x∈p,1<=x.1/\x.1<=9/\x.2.dep<=4
noncomputable def zO (n:Nat) (H:Hp) (a:Addr) (p:Pl):Prop:=okP p/\∃ vs,H a=some (.tup vs)/\eZ n H vs p
theorem zO.cD {n:Nat} {H H':Hp} {a:Addr} {p:Pl} (e:∀ a xs,H a=some (HO.tup xs)->H' a=some (HO.tup xs)) (h:zO n H a p):zO n H' a p:=by
 obtain⟨ok,vs,h1,h2⟩:=h
 exact⟨ok,vs,e _ _ h1,h2.cD e⟩
theorem zO.mono {n:Nat} {H H':Hp} {a:Addr} {p:Pl} (e:aN H H') (h:zO n H a p):zO n H' a p:=h.cD fun a xs q=>e a _ q
inductive fY (n:Nat) (H:Hp):List Addr->List Pl->Prop where
 | nil:fY n H [] []
 | cons {a:Addr} {p:Pl} {as:List Addr} {ps:List Pl}:zO n H a p->fY n H as ps->fY n H (a::as) (p::ps)
theorem fY.cD {n:Nat} {H H':Hp} (e:∀ a xs,H a=some (HO.tup xs)->H' a=some (HO.tup xs)):∀ {as:List Addr} {ps:List Pl},fY n H as ps->fY n H' as ps
 | _,_,.nil=>.nil
 | _,_,.cons h r=>.cons (h.cD e) (fY.cD e r)
theorem fY.length {n:Nat} {H:Hp}:∀ {as:List Addr} {ps:List Pl},fY n H as ps->as.length=ps.length
 | _,_,.nil=>rfl
 | _,_,.cons _ r=>by rw[List.length_cons,List.length_cons,fY.length r]
theorem fY.get {n:Nat} {H:Hp}:∀ {as:List Addr} {ps:List Pl} {i:Nat} {a:Addr},fY n H as ps->as[i]? = some a->∃ p,ps[i]? = some p/\zO n H a p
 | _,_,_,_,.nil,h=>by simp at h
 | _,_,0,_,.cons h _,e=>by
  cases (show some _=some _ from e)
  exact⟨_,rfl,h⟩
 | _,_,i+1,_,.cons _ r,e=>by
  obtain⟨p,h1,h2⟩:=fY.get (i:=i) r (by simpa using e)
  exact⟨p,by simpa using h1,h2⟩
theorem fY.snoc {n:Nat} {H:Hp} {a:Addr} {p:Pl} (h:zO n H a p):∀ {as:List Addr} {ps:List Pl},fY n H as ps->fY n H (as++[a]) (ps++[p])
 | _,_,.nil=>.cons h .nil
 | _,_,.cons x r=>.cons x (fY.snoc h r)
inductive dX (n:Nat) (H:Hp):List V->List (List Pl)->Prop where
 | nil:dX n H [] []
 | cons {c:Addr} {as:List Addr} {ps:List Pl} {us:List V} {bs:List (List Pl)}:H c=some (.lst (as.map V.ref))->as.length<=100->fY n H as ps->dX n H us bs->dX n H (.ref c::us) (ps::bs)
theorem dX.mono {n:Nat} {H H':Hp} (e:aN H H'):∀ {us:List V} {bs:List (List Pl)},dX n H us bs->dX n H' us bs
 | _,_,.nil=>.nil
 | _,_,.cons h l p r=>.cons (e _ _ h) l (p.cD fun a xs q=>e a _ q) (dX.mono e r)
theorem dX.length {n:Nat} {H:Hp}:∀ {us:List V} {bs:List (List Pl)},dX n H us bs->us.length=bs.length
 | _,_,.nil=>rfl
 | _,_,.cons _ _ _ r=>by rw[List.length_cons,List.length_cons,dX.length r]
theorem dX.get {n:Nat} {H:Hp}:∀ {us:List V} {bs:List (List Pl)} {i:Nat} {u:V},dX n H us bs->us[i]? = some u->∃ c as ps,u = .ref c/\bs[i]? = some ps/\H c=some (.lst (as.map V.ref))/\as.length<=100/\fY n H as ps
 | _,_,_,_,.nil,h=>by simp at h
 | _,_,0,_,.cons h l p _,e=>by
  cases (show some _=some _ from e)
  exact⟨_,_,_,rfl,rfl,h,l,p⟩
 | _,_,i+1,_,.cons _ _ _ r,e=>by
  obtain⟨c,as,ps,h1,h2,h3⟩:=dX.get (i:=i) r (by simpa using e)
  exact⟨c,as,ps,h1,by simpa using h2,h3⟩
theorem dX.snoc {n:Nat} {H:Hp} {c:Addr} {as:List Addr} {ps:List Pl} (h:H c=some (.lst (as.map V.ref))) (hl:as.length<=100) (hp:fY n H as ps):∀ {us:List V} {bs:List (List Pl)},dX n H us bs->dX n H (us++[.ref c]) (bs++[ps])
 | _,_,.nil=>.cons h hl hp .nil
 | _,_,.cons x y z r=>.cons x y z (dX.snoc h hl hp r)
noncomputable def o7 (n:Nat) (H:Hp) (b:Addr) (bk:List (List Pl)):Prop:=∃ us,H b=some (.lst us)/\dX n H us bk/\bk.length<=12
theorem o7.mono {n:Nat} {H H':Hp} {b:Addr} {bk:List (List Pl)} (e:aN H H') (h:o7 n H b bk):o7 n H' b bk:=by
 obtain⟨us,h1,h2,h3⟩:=h
 exact⟨us,e _ _ h1,h2.mono e,h3⟩
noncomputable def owS (g:List Int) (f:Int) (x:Int × Tm):Int:=if hF g x.2=true then x.1 else f
noncomputable def owF (g:List Int) (p:Pl):Int:=p.foldl (owS g) 0
theorem yp {g:List Int} {p:Pl} {i:Nat} {x:Int × Tm} (h:p[i]? = some x):owF g (p.take (i+1))=if hF g x.2=true then x.1 else owF g (p.take i):=by
 unfold owF
 rw[List.take_add_one,h]
 show ((p.take i)++[x]).foldl (owS g) 0=_
 rw[List.foldl_append]
 rfl
noncomputable def lsF (p:Pl):Int:=mxD 0 (p.map (·.1))
theorem lR:∀ (l:List Int) (a x:Int),(∀ y∈l,y<=x)->a<=x->(l++[x]).foldl max a=x
 | [],a,x,_,h=>by show max a x=x; lia
 | y::l,a,x,hl,h=>by
  rw[List.cons_append,List.foldl_cons]
  exact lR l (max a y) x (fun z hz=>hl z (List.mem_cons_of_mem _ hz)) (by have:=hl y List.mem_cons_self; lia)
theorem wB {l:List Int} {x:Int} (h:(l++[x]).Pairwise (· < ·)):∀ y∈l,y<=x:=fun y hy=>by
 rw[List.pairwise_append] at h
 have:=h.2.2 y hy x List.mem_cons_self
 lia
theorem Fx {q:Pl} {x:Int × Tm} (h:((q++[x]).map (·.1)).Pairwise (· < ·)):lsF (q++[x])=x.1:=by
 rw[List.map_append] at h
 have hl:=wB (l:=q.map (·.1)) (x:=x.1) h
 unfold lsF
 rw[List.map_append]
 cases q with
 | nil=>rfl
 | cons y q =>
  show ((q.map (·.1))++[x.1]).foldl max y.1=x.1
  exact lR _ _ _ (fun z hz=>hl z (List.mem_cons_of_mem _ hz)) (hl y.1 List.mem_cons_self)
theorem jV:∀ (l:List Int) (a b:Int),l.foldl max (max a b)=max a (l.foldl max b)
 | [],a,b=>rfl
 | y::l,a,b=>by
  rw[List.foldl_cons,List.foldl_cons,show max (max a b) y=max a (max b y) by lia]
  exact jV l a (max b y)
noncomputable def duF (g:List Int) (f:Int) (ps:List Pl):Int:=(ps.map (owF g)).foldl max f
theorem xZ (g:List Int) {f:Int} (hf:0<=f) (ps:List Pl):duF g f ps=max f (duF g 0 ps):=by
 unfold duF
 rw[← jV,show max f 0=f by lia]
noncomputable def dN (g:List Int) (fl:List Int) (bk:List (List Pl)):List Int:=List.zipWith (duF g) fl bk
noncomputable def rfS (f:Int) (ps:List Pl):Int:=(ps.map lsF).foldl max f
noncomputable def rfF (fl:List Int) (bk:List (List Pl)):List Int:=List.zipWith rfS fl bk
theorem mV {α β γ:Type} (f:α->β->γ) {xs:List α} {ys:List β} {i:Nat} {x:α} {y:β} (h1:xs[i]? = some x) (h2:ys[i]? = some y):List.zipWith f (xs.take (i+1)) (ys.take (i+1))=List.zipWith f (xs.take i) (ys.take i)++[f x y]:=by
 have l1:i < xs.length:=(List.getElem?_eq_some_iff.mp h1).1
 have l2:i < ys.length:=(List.getElem?_eq_some_iff.mp h2).1
 rw[List.take_add_one,List.take_add_one,h1,h2]
 show List.zipWith f (xs.take i++[x]) (ys.take i++[y])=_
 rw[List.zipWith_append (by rw[List.length_take,List.length_take]; lia)]
 rfl
theorem wZ {as:List Addr} {i:Nat} {x:V} (h:(as.map V.ref)[i]? = some x):∃ a,as[i]? = some a/\x = .ref a:=by
 rw[List.getElem?_map] at h
 cases e:as[i]? with
 | none=>rw[e] at h; cases h
 | some a=>rw[e] at h; exact⟨a,rfl,(Option.some.inj h).symm⟩
theorem take_snoc {α β:Type} (f:α->β) {xs:List α} {i:Nat} {x:α} (h:xs[i]? = some x):(xs.take (i+1)).map f=(xs.take i).map f++[f x]:=(qQ f h).symm
noncomputable abbrev pH:Stmt:=top 7
theorem vp:aY ["pledge","giving","step","term"] ["pledge","giving"] (aB pH):=⟨rfl,rfl,rfl,by decide+kernel,rfl,by decide+kernel,by decide+kernel⟩
inductive zU (K:W.Frag) (vs:List V) (H:Hp) (Q:VK):Prop where
 | mk (a g:Addr) (n:Nat) (p:Pl) (ns:List Int) (z0:vs=[.ref a,.ref g]) (z1:zO n H a p) (z2:SqT K H g (ns.map V.int)) (z3:n<=ns.length) (z4:∀ H',aN H H'->Q (.int (owF ns p)) H'):zU K vs H Q
noncomputable def qm (K:W.Frag):Sp:=fun vs H Q _=>zU K vs H Q
theorem Jr {k:Nat} (F:Fun K "owes" "owes" pH f fd) (B:Bt mg)
  (D_holds:Df P w K mg base "holds" k ["term","giving"] (cC K 4)):dz P w K mg base CX0 (k+1) f fd ["pledge","giving"] (qm K):=by
 refine F.ok vp (fun vs H Q E h=>?_) (fun cdv A outer s H vs Q E hr h=>?_)
 ·obtain⟨a,g,n,p,ns,rfl,_⟩:=h
  rfl
 ·obtain⟨a,g,n,p,ns,rfl,⟨ok,vs,ha,rp⟩,hg,hn,q⟩:=h
  refine⟨_,(au (eE PassesOwn.never rfl (J8 rfl B.reversed_ (aa (pv 0) ao)) (dF (K:=K) 2 rfl rfl (bw (aD (i:=2) vp.nd rfl (Or.inl rfl)) (bw (aD (i:=3) vp.nd rfl (Or.inl rfl)) d8))) (aC (cA (iR (bA D_holds hr (aa (pv 3) (aa (pv 1) ao)))) (aC (aL (pv 2))) aX)))
 (aC (aL aq))),?_⟩
  have el:=rp.length
  refine⟨_,rfl,a,vs,rfl,SqT.of ha,Im (K:=K) (a:=a) (xs:=vs) (fun i σ H2=>(∃ u v,σ=[some (.ref a),some (.ref g),u,v])/\aN H H2/\owF ns p=owF ns (p.take (p.length - i)))
   ⟨⟨_,_,rfl⟩,aN.refl H,by rw[Nat.sub_zero,List.take_length]⟩ (fun i σ H2 _ h=>SqT.of (h.2.1 _ _ ha)) ?_ ?_⟩
  ·rintro i x σ H2 hi hx ⟨⟨u,v,rfl⟩,sm,ow⟩
   obtain⟨r,k0,y,t,rfl,hr0,rt,hp⟩:=rp.get hx
   have hm:=List.mem_of_getElem? hp
   have e1:p.length - i=vs.length - 1 - i+1:=by lia
   have e2:p.length - (i+1)=vs.length - 1 - i:=by lia
   rw[e1,yp hp] at ow
   refine⟨r,_,rfl,SqT.of (sm _ _ hr0),rfl,_,_,rfl,_,_,rfl,rfl,?_⟩
   refine⟨_,rfl,_,rfl,y,g,n,t,ns,rfl,rt.mono sm,(ok.2.2.2 _ hm).2.2,eQ sm hg,hn,fun H3 s3=>⟨_,rfl,?_⟩⟩
   cases e:hF ns t with
   | true =>
    refine jJ ⟨_,rfl,?_⟩
    rw[if_pos e] at ow
    have q':=q H3 (sm.trans s3)
    rw[ow] at q'
    exact q'
   | false =>
    refine gU ⟨⟨_,_,rfl⟩,sm.trans s3,?_⟩
    rw[if_neg (by rw[e]; exact Bool.false_ne_true)] at ow
    rw[e2]
    exact ow
  ·rintro σ H2 ⟨⟨u,v,rfl⟩,sm,ow⟩
   rw[el,Nat.sub_self,List.take_zero] at ow
   have q':=q H2 sm
   rw[ow] at q'
   exact q'
noncomputable abbrev dY:Stmt:=top 8
theorem vg:aY ["pledge"] ["pledge"] (aB dY):=⟨rfl,rfl,rfl,by decide+kernel,rfl,by decide+kernel,by decide+kernel⟩
inductive CN (vs:List V) (H:Hp) (Q:VK):Prop where
 | mk (a:Addr) (n:Nat) (p:Pl) (z0:vs=[.ref a]) (z1:zO n H a p) (z2:∀ H',aN H H'->Q (.int (lsF p)) H'):CN  vs H Q
noncomputable def Am:Sp:=fun vs H Q _=>CN  vs H Q
theorem sI (F:Fun K "last_step" "last_step" dY f fd) (B:Bt mg) :
  dz P w K mg base CX0 1 f fd ["pledge"] Am:=by
 refine F.ok vg (fun vs H Q E h=>?_) (fun cdv A outer s H vs Q E hr h=>?_)
 ·obtain⟨a,n,p,rfl,_⟩:=h
  rfl
 ·obtain⟨a,n,p,rfl,⟨ok,vs,ha,rp⟩,q⟩:=h
  refine⟨_,(aC (aL (Jq rfl rfl B.max_ (aa (bH (L:=["step","term"]) (F:=[]) (cap:=[]) rfl (bx rfl rfl (by kernel_rfl)) (gk (pv 0)) (fun _ _ _ _ _=>(dF (K:=K) 2 rfl rfl (bw (aD (i:=0) (aZ (by decide+kernel)) rfl (Or.inl rfl)) (bw (aD (i:=1) (aZ (by decide+kernel)) rfl (Or.inl rfl)) d8)))) (fun _ _ _ _ _=>bC) (fun _ _ _ _ _=>(pv 0))) ao)))),?_⟩
  have el:=rp.length
  have l9:=ok.2.1
  refine⟨_,rfl,a,rfl,⟨_,SqT.of ha⟩,fun D hD=>dw (K:=K) (a:=a) (xs:=vs) (fun i zs σ' H2=>(∃ u v,σ'=[u,v])/\zs=((p.take i).map (·.1)).map V.int/\aN H H2/\H2 D=some (.lst zs))
   ⟨⟨_,_,rfl⟩,rfl,aA hD _,aj⟩ (fun i zs σ' H2 _ h=>⟨SqT.of (h.2.2.1 _ _ ha),h.2.2.2⟩) ?_ ?_⟩
  ·rintro j zs x σ' H2 hx ⟨⟨u,v,rfl⟩,e1,sm,hDl⟩
   obtain⟨r,k0,y,t,rfl,hr0,rt,hp⟩:=rp.get hx
   refine⟨r,_,rfl,SqT.of (sm _ _ hr0),rfl,_,_,rfl,_,_,rfl,rfl,?_⟩
   refine tT ?_
   refine⟨_,rfl,hDl,?_,⟨_,_,rfl⟩,?_,aK sm hD _,aj⟩
   ·rw[e1,List.length_map,List.length_map,List.length_take]
    exact aG (by lia)
   ·rw[e1,take_snoc (·.1) hp,List.map_append]
    rfl
  ·rintro zs σ' H2 ⟨_,e1,sm,hDl⟩
   rw[el,List.take_length] at e1
   refine⟨D,p.map (·.1),rfl,SqL.of (by rw[hDl,e1]),?_⟩
   exact q H2 sm
noncomputable abbrev cT:Stmt:=top 10
theorem oZ:aY ["book","floor","giving"] ["book","floor","giving"] (aB cT):=⟨rfl,rfl,rfl,by decide+kernel,rfl,by decide+kernel,by decide+kernel⟩
inductive GJ (K:W.Frag) (vs:List V) (H:Hp) (Q:VK):Prop where
 | mk (b f g:Addr) (n:Nat) (bk:List (List Pl)) (fl ns:List Int) (z0:vs=[.ref b,.ref f,.ref g]) (z1:o7 n H b bk) (z2:SqT K H f (fl.map V.int)) (z3:SqT K H g (ns.map V.int)) (z4:fl.length=bk.length) (z5:n<=ns.length) (z6:(∀ x∈fl,0<=x)) (z7:∀ (r:Addr) (H':Hp),aN H H'->H' r=some (.tup ((dN ns fl bk).map V.int))->Q (.ref r) H'):GJ K vs H Q
noncomputable def IV (K:W.Frag):Sp:=fun vs H Q _=>GJ K vs H Q
theorem o5 {k:Nat} (F:Fun K "what_is_due" "what_is_due" cT f fd) (B:Bt mg)
  (D_owes:Df P w K mg base "owes" k ["pledge","giving"] (qm K)):dz P w K mg base CX0 (k+1) f fd ["book","floor","giving"] (IV K):=by
 refine F.ok oZ (fun vs H Q E h=>?_) (fun cdv A outer s H vs Q E hr h=>?_)
 ·obtain⟨b,f,g,n,bk,fl,ns,rfl,_⟩:=h
  rfl
 ·obtain⟨b,f,g,n,bk,fl,ns,rfl,⟨us,hb,rb,l12⟩,hf,hg,hl,hn,h0,q⟩:=h
  refine⟨_,(aC (aL (bI (r:=gC K) bJ rfl B.tuple_ cI (aa (bH (L:=["step","pledges"]) (F:=["giving"]) (cap:=[2]) rfl (bx rfl rfl (by kernel_rfl)) (GZ rfl B.zip_ (aa (pv 1) (aa (pv 0) ao))) (fun _ _ _ _ _=>(dF (K:=K) 2 rfl rfl (bw (aD (i:=0) (aZ (by decide+kernel)) rfl (Or.inl rfl)) (bw (aD (i:=1) (aZ (by decide+kernel)) rfl (Or.inl rfl)) d8)))) (fun _ _ _ _ _=>bC) (fun _ _ _ _ _=>(aJ (r:=Ac K) (j8 rfl) rfl B.max_ nH (aa (aU nY (bV (aa (pv 0) ao)) (bH (L:=["pledge"]) (F:=["giving"]) (cap:=[2]) rfl (bx rfl rfl (by kernel_rfl)) (rn K rfl (pv 1)) (fun _ _ _ _ _=>(aD (i:=0) (aZ (by decide+kernel)) rfl (Or.inl rfl))) (fun _ _ _ _ _=>bC) (fun _ _ _ _ _=>(bA D_owes hr (aa (pv 0) (aa (pv 1) ao)))))) ao)))) ao)))),?_⟩
  have el:=rb.length
  refine⟨_,rfl,_,rfl,f,b,_,_,rfl,hf,SqL.of hb,fun D hD=>xY (K:=K) (a:=f) (b:=b) (xs:=fl.map V.int) (ys:=us) (by rw[List.length_map]; lia)
   (fun i zs σ H2=>(∃ u v,σ=[u,v,some (.ref g)])/\zs=(List.zipWith (duF ns) (fl.take i) (bk.take i)).map V.int/\aN H H2/\H2 D=some (.lst zs)) ⟨⟨_,_,rfl⟩,rfl,aA hD _,aj⟩ (fun i zs σ H2 _ h=>⟨eQ h.2.2.1 hf,SqL.of (h.2.2.1 _ _ hb),h.2.2.2⟩) ?_ ?_⟩
  ·rintro i zs x y p σ H2 hx hy hp ⟨⟨u,v,rfl⟩,e1,sm,hDl⟩
   obtain⟨m,hm,rfl⟩:=int_at hx
   obtain⟨c,as,ps,rfl,hps,hc,l100,rps⟩:=rb.get hy
   have ell:=rps.length
   generalize eH3:upd H2 p _=H3
   obtain⟨g3,e3⟩:=aH eH3 hp
   refine⟨p,_,rfl,SqT.of e3,rfl,_,_,rfl,_,_,rfl,rfl,?_⟩
   refine tT ?_
   refine⟨_,rfl,small (by show 1<=1000; decide),fun p4 h4=>?_⟩
   generalize eH4:upd H3 p4 _=H4
   obtain⟨g4,e4⟩:=aH eH4 h4
   have s4:aN H H4:=sm.trans (g3.trans g4)
   refine⟨_,rfl,c,rfl,⟨_,SqL.of (s4 _ _ hc)⟩,fun D2 hD2=>cM (K:=K) (a:=c) (xs:=as.map V.ref) (fun j ws σ' H5=>(∃ u,σ'=[u,some (.ref g)])/\ws=((ps.take j).map (owF ns)).map V.int/\aN H4 H5/\H5 D2=some (.lst ws))
    ⟨⟨_,rfl⟩,rfl,aA hD2 _,aj⟩ (fun j ws σ' H5 _ h=>⟨SqL.of (h.2.2.1 _ _ (s4 _ _ hc)),h.2.2.2⟩) ?_ ?_⟩
   ·rintro j ws x σ' H5 hx ⟨⟨u,rfl⟩,e5,s5,hD5⟩
    obtain⟨a,ha,rfl⟩:=wZ hx
    obtain⟨pl,hpl,rpl⟩:=rps.get ha
    refine gT ?_
    refine⟨_,rfl,_,rfl,a,g,n,pl,ns,rfl,rpl.mono (s4.trans s5),eQ (s4.trans s5) hg,hn,fun H6 s6=>?_⟩
    refine⟨s6 _ _ hD5,?_,⟨_,rfl⟩,?_,aK (s5.trans s6) hD2 _,aj⟩
    ·rw[e5,List.length_map,List.length_map,List.length_take]
     exact aG (by lia)
    ·rw[e5,take_snoc (owF ns) hpl,List.map_append]
     rfl
   ·rintro ws σ' H5 ⟨_,e5,s5,hD5⟩
    rw[List.length_map,ell,List.take_length] at e5
    subst e5
    refine⟨p4,D2,_,_,rfl,rfl,s5 _ _ e4,hD5,small ?_,fun p6 h6=>?_⟩
    ·rw[List.length_map,List.length_map]
     show 1+ps.length<=1000
     lia
    generalize eH6:upd H5 p6 _=H6
    obtain⟨g6,e6⟩:=aH eH6 h6
    have sall:aN H2 H6:=g3.trans (g4.trans (s5.trans g6))
    refine⟨p6,m::ps.map (owF ns),rfl,SqL.of e6,by simp,sall _ _ hDl,?_,⟨_,_,rfl⟩,?_,aK (sm.trans sall) hD _,aj⟩
    ·rw[e1,List.length_map,List.length_zipWith,List.length_take]
     exact aG (by lia)
    ·rw[e1,mV (duF ns) hm hps,List.map_append]
     rfl
  ·rintro zs σ H2 ⟨_,e1,sm,hDl⟩
   refine⟨D,_,rfl,.inl ⟨SqL.of hDl,fun l hl'=>?_⟩⟩
   refine q l _ (sm.trans (aA hl' _)) ?_
   rw[aj,e1,List.length_map,List.take_length,hl,List.take_length]
   rfl
theorem vy {g fl:List Int} {bk:List (List Pl)} (h:fl.length=bk.length):(dN g fl bk).length=bk.length:=by
 unfold dN
 rw[List.length_zipWith]
 lia
noncomputable abbrev pI:Stmt:=top 11
theorem Jg:aY ["book","floor"] ["book","floor"] (aB pI):=⟨rfl,rfl,rfl,by decide+kernel,rfl,by decide+kernel,by decide+kernel⟩
inductive Bj (K:W.Frag) (vs:List V) (H:Hp) (Q:VK):Prop where
 | mk (b f:Addr) (n:Nat) (bk:List (List Pl)) (fl:List Int) (z0:vs=[.ref b,.ref f]) (z1:o7 n H b bk) (z2:SqT K H f (fl.map V.int)) (z3:fl.length=bk.length) (z4:∀ (r:Addr) (H':Hp),aN H H'->H' r=some (.tup ((rfF fl bk).map V.int))->Q (.ref r) H'):Bj K vs H Q
noncomputable def pZ (K:W.Frag):Sp:=fun vs H Q _=>Bj K vs H Q
theorem Jl (F:Fun K "roof" "roof" pI f fd) (B:Bt mg)
  (D_last_step:Df P w K mg base "last_step" 1 ["pledge"] Am):dz P w K mg base CX0 2 f fd ["book","floor"] (pZ K):=by
 refine F.ok Jg (fun vs H Q E h=>?_) (fun cdv A outer s H vs Q E hr h=>?_)
 ·obtain⟨b,f,n,bk,fl,rfl,_⟩:=h
  rfl
 ·obtain⟨b,f,n,bk,fl,rfl,⟨us,hb,rb,l12⟩,hf,hl,q⟩:=h
  refine⟨_,(aC (aL (bI (r:=gC K) bJ rfl B.tuple_ cI (aa (bH (L:=["step","pledges"]) (F:=[]) (cap:=[]) rfl (bx rfl rfl (by kernel_rfl)) (GZ rfl B.zip_ (aa (pv 1) (aa (pv 0) ao))) (fun _ _ _ _ _=>(dF (K:=K) 2 rfl rfl (bw (aD (i:=0) (aZ (by decide+kernel)) rfl (Or.inl rfl)) (bw (aD (i:=1) (aZ (by decide+kernel)) rfl (Or.inl rfl)) d8)))) (fun _ _ _ _ _=>bC) (fun _ _ _ _ _=>(aJ (r:=Ac K) (j8 rfl) rfl B.max_ nH (aa (aU nY (bV (aa (pv 0) ao)) (bH (L:=["pledge"]) (F:=[]) (cap:=[]) rfl (bx rfl rfl (by kernel_rfl)) (rn K rfl (pv 1)) (fun _ _ _ _ _=>(aD (i:=0) (aZ (by decide+kernel)) rfl (Or.inl rfl))) (fun _ _ _ _ _=>bC) (fun _ _ _ _ _=>(bA D_last_step hr (aa (pv 0) ao))))) ao)))) ao)))),?_⟩
  have el:=rb.length
  refine⟨_,rfl,_,rfl,f,b,_,_,rfl,hf,SqL.of hb,fun D hD=>xY (K:=K) (a:=f) (b:=b) (xs:=fl.map V.int) (ys:=us) (by rw[List.length_map]; lia)
   (fun i zs σ H2=>(∃ u v,σ=[u,v])/\zs=(List.zipWith rfS (fl.take i) (bk.take i)).map V.int/\aN H H2/\H2 D=some (.lst zs)) ⟨⟨_,_,rfl⟩,rfl,aA hD _,aj⟩ (fun i zs σ H2 _ h=>⟨eQ h.2.2.1 hf,SqL.of (h.2.2.1 _ _ hb),h.2.2.2⟩) ?_ ?_⟩
  ·rintro i zs x y p σ H2 hx hy hp ⟨⟨u,v,rfl⟩,e1,sm,hDl⟩
   obtain⟨m,hm,rfl⟩:=int_at hx
   obtain⟨c,as,ps,rfl,hps,hc,l100,rps⟩:=rb.get hy
   have ell:=rps.length
   generalize eH3:upd H2 p _=H3
   obtain⟨g3,e3⟩:=aH eH3 hp
   refine⟨p,_,rfl,SqT.of e3,rfl,_,_,rfl,_,_,rfl,rfl,?_⟩
   refine tT ?_
   refine⟨_,rfl,small (by show 1<=1000; decide),fun p4 h4=>?_⟩
   generalize eH4:upd H3 p4 _=H4
   obtain⟨g4,e4⟩:=aH eH4 h4
   have s4:aN H H4:=sm.trans (g3.trans g4)
   refine⟨_,rfl,c,rfl,⟨_,SqL.of (s4 _ _ hc)⟩,fun D2 hD2=>cM (K:=K) (a:=c) (xs:=as.map V.ref) (fun j ws σ' H5=>(∃ u,σ'=[u])/\ws=((ps.take j).map lsF).map V.int/\aN H4 H5/\H5 D2=some (.lst ws))
    ⟨⟨_,rfl⟩,rfl,aA hD2 _,aj⟩ (fun j ws σ' H5 _ h=>⟨SqL.of (h.2.2.1 _ _ (s4 _ _ hc)),h.2.2.2⟩) ?_ ?_⟩
   ·rintro j ws x σ' H5 hx ⟨⟨u,rfl⟩,e5,s5,hD5⟩
    obtain⟨a,ha,rfl⟩:=wZ hx
    obtain⟨pl,hpl,rpl⟩:=rps.get ha
    refine gT ?_
    refine⟨_,rfl,a,n,pl,rfl,rpl.mono (s4.trans s5),fun H6 s6=>?_⟩
    refine⟨s6 _ _ hD5,?_,⟨_,rfl⟩,?_,aK (s5.trans s6) hD2 _,aj⟩
    ·rw[e5,List.length_map,List.length_map,List.length_take]
     exact aG (by lia)
    ·rw[e5,take_snoc lsF hpl,List.map_append]
     rfl
   ·rintro ws σ' H5 ⟨_,e5,s5,hD5⟩
    rw[List.length_map,ell,List.take_length] at e5
    subst e5
    refine⟨p4,D2,_,_,rfl,rfl,s5 _ _ e4,hD5,small ?_,fun p6 h6=>?_⟩
    ·rw[List.length_map,List.length_map]
     show 1+ps.length<=1000
     lia
    generalize eH6:upd H5 p6 _=H6
    obtain⟨g6,e6⟩:=aH eH6 h6
    have sall:aN H2 H6:=g3.trans (g4.trans (s5.trans g6))
    refine⟨p6,m::ps.map lsF,rfl,SqL.of e6,by simp,sall _ _ hDl,?_,⟨_,_,rfl⟩,?_,aK (sm.trans sall) hD _,aj⟩
    ·rw[e1,List.length_map,List.length_zipWith,List.length_take]
     exact aG (by lia)
    ·rw[e1,mV rfS hm hps,List.map_append]
     rfl
  ·rintro zs σ H2 ⟨_,e1,sm,hDl⟩
   refine⟨D,_,rfl,.inl ⟨SqL.of hDl,fun l hl'=>?_⟩⟩
   refine q l _ (sm.trans (aA hl' _)) ?_
   rw[aj,e1,List.length_map,List.take_length,hl,List.take_length]
   rfl
noncomputable def abv:List Int->List Int->Bool
 | n::ns,m::ms=>decide (m<=n) && abv ns ms
 | _,_=>true
noncomputable abbrev fL:Stmt:=top 37
theorem fV:aY ["_law_pledge_here","_law_giving_here","_law_found","_law_step","_law_term_here"] ["_law_pledge_here","_law_giving_here"] (aB fL):=⟨rfl,rfl,rfl,by decide+kernel,rfl,by decide+kernel,by decide+kernel⟩
theorem vo {k:Nat} (F:Fun K "_law_owes" "_law_owes" fL f fd) (B:Bt mg)
  (D_law_holds:Df P w K mg base "_law_holds" k ["_law_term_here","_law_giving_here"] (cC K 4)):dz P w K mg base CX0 (k+1) f fd ["_law_pledge_here","_law_giving_here"] (qm K):=by
 refine F.ok fV (fun vs H Q E h=>?_) (fun cdv A outer s H vs Q E hr h=>?_)
 ·obtain⟨a,g,n,p,ns,rfl,_⟩:=h
  rfl
 ·obtain⟨a,g,n,p,ns,rfl,⟨ok,vs,ha,rp⟩,hg,hn,q⟩:=h
  refine⟨_,(au (bj (i:=2) fV.nd rfl (Or.inl rfl) aq)
 (au (eE PassesOwn.never rfl (gk (pv 0)) (dF (K:=K) 2 rfl rfl (bw (aD (i:=3) fV.nd rfl (Or.inl rfl)) (bw (aD (i:=4) fV.nd rfl (Or.inl rfl)) d8))) (aC (cA (iR (bA D_law_holds hr (aa (pv 4) (aa (pv 1) ao)))) (aC (bj (i:=2) fV.nd rfl (Or.inl rfl) (pv 3))) aX)))
 (aC (aL (pv 2))))),?_⟩
  have el:=rp.length
  refine⟨_,rfl,a,rfl,⟨_,SqT.of ha⟩,rE (K:=K) (a:=a) (xs:=vs) (fun i σ H2=>(∃ u v,σ=[some (.ref a),some (.ref g),some (.int (owF ns (p.take i))),u,v])/\aN H H2)
   ⟨⟨_,_,rfl⟩,aN.refl H⟩ (fun i σ H2 _ h=>SqT.of (h.2 _ _ ha)) ?_ ?_⟩
  ·rintro i x σ H2 hx ⟨⟨u,v,rfl⟩,sm⟩
   obtain⟨r,k0,y,t,rfl,hr0,rt,hp⟩:=rp.get hx
   have hm:=List.mem_of_getElem? hp
   have ow:=yp (g:=ns) hp
   refine⟨r,_,rfl,SqT.of (sm _ _ hr0),rfl,_,_,rfl,_,_,rfl,rfl,?_⟩
   refine⟨_,rfl,_,rfl,y,g,n,t,ns,rfl,rt.mono sm,(ok.2.2.2 _ hm).2.2,eQ sm hg,hn,fun H3 s3=>⟨_,rfl,?_⟩⟩
   cases e:hF ns t with
   | true =>
    rw[if_pos e] at ow
    refine jJ ⟨_,rfl,⟨some (.int k0),some y,?_⟩,sm.trans s3⟩
    rw[ow]
    rfl
   | false =>
    rw[if_neg (by rw[e]; exact Bool.false_ne_true)] at ow
    refine gU ⟨⟨some (.int k0),some y,?_⟩,sm.trans s3⟩
    rw[ow]
    rfl
  ·rintro σ H2 ⟨⟨u,v,rfl⟩,sm⟩
   have q':=q H2 sm
   refine⟨_,rfl,?_⟩
   rw[el,List.take_length]
   exact q'
noncomputable abbrev fM:Stmt:=top 38
theorem vY:aY ["_law_some","_law_giving_here"] ["_law_some","_law_giving_here"] (aB fM):=⟨rfl,rfl,rfl,by decide+kernel,rfl,by decide+kernel,by decide+kernel⟩
inductive Bm (K:W.Frag) (vs:List V) (H:Hp) (Q:VK):Prop where
 | mk (c g:Addr) (n:Nat) (as:List Addr) (ps:List Pl) (ns:List Int) (z0:vs=[.ref c,.ref g]) (z1:H c=some (.lst (as.map V.ref))) (z2:as.length<=100) (z3:fY n H as ps) (z4:SqT K H g (ns.map V.int)) (z5:n<=ns.length) (z6:∀ H',aN H H'->Q (.int (duF ns 0 ps)) H'):Bm K vs H Q
noncomputable def BR (K:W.Frag):Sp:=fun vs H Q _=>Bm K vs H Q
theorem vB {k:Nat} (F:Fun K "_law_owed" "_law_owed" fM f fd) (B:Bt mg)
  (D_law_owes:Df P w K mg base "_law_owes" k ["_law_pledge_here","_law_giving_here"] (qm K)):dz P w K mg base CX0 (k+1) f fd ["_law_some","_law_giving_here"] (BR K):=by
 refine F.ok vY (fun vs H Q E h=>?_) (fun cdv A outer s H vs Q E hr h=>?_)
 ·obtain⟨c,g,n,as,ps,ns,rfl,_⟩:=h
  rfl
 ·obtain⟨c,g,n,as,ps,ns,rfl,hc,l100,rps,hg,hn,q⟩:=h
  refine⟨_,(aC (aL (aJ (r:=Ac K) (j8 rfl) rfl B.max_ nH (aa (aU nY (bV (aa aq ao)) (bH (L:=["_law_pledge_here"]) (F:=["_law_giving_here"]) (cap:=[1]) rfl (bx rfl rfl (by kernel_rfl)) (cX (pv 0)) (fun _ _ _ _ _=>(aD (i:=0) (aZ (by decide+kernel)) rfl (Or.inl rfl))) (fun _ _ _ _ _=>bC) (fun _ _ _ _ _=>(bA D_law_owes hr (aa (pv 0) (aa (pv 1) ao)))))) ao)))),?_⟩
  have ell:=rps.length
  refine⟨small (by show 1<=1000; decide),fun p4 h4=>?_⟩
  generalize eH4:upd H p4 _=H4
  obtain⟨g4,e4⟩:=aH eH4 h4
  refine⟨_,rfl,c,rfl,⟨_,SqL.of (g4 _ _ hc)⟩,fun D2 hD2=>cM (K:=K) (a:=c) (xs:=as.map V.ref) (fun j ws σ' H5=>(∃ u,σ'=[u,some (.ref g)])/\ws=((ps.take j).map (owF ns)).map V.int/\aN H4 H5/\H5 D2=some (.lst ws))
   ⟨⟨_,rfl⟩,rfl,aA hD2 _,aj⟩ (fun j ws σ' H5 _ h=>⟨SqL.of (h.2.2.1 _ _ (g4 _ _ hc)),h.2.2.2⟩) ?_ ?_⟩
  ·rintro j ws x σ' H5 hx ⟨⟨u,rfl⟩,e5,s5,hD5⟩
   obtain⟨a,ha,rfl⟩:=wZ hx
   obtain⟨pl,hpl,rpl⟩:=rps.get ha
   refine gT ?_
   refine⟨_,rfl,_,rfl,a,g,n,pl,ns,rfl,rpl.mono (g4.trans s5),eQ (g4.trans s5) hg,hn,fun H6 s6=>?_⟩
   refine⟨s6 _ _ hD5,?_,⟨_,rfl⟩,?_,aK (s5.trans s6) hD2 _,aj⟩
   ·rw[e5,List.length_map,List.length_map,List.length_take]
    exact aG (by lia)
   ·rw[e5,take_snoc (owF ns) hpl,List.map_append]
    rfl
  ·rintro ws σ' H5 ⟨_,e5,s5,hD5⟩
   rw[List.length_map,ell,List.take_length] at e5
   subst e5
   refine⟨p4,D2,_,_,rfl,rfl,s5 _ _ e4,hD5,small ?_,fun p6 h6=>?_⟩
   ·rw[List.length_map,List.length_map]
    show 1+ps.length<=1000
    lia
   generalize eH6:upd H5 p6 _=H6
   obtain⟨g6,e6⟩:=aH eH6 h6
   refine⟨p6,0::ps.map (owF ns),rfl,SqL.of e6,by simp,?_⟩
   exact q H6 (g4.trans (s5.trans g6))
theorem Jm {p:Pl} {x:Int × Tm} (ok:okP p) (h:p[p.length - 1]? = some x):lsF p=x.1:=by
 have hne:=ok.1
 have e:p=p.dropLast++[x]:=by
  rw[← List.getLast?_eq_getElem?,List.getLast?_eq_some_getLast hne] at h
  rw[← Option.some.inj h]
  exact (List.dropLast_concat_getLast hne).symm
 have hp:=ok.2.2.1
 rw[e] at hp ⊢
 exact Fx hp
noncomputable abbrev fG:Stmt:=top 41
theorem jD:aY ["_law_book_here","_law_floor","_law_found","_law_at"] ["_law_book_here","_law_floor"] (aB fG):=⟨rfl,rfl,rfl,by decide+kernel,rfl,by decide+kernel,by decide+kernel⟩
theorem wI (F:Fun K "_law_roof" "_law_roof" fG f fd) (B:Bt mg) :
  dz P w K mg base CX0 1 f fd ["_law_book_here","_law_floor"] (pZ K):=by
 refine F.ok jD (fun vs H Q E h=>?_) (fun cdv A outer s H vs Q E hr h=>?_)
 ·obtain⟨b,f,n,bk,fl,rfl,_⟩:=h
  rfl
 ·obtain⟨b,f,n,bk,fl,rfl,⟨us,hb,rb,l12⟩,hf,hl,q⟩:=h
  refine⟨_,(au (bj (i:=2) jD.nd rfl (Or.inl rfl) (bV ao))
 (au (eE PassesOwn.never rfl (bQ rfl B.range_ (aa (aJ (r:=vh K) bU rfl B.len_ gh (aa (pv 0) ao)) ao)) (aD (i:=3) jD.nd rfl (Or.inl rfl)) (aC (iQ (sZ PySem.F.plainAttrs_list PySem.F.slot_list_append PySem.F.type_list_append cV (pv 2) (aa (aJ (r:=Ac K) (j8 rfl) rfl B.max_ nH (aa (aU nY (bV (aa (aQ (r:=eO K) bh (pv 1) (pv 3) (fun _ _=>rfl)) ao)) (bH (L:=["_law_pledge_here"]) (F:=[]) (cap:=[]) rfl (bx rfl rfl (by kernel_rfl)) (cX (aQ (r:=ik K) bc (pv 0) (pv 3) (fun _ _=>rfl))) (fun _ _ _ _ _=>(aD (i:=0) (aZ (by decide+kernel)) rfl (Or.inl rfl))) (fun _ _ _ _ _=>bC) (fun _ _ _ _ _=>(aQ (r:=eO K) bh (aQ (r:=eO K) bh (pv 0) (Bw uV aq) (fun _ _=>rfl)) aq (fun _ _=>rfl))))) ao)) ao)))))
 (aC (aL (bI (r:=gC K) bJ rfl B.tuple_ cI (aa (pv 2) ao)))))),?_⟩
  have el:=rb.length
  refine⟨small (Nat.zero_le _),fun r hr0=>?_⟩
  generalize eH1:upd H r _=H1
  obtain⟨g1,e1⟩:=aH eH1 hr0
  refine⟨_,rfl,b,_,rfl,.inl (SqL.of (g1 _ _ hb)),_,rfl,by lia,by lia,eN (lo:=0) (n:=us.length) (fun i σ H2=>(∃ u,σ=[some (.ref b),some (.ref f),some (.ref r),u])/\aN H H2/\H2 r=some (.lst ((List.zipWith rfS (fl.take i) (bk.take i)).map V.int)))
   ⟨⟨_,rfl⟩,g1,e1⟩ ?_ ?_⟩
  ·rintro i σ H2 hi ⟨⟨u,rfl⟩,sm,hr2⟩
   have jn:i < fl.length:=by lia
   have at1:atI (fl.map V.int) (0+(i:Int))=some (.int fl[i]):=by rw[Int.zero_add]; exact iW jn
   have hy:us[i]? = some us[i]:=List.getElem?_eq_getElem hi
   obtain⟨c,as,ps,ec,hps,hc,l100,rps⟩:=rb.get hy
   have ell:=rps.length
   have at2:atI us (0+(i:Int))=some (.ref c):=by rw[Int.zero_add,← ec]; exact iz hy
   refine⟨_,rfl,.inl ⟨rfl,_,SqL.of hr2⟩,_,rfl,_,rfl,f,_,_,_,rfl,rfl,eQ sm hf,at1,small (by show 1<=1000; decide),fun p4 h4=>?_⟩
   generalize eH4:upd H2 p4 _=H4
   obtain⟨g4,e4⟩:=aH eH4 h4
   have s4:aN H H4:=sm.trans g4
   refine⟨_,rfl,_,rfl,b,_,_,_,rfl,rfl,SqL.of (s4 _ _ hb),at2,c,rfl,⟨_,SqL.of (s4 _ _ hc)⟩,fun D2 hD2=>cM (K:=K) (a:=c) (xs:=as.map V.ref) (fun j ws σ' H5=>(∃ u,σ'=[u])/\ws=((ps.take j).map lsF).map V.int/\aN H4 H5/\H5 D2=some (.lst ws))
    ⟨⟨_,rfl⟩,rfl,aA hD2 _,aj⟩ (fun j ws σ' H5 _ h=>⟨SqL.of (h.2.2.1 _ _ (s4 _ _ hc)),h.2.2.2⟩) ?_ ?_⟩
   ·rintro j ws x σ' H5 hx ⟨⟨u,rfl⟩,e5,s5,hD5⟩
    obtain⟨a,ha,rfl⟩:=wZ hx
    obtain⟨pl,hpl,ok,vs,hav,rv⟩:=rps.get ha
    have lv:=rv.length
    have lne:0 < pl.length:=List.length_pos_iff.mpr ok.1
    have hlast:vs[vs.length - 1]? = some (vs[vs.length - 1]'(by lia)):=List.getElem?_eq_getElem (by lia)
    obtain⟨r0,k0,y,t,er,hr0',rt,hp⟩:=rv.get hlast
    rw[er] at hlast
    rw[lv] at hp
    have s45:=s4.trans s5
    refine gT ?_
    refine⟨_,rfl,_,rfl,a,_,_,_,rfl,rfl,SqT.of (s45 _ _ hav),CJ hlast,r0,_,_,_,rfl,rfl,SqT.of (s45 _ _ hr0'),aF (k:=0) rfl,hD5,?_,⟨_,rfl⟩,?_,aK s5 hD2 _,aj⟩
    ·rw[e5,List.length_map,List.length_map,List.length_take]
     exact aG (by lia)
    ·rw[e5,take_snoc lsF hpl,List.map_append,Jm ok hp]
     rfl
   ·rintro ws σ' H5 ⟨_,e5,s5,hD5⟩
    rw[List.length_map,ell,List.take_length] at e5
    subst e5
    refine⟨p4,D2,_,_,rfl,rfl,s5 _ _ e4,hD5,small ?_,fun p6 h6=>?_⟩
    ·rw[List.length_map,List.length_map]
     show 1+ps.length<=1000
     lia
    generalize eH6:upd H5 p6 _=H6
    obtain⟨g6,e6⟩:=aH eH6 h6
    have sall:aN H2 H6:=g4.trans (s5.trans g6)
    refine⟨p6,fl[i]::ps.map lsF,rfl,SqL.of e6,by simp,r,_,_,rfl,rfl,sall _ _ hr2,?_,⟨_,rfl⟩,aK (sm.trans sall) hr0 _,?_⟩
    ·rw[List.length_map,List.length_zipWith,List.length_take]
     exact aG (by lia)
    ·rw[aj,mV rfS (List.getElem?_eq_getElem jn) hps,List.map_append]
     rfl
  ·rintro σ H2 ⟨⟨u,rfl⟩,sm,hr2⟩
   refine⟨_,rfl,r,_,rfl,.inl ⟨SqL.of hr2,fun l hl'=>?_⟩⟩
   refine q l _ (sm.trans (aA hl' _)) ?_
   rw[aj,el,List.take_length,← hl,List.take_length]
   rfl
noncomputable abbrev dI:Stmt:=top 42
theorem uL:aY ["_law_one","_law_other"] ["_law_one","_law_other"] (aB dI):=⟨rfl,rfl,rfl,by decide+kernel,rfl,by decide+kernel,by decide+kernel⟩
noncomputable def geB (n m:Int):Bool:=decide (m<=n)
theorem Cv : ∀ {ns ms : List Int}, ns.length = ms.length → (List.zipWith geB ns ms).all (fun b => b) = abv ns ms
  | [], [], _ => by rw [abv]; · rfl
                    all_goals simp
  | n :: ns, m :: ms, h => by
    rw [List.zipWith_cons_cons, List.all_cons, abv, Cv (by simpa using h)]
    rfl
inductive tH (K:W.Frag) (vs:List V) (H:Hp) (Q:VK):Prop where
 | mk (a b:Addr) (ns ms:List Int) (z0:vs=[.ref a,.ref b]) (z1:SqT K H a (ns.map V.int)) (z2:SqT K H b (ms.map V.int)) (z3:ns.length=ms.length) (z4:ns.length<=1000) (z5:∀ H',aN H H'->Q (.bl (abv ns ms)) H'):tH K vs H Q
noncomputable def rJ (K:W.Frag):Sp:=fun vs H Q _=>tH K vs H Q
theorem tQ (F:Fun K "_law_above" "_law_above" dI f fd) (B:Bt mg) :
  dz P w K mg base CX0 1 f fd ["_law_one","_law_other"] (rJ K):=by
 refine F.ok uL (fun vs H Q E h=>?_) (fun cdv A outer s H vs Q E hr h=>?_)
 ·obtain⟨a,b,ns,ms,rfl,_⟩:=h
  rfl
 ·obtain⟨a,b,ns,ms,rfl,hA,hB,hl,hk,q⟩:=h
  refine⟨_,(aC (aL (aJ (r:=Eb K) (mY rfl) rfl B.all_ Dh (aa (bH (L:=["_law_at"]) (F:=["_law_one","_law_other"]) (cap:=[0,1]) rfl (bx rfl rfl (by kernel_rfl)) (bQ rfl B.range_ (aa (aJ (r:=vh K) bU rfl B.len_ gh (aa (pv 0) ao)) ao)) (fun _ _ _ _ _=>(aD (i:=0) (aZ (by decide+kernel)) rfl (Or.inl rfl))) (fun _ _ _ _ _=>bC) (fun _ _ _ _ _=>(cO o6 (aQ (r:=eO K) bh (pv 1) (pv 0) (fun _ _=>rfl)) (aQ (r:=eO K) bh (pv 2) (pv 0) (fun _ _=>rfl)) (aR _)))) ao)))),?_⟩
  have ll:(ns.map V.int).length=ns.length:=List.length_map _
  refine⟨_,rfl,a,_,rfl,.inr hA,_,rfl,by lia,by lia,fun D hD=>dh (lo:=0) (n:=(ns.map V.int).length) (fun i zs σ' H2=>(∃ v,σ'=[v,some (.ref a),some (.ref b)])/\zs=(List.zipWith geB (ns.take i) (ms.take i)).map V.bl/\aN H H2/\H2 D=some (.lst zs))
   ⟨⟨_,rfl⟩,rfl,aA hD _,aj⟩ (fun i zs σ' H2 _ h=>h.2.2.2) ?_ ?_⟩
  ·rintro i zs σ' H2 hi ⟨⟨v,rfl⟩,e1,sm,hDl⟩
   have jn:i < ns.length:=by lia
   have jm:i < ms.length:=by lia
   have at1:atI (ns.map V.int) (0+(i:Int))=some (.int ns[i]):=by rw[Int.zero_add]; exact iW jn
   have at2:atI (ms.map V.int) (0+(i:Int))=some (.int ms[i]):=by rw[Int.zero_add]; exact iW jm
   refine gT ?_
   refine⟨_,rfl,_,rfl,a,_,_,_,rfl,rfl,eQ sm hA,at1,_,rfl,_,rfl,b,_,_,_,rfl,rfl,eQ sm hB,at2,_,_,rfl,rfl,hDl,?_,⟨_,rfl⟩,?_,aK sm hD _,aj⟩
   ·rw[e1,List.length_map,List.length_zipWith,List.length_take]
    exact aG (by lia)
   ·rw[e1,mV geB (List.getElem?_eq_getElem jn) (List.getElem?_eq_getElem jm),List.map_append]
    rfl
  ·rintro zs σ' H2 ⟨_,e1,sm,hDl⟩
   refine⟨D,List.zipWith geB ns ms,rfl,SqL.of (by rw[hDl,e1,ll,List.take_length,hl,List.take_length]),?_⟩
   rw[Cv hl]
   exact q H2 sm
noncomputable def itF (f:List Int->List Int) (x:List Int):Nat->List Int
 | 0=>x
 | k+1=>f (itF f x k)
noncomputable def Stops (f:List Int->List Int) (x:List Int) (m:Nat):Prop:=f (itF f x m)=itF f x m/\∀ j < m,f (itF f x j)≠itF f x j
noncomputable def mD (f:List Int->List Int) (x:List Int) (m:Nat):List (List Int):=(List.range (m+1)).map (itF f x)
theorem lU (f:List Int->List Int) (x:List Int) (m:Nat):(mD f x m).length=m+1:=by
 unfold mD
 rw[List.length_map,List.length_range]
theorem zJ (f:List Int->List Int) (x:List Int) (m:Nat):mD f x (m+1)=mD f x m++[itF f x (m+1)]:=by
 unfold mD
 rw[List.range_succ,List.map_append]
 rfl
theorem zz (f:List Int->List Int) (x:List Int) (m:Nat):(mD f x m)[(mD f x m).length - 1]? = some (itF f x m):=by
 rw[lU,Nat.add_sub_cancel]
 unfold mD
 rw[List.getElem?_map,List.getElem?_range (Nat.lt_succ_self m)]
 rfl
theorem mW {f:List Int->List Int} {x:List Int} (φ:List Int->Int) (N:Nat) (b0:∀ k,0<=φ (itF f x k)) (bN:∀ k,φ (itF f x k)<=(N:Int)) (up:∀ k,f (itF f x k)≠itF f x k->φ (itF f x k) < φ (itF f x (k+1))):∃ m,m<=N/\Stops f x m:=by
 have key:∀ k,(∃ m,m < k/\Stops f x m)∨((∀ j < k,f (itF f x j)≠itF f x j)/\(k:Int)<=φ (itF f x k)):=by
  intro k
  induction k with
  | zero=>exact .inr ⟨fun j h=>absurd h (Nat.not_lt_zero _),by simpa using b0 0⟩
  | succ k ih =>
   rcases ih with⟨m,h1,h2⟩ | ⟨h1,h2⟩
   ·exact .inl ⟨m,by lia,h2⟩
   ·by_cases e:f (itF f x k)=itF f x k
    ·exact .inl ⟨k,Nat.lt_succ_self k,e,h1⟩
    ·refine .inr ⟨fun j hj=>?_,by have:=up k e; lia⟩
     rcases Nat.lt_or_ge j k with z | z
     ·exact h1 j z
     ·have:j=k:=by lia
      subst this
      exact e
 rcases key (N+1) with⟨m,h1,h2⟩ | ⟨_,h2⟩
 ·exact⟨m,by lia,h2⟩
 ·have:=bN (N+1)
  lia
theorem xF {g g':List Int} (hl:g.length=g'.length) (h:∀ i,i < g.length->g.getD i 0<=g'.getD i 0):LeG g g':=fun i=>by
 by_cases hi:i < g.length
 ·exact h i hi
 ·rw[List.getD_eq_getElem?_getD,List.getElem?_eq_none (by lia),List.getD_eq_getElem?_getD,List.getElem?_eq_none (by lia)]
  exact Int.le_refl _
theorem Hi {g:List Int} {p:Pl} {b:Int} (h0:0<=b) (h:∀ x∈p,x.1<=b):owF g p<=b:=by
 have key:∀ (p:Pl) (f:Int),f<=b->(∀ x∈p,x.1<=b)->p.foldl (owS g) f<=b:=by
  intro p
  induction p with
  | nil=>intro f hf _; exact hf
  | cons x r ih =>
   intro f hf hx
   rw[List.foldl_cons]
   refine ih _ ?_ fun y hy=>hx y (List.mem_cons_of_mem _ hy)
   unfold owS
   split
   ·exact hx x List.mem_cons_self
   ·exact hf
 exact key p 0 h0 h
theorem Em {g g':List Int} (l:LeG g g') {p:Pl} (ok:okP p):owF g p<=owF g' p:=by
 have key:∀ (p:Pl) (f f':Int),f<=f'->(∀ x∈p,f' < x.1)->(p.map (·.1)).Pairwise (· < ·)->p.foldl (owS g) f<=p.foldl (owS g') f':=by
  intro p
  induction p with
  | nil=>intro f f' hf _ _; exact hf
  | cons x r ih =>
   intro f f' hf hx hp
   rw[List.map_cons,List.pairwise_cons] at hp
   rw[List.foldl_cons,List.foldl_cons]
   have hr:∀ y∈r,x.1 < y.1:=fun y hy=>hp.1 y.1 (List.mem_map.mpr ⟨y,hy,rfl⟩)
   have hx0:=hx x List.mem_cons_self
   have hfr:∀ y∈r,f' < y.1:=fun y hy=>by have:=hr y hy; lia
   unfold owS
   by_cases c:hF g x.2=true
   ·rw[if_pos c,if_pos (vG l _ c)]
    exact ih _ _ (Int.le_refl _) hr hp.2
   ·rw[if_neg c]
    by_cases c':hF g' x.2=true
    ·rw[if_pos c']
     exact ih _ _ (by lia) hr hp.2
    ·rw[if_neg c']
     exact ih _ _ hf hfr hp.2
 exact key p 0 0 (Int.le_refl _) (fun x hx=>by have:=(ok.2.2.2 x hx).1; lia) ok.2.2.1
theorem gA {b:Int}:∀ (l:List Int) (a:Int),a<=b->(∀ x∈l,x<=b)->l.foldl max a<=b
 | [],a,h,_=>h
 | y::l,a,h,hl=>by
  rw[List.foldl_cons]
  exact gA l _ (by have:=hl y List.mem_cons_self; lia) fun x hx=>hl x (List.mem_cons_of_mem _ hx)
theorem gP {α:Type} (u v:α->Int):∀ (l:List α) (a b:Int),a<=b->(∀ x∈l,u x<=v x)->(l.map u).foldl max a<=(l.map v).foldl max b
 | [],a,b,h,_=>h
 | y::l,a,b,h,hl=>by
  rw[List.map_cons,List.map_cons,List.foldl_cons,List.foldl_cons]
  exact gP u v l _ _ (by have:=hl y List.mem_cons_self; lia) fun x hx=>hl x (List.mem_cons_of_mem _ hx)
noncomputable def okB (bk:List (List Pl)):Prop:=∀ ps∈bk,∀ p∈ps,okP p
theorem xU {g g':List Int} (l:LeG g g') {ps:List Pl} (ok:∀ p∈ps,okP p) {f f':Int} (h:f<=f'):duF g f ps<=duF g' f' ps:=gP _ _ ps f f' h fun p hp=>Em l (ok p hp)
theorem Gy (g:List Int) (f:Int) (ps:List Pl):f<=duF g f ps:=(gF _ f).1
theorem HB (g:List Int) {f:Int} (h:f<=9) {ps:List Pl} (ok:∀ p∈ps,okP p):duF g f ps<=9:=by
 refine gA _ f h fun x hx=>?_
 obtain⟨p,hp,rfl⟩:=List.mem_map.mp hx
 exact Hi (by decide) fun y hy=>((ok p hp).2.2.2 y hy).2.1
theorem G4 {p:Pl} {x:Int × Tm} (h:x∈p):x.1<=lsF p:=by
 unfold lsF
 cases p with
 | nil=>cases h
 | cons y r =>
  show x.1<=(r.map (·.1)).foldl max y.1
  obtain⟨h1,h2⟩:=gF (r.map (·.1)) y.1
  rcases List.mem_cons.mp h with rfl | h
  ·exact h1
  ·exact h2 x.1 (List.mem_map.mpr ⟨x,h,rfl⟩)
theorem Jb {g:List Int} {p:Pl} (ok:okP p):owF g p<=lsF p:=by
 have hne:=ok.1
 refine Hi ?_ fun x hx=>G4 hx
 cases p with
 | nil=>exact absurd rfl hne
 | cons y r =>
  have:=G4 (p:=y::r) (x:=y) List.mem_cons_self
  have:=(ok.2.2.2 y List.mem_cons_self).1
  lia
theorem HH (g:List Int) (f:Int) {ps:List Pl} (ok:∀ p∈ps,okP p):duF g f ps<=rfS f ps:=gP _ _ ps f f (Int.le_refl _) fun p hp=>Jb (ok p hp)
theorem Jv {p:Pl} (ok:okP p):lsF p<=9:=by
 cases p with
 | nil=>exact absurd rfl ok.1
 | cons y r =>
  show (r.map (·.1)).foldl max y.1<=9
  refine gA _ _ (ok.2.2.2 y List.mem_cons_self).2.1 fun x hx=>?_
  obtain⟨z,hz,rfl⟩:=List.mem_map.mp hx
  exact (ok.2.2.2 z (List.mem_cons_of_mem _ hz)).2.1
theorem Jf {f:Int} (h:f<=9) {ps:List Pl} (ok:∀ p∈ps,okP p):rfS f ps<=9:=by
 refine gA _ f h fun x hx=>?_
 obtain⟨p,hp,rfl⟩:=List.mem_map.mp hx
 exact Jv (ok p hp)
theorem Ke (f:Int) (ps:List Pl):f<=rfS f ps:=(gF _ f).1
theorem eY {α:Type} (f:Int->α->Int) {xs:List Int} {ys:List α} {i:Nat} (h1:i < xs.length) (h2:i < ys.length):(List.zipWith f xs ys).getD i 0=f (xs.getD i 0) ys[i]:=by
 rw[List.getD_eq_getElem?_getD,List.getElem?_zipWith,List.getElem?_eq_getElem h1,List.getElem?_eq_getElem h2,List.getD_eq_getElem?_getD,List.getElem?_eq_getElem h1]
 rfl
theorem fX:∀ {g g':List Int},g.length=g'.length->(∀ i,i < g.length->g.getD i 0<=g'.getD i 0)->g.sum<=g'.sum/\(g.sum=g'.sum->g=g')
 | [],[],_,_=>⟨Int.le_refl _,fun _=>rfl⟩
 | a::g,b::g',hl,h=>by
  have h0:a<=b:=h 0 (Nat.succ_pos _)
  obtain⟨h1,h2⟩:=fX (g:=g) (g':=g') (by simpa using hl) fun i hi=>by
   have:=h (i+1) (by rw[List.length_cons]; lia)
   simpa using this
  rw[List.sum_cons,List.sum_cons]
  refine⟨by lia,fun e=>?_⟩
  have e1:a=b:=by lia
  have e2:g.sum=g'.sum:=by lia
  rw[e1,h2 e2]
theorem sum_bound {g:List Int} (h:∀ x∈g,0<=x/\x<=9):0<=g.sum/\g.sum<=9 * (g.length:Int):=by
 induction g with
 | nil=>exact⟨Int.le_refl _,by simp⟩
 | cons a g ih =>
  have:=h a List.mem_cons_self
  have:=ih fun x hx=>h x (List.mem_cons_of_mem _ hx)
  rw[List.sum_cons,List.length_cons]
  lia
noncomputable def okG (n:Nat) (g:List Int):Prop:=g.length=n/\∀ x∈g,0<=x/\x<=9
theorem iw {n:Nat} {g:List Int} (h:okG n g) {i:Nat} (hi:i < n):0<=g.getD i 0/\g.getD i 0<=9:=by
 have hi':i < g.length:=by rw[h.1]; exact hi
 rw[List.getD_eq_getElem?_getD,List.getElem?_eq_getElem hi']
 exact h.2 _ (List.getElem_mem hi')
theorem xJ {n:Nat} {g:List Int} (hl:g.length=n) (h:∀ i,i < n->0<=g.getD i 0/\g.getD i 0<=9):okG n g:=by
 refine⟨hl,fun x hx=>?_⟩
 obtain⟨i,hi,e⟩:=List.getElem_of_mem hx
 have:=h i (by lia)
 rw[List.getD_eq_getElem?_getD,List.getElem?_eq_getElem hi,e] at this
 exact this
section
variable {n:Nat} {fl:List Int} {bk:List (List Pl)}
theorem cQ (hb:bk.length=n) (ok:okB bk) (hf:okG n fl) (g:List Int):okG n (dN g fl bk):=by
 refine xJ (by rw[vy (by rw[hf.1,hb])]; exact hb) fun i hi=>?_
 have h1:i < fl.length:=by rw[hf.1]; exact hi
 have h2:i < bk.length:=by lia
 unfold dN
 rw[eY (duF g) h1 h2]
 have:=iw hf hi
 have:=Gy g (fl.getD i 0) bk[i]
 have:=HB g (f:=fl.getD i 0) (by lia) (ok bk[i] (List.getElem_mem h2))
 lia
theorem gB (hb:bk.length=n) (ok:okB bk) (hf:okG n fl) {g g':List Int} (l:LeG g g'):LeG (dN g fl bk) (dN g' fl bk):=by
 have l1:=(cQ hb ok hf g).1
 have l2:=(cQ hb ok hf g').1
 refine xF (by lia) fun i hi=>?_
 have h1:i < fl.length:=by rw[hf.1]; lia
 have h2:i < bk.length:=by lia
 unfold dN
 rw[eY (duF g) h1 h2,eY (duF g') h1 h2]
 exact xU l (ok bk[i] (List.getElem_mem h2)) (Int.le_refl _)
theorem jb (hb:bk.length=n) (ok:okB bk) (hf:okG n fl) (g:List Int):LeG fl (dN g fl bk):=by
 have l1:=(cQ hb ok hf g).1
 refine xF (by rw[hf.1]; lia) fun i hi=>?_
 have h2:i < bk.length:=by rw[hf.1] at hi; lia
 unfold dN
 rw[eY (duF g) hi h2]
 exact Gy _ _ _
theorem jW (hb:bk.length=n) (ok:okB bk) (hf:okG n fl):okG n (rfF fl bk):=by
 have hl:(rfF fl bk).length=n:=by
  unfold rfF
  rw[List.length_zipWith,hf.1,hb,Nat.min_self]
 refine xJ hl fun i hi=>?_
 have h1:i < fl.length:=by rw[hf.1]; exact hi
 have h2:i < bk.length:=by lia
 unfold rfF
 rw[eY rfS h1 h2]
 have:=iw hf hi
 have:=Ke (fl.getD i 0) bk[i]
 have:=Jf (f:=fl.getD i 0) (by lia) (ok bk[i] (List.getElem_mem h2))
 lia
theorem mO (hb:bk.length=n) (ok:okB bk) (hf:okG n fl) (g:List Int):LeG (dN g fl bk) (rfF fl bk):=by
 have l1:=(cQ hb ok hf g).1
 have l2:=(jW hb ok hf).1
 refine xF (by lia) fun i hi=>?_
 have h1:i < fl.length:=by rw[hf.1]; lia
 have h2:i < bk.length:=by lia
 unfold dN rfF
 rw[eY (duF g) h1 h2,eY rfS h1 h2]
 exact HH g _ (ok bk[i] (List.getElem_mem h2))
theorem ig (hb:bk.length=n) (ok:okB bk) (hf:okG n fl) {x:List Int} (hx:okG n x):∀ k,okG n (itF (fun g=>dN g fl bk) x k)
 | 0=>hx
 | k+1=>cQ hb ok hf _
theorem Kc (hb:bk.length=n) (ok:okB bk) (hf:okG n fl) {x:List Int} (h:LeG x (dN x fl bk)):∀ k,LeG (itF (fun g=>dN g fl bk) x k) (itF (fun g=>dN g fl bk) x (k+1))
 | 0=>h
 | k+1=>gB hb ok hf (Kc hb ok hf h k)
theorem Cm (hb:bk.length=n) (ok:okB bk) (hf:okG n fl) {x:List Int} (h:LeG (dN x fl bk) x):∀ k,LeG (itF (fun g=>dN g fl bk) x (k+1)) (itF (fun g=>dN g fl bk) x k)
 | 0=>h
 | k+1=>gB hb ok hf (Cm hb ok hf h k)
theorem Ew (hb:bk.length=n) (ok:okB bk) (hf:okG n fl) {x:List Int} (hx:okG n x) (h:LeG x (dN x fl bk)):∃ m,m<=9 * n/\Stops (fun g=>dN g fl bk) x m:=by
 refine mW List.sum (9 * n) (fun k=>(sum_bound (ig hb ok hf hx k).2).1) (fun k=>?_) (fun k ne=>?_)
 ·have:=(sum_bound (ig hb ok hf hx k).2).2
  rw[(ig hb ok hf hx k).1] at this
  lia
 ·obtain⟨h1,h2⟩:=fX ((ig hb ok hf hx k).1.trans (ig hb ok hf hx (k+1)).1.symm) fun i _=>Kc hb ok hf h k i
  have:List.sum (itF (fun g=>dN g fl bk) x k)≠List.sum (itF (fun g=>dN g fl bk) x (k+1)):=fun e=>ne (h2 e).symm
  lia
theorem zF (hb:bk.length=n) (ok:okB bk) (hf:okG n fl) {x:List Int} (hx:okG n x) (h:LeG (dN x fl bk) x):∃ m,m<=9 * n/\Stops (fun g=>dN g fl bk) x m:=by
 refine mW (fun g=>9 * (n:Int) - g.sum) (9 * n) (fun k=>?_) (fun k=>?_) (fun k ne=>?_)
 ·have:=(sum_bound (ig hb ok hf hx k).2).2
  rw[(ig hb ok hf hx k).1] at this
  show 0<=9 * (n:Int) - List.sum _
  lia
 ·have:=(sum_bound (ig hb ok hf hx k).2).1
  show 9 * (n:Int) - List.sum _<=_
  lia
 ·obtain⟨h1,h2⟩:=fX ((ig hb ok hf hx (k+1)).1.trans (ig hb ok hf hx k).1.symm) fun i _=>Cm hb ok hf h k i
  have:List.sum (itF (fun g=>dN g fl bk) x (k+1))≠List.sum (itF (fun g=>dN g fl bk) x k):=fun e=>ne (h2 e)
  show 9 * (n:Int) - List.sum _ < 9 * (n:Int) - List.sum _
  lia
end
inductive jB (H:Hp):List V->List (List Int)->Prop where
 | nil:jB H [] []
 | cons {a:Addr} {g:List Int} {us:List V} {gs:List (List Int)}:H a=some (.tup (g.map V.int))->g.length<=1000->jB H us gs->jB H (.ref a::us) (g::gs)
theorem jB.cD {H H':Hp} (e:∀ a xs,H a=some (HO.tup xs)->H' a=some (HO.tup xs)):∀ {us:List V} {gs:List (List Int)},jB H us gs->jB H' us gs
 | _,_,.nil=>.nil
 | _,_,.cons h l r=>.cons (e _ _ h) l (jB.cD e r)
theorem jB.mono {H H':Hp} (e:aN H H') {us:List V} {gs:List (List Int)} (h:jB H us gs):jB H' us gs:=h.cD fun a xs q=>e a _ q
theorem jB.length {H:Hp}:∀ {us:List V} {gs:List (List Int)},jB H us gs->us.length=gs.length
 | _,_,.nil=>rfl
 | _,_,.cons _ _ r=>by rw[List.length_cons,List.length_cons,jB.length r]
theorem jB.get {H:Hp}:∀ {us:List V} {gs:List (List Int)} {i:Nat} {g:List Int},jB H us gs->gs[i]? = some g->∃ a,us[i]? = some (.ref a)/\H a=some (.tup (g.map V.int))
 | _,_,_,_,.nil,h=>by simp at h
 | _,_,0,_,.cons h _ _,e=>by
  cases (show some _=some _ from e)
  exact⟨_,rfl,h⟩
 | _,_,i+1,_,.cons _ _ r,e=>by
  obtain⟨a,h1,h2⟩:=jB.get (i:=i) r (by simpa using e)
  exact⟨a,by simpa using h1,h2⟩
theorem jB.snoc {H:Hp} {a:Addr} {g:List Int} (h:H a=some (.tup (g.map V.int))) (hl:g.length<=1000):∀ {us:List V} {gs:List (List Int)},jB H us gs->jB H (us++[.ref a]) (gs++[g])
 | _,_,.nil=>.cons h hl .nil
 | _,_,.cons x y r=>.cons x y (jB.snoc h hl r)
theorem dX.okB {n:Nat} {H:Hp}:∀ {us:List V} {bk:List (List Pl)},dX n H us bk->okB bk
 | _,_,.nil=>fun ps h=>by cases h
 | _,_,.cons _ _ p r=>fun ps h q hq=>by
  rcases List.mem_cons.mp h with rfl | h
  ·obtain⟨i,hi,e⟩:=List.getElem_of_mem hq
   have hlen:=p.length
   obtain⟨q',e1,e2⟩:=p.get (i:=i) (List.getElem?_eq_getElem (by lia))
   rw[List.getElem?_eq_getElem hi,e] at e1
   cases e1
   exact e2.1
  ·exact dX.okB r ps h q hq
theorem o7.okB {n:Nat} {H:Hp} {b:Addr} {bk:List (List Pl)} (h:o7 n H b bk):okB bk:=by
 obtain⟨us,_,h2,_⟩:=h
 exact h2.okB
noncomputable abbrev Fd (fl:List Int) (bk:List (List Pl)):List Int->List Int:=fun g=>dN g fl bk
noncomputable abbrev gW:Stmt:=top 12
theorem jh:aY ["book","floor","giving","row","due"] ["book","floor","giving"] (aB gW):=⟨rfl,rfl,rfl,by decide+kernel,rfl,by decide+kernel,by decide+kernel⟩
inductive qj (K:W.Frag) (vs:List V) (H:Hp) (Q:VK):Prop where
 | mk (b f g:Addr) (n:Nat) (bk:List (List Pl)) (fl x:List Int) (m:Nat) (z0:vs=[.ref b,.ref f,.ref g]) (z1:o7 n H b bk) (z2:bk.length=n) (z3:H f=some (.tup (fl.map V.int))) (z4:okG n fl) (z5:H g=some (.tup (x.map V.int))) (z6:okG n x) (z7:m<=9 * n) (z8:Stops (Fd fl bk) x m) (z9:∀ (r:Addr) (us:List V) (H':Hp),aN H H'->H r=none->H' r=some (.lst us)->jB H' us (mD (Fd fl bk) x m)->Q (.ref r) H'):qj K vs H Q
noncomputable def jO (K:W.Frag):Sp:=fun vs H Q _=>qj K vs H Q
theorem qF {H:Hp} {us:List V} {F:List Int->List Int} {x:List Int} {j:Nat} (h:jB H us (mD F x j)):∃ a,atI us (-1)=some (.ref a)/\H a=some (.tup ((itF F x j).map V.int)):=by
 have hl:=h.length
 obtain⟨a,h1,h2⟩:=h.get (zz F x j)
 rw[← hl] at h1
 exact⟨a,CJ h1,h2⟩
noncomputable def BJ (H:Hp) (r:Addr):Nat:=match H r with
 | some (.lst us)=>us.length
 | _=>0
theorem yH {H:Hp} {r:Addr} {us:List V} (h:H r=some (.lst us)):BJ H r=us.length:=by unfold BJ; rw[h]
theorem zc {k:Nat} (F:Fun K "settled" "settled" gW f fd) (B:Bt mg)
  (D_what_is_due:Df P w K mg base "what_is_due" k ["book","floor","giving"] (IV K)):dz P w K mg base CX0 (k+1) f fd ["book","floor","giving"] (jO K):=by
 refine F.ok jh (fun vs H Q E h=>?_) (fun cdv A outer s H vs Q E hr h=>?_)
 ·obtain⟨b,f,g,n,bk,fl,x,m,rfl,_⟩:=h
  rfl
 ·obtain⟨b,f,g,n,bk,fl,x,m,rfl,hb,lb,hf,of,hg,ox,hm,st,q⟩:=h
  refine⟨_,(au (bj (i:=3) jh.nd rfl (Or.inl rfl) (bV (aa (pv 2) ao)))
 (au (bj (i:=4) jh.nd rfl (Or.inl rfl) (bA D_what_is_due hr (aa (pv 0) (aa (pv 1) (aa (pv 2) ao)))))
 (au (xQ PassesOwn.never (aP (r:=JT K) (HY hr.iV) (pv 4) (aQ (r:=ik K) bc (pv 3) (Bw uV aq) (fun _ _=>rfl)) (aR _)) (au (iQ (sZ PySem.F.plainAttrs_list PySem.F.slot_list_append PySem.F.type_list_append cV (pv 3) (aa (pv 4) ao)))
 (aC (bj (i:=4) jh.nd rfl (Or.inl rfl) (bA D_what_is_due hr (aa (pv 0) (aa (pv 1) (aa (pv 4) ao))))))))
 (aC (aL (pv 3)))))),?_⟩
  have okb:=hb.okB
  have b12:n<=12:=by obtain⟨_,_,_,h⟩:=hb; lia
  have og:∀ j,okG n (itF (Fd fl bk) x j):=ig lb okb of ox
  have f0:∀ y∈fl,0<=y:=fun y hy=>(of.2 y hy).1
  have hlb:fl.length=bk.length:=by rw[of.1,lb]
  refine⟨_,rfl,small (by show 1<=1000; decide),fun r hr0=>?_⟩
  generalize eH1:upd H r _=H1
  obtain⟨g1,e1⟩:=aH eH1 hr0
  refine⟨_,rfl,_,rfl,_,rfl,b,f,g,n,bk,fl,x,rfl,hb.mono g1,SqT.of (g1 _ _ hf),SqT.of (g1 _ _ hg),hlb,by rw[ox.1]; lia,f0,fun r1 H2 s2 er1=>?_⟩
  refine gN ?_
  refine DN (fun σ H3=>∃ (j:Nat) (us:List V) (d:Addr),j<=m/\σ=[some (.ref b),some (.ref f),some (.ref g),some (.ref r),some (.ref d)]/\aN H H3/\H3 r=some (.lst us)/\jB H3 us (mD (Fd fl bk) x j)/\H3 d=some (.tup ((itF (Fd fl bk) x (j+1)).map V.int)))
   (fun _ H3=>m+2 - BJ H3 r) ⟨0,[.ref g],r1,Nat.zero_le _,rfl,g1.trans s2,s2 _ _ e1,.cons (s2 _ _ (g1 _ _ hg)) (by rw[(og 0).1]; lia) .nil,er1⟩ ?_ ?_
  ·rintro σ H3 ⟨j,us,d,hj,rfl,s3,er,gr,ed⟩
   obtain⟨a,ha,ea⟩:=qF gr
   have lu:=gr.length
   rw[lU] at lu
   refine⟨_,rfl,_,rfl,_,rfl,r,_,_,_,rfl,rfl,SqL.of er,ha,d,a,_,_,rfl,rfl,SqT.of ed,SqT.of ea,_,rfl,?_⟩
   by_cases e:itF (Fd fl bk) x (j+1)=itF (Fd fl bk) x j
   ·rw[decide_eq_true e]
    refine gU ?_
    have ej:j=m:=by
     rcases Nat.lt_or_ge j m with z | z
     ·exact absurd e (st.2 j z)
     ·lia
    subst ej
    exact⟨_,rfl,q r us H3 s3 hr0 er gr⟩
   ·rw[decide_eq_false e]
    refine jJ ?_
    have hjm:j < m:=by
     rcases Nat.lt_or_ge j m with z | z
     ·exact z
     ·have:j=m:=by lia
      subst this
      exact absurd st.1 e
    refine⟨_,rfl,.inl ⟨rfl,_,SqL.of er⟩,_,rfl,r,_,_,rfl,rfl,er,aG (by lia),?_⟩
    have tk:=dB (zs':=us++[.ref d]) er
    have s4:aN H (upd H3 r (.lst (us++[.ref d]))):=aK s3 hr0 _
    refine⟨_,rfl,_,rfl,_,rfl,b,f,d,n,bk,fl,_,rfl,hb.mono s4,SqT.of (s4 _ _ hf),SqT.of (tk _ _ ed),hlb,by rw[(og (j+1)).1]; lia,f0,fun r5 H5 s5 er5=>?_⟩
    have er':H5 r=some (.lst (us++[.ref d])):=s5 _ _ aj
    refine⟨⟨j+1,us++[.ref d],r5,hjm,rfl,s4.trans s5,er',?_,er5⟩,?_⟩
    ·rw[zJ]
     exact ((gr.cD tk).snoc (tk _ _ ed) (by rw[(og (j+1)).1]; lia)).mono s5
    ·show m+2 - BJ H5 r < m+2 - BJ H3 r
     rw[yH er',yH er,List.length_append]
     show m+2 - (us.length+1) < m+2 - us.length
     lia
  ·rintro σ H3 Q1 Q2 hQ ⟨v1,h1,v2,h2,i0,h3,p,xs,i,z,h4,h5,h6,h7,a1,a2,ns,ms,h8,h9,h10,h11,c,h12,qq⟩
   exact⟨v1,h1,v2,h2,i0,h3,p,xs,i,z,h4,h5,h6,h7,a1,a2,ns,ms,h8,h9,h10,h11,c,h12,hQ _ _ qq⟩
noncomputable def lq (st:List Int->List (List Pl)->List Int):Sp:=fun vs H Q _=>∃ (b f:Addr) (n:Nat) (bk:List (List Pl)) (fl:List Int),vs=[.ref b,.ref f]/\o7 n H b bk/\bk.length=n/\H f=some (.tup (fl.map V.int))/\okG n fl ∧
 ∀ (m:Nat) (r:Addr) (us:List V) (H':Hp),m<=9 * n->Stops (Fd fl bk) (st fl bk) m->aN H H'->H r=none->H' r=some (.lst us)->jB H' us (mD (Fd fl bk) (st fl bk) m)->Q (.ref r) H'
noncomputable def lE (st:List Int->List (List Pl)->List Int):Sp:=fun vs H Q _=>∃ (b f:Addr) (n:Nat) (bk:List (List Pl)) (fl:List Int),vs=[.ref b,.ref f]/\o7 n H b bk/\bk.length=n/\H f=some (.tup (fl.map V.int))/\okG n fl ∧
 ∀ (m:Nat) (a:Addr) (H':Hp),m<=9 * n->Stops (Fd fl bk) (st fl bk) m->aN H H'->H' a=some (.tup ((itF (Fd fl bk) (st fl bk) m).map V.int))->Q (.ref a) H'
noncomputable abbrev Cj:List Int->List (List Pl)->List Int:=fun fl _=>fl
theorem pQ {n:Nat} {fl:List Int} {bk:List (List Pl)} (hb:bk.length=n) (ok:okB bk) (hf:okG n fl):∃ m,m<=9 * n/\Stops (Fd fl bk) fl m:=Ew hb ok hf hf (jb hb ok hf fl)
theorem zE {n:Nat} {fl:List Int} {bk:List (List Pl)} (hb:bk.length=n) (ok:okB bk) (hf:okG n fl):∃ m,m<=9 * n/\Stops (Fd fl bk) (rfF fl bk) m:=zF hb ok hf (jW hb ok hf) (mO hb ok hf _)
noncomputable abbrev pU:Stmt:=top 13
noncomputable abbrev kJ:Stmt:=top 15
theorem Hr:aY ["book","floor"] ["book","floor"] (aB pU):=⟨rfl,rfl,rfl,by decide+kernel,rfl,by decide+kernel,by decide+kernel⟩
theorem Eh:aY ["book","floor"] ["book","floor"] (aB kJ):=⟨rfl,rfl,rfl,by decide+kernel,rfl,by decide+kernel,by decide+kernel⟩
theorem HQ {k:Nat} (F:Fun K "rise" "rise" pU f fd) (B:Bt mg)
  (D_settled:Df P w K mg base "settled" k ["book","floor","giving"] (jO K)):dz P w K mg base CX0 (k+1) f fd ["book","floor"] (lq Cj):=by
 refine F.ok Hr (fun vs H Q E h=>?_) (fun cdv A outer s H vs Q E hr h=>?_)
 ·obtain⟨b,f,n,bk,fl,rfl,_⟩:=h
  rfl
 ·obtain⟨b,f,n,bk,fl,rfl,hb,lb,hf,of,q⟩:=h
  refine⟨_,(aC (aL (bA D_settled hr (aa (pv 0) (aa (pv 1) (aa (pv 1) ao)))))),?_⟩
  obtain⟨m,hm,st⟩:=pQ lb hb.okB of
  exact⟨_,rfl,_,rfl,_,rfl,b,f,f,n,bk,fl,fl,m,rfl,hb,lb,hf,of,hf,of,hm,st,fun r us H' s1 fr er gr=>q m r us H' hm st s1 fr er gr⟩
theorem Ge {k:Nat} (F:Fun K "least" "least" kJ f fd) (B:Bt mg)
  (D_rise:Df P w K mg base "rise" k ["book","floor"] (lq Cj)):dz P w K mg base CX0 (k+1) f fd ["book","floor"] (lE Cj):=by
 refine F.ok Eh (fun vs H Q E h=>?_) (fun cdv A outer s H vs Q E hr h=>?_)
 ·obtain⟨b,f,n,bk,fl,rfl,_⟩:=h
  rfl
 ·obtain⟨b,f,n,bk,fl,rfl,hb,lb,hf,of,q⟩:=h
  refine⟨_,(aC (aL (aQ (r:=ik K) bc (bA D_rise hr (aa (pv 0) (aa (pv 1) ao))) (Bw uV aq) (fun _ _=>rfl)))),?_⟩
  refine⟨_,rfl,_,rfl,b,f,n,bk,fl,rfl,hb,lb,hf,of,fun m r us H' hm st s1 fr er gr=>?_⟩
  obtain⟨a,ha,ea⟩:=qF gr
  exact⟨_,rfl,r,_,_,_,rfl,rfl,SqL.of er,ha,q m a H' hm st s1 ea⟩
noncomputable abbrev pM:Stmt:=top 14
noncomputable abbrev fH:Stmt:=top 16
theorem Io:aY ["book","floor"] ["book","floor"] (aB pM):=⟨rfl,rfl,rfl,by decide+kernel,rfl,by decide+kernel,by decide+kernel⟩
theorem vM:aY ["book","floor"] ["book","floor"] (aB fH):=⟨rfl,rfl,rfl,by decide+kernel,rfl,by decide+kernel,by decide+kernel⟩
theorem Iu {k:Nat} (hk:2<=k) (F:Fun K "fall" "fall" pM f fd) (B:Bt mg)
  (D_settled:Df P w K mg base "settled" k ["book","floor","giving"] (jO K)) (D_roof:Df P w K mg base "roof" 2 ["book","floor"] (pZ K)):dz P w K mg base CX0 (k+1) f fd ["book","floor"] (lq rfF):=by
 refine F.ok Io (fun vs H Q E h=>?_) (fun cdv A outer s H vs Q E hr h=>?_)
 ·obtain⟨b,f,n,bk,fl,rfl,_⟩:=h
  rfl
 ·obtain⟨b,f,n,bk,fl,rfl,hb,lb,hf,of,q⟩:=h
  refine⟨_,(aC (aL (bA D_settled hr (aa (pv 0) (aa (pv 1) (aa (bA D_roof hr (aa (pv 0) (aa (pv 1) ao))) ao)))))),?_⟩
  obtain⟨m,hm,st⟩:=zE lb hb.okB of
  exact⟨_,rfl,_,rfl,_,rfl,_,rfl,b,f,n,bk,fl,rfl,hb,SqT.of hf,by rw[of.1,lb],fun r1 H1 s1 e1=>⟨b,f,r1,n,bk,fl,rfF fl bk,m,rfl,hb.mono s1,lb,s1 _ _ hf,of,e1,jW lb hb.okB of,hm,st,fun r us H' s2 fr er gr=>q m r us H' hm st (s1.trans s2) (s1.free fr) er gr⟩⟩
theorem vV {k:Nat} (F:Fun K "greatest" "greatest" fH f fd) (B:Bt mg)
  (D_fall:Df P w K mg base "fall" k ["book","floor"] (lq rfF)):dz P w K mg base CX0 (k+1) f fd ["book","floor"] (lE rfF):=by
 refine F.ok vM (fun vs H Q E h=>?_) (fun cdv A outer s H vs Q E hr h=>?_)
 ·obtain⟨b,f,n,bk,fl,rfl,_⟩:=h
  rfl
 ·obtain⟨b,f,n,bk,fl,rfl,hb,lb,hf,of,q⟩:=h
  refine⟨_,(aC (aL (aQ (r:=ik K) bc (bA D_fall hr (aa (pv 0) (aa (pv 1) ao))) (Bw uV aq) (fun _ _=>rfl)))),?_⟩
  refine⟨_,rfl,_,rfl,b,f,n,bk,fl,rfl,hb,lb,hf,of,fun m r us H' hm st s1 fr er gr=>?_⟩
  obtain⟨a,ha,ea⟩:=qF gr
  exact⟨_,rfl,r,_,_,_,rfl,rfl,SqL.of er,ha,q m a H' hm st s1 ea⟩
theorem LeG.trans {a b c:List Int} (h:LeG a b) (k:LeG b c):LeG a c:=fun i=>Int.le_trans (h i) (k i)
theorem vJ:∀ {ns ms:List Int},ns.length=ms.length->(abv ns ms=true ↔ LeG ms ns)
 | [],[],_=>⟨fun _ i=>Int.le_refl _,fun _=>by rw[abv]; simp⟩
 | n::ns,m::ms,h=>by
  have ih:=vJ (ns:=ns) (ms:=ms) (by simpa using h)
  rw[abv,Bool.and_eq_true,decide_eq_true_eq,ih]
  constructor
  ·rintro⟨h1,h2⟩ i
   cases i with
   | zero=>exact h1
   | succ i=>simpa using h2 i
  ·intro h
   exact⟨h 0,fun i=>by simpa using h (i+1)⟩
section
variable {n:Nat} {fl:List Int} {bk:List (List Pl)}
theorem sJ (hb:bk.length=n) (ok:okB bk) (hf:okG n fl) {g:List Int} (h:LeG (dN g fl bk) g):∀ k,LeG (itF (Fd fl bk) fl k) g
 | 0=>(jb hb ok hf g).trans h
 | k+1=>(gB hb ok hf (sJ hb ok hf h k)).trans h
theorem tu (hb:bk.length=n) (ok:okB bk) (hf:okG n fl) {g:List Int} (h:LeG g (dN g fl bk)):∀ k,LeG g (itF (Fd fl bk) (rfF fl bk) k)
 | 0=>h.trans (mO hb ok hf g)
 | k+1=>h.trans (gB hb ok hf (tu hb ok hf h k))
end
theorem jB.append {H:Hp}:∀ {us vs:List V} {gs hs:List (List Int)},jB H us gs->jB H vs hs->jB H (us++vs) (gs++hs)
 | _,_,_,_,.nil,s=>s
 | _,_,_,_,.cons a b r,s=>.cons a b (jB.append r s)
theorem jB.at {H:Hp}:∀ {us:List V} {gs:List (List Int)} {i:Nat} {v:V},jB H us gs->us[i]? = some v->∃ a g,v = .ref a/\gs[i]? = some g/\H a=some (.tup (g.map V.int))/\g.length<=1000
 | _,_,_,_,.nil,h=>by simp at h
 | _,_,0,_,.cons h l _,e=>by
  cases (show some _=some _ from e)
  exact⟨_,_,rfl,rfl,h,l⟩
 | _,_,i+1,_,.cons _ _ r,e=>by
  obtain⟨a,g,h1,h2,h3⟩:=jB.at (i:=i) r (by simpa using e)
  exact⟨a,g,h1,by simpa using h2,h3⟩
theorem Mp {K:W.Frag} {a b:Addr} {xs ys:List V} {H:Hp} {Q:V->Hp->Prop} (ha:H a=some (.tup xs)) (hb:H b=some (.tup ys)) (hz:xs.length+ys.length<=1000) (h:∀ p H',aN H H'->H' p=some (.tup (xs++ys))->Q (.ref p) H'):nQ K (.ref a) (.ref b) H Q :=
 ⟨a,b,xs,ys,rfl,rfl,SqT.of ha,SqT.of hb,small hz,fun e=>h b H (aN.refl H) (by rw[e,List.nil_append]; exact hb),fun _ e=>h a H (aN.refl H) (by rw[e,List.append_nil]; exact ha),fun _ _ p hp=>h p _ (aA hp _) aj⟩
theorem MK {xs:List V} {k:Nat} (h:k<=xs.length):su xs none (some (k:Int))=xs.take k:=by
 unfold su
 rw[HT.xM,HT.qG,List.drop_zero,Nat.sub_zero,Nat.min_eq_left h]
theorem K8 {xs:List V} {k:Nat} (h:k<=xs.length):su xs (some (k:Int)) none=xs.drop k:=by
 unfold su
 rw[HT.xM,HT.qG,Nat.min_eq_left h,List.take_of_length_le (by rw[List.length_drop]; lia)]
section
variable {K:W.Frag} {σ:St} {H:Hp} {Q:V->Hp->Prop} {i j:Nat} {a:Addr} {k:Nat} {xs:List V}
theorem slT (hi:σ[i]? = some (some (.ref a))) (hj:σ[j]? = some (some (.int (k:Int)))) (ha:H a=some (.tup xs)) (hk:k < xs.length) (h:∀ p H',aN H H'->H' p=some (.tup (xs.take k))->Q (.ref p) H'):tSl (GC K) (mX i) ni (Bk (mX j)) σ H Q:=by
 refine⟨_,hi,_,hj,_,rfl,a,xs,rfl,SqT.of ha,?_,fun p hp=>?_⟩
 ·rintro⟨_,z⟩
  have z':HT.sIx xs.length xs.length (some (k:Int))=xs.length:=z
  rw[HT.qG] at z'
  lia
 ·refine h p _ (aA hp _) ?_
  rw[aj,MK (by lia)]
theorem slD (hi:σ[i]? = some (some (.ref a))) (hj:σ[j]? = some (some (.int (k:Int)))) (ha:H a=some (.tup xs)) (hk:k < xs.length) (h:∀ p H',aN H H'->H' p=some (.tup (xs.drop (k+1)))->Q (.ref p) H') :
  tSl (GC K) (mX i) (Bk (tOp (rI0 fun i j=>.int (i+j)) (mX j) (tC (.int 1)))) ni σ H Q:=by
 refine⟨_,hi,_,hj,_,_,rfl,rfl,_,rfl,a,xs,rfl,SqT.of ha,?_,fun p hp=>?_⟩
 ·rintro⟨z,_⟩
  have z':HT.sIx xs.length 0 (some ((k:Int)+1))=0:=z
  rw[show (k:Int)+1=((k+1:Nat):Int) by lia,HT.qG] at z'
  lia
 ·refine h p _ (aA hp _) ?_
  rw[aj,show su xs (some ((k:Int)+1)) none=xs.drop (k+1) by rw[show (k:Int)+1=((k+1:Nat):Int) by lia]; exact K8 (by lia)]
theorem Ng {l:Nat} {v:V} (hi:σ[i]? = some (some (.ref a))) (hj:σ[j]? = some (some (.int (k:Int)))) (hv:σ[l]? = some (some v)) (ha:H a=some (.tup xs)) (hk:k < xs.length) (hl:xs.length<=40) (h:∀ p H',aN H H'->H' p=some (.tup (xs.set k v))->Q (.ref p) H') :
  tOp (nQ K) (tOp (nQ K) (tSl (GC K) (mX i) ni (Bk (mX j))) (Kw (gj (mX l) yP))) (tSl (GC K) (mX i) (Bk (tOp (rI0 fun i j=>.int (i+j)) (mX j) (tC (.int 1)))) ni) σ H Q:=by
 refine slT hi hj ha hk fun p1 H1 s1 e1=>?_
 refine⟨_,hv,small (by show 1<=1000; decide),fun p2 h2=>?_⟩
 generalize eH3:upd H1 p2 _=H3
 obtain⟨g3,e3⟩:=aH eH3 h2
 refine Mp (g3 _ _ e1) e3 (by rw[List.length_take]; show min k xs.length+1<=1000; lia) fun p4 H4 s4 e4=>?_
 have s14:aN H H4:=s1.trans (g3.trans s4)
 refine slD hi hj (s14 _ _ ha) hk fun p5 H5 s5 e5=>?_
 refine Mp (s5 _ _ e4) e5 (by rw[List.length_append,List.length_take,List.length_drop]; show min k xs.length+1+(xs.length - (k+1))<=1000; lia) fun p6 H6 s6 e6=>?_
 refine h p6 H6 (s14.trans (s5.trans s6)) ?_
 rw[e6,List.set_eq_take_append_cons_drop,if_pos hk,List.append_assoc]
 rfl
end
section
variable {n:Nat} {fl:List Int} {bk:List (List Pl)}
noncomputable def stp (fl:List Int) (bk:List (List Pl)) (g:List Int) (i:Nat):List Int:=g.set i (duF g (fl.getD i 0) (bk.getD i []))
noncomputable def swp (fl:List Int) (bk:List (List Pl)) (od:List Nat) (g:List Int):List Int:=od.foldl (stp fl bk) g
theorem Hm {i:Nat} (h:i < bk.length):bk.getD i []=bk[i]:=by rw[List.getD_eq_getElem?_getD,List.getElem?_eq_getElem h]; rfl
theorem lO (hb:bk.length=n) (hf:okG n fl) {g:List Int} (hg:okG n g) {i:Nat} (hi:i < n) (j:Nat):(stp fl bk g i).getD j 0=if j=i then (dN g fl bk).getD i 0 else g.getD j 0:=by
 unfold stp
 have h1:i < fl.length:=by rw[hf.1]; exact hi
 have h2:i < bk.length:=by lia
 by_cases e:j=i
 ·subst e
  rw[if_pos rfl,List.getD_eq_getElem?_getD,List.getElem?_set_self (by rw[hg.1]; exact hi),Hm h2]
  unfold dN
  rw[eY (duF g) h1 h2]
  rfl
 ·rw[if_neg e,List.getD_eq_getElem?_getD,List.getElem?_set_ne (fun z=>e z.symm),List.getD_eq_getElem?_getD]
theorem GP (hb:bk.length=n) (ok:okB bk) (hf:okG n fl) {g:List Int} (hg:okG n g) {i:Nat} (hi:i < n):okG n (stp fl bk g i):=by
 refine xJ (by unfold stp; rw[List.length_set]; exact hg.1) fun j hj=>?_
 rw[lO hb hf hg hi]
 split
 ·exact iw (cQ hb ok hf g) hi
 ·exact iw hg hj
theorem JW (hb:bk.length=n) (ok:okB bk) (hf:okG n fl) {g:List Int} (hg:okG n g) (k:LeG g (dN g fl bk)) {i:Nat} (hi:i < n) :
  LeG g (stp fl bk g i)/\LeG (stp fl bk g i) (dN (stp fl bk g i) fl bk)/\∀ w,LeG g w->LeG (dN w fl bk) w->LeG (stp fl bk g i) w:=by
 have up:LeG g (stp fl bk g i):=fun j=>by
  rw[lO hb hf hg hi]
  split
  ·rename_i e; subst e; exact k j
  ·exact Int.le_refl _
 refine⟨up,fun j=>?_,fun w h1 h2 j=>?_⟩
 ·have m:=gB hb ok hf up j
  rw[lO hb hf hg hi]
  split
  ·rename_i e; subst e; exact m
  ·exact Int.le_trans (k j) m
 ·rw[lO hb hf hg hi]
  split
  ·rename_i e
   subst e
   exact Int.le_trans (gB hb ok hf h1 j) (h2 j)
  ·exact h1 j
theorem Ek (hb:bk.length=n) (ok:okB bk) (hf:okG n fl) {g:List Int} (hg:okG n g) (k:LeG (dN g fl bk) g) {i:Nat} (hi:i < n) :
  LeG (stp fl bk g i) g/\LeG (dN (stp fl bk g i) fl bk) (stp fl bk g i)/\∀ w,LeG w g->LeG w (dN w fl bk)->LeG w (stp fl bk g i):=by
 have dn:LeG (stp fl bk g i) g:=fun j=>by
  rw[lO hb hf hg hi]
  split
  ·rename_i e; subst e; exact k j
  ·exact Int.le_refl _
 refine⟨dn,fun j=>?_,fun w h1 h2 j=>?_⟩
 ·have m:=gB hb ok hf dn j
  rw[lO hb hf hg hi]
  split
  ·rename_i e; subst e; exact m
  ·exact Int.le_trans m (k j)
 ·rw[lO hb hf hg hi]
  split
  ·rename_i e
   subst e
   exact Int.le_trans (h2 j) (gB hb ok hf h1 j)
  ·exact h1 j
theorem fu {g g':List Int} (hl:g.length=g'.length) (h:LeG g g') (h':LeG g' g):g=g':=by
 have e1:=fX hl fun i _=>h i
 have e2:=fX hl.symm fun i _=>h' i
 exact e1.2 (by lia)
noncomputable def Goes (fl:List Int) (bk:List (List Pl)) (up:Bool) (g g':List Int):Prop:=if up=true then LeG g g'/\LeG g' (dN g' fl bk)/\∀ w,LeG g w->LeG (dN w fl bk) w->LeG g' w else LeG g' g/\LeG (dN g' fl bk) g'/\∀ w,LeG w g->LeG w (dN w fl bk)->LeG w g'
noncomputable def Dir (fl:List Int) (bk:List (List Pl)) (up:Bool) (g:List Int):Prop:=if up=true then LeG g (dN g fl bk) else LeG (dN g fl bk) g
theorem jg {up:Bool} {g g':List Int} (h:Goes fl bk up g g'):Dir fl bk up g':=by
 cases up with
 | true=>exact h.2.1
 | false=>exact h.2.1
theorem uZ {up:Bool} {g:List Int} (h:Dir fl bk up g):Goes fl bk up g g:=by
 cases up with
 | true=>exact⟨fun i=>Int.le_refl _,h,fun w h1 _=>h1⟩
 | false=>exact⟨fun i=>Int.le_refl _,h,fun w h1 _=>h1⟩
theorem pO {up:Bool} {a b c:List Int} (h:Goes fl bk up a b) (k:Goes fl bk up b c):Goes fl bk up a c:=by
 cases up with
 | true=>exact⟨h.1.trans k.1,k.2.1,fun w h1 h2=>k.2.2 w (h.2.2 w h1 h2) h2⟩
 | false=>exact⟨k.1.trans h.1,k.2.1,fun w h1 h2=>k.2.2 w (h.2.2 w h1 h2) h2⟩
theorem wW (hb:bk.length=n) (ok:okB bk) (hf:okG n fl) {up:Bool} {g:List Int} (hg:okG n g) (k:Dir fl bk up g) {i:Nat} (hi:i < n):Goes fl bk up g (stp fl bk g i):=by
 cases up with
 | true=>exact JW hb ok hf hg k hi
 | false=>exact Ek hb ok hf hg k hi
theorem zY {up:Bool} {a b c:List Int} (hl:a.length=b.length) (h:Goes fl bk up a b) (k:Goes fl bk up b c) (e:c=a):b=a:=by
 subst e
 cases up with
 | true=>exact (fu hl h.1 k.1).symm
 | false=>exact fu hl.symm h.1 k.1
theorem j9 (hb:bk.length=n) (ok:okB bk) (hf:okG n fl) {up:Bool}:∀ (od:List Nat) {g:List Int},(∀ i∈od,i < n)->okG n g->Dir fl bk up g->Goes fl bk up g (swp fl bk od g)/\okG n (swp fl bk od g)
 | [],g,_,hg,k=>⟨uZ k,hg⟩
 | i::od,g,ho,hg,k=>by
  have hi:=ho i List.mem_cons_self
  have h1:=wW hb ok hf hg k hi
  have h2:=GP hb ok hf hg hi
  obtain⟨h3,h4⟩:=j9 hb ok hf od (fun j hj=>ho j (List.mem_cons_of_mem _ hj)) h2 (jg h1)
  exact⟨pO h1 h3,h4⟩
theorem Ab (hb:bk.length=n) (ok:okB bk) (hf:okG n fl) {up:Bool}:∀ (od:List Nat) {g:List Int},(∀ i∈od,i < n)->okG n g->Dir fl bk up g->swp fl bk od g=g->∀ i∈od,stp fl bk g i=g
 | [],g,_,_,_,_,i,hi=>by cases hi
 | j::od,g,ho,hg,k,e,i,hi=>by
  have hj:=ho j List.mem_cons_self
  have h1:=wW hb ok hf hg k hj
  have h2:=GP hb ok hf hg hj
  have ho':∀ i∈od,i < n:=fun i hi=>ho i (List.mem_cons_of_mem _ hi)
  have h3:=(j9 hb ok hf od ho' h2 (jg h1)).1
  have ej:stp fl bk g j=g:=zY (by rw[hg.1,h2.1]) h1 h3 e
  rcases List.mem_cons.mp hi with rfl | hi
  ·exact ej
  ·have e':swp fl bk od (stp fl bk g j)=g:=e
   rw[ej] at e'
   exact Ab hb ok hf od ho' hg k e' i hi
theorem Jd (hb:bk.length=n) (ok:okB bk) (hf:okG n fl) {up:Bool} {od:List Nat} (ho:∀ i∈od,i < n) (all:∀ i < n,i∈od) {g:List Int} (hg:okG n g) (k:Dir fl bk up g) (e:swp fl bk od g=g):dN g fl bk=g:=by
 have hd:=cQ hb ok hf g
 have key:∀ i,(dN g fl bk).getD i 0=g.getD i 0:=fun i=>by
  by_cases hi:i < n
  ·have:=Ab hb ok hf od ho hg k e i (all i hi)
   have h:=lO hb hf hg hi i
   rw[this,if_pos rfl] at h
   exact h.symm
  ·rw[List.getD_eq_getElem?_getD,List.getElem?_eq_none (by rw[hd.1]; lia),List.getD_eq_getElem?_getD,List.getElem?_eq_none (by rw[hg.1]; lia)]
 exact fu (by rw[hd.1,hg.1]) (fun i=>by rw[key]; exact Int.le_refl _) fun i=>by rw[key]; exact Int.le_refl _
noncomputable def Lim (n:Nat) (fl:List Int) (bk:List (List Pl)) (up:Bool) (x z:List Int):Prop:=okG n z/\dN z fl bk=z/\Goes fl bk up x z
theorem Bp (hb:bk.length=n) (ok:okB bk) (hf:okG n fl) {up:Bool} {od:List Nat} (ho:∀ i∈od,i < n) {x:List Int} (hx:okG n x) (k:Dir fl bk up x):∀ m,okG n (itF (swp fl bk od) x m)/\Goes fl bk up x (itF (swp fl bk od) x m)
 | 0=>⟨hx,uZ k⟩
 | m+1=>by
  obtain⟨h1,h2⟩:=Bp hb ok hf ho hx k m
  obtain⟨h3,h4⟩:=j9 hb ok hf od ho h1 (jg h2)
  exact⟨h4,pO h2 h3⟩
theorem Dw (hb:bk.length=n) (ok:okB bk) (hf:okG n fl) {up:Bool} {od:List Nat} (ho:∀ i∈od,i < n) {x:List Int} (hx:okG n x) (k:Dir fl bk up x):∃ m,m<=9 * n/\Stops (swp fl bk od) x m:=by
 have io:=Bp hb ok hf ho hx k
 have st:∀ k,Goes fl bk up (itF (swp fl bk od) x k) (itF (swp fl bk od) x (k+1)):=fun k=>(j9 hb ok hf od ho (io k).1 (jg (io k).2)).1
 cases up with
 | true =>
  refine mW List.sum (9 * n) (fun k=>(sum_bound (io k).1.2).1) (fun k=>?_) (fun k ne=>?_)
  ·have:=(sum_bound (io k).1.2).2
   rw[(io k).1.1] at this
   lia
  ·obtain⟨h1,h2⟩:=fX ((io k).1.1.trans (io (k+1)).1.1.symm) fun i _=>(st k).1 i
   have:List.sum (itF (swp fl bk od) x k)≠List.sum (itF (swp fl bk od) x (k+1)):=fun e=>ne (h2 e).symm
   lia
 | false =>
  refine mW (fun g=>9 * (n:Int) - g.sum) (9 * n) (fun k=>?_) (fun k=>?_) (fun k ne=>?_)
  ·have:=(sum_bound (io k).1.2).2
   rw[(io k).1.1] at this
   show 0<=9 * (n:Int) - List.sum _
   lia
  ·have:=(sum_bound (io k).1.2).1
   show 9 * (n:Int) - List.sum _<=_
   lia
  ·obtain⟨h1,h2⟩:=fX ((io (k+1)).1.1.trans (io k).1.1.symm) fun i _=>(st k).1 i
   have:List.sum (itF (swp fl bk od) x (k+1))≠List.sum (itF (swp fl bk od) x k):=fun e=>ne (h2 e)
   show 9 * (n:Int) - List.sum _ < 9 * (n:Int) - List.sum _
   lia
end
section
variable {n:Nat} {fl fl':List Int} {bk:List (List Pl)}
theorem gQ (hb:bk.length=n) (hf:okG n fl) (g:List Int) {i:Nat} (hi:i < n):(dN g fl bk).getD i 0=max (fl.getD i 0) (duF g 0 (bk.getD i [])):=by
 have h1:i < fl.length:=by rw[hf.1]; exact hi
 have h2:i < bk.length:=by lia
 unfold dN
 rw[eY (duF g) h1 h2,Hm h2]
 exact xZ g (iw hf hi).1 _
theorem jt {g:List Int} {i:Nat} (h:g.length<=i):g.getD i 0=0:=by rw[List.getD_eq_getElem?_getD,List.getElem?_eq_none h]; rfl
theorem wQ {g g':List Int} (hg:g.length=n) (hg':g'.length=n) (h:∀ i < n,g.getD i 0<=g'.getD i 0):LeG g g':=xF (by lia) fun i hi=>h i (by lia)
end
noncomputable abbrev bL:Stmt:=top 39
theorem bB:aY ["_law_book_here","_law_floor","_law_giving_here","_law_here","_law_turn","_law_ahead","_law_one","_law_step"] ["_law_book_here","_law_floor","_law_giving_here"] (aB bL):=⟨rfl,rfl,rfl,by decide+kernel,rfl,by decide+kernel,by decide+kernel⟩
inductive wX (vs:List V) (H:Hp) (Q:VK):Prop where
 | mk (b f g:Addr) (n:Nat) (bk:List (List Pl)) (fl x:List Int) (up:Bool) (z0:vs=[.ref b,.ref f,.ref g]) (z1:o7 n H b bk) (z2:bk.length=n) (z3:H f=some (.tup (fl.map V.int))) (z4:okG n fl) (z5:H g=some (.tup (x.map V.int))) (z6:okG n x) (z7:Dir fl bk up x) (z8:∀ (r:Addr) (z:List Int) (H':Hp),aN H H'->H' r=some (.tup (z.map V.int))->Lim n fl bk up x z->Q (.ref r) H'):wX  vs H Q
noncomputable def rK:Sp:=fun vs H Q _=>wX  vs H Q
theorem jL {k:Nat} (F:Fun K "_law_step_by_step" "_law_step_by_step" bL f fd) (B:Bt mg)
  (D_law_owed:Df P w K mg base "_law_owed" k ["_law_some","_law_giving_here"] (BR K)):dz P w K mg base CX0 (k+1) f fd ["_law_book_here","_law_floor","_law_giving_here"] rK:=by
 refine F.ok bB (fun vs H Q E h=>?_) (fun cdv A outer s H vs Q E hr h=>?_)
 ·obtain⟨b,f,g,n,bk,fl,x,up,rfl,_⟩:=h
  rfl
 ·obtain⟨b,f,g,n,bk,fl,x,up,rfl,hB,lb,hf,of,hg,ox,dir,q⟩:=h
  refine⟨_,(au (bj (i:=3) bB.nd rfl (Or.inl rfl) (pv 2))
 (au (eE PassesOwn.never rfl (bQ rfl B.range_ (aa (aU bR (aU gZ aq (aJ (r:=vh K) bU rfl B.len_ gh (aa (pv 0) ao))) aq) ao)) (aD (i:=4) bB.nd rfl (Or.inl rfl)) (au (bj (i:=5) bB.nd rfl (Or.inl rfl) (pv 3))
 (au (eE PassesOwn.never rfl (bQ rfl B.range_ (aa (aJ (r:=vh K) bU rfl B.len_ gh (aa (pv 0) ao)) ao)) (aD (i:=6) bB.nd rfl (Or.inl rfl)) (au (bj (i:=7) bB.nd rfl (Or.inl rfl) (aJ (oF rfl) rfl B.max_ nH (aa (aQ (r:=eO K) bh (pv 1) (pv 6) (fun _ _=>rfl)) (aa (bA D_law_owed hr (aa (aQ (r:=ik K) bc (pv 0) (pv 6) (fun _ _=>rfl)) (aa (pv 3) ao))) ao))))
 (aC (bj (i:=3) bB.nd rfl (Or.inl rfl) (aU (r:=nQ K) rR (aU (r:=nQ K) rR (jj (r:=GC K) CP (pv 3) nR (jC (pv 6))) (bM (aa (pv 7) ao))) (jj (r:=GC K) CP (pv 3) (jC (aU bR (pv 6) aq)) nR))))))
 (aC (cA (aP (r:=zp K) (nD hr.iV) (pv 3) (pv 5) (aR _)) (aC (aL (pv 3))) aX)))))
 (aC (aL (pv 3))))),?_⟩
  have okb:=hB.okB
  obtain⟨us0,hb,rb,l12⟩:=id hB
  have lu0:=rb.length
  let od:List Nat:=(List.range n).map fun i=>i
  have ho:∀ i∈od,i < n:=fun i hi=>by
   obtain⟨j,hj,rfl⟩:=List.mem_map.mp hi
   have:=List.mem_range.mp hj
   lia
  have hall:∀ i < n,i∈od:=fun i hi=>List.mem_map.mpr ⟨i,List.mem_range.mpr (by lia),by lia⟩
  have hod:∀ i < n,od[i]? = some i:=fun i hi=>by
   show ((List.range n).map _)[i]? = _
   rw[List.getElem?_map,List.getElem?_range hi]
   rfl
  have lod:od.length=n:=by show ((List.range n).map _).length=n; rw[List.length_map,List.length_range]
  obtain⟨m,hm,st⟩:=Dw lb okb of ho ox dir
  have io:=Bp lb okb of ho ox dir
  clear_value od
  refine⟨_,rfl,_,rfl,b,_,rfl,.inl (SqL.of hb),_,_,rfl,rfl,.inl ⟨by decide,by decide⟩,_,_,rfl,rfl,_,rfl,by lia,by lia,eN (lo:=0) (n:=(9 * (us0.length:Int)+1).toNat) (fun t σ H3=>∃ (hh:Addr) (u0 u1 u2 u3:Option V),σ=[some (.ref b),some (.ref f),some (.ref g),some (.ref hh),u0,u1,u2,u3]/\aN H H3/\H3 hh=some (.tup ((itF (swp fl bk od) x t).map V.int))/\t<=m)
   ⟨g,_,_,_,_,rfl,aN.refl _,hg,Nat.zero_le _⟩ ?_ ?_⟩
  ·rintro t σ H3 ht ⟨hh,u0,u1,u2,u3,rfl,s3,eh,htm⟩
   refine⟨_,rfl,?_⟩
   refine⟨_,rfl,b,_,rfl,.inl (SqL.of (s3 _ _ hb)),_,rfl,by lia,by lia,eN (lo:=0) (n:=us0.length) (fun i σ H4=>∃ (h2:Addr) (v0 v1:Option V),σ=[some (.ref b),some (.ref f),some (.ref g),some (.ref h2),some (.int (0+(t:Int))),some (.ref hh),v0,v1]/\aN H3 H4/\H4 h2=some (.tup ((swp fl bk (od.take i) (itF (swp fl bk od) x t)).map V.int)))
    ⟨hh,_,_,rfl,aN.refl _,by rw[List.take_zero]; exact eh⟩ ?_ ?_⟩
   ·rintro i σ H4 hi ⟨h2,v0,v1,rfl,s4,e2⟩
    have hin:i < n:=by lia
    have od':∀ j∈od.take i,j < n:=fun j hj=>ho j (List.mem_of_mem_take hj)
    obtain⟨_,og⟩:=j9 lb okb of (od.take i) od' (io t).1 (jg (io t).2)
    have enext:swp fl bk (od.take (i+1)) (itF (swp fl bk od) x t)=stp fl bk (swp fl bk (od.take i) (itF (swp fl bk od) x t)) i:=by
     unfold swp
     rw[List.take_add_one,hod i hin]
     show ((od.take i)++[i]).foldl _ _=_
     rw[List.foldl_append]
     rfl
    generalize swp fl bk (od.take i) (itF (swp fl bk od) x t)=gs at *
    have hfi:i < fl.length:=by rw[of.1]; exact hin
    have at1:atI (fl.map V.int) (0+(i:Int))=some (.int fl[i]):=by rw[Int.zero_add]; exact iW hfi
    have hy:us0[i]? = some us0[i]:=List.getElem?_eq_getElem hi
    obtain⟨c,as,ps,ec,hps,hc,l100,rps⟩:=rb.get hy
    have at2:atI us0 (0+(i:Int))=some (.ref c):=by rw[Int.zero_add,← ec]; exact iz hy
    have s34:aN H H4:=s3.trans s4
    have hf0:=(of.2 fl[i] (List.getElem_mem hfi)).1
    refine⟨_,rfl,_,rfl,f,_,_,_,rfl,rfl,SqT.of (s34 _ _ hf),at1,_,rfl,_,rfl,b,_,_,_,rfl,rfl,SqL.of (s34 _ _ hb),at2,_,rfl,c,h2,n,as,ps,gs,rfl,s34 _ _ hc,l100,rps.cD (fun a xs q=>s34 a _ q),SqT.of e2,by rw[og.1]; lia,fun H5 s5=>?_⟩
    refine⟨_,_,rfl,?_⟩
    have ez:(if duF gs 0 ps > fl[i] then duF gs 0 ps else fl[i])=duF gs fl[i] ps:=by
     rw[xZ gs hf0 ps]
     split <;> lia
    rw[ez]
    refine gN ?_
    dsimp only
    refine Ng (k:=i) (v:=.int (duF gs fl[i] ps)) rfl (by rw[Int.zero_add (i:Int)]; rfl) rfl (s5 _ _ e2) (by rw[List.length_map,og.1]; exact hin) (by rw[List.length_map,og.1]; lia) fun p6 H6 s6 e6=>?_
    refine⟨p6,_,_,rfl,s4.trans (s5.trans s6),?_⟩
    rw[e6,enext]
    unfold stp
    have eb:bk.getD i []=ps:=by rw[List.getD_eq_getElem?_getD,hps]; rfl
    have ef:fl.getD i 0=fl[i]:=by rw[List.getD_eq_getElem?_getD,List.getElem?_eq_getElem hfi]; rfl
    rw[eb,ef,List.map_set]
   ·rintro σ H4 ⟨h2,v0,v1,rfl,s4,e2⟩
    rw[show us0.length=od.length by lia,List.take_length] at e2
    refine⟨_,rfl,_,rfl,h2,hh,_,_,rfl,rfl,SqT.of e2,SqT.of (s4 _ _ eh),_,rfl,?_⟩
    by_cases e:swp fl bk od (itF (swp fl bk od) x t)=itF (swp fl bk od) x t
    ·rw[decide_eq_true e]
     refine jJ ⟨_,rfl,?_⟩
     rw[e] at e2
     exact q h2 _ H4 (s3.trans s4) e2 ⟨(io t).1,Jd lb okb of ho hall (io t).1 (jg (io t).2) e,(io t).2⟩
    ·rw[decide_eq_false e]
     refine gU ⟨h2,_,_,_,_,rfl,s3.trans s4,e2,?_⟩
     rcases Nat.lt_or_ge t m with z | z
     ·exact z
     ·have:t=m:=by lia
      subst this
      exact absurd st.1 e
  ·rintro σ H3 ⟨hh,u0,u1,u2,u3,rfl,s3,eh,htm⟩
   lia
noncomputable def Jw (x:Nat):List Nat->List Nat
 | []=>[x]
 | y::r=>if x<=y then x::y::r else y::Jw x r
noncomputable def Ax:List Nat->List Nat
 | []=>[]
 | x::r=>Jw x (Ax r)
theorem oM (x:Nat):∀ l:List Nat,(Jw x l).Perm (x::l)
 | []=>.refl _
 | y::r=>by
  rw[Jw]
  split
  ·exact .refl _
  ·exact ((oM x r).cons y).trans (.swap x y r)
theorem oO:∀ l:List Nat,(Ax l).Perm l
 | []=>.refl _
 | x::r=>(oM x _).trans ((oO r).cons x)
theorem m8 (x:Nat):∀ {l:List Nat},l.Pairwise (·<=·)->(Jw x l).Pairwise (·<=·)
 | [],_=>by rw[Jw]; simp
 | y::r,h=>by
  rw[Jw]
  rw[List.pairwise_cons] at h
  split
  ·rw[List.pairwise_cons,List.pairwise_cons]
   refine⟨fun z hz=>?_,h⟩
   rcases List.mem_cons.mp hz with rfl | hz
   ·assumption
   ·have:=h.1 z hz
    lia
  ·rw[List.pairwise_cons]
   refine⟨fun z hz=>?_,m8 x h.2⟩
   rcases List.mem_cons.mp ((oM x r).mem_iff.mp hz) with rfl | hz
   ·lia
   ·exact h.1 z hz
theorem jN:∀ l:List Nat,(Ax l).Pairwise (·<=·)
 | []=>by rw[Ax]; simp
 | x::r=>m8 x (jN r)
theorem BW {l:List Nat} {ms:List Int} (p:ms.Perm (l.map fun i:Nat=>(i:Int))) (h:ms.Pairwise (·<=·)):ms=(Ax l).map fun i:Nat=>(i:Int):=by
 refine pY (p.trans ((oO l).map _).symm) h ?_
 rw[List.pairwise_map]
 exact (jN l).imp fun h=>by lia
mutual
noncomputable def ren (f:Nat->Nat):Tm->Tm
 | .free=>.free
 | .never=>.never
 | .gives i k=>.gives (f i) k
 | .sum c k=>.sum (Ax (c.map f)) k
 | .crowd c k m=>.crowd (Ax (c.map f)) k m
 | .all ts=>.all (yX f ts)
 | .any ts=>.any (yX f ts)
noncomputable def yX (f:Nat->Nat):List Tm->List Tm
 | []=>[]
 | t::r=>ren f t::yX f r
end
theorem jY (f:Nat->Nat):∀ ts:List Tm,yX f ts=ts.map (ren f)
 | []=>by rw[yX]; rfl
 | t::r=>by rw[yX,jY f r]; rfl
mutual
theorem BL (f:Nat->Nat):∀ t:Tm,(ren f t).dep=t.dep
 | .free=>by rw[ren]
 | .never=>by rw[ren]
 | .gives i k=>by rw[ren,Tm.dep,Tm.dep] <;> simp
 | .sum c k=>by rw[ren,Tm.dep,Tm.dep] <;> simp
 | .crowd c k m=>by rw[ren,Tm.dep,Tm.dep] <;> simp
 | .all ts=>by rw[ren,Tm.dep,Tm.dep,qH f ts]
 | .any ts=>by rw[ren,Tm.dep,Tm.dep,qH f ts]
theorem qH (f:Nat->Nat):∀ ts:List Tm,tdL (yX f ts)=tdL ts
 | []=>by rw[yX]
 | t::r=>by rw[yX,tdL,tdL,BL f t,qH f r]
end
noncomputable def mJ (rs:List Nat) (i:Nat):Nat:=rs.getD i 0
theorem xO {rs:List Nat} {i:Nat} (h:i < rs.length):mJ rs i∈rs:=by
 unfold mJ
 rw[List.getD_eq_getElem?_getD,List.getElem?_eq_getElem h]
 exact List.getElem_mem h
theorem Ga {rs:List Nat} (nd:rs.Nodup) {i j:Nat} (hi:i < rs.length) (hj:j < rs.length) (hij:i < j):mJ rs i≠mJ rs j:=by
 unfold mJ
 rw[List.getD_eq_getElem?_getD,List.getElem?_eq_getElem hi,List.getD_eq_getElem?_getD,List.getElem?_eq_getElem hj]
 exact List.pairwise_iff_getElem.mp nd i j hi hj hij
theorem sW {rs c:List Nat} {m n:Nat} (nd:rs.Nodup) (hm:m<=rs.length) (hv:∀ x∈rs,x < n) (hc:∀ i∈c,i < m) (hp:c.Pairwise (· < ·)) :
  (∀ i∈Ax (c.map (mJ rs)),i < n)/\(Ax (c.map (mJ rs))).Pairwise (· < ·)/\(Ax (c.map (mJ rs))).length=c.length:=by
 have pm:=oO (c.map (mJ rs))
 refine⟨fun i hi=>?_,?_,by rw[pm.length_eq,List.length_map]⟩
 ·obtain⟨j,hj,rfl⟩:=List.mem_map.mp (pm.mem_iff.mp hi)
  exact hv _ (xO (Nat.lt_of_lt_of_le (hc j hj) hm))
 ·have nd2:(c.map (mJ rs)).Nodup:=by
   show (c.map (mJ rs)).Pairwise (·≠·)
   rw[List.pairwise_map]
   exact List.Pairwise.imp_of_mem (fun {a b} ha hb h=>Ga nd (Nat.lt_of_lt_of_le (hc a ha) hm) (Nat.lt_of_lt_of_le (hc b hb) hm) h) hp
  have nd3:(Ax (c.map (mJ rs))).Nodup:=pm.nodup_iff.mpr nd2
  exact ((jN _).and nd3).imp fun h=>by lia
theorem Dq {rs:List Nat} {i:Nat} (h:i < rs.length):atI (rs.map vN) (i:Int)=some (vN (mJ rs i)):=by
 refine iz ?_
 unfold mJ
 rw[List.getElem?_map,List.getD_eq_getElem?_getD,List.getElem?_eq_getElem h]
 rfl
theorem K5 {b:Bool} {A B:Prop} (h:b=true) (a:A):if b=true then A else B:=by rw[if_pos h]; exact a
theorem yR {b:Bool} {A B:Prop} (h:b=false) (a:B):if b=true then A else B:=by rw[if_neg (by rw[h]; exact Bool.false_ne_true)]; exact a
noncomputable abbrev cR:Stmt:=top 28
theorem o9:aY ["_law_term_here","_law_row"] ["_law_term_here","_law_row"] (aB cR):=⟨rfl,rfl,rfl,by decide+kernel,rfl,by decide+kernel,by decide+kernel⟩
inductive Gf (K:W.Frag) (d:Nat) (vs:List V) (H:Hp) (Q:VK):Prop where
 | mk (v:V) (row:Addr) (m n:Nat) (t:Tm) (rs:List Nat) (z0:vs=[v,.ref row]) (z1:lK m H v t) (z2:t.dep<=d) (z3:SqL K H row (rs.map vN)) (z4:m<=rs.length) (z5:rs.Nodup) (z6:(∀ x∈rs,x < n)) (z7:∀ (v':V) (H':Hp),aN H H'->lK n H' v' (ren (mJ rs) t)->Q v' H'):Gf K d vs H Q
noncomputable def rH (K:W.Frag) (d:Nat):Sp:=fun vs H Q _=>Gf K d vs H Q
theorem Ex:dz P w K mg base CX0 0 f fd ["_law_term_here","_law_row"] (rH K 0):=by
 have no:∀ vs H Q E,¬ rH K 0 vs H Q E:=fun vs H Q E h=>by
  obtain⟨v,row,m,n,t,rs,_,_,h1,_⟩:=h
  have:=t.wG
  lia
 exact⟨fun vs H Q E h=>absurd h (no vs H Q E),fun A outer s H args us vs Q E _ _ _ _ h=>absurd h (no vs H Q E)⟩
theorem wK {K:W.Frag} {H H':Hp} {a:Addr} {xs:List V} (e:aN H H') (h:SqL K H a xs):SqL K H' a xs:=e.seq h
theorem gR {d:Nat} (F:Fun K "_law_renamed" "_law_renamed" cR f fd) (B:Bt mg)
  (D_law_renamed:Df P w K mg base "_law_renamed" d ["_law_term_here","_law_row"] (rH K d)):dz P w K mg base CX0 (d+1) f fd ["_law_term_here","_law_row"] (rH K (d+1)):=by
 refine F.ok o9 (fun vs H Q E h=>?_) (fun cdv A outer s H vs Q E hr h=>?_)
 ·obtain⟨v,row,m,n,t,rs,rfl,_⟩:=h
  rfl
 ·obtain⟨v,row,m,n,t,rs,rfl,rt,hd,hR,hm,nd,hv,q⟩:=h
  refine⟨_,(au (cA (aP eX (aQ (r:=eO K) bh (pv 0) aq (fun _ _=>rfl)) bT (aR _)) (aC (aL (bM (aa bT (aa (aQ (r:=ik K) bc (pv 1) (aQ (r:=eO K) bh (pv 0) aq (fun _ _=>rfl)) (fun _ _=>rfl)) (aa (aQ (r:=eO K) bh (pv 0) aq (fun _ _=>rfl)) ao)))))) aX)
 (au (cA (aP (r:=rIn K false) iZ (aQ (r:=eO K) bh (pv 0) aq (fun _ _=>rfl)) (bM (aa bT (aa bT ao))) rfl) (aC (aL (aU (r:=nQ K) rR (bM (aa (aQ (r:=eO K) bh (pv 0) aq (fun _ _=>rfl)) (aa (bI (r:=gC K) bJ rfl B.tuple_ cI (aa (aJ (r:=GK K) zy rfl B.sorted_ (by decide+kernel) (aa (bH (L:=["_law_one"]) (F:=["_law_row"]) (cap:=[1]) rfl (bx rfl rfl (by kernel_rfl)) (gk (aQ (r:=eO K) bh (pv 0) aq (fun _ _=>rfl))) (fun _ _ _ _ _=>(aD (i:=0) (aZ (by decide+kernel)) rfl (Or.inl rfl))) (fun _ _ _ _ _=>bC) (fun _ _ _ _ _=>(aQ (r:=ik K) bc (pv 1) (pv 0) (fun _ _=>rfl)))) ao)) ao)) ao))) (jj (r:=GC K) CP (pv 0) (jC aq) nR)))) aX)
 (au (cA (aP (r:=rIn K false) iZ (aQ (r:=eO K) bh (pv 0) aq (fun _ _=>rfl)) (bM (aa bT (aa bT ao))) rfl) (aC (aL (bM (aa (aQ (r:=eO K) bh (pv 0) aq (fun _ _=>rfl)) (aa (bI (r:=gC K) bJ rfl B.tuple_ cI (aa (bH (L:=["_law_part"]) (F:=["_law_row"]) (cap:=[1]) rfl (bx rfl rfl (by kernel_rfl)) (gk (aQ (r:=eO K) bh (pv 0) aq (fun _ _=>rfl))) (fun _ _ _ _ _=>(aD (i:=0) (aZ (by decide+kernel)) rfl (Or.inl rfl))) (fun _ _ _ _ _=>bC) (fun _ _ _ _ _=>(bA D_law_renamed hr (aa (pv 0) (aa (pv 1) ao))))) ao)) ao))))) aX)
 (aC (aL (pv 0)))))),?_⟩
  cases rt with
  | @free a ha =>
   refine⟨_,rfl,a,_,_,_,rfl,rfl,SqT.of ha,aF (k:=0) rfl,rfl,_,rfl,fW (bu (by decide)) ?_⟩
   refine⟨_,rfl,a,_,_,_,rfl,rfl,SqT.of ha,aF (k:=0) rfl,small (by show 2<=1000; decide),fun p1 h1=>⟨p1,_,rfl,.inr (SqT.of aj),rfl,rfl,_,rfl,yR (by decide+kernel) ?_⟩⟩
   generalize eH1:upd H p1 _=H1
   obtain⟨g1,_⟩:=aH eH1 h1
   refine⟨_,rfl,a,_,_,_,rfl,rfl,SqT.of (g1 _ _ ha),aF (k:=0) rfl,small (by show 2<=1000; decide),fun p2 h2=>⟨p2,_,rfl,.inr (SqT.of aj),rfl,rfl,_,rfl,yR (by decide+kernel) ?_⟩⟩
   generalize eH2:upd H1 p2 _=H2
   obtain⟨g2,_⟩:=aH eH2 h2
   refine⟨_,rfl,?_⟩
   have q':=q (.ref a) H2 (g1.trans g2) (by rw[ren]; exact .free (g2 _ _ (g1 _ _ ha)))
   exact q'
  | @never a ha =>
   refine⟨_,rfl,a,_,_,_,rfl,rfl,SqT.of ha,aF (k:=0) rfl,rfl,_,rfl,fW (bu (by decide)) ?_⟩
   refine⟨_,rfl,a,_,_,_,rfl,rfl,SqT.of ha,aF (k:=0) rfl,small (by show 2<=1000; decide),fun p1 h1=>⟨p1,_,rfl,.inr (SqT.of aj),rfl,rfl,_,rfl,yR (by decide+kernel) ?_⟩⟩
   generalize eH1:upd H p1 _=H1
   obtain⟨g1,_⟩:=aH eH1 h1
   refine⟨_,rfl,a,_,_,_,rfl,rfl,SqT.of (g1 _ _ ha),aF (k:=0) rfl,small (by show 2<=1000; decide),fun p2 h2=>⟨p2,_,rfl,.inr (SqT.of aj),rfl,rfl,_,rfl,yR (by decide+kernel) ?_⟩⟩
   generalize eH2:upd H1 p2 _=H2
   obtain⟨g2,_⟩:=aH eH2 h2
   refine⟨_,rfl,?_⟩
   have q':=q (.ref a) H2 (g1.trans g2) (by rw[ren]; exact .never (g2 _ _ (g1 _ _ ha)))
   exact q'
  | @gives a i k ha hi k1 k9 =>
   refine⟨_,rfl,a,_,_,_,rfl,rfl,SqT.of ha,aF (k:=0) rfl,rfl,_,rfl,zR rfl ?_⟩
   refine⟨_,rfl,_,rfl,a,_,_,_,rfl,rfl,SqT.of ha,aF (k:=1) rfl,row,_,_,_,rfl,rfl,hR,Dq (by lia),_,rfl,a,_,_,_,rfl,rfl,SqT.of ha,aF (k:=2) rfl,small (by show 3<=1000; decide),fun p1 h1=>?_⟩
   refine q (.ref p1) _ (aA h1 _) ?_
   rw[ren]
   exact .gives aj (hv _ (xO (by lia))) k1 k9
  | @sum a b c k ha hb hc hp l20 l2 k1 k99 =>
   obtain⟨x1,x2,x3⟩:=sW nd hm hv hc hp
   refine⟨_,rfl,a,_,_,_,rfl,rfl,SqT.of ha,aF (k:=0) rfl,rfl,_,rfl,fW (bu (by decide)) ?_⟩
   refine⟨_,rfl,a,_,_,_,rfl,rfl,SqT.of ha,aF (k:=0) rfl,small (by show 2<=1000; decide),fun p1 h1=>⟨p1,_,rfl,.inr (SqT.of aj),rfl,rfl,_,rfl,K5 (by decide+kernel) ?_⟩⟩
   generalize eH1:upd H p1 _=H1
   obtain⟨g1,_⟩:=aH eH1 h1
   refine⟨_,rfl,a,_,_,_,rfl,rfl,SqT.of (g1 _ _ ha),aF (k:=0) rfl,?_⟩
   refine⟨_,rfl,a,_,_,_,rfl,rfl,SqT.of (g1 _ _ ha),aF (k:=1) rfl,b,rfl,⟨_,SqT.of (g1 _ _ hb)⟩,fun D hD=>dw (K:=K) (a:=b) (xs:=c.map vN) (fun i zs σ' H2=>(∃ u,σ'=[u,some (.ref row)])/\zs=((c.take i).map (mJ rs)).map vN/\aN H1 H2/\H2 D=some (.lst zs))
    ⟨⟨_,rfl⟩,rfl,aA hD _,aj⟩ (fun i zs σ' H2 _ h=>⟨SqT.of (h.2.2.1 _ _ (g1 _ _ hb)),h.2.2.2⟩) ?_ ?_⟩
   ·rintro j zs x σ' H2 hx ⟨⟨u,rfl⟩,e1,sm,hDl⟩
    obtain⟨i,hi,rfl⟩:=ux hx
    have him:=hc i (List.mem_of_getElem? hi)
    refine gT ?_
    refine⟨_,rfl,_,rfl,row,_,_,_,rfl,rfl,wK (g1.trans sm) hR,Dq (by lia),hDl,?_,⟨_,rfl⟩,?_,aK sm hD _,aj⟩
    ·rw[e1,List.length_map,List.length_map,List.length_take]
     exact aG (by lia)
    ·rw[e1,take_snoc (mJ rs) hi,List.map_append]
     rfl
   ·rintro zs σ' H2 ⟨_,e1,sm,hDl⟩
    rw[List.length_map,List.take_length] at e1
    refine⟨D,(c.map (mJ rs)).map fun i:Nat=>(i:Int),rfl,SqL.of (by rw[hDl,e1,iB]),by rw[List.length_map,List.length_map]; lia,fun ms pm so l hl=>?_⟩
    rw[BW pm so,← iB]
    generalize eH3:upd H2 l _=H3
    obtain⟨g3,e3⟩:=aH eH3 hl
    refine⟨l,_,rfl,.inl ⟨SqL.of e3,fun p4 h4=>?_⟩⟩
    generalize eH4:upd H3 p4 _=H4
    obtain⟨g4,e4⟩:=aH eH4 h4
    refine⟨small (by show 2<=1000; decide),fun p5 h5=>?_⟩
    generalize eH5:upd H4 p5 _=H5
    obtain⟨g5,e5⟩:=aH eH5 h5
    have s5:aN H H5:=g1.trans (sm.trans (g3.trans (g4.trans g5)))
    refine⟨_,rfl,_,rfl,a,_,rfl,SqT.of (s5 _ _ ha),(by show ¬ (HT.sIx 3 0 (some 2)=0/\HT.sIx 3 3 none=3); decide),fun p6 h6=>?_⟩
    have ec:su [V.str "sum",.ref b,.int k] (some 2) none=[.int k]:=rfl
    rw[ec]
    generalize eH6:upd H5 p6 _=H6
    obtain⟨g6,e6⟩:=aH eH6 h6
    refine⟨p5,p6,_,_,rfl,rfl,SqT.of (g6 _ _ e5),SqT.of e6,small (by show 3<=1000; decide),fun z=>(by cases z),fun _ z=>(by cases z),fun _ _ p7 h7=>?_⟩
    refine q (.ref p7) _ (s5.trans (g6.trans (aA h7 _))) ?_
    rw[ren]
    exact .sum aj (aA h7 _ _ _ (g6 _ _ (g5 _ _ e4))) x1 x2 (by lia) (by lia) k1 k99
  | @crowd a b c k mm ha hb hc hp l20 l1 k1 k9 m1 m12 =>
   obtain⟨x1,x2,x3⟩:=sW nd hm hv hc hp
   refine⟨_,rfl,a,_,_,_,rfl,rfl,SqT.of ha,aF (k:=0) rfl,rfl,_,rfl,fW (bu (by decide)) ?_⟩
   refine⟨_,rfl,a,_,_,_,rfl,rfl,SqT.of ha,aF (k:=0) rfl,small (by show 2<=1000; decide),fun p1 h1=>⟨p1,_,rfl,.inr (SqT.of aj),rfl,rfl,_,rfl,K5 (by decide+kernel) ?_⟩⟩
   generalize eH1:upd H p1 _=H1
   obtain⟨g1,_⟩:=aH eH1 h1
   refine⟨_,rfl,a,_,_,_,rfl,rfl,SqT.of (g1 _ _ ha),aF (k:=0) rfl,?_⟩
   refine⟨_,rfl,a,_,_,_,rfl,rfl,SqT.of (g1 _ _ ha),aF (k:=1) rfl,b,rfl,⟨_,SqT.of (g1 _ _ hb)⟩,fun D hD=>dw (K:=K) (a:=b) (xs:=c.map vN) (fun i zs σ' H2=>(∃ u,σ'=[u,some (.ref row)])/\zs=((c.take i).map (mJ rs)).map vN/\aN H1 H2/\H2 D=some (.lst zs))
    ⟨⟨_,rfl⟩,rfl,aA hD _,aj⟩ (fun i zs σ' H2 _ h=>⟨SqT.of (h.2.2.1 _ _ (g1 _ _ hb)),h.2.2.2⟩) ?_ ?_⟩
   ·rintro j zs x σ' H2 hx ⟨⟨u,rfl⟩,e1,sm,hDl⟩
    obtain⟨i,hi,rfl⟩:=ux hx
    have him:=hc i (List.mem_of_getElem? hi)
    refine gT ?_
    refine⟨_,rfl,_,rfl,row,_,_,_,rfl,rfl,wK (g1.trans sm) hR,Dq (by lia),hDl,?_,⟨_,rfl⟩,?_,aK sm hD _,aj⟩
    ·rw[e1,List.length_map,List.length_map,List.length_take]
     exact aG (by lia)
    ·rw[e1,take_snoc (mJ rs) hi,List.map_append]
     rfl
   ·rintro zs σ' H2 ⟨_,e1,sm,hDl⟩
    rw[List.length_map,List.take_length] at e1
    refine⟨D,(c.map (mJ rs)).map fun i:Nat=>(i:Int),rfl,SqL.of (by rw[hDl,e1,iB]),by rw[List.length_map,List.length_map]; lia,fun ms pm so l hl=>?_⟩
    rw[BW pm so,← iB]
    generalize eH3:upd H2 l _=H3
    obtain⟨g3,e3⟩:=aH eH3 hl
    refine⟨l,_,rfl,.inl ⟨SqL.of e3,fun p4 h4=>?_⟩⟩
    generalize eH4:upd H3 p4 _=H4
    obtain⟨g4,e4⟩:=aH eH4 h4
    refine⟨small (by show 2<=1000; decide),fun p5 h5=>?_⟩
    generalize eH5:upd H4 p5 _=H5
    obtain⟨g5,e5⟩:=aH eH5 h5
    have s5:aN H H5:=g1.trans (sm.trans (g3.trans (g4.trans g5)))
    refine⟨_,rfl,_,rfl,a,_,rfl,SqT.of (s5 _ _ ha),(by show ¬ (HT.sIx 4 0 (some 2)=0/\HT.sIx 4 4 none=4); decide),fun p6 h6=>?_⟩
    have ec:su [V.str "crowd",.ref b,.int k,.int mm] (some 2) none=[.int k,.int mm]:=rfl
    rw[ec]
    generalize eH6:upd H5 p6 _=H6
    obtain⟨g6,e6⟩:=aH eH6 h6
    refine⟨p5,p6,_,_,rfl,rfl,SqT.of (g6 _ _ e5),SqT.of e6,small (by show 4<=1000; decide),fun z=>(by cases z),fun _ z=>(by cases z),fun _ _ p7 h7=>?_⟩
    refine q (.ref p7) _ (s5.trans (g6.trans (aA h7 _))) ?_
    rw[ren]
    exact .crowd aj (aA h7 _ _ _ (g6 _ _ (g5 _ _ e4))) x1 x2 (by lia) (by lia) k1 k9 m1 m12
  | @all a b us ts ha hb l2 l6 rl =>
   have hdl:tdL ts<=d:=by rw[Tm.dep] at hd; lia
   have el:=rl.length
   refine⟨_,rfl,a,_,_,_,rfl,rfl,SqT.of ha,aF (k:=0) rfl,rfl,_,rfl,fW (bu (by decide)) ?_⟩
   refine⟨_,rfl,a,_,_,_,rfl,rfl,SqT.of ha,aF (k:=0) rfl,small (by show 2<=1000; decide),fun p1 h1=>⟨p1,_,rfl,.inr (SqT.of aj),rfl,rfl,_,rfl,yR (by decide+kernel) ?_⟩⟩
   generalize eH1:upd H p1 _=H1
   obtain⟨g1,_⟩:=aH eH1 h1
   refine⟨_,rfl,a,_,_,_,rfl,rfl,SqT.of (g1 _ _ ha),aF (k:=0) rfl,small (by show 2<=1000; decide),fun p2 h2=>⟨p2,_,rfl,.inr (SqT.of aj),rfl,rfl,_,rfl,K5 (by decide+kernel) ?_⟩⟩
   generalize eH2:upd H1 p2 _=H2
   obtain⟨g2,_⟩:=aH eH2 h2
   have s2:aN H H2:=g1.trans g2
   refine⟨_,rfl,a,_,_,_,rfl,rfl,SqT.of (s2 _ _ ha),aF (k:=0) rfl,?_⟩
   refine⟨_,rfl,a,_,_,_,rfl,rfl,SqT.of (s2 _ _ ha),aF (k:=1) rfl,b,rfl,⟨_,SqT.of (s2 _ _ hb)⟩,fun D hD=>dw (K:=K) (a:=b) (xs:=us) (fun i zs σ' H3=>(∃ u,σ'=[u,some (.ref row)])/\zs.length=i/\aN H2 H3/\H3 D=some (.lst zs)/\du n H3 zs (yX (mJ rs) (ts.take i)))
    ⟨⟨_,rfl⟩,rfl,aA hD _,aj,by rw[List.take_zero,yX]; exact .nil⟩ (fun i zs σ' H3 _ h=>⟨SqT.of (h.2.2.1 _ _ (s2 _ _ hb)),h.2.2.2.1⟩) ?_ ?_⟩
   ·rintro j zs x σ' H3 hx ⟨⟨u,rfl⟩,lz,sm,hDl,rz⟩
    obtain⟨t,ht,rt⟩:=rl.get hx
    have hj:=(List.getElem?_eq_some_iff.mp hx).1
    refine gT ?_
    refine⟨_,rfl,_,rfl,x,row,m,n,t,rs,rfl,rt.mono (s2.trans sm),Nat.le_trans (lD ht) hdl,wK (s2.trans sm) hR,hm,nd,hv,fun v' H4 s4 r4=>?_⟩
    have s7:=dB (zs':=zs++[v']) (s4 _ _ hDl)
    refine⟨s4 _ _ hDl,aG (by lia),⟨_,rfl⟩,by rw[List.length_append,lz]; rfl,aK (sm.trans s4) hD _,aj,?_⟩
    rw[jY,take_snoc (ren (mJ rs)) ht,← jY]
    exact ((rz.mono s4).cD s7).snoc (r4.cD s7)
   ·rintro zs σ' H3 ⟨_,lz,sm,hDl,rz⟩
    rw[el,List.take_length] at rz
    refine⟨D,_,rfl,.inl ⟨SqL.of hDl,fun p4 h4=>?_⟩⟩
    generalize eH4:upd H3 p4 _=H4
    obtain⟨g4,e4⟩:=aH eH4 h4
    refine⟨small (by show 2<=1000; decide),fun p5 h5=>?_⟩
    refine q (.ref p5) _ (s2.trans (sm.trans (g4.trans (aA h5 _)))) ?_
    rw[ren]
    exact .all aj (aA h5 _ _ _ e4) (by lia) (by lia) (rz.mono (g4.trans (aA h5 _)))
  | @any a b us ts ha hb l2 l6 rl =>
   have hdl:tdL ts<=d:=by rw[Tm.dep] at hd; lia
   have el:=rl.length
   refine⟨_,rfl,a,_,_,_,rfl,rfl,SqT.of ha,aF (k:=0) rfl,rfl,_,rfl,fW (bu (by decide)) ?_⟩
   refine⟨_,rfl,a,_,_,_,rfl,rfl,SqT.of ha,aF (k:=0) rfl,small (by show 2<=1000; decide),fun p1 h1=>⟨p1,_,rfl,.inr (SqT.of aj),rfl,rfl,_,rfl,yR (by decide+kernel) ?_⟩⟩
   generalize eH1:upd H p1 _=H1
   obtain⟨g1,_⟩:=aH eH1 h1
   refine⟨_,rfl,a,_,_,_,rfl,rfl,SqT.of (g1 _ _ ha),aF (k:=0) rfl,small (by show 2<=1000; decide),fun p2 h2=>⟨p2,_,rfl,.inr (SqT.of aj),rfl,rfl,_,rfl,K5 (by decide+kernel) ?_⟩⟩
   generalize eH2:upd H1 p2 _=H2
   obtain⟨g2,_⟩:=aH eH2 h2
   have s2:aN H H2:=g1.trans g2
   refine⟨_,rfl,a,_,_,_,rfl,rfl,SqT.of (s2 _ _ ha),aF (k:=0) rfl,?_⟩
   refine⟨_,rfl,a,_,_,_,rfl,rfl,SqT.of (s2 _ _ ha),aF (k:=1) rfl,b,rfl,⟨_,SqT.of (s2 _ _ hb)⟩,fun D hD=>dw (K:=K) (a:=b) (xs:=us) (fun i zs σ' H3=>(∃ u,σ'=[u,some (.ref row)])/\zs.length=i/\aN H2 H3/\H3 D=some (.lst zs)/\du n H3 zs (yX (mJ rs) (ts.take i)))
    ⟨⟨_,rfl⟩,rfl,aA hD _,aj,by rw[List.take_zero,yX]; exact .nil⟩ (fun i zs σ' H3 _ h=>⟨SqT.of (h.2.2.1 _ _ (s2 _ _ hb)),h.2.2.2.1⟩) ?_ ?_⟩
   ·rintro j zs x σ' H3 hx ⟨⟨u,rfl⟩,lz,sm,hDl,rz⟩
    obtain⟨t,ht,rt⟩:=rl.get hx
    have hj:=(List.getElem?_eq_some_iff.mp hx).1
    refine gT ?_
    refine⟨_,rfl,_,rfl,x,row,m,n,t,rs,rfl,rt.mono (s2.trans sm),Nat.le_trans (lD ht) hdl,wK (s2.trans sm) hR,hm,nd,hv,fun v' H4 s4 r4=>?_⟩
    have s7:=dB (zs':=zs++[v']) (s4 _ _ hDl)
    refine⟨s4 _ _ hDl,aG (by lia),⟨_,rfl⟩,by rw[List.length_append,lz]; rfl,aK (sm.trans s4) hD _,aj,?_⟩
    rw[jY,take_snoc (ren (mJ rs)) ht,← jY]
    exact ((rz.mono s4).cD s7).snoc (r4.cD s7)
   ·rintro zs σ' H3 ⟨_,lz,sm,hDl,rz⟩
    rw[el,List.take_length] at rz
    refine⟨D,_,rfl,.inl ⟨SqL.of hDl,fun p4 h4=>?_⟩⟩
    generalize eH4:upd H3 p4 _=H4
    obtain⟨g4,e4⟩:=aH eH4 h4
    refine⟨small (by show 2<=1000; decide),fun p5 h5=>?_⟩
    refine q (.ref p5) _ (s2.trans (sm.trans (g4.trans (aA h5 _)))) ?_
    rw[ren]
    exact .any aj (aA h5 _ _ _ e4) (by lia) (by lia) (rz.mono (g4.trans (aA h5 _)))
noncomputable def shN (one k:Nat):Nat:=k+if one<=k then 1 else 0
noncomputable def shR (one m:Nat):List Nat:=(List.range m).map (shN one)
theorem Cg (one m:Nat):(shR one m).Nodup:=by
 unfold shR
 show ((List.range m).map (shN one)).Pairwise (·≠·)
 rw[List.pairwise_map]
 refine List.pairwise_lt_range.imp fun {a b} h=>?_
 unfold shN
 split <;> split <;> lia
theorem JK {one m:Nat}:∀ x∈shR one m,x < m+1:=fun x hx=>by
 unfold shR at hx
 obtain⟨k,hk,rfl⟩:=List.mem_map.mp hx
 have:=List.mem_range.mp hk
 unfold shN
 split <;> lia
noncomputable abbrev fK:Stmt:=top 29
theorem wR:aY ["_law_cell_here","_law_n","_law_one","_law_deep","_law_most"] ["_law_cell_here","_law_n","_law_one","_law_deep","_law_most"] (aB fK):=⟨rfl,rfl,rfl,by decide+kernel,rfl,by decide+kernel,by decide+kernel⟩
inductive zW (vs:List V) (H:Hp) (Q:VK):Prop where
 | mk (c:Int) (n one:Nat) (deep:Int) (mo:Nat) (z0:vs=[.int c,.int (n:Int),.int (one:Int),.int deep,.int (mo:Int)]) (z1:1<=n) (z2:n<=12) (z3:one < n) (z4:1<=deep) (z5:deep<=3) (z6:1<=mo) (z7:mo<=9) (z8:∀ (v:V) (t:Tm) (H':Hp),aN H H'->lK n H' v t->t.dep<=3->Q v H'):zW  vs H Q
noncomputable def zZ:Sp:=fun vs H Q _=>zW  vs H Q
theorem wC (F:Fun K "_law_mine" "_law_mine" fK f fd) (B:Bt mg)
  (D_law_term:Df P w K mg base "_law_term" 4 ["_law_cell_here","_law_n","_law_deep","_law_most"] (jQ 3)) (D_law_renamed:Df P w K mg base "_law_renamed" 3 ["_law_term_here","_law_row"] (rH K 3)):dz P w K mg base CX0 5 f fd ["_law_cell_here","_law_n","_law_one","_law_deep","_law_most"] zZ:=by
 refine F.ok wR (fun vs H Q E h=>?_) (fun cdv A outer s H vs Q E hr h=>?_)
 ·obtain⟨c,n,one,deep,mo,rfl,_⟩:=h
  rfl
 ·obtain⟨c,n,one,deep,mo,rfl,n1,n12,hone,de1,de3,m1,m9,q⟩:=h
  refine⟨_,(au (cA (aP eX (pv 1) aq (aR _)) (aC (aL (bM (aa (aQ (r:=ik K) bc (bV (aa bT (aa bT (aa bT ao)))) (aU di (pv 0) aq) (fun _ _=>rfl)) ao)))) aX)
 (aC (aL (bA D_law_renamed hr (aa (bA D_law_term hr (aa (pv 0) (aa (aU nA (pv 1) aq) (aa (pv 3) (aa (pv 4) ao))))) (aa (bH (L:=["_law_k"]) (F:=["_law_one"]) (cap:=[2]) rfl (bx rfl rfl (by kernel_rfl)) (bQ rfl B.range_ (aa (aU nA (pv 1) aq) ao)) (fun _ _ _ _ _=>(aD (i:=0) (aZ (by decide+kernel)) rfl (Or.inl rfl))) (fun _ _ _ _ _=>bC) (fun _ _ _ _ _=>(aU bR (pv 0) (bI (r:=KJ) vd rfl B.int_ xG (aa (cO o6 (pv 0) (pv 1) (aR _)) ao))))) ao)))))),?_⟩
  refine⟨_,rfl,rfl,_,rfl,?_⟩
  refine zQ (fun c1=>?_) (fun c1=>?_)
  ·have en:n=1:=by
    have:=of_decide_eq_true c1
    cases n with
    | zero=>lia
    | succ n=>injection this with z; lia
   subst en
   refine⟨small (by show 3<=1000; decide),fun p7 h7=>?_⟩
   generalize eH7:upd H p7 _=H7
   obtain⟨g7,e7⟩:=aH eH7 h7
   have fin:∀ p8 (x:Str),H7 p8=none->(x = "free"∨x = "never")->Q (.ref p8) (upd H7 p8 (.tup [.str x])):=fun p8 x h8 hx=>by
    rcases hx with rfl | rfl
    ·exact q (.ref p8) .free _ (g7.trans (aA h8 _)) (.free aj) (by decide)
    ·exact q (.ref p8) .never _ (g7.trans (aA h8 _)) (.never aj) (by decide)
   refine⟨_,rfl,_,_,rfl,rfl,(by show (0:Int) < 3; decide),?_⟩
   have u1:0<=c % 3:=Int.emod_nonneg _ (by lia)
   have u2:c % 3 < 3:=Int.emod_lt_of_pos _ (by lia)
   rcases (show c % 3=0∨c % 3=1∨c % 3=2 by lia) with z | z | z
   ·exact⟨p7,_,_,_,rfl,rfl,SqL.of e7,by rw[z]; rfl,small (by show 1<=1000; decide),fun p8 h8=>fin p8 _ h8 (.inl rfl)⟩
   ·exact⟨p7,_,_,_,rfl,rfl,SqL.of e7,by rw[z]; rfl,small (by show 1<=1000; decide),fun p8 h8=>fin p8 _ h8 (.inr rfl)⟩
   ·exact⟨p7,_,_,_,rfl,rfl,SqL.of e7,by rw[z]; rfl,small (by show 1<=1000; decide),fun p8 h8=>fin p8 _ h8 (.inl rfl)⟩
  ·have en:n≠1:=fun z=>c1 (decide_eq_true (by rw[z]; rfl))
   obtain⟨m,rfl⟩:∃ m,n=m+1:=⟨n - 1,by lia⟩
   have em:((m+1:Nat):Int) - 1=(m:Int):=by lia
   have et:(((m+1:Nat):Int) - 1).toNat=m:=by lia
   refine⟨_,rfl,_,rfl,_,_,rfl,rfl,_,rfl,_,rfl,c,m,deep,(mo:Int),(by show[V.int c,V.int (((m+1:Nat):Int) - 1),V.int deep,V.int (mo:Int)]=_; rw[em]),by lia,by lia,de1,by lia,by lia,by lia,fun v t H1 s1 rt td=>?_⟩
   refine⟨_,rfl,_,_,rfl,rfl,_,rfl,by lia,by lia,fun D hD=>dh (lo:=0) (n:=(((m+1:Nat):Int) - 1).toNat) (fun i zs σ' H2=>(∃ u,σ'=[u,some (.int (one:Int))])/\zs=((List.range i).map (shN one)).map vN/\aN H1 H2/\H2 D=some (.lst zs))
    ⟨⟨_,rfl⟩,rfl,aA hD _,aj⟩ (fun i zs σ' H2 _ h=>h.2.2.2) ?_ ?_⟩
   ·rintro i zs σ' H2 hi ⟨⟨u,rfl⟩,e1,sm,hDl⟩
    refine gT ?_
    refine⟨_,rfl,_,rfl,_,rfl,_,_,rfl,rfl,.inr ⟨_,rfl,_,_,rfl,rfl,hDl,?_,⟨_,rfl⟩,?_,aK sm hD _,aj⟩⟩
    ·rw[e1,List.length_map,List.length_map,List.length_range]
     exact aG (by lia)
    ·rw[e1,List.range_succ,List.map_append,List.map_append]
     congr 1
     show[V.int (0+(i:Int)+_)]=[V.int ((shN one i:Nat):Int)]
     congr 2
     unfold shN
     by_cases hc:one<=i
     ·rw[decide_eq_true (by lia),if_pos hc]
      simp
     ·rw[decide_eq_false (by lia),if_neg hc]
      simp
   ·rintro zs σ' H2 ⟨_,e1,sm,hDl⟩
    rw[et] at e1
    refine⟨v,D,m,m+1,t,shR one m,rfl,rt.mono sm,by lia,SqL.of (by rw[hDl,e1]; rfl),by unfold shR; rw[List.length_map,List.length_range]; lia,Cg one m,JK,fun v' H3 s3 r3=>?_⟩
    exact q v' _ H3 (s1.trans (sm.trans s3)) r3 (by rw[BL]; lia)
theorem BZ {x:Int}:∀ (ns acc:List Int),x∈ns.foldl PyProof.Rows.step_dedup acc ↔ x∈acc∨x∈ns
 | [],acc=>by simp
 | n::r,acc=>by
  rw[List.foldl_cons,BZ r _]
  unfold PyProof.Rows.step_dedup
  split
  ·rename_i h
   obtain⟨y,hy,ey⟩:=List.any_eq_true.mp h
   have e:=eq_of_beq ey
   constructor
   ·rintro (h | h)
    ·exact .inl h
    ·exact .inr (List.mem_cons_of_mem _ h)
   ·rintro (h | h)
    ·exact .inl h
    ·rcases List.mem_cons.mp h with rfl | h
     ·exact .inl (by rw[← e]; exact hy)
     ·exact .inr h
  ·constructor
   ·rintro (h | h)
    ·rcases List.mem_append.mp h with h | h
     ·exact .inl h
     ·exact .inr (by rw[List.mem_singleton.mp h]; exact List.mem_cons_self)
    ·exact .inr (List.mem_cons_of_mem _ h)
   ·rintro (h | h)
    ·exact .inl (List.mem_append_left _ h)
    ·rcases List.mem_cons.mp h with rfl | h
     ·exact .inl (List.mem_append_right _ List.mem_cons_self)
     ·exact .inr h
noncomputable def okS (ms:List Int):Prop:=ms≠[]/\ms.length<=9/\ms.Pairwise (· < ·)/\∀ x∈ms,1<=x/\x<=9
theorem Ky {ns ms:List Int} (p:ms.Perm (ddI ns)) (so:ms.Pairwise (·<=·)) (h0:ns≠[]) (h9:ns.length<=9) (hb:∀ x∈ns,1<=x/\x<=9):okS ms:=by
 rw[Dk] at p
 have mem:∀ x,x∈ms ↔ x∈ns:=fun x=>by rw[p.mem_iff,BZ]; simp
 refine⟨fun z=>?_,?_,?_,fun x hx=>hb x ((mem x).mp hx)⟩
 ·cases ns with
  | nil=>exact h0 rfl
  | cons a r =>
   have:=(mem a).mpr List.mem_cons_self
   rw[z] at this
   cases this
 ·have:=Al ns []
  rw[p.length_eq]
  simp at this
  lia
 ·have nd:ms.Nodup:=p.nodup_iff.mpr (xT ns [] (by simp))
  exact (so.and nd).imp fun h=>by lia
theorem JX {ns ms:List Int} (p:ms.Perm (ddI ns)) {x:Int} (h:x∈ms):x∈ns:=by
 rw[Dk] at p
 have:=p.mem_iff.mp h
 rw[BZ] at this
 simpa using this
theorem Di {ms:List Int} (h:okS ms) {p:Pl} (e:p.map (·.1)=ms) (hd:∀ x∈p,x.2.dep<=4):okP p:=by
 refine⟨fun z=>?_,?_,by rw[e]; exact h.2.2.1,fun x hx=>?_⟩
 ·subst z
  exact h.1 e.symm
 ·have:=congrArg List.length e
  rw[List.length_map] at this
  have:=h.2.1
  lia
 ·have hm:x.1∈ms:=by rw[← e]; exact List.mem_map.mpr ⟨x,hx,rfl⟩
  exact⟨(h.2.2.2 _ hm).1,(h.2.2.2 _ hm).2,hd x hx⟩
noncomputable abbrev dg:Stmt:=top 30
theorem bO:aY ["_law_cell_here","_law_n","_law_one","_law_deep","_law_most","_law_drawn","_law_steps","_law_other_one","_law_found","_law_k","_law_step"] ["_law_cell_here","_law_n","_law_one","_law_deep","_law_most"] (aB dg):=⟨rfl,rfl,rfl,by decide+kernel,rfl,by decide+kernel,by decide+kernel⟩
inductive sO (vs:List V) (H:Hp) (Q:VK):Prop where
 | mk (c:Int) (n one:Nat) (deep:Int) (mo:Nat) (z0:vs=[.int c,.int (n:Int),.int (one:Int),.int deep,.int (mo:Int)]) (z1:1<=n) (z2:n<=12) (z3:one < n) (z4:1<=deep) (z5:deep<=3) (z6:1<=mo) (z7:mo<=9) (z8:∀ (a:Addr) (p:Pl) (H':Hp),aN H H'->zO n H' a p->(∀ x∈p,x.1<=(mo:Int))->Q (.ref a) H'):sO  vs H Q
noncomputable def qy:Sp:=fun vs H Q _=>sO  vs H Q
theorem qu (F:Fun K "_law_pledge" "_law_pledge" dg f fd) (B:Bt mg)
  (D_law_draws:Df P w K mg base "_law_draws" 1 ["_law_cell_here","_law_parts"] (jK K)) (D_law_under:Df P w K mg base "_law_under" 1 ["_law_cell_here","_law_k"] n8) (D_law_crowd:Df P w K mg base "_law_crowd" 1 ["_law_number","_law_n"] rM)
  (D_law_mine:Df P w K mg base "_law_mine" 5 ["_law_cell_here","_law_n","_law_one","_law_deep","_law_most"] zZ):dz P w K mg base CX0 6 f fd ["_law_cell_here","_law_n","_law_one","_law_deep","_law_most"] qy:=by
 refine F.ok bO (fun vs H Q E h=>?_) (fun cdv A outer s H vs Q E hr h=>?_)
 ·obtain⟨c,n,one,deep,mo,rfl,_⟩:=h
  rfl
 ·obtain⟨c,n,one,deep,mo,rfl,n1,n12,hone,de1,de3,m1,m9,q⟩:=h
  refine⟨_,(au (bj (i:=5) bO.nd rfl (Or.inr rfl) (bA D_law_draws hr (aa (pv 0) (aa (bV (aa aq (aa aq (aa aq (aa aq (aa aq (aa aq ao))))))) ao))))
 (au (bj (i:=6) bO.nd rfl (Or.inl rfl) (sV rfl rfl B.sorted_ rfl B.set_ (aa (bH (L:=["_law_k"]) (F:=["_law_most","_law_drawn"]) (cap:=[4,5]) rfl (bx rfl rfl (by kernel_rfl)) (bQ rfl B.range_ (aa (aU bR aq (aU di (aQ (r:=ik K) bc (pv 5) aq (fun _ _=>rfl)) aq)) ao)) (fun _ _ _ _ _=>(aD (i:=0) (aZ (by decide+kernel)) rfl (Or.inl rfl))) (fun _ _ _ _ _=>bC) (fun _ _ _ _ _=>(aU bR aq (aU di (aQ (r:=ik K) bc (pv 2) (aU bR aq (pv 0)) (fun _ _=>rfl)) (pv 1))))) ao)))
 (au (cA (aP eX (aQ (r:=ik K) bc (pv 5) aq (fun _ _=>rfl)) aq (aR _)) (au (oE (L:=["_law_step"]) (F:=[]) (cap:=[]) (j:=6) bO.nd rfl (Or.inl rfl) rfl (bx rfl rfl (by kernel_rfl)) (gk (bA D_law_crowd hr (aa (aQ (r:=ik K) bc (pv 5) aq (fun _ _=>rfl)) (aa (pv 4) ao)))) (fun _ _ _ _ _=>(aD (i:=0) (aZ (by decide+kernel)) rfl (Or.inl rfl))) (fun _ _ _ _ _=>bC) (fun _ _ _ _ _=>(aU bR aq (pv 0))))
 (aC (cA (aP (r:=Li K) (Gx hr.iV) (pv 6) (bV ao) (aR _)) (aC (bj (i:=6) bO.nd rfl (Or.inl rfl) (bV (aa (pv 4) ao)))) aX))) aX)
 (au (cA (PW.pt (pK (aP eX (aQ (r:=ik K) bc (pv 5) aq (fun _ _=>rfl)) aq (aR _)) (kW (aP zr (pv 1) aq (aR _))))) (aC (aL (bI (r:=gC K) bJ rfl B.tuple_ cI (aa (bH (L:=["_law_step"]) (F:=["_law_n","_law_one"]) (cap:=[1,2]) rfl (bx rfl rfl (by kernel_rfl)) (cX (pv 6)) (fun _ _ _ _ _=>(aD (i:=0) (aZ (by decide+kernel)) rfl (Or.inl rfl))) (fun _ _ _ _ _=>bC) (fun _ _ _ _ _=>(bM (aa (pv 0) (aa (bM (aa bT (aa (aU di (aU bR (pv 2) aq) (pv 1)) (aa (pv 0) ao)))) ao))))) ao)))) aX)
 (au (cA (PW.pt (pK (aP eX (aQ (r:=ik K) bc (pv 5) aq (fun _ _=>rfl)) aq (aR _)) (kW (aP zr (pv 1) aq (aR _))))) (au (bj (i:=7) bO.nd rfl (Or.inr rfl) (aU di (aU bR (aU bR (pv 2) aq) (aU di (aQ (r:=ik K) bc (pv 5) aq (fun _ _=>rfl)) (aU nA (pv 1) aq))) (pv 1)))
 (aC (aL (bI (r:=gC K) bJ rfl B.tuple_ cI (aa (bH (L:=["_law_step"]) (F:=["_law_other_one"]) (cap:=[7]) rfl (bx rfl rfl (by kernel_rfl)) (cX (pv 6)) (fun _ _ _ _ _=>(aD (i:=0) (aZ (by decide+kernel)) rfl (Or.inl rfl))) (fun _ _ _ _ _=>bC) (fun _ _ _ _ _=>(bM (aa (pv 0) (aa (bM (aa bT (aa (pv 1) (aa (aJ (oF rfl) rfl B.max_ nH (aa aq (aa (aU nA (pv 0) aq) ao))) ao)))) ao))))) ao))))) aX)
 (au (bj (i:=8) bO.nd rfl (Or.inl rfl) (bV ao))
 (au (eE PassesOwn.never rfl (Hw rfl B.enumerate_ (aa (pv 6) ao)) (dF (K:=K) 2 rfl rfl (bw (aD (i:=9) bO.nd rfl (Or.inl rfl)) (bw (aD (i:=10) bO.nd rfl (Or.inl rfl)) d8))) (aC (iQ (sZ PySem.F.plainAttrs_list PySem.F.slot_list_append PySem.F.type_list_append cV (pv 8) (aa (bM (aa (pv 10) (aa (bA D_law_mine hr (aa (bA D_law_under hr (aa (pv 0) (aa (pv 9) ao))) (aa (pv 1) (aa (pv 2) (aa (pv 3) (aa (pv 4) ao)))))) ao))) ao)))))
 (aC (aL (bI (r:=gC K) bJ rfl B.tuple_ cI (aa (pv 8) ao))))))))))),?_⟩
  refine⟨_,rfl,small (by show 6<=1000; decide),fun p1 h1=>?_⟩
  generalize eH1:upd H p1 _=H1
  obtain⟨g1,e1⟩:=aH eH1 h1
  refine⟨c,p1,[7,9,9,9,12,512],rfl,SqL.of e1,by decide,by decide,fun p2 h2=>?_⟩
  generalize eH2:upd H1 p2 _=H2
  obtain⟨g2,e2⟩:=aH eH2 h2
  have hps:∀ q∈([7,9,9,9,12,512]:List Int),0 < q:=by decide
  obtain⟨d0,k0,b0⟩:=cF (c:=mG c) (i:=0) hps rfl
  obtain⟨d1,k1,b1⟩:=cF (c:=mG c) (i:=1) hps rfl
  obtain⟨d2,k2,b2⟩:=cF (c:=mG c) (i:=2) hps rfl
  obtain⟨d3,k3,b3⟩:=cF (c:=mG c) (i:=3) hps rfl
  obtain⟨d4,k4,b4⟩:=cF (c:=mG c) (i:=4) hps rfl
  obtain⟨d5,k5,b5⟩:=cF (c:=mG c) (i:=5) hps rfl
  have a0:=aF (eU k0)
  have a4:=aF (eU k4)
  have a5:=aF (eU k5)
  have kk:∀ k:Nat,k < 3->∃ d,(vm (mG c) [7,9,9,9,12,512])[1+k]? = some d:=fun k hk=>by
   match k,hk with
   | 0,_=>exact⟨_,k1⟩
   | 1,_=>exact⟨_,k2⟩
   | 2,_=>exact⟨_,k3⟩
  change _=some (HO.lst ((vm (mG c) [7,9,9,9,12,512]).map V.int)) at e2
  generalize vm (mG c) [7,9,9,9,12,512]=ds at *
  have gH:aN H H2:=g1.trans g2
  have u1:0<=d0 % 3:=Int.emod_nonneg _ (by lia)
  have u2:d0 % 3 < 3:=Int.emod_lt_of_pos _ (by lia)
  refine⟨_,rfl,p2,_,_,_,rfl,rfl,SqL.of e2,a0,_,_,rfl,rfl,(by show (0:Int) < 3; decide),_,_,rfl,rfl,_,rfl,by lia,by lia,fun D hD=>dh (lo:=0) (n:=(1+d0 % 3).toNat)
   (fun i zs σ' H3=>(∃ u,σ'=[u,some (.int (mo:Int)),some (.ref p2)])/\aN H2 H3/\H3 D=some (.lst zs)/\∃ ns:List Int,zs=ns.map V.int/\ns.length=i/\∀ x∈ns,1<=x/\x<=(mo:Int))
   ⟨⟨_,rfl⟩,aA hD _,aj,[],rfl,rfl,by simp⟩ (fun i zs σ' H3 _ h=>h.2.2.1) ?_ ?_⟩
  ·rintro i zs σ' H3 hi ⟨⟨u,rfl⟩,s3,eD,ns,e3,ln,hb⟩
   obtain⟨dk,hk⟩:=kk i (by lia)
   have ak:atI (ds.map V.int) (1+(0+(i:Int)))=some (.int dk):=by
    rw[show (1:Int)+(0+(i:Int))=((1+i:Nat):Int) by lia]
    exact aF (eU hk)
   have v1:0<=dk % (mo:Int):=Int.emod_nonneg _ (by lia)
   have v2:dk % (mo:Int) < (mo:Int):=Int.emod_lt_of_pos _ (by lia)
   refine gT ?_
   refine⟨_,rfl,_,rfl,_,_,rfl,rfl,p2,_,_,_,rfl,rfl,SqL.of (s3 _ _ e2),ak,_,rfl,_,_,rfl,rfl,(by show (0:Int) < (mo:Int); lia),_,_,rfl,rfl,eD,?_,⟨_,rfl⟩,aK s3 hD _,aj,ns++[1+dk % (mo:Int)],?_,?_,?_⟩
   ·rw[e3,List.length_map]
    exact aG (by lia)
   ·rw[e3,List.map_append]
    rfl
   ·rw[List.length_append,ln]
    rfl
   ·intro x hx
    rcases List.mem_append.mp hx with h | h
    ·exact hb x h
    ·rw[List.mem_singleton.mp h]
     lia
  ·rintro zs σ' H3 ⟨_,s3,eD,ns,e3,ln,hb⟩
   have ln3:1<=ns.length/\ns.length<=3:=by lia
   have dl:(ddI ns).length<=ns.length:=by
    have:=Al ns []
    rw[Dk]
    simpa using this
   refine⟨D,ns,rfl,SqL.of (by rw[eD,e3]),by lia,by lia,fun ms pm so l hl=>?_⟩
   have okm:okS ms:=Ky pm so (fun z=>by rw[z] at ln3; simp at ln3) (by lia) fun x hx=>⟨(hb x hx).1,by have:=(hb x hx).2; lia⟩
   have okM:∀ x∈ms,x<=(mo:Int):=fun x hx=>(hb x (JX pm hx)).2
   generalize eH4:upd H3 l _=H4
   obtain⟨g4,e4⟩:=aH eH4 hl
   have s4:aN H2 H4:=s3.trans g4
   refine gN ?_
   dsimp only
   show DK (Fv _ _ _) _ _ _ _
   refine jG (fun σ H5=>∃ (l:Addr) (ms:List Int),σ=[some (.int c),some (.int (n:Int)),some (.int (one:Int)),some (.int deep),some (.int (mo:Int)),some (.ref p2),some (.ref l),none,none,none,none]/\aN H2 H5/\H5 l=some (.lst (ms.map V.int))/\okS ms/\∀ x∈ms,x<=(mo:Int)) ?rest (fun _ R=>?_)
   case rest =>
    clear e4 hl so pm okm okM eH4 g4 s4 H4 l ms
    rintro σ H5 ⟨l,ms,rfl,s5,e5,okm,okM⟩
    have l9:=okm.2.1
    have e2':=s5 _ _ e2
    have sH5:aN H H5:=gH.trans s5
    show DK (Fv _ _ _) _ _ _ _
    refine jG (fun σ H6=>σ=[some (.int c),some (.int (n:Int)),some (.int (one:Int)),some (.int deep),some (.int (mo:Int)),some (.ref p2),some (.ref l),none,none,none,none]/\H5=H6) ?rest2 (fun _ R=>?_)
    case rest2 =>
     rintro σ H6 ⟨rfl,rfl⟩
     show DK (Fv _ _ _) _ _ _ _
     refine jG (fun σ H6=>σ=[some (.int c),some (.int (n:Int)),some (.int (one:Int)),some (.int deep),some (.int (mo:Int)),some (.ref p2),some (.ref l),none,none,none,none]/\H5=H6) ?rest3 (fun _ R=>?_)
     case rest3 =>
      rintro σ H6 ⟨rfl,rfl⟩
      refine⟨small (Nat.zero_le _),fun r hr0=>?_⟩
      generalize eH6:upd H5 r _=H6
      obtain⟨g6,e6⟩:=aH eH6 hr0
      refine⟨_,rfl,l,_,rfl,g6 _ _ e5,Fe (K:=K) (a:=l) (xs:=ms.map V.int) (fun i σ H7=>(∃ u v,σ=[some (.int c),some (.int (n:Int)),some (.int (one:Int)),some (.int deep),some (.int (mo:Int)),some (.ref p2),some (.ref l),none,some (.ref r),u,v])/\aN H5 H7 ∧
       ∃ (vs:List V) (p:Pl),H7 r=some (.lst vs)/\eZ n H7 vs p/\p.map (·.1)=ms.take i/\∀ x∈p,x.2.dep<=4) ⟨⟨_,_,rfl⟩,g6,[],[],e6,.nil,rfl,by simp⟩ (fun i σ H7 _ h=>SqL.of (h.2.1 _ _ e5)) ?_ ?_⟩
      ·rintro i x pp σ H7 hx hpp ⟨⟨u,v,rfl⟩,s7,vs,p,er,rp,ep,hd⟩
       obtain⟨st,hst,rfl⟩:=int_at hx
       have hi:i < ms.length:=(List.getElem?_eq_some_iff.mp hst).1
       generalize eH8:upd H7 pp _=H8
       obtain⟨g8,e8⟩:=aH eH8 hpp
       refine⟨pp,_,rfl,SqT.of e8,rfl,_,_,rfl,_,_,rfl,rfl,?_⟩
       refine⟨_,rfl,.inl ⟨rfl,_,SqL.of (g8 _ _ er)⟩,_,rfl,_,rfl,_,rfl,c,i,rfl,by lia,_,rfl,_,rfl,_,rfl,_,rfl,Ij c i,n,one,deep,mo,rfl,n1,n12,hone,de1,de3,m1,m9,fun v' t H9 s9 rt td=>?_⟩
       refine⟨small (by show 2<=1000; decide),fun pa ha=>?_⟩
       generalize eHa:upd H9 pa _=Ha
       obtain⟨ga,ea⟩:=aH eHa ha
       have s8a:aN H7 Ha:=g8.trans (s9.trans ga)
       have lv:=rp.length
       have lp:p.length<=ms.length:=by
        have:=congrArg List.length ep
        rw[List.length_map,List.length_take] at this
        lia
       have tk:=dB (zs':=vs++[.ref pa]) (s8a _ _ er)
       refine⟨r,_,_,rfl,rfl,s8a _ _ er,aG (by lia),⟨_,_,rfl⟩,aK (s7.trans s8a) hr0 _,vs++[.ref pa],p++[(st,t)],aj,?_,?_,?_⟩
       ·exact eZ.snoc (tk _ _ ea) ((rt.mono ga).cD tk) ((rp.cD fun a xs q=>s8a a _ q).cD tk)
       ·rw[List.map_append,ep,List.take_add_one,hst]
        rfl
       ·intro x hx
        rcases List.mem_append.mp hx with h | h
        ·exact hd x h
        ·rw[List.mem_singleton.mp h]
         show t.dep<=4
         lia
      ·rintro σ H7 ⟨⟨u,v,rfl⟩,s7,vs,p,er,rp,ep,hd⟩
       rw[List.length_map,List.take_length] at ep
       refine⟨_,rfl,r,_,rfl,.inl ⟨SqL.of er,fun pa ha=>?_⟩⟩
       have sn:=aA ha (.tup vs)
       exact q pa p _ (sH5.trans (s7.trans sn)) ⟨Di okm ep hd,vs,aj,rp.cD fun a xs q=>sn a _ q⟩ fun x hx=>okM _ (ep▸List.mem_map_of_mem hx)
     ·refine qT (decide (V.int d0=V.int 5)) (decide (1 < (n:Int))) (fun H6=>H5=H6) (fun Q' hQ=>?_) (fun H6 e Q' hQ=>?_) (fun H6 e c1 c2=>?_) (fun H6 e _=>R _ _ ⟨rfl,e⟩)
      ·exact⟨_,rfl,p2,_,_,_,rfl,rfl,SqL.of e2',a0,rfl,_,rfl,hQ _ rfl⟩
      ·subst e
       exact⟨_,rfl,_,_,rfl,rfl,_,rfl,hQ⟩
      ·subst e
       have c2:1 < (n:Int):=of_decide_eq_true c2
       have w1:0<=((one:Int)+1+d4 % ((n:Int) - 1)) % (n:Int):=Int.emod_nonneg _ (by lia)
       have w2:((one:Int)+1+d4 % ((n:Int) - 1)) % (n:Int) < (n:Int):=Int.emod_lt_of_pos _ (by lia)
       obtain⟨j,hj⟩:=Int.eq_ofNat_of_zero_le w1
       refine⟨_,rfl,_,_,rfl,rfl,_,rfl,p2,_,_,_,rfl,rfl,SqL.of e2',a4,_,rfl,_,_,rfl,rfl,_,_,rfl,rfl,(by show (0:Int) < (n:Int) - 1; lia),_,_,rfl,rfl,_,rfl,_,_,rfl,rfl,(by show (0:Int) < (n:Int); lia),?_⟩
       refine gN ?_
       have es:(fun i j:Int=>V.int (i % j)) ((one:Int)+1+d4 % ((n:Int) - 1)) (n:Int)=V.int (j:Int):=by
        show V.int (((one:Int)+1+d4 % ((n:Int) - 1)) % (n:Int))=_
        rw[hj]
       refine⟨_,rfl,l,rfl,⟨_,SqL.of e5⟩,fun D hD=>cM (K:=K) (a:=l) (xs:=ms.map V.int) (fun i zs σ' H7=>(∃ u,σ'=[u,some (.int (j:Int))])/\aN H5 H7/\H7 D=some (.lst zs) ∧
        eZ n H7 zs ((ms.take i).map fun st=>(st,Tm.gives j (if st - 1 > 1 then st - 1 else 1)))) ⟨⟨none,?_⟩,aA hD _,aj,.nil⟩ (fun i zs σ' H7 _ h=>⟨SqL.of (h.2.1 _ _ e5),h.2.2.1⟩) ?_ ?_⟩
       ·rw[← es]
        rfl
       ·rintro i zs x σ' H7 hx ⟨⟨u,rfl⟩,s7,er,rp⟩
        obtain⟨st,hst,rfl⟩:=int_at hx
        have hb:=okm.2.2.2 st (List.mem_of_getElem? hst)
        have lv:=rp.length
        rw[List.length_map,List.length_take] at lv
        refine gT ?_
        refine⟨_,rfl,_,rfl,_,rfl,_,_,rfl,rfl,_,_,rfl,small (by show 3<=1000; decide),fun pa ha=>?_⟩
        generalize eHa:upd H7 pa _=Ha
        obtain⟨ga,ea⟩:=aH eHa ha
        refine⟨small (by show 2<=1000; decide),fun pb hb'=>?_⟩
        generalize eHb:upd Ha pb _=Hb
        obtain⟨gb,eb⟩:=aH eHb hb'
        have s7b:aN H7 Hb:=ga.trans gb
        have tk:=dB (zs':=zs++[.ref pb]) (s7b _ _ er)
        refine⟨s7b _ _ er,aG (by lia),⟨_,rfl⟩,aK (s7.trans s7b) hD _,aj,?_⟩
        rw[take_snoc (fun st=>(st,Tm.gives j (if st - 1 > 1 then st - 1 else 1))) hst]
        exact eZ.snoc (tk _ _ eb) (.gives (tk _ _ (gb _ _ ea)) (by lia) (by split <;> lia) (by split <;> lia)) ((rp.cD fun a xs q=>s7b a _ q).cD tk)
       ·rintro zs σ' H7 ⟨_,s7,er,rp⟩
        rw[List.length_map,List.take_length] at rp
        refine⟨D,_,rfl,.inl ⟨SqL.of er,fun pa ha=>?_⟩⟩
        have sn:=aA ha (.tup zs)
        refine q pa _ _ (sH5.trans (s7.trans sn)) ⟨Di okm ?_ ?_,zs,aj,rp.cD fun a xs q=>sn a _ q⟩ fun x hx=>by obtain⟨st,hs,rfl⟩:=List.mem_map.mp hx; exact okM st hs
        ·rw[List.map_map]
         exact List.map_id' ms
        ·intro x hx
         obtain⟨st,_,rfl⟩:=List.mem_map.mp hx
         show (1:Nat)<=4
         decide
    ·refine qT (decide (V.int d0=V.int 6)) (decide (1 < (n:Int))) (fun H6=>H5=H6) (fun Q' hQ=>?_) (fun H6 e Q' hQ=>?_) (fun H6 e c1 c2=>?_) (fun H6 e _=>R _ _ ⟨rfl,e⟩)
     ·exact⟨_,rfl,p2,_,_,_,rfl,rfl,SqL.of e2',a0,rfl,_,rfl,hQ _ rfl⟩
     ·subst e
      exact⟨_,rfl,_,_,rfl,rfl,_,rfl,hQ⟩
     ·subst e
      have w1:0<=((one:Int)+1) % (n:Int):=Int.emod_nonneg _ (by lia)
      have w2:((one:Int)+1) % (n:Int) < (n:Int):=Int.emod_lt_of_pos _ (by lia)
      obtain⟨j,hj⟩:=Int.eq_ofNat_of_zero_le w1
      refine⟨_,rfl,l,rfl,⟨_,SqL.of e5⟩,fun D hD=>cM (K:=K) (a:=l) (xs:=ms.map V.int) (fun i zs σ' H7=>(∃ u,σ'=[u,some (.int (n:Int)),some (.int (one:Int))])/\aN H5 H7/\H7 D=some (.lst zs) ∧
       eZ n H7 zs ((ms.take i).map fun st=>(st,Tm.gives j st))) ⟨⟨_,rfl⟩,aA hD _,aj,.nil⟩ (fun i zs σ' H7 _ h=>⟨SqL.of (h.2.1 _ _ e5),h.2.2.1⟩) ?_ ?_⟩
      ·rintro i zs x σ' H7 hx ⟨⟨u,rfl⟩,s7,er,rp⟩
       obtain⟨st,hst,rfl⟩:=int_at hx
       have hb:=okm.2.2.2 st (List.mem_of_getElem? hst)
       have lv:=rp.length
       rw[List.length_map,List.length_take] at lv
       refine gT ?_
       refine⟨_,rfl,_,rfl,_,_,rfl,rfl,_,rfl,_,_,rfl,rfl,(by show (0:Int) < (n:Int); lia),_,rfl,small (by show 3<=1000; decide),fun pa ha=>?_⟩
       generalize eHa:upd H7 pa _=Ha
       obtain⟨ga,ea⟩:=aH eHa ha
       have ea:Ha pa=some (.tup [.str "gives",vN j,.int st]):=by
        rw[ea]
        show some (HO.tup [V.str "gives",V.int (((one:Int)+1) % (n:Int)),V.int st])=some (HO.tup [V.str "gives",V.int (j:Int),V.int st])
        rw[hj]
       refine⟨small (by show 2<=1000; decide),fun pb hb'=>?_⟩
       generalize eHb:upd Ha pb _=Hb
       obtain⟨gb,eb⟩:=aH eHb hb'
       have s7b:aN H7 Hb:=ga.trans gb
       have tk:=dB (zs':=zs++[.ref pb]) (s7b _ _ er)
       refine⟨s7b _ _ er,aG (by lia),⟨_,rfl⟩,aK (s7.trans s7b) hD _,aj,?_⟩
       rw[take_snoc (fun st=>(st,Tm.gives j st)) hst]
       exact eZ.snoc (tk _ _ eb) (.gives (tk _ _ (gb _ _ ea)) (by lia) (by lia) (by lia)) ((rp.cD fun a xs q=>s7b a _ q).cD tk)
      ·rintro zs σ' H7 ⟨_,s7,er,rp⟩
       rw[List.length_map,List.take_length] at rp
       refine⟨D,_,rfl,.inl ⟨SqL.of er,fun pa ha=>?_⟩⟩
       have sn:=aA ha (.tup zs)
       refine q pa _ _ (sH5.trans (s7.trans sn)) ⟨Di okm ?_ ?_,zs,aj,rp.cD fun a xs q=>sn a _ q⟩ fun x hx=>by obtain⟨st,hs,rfl⟩:=List.mem_map.mp hx; exact okM st hs
       ·rw[List.map_map]
        exact List.map_id' ms
       ·intro x hx
        obtain⟨st,_,rfl⟩:=List.mem_map.mp hx
        show (1:Nat)<=4
        decide
   ·refine⟨_,rfl,p2,_,_,_,rfl,rfl,SqL.of (s4 _ _ e2),a0,rfl,_,rfl,?_⟩
    refine zQ (fun _=>?_) (fun _=>R _ _ ⟨l,ms,rfl,s4,e4,okm,okM⟩)
    refine⟨_,rfl,p2,_,_,_,rfl,rfl,SqL.of (s4 _ _ e2),a5,_,rfl,d5,mo,rfl,by lia,fun cs r3 H5 hc hp hl5 s5 f5 e5=>?_⟩
    refine⟨r3,rfl,⟨_,SqT.of e5⟩,fun D5 hD5=>dw (K:=K) (a:=r3) (xs:=cs.map vN) (fun i zs σ' H6=>(∃ u,σ'=[u])/\zs=((cs.take i).map fun j:Nat=>(1:Int)+(j:Int)).map V.int/\aN H5 H6/\H6 D5=some (.lst zs))
     ⟨⟨_,rfl⟩,rfl,aA hD5 _,aj⟩ (fun i zs σ' H6 _ h=>⟨SqT.of (h.2.2.1 _ _ e5),h.2.2.2⟩) ?_ ?_⟩
    ·rintro i zs x σ' H6 hx ⟨⟨u,rfl⟩,e6,s6,eD6⟩
     obtain⟨j,hj,rfl⟩:=ux hx
     refine gT ?_
     refine⟨_,rfl,_,_,rfl,rfl,eD6,?_,⟨_,rfl⟩,?_,aK s6 hD5 _,aj⟩
     ·rw[e6,List.length_map,List.length_map,List.length_take]
      exact aG (by lia)
     ·rw[e6,take_snoc (fun j:Nat=>(1:Int)+(j:Int)) hj,List.map_append]
      rfl
    ·rintro zs σ' H6 ⟨_,e6,s6,eD6⟩
     rw[List.length_map,List.take_length] at e6
     rw[e6] at eD6
     have s46:aN H2 H6:=s4.trans (s5.trans s6)
     refine⟨_,rfl,small (by show 0<=1000; decide),fun p7 h7=>?_⟩
     have g7:aN H6 (upd H6 p7 (.lst [])):=aA h7 _
     refine⟨D5,p7,_,rfl,rfl,SqL.of (g7 _ _ eD6),SqL.of aj,_,rfl,?_⟩
     refine zQ (fun ce=>?_) (fun ce=>?_)
     ·refine⟨_,rfl,small (by show 1<=1000; decide),fun p8 h8=>?_⟩
      refine R _ _ ⟨p8,[(mo:Int)],rfl,s46.trans (g7.trans (aA h8 _)),aj,⟨by simp,by show 1<=9; decide,by simp,?_⟩,fun x hx=>by rw[List.mem_singleton.mp hx]; exact Int.le_refl _⟩
      intro x hx
      rw[List.mem_singleton.mp hx]
      lia
     ·refine R _ _ ⟨D5,cs.map fun j:Nat=>(1:Int)+(j:Int),rfl,s46.trans g7,g7 _ _ eD6,⟨?_,?_,?_,?_⟩,fun x hx=>by obtain⟨j,hj,rfl⟩:=List.mem_map.mp hx; have:=hc j hj; lia⟩
      ·intro z
       apply ce
       rw[z]
       rfl
      ·rw[List.length_map]
       lia
      ·rw[List.pairwise_map]
       exact hp.imp fun h=>by lia
      ·intro x hx
       obtain⟨j,hj,rfl⟩:=List.mem_map.mp hx
       have:=hc j hj
       lia
noncomputable abbrev fB:Stmt:=top 31
theorem f9:aY ["_law_script","_law_start","_law_n","_law_most","_law_book_here","_law_one","_law_cell_here","_law_many"] ["_law_script","_law_start","_law_n","_law_most"] (aB fB):=⟨rfl,rfl,rfl,by decide+kernel,rfl,by decide+kernel,by decide+kernel⟩
noncomputable def okM (mo:Nat) (bk:List (List Pl)):Prop:=∀ ps∈bk,∀ p∈ps,∀ x∈p,x.1<=(mo:Int)
inductive zV (K:W.Frag) (vs:List V) (H:Hp) (Q:VK):Prop where
 | mk (a:Addr) (ss:List Int) (st n mo:Nat) (z0:vs=[.ref a,.int (st:Int),.int (n:Int),.int (mo:Int)]) (z1:SqL K H a (ss.map V.int)) (z2:st<=100) (z3:1<=n) (z4:n<=12) (z5:1<=mo) (z6:mo<=9) (z7:∀ (b:Addr) (bk:List (List Pl)) (H':Hp),aN H H'->o7 n H' b bk->bk.length=n->okM mo bk->Q (.ref b) H'):zV K vs H Q
noncomputable def Br (K:W.Frag):Sp:=fun vs H Q _=>zV K vs H Q
theorem wD (F:Fun K "_law_book" "_law_book" fB f fd) (B:Bt mg)
  (D_law_cell:Df P w K mg base "_law_cell" 1 ["_law_script","_law_k"] (yE K)) (D_law_draws:Df P w K mg base "_law_draws" 1 ["_law_cell_here","_law_parts"] (jK K)) (D_law_under:Df P w K mg base "_law_under" 1 ["_law_cell_here","_law_k"] n8)
  (D_law_pledge:Df P w K mg base "_law_pledge" 6 ["_law_cell_here","_law_n","_law_one","_law_deep","_law_most"] qy):dz P w K mg base CX0 7 f fd ["_law_script","_law_start","_law_n","_law_most"] (Br K):=by
 refine F.ok f9 (fun vs H Q E h=>?_) (fun cdv A outer s H vs Q E hr h=>?_)
 ·obtain⟨a,ss,st,n,mo,rfl,_⟩:=h
  rfl
 ·obtain⟨a,ss,st,n,mo,rfl,hS,hst,n1,n12,m1,m9,q⟩:=h
  refine⟨_,(au (bj (i:=4) f9.nd rfl (Or.inl rfl) (bV ao))
 (au (eE PassesOwn.never rfl (bQ rfl B.range_ (aa (pv 2) ao)) (aD (i:=5) f9.nd rfl (Or.inr rfl)) (au (bj (i:=6) f9.nd rfl (Or.inr rfl) (aU bR (bA D_law_cell hr (aa (pv 0) (aa (aU bR (pv 1) (pv 5)) ao))) (aU gZ aq (pv 5))))
 (au (bj (i:=7) f9.nd rfl (Or.inl rfl) (aQ (r:=ik K) bc (bV (cP aq (cP aq (cP aq (cP aq (cP aq (cP aq (cP aq ao)))))))) (aQ (r:=ik K) bc (bA D_law_draws hr (aa (aU bR (pv 6) aq) (aa (bV (aa aq ao)) ao))) aq (fun _ _=>rfl)) (fun _ _=>rfl)))
 (aC (iQ (sZ PySem.F.plainAttrs_list PySem.F.slot_list_append PySem.F.type_list_append cV (pv 4) (aa (bH (L:=["_law_k"]) (F:=["_law_n","_law_one","_law_most","_law_cell_here"]) (cap:=[2,5,3,6]) rfl (bx rfl rfl (by kernel_rfl)) (bQ rfl B.range_ (aa (pv 7) ao)) (fun _ _ _ _ _=>(aD (i:=0) (aZ (by decide+kernel)) rfl (Or.inl rfl))) (fun _ _ _ _ _=>bC) (fun _ _ _ _ _=>(bA D_law_pledge hr (aa (bA D_law_under hr (aa (pv 4) (aa (aU gZ aq (pv 0)) ao))) (aa (pv 1) (aa (pv 2) (aa aq (aa (pv 3) ao)))))))) ao)))))))
 (aC (aL (pv 4))))),?_⟩
  refine⟨small (Nat.zero_le _),fun r hr0=>?_⟩
  generalize eH1:upd H r _=H1
  obtain⟨g1,e1⟩:=aH eH1 hr0
  have en:((n:Int)).toNat=n:=Int.toNat_natCast n
  refine⟨_,rfl,_,rfl,by lia,by lia,eN (lo:=0) (n:=((n:Int)).toNat) (fun i σ H2=>(∃ u v x,σ=[some (.ref a),some (.int (st:Int)),some (.int (n:Int)),some (.int (mo:Int)),some (.ref r),u,v,x])/\aN H H2/\∃ (us:List V) (bk:List (List Pl)),H2 r=some (.lst us)/\dX n H2 us bk/\us.length=i/\(∀ u∈us,u≠.ref r)/\okM mo bk)
   ⟨⟨_,_,_,rfl⟩,g1,[],[],e1,.nil,rfl,by simp,fun _ z=>(by cases z)⟩ ?_ ?_⟩
  ·rintro i σ H2 hi ⟨⟨u,v,x,rfl⟩,sm,us,bk,er,rb,lu,hur,few⟩
   have hi12:i < n:=by lia
   have e1':(st:Int)+(0+(i:Int))=((st+i:Nat):Int):=by lia
   refine⟨_,rfl,_,rfl,_,rfl,_,_,rfl,rfl,a,ss,st+i,?_,wK sm hS,_,rfl,_,_,rfl,rfl,.inl ⟨by decide,by decide⟩,_,_,rfl,rfl,?_⟩
   ·show[V.ref a,V.int ((st:Int)+(0+(i:Int)))]=_
    rw[e1']
   refine gN ?_
   dsimp only
   generalize (ss.getD (st+i) 0+31 * (0+(i:Int)))=c
   refine⟨small (by show 7<=1000; decide),fun p3 h3=>?_⟩
   generalize eH3:upd H2 p3 _=H3
   obtain⟨g3,e3⟩:=aH eH3 h3
   refine⟨_,rfl,_,_,rfl,rfl,small (by show 1<=1000; decide),fun p4 h4=>?_⟩
   generalize eH4:upd H3 p4 _=H4
   obtain⟨g4,e4⟩:=aH eH4 h4
   refine⟨c+5,p4,[7],rfl,SqL.of e4,by decide,by decide,fun p5 h5=>?_⟩
   generalize eH5:upd H4 p5 _=H5
   obtain⟨g5,e5⟩:=aH eH5 h5
   obtain⟨d0,k0,b0⟩:=cF (c:=mG (c+5)) (i:=0) (ps:=[7]) (by decide) rfl
   have a0:=aF (eU k0)
   obtain⟨many,hmany,hm2⟩:∃ many:Nat,atI ([1,1,2,1,0,1,2].map V.int) d0=some (.int (many:Int))/\many<=2:=by
    rcases (show d0=0∨d0=1∨d0=2∨d0=3∨d0=4∨d0=5∨d0=6 by lia) with z | z | z | z | z | z | z
    ·exact⟨1,by rw[z]; rfl,by decide⟩
    ·exact⟨1,by rw[z]; rfl,by decide⟩
    ·exact⟨2,by rw[z]; rfl,by decide⟩
    ·exact⟨1,by rw[z]; rfl,by decide⟩
    ·exact⟨0,by rw[z]; rfl,by decide⟩
    ·exact⟨1,by rw[z]; rfl,by decide⟩
    ·exact⟨2,by rw[z]; rfl,by decide⟩
   refine⟨p5,_,_,_,rfl,rfl,SqL.of e5,a0,p3,_,_,_,rfl,rfl,SqL.of (g5 _ _ (g4 _ _ e3)),hmany,?_⟩
   have s5:aN H2 H5:=g3.trans (g4.trans g5)
   have emn:((many:Int)).toNat=many:=Int.toNat_natCast many
   refine⟨_,rfl,.inl ⟨rfl,_,SqL.of (s5 _ _ er)⟩,?_⟩
   refine⟨_,rfl,_,rfl,by lia,by lia,fun D hD=>dh (lo:=0) (n:=((many:Int)).toNat) (fun j zs σ' H6=>(∃ u,σ'=[u,some (.int (n:Int)),some (.int (0+(i:Int))),some (.int (mo:Int)),some (.int c)])/\aN H5 H6/\H6 D=some (.lst zs)/\∃ (as:List Addr) (ps:List Pl),zs=as.map V.ref/\as.length=j/\fY n H6 as ps/\(∀ p∈ps,∀ x∈p,x.1<=(mo:Int)))
    ⟨⟨_,rfl⟩,aA hD _,aj,[],[],rfl,rfl,.nil,fun _ z=>(by cases z)⟩ (fun j zs σ' H6 _ h=>h.2.2.1) ?_ ?_⟩
   ·rintro j zs σ' H6 hj ⟨⟨u,rfl⟩,s6,eD,as,ps,ez,la,rp,pm⟩
    have e7:(7:Int) * (0+(j:Int))=((7 * j:Nat):Int):=by lia
    refine gT ?_
    refine⟨_,rfl,_,rfl,_,_,rfl,rfl,.inl ⟨by decide,by decide⟩,c,7 * j,?_,by lia,_,rfl,_,rfl,_,rfl,Ij c (7 * j),n,i,3,mo,?_,n1,n12,hi12,by decide,by decide,m1,m9,fun pa p H7 s7 rpl rpm=>?_⟩
    ·show[V.int c,V.int (7 * (0+(j:Int)))]=_
     rw[e7]
    ·show[V.int (Ij c (7 * j)),V.int (n:Int),V.int (0+(i:Int)),V.int 3,V.int (mo:Int)]=_
     rw[Int.zero_add]
    ·have tk:=dB (zs':=zs++[.ref pa]) (s7 _ _ eD)
     refine⟨s7 _ _ eD,?_,⟨_,rfl⟩,aK (s6.trans s7) hD _,aj,as++[pa],ps++[p],?_,?_,?_,fun p' hp=>?_⟩
     ·rw[ez,List.length_map]
      exact aG (by lia)
     ·rw[ez,List.map_append]
      rfl
     ·rw[List.length_append,la]
      rfl
     ·exact fY.snoc (rpl.cD tk) ((rp.cD fun a xs q=>s7 a _ q).cD tk)
     ·rcases List.mem_append.mp hp with h | h
      ·exact pm p' h
      ·rw[List.mem_singleton.mp h]
       exact rpm
   ·rintro zs σ' H6 ⟨_,s6,eD,as,ps,ez,la,rp,pm⟩
    rw[emn] at la
    rw[ez] at eD
    have s26:aN H2 H6:=s5.trans s6
    have er6:=s26 _ _ er
    have hDr:D≠r:=fun z=>by
     rw[z] at hD
     have:=s5 _ _ er
     rw[this] at hD
     cases hD
    refine⟨r,_,_,rfl,rfl,er6,aG (by lia),⟨_,_,_,rfl⟩,aK (sm.trans s26) hr0 _,us++[.ref D],bk++[ps],aj,?_,?_,?_,?_⟩
    ·have keepL:∀ {vs:List V} {bs:List (List Pl)},(∀ u∈vs,u≠.ref r)->dX n H6 vs bs->dX n (upd H6 r (.lst (us++[.ref D]))) vs bs:=by
      intro vs bs hne hb
      induction hb with
      | nil=>exact .nil
      | cons h l p _ ih =>
       refine .cons ?_ l (p.cD (dB er6)) (ih fun u hu=>hne u (List.mem_cons_of_mem _ hu))
       rw[cj (fun z=>hne _ List.mem_cons_self (by rw[z]))]
       exact h
     have b6:=dX.snoc eD (by lia) rp (rb.mono s26)
     refine keepL (fun u hu=>?_) b6
     rcases List.mem_append.mp hu with h | h
     ·exact hur u h
     ·rw[List.mem_singleton.mp h]
      exact fun z=>hDr (by cases z; rfl)
    ·rw[List.length_append,lu]
     rfl
    ·intro u hu
     rcases List.mem_append.mp hu with h | h
     ·exact hur u h
     ·rw[List.mem_singleton.mp h]
      exact fun z=>hDr (by cases z; rfl)
    ·intro qs hq
     rcases List.mem_append.mp hq with h | h
     ·exact few qs h
     ·rw[List.mem_singleton.mp h]
      exact pm
  ·rintro σ H2 ⟨⟨u,v,x,rfl⟩,sm,us,bk,er,rb,lu,hur,few⟩
   rw[en] at lu
   have lb:=rb.length
   exact⟨_,rfl,q r bk H2 sm ⟨us,er,rb,by lia⟩ (by lia) few⟩
theorem LC {K:W.Frag} {m z:Int} {n i:Nat} {σ:St} {H:Hp} {Q:V->Hp->Prop} (hz:z=(n:Int)) (n1:1<=n) (n2:n<=1000) (hσ:σ[i]? = some (some (.int z))) (hQ:∀ r H',aN H H'->H' r=some (.tup ((List.replicate n m).map V.int))->Q (.ref r) H') :
  tOp (HD K) (Kw (gj (tC (.int m)) yP)) (mX i) σ H Q:=by
 refine⟨small (by show 1<=1000; decide),fun pa ha=>?_⟩
 generalize eHa:upd H pa _=Ha
 obtain⟨ga,ea⟩:=aH eHa ha
 have hN:z.toNat=n:=by lia
 refine⟨_,hσ,pa,_,_,rfl,rfl,SqT.of ea,by simp,by lia,by lia,?_,fun h1=>?_,fun _ pb hb=>?_⟩
 ·show 1 * z.toNat<=sizeLine
  exact small (by lia)
 ·refine hQ pa Ha ga ?_
  rw[ea,show n=1 by lia]
  rfl
 ·refine hQ pb _ (ga.trans (aA hb _)) ?_
  rw[aj,hN,xK]
noncomputable def zm (n:Nat) (H:Hp) (b f:Addr) (bk:List (List Pl)) (fl:List Int):Prop:=1<=n/\n<=12/\o7 n H b bk/\bk.length=n/\H f=some (.tup (fl.map V.int))/\fl.length=n/\∀ x∈fl,0<=x/\x<=9
theorem zm.mono {n:Nat} {H H':Hp} {b f:Addr} {bk:List (List Pl)} {fl:List Int} (e:aN H H') (h:zm n H b f bk fl):zm n H' b f bk fl:=by
 obtain⟨h1,h2,h3,h4,h5,h6,h7⟩:=h
 exact⟨h1,h2,h3.mono e,h4,e _ _ h5,h6,h7⟩
theorem Iz {c:Int} {n:Nat} {m:Int} (hm:0<=m):∀ x∈JC c n m,0<=x/\x<=m:=fun x hx=>by
 obtain⟨i,hi,e⟩:=List.getElem_of_mem hx
 rw[jF] at hi
 obtain⟨v,hv,b1,b2⟩:=Fw (c:=c) hm hi
 rw[List.getElem?_eq_getElem (by rw[jF]; exact hi),e] at hv
 cases hv
 exact⟨b1,b2⟩
noncomputable abbrev dM:Stmt:=top 33
theorem cY:aY ["_law_script","_law_drawn","_law_n","_law_most","_law_floor"] ["_law_script"] (aB dM):=⟨rfl,rfl,rfl,by decide+kernel,rfl,by decide+kernel,by decide+kernel⟩
inductive xg (K:W.Frag) (vs:List V) (H:Hp) (Q:VK):Prop where
 | mk (a:Addr) (ss:List Int) (z0:vs=[.ref a]) (z1:SqL K H a (ss.map V.int)) (z2:∀ (r:Addr) (n mo:Nat) (b f:Addr) (bk:List (List Pl)) (fl:List Int) (H':Hp),aN H H'->H' r=some (.tup [.int (n:Int),.int (mo:Int),.ref b,.ref f])->1<=mo->mo<=9->((mo+1) ^ n<=256/\n<=6)->(∀ x∈fl,x<=(mo:Int))->zm n H' b f bk fl->okM mo bk->Q (.ref r) H'):xg K vs H Q
noncomputable def wz (K:W.Frag):Sp:=fun vs H Q _=>xg K vs H Q
theorem uU (F : Fun K "_law_scene" "_law_scene" dM f fd) (B : Bt mg)
    (D_law_cell : Df P w K mg base "_law_cell" 1 ["_law_script", "_law_k"] (yE K)) (D_law_draws : Df P w K mg base "_law_draws" 1 ["_law_cell_here", "_law_parts"] (jK K)) (D_law_giving : Df P w K mg base "_law_giving" 2 ["_law_cell_here", "_law_n", "_law_most"] rT)
    (D_law_book : Df P w K mg base "_law_book" 7 ["_law_script", "_law_start", "_law_n", "_law_most"] (Br K)) : dz P w K mg base CX0 8 f fd ["_law_script"] (wz K) := by
  refine F.ok cY (fun vs H Q E h => ?_) (fun cdv A outer s H vs Q E hr h => ?_)
  · obtain ⟨a, ss, rfl, _⟩ := h
    rfl
  · obtain ⟨a, ss, rfl, hS, q⟩ := h
    refine' ⟨_, ?hp, ?hz⟩
    case hp =>
     refine' au ?s0 ?r0
     case s0 => exact (bj (i := 1) cY.nd rfl (Or.inl rfl) (bA D_law_draws hr (aa (bA D_law_cell hr (aa (pv 0) (aa aq ao))) (aa (bV (aa aq (aa aq (aa aq ao)))) ao))))
     case r0 =>
      refine' au ?s1 ?r1
      case s1 =>
       refine' Gs ?e ?t ?hs ?hw
       case hs => rfl
       case hw => rfl
       case t => exact (dF (K := K) 2 rfl rfl (bw (aD (i := 2) cY.nd rfl (Or.inl rfl)) (bw (aD (i := 3) cY.nd rfl (Or.inl rfl)) d8)))
       case e =>
        refine' aQ (r := ik K) ?h1 ?l ?ix ?h2
        case h1 => exact bc
        case h2 => exact fun _ _ => rfl
        case ix => exact (aQ (r := ik K) bc (pv 1) aq (fun _ _ => rfl))
        case l =>
         refine' bV ?l0
         case l0 =>
          refine' cP ?a0 ?l1 ?hh
          case hh => intro x p z; cases z
          case a0 => exact (bM (aa aq (aa aq ao)))
          case l1 =>
           refine' cP ?a1 ?l2 ?hh
           case hh => intro x p z; cases z
           case a1 => exact (bM (aa aq (aa aq ao)))
           case l2 =>
            refine' cP ?a2 ?l3 ?hh
            case hh => intro x p z; cases z
            case a2 => exact (bM (aa aq (aa aq ao)))
            case l3 =>
             refine' cP ?a3 ?l4 ?hh
             case hh => intro x p z; cases z
             case a3 => exact (bM (aa aq (aa aq ao)))
             case l4 =>
              refine' cP ?a4 ?l5 ?hh
              case hh => intro x p z; cases z
              case a4 => exact (bM (aa aq (aa aq ao)))
              case l5 =>
               refine' cP ?a5 ?l6 ?hh
               case hh => intro x p z; cases z
               case a5 => exact (bM (aa aq (aa aq ao)))
               case l6 =>
                refine' cP ?a6 ?l7 ?hh
                case hh => intro x p z; cases z
                case a6 => exact (bM (aa aq (aa aq ao)))
                case l7 => exact ao
      case r1 =>
       refine' au ?s2 ?r2
       case s2 => exact (bj (i := 4) cY.nd rfl (Or.inl rfl) (bA D_law_giving hr (aa (bA D_law_cell hr (aa (pv 0) (aa aq ao))) (aa (pv 2) (aa (pv 3) ao)))))
       case r2 =>
        refine' au ?s3 ?r3
        case s3 => exact (cA (aP zr (aQ (r := ik K) bc (pv 1) aq (fun _ _ => rfl)) aq (aR _)) (aC (bj (i := 4) cY.nd rfl (Or.inl rfl) (aU (r := HD K) Jx (bM (aa aq ao)) (pv 2)))) aX)
        case r3 =>
         refine' aC ?s4
         case s4 => exact (aL (bM (aa (pv 2) (aa (pv 3) (aa (bA D_law_book hr (aa (pv 0) (aa aq (aa (pv 2) (aa (pv 3) ao))))) (aa (pv 4) ao))))))
    refine ⟨_, rfl, a, ss, 0, rfl, hS, small (by show 3 ≤ 1000; decide), fun p2 h2 => ?_⟩
    generalize eH2 : upd H p2 _ = H2
    obtain ⟨g2, e2⟩ := aH eH2 h2
    refine ⟨_, p2, [7, 3, 12], rfl, SqL.of e2, by decide, by decide, fun p3 h3 => ?_⟩
    generalize eH3 : upd H2 p3 _ = H3
    obtain ⟨g3, e3⟩ := aH eH3 h3
    have hps : ∀ q ∈ ([7, 3, 12] : List Int), 0 < q := by decide
    obtain ⟨d0, k0, b0⟩ := cF (c := mG (ss.getD 0 0)) (i := 0) hps rfl
    obtain ⟨d1, k1, b1⟩ := cF (c := mG (ss.getD 0 0)) (i := 1) hps rfl
    have a0 := aF (eU k0)
    have a1 := aF (eU k1)
    have s3 : aN H H3 := g2.trans g3
    refine ⟨small (by show 2 ≤ 1000; decide), fun t1 u1 => ?_⟩
    generalize eT1 : upd H3 t1 _ = T1
    obtain ⟨gt1, et1⟩ := aH eT1 u1
    refine ⟨small (by show 2 ≤ 1000; decide), fun t2 u2 => ?_⟩
    generalize eT2 : upd T1 t2 _ = T2
    obtain ⟨gt2, et2⟩ := aH eT2 u2
    refine ⟨small (by show 2 ≤ 1000; decide), fun t3 u3 => ?_⟩
    generalize eT3 : upd T2 t3 _ = T3
    obtain ⟨gt3, et3⟩ := aH eT3 u3
    refine ⟨small (by show 2 ≤ 1000; decide), fun t4 u4 => ?_⟩
    generalize eT4 : upd T3 t4 _ = T4
    obtain ⟨gt4, et4⟩ := aH eT4 u4
    refine ⟨small (by show 2 ≤ 1000; decide), fun t5 u5 => ?_⟩
    generalize eT5 : upd T4 t5 _ = T5
    obtain ⟨gt5, et5⟩ := aH eT5 u5
    refine ⟨small (by show 2 ≤ 1000; decide), fun t6 u6 => ?_⟩
    generalize eT6 : upd T5 t6 _ = T6
    obtain ⟨gt6, et6⟩ := aH eT6 u6
    refine ⟨small (by show 2 ≤ 1000; decide), fun t7 u7 => ?_⟩
    generalize eT7 : upd T6 t7 _ = T7
    obtain ⟨gt7, et7⟩ := aH eT7 u7
    refine ⟨small (by show 7 ≤ 1000; decide), fun t8 u8 => ?_⟩
    generalize eT8 : upd T7 t8 _ = T8
    obtain ⟨gt8, et8⟩ := aH eT8 u8
    have w7 : aN T7 T8 := gt8
    have w6 : aN T6 T8 := gt7.trans w7
    have w5 : aN T5 T8 := gt6.trans w6
    have w4 : aN T4 T8 := gt5.trans w5
    have w3 : aN T3 T8 := gt4.trans w4
    have w2 : aN T2 T8 := gt3.trans w3
    have w1 : aN T1 T8 := gt2.trans w2
    have w0 : aN H3 T8 := gt1.trans w1
    obtain ⟨tt, n, mo, htt, ett, n1, n12, m1, m9, hpow⟩ : ∃ (tt : Addr) (n mo : Nat), atI [V.ref t1, .ref t2, .ref t3, .ref t4, .ref t5, .ref t6, .ref t7] d0 = some (.ref tt) ∧ T8 tt = some (.tup [.int (n : Int), .int (mo : Int)]) ∧ 1 ≤ n ∧ n ≤ 12 ∧ 1 ≤ mo ∧ mo ≤ 9 ∧ (mo + 1) ^ n ≤ 256 ∧ n ≤ 6 := by
      rcases (show d0 = 0 ∨ d0 = 1 ∨ d0 = 2 ∨ d0 = 3 ∨ d0 = 4 ∨ d0 = 5 ∨ d0 = 6 by lia) with z | z | z | z | z | z | z
      · exact ⟨t1, 3, 3, by rw [z]; rfl, w1 _ _ et1, by decide, by decide, by decide, by decide, by decide, by decide⟩
      · exact ⟨t2, 2, 9, by rw [z]; rfl, w2 _ _ et2, by decide, by decide, by decide, by decide, by decide, by decide⟩
      · exact ⟨t3, 4, 3, by rw [z]; rfl, w3 _ _ et3, by decide, by decide, by decide, by decide, by decide, by decide⟩
      · exact ⟨t4, 1, 9, by rw [z]; rfl, w4 _ _ et4, by decide, by decide, by decide, by decide, by decide, by decide⟩
      · exact ⟨t5, 3, 2, by rw [z]; rfl, w5 _ _ et5, by decide, by decide, by decide, by decide, by decide, by decide⟩
      · exact ⟨t6, 5, 2, by rw [z]; rfl, w6 _ _ et6, by decide, by decide, by decide, by decide, by decide, by decide⟩
      · exact ⟨t7, 6, 1, by rw [z]; rfl, w7 _ _ et7, by decide, by decide, by decide, by decide, by decide, by decide⟩
    have s8 : aN H T8 := s3.trans w0
    refine ⟨_, rfl, p3, _, _, _, rfl, rfl, SqL.of (w0 _ _ e3), a0, t8, _, _, _, rfl, rfl, SqL.of et8, htt, tt, _, rfl, SqT.of ett, rfl, _, _, rfl, _, _, rfl, rfl, ?_⟩
    refine ⟨_, rfl, a, ss, 1, rfl, wK s8 hS, _, rfl, _, rfl, ss.getD 1 0, n, (mo : Int), rfl, by lia, by lia, by lia, fun r4 H4 s4 _ e4 => ?_⟩
    refine gN ?_
    dsimp only
    show DK (Fv _ _ _) _ _ _ _
    have s4' : aN H H4 := s8.trans s4
    refine jG (fun σ H5 => ∃ (f : Addr) (fl : List Int), σ = [some (.ref a), some (.ref p3), some (.int (n : Int)), some (.int (mo : Int)), some (.ref f)] ∧ aN H H5 ∧ H5 f = some (.tup (fl.map V.int)) ∧ fl.length = n ∧ ∀ x ∈ fl, 0 ≤ x ∧ x ≤ (mo : Int)) ?rest (fun _ R => ?_)
    case rest =>
      rintro σ H5 ⟨f, fl, rfl, s5, e5, lf, hf⟩
      refine ⟨_, rfl, _, rfl, _, rfl, _, rfl, _, rfl, a, ss, 2, n, mo, rfl, wK s5 hS, by decide, n1, n12, m1, m9, fun b bk H6 s6 rb lb few => ?_⟩
      refine ⟨_, rfl, small (by show 4 ≤ 1000; decide), fun p7 h7 => ?_⟩
      have sn := aA h7 (.tup [.int (n : Int), .int (mo : Int), .ref b, .ref f])
      exact q p7 n mo b f bk fl _ (s5.trans (s6.trans sn)) aj m1 m9 hpow (fun x hx => (hf x hx).2) ⟨n1, n12, rb.mono sn, lb, sn _ _ (s6 _ _ e5), lf, fun x hx => ⟨(hf x hx).1, by have := (hf x hx).2; lia⟩⟩ few
    · refine ⟨_, rfl, p3, _, _, _, rfl, rfl, SqL.of (s4 _ _ (w0 _ _ e3)), a1, _, _, rfl, rfl, _, rfl, ?_⟩
      refine zQ (fun _ => ?_) (fun _ => R _ _ ⟨r4, _, rfl, s4', e4, jF _ _ _, Iz (by lia)⟩)
      refine LC (z := (n : Int)) (n := n) rfl n1 (by lia) rfl fun ra Ha sa ea => ?_
      refine R _ _ ⟨ra, List.replicate n 0, rfl, s4'.trans sa, ea, List.length_replicate, fun x hx => ?_⟩
      rw [(List.mem_replicate.mp hx).2]
      lia
noncomputable abbrev cN:Stmt:=top 34
theorem iT:aY ["_law_script","_law_start","_law_some"] ["_law_script","_law_start"] (aB cN):=⟨rfl,rfl,rfl,by decide+kernel,rfl,by decide+kernel,by decide+kernel⟩
inductive pA (K:W.Frag) (vs:List V) (H:Hp) (Q:VK):Prop where
 | mk (a:Addr) (ss:List Int) (st:Int) (z0:vs=[.ref a,.int st]) (z1:SqL K H a (ss.map V.int)) (z2:ss.length<=63) (z3:∀ (r:Addr) (n mo:Nat) (b f:Addr) (bk:List (List Pl)) (fl:List Int) (H':Hp),aN H H'->H' r=some (.tup [.int (n:Int),.int (mo:Int),.ref b,.ref f])->1<=mo->mo<=9->((mo+1) ^ n<=256/\n<=6)->(∀ x∈fl,x<=(mo:Int))->zm n H' b f bk fl->okM mo bk->Q (.ref r) H'):pA K vs H Q
noncomputable def nW (K:W.Frag):Sp:=fun vs H Q _=>pA K vs H Q
theorem nZ (F:Fun K "_law_scene_at" "_law_scene_at" cN f fd) (B:Bt mg)
  (D_law_scene:Df P w K mg base "_law_scene" 8 ["_law_script"] (wz K)):dz P w K mg base CX0 9 f fd ["_law_script","_law_start"] (nW K):=by
 refine F.ok iT (fun vs H Q E h=>?_) (fun cdv A outer s H vs Q E hr h=>?_)
 ·obtain⟨a,ss,st,rfl,_⟩:=h
  rfl
 ·obtain⟨a,ss,st,rfl,hS,ls,q⟩:=h
  refine⟨_,(au (bj (i:=2) iT.nd rfl (Or.inl rfl) (jj (r:=KZ K) wM (pv 0) (jC (pv 1)) (jC (aU bR (pv 1) aq))))
 (au (iQ (sZ PySem.F.plainAttrs_list PySem.F.slot_list_append PySem.F.type_list_append cV (pv 2) (aa (pv 1) ao)))
 (aC (aL (bA D_law_scene hr (aa (pv 2) ao)))))),?_⟩
  refine⟨_,rfl,_,rfl,_,rfl,_,rfl,_,_,rfl,rfl,_,rfl,a,_,rfl,hS,fun p1 h1=>?_⟩
  obtain⟨ks,ek,lk⟩:=yc ss (some st) (some (st+9))
  rw[show su (ss.map V.int) (some st) (some (st+9))=ks.map V.int from ek]
  generalize eH1:upd H p1 _=H1
  obtain⟨g1,e1⟩:=aH eH1 h1
  refine⟨_,rfl,.inl ⟨rfl,_,SqL.of e1⟩,_,rfl,p1,_,_,rfl,rfl,e1,aG (by rw[List.length_map]; lia),?_⟩
  have ec:ks.map V.int++[V.int st]=(ks++[st]).map V.int:=by rw[List.map_append]; rfl
  rw[ec]
  have s2:aN H (upd H1 p1 (.lst ((ks++[st]).map V.int))):=aK g1 h1 _
  exact⟨_,rfl,p1,ks++[st],rfl,SqL.of aj,fun r n mo b f bk fl H' s' er m1 m9 hp hm sc om=>q r n mo b f bk fl H' (s2.trans s') er m1 m9 hp hm sc om⟩
noncomputable def Copied (H:Hp) (zs us:List V) (Hc:Hp):Prop:=∀ (j:Nat) (u:V),zs[j]? = some u->∃ (c cc:Addr) (as:List Addr),u = .ref c/\H c=some (.lst (as.map V.ref))/\us[j]? = some (.ref cc)/\Hc cc=some (.lst (as.map V.ref))
theorem vH {as bs:List Addr} (h:as.map V.ref=bs.map V.ref):as=bs:=by
 induction as generalizing bs with
 | nil=>cases bs with
  | nil=>rfl
  | cons b bs=>cases h
 | cons a as ih=>cases bs with
  | nil=>cases h
  | cons b bs =>
   rw[List.map_cons,List.map_cons] at h
   injection h with h1 h2
   injection h1 with h1
   rw[h1,ih h2]
theorem pL {n:Nat} {H Hc:Hp} (sm:aN Hc H) {us:List V} {bk:List (List Pl)} (rb:dX n Hc us bk):∀ {zs:List V},zs.length=us.length->Copied H zs us Hc->dX n H zs bk:=by
 induction rb with
 | nil =>
  intro zs hl _
  cases zs with
  | nil=>exact .nil
  | cons z zs=>simp at hl
 | @cons c as ps us bs h l p r ih =>
  intro zs hl cp
  cases zs with
  | nil=>simp at hl
  | cons z zs =>
   obtain⟨c0,cc0,as0,rfl,h2,h3,h4⟩:=cp 0 z rfl
   cases (show some (V.ref c)=some (V.ref cc0) from h3)
   rw[h] at h4
   have e:as=as0:=vH (by injection h4 with h4; injection h4)
   subst e
   exact .cons h2 l (p.cD fun a xs q=>sm a _ q) (ih (by simpa using hl) fun j u hj=>by
    obtain⟨c1,cc1,as1,e1,e2,e3,e4⟩:=cp (j+1) u (by simpa using hj)
    exact⟨c1,cc1,as1,e1,e2,by simpa using e3,e4⟩)
theorem Copied.step {H2 Hc:Hp} {zs us:List V} {D l cc:Addr} {as:List Addr} {i:Nat} (cp:Copied H2 zs us Hc) (lz:zs.length=i) (hx:us[i]? = some (.ref cc)) (hcc:Hc cc=some (.lst (as.map V.ref))) (hne:∀ u∈zs,u≠.ref D) (hl:H2 l=none) (hlD:l≠D) :
  Copied (upd (upd H2 l (.lst (as.map V.ref))) D (.lst (zs++[.ref l]))) (zs++[.ref l]) us Hc:=fun j u hj=>by
 by_cases hjz:j < zs.length
 ·rw[List.getElem?_append_left hjz] at hj
  obtain⟨c0,cc0,as0,rfl,h2,h3,h4⟩:=cp j u hj
  have hc0:c0≠D:=fun z=>hne _ (List.mem_of_getElem? hj) (by rw[z])
  exact⟨c0,cc0,as0,rfl,by rw[cj hc0]; exact aA hl _ _ _ h2,h3,h4⟩
 ·have hj':=(List.getElem?_eq_some_iff.mp hj).1
  rw[List.length_append] at hj'
  have hj2:j < zs.length+1:=hj'
  have ej:j=zs.length:=by lia
  subst ej
  rw[List.getElem?_append_right (Nat.le_refl _),Nat.sub_self] at hj
  cases (show some (V.ref l)=some u from hj)
  rw[lz]
  exact⟨l,cc,as,rfl,by rw[cj hlD]; exact aj,hx,hcc⟩
theorem Copied.twin {H Hc Ht:Hp} {zs us:List V} {D b:Addr} (cp:Copied H zs us Hc) (lz:zs.length=us.length) (s1:aN H Ht) (s2:aN Hc Ht) (eD:Ht D=some (.lst zs)) (eb:Ht b=some (.lst us)):Ja Ht D b :=
 ⟨zs,us,eD,eb,lz,fun i u v hu hv=>by
  obtain⟨c0,cc0,as0,rfl,h2,h3,h4⟩:=cp i u hu
  rw[h3] at hv
  cases hv
  exact⟨c0,cc0,as0,rfl,rfl,s1 _ _ h2,s2 _ _ h4⟩⟩
inductive iu (H:Hp) (D:Addr):List V->List (List Nat)->Prop where
 | nil:iu H D [] []
 | cons {a:Addr} {c:List Nat} {us:List V} {cs:List (List Nat)}:H a=some (.lst (c.map vN))->a≠D->iu H D us cs->iu H D (.ref a::us) (c::cs)
theorem iu.go {H H':Hp} {D D':Addr} (e:∀ (a:Addr) (c:List Nat),H a=some (HO.lst (c.map vN))->a≠D->H' a=some (HO.lst (c.map vN))/\a≠D'):∀ {us:List V} {cs:List (List Nat)},iu H D us cs->iu H' D' us cs
 | _,_,.nil=>.nil
 | _,_,.cons h n r=>.cons (e _ _ h n).1 (e _ _ h n).2 (iu.go e r)
theorem iu.mono {H H':Hp} {D:Addr} (e:aN H H') {us:List V} {cs:List (List Nat)} (h:iu H D us cs):iu H' D us cs:=h.go fun a c q n=>⟨e _ _ q,n⟩
theorem iu.upd {H:Hp} {D:Addr} {o:HO} {us:List V} {cs:List (List Nat)} (h:iu H D us cs):iu (upd H D o) D us cs:=h.go fun a c q n=>⟨by rw[cj n]; exact q,n⟩
theorem iu.other {H:Hp} {D D':Addr} {us:List V} {cs:List (List Nat)} (h:iu H D us cs) (n:H D'=none):iu H D' us cs:=h.go fun a c q _=>⟨q,fun z=>by rw[z,n] at q; cases q⟩
theorem iu.length {H:Hp} {D:Addr}:∀ {us:List V} {cs:List (List Nat)},iu H D us cs->us.length=cs.length
 | _,_,.nil=>rfl
 | _,_,.cons _ _ r=>by rw[List.length_cons,List.length_cons,iu.length r]
theorem iu.snoc {H:Hp} {D a:Addr} {c:List Nat} (h:H a=some (.lst (c.map vN))) (n:a≠D):∀ {us:List V} {cs:List (List Nat)},iu H D us cs->iu H D (us++[.ref a]) (cs++[c])
 | _,_,.nil=>.cons h n .nil
 | _,_,.cons x y r=>.cons x y (iu.snoc h n r)
theorem iu.append {H:Hp} {D:Addr} {us':List V} {cs':List (List Nat)} (h':iu H D us' cs'):∀ {us:List V} {cs:List (List Nat)},iu H D us cs->iu H D (us++us') (cs++cs')
 | _,_,.nil=>h'
 | _,_,.cons x y r=>.cons x y (iu.append h' r)
theorem iu.at {H:Hp} {D:Addr}:∀ {us:List V} {cs:List (List Nat)} {i:Nat} {u:V},iu H D us cs->us[i]? = some u->∃ (a:Addr) (c:List Nat),u = .ref a/\cs[i]? = some c/\H a=some (.lst (c.map vN))/\a≠D
 | _,_,_,_,.nil,h=>by simp at h
 | _,_,0,_,.cons h n _,e=>by
  cases (show some _=some _ from e)
  exact⟨_,_,rfl,rfl,h,n⟩
 | _,_,i+1,_,.cons _ _ r,e=>by
  obtain⟨a,c,h1,h2,h3⟩:=iu.at (i:=i) r (by simpa using e)
  exact⟨a,c,h1,by simpa using h2,h3⟩
theorem cB:∀ n,(bZ n).length=2 ^ n
 | 0=>rfl
 | n+1=>by rw[bZ,List.length_append,List.length_map,cB n,Nat.pow_succ]; lia
theorem gY:∀ n,∀ c∈bZ n,(∀ i∈c,i < n)/\c.Pairwise (· < ·)
 | 0,c,h=>by
  rw[bZ,List.mem_singleton] at h
  subst h
  exact⟨by simp,List.Pairwise.nil⟩
 | n+1,c,h=>by
  rw[bZ,List.mem_append] at h
  rcases h with h | h
  ·obtain⟨h1,h2⟩:=gY n c h
   exact⟨fun i hi=>Nat.lt_succ_of_lt (h1 i hi),h2⟩
  ·obtain⟨d,hd,rfl⟩:=List.mem_map.mp h
   obtain⟨h1,h2⟩:=gY n d hd
   refine⟨fun i hi=>?_,?_⟩
   ·rcases List.mem_append.mp hi with z | z
    ·exact Nat.lt_succ_of_lt (h1 i z)
    ·rw[List.mem_singleton.mp z]
     exact Nat.lt_succ_self n
   ·rw[List.pairwise_append]
    refine⟨h2,by simp,fun a ha b hb=>?_⟩
    rw[List.mem_singleton.mp hb]
    exact h1 a ha
theorem jl:∀ {c:List Nat} {m n:Nat},c.Pairwise (· < ·)->(∀ i∈c,m<=i/\i < n)->c.length<=n - m
 | [],m,n,_,_=>Nat.zero_le _
 | a::c,m,n,hp,h=>by
  rw[List.pairwise_cons] at hp
  have h1:=h a List.mem_cons_self
  have:=jl (c:=c) (m:=a+1) (n:=n) hp.2 fun i hi=>⟨hp.1 i hi,(h i (List.mem_cons_of_mem _ hi)).2⟩
  rw[List.length_cons]
  lia
noncomputable def dH (n:Nat):List (List Nat):=(crS n).map fun i=>(bZ n).getD i []
theorem Bg:∀ n,n<=6->∀ i∈crS n,i < 2 ^ n:=by decide+kernel
theorem Dy:∀ n,1<=n->n<=6->(crS n).length=2 ^ n:=by
 intro n h1 h6
 match n,h1,h6 with
 | 1,_,_=>rfl
 | 2,_,_=>rfl
 | 3,_,_=>rfl
 | 4,_,_=>rfl
 | 5,_,_=>rfl
 | 6,_,_=>rfl
theorem pC {n:Nat} (h6:n<=6):∀ c∈dH n,(∀ i∈c,i < n)/\c.Pairwise (· < ·):=fun c hc=>by
 obtain⟨i,hi,rfl⟩:=List.mem_map.mp hc
 have hl:=Bg n h6 i hi
 rw[← cB n] at hl
 refine gY n _ ?_
 rw[List.getD_eq_getElem?_getD,List.getElem?_eq_getElem hl]
 exact List.getElem_mem hl
theorem Fb {n:Nat} (h1:1<=n) (h6:n<=6):∃ o:Nat->Nat->Bool,(∀ i j,i < 2 ^ n->j < 2 ^ n->o i j=crO n i j)/\(((j6 o (2 ^ n)).run ⟨List.range (2 ^ n),#[],7⟩).map fun r=>r.2.a)=some (crS n):=by
 match n,h1,h6 with
 | 1,_,_=>exact⟨_,fun i j hi hj=>(Mx i hi j hj).symm,Mw⟩
 | 2,_,_=>exact⟨_,fun i j hi hj=>(Ni i hi j hj).symm,Nb⟩
 | 3,_,_=>exact⟨_,fun i j hi hj=>(Nk i hi j hj).symm,M4⟩
 | 4,_,_=>exact⟨_,fun i j hi hj=>(Nr i hi j hj).symm,Nq⟩
 | 5,_,_=>exact⟨_,fun i j hi hj=>(Nj i hi j hj).symm,Nt⟩
 | 6,_,_=>exact⟨_,fun i j hi hj=>(MJ i hi j hj).symm,M8⟩
theorem uK:∀ a b:List Nat,HT.lexLt (a.map fun i:Nat=>(i:Int)) (b.map fun i:Nat=>(i:Int))=K4 a b
 | [],[]=>rfl
 | [],_::_=>rfl
 | _::_,[]=>rfl
 | a::l,b::r=>by
  rw[List.map_cons,List.map_cons,HT.kI,K4,uK l r]
  by_cases e:a=b
  ·rw[if_pos e,if_pos (by rw[e])]
  ·rw[if_neg e,if_neg (by lia)]
   by_cases z:a < b
   ·rw[decide_eq_true z,decide_eq_true (by lia)]
   ·rw[decide_eq_false z,decide_eq_false (by lia)]
noncomputable def iN (c:List Nat):List Int:=c.map fun i:Nat=>(i:Int)
theorem Ai (a b:List Nat):tR (iN a) (iN b)=Ld a b:=by
 unfold tR Ld iN
 rw[List.length_map,List.length_map,uK]
noncomputable def PR (H:Hp) (us:List V) (cs:List (List Nat)) (ps:List (Addr × Addr)):Prop:=∀ (j:Nat) (q:Addr × Addr),ps[j]? = some q->∃ c:List Nat,us[j]? = some (.ref q.2)/\cs[j]? = some c/\H q.1=some (.tup [.int (c.length:Int),.ref q.2])
theorem PR.go {H H':Hp} {us:List V} {cs:List (List Nat)} {ps:List (Addr × Addr)} (h:PR H us cs ps) (e:∀ a xs,H a=some (HO.tup xs)->H' a=some (HO.tup xs)):PR H' us cs ps:=fun j q hq=>by
 obtain⟨c,h1,h2,h3⟩:=h j q hq
 exact⟨c,h1,h2,e _ _ h3⟩
theorem Jk {α:Type} {xs:List α} {x y:α} {j:Nat} (h:(xs++[x])[j]? = some y):xs[j]? = some y∨(j=xs.length/\y=x):=by
 by_cases hj:j < xs.length
 ·rw[List.getElem?_append_left hj] at h
  exact .inl h
 ·have hl:=(List.getElem?_eq_some_iff.mp h).1
  rw[List.length_append,List.length_singleton] at hl
  have e:j=xs.length:=by lia
  subst e
  rw[List.getElem?_append_right (Nat.le_refl _),Nat.sub_self] at h
  exact .inr ⟨rfl,(Option.some.inj h).symm⟩
noncomputable abbrev dq:Stmt:=top 35
theorem fj:aY ["_law_n","_law_found","_law_one"] ["_law_n"] (aB dq):=⟨rfl,rfl,rfl,by decide+kernel,rfl,by decide+kernel,by decide+kernel⟩
inductive sS (vs:List V) (H:Hp) (Q:VK):Prop where
 | mk (n:Nat) (z0:vs=[.int (n:Int)]) (z1:1<=n) (z2:n<=6) (z3:∀ (r:Addr) (us:List V) (H':Hp),aN H H'->H' r=some (.lst us)->iu H' r us (dH n)->Q (.ref r) H'):sS  vs H Q
noncomputable def qO:Sp:=fun vs H Q _=>sS  vs H Q
theorem qU (F:Fun K "_law_crowds" "_law_crowds" dq f fd) (B:Bt mg) :
  dz P w K mg base CX0 1 f fd ["_law_n"] qO:=by
 refine F.ok fj (fun vs H Q E h=>?_) (fun cdv A outer s H vs Q E hr h=>?_)
 ·obtain⟨n,rfl,_⟩:=h
  rfl
 ·obtain⟨n,rfl,h1,h6,q⟩:=h
  have e64:2 ^ n<=64:=Nat.pow_le_pow_right (n:=2) (by decide) h6
  refine⟨_,(au (bj (i:=1) fj.nd rfl (Or.inl rfl) (bV (aa (bV ao) ao)))
 (au (eE PassesOwn.never rfl (bQ rfl B.range_ (aa (pv 0) ao)) (aD (i:=2) fj.nd rfl (Or.inr rfl)) (aC (bj (i:=1) fj.nd rfl (Or.inl rfl) (aU nY (pv 1) (bH (L:=["_law_crowd_here"]) (F:=["_law_one"]) (cap:=[2]) rfl (bx rfl rfl (by kernel_rfl)) (cX (pv 1)) (fun _ _ _ _ _=>(aD (i:=0) (aZ (by decide+kernel)) rfl (Or.inl rfl))) (fun _ _ _ _ _=>bC) (fun _ _ _ _ _=>(aU nY (pv 0) (bV (aa (pv 1) ao)))))))))
 (aC (aL (bH (L:=["_law_length","_law_crowd_here"]) (F:=[]) (cap:=[]) rfl (bx rfl rfl (by kernel_rfl)) (cX (aJ (r:=Gj K) (yS hr) rfl B.sorted_ (by decide+kernel) (aa (bH (L:=["_law_crowd_here"]) (F:=[]) (cap:=[]) rfl (bx rfl rfl (by kernel_rfl)) (cX (pv 1)) (fun _ _ _ _ _=>(aD (i:=0) (aZ (by decide+kernel)) rfl (Or.inl rfl))) (fun _ _ _ _ _=>bC) (fun _ _ _ _ _=>(bM (aa (aJ (r:=vh K) bU rfl B.len_ gh (aa (pv 0) ao)) (aa (pv 0) ao))))) ao))) (fun _ _ _ _ _=>(dF (K:=K) 2 rfl rfl (bw (aD (i:=0) (aZ (by decide+kernel)) rfl (Or.inl rfl)) (bw (aD (i:=1) (aZ (by decide+kernel)) rfl (Or.inl rfl)) d8)))) (fun _ _ _ _ _=>bC) (fun _ _ _ _ _=>(pv 1))))))),?_⟩
  refine⟨small (by show 0<=1000; decide),fun p0 h0=>?_⟩
  generalize eH1:upd H p0 _=H1
  obtain⟨g1,e1⟩:=aH eH1 h0
  refine⟨small (by show 1<=1000; decide),fun f0 hf0=>?_⟩
  generalize eH2:upd H1 f0 _=H2
  obtain⟨g2,e2⟩:=aH eH2 hf0
  have en:((n:Int)).toNat=n:=Int.toNat_natCast n
  refine⟨_,rfl,_,rfl,by lia,by lia,eN (lo:=0) (n:=((n:Int)).toNat) (fun i σ Hx=>∃ (fo:Addr) (us:List V) (u:Option V),σ=[some (.int (n:Int)),some (.ref fo),u]/\aN H Hx/\Hx fo=some (.lst us)/\iu Hx fo us (bZ i))
   ⟨f0,[.ref p0],_,rfl,g1.trans g2,e2,.cons (c:=[]) (g2 _ _ e1) (dj e1 hf0) .nil⟩ ?_ ?_⟩
  ·rintro i σ Hx hi ⟨fo,us,u,rfl,sx,efo,lr⟩
   rw[en] at hi
   have lu:=lr.length
   rw[cB] at lu
   have i6:i<=6:=by lia
   have e32:2 ^ i<=64:=Nat.pow_le_pow_right (n:=2) (by decide) i6
   refine⟨_,rfl,_,rfl,fo,rfl,⟨_,SqL.of efo⟩,fun D hD=>cM (K:=K) (a:=fo) (xs:=us) (fun j ys σ' Hy=>(∃ u,σ'=[u,some (.int (0+(i:Int)))])/\aN Hx Hy/\Hy D=some (.lst ys)/\iu Hy D ys (((bZ i).take j).map (·++[i])))
    ⟨⟨_,rfl⟩,aA hD _,aj,by rw[List.take_zero]; exact .nil⟩ (fun j ys σ' Hy _ h=>⟨SqL.of (h.2.1 _ _ efo),h.2.2.1⟩) ?_ ?_⟩
   ·rintro j ys x σ' Hy hx ⟨⟨u,rfl⟩,sy,eD,ly⟩
    obtain⟨a,c,rfl,hc,ha,hne⟩:=lr.at hx
    have cl:c.length<=i:=by
     have:=jl (m:=0) (gY i c (List.mem_of_getElem? hc)).2 fun k hk=>⟨Nat.zero_le _,(gY i c (List.mem_of_getElem? hc)).1 k hk⟩
     lia
    have lyl:=ly.length
    rw[List.length_map,List.length_take,cB] at lyl
    refine gT ?_
    refine⟨_,rfl,_,rfl,small (by show 1<=1000; decide),fun p hp=>?_⟩
    generalize eH4:upd Hy p _=H4
    obtain⟨g4,e4⟩:=aH eH4 hp
    refine⟨a,p,_,_,rfl,rfl,g4 _ _ (sy _ _ ha),e4,small (by rw[List.length_map]; show c.length+1<=1000; lia),fun p2 h2=>?_⟩
    have g5:aN H4 (upd H4 p2 (.lst (c.map vN++[.int (0+(i:Int))]))):=aA h2 _
    have n2:p2≠D:=fun z=>by rw[z,g4 _ _ eD] at h2; cases h2
    refine⟨g5 _ _ (g4 _ _ eD),aG (by lia),⟨_,rfl⟩,aK ((sy.trans g4).trans g5) hD _,aj,?_⟩
    have:(bZ i).take (j+1)=(bZ i).take j++[c]:=by rw[List.take_add_one,hc]; rfl
    rw[this,List.map_append]
    refine iu.upd (iu.snoc ?_ n2 (ly.mono (g4.trans g5)))
    rw[aj,Int.zero_add,List.map_append]
    rfl
   ·rintro ys σ' Hy ⟨_,sy,eD,ly⟩
    have lyl:=ly.length
    rw[show us.length=(bZ i).length by rw[lu,cB],List.take_length] at ly lyl
    rw[List.length_map,cB] at lyl
    refine⟨fo,D,us,ys,rfl,rfl,sy _ _ efo,eD,small (by lia),fun p3 h3=>?_⟩
    refine⟨p3,us++ys,_,rfl,sx.trans (sy.trans (aA h3 _)),aj,?_⟩
    exact iu.upd (((ly.other h3)).append ((lr.mono sy).other h3))
  ·rintro σ Hx ⟨fo,us,u,rfl,sx,efo,lr⟩
   rw[en] at lr
   have lu:=lr.length
   rw[cB] at lu
   refine⟨_,rfl,fo,rfl,⟨_,SqL.of efo⟩,fun D hD=>cM (K:=K) (a:=fo) (xs:=us) (fun j ys σ' Hy=>(∃ u,σ'=[u])/\aN Hx Hy/\Hy D=some (.lst ys)/\∃ ps:List (Addr × Addr),ys=ps.map (fun q=>V.ref q.1)/\ps.length=j/\PR Hy us (bZ n) ps)
    ⟨⟨_,rfl⟩,aA hD _,aj,[],rfl,rfl,fun j q h=>by simp at h⟩ (fun j ys σ' Hy _ h=>⟨SqL.of (h.2.1 _ _ efo),h.2.2.1⟩) ?_ ?_⟩
   ·rintro j ys x σ' Hy hx ⟨⟨u,rfl⟩,sy,eD,ps,rfl,lps,pr⟩
    obtain⟨a,c,rfl,hc,ha,hne⟩:=lr.at hx
    have hj:=(List.getElem?_eq_some_iff.mp hx).1
    refine gT ?_
    refine⟨_,rfl,a,_,rfl,.inl (SqL.of (sy _ _ ha)),_,rfl,small (by show 2<=1000; decide),fun p hp=>?_⟩
    generalize eH4:upd Hy p _=H4
    obtain⟨g4,e4⟩:=aH eH4 hp
    have tk:=dB (zs':=ps.map (fun q=>V.ref q.1)++[.ref p]) (g4 _ _ eD)
    refine⟨g4 _ _ eD,aG (by rw[List.length_map]; lia),⟨_,rfl⟩,aK (sy.trans g4) hD _,aj,ps++[(p,a)],by rw[List.map_append]; rfl,by rw[List.length_append,lps]; rfl,fun k q hq=>?_⟩
    rcases Jk hq with z | ⟨z1,z2⟩
    ·exact ((pr.go fun a xs q=>g4 _ _ q).go tk) k q z
    ·subst z1 z2
     rw[lps]
     refine⟨c,hx,hc,tk _ _ ?_⟩
     rw[e4,List.length_map]
   ·rintro ys σ' Hy ⟨_,sy,eD,ps,rfl,lps,pr⟩
    have hps:∀ i,i < 2 ^ n->∃ q c,ps[i]? = some q/\us[i]? = some (.ref q.2)/\(bZ n)[i]? = some c/\Hy q.1=some (.tup [.int (c.length:Int),.ref q.2])/\Hy q.2=some (.lst (c.map vN)):=fun i hi=>by
     have hi':i < ps.length:=by lia
     obtain⟨c,z1,z2,z3⟩:=pr i ps[i] (List.getElem?_eq_getElem hi')
     obtain⟨a,c',e1,e2,e3,_⟩:=lr.at z1
     rw[z2] at e2
     cases e2
     cases e1
     exact⟨ps[i],c,List.getElem?_eq_getElem hi',z1,z2,z3,sy _ _ e3⟩
    let pq:List (Addr × List Int):=(List.range (2 ^ n)).map fun i=>((ps.getD i (0,0)).1,iN ((bZ n).getD i []))
    have lpq:pq.length=2 ^ n:=by show ((List.range (2 ^ n)).map _).length=_; rw[List.length_map,List.length_range]
    have atq:∀ i q,pq[i]? = some q->i < 2 ^ n/\q=((ps.getD i (0,0)).1,iN ((bZ n).getD i [])):=fun i q hq=>by
     have hi:=(List.getElem?_eq_some_iff.mp hq).1
     rw[lpq] at hi
     refine⟨hi,?_⟩
     have:pq[i]? = some ((ps.getD i (0,0)).1,iN ((bZ n).getD i [])):=by
      show ((List.range (2 ^ n)).map _)[i]? = _
      rw[List.getElem?_map,List.getElem?_range hi]
      rfl
     rw[this] at hq
     exact (Option.some.inj hq).symm
    have gq:∀ i,i < 2 ^ n->pq[i]? = some ((ps.getD i (0,0)).1,iN ((bZ n).getD i [])):=fun i hi=>by
     show ((List.range (2 ^ n)).map _)[i]? = _
     rw[List.getElem?_map,List.getElem?_range hi]
     rfl
    have eqs:ps.map (fun q=>V.ref q.1)=pq.map fun p=>V.ref p.1:=by
     refine List.ext_getElem? fun i=>?_
     rw[List.getElem?_map,List.getElem?_map]
     by_cases hi:i < 2 ^ n
     ·have hi':i < ps.length:=by lia
      rw[gq i hi,List.getElem?_eq_getElem hi',List.getD_eq_getElem?_getD,List.getElem?_eq_getElem hi']
      rfl
     ·rw[List.getElem?_eq_none (by lia),List.getElem?_eq_none (by lia)]
      rfl
    clear_value pq
    obtain⟨o,ho,he⟩:=Fb h1 h6
    have p2:2<=2 ^ n:=Nat.le_trans (by decide) (Nat.pow_le_pow_right (n:=2) (by decide) h1)
    refine⟨D,pq,o,crS n,rfl,SqL.of (by rw[eD,eqs]),by lia,by lia,fun x hx=>?_,fun i j a b ha hb=>?_,by rw[Dy n h1 h6,lpq],fun i hi=>by rw[lpq]; exact Bg n h6 i hi,by rw[lpq]; exact he,fun l hl=>?_⟩
    ·obtain⟨i,hi,ei⟩:=List.getElem_of_mem hx
     obtain⟨hi',ex⟩:=atq i x (by rw[← ei]; exact List.getElem?_eq_getElem hi)
     obtain⟨qq,c,z1,z2,z3,z4,z5⟩:=hps i hi'
     subst ex
     rw[List.getD_eq_getElem?_getD,z1,List.getD_eq_getElem?_getD,z3]
     refine⟨qq.2,SqT.of ?_,SqL.of ?_⟩
     ·rw[iN,List.length_map]
      exact z4
     ·show Hy qq.2=some (.lst ((iN c).map V.int))
      rw[iN,← iB]
      exact z5
    ·obtain⟨i1,rfl⟩:=atq i a ha
     obtain⟨j1,rfl⟩:=atq j b hb
     rw[ho i j i1 j1]
     exact (Ai _ _).symm
    ·generalize eH5:upd Hy l _=H5
     obtain⟨g5,e5⟩:=aH eH5 hl
     have lS:=Dy n h1 h6
     refine⟨l,rfl,⟨_,SqL.of e5⟩,fun D2 hD2=>cM (K:=K) (a:=l) (xs:=(crS n).map fun i=>V.ref (pq.getD i (0,[])).1) (fun j ys σ' Hz=>(∃ u v,σ'=[u,v])/\aN H5 Hz/\Hz D2=some (.lst ys)/\iu Hz D2 ys ((dH n).take j))
      ⟨⟨_,_,rfl⟩,aA hD2 _,aj,by rw[List.take_zero]; exact .nil⟩ (fun j ys σ' Hz _ h=>⟨SqL.of (h.2.1 _ _ e5),h.2.2.1⟩) ?_ ?_⟩
     ·rintro j ys x σ' Hz hx ⟨⟨u,v,rfl⟩,sz,eD2,lz⟩
      rw[List.getElem?_map] at hx
      cases ej:(crS n)[j]? with
      | none=>rw[ej] at hx; cases hx
      | some i =>
       rw[ej] at hx
       have hi:=Bg n h6 i (List.mem_of_getElem? ej)
       have hj:=(List.getElem?_eq_some_iff.mp ej).1
       obtain⟨qq,c,z1,z2,z3,z4,z5⟩:=hps i hi
       have ex:x = .ref qq.1:=by
        rw[← Option.some.inj hx]
        show V.ref (pq.getD i (0,[])).1=_
        rw[List.getD_eq_getElem?_getD,gq i hi]
        show V.ref (ps.getD i (0,0)).1=_
        rw[List.getD_eq_getElem?_getD,z1]
        rfl
       subst ex
       have s5:=g5.trans sz
       have lzl:=lz.length
       rw[List.length_take] at lzl
       refine⟨qq.1,_,rfl,SqT.of (s5 _ _ z4),rfl,_,_,rfl,_,_,rfl,rfl,?_⟩
       refine tT ?_
       refine⟨_,rfl,eD2,aG (by lia),⟨_,_,rfl⟩,aK sz hD2 _,aj,?_⟩
       have:(dH n).take (j+1)=(dH n).take j++[c]:=by
        rw[List.take_add_one,dH,List.getElem?_map,ej]
        show _++[(bZ n).getD i []]=_
        rw[List.getD_eq_getElem?_getD,z3]
        rfl
       rw[this]
       refine iu.upd (iu.snoc (s5 _ _ z5) (fun z=>?_) lz)
       rw[z] at z5
       rw[g5 _ _ z5] at hD2
       cases hD2
     ·rintro ys σ' Hz ⟨_,sz,eD2,lz⟩
      rw[List.length_map,← show (dH n).length=(crS n).length from List.length_map ..,List.take_length] at lz
      exact q D2 ys Hz (sx.trans (sy.trans (g5.trans sz))) eD2 lz
theorem qL (x:Nat):∀ c:List Nat,inV (.int (x:Int)) (c.map vN)=decide (x∈c)
 | []=>rfl
 | y::c=>by
  have ih:=qL x c
  unfold inV at ih ⊢
  rw[List.map_cons,List.any_cons,ih]
  by_cases e:x=y
  ·subst e
   rw[decide_eq_true List.mem_cons_self]
   simp [vN,eqV]
  ·have:eqV (vN y) (.int (x:Int))=false:=by
    simp [vN,eqV]
    lia
   rw[this,Bool.false_or]
   exact decide_eq_decide.mpr (by simp [e])
theorem tW (c:List Nat):(c.map vN).all rB=true:=by
 rw[List.all_map,List.all_eq_true]
 intro x _
 rfl
noncomputable def lfF (gs hs:List Int) (c:List Nat):List Int:=(List.range gs.length).map fun i=>if i∈c then hs.getD i 0 else gs.getD i 0
noncomputable abbrev ji:Stmt:=top 1
theorem zT:aY ["giving","high","crowd"] ["giving","high","crowd"] (aB ji):=⟨rfl,rfl,rfl,by decide+kernel,rfl,by decide+kernel,by decide+kernel⟩
inductive Aq (vs:List V) (H:Hp) (Q:VK):Prop where
 | mk (a b d:Addr) (gs hs:List Int) (c:List Nat) (z0:vs=[.ref a,.ref b,.ref d]) (z1:H a=some (.tup (gs.map V.int))) (z2:H b=some (.tup (hs.map V.int))) (z3:H d=some (.lst (c.map vN))) (z4:gs.length=hs.length) (z5:gs.length<=100) (z6:∀ (r:Addr) (H':Hp),aN H H'->H' r=some (.tup ((lfF gs hs c).map V.int))->Q (.ref r) H'):Aq  vs H Q
noncomputable def qi:Sp:=fun vs H Q _=>Aq  vs H Q
theorem Ad (F:Fun K "lifted" "lifted" ji f fd) (B:Bt mg) :
  dz P w K mg base CX0 1 f fd ["giving","high","crowd"] qi:=by
 refine F.ok zT (fun vs H Q E h=>?_) (fun cdv A outer s H vs Q E hr h=>?_)
 ·obtain⟨a,b,d,gs,hs,c,rfl,_⟩:=h
  rfl
 ·obtain⟨a,b,d,gs,hs,c,rfl,ha,hb,hd,hl,l100,q⟩:=h
  refine⟨_,(aC (aL (bI (r:=gC K) bJ rfl B.tuple_ cI (aa (bH (L:=["one","step"]) (F:=["crowd","high"]) (cap:=[2,1]) rfl (bx rfl rfl (by kernel_rfl)) (yj rfl B.enumerate_ (aa (pv 0) ao)) (fun _ _ _ _ _=>(dF (K:=K) 2 rfl rfl (bw (aD (i:=0) (aZ (by decide+kernel)) rfl (Or.inl rfl)) (bw (aD (i:=1) (aZ (by decide+kernel)) rfl (Or.inl rfl)) d8)))) (fun _ _ _ _ _=>bC) (fun _ _ _ _ _=>(yh (aP (r:=rIn K false) iZ (pv 0) (pv 2) rfl) (aQ (r:=eO K) bh (pv 3) (pv 0) (fun _ _=>rfl)) (pv 1)))) ao)))),?_⟩
  refine⟨_,rfl,a,_,rfl,SqT.of ha,fun D hD=>pX (K:=K) (a:=a) (xs:=gs.map V.int) (fun i zs σ' H3=>(∃ u v,σ'=[u,v,some (.ref d),some (.ref b)])/\aN H H3/\H3 D=some (.lst zs)/\zs=((List.range i).map fun j=>if j∈c then hs.getD j 0 else gs.getD j 0).map V.int)
   ⟨⟨_,_,rfl⟩,aA hD _,aj,rfl⟩ (fun i zs σ' H3 _ h=>⟨SqT.of (h.2.1 _ _ ha),h.2.2.1⟩) ?_ ?_⟩
  ·rintro i zs x p σ' H3 hx hp ⟨⟨u,v,rfl⟩,sm,eD,rfl⟩
   obtain⟨y,hy,rfl⟩:=int_at hx
   have hin:=(List.getElem?_eq_some_iff.mp hy).1
   generalize eH4:upd H3 p _=H4
   obtain⟨g4,e4⟩:=aH eH4 hp
   have s4:aN H H4:=sm.trans g4
   refine⟨p,_,rfl,SqT.of e4,rfl,_,_,rfl,_,_,rfl,rfl,?_⟩
   refine tT ?_
   have gy:gs.getD i 0=y:=by rw[List.getD_eq_getElem?_getD,hy]; rfl
   have hih:i < hs.length:=by lia
   have gi:hs.getD i 0=hs[i]:=by rw[List.getD_eq_getElem?_getD,List.getElem?_eq_getElem hih]; rfl
   refine⟨_,rfl,_,rfl,d,_,rfl,.inl (SqL.of (s4 _ _ hd)),rfl,tW c,_,rfl,?_⟩
   have nx:∀ z:Int,z=(if i∈c then hs.getD i 0 else gs.getD i 0)->((List.range (i+1)).map fun j=>if j∈c then hs.getD j 0 else gs.getD j 0).map V.int=((List.range i).map fun j=>if j∈c then hs.getD j 0 else gs.getD j 0).map V.int++[.int z]:=fun z ez=>by
    rw[ez,List.range_succ,List.map_append,List.map_append]
    rfl
   have ln:(((List.range i).map fun j=>if j∈c then hs.getD j 0 else gs.getD j 0).map V.int).length < sizeLine:=aG (by rw[List.length_map,List.length_map,List.length_range]; lia)
   rw[qL]
   by_cases e:i∈c
   ·rw[decide_eq_true e]
    refine jJ ⟨_,rfl,_,rfl,b,_,_,_,rfl,rfl,SqT.of (s4 _ _ hb),iW hih,g4 _ _ eD,ln,⟨_,_,rfl⟩,aK s4 hD _,aj,?_⟩
    exact (nx _ (by rw[if_pos e,gi])).symm
   ·rw[decide_eq_false e]
    refine gU ⟨_,rfl,g4 _ _ eD,ln,⟨_,_,rfl⟩,aK s4 hD _,aj,?_⟩
    exact (nx _ (by rw[if_neg e,gy])).symm
  ·rintro zs σ' H3 ⟨_,sm,eD,rfl⟩
   refine⟨D,_,rfl,.inl ⟨SqL.of eD,fun l hl'=>?_⟩⟩
   refine q l _ (sm.trans (aA hl' _)) ?_
   rw[aj,List.length_map]
   rfl
theorem cG {t u:TS} {D:Ends} {σ:St} {H:Hp} (P:St->Hp->Prop) (h2:∀ σ H,P σ H->u D σ H) (h1:∀ N:St->Hp->Prop,(∀ σ H,P σ H->N σ H)->t { D with nx:=N } σ H):DK t u D σ H:=h1 (u D) h2
noncomputable def Low (n:Nat) (fl:List Int) (bk:List (List Pl)) (lo:List Int):Prop:=okG n lo/\dN lo fl bk=lo/\∀ g,LeG (dN g fl bk) g->LeG lo g
noncomputable def InS (n:Nat) (fl:List Int) (bk:List (List Pl)) (lo:List Int) (c:List Nat) (g:List Int):Prop:=okG n g/\(∀ i < n,i ∉ c->g.getD i 0=lo.getD i 0)/\LeG lo g/\LeG g (dN g fl bk)
noncomputable def Lg (n:Nat) (fl:List Int) (bk:List (List Pl)) (lo:List Int) (c:List Nat) (g:List Int):Prop:=InS n fl bk lo c g/\∀ w,InS n fl bk lo c w->LeG w g
section
variable {n:Nat} {fl:List Int} {bk:List (List Pl)}
theorem mR (g:List Int):LeG g g:=fun i=>Int.le_refl _
theorem Low.uniq {lo lo':List Int} (h:Low n fl bk lo) (h':Low n fl bk lo'):lo=lo' :=
 fu (by rw[h.1.1,h'.1.1]) (h.2.2 _ (by rw[h'.2.1]; exact mR _)) (h'.2.2 _ (by rw[h.2.1]; exact mR _))
theorem Lg.uniq {lo:List Int} {c:List Nat} {g g':List Int} (h:Lg n fl bk lo c g) (h':Lg n fl bk lo c g'):g=g' :=
 fu (by rw[h.1.1.1,h'.1.1.1]) (h'.2 _ h.1) (h.2 _ h'.1)
theorem eG (hb:bk.length=n) (ok:okB bk) (hf:okG n fl) {m:Nat} (st:Stops (Fd fl bk) fl m):Low n fl bk (itF (Fd fl bk) fl m) :=
 ⟨ig hb ok hf hf m,st.1,fun _ h=>sJ hb ok hf h m⟩
theorem zq (hb:bk.length=n) (ok:okB bk) (hf:okG n fl) {z:List Int} (h:Lim n fl bk true fl z):Low n fl bk z:=by
 obtain⟨h1,h2,h3⟩:=h
 unfold Goes at h3
 rw[if_pos rfl] at h3
 exact⟨h1,h2,fun g hg=>h3.2.2 g ((jb hb ok hf g).trans hg) hg⟩
theorem Du (hb:bk.length=n) (ok:okB bk) {g g':List Int} (l:LeG g g') {i:Nat} (hi:i < n):duF g 0 (bk.getD i [])<=duF g' 0 (bk.getD i []):=by
 have h2:i < bk.length:=by lia
 rw[Hm h2]
 exact xU l (ok bk[i] (List.getElem_mem h2)) (Int.le_refl _)
theorem Gk {gs hs:List Int} {c:List Nat} {i:Nat} (h:i < gs.length):(lfF gs hs c).getD i 0=if i∈c then hs.getD i 0 else gs.getD i 0:=by
 unfold lfF
 rw[List.getD_eq_getElem?_getD,List.getElem?_map,List.getElem?_range h]
 rfl
theorem qe (gs hs:List Int) (c:List Nat):(lfF gs hs c).length=gs.length:=by unfold lfF; rw[List.length_map,List.length_range]
theorem dD {gs hs:List Int} (hg:okG n gs) (hh:okG n hs) (c:List Nat):okG n (lfF gs hs c):=by
 refine xJ (by rw[qe]; exact hg.1) fun i hi=>?_
 rw[Gk (by rw[hg.1]; exact hi)]
 have:=iw hg hi
 have:=iw hh hi
 split <;> lia
end
noncomputable def qR (n:Nat) (fl:List Int) (bk:List (List Pl)) (hi:List Int):Prop:=okG n hi/\dN hi fl bk=hi/\∀ g,LeG g (dN g fl bk)->LeG g hi
open Classical in
noncomputable def cl (n:Nat) (bk:List (List Pl)) (x:List Int):List Int:=if h:∃ y,Low n x bk y then Classical.choose h else []
noncomputable def bg (n:Nat) (bk:List (List Pl)) (fl hi:List Int) (c:List Nat):List Int:=cl n bk (lfF fl hi c)
section
variable {n:Nat} {fl hi:List Int} {bk:List (List Pl)}
theorem qR.uniq {a b:List Int} (h:qR n fl bk a) (h':qR n fl bk b):a=b :=
 fu (by rw[h.1.1,h'.1.1]) (h'.2.2 _ (by rw[h.2.1]; exact mR _)) (h.2.2 _ (by rw[h'.2.1]; exact mR _))
theorem iH (hb:bk.length=n) (ok:okB bk) (hf:okG n fl) {m:Nat} (st:Stops (Fd fl bk) (rfF fl bk) m):qR n fl bk (itF (Fd fl bk) (rfF fl bk) m) :=
 ⟨ig hb ok hf (jW hb ok hf) m,st.1,fun _ h=>tu hb ok hf h m⟩
theorem v5 (hb:bk.length=n) (ok:okB bk) (hf:okG n fl) {z:List Int} (h:Lim n fl bk false (rfF fl bk) z):qR n fl bk z:=by
 obtain⟨h1,h2,h3⟩:=h
 unfold Goes at h3
 rw[if_neg Bool.false_ne_true] at h3
 exact⟨h1,h2,fun g hg=>h3.2.2 g (hg.trans (mO hb ok hf g)) hg⟩
theorem fC (hb:bk.length=n) (ok:okB bk) (hf:okG n fl) (h:qR n fl bk hi):LeG fl hi:=by
 have:=jb hb ok hf hi
 rw[h.2.1] at this
 exact this
theorem vO {x y:List Int} (h:Low n x bk y):cl n bk x=y:=by
 have e:∃ y,Low n x bk y:=⟨y,h⟩
 unfold cl
 rw[dif_pos e]
 exact (Classical.choose_spec e).uniq h
theorem Gz (hb:bk.length=n) (ok:okB bk) {x:List Int} (hx:okG n x):Low n x bk (cl n bk x):=by
 obtain⟨m,_,st⟩:=pQ hb ok hx
 have:=eG hb ok hx st
 rw[vO this]
 exact this
theorem qd (hb:bk.length=n) {x y:List Int} (hx:okG n x) (h:Low n x bk y) {i:Nat} (hi:i < n):y.getD i 0=max (x.getD i 0) (duF y 0 (bk.getD i [])):=by
 have:=gQ hb hx y hi
 rw[h.2.1] at this
 exact this
theorem Gr (hb:bk.length=n) (ok:okB bk) {x y g:List Int} (hx:okG n x) (h:Low n x bk y) (hg:okG n g) (k:∀ i < n,x.getD i 0<=g.getD i 0/\duF g 0 (bk.getD i [])<=g.getD i 0):LeG y g:=by
 refine h.2.2 g (wQ (cQ hb ok hx g).1 hg.1 fun i hi=>?_)
 rw[gQ hb hx g hi]
 have:=k i hi
 lia
theorem GD (hb:bk.length=n) (ok:okB bk) {x y:List Int} (hx:okG n x) (hy:okG n y) (e:∀ i < n,y.getD i 0=max (x.getD i 0) (duF y 0 (bk.getD i []))) (k:∀ g,LeG (dN g x bk) g->LeG y g):Low n x bk y:=by
 refine⟨hy,fu (by rw[(cQ hb ok hx y).1,hy.1]) (wQ (cQ hb ok hx y).1 hy.1 fun i hi=>?_) (wQ hy.1 (cQ hb ok hx y).1 fun i hi=>?_),k⟩
 ·rw[gQ hb hx y hi,← e i hi]
  exact Int.le_refl _
 ·rw[gQ hb hx y hi,← e i hi]
  exact Int.le_refl _
theorem Jh (hb:bk.length=n) (hf:okG n fl) (h:qR n fl bk hi) {i:Nat} (hi':i < n):hi.getD i 0=max (fl.getD i 0) (duF hi 0 (bk.getD i [])):=by
 have:=gQ hb hf hi hi'
 rw[h.2.1] at this
 exact this
theorem iM (hf:okG n fl) (c:List Nat) {i:Nat} (h:i < n):(lfF fl hi c).getD i 0=if i∈c then hi.getD i 0 else fl.getD i 0:=Gk (by rw[hf.1]; exact h)
theorem j7 (hb:bk.length=n) (ok:okB bk) (hf:okG n fl) (hh:qR n fl bk hi) (c:List Nat):Low n (lfF fl hi c) bk (bg n bk fl hi c):=Gz hb ok (dD hf hh.1 c)
theorem FT (hb:bk.length=n) (ok:okB bk) (hf:okG n fl) (hh:qR n fl bk hi) (c:List Nat):LeG (bg n bk fl hi c) hi:=by
 refine Gr hb ok (dD hf hh.1 c) (j7 hb ok hf hh c) hh.1 fun i hi'=>?_
 rw[iM hf c hi']
 have:=Jh hb hf hh hi'
 split <;> lia
theorem Dz (hb:bk.length=n) (ok:okB bk) (hf:okG n fl) (hh:qR n fl bk hi) {c d:List Nat} (h:∀ i∈c,i∈d):LeG (bg n bk fl hi c) (bg n bk fl hi d):=by
 have ld:=j7 hb ok hf hh d
 refine Gr hb ok (dD hf hh.1 c) (j7 hb ok hf hh c) ld.1 fun i hi'=>?_
 have a:=qd hb (dD hf hh.1 d) ld hi'
 rw[iM hf d hi'] at a
 rw[iM hf c hi']
 have b:=fC hb ok hf hh i
 have:=h i
 by_cases e:i∈c
 ·rw[if_pos (this e)] at a
  rw[if_pos e]
  lia
 ·rw[if_neg e]
  split at a <;> lia
theorem JP (hb:bk.length=n) (ok:okB bk) (hf:okG n fl) (hh:qR n fl bk hi):bg n bk fl hi (List.range n)=hi:=by
 have l:=j7 hb ok hf hh (List.range n)
 refine fu (by rw[l.1.1,hh.1.1]) (FT hb ok hf hh _) (wQ hh.1.1 l.1.1 fun i hi'=>?_)
 have a:=qd hb (dD hf hh.1 _) l hi'
 rw[iM hf _ hi',if_pos (List.mem_range.mpr hi')] at a
 lia
theorem Dn (hb:bk.length=n) (ok:okB bk) (hf:okG n fl) (hh:qR n fl bk hi) {lo:List Int} (low:Low n fl bk lo):bg n bk fl hi []=lo:=by
 refine vO ?_
 have e:lfF fl hi []=fl:=by
  refine fu (qe _ _ _) (wQ (dD hf hh.1 []).1 hf.1 fun i hi'=>?_) (wQ hf.1 (dD hf hh.1 []).1 fun i hi'=>?_)
  ·rw[iM hf [] hi',if_neg (by simp)]
   exact Int.le_refl _
  ·rw[iM hf [] hi',if_neg (by simp)]
   exact Int.le_refl _
 rw[e]
 exact low
theorem HN (hb:bk.length=n) (ok:okB bk) (hf:okG n fl) (hh:qR n fl bk hi) (c:List Nat) (one:Nat):cl n bk (lfF (bg n bk fl hi c) hi [one])=bg n bk fl hi (c++[one]):=by
 have ly:=j7 hb ok hf hh c
 have ox:=dD (c:=[one]) ly.1 hh.1
 have lz:=Gz hb ok ox
 have hle:=FT hb ok hf hh c
 generalize hy:bg n bk fl hi c=y at *
 generalize cl n bk (lfF y hi [one])=z at *
 refine (vO (GD hb ok (dD hf hh.1 _) lz.1 (fun i hi'=>?_) fun g hg=>?_)).symm
 ·have a:=qd hb ox lz hi'
  rw[iM ly.1 [one] hi'] at a
  have b:=qd hb (dD hf hh.1 c) ly hi'
  rw[iM hf c hi'] at b
  rw[iM hf (c++[one]) hi']
  have yz:LeG y z:=wQ ly.1.1 lz.1.1 fun j hj=>by
   have d:=qd hb ox lz hj
   rw[iM ly.1 [one] hj] at d
   have:=hle j
   split at d <;> lia
  have dm:=Du hb ok yz hi'
  have fh:=fC hb ok hf hh i
  have:=hle i
  by_cases e1:i=one
  ·rw[if_pos (by simp [e1])] at a
   rw[if_pos (by simp [e1])]
   exact a
  ·rw[if_neg (by simp [e1])] at a
   by_cases e2:i∈c
   ·rw[if_pos e2] at b
    rw[if_pos (by simp [e2])]
    lia
   ·rw[if_neg e2] at b
    rw[if_neg (by simp [e1,e2])]
    lia
 ·have og:=dD hf hh.1 (c++[one])
  have hg':∀ i < n,(lfF fl hi (c++[one])).getD i 0<=g.getD i 0/\duF g 0 (bk.getD i [])<=g.getD i 0:=fun i hi'=>by
   have:=hg i
   rw[gQ hb og g hi'] at this
   lia
  have fh:=fC hb ok hf hh
  have yg:LeG y g:=ly.2.2 g (fun i=>?_)
  ·refine lz.2.2 g fun i=>?_
   by_cases hi':i < n
   ·rw[gQ hb ox g hi',iM ly.1 [one] hi']
    have a:=hg' i hi'
    rw[iM hf (c++[one]) hi'] at a
    have:=yg i
    by_cases e1:i=one
    ·rw[if_pos (by simp [e1])] at a
     rw[if_pos (by simp [e1])]
     lia
    ·rw[if_neg (by simp [e1])]
     lia
   ·have:=hg i
    rw[jt (by rw[(cQ hb ok og g).1]; lia)] at this
    rw[jt (by rw[(cQ hb ok ox g).1]; lia)]
    exact this
  ·by_cases hi':i < n
   ·rw[gQ hb (dD hf hh.1 c) g hi',iM hf c hi']
    have a:=hg' i hi'
    rw[iM hf (c++[one]) hi'] at a
    have:=fh i
    by_cases e2:i∈c
    ·rw[if_pos (by simp [e2])] at a
     rw[if_pos e2]
     lia
    ·rw[if_neg e2]
     split at a <;> lia
   ·have:=hg i
    rw[jt (by rw[(cQ hb ok og g).1]; lia)] at this
    rw[jt (by rw[(cQ hb ok (dD hf hh.1 c) g).1]; lia)]
    exact this
theorem Ji (hb:bk.length=n) (ok:okB bk) (hf:okG n fl) (hh:qR n fl bk hi) {c d e:List Nat} {one:Nat} (h1:one < n) (hc:∀ i∈c,i∈d) (he:∀ i,i∈e ↔ i∈d∨i=one) (k:hi.getD one 0<=(bg n bk fl hi c).getD one 0):bg n bk fl hi e=bg n bk fl hi d:=by
 have ld:=j7 hb ok hf hh d
 have od:=dD hf hh.1 d
 have oe:=dD hf hh.1 e
 have mono:=Dz hb ok hf hh hc one
 have hle:=FT hb ok hf hh d one
 refine vO (GD hb ok oe ld.1 (fun i hi'=>?_) fun g hg=>ld.2.2 g fun i=>?_)
 ·have a:=qd hb od ld hi'
  rw[iM hf d hi'] at a
  rw[iM hf e hi']
  have fh:=fC hb ok hf hh i
  by_cases e1:i=one
  ·rw[if_pos ((he i).mpr (.inr e1))]
   subst e1
   split at a <;> lia
  ·by_cases e2:i∈d
   ·rw[if_pos ((he i).mpr (.inl e2))]
    rw[if_pos e2] at a
    exact a
   ·rw[if_neg (fun z=>(he i).mp z |>.elim e2 e1)]
    rw[if_neg e2] at a
    exact a
 ·have:=hg i
  by_cases hi':i < n
  ·rw[gQ hb oe g hi',iM hf e hi'] at this
   rw[gQ hb od g hi',iM hf d hi']
   have fh:=fC hb ok hf hh i
   by_cases e2:i∈d
   ·rw[if_pos ((he i).mpr (.inl e2))] at this
    rw[if_pos e2]
    lia
   ·rw[if_neg e2]
    split at this <;> lia
  ·rw[jt (by rw[(cQ hb ok oe g).1]; lia)] at this
   rw[jt (by rw[(cQ hb ok od g).1]; lia)]
   exact this
end
noncomputable def cU (c:List Nat) (one:Nat):Bool:=match c.getLast? with
 | none=>true
 | some l=>decide (l < one)
noncomputable def CK (n:Nat):Nat->List (List Nat)
 | 0=>[[]]
 | k+1=>(CK n k).flatMap fun c=>((List.range n).filter (cU c)).map fun one=>c++[one]
noncomputable def grow (n:Nat) (bk:List (List Pl)) (fl hi:List Int) (c:List Nat):List (List Nat):=((List.range n).filter fun one=>decide ((bg n bk fl hi c).getD one 0 < hi.getD one 0) && cU c one).map fun one=>c++[one]
noncomputable def bf (n:Nat) (bk:List (List Pl)) (fl hi:List Int):Nat->List (List Nat)
 | 0=>[[]]
 | k+1=>(bf n bk fl hi k).flatMap (grow n bk fl hi)
theorem jE {α β:Type} {f g:α->List β} (h:∀ a,List.Sublist (f a) (g a)):∀ {l m:List α},List.Sublist l m->List.Sublist (l.flatMap f) (m.flatMap g)
 | _,_,.slnil=>List.Sublist.slnil
 | _,_,.cons a r=>by
  rw[List.flatMap_cons]
  exact (jE h r).trans (List.sublist_append_right _ _)
 | _,_,.cons₂ a r=>by
  rw[List.flatMap_cons,List.flatMap_cons]
  exact List.Sublist.append (h a) (jE h r)
theorem uR (n:Nat) (bk:List (List Pl)) (fl hi:List Int):∀ k,List.Sublist (bf n bk fl hi k) (CK n k)
 | 0=>List.Sublist.refl _
 | k+1=>jE (fun c=>by
  unfold grow
  refine List.Sublist.map _ ?_
  rw[← List.filter_filter]
  exact List.filter_sublist) (uR n bk fl hi k)
theorem qI {α:Type} {p:α->Bool} {x:α}:∀ {l' l:List α},List.Sublist l' l->l.Nodup->l.find? p=some x->x∈l'->l'.find? p=some x
 | _,_,.slnil,_,h,_=>h
 | l',_,.cons (l₂:=l) a r,nd,h,hx=>by
  rw[List.nodup_cons] at nd
  rw[List.find?_cons] at h
  cases e:p a with
  | true =>
   rw[e] at h
   cases h
   exact absurd (r.subset hx) nd.1
  | false =>
   rw[e] at h
   exact qI r nd.2 h hx
 | _,_,.cons₂ a r,nd,h,hx=>by
  rw[List.nodup_cons] at nd
  rw[List.find?_cons] at h ⊢
  cases e:p a with
  | true =>
   rw[e] at h
   exact h
  | false =>
   rw[e] at h
   have hp:=List.find?_some h
   rcases List.mem_cons.mp hx with z | z
   ·rw[z,e] at hp
    cases hp
   ·exact qI r nd.2 h z
theorem oA (c:List Nat) (l one:Nat):cU (c++[l]) one=decide (l < one):=by
 unfold cU
 rw[List.getLast?_append]
 rfl
theorem jH {c:List Nat} {one:Nat} (hp:c.Pairwise (· < ·)):(c++[one]).Pairwise (· < ·) ↔ cU c one=true:=by
 rcases List.eq_nil_or_concat c with rfl | ⟨d,l,rfl⟩
 ·simp [cU]
 ·rw[List.concat_eq_append] at hp ⊢
  rw[oA,decide_eq_true_eq,List.pairwise_append]
  rw[List.pairwise_append] at hp
  constructor
  ·intro h
   exact h.2.2 l (by simp) one (by simp)
  ·intro h
   refine⟨List.pairwise_append.mpr hp,by simp,fun a ha b hb=>?_⟩
   rw[List.mem_singleton.mp hb]
   rcases List.mem_append.mp ha with z | z
   ·exact Nat.lt_trans (hp.2.2 a z l (by simp)) h
   ·rw[List.mem_singleton.mp z]
    exact h
theorem qg (n:Nat):∀ (k:Nat) (c:List Nat),c∈CK n k ↔ c.length=k/\c.Pairwise (· < ·)/\∀ i∈c,i < n
 | 0,c=>by
  rw[CK,List.mem_singleton]
  constructor
  ·rintro rfl
   exact⟨rfl,List.Pairwise.nil,by simp⟩
  ·intro h
   exact List.eq_nil_of_length_eq_zero h.1
 | k+1,c=>by
  rw[CK,List.mem_flatMap]
  constructor
  ·rintro⟨d,hd,hc⟩
   obtain⟨one,ho,rfl⟩:=List.mem_map.mp hc
   obtain⟨h1,h2⟩:=List.mem_filter.mp ho
   obtain⟨k1,k2,k3⟩:=(qg n k d).mp hd
   refine⟨by rw[List.length_append,k1]; rfl,(jH k2).mpr h2,fun i hi=>?_⟩
   rcases List.mem_append.mp hi with z | z
   ·exact k3 i z
   ·rw[List.mem_singleton.mp z]
    exact List.mem_range.mp h1
  ·rintro⟨h1,h2,h3⟩
   rcases List.eq_nil_or_concat c with rfl | ⟨d,one,rfl⟩
   ·cases h1
   ·rw[List.concat_eq_append] at *
    rw[List.length_append] at h1
    have h1':d.length+1=k+1:=h1
    have hd:d.Pairwise (· < ·):=(List.pairwise_append.mp h2).1
    exact⟨d,(qg n k d).mpr ⟨by lia,hd,fun i hi=>h3 i (List.mem_append.mpr (.inl hi))⟩,List.mem_map.mpr ⟨one,List.mem_filter.mpr ⟨List.mem_range.mpr (h3 one (by simp)),(jH hd).mp h2⟩,rfl⟩⟩
theorem Gq:∀ n,1<=n->n<=6->dH n=(List.range (n+1)).flatMap (CK n):=by
 intro n h1 h6
 match n,h1,h6 with
 | 1,_,_=>decide+kernel
 | 2,_,_=>decide+kernel
 | 3,_,_=>decide+kernel
 | 4,_,_=>decide+kernel
 | 5,_,_=>decide+kernel
 | 6,_,_=>decide+kernel
theorem Er:∀ n,n<=6->∀ k,k<=n->(CK n k).Nodup:=by decide+kernel
theorem m7 {α:Type} {p:α->Bool} {f:Nat->List α} {x:α}:∀ {m:Nat},((List.range m).flatMap f).find? p=some x->∃ k,k < m/\(f k).find? p=some x/\∀ j < k,(f j).find? p=none
 | 0,h=>by cases h
 | m+1,h=>by
  rw[List.range_succ,List.flatMap_append,List.find?_append] at h
  cases e:((List.range m).flatMap f).find? p with
  | some y =>
   rw[e] at h
   cases h
   obtain⟨k,h1,h2⟩:=m7 e
   exact⟨k,by lia,h2⟩
  | none =>
   rw[e] at h
   have h':(f m).find? p=some x:=by simpa using h
   refine⟨m,Nat.lt_succ_self m,h',fun j hj=>?_⟩
   rw[List.find?_eq_none] at e ⊢
   exact fun y hy=>e y (List.mem_flatMap.mpr ⟨j,List.mem_range.mpr hj,hy⟩)
noncomputable def hit (n:Nat) (bk:List (List Pl)) (fl hi:List Int) (c:List Nat):Bool:=decide (bg n bk fl hi c=hi)
section
variable {n:Nat} {fl hi:List Int} {bk:List (List Pl)}
theorem lJ (hb:bk.length=n) (ok:okB bk) (hf:okG n fl) (hh:qR n fl bk hi) (n1:1<=n) (n6:n<=6):∃ x,(dH n).find? (hit n bk fl hi)=some x/\∃ k,k<=n/\(bf n bk fl hi k).find? (hit n bk fl hi)=some x/\∀ j < k,∀ c∈bf n bk fl hi j,hit n bk fl hi c=false:=by
 rw[Gq n n1 n6]
 have ex:List.range n∈(List.range (n+1)).flatMap (CK n):=List.mem_flatMap.mpr ⟨n,List.mem_range.mpr (Nat.lt_succ_self n),(qg n n _).mpr ⟨List.length_range,List.pairwise_lt_range,fun i hi=>List.mem_range.mp hi⟩⟩
 cases e:((List.range (n+1)).flatMap (CK n)).find? (hit n bk fl hi) with
 | none =>
  rw[List.find?_eq_none] at e
  refine absurd ?_ (e _ ex)
  unfold hit
  rw[JP hb ok hf hh]
  exact decide_eq_true rfl
 | some x =>
  refine⟨x,rfl,?_⟩
  obtain⟨k,hk,hx,hj⟩:=m7 e
  have hno:∀ j < k,∀ c∈CK n j,hit n bk fl hi c=false:=fun j hjk c hc=>by
   have:=List.find?_eq_none.mp (hj j hjk) c hc
   simpa using this
  have xin:=List.mem_of_find?_eq_some hx
  have xh:bg n bk fl hi x=hi:=by
   have:=List.find?_some hx
   unfold hit at this
   exact of_decide_eq_true this
  obtain⟨xl,xp,xn⟩:=(qg n k x).mp xin
  have pre:∀ m,m<=k->x.take m∈bf n bk fl hi m:=by
   intro m
   induction m with
   | zero=>intro _; rw[List.take_zero,bf]; exact List.mem_singleton.mpr rfl
   | succ m ih =>
    intro hm
    have hml:m < x.length:=by lia
    have et:x.take (m+1)=x.take m++[x[m]]:=by rw[List.take_add_one,List.getElem?_eq_getElem hml]; rfl
    have hone:=xn x[m] (List.getElem_mem hml)
    rw[et,bf,List.mem_flatMap]
    refine⟨x.take m,ih (by lia),List.mem_map.mpr ⟨x[m],List.mem_filter.mpr ⟨List.mem_range.mpr hone,?_⟩,rfl⟩⟩
    have hpt:(x.take (m+1)).Pairwise (· < ·):=xp.sublist (List.take_sublist _ _)
    rw[et] at hpt
    have hp0:(x.take m).Pairwise (· < ·):=xp.sublist (List.take_sublist _ _)
    rw[(jH hp0).mp hpt,Bool.and_true,decide_eq_true_eq]
    refine Int.not_le.mp fun hge=>?_
    have xe:x=x.take m++x[m]::x.drop (m+1):=by rw[List.getElem_cons_drop,List.take_append_drop]
    have hd:bg n bk fl hi x=bg n bk fl hi (x.take m++x.drop (m+1)):=by
     refine Ji hb ok hf hh (c:=x.take m) hone (fun i hi=>List.mem_append.mpr (.inl hi)) (fun i=>?_) hge
     constructor
     ·intro hi
      rw[xe] at hi
      rcases List.mem_append.mp hi with z | z
      ·exact .inl (List.mem_append.mpr (.inl z))
      ·rcases List.mem_cons.mp z with z | z
       ·exact .inr z
       ·exact .inl (List.mem_append.mpr (.inr z))
     ·rintro (hi | hi)
      ·rcases List.mem_append.mp hi with z | z
       ·exact List.mem_of_mem_take z
       ·exact List.mem_of_mem_drop z
      ·rw[hi]
       exact List.getElem_mem hml
    have sub:List.Sublist (x.take m++x.drop (m+1)) x:=by
     rw[xe]
     have t1:(x.take m++x[m]::x.drop (m+1)).take m=x.take m:=by rw[← xe]
     have t2:(x.take m++x[m]::x.drop (m+1)).drop (m+1)=x.drop (m+1):=by rw[← xe]
     rw[t1,t2]
     exact List.Sublist.append (List.Sublist.refl _) (List.sublist_cons_self _ _)
    have:=hno (k - 1) (by lia) (x.take m++x.drop (m+1)) ((qg n _ _).mpr ⟨by rw[List.length_append,List.length_take,List.length_drop]; lia,xp.sublist sub,fun i hi=>xn i (sub.subset hi)⟩)
    unfold hit at this
    rw[← hd,xh,decide_eq_true rfl] at this
    cases this
  have hxk:=pre k (Nat.le_refl _)
  rw[← xl,List.take_length] at hxk
  exact⟨k,by lia,qI (uR n bk fl hi k) (Er n n6 k (by lia)) hx (by rw[← xl]; exact hxk),fun j hjk c hc=>hno j hjk c ((uR n bk fl hi j).subset hc)⟩
end
theorem yU {K:W.Frag} {a D:Addr} {xs:List V} {g:TG} {wi1:TI} {g1:TG} {te:TE} {H1:Hp} {Q:Hp->Prop} {σ0:St} (Pv:Nat->List V->St->Hp->Prop) (h0:Pv 0 [] σ0 (upd H1 D (.lst [])))
  (hl:∀ i ys σ H,i<=xs.length->Pv i ys σ H->SqL K H a xs)
  (hs:∀ i ys x σ H,xs[i]? = some x->Pv i ys σ H->g x σ H fun σ3 H3=>wi1 σ3 H3 fun J1 H4=>In2 D J1 g1 te (Pv (i+1)) ys σ3 H4)
  (hd:∀ ys σ H,Pv xs.length ys σ H->Q H):qY D σ0 (Itl K a) g wi1 g1 te H1 Q:=by
 refine⟨fun i m ys σ H=>m=xs.length - i/\i<=xs.length/\Pv i ys σ H,⟨xs.length,by simp,Nat.zero_le _,h0⟩,?_⟩
 rintro i m ys σ H ⟨rfl,hi,p⟩
 have q:=hl i ys σ H hi p
 by_cases hlt:i < xs.length
 ·refine .inr ⟨⟨xs,xs[i],q,by simp [hlt]⟩,Pv (i+1),fun zs σ' H' p'=>⟨xs.length - (i+1),by lia,rfl,hlt,p'⟩,fun x H' y=>?_⟩
  obtain⟨e,y⟩:=y
  subst e
  exact hs i ys x σ _ (y xs q) p
 ·have e:i=xs.length:=by lia
  subst e
  exact .inl ⟨⟨xs,q,Nat.le_refl _⟩,hd ys σ H p⟩
noncomputable abbrev kO:Stmt:=top 18
noncomputable abbrev cH:Stmt:=top 19
noncomputable abbrev jr:Stmt:=top 20
theorem EY:aY ["book","floor","crowd"] ["book","floor","crowd"] (aB kO):=⟨rfl,rfl,rfl,by decide+kernel,rfl,by decide+kernel,by decide+kernel⟩
theorem iK:aY ["book","whole","crowd","giving","folk"] ["book","whole","crowd","giving"] (aB cH):=⟨rfl,rfl,rfl,by decide+kernel,rfl,by decide+kernel,by decide+kernel⟩
theorem ie:aY ["book","floor","whole","pairs","crowd","giving"] ["book","floor"] (aB jr):=⟨rfl,rfl,rfl,by decide+kernel,rfl,by decide+kernel,by decide+kernel⟩
inductive yd (vs:List V) (H:Hp) (Q:VK):Prop where
 | mk (b f d:Addr) (n:Nat) (bk:List (List Pl)) (fl:List Int) (c:List Nat) (z0:vs=[.ref b,.ref f,.ref d]) (z1:o7 n H b bk) (z2:bk.length=n) (z3:H f=some (.tup (fl.map V.int))) (z4:okG n fl) (z5:H d=some (.lst (c.map vN))) (z6:∀ (r:Addr) (y:List Int) (H':Hp),aN H H'->H' r=some (.tup (y.map V.int))->(∀ hi,qR n fl bk hi->y=bg n bk fl hi c)->Q (.ref r) H'):yd  vs H Q
noncomputable def wy:Sp:=fun vs H Q _=>yd  vs H Q
theorem Ez {k:Nat} (F:Fun K "begun" "begun" kO f fd) (B:Bt mg)
  (D_least:Df P w K mg base "least" (k+1) ["book","floor"] (lE Cj)) (D_greatest:Df P w K mg base "greatest" (k+1) ["book","floor"] (lE rfF)) (D_lifted:Df P w K mg base "lifted" 1 ["giving","high","crowd"] qi) :
  dz P w K mg base CX0 (k+2) f fd ["book","floor","crowd"] wy:=by
 refine F.ok EY (fun vs H Q E h=>?_) (fun cdv A outer s H vs Q E hr h=>?_)
 ·obtain⟨b,f,d,n,bk,fl,c,rfl,_⟩:=h
  rfl
 ·obtain⟨b,f,d,n,bk,fl,c,rfl,hB,lb,hf,of,hd,q⟩:=h
  refine⟨_,(aC (aL (bA D_least hr (aa (pv 0) (aa (bA D_lifted hr (aa (pv 1) (aa (bA D_greatest hr (aa (pv 0) (aa (pv 1) ao))) (aa (pv 2) ao)))) ao))))),?_⟩
  have okb:=hB.okB
  have b12:n<=12:=by obtain⟨_,_,_,h⟩:=hB; lia
  refine⟨_,rfl,_,rfl,_,rfl,_,rfl,b,f,n,bk,fl,rfl,hB,lb,hf,of,fun m2 a2 H2 _ st2 s2 e2=>?_⟩
  have hh:=iH lb okb of st2
  generalize itF (Fd fl bk) (rfF fl bk) m2=hi at *
  refine⟨_,rfl,f,a2,d,fl,hi,c,rfl,s2 _ _ hf,e2,s2 _ _ hd,by rw[of.1,hh.1.1],by rw[of.1]; lia,fun a3 H3 s3 e3=>?_⟩
  have ol:=dD of hh.1 c
  refine⟨b,a3,n,bk,_,rfl,hB.mono (s2.trans s3),lb,e3,ol,fun m4 a4 H4 _ st4 s4 e4=>?_⟩
  refine q a4 _ H4 (s2.trans (s3.trans s4)) e4 fun hi' hh'=>?_
  rw[hh'.uniq hh]
  exact (vO (eG lb okb ol st4)).symm
inductive CG (H0 H:Hp) (D:Addr):List V->List (List Nat × List Int)->Prop where
 | nil:CG H0 H D [] []
 | cons {p a g:Addr} {c:List Nat} {y:List Int} {us:List V} {cs:List (List Nat × List Int)}:H p=some (.tup [.ref a,.ref g])->H a=some (.lst (c.map vN))->a≠D->H0 a=none->H g=some (.tup (y.map V.int))->CG H0 H D us cs->CG H0 H D (.ref p::us) ((c,y)::cs)
theorem CG.go {H0 H1 H H':Hp} {D D':Addr} (e0:∀ a,H0 a=none->H1 a=none) (eT:∀ a xs,H a=some (HO.tup xs)->H' a=some (HO.tup xs)) (eL:∀ (a:Addr) (c:List Nat),H a=some (HO.lst (c.map vN))->a≠D->H' a=some (HO.lst (c.map vN))/\a≠D'):∀ {us:List V} {cs:List (List Nat × List Int)},CG H0 H D us cs->CG H1 H' D' us cs
 | _,_,.nil=>.nil
 | _,_,.cons h1 h2 h3 h4 h5 r=>.cons (eT _ _ h1) (eL _ _ h2 h3).1 (eL _ _ h2 h3).2 (e0 _ h4) (eT _ _ h5) (CG.go e0 eT eL r)
theorem CG.mono {H0 H H':Hp} {D:Addr} (e:aN H H') {us:List V} {cs:List (List Nat × List Int)} (h:CG H0 H D us cs):CG H0 H' D us cs:=h.go (fun _ z=>z) (fun a xs q=>e a _ q) fun a c q n=>⟨e a _ q,n⟩
theorem CG.upd {H0 H:Hp} {D:Addr} {zs zs':List V} (hD:H D=some (.lst zs)) {us:List V} {cs:List (List Nat × List Int)} (h:CG H0 H D us cs):CG H0 (upd H D (.lst zs')) D us cs:=h.go (fun _ z=>z) (dB hD) fun a c q n=>⟨by rw[cj n]; exact q,n⟩
theorem CG.goN {H0 H:Hp} {D D':Addr} {o:HO} (hD:H0 D'=some o):∀ {us:List V} {cs:List (List Nat × List Int)},CG H0 H D us cs->CG H0 H D' us cs
 | _,_,.nil=>.nil
 | _,_,.cons h1 h2 _ h4 h5 r=>.cons h1 h2 (fun z=>by rw[z,hD] at h4; cases h4) h4 h5 (CG.goN hD r)
theorem CG.length {H0 H:Hp} {D:Addr}:∀ {us:List V} {cs:List (List Nat × List Int)},CG H0 H D us cs->us.length=cs.length
 | _,_,.nil=>rfl
 | _,_,.cons _ _ _ _ _ r=>by rw[List.length_cons,List.length_cons,CG.length r]
theorem CG.snoc {H0 H:Hp} {D p a g:Addr} {c:List Nat} {y:List Int} (h1:H p=some (.tup [.ref a,.ref g])) (h2:H a=some (.lst (c.map vN))) (h3:a≠D) (h4:H0 a=none) (h5:H g=some (.tup (y.map V.int))):∀ {us:List V} {cs:List (List Nat × List Int)},CG H0 H D us cs->CG H0 H D (us++[.ref p]) (cs++[(c,y)])
 | _,_,.nil=>.cons h1 h2 h3 h4 h5 .nil
 | _,_,.cons k1 k2 k3 k4 k5 r=>.cons k1 k2 k3 k4 k5 (CG.snoc h1 h2 h3 h4 h5 r)
theorem CG.at {H0 H:Hp} {D:Addr}:∀ {us:List V} {cs:List (List Nat × List Int)} {i:Nat} {u:V},CG H0 H D us cs->us[i]? = some u->∃ (p a g:Addr) (c:List Nat) (y:List Int),u = .ref p/\cs[i]? = some (c,y)/\H p=some (.tup [.ref a,.ref g])/\H a=some (.lst (c.map vN))/\a≠D/\H0 a=none/\H g=some (.tup (y.map V.int))
 | _,_,_,_,.nil,h=>by simp at h
 | _,_,0,_,.cons h1 h2 h3 h4 h5 _,e=>by
  cases (show some _=some _ from e)
  exact⟨_,_,_,_,_,rfl,rfl,h1,h2,h3,h4,h5⟩
 | _,_,i+1,_,.cons _ _ _ _ _ r,e=>by
  obtain⟨p,a,g,c,y,k1,k2,k3⟩:=CG.at (i:=i) r (by simpa using e)
  exact⟨p,a,g,c,y,k1,by simpa using k2,k3⟩
theorem ud {p:Nat->Bool} (i:Nat):(List.range (i+1)).filter p=(List.range i).filter p++if p i=true then [i] else []:=by
 rw[List.range_succ,List.filter_append,List.filter_cons,List.filter_nil]
theorem Eg {p:Nat->Bool} {l:List Nat} {i a:Nat} (h:l[i]? = some a):(l.take (i+1)).filter p=(l.take i).filter p++if p a=true then [a] else []:=by
 rw[List.take_add_one,h,List.filter_append]
 show _++List.filter _ [a]=_
 rw[List.filter_cons,List.filter_nil]
inductive zX (vs:List V) (H:Hp) (Q:VK):Prop where
 | mk (b wh cr g:Addr) (n:Nat) (bk:List (List Pl)) (hi y:List Int) (c:List Nat) (z0:vs=[.ref b,.ref wh,.ref cr,.ref g]) (z1:o7 n H b bk) (z2:bk.length=n) (z3:H wh=some (.tup (hi.map V.int))) (z4:okG n hi) (z5:H cr=some (.lst (c.map vN))) (z6:c.length<=12) (z7:H g=some (.tup (y.map V.int))) (z8:okG n y) (z9:∀ (r:Addr) (us:List V) (H':Hp),aN H H'->H r=none->H' r=some (.lst us)->CG H H' r us (((List.range n).filter fun one=>decide (y.getD one 0 < hi.getD one 0) && cU c one).map fun one=>(c++[one],cl n bk (lfF y hi [one])))->Q (.ref r) H'):zX  vs H Q
noncomputable def Bh:Sp:=fun vs H Q _=>zX  vs H Q
theorem mq {k:Nat} (F:Fun K "with_one_more" "with_one_more" cH f fd) (B:Bt mg)
  (D_least:Df P w K mg base "least" (k+1) ["book","floor"] (lE Cj)) (D_lifted:Df P w K mg base "lifted" 1 ["giving","high","crowd"] qi) :
  dz P w K mg base CX0 (k+2) f fd ["book","whole","crowd","giving"] Bh:=by
 refine F.ok iK (fun vs H Q E h=>?_) (fun cdv A outer s H vs Q E hr h=>?_)
 ·obtain⟨b,wh,cr,g,n,bk,hi,y,c,rfl,_⟩:=h
  rfl
 ·obtain⟨b,wh,cr,g,n,bk,hi,y,c,rfl,hB,lb,hw,oh,hcr,cl12,hg,oy,q⟩:=h
  refine⟨_,(au (oE (L:=["one","step"]) (F:=["whole"]) (cap:=[1]) (j:=4) iK.nd rfl (Or.inl rfl) rfl (bx rfl rfl (by kernel_rfl)) (yj rfl B.enumerate_ (aa (pv 3) ao)) (fun _ _ _ _ _=>(dF (K:=K) 2 rfl rfl (bw (aD (i:=0) (aZ (by decide+kernel)) rfl (Or.inl rfl)) (bw (aD (i:=1) (aZ (by decide+kernel)) rfl (Or.inl rfl)) d8)))) (fun _ _ _ _ _=>(wg (aP Ca (pv 1) (aQ (r:=eO K) bh (pv 2) (pv 0) (fun _ _=>rfl)) (aR _)))) (fun _ _ _ _ _=>(pv 0)))
 (aC (aL (bH (L:=["one"]) (F:=["crowd","book","giving","whole"]) (cap:=[2,0,3,1]) rfl (bx rfl rfl (by kernel_rfl)) (cX (pv 4)) (fun _ _ _ _ _=>(aD (i:=0) (aZ (by decide+kernel)) rfl (Or.inl rfl))) (fun _ _ _ _ _=>(wg (PW.pt (Dj (aP eX (aJ (r:=vh K) bU rfl B.len_ gh (aa (pv 1) ao)) aq (aR _)) (wU (aP zr (pv 0) (aQ (r:=ik K) bc (pv 1) (Bw uV aq) (fun _ _=>rfl)) (aR _))))))) (fun _ _ _ _ _=>(bM (aa (aU nY (pv 1) (bV (aa (pv 0) ao))) (aa (bA D_least hr (aa (pv 2) (aa (bA D_lifted hr (aa (pv 3) (aa (pv 4) (aa (bV (aa (pv 0) ao)) ao)))) ao))) ao)))))))),?_⟩
  have okb:=hB.okB
  have b12:n<=12:=by obtain⟨_,_,_,h⟩:=hB; lia
  refine⟨_,rfl,g,_,rfl,SqT.of hg,fun D hD=>pX (K:=K) (a:=g) (xs:=y.map V.int) (fun i zs σ' H3=>(∃ u v,σ'=[u,v,some (.ref wh)])/\aN H H3/\H3 D=some (.lst zs)/\zs=((List.range i).filter fun j=>decide (y.getD j 0 < hi.getD j 0)).map vN)
   ⟨⟨_,_,rfl⟩,aA hD _,aj,rfl⟩ (fun i zs σ' H3 _ h=>⟨SqT.of (h.2.1 _ _ hg),h.2.2.1⟩) ?_ ?_⟩
  ·rintro i zs x p σ' H3 hx hp ⟨⟨u,v,rfl⟩,sm,eD,ez⟩
   obtain⟨y1,hy1,rfl⟩:=int_at hx
   have hin:=(List.getElem?_eq_some_iff.mp hy1).1
   generalize eH4:upd H3 p _=H4
   obtain⟨g4,e4⟩:=aH eH4 hp
   have s4:=sm.trans g4
   refine⟨p,_,rfl,SqT.of e4,rfl,_,_,rfl,_,_,rfl,rfl,?_⟩
   have hih:i < hi.length:=by rw[oh.1,← oy.1]; exact hin
   have gy:y.getD i 0=y1:=by rw[List.getD_eq_getElem?_getD,hy1]; rfl
   have gi:hi.getD i 0=hi[i]:=by rw[List.getD_eq_getElem?_getD,List.getElem?_eq_getElem hih]; rfl
   have lz:zs.length<=i:=by
    rw[ez,List.length_map]
    exact Nat.le_trans (List.length_filter_le _ _) (by rw[List.length_range]; exact Nat.le_refl _)
   have l12:i<=12:=by have:=oy.1; lia
   refine⟨_,rfl,_,rfl,_,rfl,wh,_,_,_,rfl,rfl,SqT.of (s4 _ _ hw),iW hih,_,_,rfl,rfl,_,rfl,?_⟩
   by_cases c1:y1 < hi[i]
   ·rw[decide_eq_true c1]
    refine jJ ⟨_,rfl,g4 _ _ eD,aG (by lia),⟨_,_,rfl⟩,aK s4 hD _,aj,?_⟩
    rw[ud,if_pos (by rw[gy,gi]; exact decide_eq_true c1),List.map_append,← ez]
    rfl
   ·rw[decide_eq_false c1]
    refine gU ⟨⟨_,_,rfl⟩,s4,g4 _ _ eD,?_⟩
    rw[ud,if_neg (by rw[gy,gi]; simp [c1]),List.append_nil]
    exact ez
  ·rintro zs σ' H3 ⟨_,s3,eD,ez⟩
   rw[List.length_map,oy.1] at ez
   have fl12:((List.range n).filter fun j=>decide (y.getD j 0 < hi.getD j 0)).length<=12:=Nat.le_trans (List.length_filter_le _ _) (by rw[List.length_range]; lia)
   have fmem:∀ one∈(List.range n).filter (fun j=>decide (y.getD j 0 < hi.getD j 0)),one < n:=fun one h=>List.mem_range.mp (List.mem_filter.mp h).1
   have ffin:((List.range n).filter fun one=>decide (y.getD one 0 < hi.getD one 0) && cU c one)=((List.range n).filter fun j=>decide (y.getD j 0 < hi.getD j 0)).filter (cU c):=by
    rw[List.filter_filter]
    congr 1
    funext a
    exact Bool.and_comm _ _
   rw[ffin] at q
   generalize (List.range n).filter (fun j=>decide (y.getD j 0 < hi.getD j 0))=fk at *
   subst ez
   refine⟨_,rfl,D,rfl,⟨_,SqL.of eD⟩,fun D2 hD2=>cM (K:=K) (a:=D) (xs:=fk.map vN) (fun i ys σ' Hy=>(∃ u,σ'=[u,some (.ref cr),some (.ref b),some (.ref g),some (.ref wh)])/\aN H3 Hy/\Hy D2=some (.lst ys)/\CG H Hy D2 ys (((fk.take i).filter (cU c)).map fun one=>(c++[one],cl n bk (lfF y hi [one]))))
    ⟨⟨_,rfl⟩,aA hD2 _,aj,by rw[List.take_zero]; exact .nil⟩ (fun i ys σ' Hy _ h=>⟨SqL.of (h.2.1 _ _ eD),h.2.2.1⟩) ?_ ?_⟩
   ·rintro i ys x σ' Hy hx ⟨⟨u,rfl⟩,sy,eD2,cg⟩
    obtain⟨one,hone,rfl⟩:=ux hx
    have onen:=fmem one (List.mem_of_getElem? hone)
    have s0y:=s3.trans sy
    have nx:=Eg (p:=cU c) hone
    have hcy:=s0y _ _ hcr
    have lys:=cg.length
    have lyf:=List.length_filter_le (cU c) (fk.take i)
    rw[List.length_map] at lys
    rw[List.length_take] at lyf
    have elt:∀ Q':V->Hp->Prop,(∀ (p a2 g2:Addr) (Hz:Hp),aN Hy Hz->Hz p=some (.tup [.ref a2,.ref g2])->Hz a2=some (.lst ((c++[one]).map vN))->Hy a2=none->Hz g2=some (.tup ((cl n bk (lfF y hi [one])).map V.int))->Q' (.ref p) Hz) →
      Kw (gj (tOp Ma (mX 1) (JF (gj (mX 0) yP))) (gj (yI (lE Cj) [] E0 (gj (mX 2) (gj (yI qi [] E0 (gj (mX 3) (gj (mX 4) (gj (JF (gj (mX 0) yP)) yP)))) yP))) yP)) [some (vN one),some (.ref cr),some (.ref b),some (.ref g),some (.ref wh)] Hy Q':=fun Q' fin=>by
     refine⟨_,rfl,_,rfl,small (by show 1<=1000; decide),fun p1 h1=>?_⟩
     generalize eHa:upd Hy p1 _=Ha
     obtain⟨ga,ea⟩:=aH eHa h1
     refine⟨cr,p1,_,_,rfl,rfl,ga _ _ hcy,ea,small (by rw[List.length_map]; show c.length+1<=1000; lia),fun a2 h2=>?_⟩
     generalize eHb:upd Ha a2 _=Hb
     obtain⟨gb,eb⟩:=aH eHb h2
     have fr2:Hy a2=none:=ga.free h2
     refine⟨_,rfl,_,rfl,_,rfl,_,rfl,small (by show 1<=1000; decide),fun p3 h3=>?_⟩
     generalize eHc:upd Hb p3 _=Hc
     obtain⟨gc,ec⟩:=aH eHc h3
     have syc:=ga.trans (gb.trans gc)
     have s0c:=s0y.trans syc
     refine⟨g,wh,p3,y,hi,[one],rfl,s0c _ _ hg,s0c _ _ hw,ec,by rw[oy.1,oh.1],by rw[oy.1]; lia,fun a4 Hd sd e4=>?_⟩
     have ox:=dD (c:=[one]) oy oh
     refine⟨b,a4,n,bk,_,rfl,hB.mono (s0c.trans sd),lb,e4,ox,fun m5 a5 He _ st5 se e5=>?_⟩
     rw[← vO (eG lb okb ox st5)] at e5
     refine⟨small (by show 2<=1000; decide),fun p6 h6=>?_⟩
     have gn:=aA h6 (.tup [.ref a2,.ref a5])
     have sbe:=gc.trans (sd.trans (se.trans gn))
     refine fin p6 a2 a5 _ (ga.trans (gb.trans sbe)) aj ?_ fr2 (gn _ _ e5)
     rw[sbe _ _ eb,List.map_append]
     rfl
    have yes:cU c one=true->∀ Q':V->Hp->Prop,(∀ (p:Addr) (Hz:Hp),Hz D2=some (.lst ys)/\ys.length < sizeLine/\(∃ u:Option V,[some (vN one),some (.ref cr),some (.ref b),some (.ref g),some (.ref wh)]=[u,some (V.ref cr),some (.ref b),some (.ref g),some (.ref wh)])/\aN H3 (upd Hz D2 (.lst (ys++[.ref p])))/\upd Hz D2 (.lst (ys++[.ref p])) D2=some (.lst (ys++[.ref p]))/\CG H (upd Hz D2 (.lst (ys++[.ref p]))) D2 (ys++[.ref p]) (((fk.take (i+1)).filter (cU c)).map fun one=>(c++[one],cl n bk (lfF y hi [one])))->Q' (.ref p) Hz) →
      Kw (gj (tOp Ma (mX 1) (JF (gj (mX 0) yP))) (gj (yI (lE Cj) [] E0 (gj (mX 2) (gj (yI qi [] E0 (gj (mX 3) (gj (mX 4) (gj (JF (gj (mX 0) yP)) yP)))) yP))) yP)) [some (vN one),some (.ref cr),some (.ref b),some (.ref g),some (.ref wh)] Hy Q':=fun hl Q' fin=>by
     refine elt Q' fun p a2 g2 Hz sz ep ea2 fr2 eg2=>fin p Hz ?_
     have eDz:=sz _ _ eD2
     have n2:a2≠D2:=fun z=>by rw[z,eD2] at fr2; cases fr2
     refine⟨eDz,aG (by lia),⟨_,rfl⟩,aK (sy.trans sz) hD2 _,aj,?_⟩
     rw[nx,if_pos hl,List.map_append]
     exact (CG.snoc ep ea2 n2 (s0y.free fr2) eg2 (cg.mono sz)).upd eDz
    have no:cU c one=false->aN H3 Hy/\Hy D2=some (.lst ys)/\CG H Hy D2 ys (((fk.take (i+1)).filter (cU c)).map fun one=>(c++[one],cl n bk (lfF y hi [one]))):=fun hl=>by
     rw[nx,if_neg (by rw[hl]; exact Bool.false_ne_true),List.append_nil]
     exact⟨sy,eD2,cg⟩
    refine⟨_,rfl,cr,_,rfl,.inl (SqL.of hcy),rfl,_,rfl,?_⟩
    rcases List.eq_nil_or_concat c with hc0 | ⟨d,l,hc0⟩
    ·have hl:cU c one=true:=by rw[hc0]; rfl
     rw[show decide (V.int ((c.map vN).length:Int)=V.int 0)=true by rw[hc0]; rfl]
     refine jJ ?_
     show if true=true then _ else _
     exact jJ (yes hl _ fun p Hz h=>h)
    ·rw[List.concat_eq_append] at hc0
     have hll:cU c one=decide (l < one):=by rw[hc0]; exact oA _ _ _
     rw[show decide (V.int ((c.map vN).length:Int)=V.int 0)=false from decide_eq_false (fun z=>by have:=V.int.inj z; rw[List.length_map,hc0,List.length_append] at this; have h1:([l]:List Nat).length=1:=rfl; lia)]
     have at1:atI (c.map vN) (-1)=some (vN l):=CJ (by rw[List.length_map,hc0,List.length_append,List.map_append]; show (d.map vN++[vN l])[d.length+1 - 1]? = _; rw[Nat.add_sub_cancel,List.getElem?_append_right (by rw[List.length_map]; exact Nat.le_refl _),List.length_map,Nat.sub_self]; rfl)
     refine gU ⟨_,rfl,_,rfl,_,rfl,cr,_,_,_,rfl,rfl,SqL.of hcy,at1,_,_,rfl,rfl,_,rfl,?_⟩
     by_cases hlt:l < one
     ·have hl:cU c one=true:=by rw[hll]; exact decide_eq_true hlt
      rw[decide_eq_true (show (one:Int) > (l:Int) by lia)]
      exact jJ (yes hl _ fun p Hz h=>h)
     ·have hl:cU c one=false:=by rw[hll]; exact decide_eq_false hlt
      rw[decide_eq_false (show ¬ (one:Int) > (l:Int) by lia)]
      exact gU ⟨⟨_,rfl⟩,no hl⟩
   ·rintro ys σ' Hy ⟨_,sy,eD2,cg⟩
    rw[List.length_map,List.take_length] at cg
    exact q D2 ys Hy (s3.trans sy) (s3.free hD2) eD2 cg
theorem Cq {α:Type} {p:α->Bool} {x:α}:∀ {l:List α} {i:Nat},l[i]? = some x->p x=true->(∀ d∈l.take i,p d=false)->l.find? p=some x
 | [],_,h,_,_=>by simp at h
 | a::l,0,h,hx,_=>by
  cases (show some a=some x from h)
  rw[List.find?_cons_of_pos hx]
 | a::l,i+1,h,hx,k=>by
  have ha:p a=false:=k a (by rw[List.take_succ_cons]; exact List.mem_cons_self)
  rw[List.find?_cons_of_neg (by rw[ha]; exact Bool.false_ne_true)]
  exact Cq (i:=i) (by simpa using h) hx fun d hd=>k d (by rw[List.take_succ_cons]; exact List.mem_cons_of_mem _ hd)
theorem J0:∀ n,n<=6->∀ k,k<=n->(CK n k).length<=20:=by decide+kernel
noncomputable def gr (n:Nat) (bk:List (List Pl)) (fl hi:List Int) (c:List Nat):List (List Nat × List Int):=(grow n bk fl hi c).map fun d=>(d,bg n bk fl hi d)
theorem Km (n:Nat) (bk:List (List Pl)) (fl hi:List Int) (k:Nat):(bf n bk fl hi k).flatMap (gr n bk fl hi)=(bf n bk fl hi (k+1)).map fun d=>(d,bg n bk fl hi d):=by
 show _=((bf n bk fl hi k).flatMap (grow n bk fl hi)).map _
 rw[List.map_flatMap]
 rfl
theorem uq {α β:Type} {f:α->List β} {l:List α} {i:Nat} {c:α} (h:l[i]? = some c):(l.take (i+1)).flatMap f=(l.take i).flatMap f++f c:=by
 rw[List.take_add_one,h,List.flatMap_append]
 show _++List.flatMap f [c]=_
 rw[List.flatMap_cons,List.flatMap_nil,List.append_nil]
theorem Fo {α β:Type} {f:α->List β} {l:List α} {i:Nat} {c:α} (h:l[i]? = some c) (j:Nat):((l.take i).flatMap f++(f c).take j).length<=(l.flatMap f).length:=by
 have e:l.flatMap f=(l.take (i+1)).flatMap f++(l.drop (i+1)).flatMap f:=by rw[← List.flatMap_append,List.take_append_drop]
 rw[e,uq h,List.length_append,List.length_append,List.length_append,List.length_take]
 lia
inductive uh (vs:List V) (H:Hp) (Q:VK):Prop where
 | mk (b f:Addr) (n:Nat) (bk:List (List Pl)) (fl:List Int) (z0:vs=[.ref b,.ref f]) (z1:o7 n H b bk) (z2:bk.length=n) (z3:1<=n) (z4:n<=6) (z5:H f=some (.tup (fl.map V.int))) (z6:okG n fl) (z7:∀ (r:Addr) (x:List Nat) (H':Hp),aN H H'->H r=none->H' r=some (.lst (x.map vN))->(∀ hi,qR n fl bk hi->(dH n).find? (hit n bk fl hi)=some x)->Q (.ref r) H'):uh  vs H Q
noncomputable def rm:Sp:=fun vs H Q _=>uh  vs H Q
theorem Dg {k:Nat} (F:Fun K "begins" "begins" jr f fd) (B:Bt mg)
  (D_least:Df P w K mg base "least" k ["book","floor"] (lE Cj)) (D_greatest:Df P w K mg base "greatest" k ["book","floor"] (lE rfF)) (D_with_one_more:Df P w K mg base "with_one_more" (k+1) ["book","whole","crowd","giving"] Bh) :
  dz P w K mg base CX0 (k+2) f fd ["book","floor"] rm:=by
 refine F.ok ie (fun vs H Q E h=>?_) (fun cdv A outer s H vs Q E hr h=>?_)
 ·obtain⟨b,f,n,bk,fl,rfl,_⟩:=h
  rfl
 ·obtain⟨b,f,n,bk,fl,rfl,hB,lb,n1,n6,hf,of,q⟩:=h
  refine⟨_,(au (bj (i:=2) ie.nd rfl (Or.inr rfl) (bA D_greatest hr (aa (pv 0) (aa (pv 1) ao))))
 (au (bj (i:=3) ie.nd rfl (Or.inl rfl) (bV (aa (bM (aa (bV ao) (aa (bA D_least hr (aa (pv 0) (aa (pv 1) ao))) ao))) ao)))
 (aC (xQ PassesOwn.never (iR mC) (au (eE PassesOwn.never rfl (cX (pv 3)) (dF (K:=K) 2 rfl rfl (bw (aD (i:=4) ie.nd rfl (Or.inl rfl)) (bw (aD (i:=5) ie.nd rfl (Or.inl rfl)) d8))) (aC (cA (aP (r:=zp K) (nD hr.iV) (pv 5) (pv 2) (aR _)) (aC (aL (pv 4))) aX)))
 (aC (FP (L:=["crowd","giving","pair"]) (F:=["book","whole"]) (cap:=[0,2]) (j:=3) ie.nd rfl (Or.inl rfl) rfl (bx rfl rfl (by kernel_rfl)) (cX (pv 3)) (fun _ _ _ _ _=>(dF (K:=K) 2 rfl rfl (bw (aD (i:=0) (aZ (by decide+kernel)) rfl (Or.inl rfl)) (bw (aD (i:=1) (aZ (by decide+kernel)) rfl (Or.inl rfl)) d8)))) (fun _ _ _ _ _=>(rn K rfl (bA D_with_one_more hr (aa (pv 3) (aa (pv 4) (aa (pv 0) (aa (pv 1) ao))))))) (fun _ _ _ _ _=>(aD (i:=2) (aZ (by decide+kernel)) rfl (Or.inl rfl))) (fun _ _ _ _ _=>(pv 2))))))))),?_⟩
  have okb:=hB.okB
  refine⟨_,rfl,_,rfl,b,f,n,bk,fl,rfl,hB,lb,hf,of,fun m2 wh H2 _ st2 s2 e2=>?_⟩
  have hh:=iH lb okb of st2
  generalize itF (Fd fl bk) (rfF fl bk) m2=hi at *
  obtain⟨x,fx,kst,hkn,fk,hno⟩:=lJ lb okb of hh n1 n6
  have q':∀ (r:Addr) (H':Hp),aN H H'->H r=none->H' r=some (.lst (x.map vN))->Q (.ref r) H':=fun r H' sH hr0 er=>q r x H' sH hr0 er fun hi' hh'=>by rw[hh'.uniq hh]; exact fx
  refine⟨small (by show 0<=1000; decide),fun p0 h0=>?_⟩
  generalize eHa:upd H2 p0 _=Ha
  obtain⟨ga,ea⟩:=aH eHa h0
  refine⟨_,rfl,_,rfl,b,f,n,bk,fl,rfl,hB.mono (s2.trans ga),lb,(s2.trans ga) _ _ hf,of,fun m3 lo Hb _ st3 sb eb=>?_⟩
  have elo:=Dn lb okb of hh (eG lb okb of st3)
  rw[← elo] at eb
  refine⟨small (by show 2<=1000; decide),fun p1 h1=>?_⟩
  generalize eHc:upd Hb p1 _=Hc
  obtain⟨gc,ec⟩:=aH eHc h1
  refine⟨small (by show 1<=1000; decide),fun p2 h2=>?_⟩
  generalize eHd:upd Hc p2 _=Hd
  obtain⟨gd,ed⟩:=aH eHd h2
  have s2d:=ga.trans (sb.trans (gc.trans gd))
  have p0d:Hd p0=some (.lst (([]:List Nat).map vN)):=(sb.trans (gc.trans gd)) _ _ ea
  have np:p0≠p2:=fun z=>by
   have:=(sb.trans gc) _ _ ea
   rw[z,h2] at this
   cases this
  refine⟨fun m σ H3=>∃ (k:Nat) (pa:Addr) (us:List V) (u v:Option V),k+m=kst/\σ=[some (.ref b),some (.ref f),some (.ref wh),some (.ref pa),u,v]/\aN H2 H3/\H3 pa=some (.lst us)/\CG H H3 pa us ((bf n bk fl hi k).map fun c=>(c,bg n bk fl hi c)),?_,?_⟩
  ·exact⟨kst,0,p2,_,_,_,Nat.zero_add _,rfl,s2d,ed,.cons (gd _ _ ec) p0d np (s2.free h0) ((gc.trans gd) _ _ eb) .nil⟩
  rintro m σ H3 ⟨k,pa,us,u,v,hm,rfl,s3,epa,cg⟩
  refine⟨_,rfl,jJ ?_⟩
  have s03:=s2.trans s3
  refine⟨fun σ' H'=>m≠0/\∃ (pa:Addr) (us:List V) (u v:Option V),σ'=[some (.ref b),some (.ref f),some (.ref wh),some (.ref pa),u,v]/\aN H2 H'/\H' pa=some (.lst us)/\CG H H' pa us ((bf n bk fl hi (k+1)).map fun c=>(c,bg n bk fl hi c)),?_,?_⟩
  ·rintro σ' H' ⟨m0,pa',us',u',v',e1,e2,e3,e4⟩
   exact⟨m - 1,by lia,k+1,pa',us',u',v',by lia,e1,e2,e3,e4⟩
  refine⟨_,rfl,pa,rfl,⟨_,SqL.of epa⟩,?_⟩
  refine mK (K:=K) (a:=pa) (xs:=us) (fun i σ' H'=>(∃ u v,σ'=[some (.ref b),some (.ref f),some (.ref wh),some (.ref pa),u,v])/\H'=H3/\∀ c∈(bf n bk fl hi k).take i,hit n bk fl hi c=false)
   ⟨⟨_,_,rfl⟩,rfl,fun c hc=>by rw[List.take_zero] at hc; cases hc⟩ (fun i σ' H' _ h=>by rw[h.2.1]; exact SqL.of epa) ?_ ?_
  ·rintro i w σ' H' hw ⟨⟨u,v,rfl⟩,rfl,hn⟩
   obtain⟨p,a,g,c,y,rfl,hc,k1,k2,_,k4,k5⟩:=cg.at hw
   rw[List.getElem?_map] at hc
   obtain⟨c',hc',e⟩:=Option.map_eq_some_iff.mp hc
   obtain⟨rfl,rfl⟩:=Prod.mk.inj e
   refine⟨p,_,rfl,SqT.of k1,rfl,_,_,rfl,_,_,rfl,rfl,_,rfl,_,rfl,g,wh,_,_,rfl,rfl,SqT.of k5,SqT.of (s3 _ _ e2),_,rfl,?_⟩
   by_cases hd:bg n bk fl hi c'=hi
   ·rw[decide_eq_true hd]
    have hc1:hit n bk fl hi c'=true:=decide_eq_true hd
    refine jJ ⟨_,rfl,?_⟩
    have hk:k=kst:=by
     rcases Nat.lt_or_ge k kst with h | h
     ·have:=hno k h c' (List.mem_of_getElem? hc')
      rw[hc1] at this
      cases this
     ·lia
    subst hk
    have:=Cq hc' hc1 hn
    rw[fk] at this
    cases this
    exact q' a H' s03 k4 k2
   ·rw[decide_eq_false hd]
    refine gU ⟨⟨_,_,rfl⟩,rfl,fun d hd'=>?_⟩
    rw[List.take_add_one,hc',List.mem_append] at hd'
    rcases hd' with h | h
    ·exact hn d h
    ·cases List.mem_singleton.mp h
     exact decide_eq_false hd
  rintro σ' H' ⟨⟨u,v,rfl⟩,rfl,hn⟩
  have lus:=cg.length
  rw[List.length_map] at lus
  rw[lus,List.take_length] at hn
  have hk:k < kst:=by
   rcases Nat.lt_or_ge k kst with h | h
   ·exact h
   ·have:k=kst:=by lia
    subst this
    have h1:=hn x (List.mem_of_find?_eq_some fk)
    rw[List.find?_some fk] at h1
    cases h1
  have lim:(((bf n bk fl hi k).flatMap (gr n bk fl hi))).length<=20:=by
   rw[Km,List.length_map]
   exact Nat.le_trans (uR n bk fl hi (k+1)).length_le (J0 n n6 (k+1) (by lia))
  refine⟨_,rfl,pa,rfl,⟨_,SqL.of epa⟩,fun D hD=>yU (K:=K) (a:=pa) (xs:=us) (fun i ys σ' Hy=>(∃ u v z,σ'=[u,v,z,some (.ref b),some (.ref wh)])/\aN H' Hy/\Hy D=some (.lst ys)/\CG H Hy D ys (((bf n bk fl hi k).take i).flatMap (gr n bk fl hi)))
   ⟨⟨_,_,_,rfl⟩,aA hD _,aj,by rw[List.take_zero]; exact .nil⟩ (fun i ys σ' Hy _ h=>SqL.of (h.2.1 _ _ epa)) ?_ ?_⟩
  ·rintro i ys w σ' Hy hw ⟨⟨u,v,z,rfl⟩,sy,eD,cy⟩
   obtain⟨p,a,g,c,y,rfl,hc,k1,k2,_,k4,k5⟩:=cg.at hw
   rw[List.getElem?_map] at hc
   obtain⟨c',hc',e⟩:=Option.map_eq_some_iff.mp hc
   obtain⟨rfl,rfl⟩:=Prod.mk.inj e
   have sb2:=s03.trans sy
   have clen:c'.length=k:=((qg n k c').mp ((uR n bk fl hi k).subset (List.mem_of_getElem? hc'))).1
   have okc:okG n (bg n bk fl hi c'):=(j7 lb okb of hh c').1
   refine⟨p,_,rfl,SqT.of (sy _ _ k1),rfl,_,_,rfl,_,_,rfl,rfl,?_⟩
   refine⟨_,rfl,_,rfl,_,rfl,_,rfl,b,wh,a,g,n,bk,hi,bg n bk fl hi c',c',rfl,hB.mono sb2,lb,(s3.trans sy) _ _ e2,hh.1,sy _ _ k2,by lia,sy _ _ k5,okc,fun r ws Hz sz fr ez cz=>?_⟩
   have ecz:(((List.range n).filter fun one=>decide ((bg n bk fl hi c').getD one 0 < hi.getD one 0) && cU c' one).map fun one=>(c'++[one],cl n bk (lfF (bg n bk fl hi c') hi [one])))=gr n bk fl hi c':=by
    show _=List.map _ (List.map _ _)
    rw[List.map_map]
    refine List.map_congr_left fun one _=>?_
    show _=(_,_)
    rw[HN lb okb of hh c' one]
   rw[ecz] at cz
   have cz':CG Hy Hz D ws (gr n bk fl hi c'):=cz.goN eD
   have nr:r≠D:=fun z=>by rw[z,eD] at fr; cases fr
   refine⟨r,rfl,⟨_,SqL.of ez⟩,Fi (K:=K) (b:=r) (ws:=ws) (fun j zs σ' Hz=>(∃ u v z,σ'=[u,v,z,some (.ref b),some (.ref wh)])/\aN H' Hz/\Hz r=some (.lst ws)/\CG Hy Hz D ws (gr n bk fl hi c')/\Hz D=some (.lst zs)/\CG H Hz D zs (((bf n bk fl hi k).take i).flatMap (gr n bk fl hi)++(gr n bk fl hi c').take j))
    ⟨⟨_,_,_,rfl⟩,sy.trans sz,ez,cz',sz _ _ eD,by rw[List.take_zero,List.append_nil]; exact cy.mono sz⟩ (fun j zs σ' Hz _ h=>SqL.of h.2.2.1) ?_ ?_⟩
   ·rintro j zs w σ' Hx hw ⟨⟨u,v,z,rfl⟩,sx,er,cx,eDx,cgx⟩
    obtain⟨p',a',g',d,y,rfl,hd,j1,j2,j3,j4,j5⟩:=cx.at hw
    have ln:=cgx.length
    have ll:=Fo (f:=gr n bk fl hi) hc' j
    refine⟨_,rfl,eDx,aG (by lia),⟨_,_,_,rfl⟩,aK sx hD _,by rw[cj nr]; exact er,cx.upd eDx,aj,?_⟩
    rw[List.take_add_one,hd,← List.append_assoc]
    exact (CG.snoc j1 j2 j3 (sb2.free j4) j5 cgx).upd eDx
   ·rintro zs σ' Hx ⟨hs,sx,_,cx,eDx,cgx⟩
    rw[cx.length,List.take_length,← uq hc'] at cgx
    exact⟨hs,sx,eDx,cgx⟩
  ·rintro ys σ' Hy ⟨_,sy,eD,cy⟩
   rw[lus,List.take_length,Km] at cy
   exact⟨by lia,D,ys,u,v,rfl,s3.trans sy,eD,cy⟩
noncomputable abbrev dJ:Stmt:=top 40
theorem uw:aY ["_law_book_here","_law_floor"] ["_law_book_here","_law_floor"] (aB dJ):=⟨rfl,rfl,rfl,by decide+kernel,rfl,by decide+kernel,by decide+kernel⟩
inductive uA (vs:List V) (H:Hp) (Q:VK):Prop where
 | mk (b f:Addr) (n:Nat) (bk:List (List Pl)) (fl:List Int) (z0:vs=[.ref b,.ref f]) (z1:o7 n H b bk) (z2:bk.length=n) (z3:H f=some (.tup (fl.map V.int))) (z4:okG n fl) (z5:∀ (r:Addr) (z:List Int) (H':Hp),aN H H'->H' r=some (.tup (z.map V.int))->Low n fl bk z->Q (.ref r) H'):uA  vs H Q
noncomputable def rF:Sp:=fun vs H Q _=>uA  vs H Q
theorem tY {k:Nat} (F:Fun K "_law_least" "_law_least" dJ f fd) (B:Bt mg)
  (D_law_step_by_step:Df P w K mg base "_law_step_by_step" k ["_law_book_here","_law_floor","_law_giving_here"] rK):dz P w K mg base CX0 (k+1) f fd ["_law_book_here","_law_floor"] rF:=by
 refine F.ok uw (fun vs H Q E h=>?_) (fun cdv A outer s H vs Q E hr h=>?_)
 ·obtain⟨b,f,n,bk,fl,rfl,_⟩:=h
  rfl
 ·obtain⟨b,f,n,bk,fl,rfl,hB,lb,hf,of,q⟩:=h
  refine⟨_,(aC (aL (bA D_law_step_by_step hr (aa (pv 0) (aa (pv 1) (aa (pv 1) ao)))))),?_⟩
  have okb:=hB.okB
  refine⟨_,rfl,_,rfl,_,rfl,b,f,f,n,bk,fl,fl,true,rfl,hB,lb,hf,of,hf,of,?_,fun r z H' s1 e1 lm=>q r z H' s1 e1 (zq lb okb of lm)⟩
  unfold Dir
  rw[if_pos rfl]
  exact jb lb okb of fl
noncomputable abbrev d7:Stmt:=top 43
theorem lL:aY ["_law_book_here","_law_floor","_law_most","_law_crowd_here","_law_base"] ["_law_book_here","_law_floor","_law_most","_law_crowd_here"] (aB d7):=⟨rfl,rfl,rfl,by decide+kernel,rfl,by decide+kernel,by decide+kernel⟩
inductive uO (vs:List V) (H:Hp) (Q:VK):Prop where
 | mk (b f m d:Addr) (n:Nat) (bk:List (List Pl)) (fl hi:List Int) (c:List Nat) (z0:vs=[.ref b,.ref f,.ref m,.ref d]) (z1:o7 n H b bk) (z2:bk.length=n) (z3:H f=some (.tup (fl.map V.int))) (z4:okG n fl) (z5:H m=some (.tup (hi.map V.int))) (z6:okG n hi) (z7:LeG fl hi) (z8:H d=some (.lst (c.map vN))) (z9:∀ (r:Addr) (z:List Int) (H':Hp),aN H H'->H' r=some (.tup (z.map V.int))->z=bg n bk fl hi c->Q (.ref r) H'):uO  vs H Q
noncomputable def qZ:Sp:=fun vs H Q _=>uO  vs H Q
theorem ug {k:Nat} (F:Fun K "_law_begun" "_law_begun" d7 f fd) (B:Bt mg)
  (D_law_least:Df P w K mg base "_law_least" k ["_law_book_here","_law_floor"] rF):dz P w K mg base CX0 (k+1) f fd ["_law_book_here","_law_floor","_law_most","_law_crowd_here"] qZ:=by
 refine F.ok lL (fun vs H Q E h=>?_) (fun cdv A outer s H vs Q E hr h=>?_)
 ·obtain⟨b,f,m,d,n,bk,fl,hi,c,rfl,_⟩:=h
  rfl
 ·obtain⟨b,f,m,d,n,bk,fl,hi,c,rfl,hB,lb,hf,of,hm,oh,lfh,hd,q⟩:=h
  refine⟨_,(au (bj (i:=4) lL.nd rfl (Or.inl rfl) (bI (r:=gC K) bJ rfl B.tuple_ cI (aa (bH (L:=["_law_at"]) (F:=["_law_crowd_here","_law_floor","_law_most"]) (cap:=[3,1,2]) rfl (bx rfl rfl (by kernel_rfl)) (bQ rfl B.range_ (aa (aJ (r:=vh K) bU rfl B.len_ gh (aa (pv 0) ao)) ao)) (fun _ _ _ _ _=>(aD (i:=0) (aZ (by decide+kernel)) rfl (Or.inl rfl))) (fun _ _ _ _ _=>bC) (fun _ _ _ _ _=>(yh (aP (r:=rIn K false) iZ (pv 0) (pv 1) rfl) (aJ (oF rfl) rfl B.max_ nH (aa (aQ (r:=eO K) bh (pv 2) (pv 0) (fun _ _=>rfl)) (aa (aQ (r:=eO K) bh (pv 3) (pv 0) (fun _ _=>rfl)) ao))) (aQ (r:=eO K) bh (pv 2) (pv 0) (fun _ _=>rfl))))) ao)))
 (aC (aL (bA D_law_least hr (aa (pv 0) (aa (pv 4) ao)))))),?_⟩
  obtain⟨us,hb,rb,l12⟩:=hB
  have lu:=rb.length
  refine⟨_,rfl,b,_,rfl,.inl (SqL.of hb),_,rfl,by lia,by lia,fun D hD=>dh (lo:=0) (n:=us.length) (fun i zs σ' H3=>(∃ u,σ'=[u,some (.ref d),some (.ref f),some (.ref m)])/\aN H H3/\H3 D=some (.lst zs)/\zs=((List.range i).map fun j=>if j∈c then hi.getD j 0 else fl.getD j 0).map V.int)
   ⟨⟨_,rfl⟩,aA hD _,aj,rfl⟩ (fun i zs σ' H3 _ h=>h.2.2.1) ?_ ?_⟩
  ·rintro i zs σ' H3 hin ⟨⟨u,rfl⟩,sm,eD,rfl⟩
   rw[Int.zero_add]
   refine gT ?_
   have hif:i < fl.length:=by rw[of.1]; lia
   have hih:i < hi.length:=by rw[oh.1]; lia
   have gf:fl.getD i 0=fl[i]:=by rw[List.getD_eq_getElem?_getD,List.getElem?_eq_getElem hif]; rfl
   have gi:hi.getD i 0=hi[i]:=by rw[List.getD_eq_getElem?_getD,List.getElem?_eq_getElem hih]; rfl
   refine⟨_,rfl,_,rfl,d,_,rfl,.inl (SqL.of (sm _ _ hd)),rfl,tW c,_,rfl,?_⟩
   have nx:∀ z:Int,z=(if i∈c then hi.getD i 0 else fl.getD i 0)->((List.range (i+1)).map fun j=>if j∈c then hi.getD j 0 else fl.getD j 0).map V.int=((List.range i).map fun j=>if j∈c then hi.getD j 0 else fl.getD j 0).map V.int++[.int z]:=fun z ez=>by
    rw[ez,List.range_succ,List.map_append,List.map_append]
    rfl
   have ln:(((List.range i).map fun j=>if j∈c then hi.getD j 0 else fl.getD j 0).map V.int).length < sizeLine:=aG (by rw[List.length_map,List.length_map,List.length_range]; lia)
   rw[qL]
   by_cases e:i∈c
   ·rw[decide_eq_true e]
    refine jJ ⟨_,rfl,_,rfl,f,_,_,_,rfl,rfl,SqT.of (sm _ _ hf),iW hif,_,rfl,_,rfl,m,_,_,_,rfl,rfl,SqT.of (sm _ _ hm),iW hih,_,_,rfl,eD,ln,⟨_,rfl⟩,aK sm hD _,aj,?_⟩
    refine (nx _ ?_).symm
    have:=lfh i
    rw[gf,gi] at this
    rw[if_pos e,gi]
    split <;> lia
   ·rw[decide_eq_false e]
    refine gU ⟨_,rfl,_,rfl,f,_,_,_,rfl,rfl,SqT.of (sm _ _ hf),iW hif,eD,ln,⟨_,rfl⟩,aK sm hD _,aj,?_⟩
    exact (nx _ (by rw[if_neg e,gf])).symm
  ·rintro zs σ' H3 ⟨_,sm,eD,rfl⟩
   refine⟨D,_,rfl,.inl ⟨SqL.of eD,fun l hl'=>?_⟩⟩
   generalize eH4:upd H3 l _=H4
   obtain⟨g4,e4⟩:=aH eH4 hl'
   have e4':H4 l=some (.tup ((lfF fl hi c).map V.int)):=by
    rw[e4]
    unfold lfF
    rw[of.1,show us.length=n by lia]
   have s4:=sm.trans g4
   refine⟨_,rfl,_,rfl,b,l,n,bk,_,rfl,o7.mono s4 ⟨us,hb,rb,l12⟩,lb,e4',dD of oh c,fun r z H' s1 e1 low=>q r z H' (s4.trans s1) e1 (vO low).symm⟩
theorem xP {H:Hp} {a:Addr} {c:List Nat} (h:H a=some (.lst (c.map vN))) (l:c.length<=1000):Rep H (.ref a) (.lst ((c.map fun i:Nat=>(i:Int)).map Dm.int)):=by
 rw[iB] at h
 exact .lst h (by rw[List.length_map,List.length_map]; lia) (mZ _)
theorem DR (ns:List Int):(Dm.lst (ns.map Dm.int)).dep=1:=by rw[Dm.dep,oG]
theorem Eo (c:List Nat):su (c.map vN) (some 1) none=(c.drop 1).map vN:=by
 unfold su
 cases c with
 | nil=>rfl
 | cons a c =>
  have e1:HT.sIx (List.map vN (a::c)).length 0 (some 1)=1:=by
   rw[List.length_map,List.length_cons]
   unfold HT.sIx
   simp
  have e2:HT.sIx (List.map vN (a::c)).length (List.map vN (a::c)).length none=(List.map vN (a::c)).length:=rfl
  rw[e1,e2,List.take_of_length_le (by rw[List.length_drop]; exact Nat.le_refl _),List.map_drop]
theorem yK {n:Nat} {fl hi:List Int} {bk:List (List Pl)} {x:List Nat} {lo:List Int} (n1:1<=n) (n6:n<=6) (hb:bk.length=n) (ok:okB bk) (hf:okG n fl) (hh:qR n fl bk hi) (low:Low n fl bk lo) (h:(dH n).find? (hit n bk fl hi)=some x) :
  x.isEmpty=decide (lo=hi):=by
 have e0:hit n bk fl hi []=decide (lo=hi):=by unfold hit; rw[Dn hb ok hf hh low]
 have ec:dH n=[]::(List.range' 1 n).flatMap (CK n):=by
  rw[Gq n n1 n6,List.range_eq_range',List.range'_succ,List.flatMap_cons]
  rfl
 by_cases e:lo=hi
 ·rw[decide_eq_true e] at e0 ⊢
  rw[ec,List.find?_cons_of_pos e0] at h
  cases h
  rfl
 ·rw[decide_eq_false e] at e0 ⊢
  cases x with
  | nil =>
   have:=List.find?_some h
   rw[e0] at this
   cases this
  | cons _ _=>rfl
noncomputable def Ff (H:Hp) (o:Option (List Nat)) (v:V):Prop:=(o=none/\v = .non)∨∃ (a:Addr) (x:List Nat),o=some x/\v = .ref a/\H a=some (.lst (x.map vN))
theorem Ff.mono {H H':Hp} (s:aN H H') {o:Option (List Nat)} {v:V}:Ff H o v->Ff H' o v
 | .inl h=>.inl h
 | .inr ⟨a,x,h1,h2,h3⟩=>.inr ⟨a,x,h1,h2,s _ _ h3⟩
theorem BV {p:List Nat->Bool} {l:List (List Nat)} {i:Nat} {c:List Nat} (h:l[i]? = some c):(l.take (i+1)).find? p=((l.take i).find? p).or (if p c=true then some c else none):=by
 rw[List.take_add_one,h,List.find?_append]
 congr 1
 show List.find? p [c]=_
 by_cases e:p c=true
 ·rw[List.find?_cons_of_pos e,if_pos e]
 ·rw[List.find?_cons_of_neg e,if_neg e]
  rfl
noncomputable abbrev rN:Stmt:=top 44
theorem eF:aY ["_law_script","_law_start","_law_n","_law_steps_to","_law_book_here","_law_floor","_law_most","_law_want","_law_crowd_here","_law_handed","_law_come","_law_other_book","_law_turn","_law_found"] ["_law_script"] (aB rN):=⟨rfl,rfl,rfl,by decide+kernel,rfl,by decide+kernel,by decide+kernel⟩
inductive GX (K:W.Frag) (vs:List V) (H:Hp) (Q:VK):Prop where
 | mk (a:Addr) (ns:List Int) (z0:vs=[.ref a]) (z1:SqL K H a (ns.map V.int)) (z2:ns.length<=63) (z3:∀ H',Q (.bl true) H'):GX K vs H Q
noncomputable def Fj (K:W.Frag):Sp:=fun vs H Q _=>GX K vs H Q
theorem Kz (F : Fun K "law" "law" rN f fd) (B : Bt mg)
    (D_law_scene_at : Df P w K mg base "_law_scene_at" 9 ["_law_script", "_law_start"] (nW K)) (D_law_step_by_step : Df P w K mg base "_law_step_by_step" 7 ["_law_book_here", "_law_floor", "_law_giving_here"] rK) (D_law_roof : Df P w K mg base "_law_roof" 1 ["_law_book_here", "_law_floor"] (pZ K))
    (D_law_crowds : Df P w K mg base "_law_crowds" 1 ["_law_n"] qO) (D_law_begun : Df P w K mg base "_law_begun" 9 ["_law_book_here", "_law_floor", "_law_most", "_law_crowd_here"] qZ) (D_begun : Df P w K mg base "begun" 14 ["book", "floor", "crowd"] wy) (D_begins : Df P w K mg base "begins" 15 ["book", "floor"] rm)
    (D_law_same : Df P w K mg base "_law_same" 3 ["_law_found", "_law_due"] (jx 3)) (D_law_above : Df P w K mg base "_law_above" 1 ["_law_one", "_law_other"] (rJ K)) (D_least : Df P w K mg base "least" 13 ["book", "floor"] (lE Cj)) (D_greatest : Df P w K mg base "greatest" 13 ["book", "floor"] (lE rfF)) : dz P w K mg base CX0 16 f fd ["_law_script"] (Fj K) := by
  refine F.ok eF (fun vs H Q E h => ?_) (fun cdv A outer s H vs Q E hr h => ?_)
  · obtain ⟨a, ns, rfl, _⟩ := h
    rfl
  · obtain ⟨a, ns0, rfl, hS, lN, q⟩ := h
    refine' ⟨_, ?hp, ?hz⟩
    case hp =>
     refine' au ?s1 ?r1
     case s1 =>
      exact (bj (i := 0) eF.nd rfl (Or.inl rfl) (jj (r := KZ K) wM (pv 0) nR (jC aq)))
     case r1 =>
      refine' au ?s2 ?r2
      case s2 =>
       refine' eE PassesOwn.never rfl ?it ?tg ?bd ?hs
       case hs => intro _; rfl
       case it => exact (gk (bM (aa aq (aa aq (aa aq (aa aq ao))))))
       case tg => exact (aD (i := 1) eF.nd rfl (Or.inl rfl))
       case bd =>
        refine' au ?s3 ?r3
        case s3 =>
         exact (Gs (bA D_law_scene_at hr (aa (pv 0) (aa (pv 1) ao))) (dF (K := K) 4 rfl rfl (bw (aD (i := 2) eF.nd rfl (Or.inl rfl)) (bw (aD (i := 3) eF.nd rfl (Or.inl rfl)) (bw (aD (i := 4) eF.nd rfl (Or.inl rfl)) (bw (aD (i := 5) eF.nd rfl (Or.inl rfl)) d8))))))
        case r3 =>
         refine' au ?s4 ?r4
         case s4 =>
          exact (bj (i := 6) eF.nd rfl (Or.inl rfl) (bA D_law_step_by_step hr (aa (pv 4) (aa (pv 5) (aa (bA D_law_roof hr (aa (pv 4) (aa (pv 5) ao))) ao)))))
         case r4 =>
          refine' au ?s5 ?r5
          case s5 =>
           exact (bj (i := 7) eF.nd rfl (Or.inl rfl) JH)
          case r5 =>
           refine' au ?s6 ?r6
           case s6 =>
            refine' eE PassesOwn.never rfl ?it ?tg ?bd ?hs
            case hs => intro _; rfl
            case it => exact (cX (bA D_law_crowds hr (aa (pv 2) ao)))
            case tg => exact (aD (i := 8) eF.nd rfl (Or.inl rfl))
            case bd =>
             refine' au ?s7 ?r7
             case s7 =>
              exact (bj (i := 9) eF.nd rfl (Or.inl rfl) (bI (r := rQ K) lG rfl B.list_ oJ (aa (pv 8) ao)))
             case r7 =>
              refine' au ?s8 ?r8
              case s8 =>
               exact (bj (i := 10) eF.nd rfl (Or.inl rfl) (bA D_law_begun hr (aa (pv 4) (aa (pv 5) (aa (pv 6) (aa (pv 8) ao))))))
              case r8 =>
               refine' au ?s9 ?r9
               case s9 =>
                exact (oE (L := ["_law_some"]) (F := []) (cap := []) (j := 11) eF.nd rfl (Or.inl rfl) rfl (bx rfl rfl (by kernel_rfl)) (cX (pv 4)) (fun _ _ _ _ _ => (aD (i := 0) (aZ (by decide +kernel)) rfl (Or.inl rfl))) (fun _ _ _ _ _ => bC) (fun _ _ _ _ _ => (bI (r := rQ K) lG rfl B.list_ oJ (aa (pv 0) ao))))
               case r9 =>
                refine' au ?s10 ?r10
                case s10 =>
                 exact (cA (PW.pt (Dj (tD (iR (bA D_law_same hr (aa (bA D_begun hr (aa (pv 11) (aa (pv 5) (aa (pv 9) ao)))) (aa (pv 10) ao))))) (Dj (aP (r := JQ K) (Hs hr.iV) (pv 9) (pv 8) (aR _)) (wU (aP (r := IW) (BP hr) (pv 11) (pv 4) (aR _)))))) (aC (aL mC)) aX)
                case r10 =>
                 refine' au ?s11 ?r11
                 case s11 =>
                  exact (cA (tD (iR (bA D_law_above hr (aa (pv 6) (aa (pv 10) ao))))) (aC (aL mC)) aX)
                 case r11 =>
                  refine' au ?s12 ?r12
                  case s12 =>
                   exact (cA (PW.pt (pK (aP (r := Mv K) (Kp hr.iV) (pv 8) (bV ao) (aR _)) (kW (tD (iR (bA D_law_above hr (aa (pv 10) (aa (bA D_begun hr (aa (pv 4) (aa (pv 5) (aa (jj (r := KZ K) wM (pv 8) (jC aq) nR) ao)))) ao)))))))) (aC (aL mC)) aX)
                  case r12 =>
                   refine' aC ?s13
                   case s13 =>
                    exact (cA (PW.pt (pK (Hl (Bb (pv 7))) (kW (aP (r := zp K) (nD hr.iV) (pv 10) (pv 6) (aR _))))) (aC (bj (i := 7) eF.nd rfl (Or.inl rfl) (pv 8))) aX)
           case r6 =>
            refine' aC ?s14
            case s14 =>
             refine' eE PassesOwn.never rfl ?it ?tg ?bd ?hs
             case hs => intro _; rfl
             case it => exact (bQ rfl B.range_ (aa aq ao))
             case tg => exact (aD (i := 12) eF.nd rfl (Or.inl rfl))
             case bd =>
              refine' au ?s15 ?r15
              case s15 =>
               exact (oE (L := ["_law_some"]) (F := []) (cap := []) (j := 11) eF.nd rfl (Or.inl rfl) rfl (bx rfl rfl (by kernel_rfl)) (cX (pv 4)) (fun _ _ _ _ _ => (aD (i := 0) (aZ (by decide +kernel)) rfl (Or.inl rfl))) (fun _ _ _ _ _ => bC) (fun _ _ _ _ _ => (bI (r := rQ K) lG rfl B.list_ oJ (aa (pv 0) ao))))
              case r15 =>
               refine' au ?s16 ?r16
               case s16 =>
                exact (bj (i := 13) eF.nd rfl (Or.inl rfl) (bA D_begins hr (aa (pv 11) (aa (pv 5) ao))))
               case r16 =>
                refine' au ?s17 ?r17
                case s17 =>
                 exact (cA (PW.pt (Dj (tD (iR (bA D_law_same hr (aa (pv 13) (aa (pv 7) ao))))) (wU (aP (r := IW) (BP hr) (pv 11) (pv 4) (aR _))))) (aC (aL mC)) aX)
                case r17 =>
                 refine' au ?s18 ?r18
                 case s18 =>
                  exact (cA (aP Ho (cO (r := Li K) (Gx hr.iV) (pv 13) (bV ao) (aR _)) (cO (r := zp K) (nD hr.iV) (bA D_least hr (aa (pv 4) (aa (pv 5) ao))) (bA D_greatest hr (aa (pv 4) (aa (pv 5) ao))) (aR _)) (aR _)) (aC (aL mC)) aX)
                 case r18 =>
                  refine' aC ?s19
                  case s19 =>
                   exact (iQ (sZ PySem.F.plainAttrs_list PySem.F.slot_list_append PySem.F.type_list_append cV (pv 13) (aa aq ao)))
      case r2 =>
       refine' aC ?s20
       case s20 =>
        exact (aL mC)
    case hz =>
    refine cG (fun σ H1 => ∃ (p1 : Addr) (ss : List Int), σ = [some (.ref p1), none, none, none, none, none, none, none, none, none, none, none, none, none] ∧ aN H H1 ∧ H1 p1 = some (.lst (ss.map V.int)) ∧ ss.length ≤ 63) ?q0 ?t0
    case t0 =>
      intro N Rc
      refine ⟨_, rfl, _, rfl, a, _, rfl, hS, fun p1 h1 => ?_⟩
      obtain ⟨ss, es, ls⟩ := yc ns0 none (some 63)
      rw [es]
      exact Rc _ _ ⟨p1, ss, rfl, aA h1 _, aj, by lia⟩
    case q0 =>
    rintro σ H1 ⟨p1, ss, rfl, g1, e1, ls⟩
    refine cG (fun σ Hz => True) ?qE ?tL
    case qE =>
      intro σ Hz _
      exact q Hz
    intro N Rc
    refine ⟨small (by show 4 ≤ 1000; decide), fun p2 h2 => ?_⟩
    generalize eH2 : upd H1 p2 _ = H2
    obtain ⟨g2, e2⟩ := aH eH2 h2
    refine ⟨p2, rfl, ⟨_, SqT.of e2⟩, rE (K := K) (a := p2) (xs := [.int 0, .int 9, .int 18, .int 27]) (fun i σ H3 => (∃ u1 u2 u3 u4 u5 u6 u7 u8 u9 u10 u11 u12 u13 : Option V, σ = [some (.ref p1), u1, u2, u3, u4, u5, u6, u7, u8, u9, u10, u11, u12, u13]) ∧ aN H2 H3) ⟨⟨_, _, _, _, _, _, _, _, _, _, _, _, _, rfl⟩, aN.refl _⟩
      (fun i σ H3 _ h => SqT.of (h.2 _ _ e2)) ?_ (fun σ H3 h => Rc _ _ trivial)⟩
    rintro i x σ H3 hx ⟨⟨u1, u2, u3, u4, u5, u6, u7, u8, u9, u10, u11, u12, u13, rfl⟩, s3⟩
    obtain ⟨st, rfl⟩ : ∃ st : Int, x = .int st := by
      match i, hx with
      | 0, hx => exact ⟨0, by cases hx; rfl⟩
      | 1, hx => exact ⟨9, by cases hx; rfl⟩
      | 2, hx => exact ⟨18, by cases hx; rfl⟩
      | 3, hx => exact ⟨27, by cases hx; rfl⟩
      | i + 4, hx => simp at hx
    have e13 := s3 _ _ (g2 _ _ e1)
    refine gN ?_
    refine cG (fun σ H4 => ∃ (n mo : Nat) (b f : Addr) (bk : List (List Pl)) (fl : List Int), σ = [some (.ref p1), some (.int st), some (.int (n : Int)), some (.int (mo : Int)), some (.ref b), some (.ref f), u6, u7, u8, u9, u10, u11, u12, u13] ∧ aN H3 H4 ∧ n ≤ 6 ∧ zm n H4 b f bk fl) ?q1 ?t1
    case t1 =>
      intro N' Rc'
      exact ⟨_, rfl, _, rfl, p1, ss, _, rfl, SqL.of e13, by lia, fun r n mo b f bk fl H4 s4 er m1 m9 hpow hmo scn om => ⟨r, _, rfl, SqT.of er, rfl, _, _, rfl, _, _, rfl, _, _, rfl, _, _, rfl, rfl, Rc' _ _ ⟨n, mo, b, f, bk, fl, rfl, s4, hpow.2, scn⟩⟩⟩
    case q1 =>
    rintro σ H4 ⟨n, mo, b, f, bk, fl, rfl, s4, n6, ⟨n1, n12, hB, lb, hf, lf, hfl⟩⟩
    have of : okG n fl := ⟨lf, hfl⟩
    have okb := hB.okB
    refine cG (fun σ H5 => ∃ (ma : Addr) (hi : List Int), σ = [some (.ref p1), some (.int st), some (.int (n : Int)), some (.int (mo : Int)), some (.ref b), some (.ref f), some (.ref ma), u7, u8, u9, u10, u11, u12, u13] ∧ aN H4 H5 ∧ H5 ma = some (.tup (hi.map V.int)) ∧ qR n fl bk hi) ?q2 ?t2
    case t2 =>
      intro N' Rc'
      refine ⟨_, rfl, _, rfl, _, rfl, _, rfl, b, f, n, bk, fl, rfl, hB, SqT.of hf, by lia, fun rr H5 s5 err => ?_⟩
      exact ⟨b, f, rr, n, bk, fl, rfF fl bk, false, rfl, hB.mono s5, lb, s5 _ _ hf, of, err, jW lb okb of, mO lb okb of _, fun ra z H6 s6 era lim => Rc' _ _ ⟨ra, z, rfl, s5.trans s6, era, v5 lb okb of lim⟩⟩
    case q2 =>
    rintro σ H5 ⟨ma, hi, rfl, s5, ema, hh⟩
    have oh := hh.1
    have lfh := fC lb okb of hh
    obtain ⟨xf, fx, _⟩ := lJ lb okb of hh n1 n6
    have xin := pC n6 xf (List.mem_of_find?_eq_some fx)
    have xl : xf.length ≤ 6 := by
      have := jl (m := 0) xin.2 fun k hk => ⟨Nat.zero_le _, xin.1 k hk⟩
      lia
    refine cG (fun σ H6 => σ = [some (.ref p1), some (.int st), some (.int (n : Int)), some (.int (mo : Int)), some (.ref b), some (.ref f), some (.ref ma), some .non, u8, u9, u10, u11, u12, u13] ∧ H6 = H5) ?q3 ?t3
    case t3 =>
      intro N' Rc'
      exact Rc' _ _ ⟨rfl, rfl⟩
    case q3 =>
    rintro σ H6 ⟨rfl, rfl⟩
    refine cG (fun σ H7 => ∃ (wa : Addr), (∃ v8 v9 v10 v11 : Option V, σ = [some (.ref p1), some (.int st), some (.int (n : Int)), some (.int (mo : Int)), some (.ref b), some (.ref f), some (.ref ma), some (.ref wa), v8, v9, v10, v11, u12, u13]) ∧ aN H6 H7 ∧ H7 wa = some (.lst (xf.map vN))) ?q4 ?t4
    case t4 =>
      intro N' Rc'
      refine ⟨_, rfl, n, rfl, n1, n6, fun cr uc H7 s7 ecr lcr => ?_⟩
      refine ⟨cr, rfl, ⟨_, SqL.of ecr⟩, mK (K := K) (a := cr) (xs := uc) (fun i σ Hx => (∃ (wv : V) (v8 v9 v10 v11 : Option V), σ = [some (.ref p1), some (.int st), some (.int (n : Int)), some (.int (mo : Int)), some (.ref b), some (.ref f), some (.ref ma), some wv, v8, v9, v10, v11, u12, u13] ∧ Ff Hx (((dH n).take i).find? (hit n bk fl hi)) wv) ∧ aN H7 Hx) ⟨⟨_, _, _, _, _, rfl, .inl ⟨by rw [List.take_zero]; rfl, rfl⟩⟩, aN.refl _⟩
        (fun i σ Hx _ h => SqL.of (h.2 _ _ ecr)) ?_ ?_⟩
      · rintro i x σ Hx hx ⟨⟨wv, v8, v9, v10, v11, rfl, hw⟩, sx⟩
        obtain ⟨ca, c, rfl, hc, hca, _⟩ := lcr.at hx
        obtain ⟨cin, cris⟩ := pC n6 c (List.mem_of_getElem? hc)
        have cl6 : c.length ≤ n := by
          have := jl (m := 0) cris fun k hk => ⟨Nat.zero_le _, cin k hk⟩
          lia
        have hcx := sx _ _ hca
        have s4x := s5.trans (s7.trans sx)
        have hmx := (s7.trans sx) _ _ ema
        have ob := j7 lb okb of hh c
        have oz := ob.1
        refine gN ?_
        refine cG (fun σ H8 => ∃ ha : Addr, σ = [some (.ref p1), some (.int st), some (.int (n : Int)), some (.int (mo : Int)), some (.ref b), some (.ref f), some (.ref ma), some wv, some (.ref ca), some (.ref ha), v10, v11, u12, u13] ∧ aN Hx H8 ∧ H8 ha = some (.lst (c.map vN))) ?q5 ?t5
        case t5 =>
          intro N' Rc'
          exact ⟨_, rfl, ca, _, rfl, .inl (SqL.of hcx), fun l hl => Rc' _ _ ⟨l, rfl, aA hl _, aj⟩⟩
        case q5 =>
        rintro σ H8 ⟨ha, rfl, s8, eha⟩
        have s48 := s4x.trans s8
        refine cG (fun σ H9 => ∃ co : Addr, σ = [some (.ref p1), some (.int st), some (.int (n : Int)), some (.int (mo : Int)), some (.ref b), some (.ref f), some (.ref ma), some wv, some (.ref ca), some (.ref ha), some (.ref co), v11, u12, u13] ∧ aN H8 H9 ∧ H9 co = some (.tup ((bg n bk fl hi c).map V.int))) ?q6 ?t6
        case t6 =>
          intro N' Rc'
          exact ⟨_, rfl, _, rfl, _, rfl, _, rfl, b, f, ma, ca, n, bk, fl, hi, c, rfl, hB.mono s48, lb, s48 _ _ hf, of, s8 _ _ hmx, oh, lfh, s8 _ _ hcx, fun r z H9 s9 er ez => Rc' _ _ ⟨r, rfl, s9, ez ▸ er⟩⟩
        case q6 =>
        rintro σ H9 ⟨co, rfl, s9, eco⟩
        have s49 := s48.trans s9
        obtain ⟨us, hb, rb, l12⟩ := hB.mono s49
        have lu := rb.length
        refine cG (fun σ Ha => ∃ (D : Addr) (zs : List V), σ = [some (.ref p1), some (.int st), some (.int (n : Int)), some (.int (mo : Int)), some (.ref b), some (.ref f), some (.ref ma), some wv, some (.ref ca), some (.ref ha), some (.ref co), some (.ref D), u12, u13] ∧ aN H9 Ha ∧ Ha D = some (.lst zs) ∧ zs.length = us.length ∧ Copied Ha zs us H9) ?q7 ?t7
        case t7 =>
          intro N' Rc'
          refine ⟨_, rfl, b, rfl, ⟨_, SqL.of hb⟩, fun D hD => cM (K := K) (a := b) (xs := us) (fun i zs σ' Hy => (∃ u, σ' = [u]) ∧ aN H9 Hy ∧ Hy D = some (.lst zs) ∧ zs.length = i ∧ (∀ u ∈ zs, u ≠ .ref D) ∧ Copied Hy zs us H9)
            ⟨⟨_, rfl⟩, aA hD _, aj, rfl, by simp, fun j u z => by simp at z⟩ (fun i zs σ' Hy _ h => ⟨SqL.of (h.2.1 _ _ hb), h.2.2.1⟩) ?_ ?_⟩
          · rintro i zs x σ' Hy hx ⟨⟨u, rfl⟩, sm, eD, lz, hne, cp⟩
            obtain ⟨cc, as, ps, rfl, _, hcc, l100, _⟩ := rb.get hx
            have hi := (List.getElem?_eq_some_iff.mp hx).1
            refine gT ?_
            refine ⟨_, rfl, cc, _, rfl, .inl (SqL.of (sm _ _ hcc)), fun l hl => ?_⟩
            have sn := aA hl (.lst (as.map V.ref))
            have hlD : l ≠ D := fun z => by rw [z, eD] at hl; cases hl
            refine ⟨sn _ _ eD, aG (by lia), ⟨_, rfl⟩, aK (sm.trans sn) hD _, aj, by rw [List.length_append, lz]; rfl, fun u hu => ?_, cp.step lz hx hcc hne hl hlD⟩
            rcases List.mem_append.mp hu with h | h
            · exact hne u h
            · rw [List.mem_singleton.mp h]
              exact fun z => hlD (by cases z; rfl)
          · rintro zs σ' H8 ⟨_, s8, eD, lz, hne, cp⟩
            exact Rc' _ _ ⟨D, zs, rfl, s8, eD, lz, cp⟩
        case q7 =>
        rintro σ Ha ⟨D, zs, rfl, sa, eD, lz, cp⟩
        have hBD : o7 n Ha D bk := ⟨zs, eD, pL sa rb lz cp, by lia⟩
        have s4a := s49.trans sa
        have s8a := s9.trans sa
        refine cG (fun σ Hb => σ = [some (.ref p1), some (.int st), some (.int (n : Int)), some (.int (mo : Int)), some (.ref b), some (.ref f), some (.ref ma), some wv, some (.ref ca), some (.ref ha), some (.ref co), some (.ref D), u12, u13] ∧ aN Ha Hb) ?q8 ?t8
        case t8 =>
          intro N' Rc'
          refine ⟨_, rfl, _, rfl, _, rfl, D, f, ha, n, bk, fl, c, rfl, hBD, lb, s4a _ _ hf, of, s8a _ _ eha, fun r y Hb sb er ey => ?_⟩
          have ey' := ey hi hh
          subst ey'
          refine ⟨_, rfl, .ref r, .ref co, .tup ((bg n bk fl hi c).map Dm.int), rfl, xH er (by rw [oz.1]; lia), xH ((sa.trans sb) _ _ eco) (by rw [oz.1]; lia), by rw [Ib]; decide, fun Hk sk => ⟨_, rfl, gU ?_⟩⟩
          have sak := sb.trans sk
          refine ⟨_, rfl, _, rfl, ha, ca, iN c, rfl, rfl, SqL.of (((s8a.trans sak) _ _ eha).trans (by rw [iB]; rfl)), SqL.of (((s8.trans (s8a.trans sak)) _ _ hcx).trans (by rw [iB]; rfl)), _, rfl, ?_⟩
          refine gU ⟨_, rfl, _, rfl, D, b, rfl, rfl, cp.twin lz sak (sa.trans sak) (sak _ _ eD) ((sa.trans sak) _ _ hb), _, rfl, gU ?_⟩
          exact Rc' _ _ ⟨rfl, sak⟩
        case q8 =>
        rintro σ Hb ⟨rfl, sb⟩
        have s9b := sa.trans sb
        have s8b := s9.trans s9b
        have sxb := s8.trans s8b
        have s4b := s4x.trans sxb
        refine cG (fun σ Hc => σ = [some (.ref p1), some (.int st), some (.int (n : Int)), some (.int (mo : Int)), some (.ref b), some (.ref f), some (.ref ma), some wv, some (.ref ca), some (.ref ha), some (.ref co), some (.ref D), u12, u13] ∧ aN Hb Hc) ?q9 ?t9
        case t9 =>
          intro N' Rc'
          refine ⟨_, rfl, _, rfl, ma, co, hi, bg n bk fl hi c, rfl, SqT.of (sxb _ _ hmx), SqT.of (s9b _ _ eco), by rw [oh.1, oz.1], by rw [oh.1]; lia, fun Hc sc => ?_⟩
          rw [(vJ (by rw [oh.1, oz.1])).mpr (FT lb okb of hh c)]
          exact ⟨_, rfl, gU (Rc' _ _ ⟨rfl, sc⟩)⟩
        case q9 =>
        rintro σ Hc ⟨rfl, sc⟩
        have sxc := sxb.trans sc
        have s4c := s4x.trans sxc
        refine cG (fun σ Hd => σ = [some (.ref p1), some (.int st), some (.int (n : Int)), some (.int (mo : Int)), some (.ref b), some (.ref f), some (.ref ma), some wv, some (.ref ca), some (.ref ha), some (.ref co), some (.ref D), u12, u13] ∧ aN Hc Hd) ?q10 ?t10
        case t10 =>
          intro N' Rc'
          refine ⟨_, rfl, small (by show 0 ≤ 1000; decide), fun p3 h3 => ?_⟩
          generalize eHd : upd Hc p3 _ = Hd
          obtain ⟨gd, ed⟩ := aH eHd h3
          refine ⟨ca, p3, _, rfl, rfl, SqL.of ((sxc.trans gd) _ _ hcx), SqL.of ed, _, rfl, ?_⟩
          cases hcc : c with
          | nil => exact gU (Rc' _ _ ⟨rfl, gd⟩)
          | cons c0 c1 =>
            refine jJ ⟨_, rfl, _, rfl, _, rfl, _, rfl, _, rfl, ca, _, rfl, SqL.of ((sxc.trans gd) _ _ hcx), fun p4 h4 => ?_⟩
            rw [Eo]
            generalize eHe : upd Hd p4 _ = He
            obtain ⟨ge, ee⟩ := aH eHe h4
            have s4e := s4c.trans (gd.trans ge)
            refine ⟨b, f, p4, n, bk, fl, c.drop 1, rfl, hB.mono s4e, lb, s4e _ _ hf, of, ee, fun r y Hf sf er ey => ?_⟩
            have ey' := ey hi hh
            subst ey'
            have oz2 := (j7 lb okb of hh (c.drop 1)).1
            have sce := gd.trans (ge.trans sf)
            refine ⟨co, r, bg n bk fl hi c, bg n bk fl hi (c.drop 1), rfl, SqT.of ((s9b.trans (sc.trans sce)) _ _ eco), SqT.of er, by rw [oz.1, oz2.1], by rw [oz.1]; lia, fun Hg sg => ?_⟩
            rw [(vJ (by rw [oz.1, oz2.1])).mpr (Dz lb okb of hh fun i hi => List.mem_of_mem_drop hi)]
            exact ⟨_, rfl, gU (Rc' _ _ ⟨rfl, sce.trans sg⟩)⟩
        case q10 =>
        rintro σ Hd ⟨rfl, sd⟩
        have sxd := sxc.trans sd
        have hwd := hw.mono sxd
        have sfd := sx.trans sxd
        have ft := BV (p := hit n bk fl hi) hc
        refine ⟨_, rfl, _, rfl, ?_⟩
        rcases hwd with ⟨o1, rfl⟩ | ⟨wa, xx, o1, rfl, ewa⟩
        · refine jJ ⟨_, rfl, _, rfl, co, ma, _, _, rfl, rfl, SqT.of ((s9b.trans (sc.trans sd)) _ _ eco), SqT.of (sxd _ _ hmx), _, rfl, ?_⟩
          rw [o1, Option.none_or] at ft
          by_cases e : bg n bk fl hi c = hi
          · rw [decide_eq_true e]
            rw [if_pos (show hit n bk fl hi c = true from decide_eq_true e)] at ft
            exact jJ ⟨_, rfl, ⟨_, _, _, _, _, rfl, .inr ⟨ca, c, ft, rfl, sxd _ _ hcx⟩⟩, sfd⟩
          · rw [decide_eq_false e]
            rw [if_neg (show ¬ hit n bk fl hi c = true by unfold hit; rw [decide_eq_false e]; exact Bool.false_ne_true)] at ft
            exact gU ⟨⟨_, _, _, _, _, rfl, .inl ⟨ft, rfl⟩⟩, sfd⟩
        · rw [o1, Option.some_or] at ft
          exact gU ⟨⟨_, _, _, _, _, rfl, .inr ⟨wa, xx, ft, rfl, ewa⟩⟩, sfd⟩
      · rintro σ Hx ⟨⟨wv, v8, v9, v10, v11, rfl, hw⟩, sx⟩
        rw [lcr.length, List.take_length, fx] at hw
        rcases hw with ⟨o1, _⟩ | ⟨wa, xx, o1, rfl, ewa⟩
        · cases o1
        · cases o1
          exact Rc' _ _ ⟨wa, ⟨_, _, _, _, rfl⟩, s7.trans sx, ewa⟩
    case q4 =>
    rintro σ H7 ⟨wa, ⟨v8, v9, v10, v11, rfl⟩, s7, ewa⟩
    have s47 := s5.trans s7
    refine ⟨_, rfl, by decide, by decide, eN (lo := 0) (n := 2) (fun j σ Hx => (∃ v8 v9 v10 v11 v12 v13 : Option V, σ = [some (.ref p1), some (.int st), some (.int (n : Int)), some (.int (mo : Int)), some (.ref b), some (.ref f), some (.ref ma), some (.ref wa), v8, v9, v10, v11, v12, v13]) ∧ aN H7 Hx) ⟨⟨_, _, _, _, _, _, rfl⟩, aN.refl _⟩ ?_ ?_⟩
    · rintro i σ Hx _ ⟨⟨v8, v9, v10, v11, v12, v13, rfl⟩, sx⟩
      refine gN ?_
      have s4x := s47.trans sx
      obtain ⟨us, hb, rb, l12⟩ := hB.mono s4x
      have lu := rb.length
      refine cG (fun σ Ha => ∃ (D : Addr) (zs : List V) (v12 : Option V), σ = [some (.ref p1), some (.int st), some (.int (n : Int)), some (.int (mo : Int)), some (.ref b), some (.ref f), some (.ref ma), some (.ref wa), v8, v9, v10, some (.ref D), v12, v13] ∧ aN Hx Ha ∧ Ha D = some (.lst zs) ∧ zs.length = us.length ∧ Copied Ha zs us Hx) ?q5 ?t5
      case t5 =>
        intro N' Rc'
        refine ⟨_, rfl, b, rfl, ⟨_, SqL.of hb⟩, fun D hD => cM (K := K) (a := b) (xs := us) (fun i zs σ' Hy => (∃ u, σ' = [u]) ∧ aN Hx Hy ∧ Hy D = some (.lst zs) ∧ zs.length = i ∧ (∀ u ∈ zs, u ≠ .ref D) ∧ Copied Hy zs us Hx)
          ⟨⟨_, rfl⟩, aA hD _, aj, rfl, by simp, fun j u z => by simp at z⟩ (fun i zs σ' Hy _ h => ⟨SqL.of (h.2.1 _ _ hb), h.2.2.1⟩) ?_ ?_⟩
        · rintro i zs x σ' Hy hx ⟨⟨u, rfl⟩, sm, eD, lz, hne, cp⟩
          obtain ⟨cc, as, ps, rfl, _, hcc, l100, _⟩ := rb.get hx
          have hi := (List.getElem?_eq_some_iff.mp hx).1
          refine gT ?_
          refine ⟨_, rfl, cc, _, rfl, .inl (SqL.of (sm _ _ hcc)), fun l hl => ?_⟩
          have sn := aA hl (.lst (as.map V.ref))
          have hlD : l ≠ D := fun z => by rw [z, eD] at hl; cases hl
          refine ⟨sn _ _ eD, aG (by lia), ⟨_, rfl⟩, aK (sm.trans sn) hD _, aj, by rw [List.length_append, lz]; rfl, fun u hu => ?_, cp.step lz hx hcc hne hl hlD⟩
          rcases List.mem_append.mp hu with h | h
          · exact hne u h
          · rw [List.mem_singleton.mp h]
            exact fun z => hlD (by cases z; rfl)
        · rintro zs σ' H8 ⟨_, s8, eD, lz, hne, cp⟩
          exact Rc' _ _ ⟨D, zs, _, rfl, s8, eD, lz, cp⟩
      case q5 =>
      rintro σ Ha ⟨D, zs, v12, rfl, sa, eD, lz, cp⟩
      have hBD : o7 n Ha D bk := ⟨zs, eD, pL sa rb lz cp, by lia⟩
      have s4a := s4x.trans sa
      refine cG (fun σ Hb => ∃ (fo : Addr), σ = [some (.ref p1), some (.int st), some (.int (n : Int)), some (.int (mo : Int)), some (.ref b), some (.ref f), some (.ref ma), some (.ref wa), v8, v9, v10, some (.ref D), v12, some (.ref fo)] ∧ aN Ha Hb ∧ Ha fo = none ∧ Hb fo = some (.lst (xf.map vN))) ?q6 ?t6
      case t6 =>
        intro N' Rc'
        refine ⟨_, rfl, _, rfl, D, f, n, bk, fl, rfl, hBD, lb, n1, n6, s4a _ _ hf, of, fun r x Hb sb fr er ex => ?_⟩
        have ex' := ex hi hh
        rw [fx] at ex'
        cases ex'
        exact Rc' _ _ ⟨r, rfl, sb, fr, er⟩
      case q6 =>
      rintro σ Hb ⟨fo, rfl, sb, ffo, efo⟩
      have fox : Hx fo = none := sa.free ffo
      refine cG (fun σ Hc => σ = [some (.ref p1), some (.int st), some (.int (n : Int)), some (.int (mo : Int)), some (.ref b), some (.ref f), some (.ref ma), some (.ref wa), v8, v9, v10, some (.ref D), v12, some (.ref fo)] ∧ aN Hb Hc) ?q7 ?t7
      case t7 =>
        intro N' Rc'
        refine ⟨_, rfl, _, rfl, .ref fo, .ref wa, .lst ((xf.map fun i : Nat => (i : Int)).map Dm.int), rfl, xP efo (by lia), xP ((sx.trans (sa.trans sb)) _ _ ewa) (by lia), by rw [DR]; decide, fun Hk sk => ⟨_, rfl, gU ?_⟩⟩
        have sak := sb.trans sk
        refine ⟨_, rfl, _, rfl, D, b, rfl, rfl, cp.twin lz sak (sa.trans sak) (sak _ _ eD) ((sa.trans sak) _ _ hb), _, rfl, gU ?_⟩
        exact Rc' _ _ ⟨rfl, sk⟩
      case q7 =>
      rintro σ Hc ⟨rfl, sc⟩
      have sxc := sa.trans (sb.trans sc)
      refine cG (fun σ Hd => σ = [some (.ref p1), some (.int st), some (.int (n : Int)), some (.int (mo : Int)), some (.ref b), some (.ref f), some (.ref ma), some (.ref wa), v8, v9, v10, some (.ref D), v12, some (.ref fo)] ∧ aN Hc Hd) ?q8 ?t8
      case t8 =>
        intro N' Rc'
        refine ⟨_, rfl, small (by show 0 ≤ 1000; decide), fun p3 h3 => ?_⟩
        generalize eHd : upd Hc p3 _ = Hd
        obtain ⟨gd, ed⟩ := aH eHd h3
        have s4d := s4x.trans (sxc.trans gd)
        refine ⟨fo, p3, _, rfl, rfl, SqL.of ((sc.trans gd) _ _ efo), SqL.of ed, _, rfl, _, rfl, b, f, n, bk, fl, rfl, hB.mono s4d, lb, s4d _ _ hf, of, fun m1 a1 He _ st1 se e8 => ?_⟩
        have low := eG lb okb of st1
        generalize itF (Fd fl bk) fl m1 = lo at *
        have s4e := s4d.trans se
        refine ⟨_, rfl, _, rfl, b, f, n, bk, fl, rfl, hB.mono s4e, lb, s4e _ _ hf, of, fun m2 a2 Hf _ st2 sf e9 => ?_⟩
        have hh2 := iH lb okb of st2
        generalize itF (Fd fl bk) (rfF fl bk) m2 = hi2 at *
        have ehi := hh2.uniq hh
        subst ehi
        refine ⟨a1, a2, _, _, rfl, rfl, SqT.of (sf _ _ e8), SqT.of e9, rfl, _, rfl, ?_⟩
        have fe := yK n1 n6 lb okb of hh low fx
        rw [show (List.map vN xf).isEmpty = decide (lo = hi2) by rw [List.isEmpty_map]; exact fe]
        rw [show decide (V.bl (decide (lo = hi2)) = V.bl (decide (lo = hi2))) = true from decide_eq_true rfl]
        exact gU (Rc' _ _ ⟨rfl, gd.trans (se.trans sf)⟩)
      case q8 =>
      rintro σ Hd ⟨rfl, sd⟩
      refine ⟨_, rfl, .inl ⟨rfl, _, SqL.of ((sc.trans sd) _ _ efo)⟩, fo, _, _, rfl, rfl, (sc.trans sd) _ _ efo, aG (by rw [List.length_map]; lia), ⟨_, _, _, _, _, _, rfl⟩, sx.trans (aK (sxc.trans sd) fox _)⟩
    · rintro σ Hx ⟨⟨v8, v9, v10, v11, v12, v13, rfl⟩, sx⟩
      exact ⟨⟨_, _, _, _, _, _, _, _, _, _, _, _, _, rfl⟩, s3.trans (s4.trans (s47.trans sx))⟩
theorem KR {α:Type}:∀ {us:List α},us.length=1->∃ x0,us=[x0]
 | [x0],_=>⟨x0,rfl⟩
theorem oU {α:Type}:∀ {us:List α},us.length=2->∃ x0 x1,us=[x0,x1]
 | [x0,x1],_=>⟨x0,x1,rfl⟩
theorem Jz {α:Type}:∀ {us:List α},us.length=3->∃ x0 x1 x2,us=[x0,x1,x2]
 | [x0,x1,x2],_=>⟨x0,x1,x2,rfl⟩
theorem KY {α:Type}:∀ {us:List α},us.length=4->∃ x0 x1 x2 x3,us=[x0,x1,x2,x3]
 | [x0,x1,x2,x3],_=>⟨x0,x1,x2,x3,rfl⟩
theorem Mr {α:Type}:∀ {us:List α},us.length=5->∃ x0 x1 x2 x3 x4,us=[x0,x1,x2,x3,x4]
 | [x0,x1,x2,x3,x4],_=>⟨x0,x1,x2,x3,x4,rfl⟩
theorem all_mk {l:W.OpenLaw} {w:World} {K:W.Frag} {h:Heap} {mg:Str->Option Value} {fa fq0 fq1 fq2 fq3 fq4 fq5 fq6 fq7 fq8 fq9 fq10 fq11 fq12 fq13 fq14 fq15 fq16 fq17 fq18 fq19 fq20 fq21 fq22 fq23 fq24 fq25 fq26 fq27 fq28 fq29 fq30 fq31 fq32 fq33 fq34 fq35 fq36 fq37 fq38:Addr} (X:K.In h) (G:h.Ns mainGlobals mg) (hfa:mg "law" = some (.ref fa))
  {odq0 anq0 odq1 anq1 odq2 anq2 odq3 anq3 odq4 anq4 odq5 anq5 odq6 anq6 odq7 anq7 odq8 anq8 odq9 anq9 odq10 anq10 odq11 anq11 odq12 anq12 odq13 anq13 odq14 anq14 odq15 anq15 odq16 anq16 odq17 anq17 odq18 anq18 odq19 anq19 odq20 anq20 odq21 anq21 odq22 anq22 odq23 anq23 odq24 anq24 odq25 anq25 odq26 anq26 odq27 anq27 odq28 anq28 odq29 anq29 odq30 anq30 odq31 anq31 odq32 anq32 odq33 anq33 odq34 anq34 odq35 anq35 odq36 anq36 odq37 anq37 odq38 anq38:Option Addr} {slq0 slq1 slq2 slq3 slq4 slq5 slq6 slq7 slq8 slq9 slq10 slq11 slq12 slq13 slq14 slq15 slq16 slq17 slq18 slq19 slq20 slq21 slq22 slq23 slq24 slq25 slq26 slq27 slq28 slq29 slq30 slq31 slq32 slq33 slq34 slq35 slq36 slq37 slq38:Array (Option Value)} {ocq0 kVq0 dcq0 pmq0 cdq0 ctq0 ocq1 kVq1 dcq1 pmq1 cdq1 ctq1 ocq2 kVq2 dcq2 pmq2 cdq2 ctq2 ocq3 kVq3 dcq3 pmq3 cdq3 ctq3 ocq4 kVq4 dcq4 pmq4 cdq4 ctq4 ocq5 kVq5 dcq5 pmq5 cdq5 ctq5 ocq6 kVq6 dcq6 pmq6 cdq6 ctq6 ocq7 kVq7 dcq7 pmq7 cdq7 ctq7 ocq8 kVq8 dcq8 pmq8 cdq8 ctq8 ocq9 kVq9 dcq9 pmq9 cdq9 ctq9 ocq10 kVq10 dcq10 pmq10 cdq10 ctq10 ocq11 kVq11 dcq11 pmq11 cdq11 ctq11 ocq12 kVq12 dcq12 pmq12 cdq12 ctq12 ocq13 kVq13 dcq13 pmq13 cdq13 ctq13 ocq14 kVq14 dcq14 pmq14 cdq14 ctq14 ocq15 kVq15 dcq15 pmq15 cdq15 ctq15 ocq16 kVq16 dcq16 pmq16 cdq16 ctq16 ocq17 kVq17 dcq17 pmq17 cdq17 ctq17 ocq18 kVq18 dcq18 pmq18 cdq18 ctq18 ocq19 kVq19 dcq19 pmq19 cdq19 ctq19 ocq20 kVq20 dcq20 pmq20 cdq20 ctq20 ocq21 kVq21 dcq21 pmq21 cdq21 ctq21 ocq22 kVq22 dcq22 pmq22 cdq22 ctq22 ocq23 kVq23 dcq23 pmq23 cdq23 ctq23 ocq24 kVq24 dcq24 pmq24 cdq24 ctq24 ocq25 kVq25 dcq25 pmq25 cdq25 ctq25 ocq26 kVq26 dcq26 pmq26 cdq26 ctq26 ocq27 kVq27 dcq27 pmq27 cdq27 ctq27 ocq28 kVq28 dcq28 pmq28 cdq28 ctq28 ocq29 kVq29 dcq29 pmq29 cdq29 ctq29 ocq30 kVq30 dcq30 pmq30 cdq30 ctq30 ocq31 kVq31 dcq31 pmq31 cdq31 ctq31 ocq32 kVq32 dcq32 pmq32 cdq32 ctq32 ocq33 kVq33 dcq33 pmq33 cdq33 ctq33 ocq34 kVq34 dcq34 pmq34 cdq34 ctq34 ocq35 kVq35 dcq35 pmq35 cdq35 ctq35 ocq36 kVq36 dcq36 pmq36 cdq36 ctq36 ocq37 kVq37 dcq37 pmq37 cdq37 ctq37 ocq38 kVq38 dcq38 pmq38 cdq38 ctq38:Value}
  (aq0:W.nsIn K mainGlobals "lifted" = some (some (.ref fq0)))
  (lq0:K.lookup fq0=some ⟨ocq0,odq0,.func (W.fnOf "lifted" "lifted" (aW ji) (aV ji) (aB ji) .none kVq0 dcq0 pmq0 anq0 cdq0 ctq0),slq0⟩)
  (cq0:W.codeIn K cdq0 "lifted" = true) (kq0:W.keepIn K (.ref fq0)=true)
  (aq1:W.nsIn K mainGlobals "all_hold" = some (some (.ref fq1)))
  (lq1:K.lookup fq1=some ⟨ocq1,odq1,.func (W.fnOf "all_hold" "all_hold" (aW fP) (aV fP) (aB fP) .none kVq1 dcq1 pmq1 anq1 cdq1 ctq1),slq1⟩)
  (cq1:W.codeIn K cdq1 "all_hold" = true) (kq1:W.keepIn K (.ref fq1)=true)
  (aq2:W.nsIn K mainGlobals "any_holds" = some (some (.ref fq2)))
  (lq2:K.lookup fq2=some ⟨ocq2,odq2,.func (W.fnOf "any_holds" "any_holds" (aW dG) (aV dG) (aB dG) .none kVq2 dcq2 pmq2 anq2 cdq2 ctq2),slq2⟩)
  (cq2:W.codeIn K cdq2 "any_holds" = true) (kq2:W.keepIn K (.ref fq2)=true)
  (aq3:W.nsIn K mainGlobals "holds" = some (some (.ref fq3)))
  (lq3:K.lookup fq3=some ⟨ocq3,odq3,.func (W.fnOf "holds" "holds" (aW kj) (aV kj) (aB kj) .none kVq3 dcq3 pmq3 anq3 cdq3 ctq3),slq3⟩)
  (cq3:W.codeIn K cdq3 "holds" = true) (kq3:W.keepIn K (.ref fq3)=true)
  (aq4:W.nsIn K mainGlobals "owes" = some (some (.ref fq4)))
  (lq4:K.lookup fq4=some ⟨ocq4,odq4,.func (W.fnOf "owes" "owes" (aW pH) (aV pH) (aB pH) .none kVq4 dcq4 pmq4 anq4 cdq4 ctq4),slq4⟩)
  (cq4:W.codeIn K cdq4 "owes" = true) (kq4:W.keepIn K (.ref fq4)=true)
  (aq5:W.nsIn K mainGlobals "last_step" = some (some (.ref fq5)))
  (lq5:K.lookup fq5=some ⟨ocq5,odq5,.func (W.fnOf "last_step" "last_step" (aW dY) (aV dY) (aB dY) .none kVq5 dcq5 pmq5 anq5 cdq5 ctq5),slq5⟩)
  (cq5:W.codeIn K cdq5 "last_step" = true) (kq5:W.keepIn K (.ref fq5)=true)
  (aq6:W.nsIn K mainGlobals "what_is_due" = some (some (.ref fq6)))
  (lq6:K.lookup fq6=some ⟨ocq6,odq6,.func (W.fnOf "what_is_due" "what_is_due" (aW cT) (aV cT) (aB cT) .none kVq6 dcq6 pmq6 anq6 cdq6 ctq6),slq6⟩)
  (cq6:W.codeIn K cdq6 "what_is_due" = true) (kq6:W.keepIn K (.ref fq6)=true)
  (aq7:W.nsIn K mainGlobals "roof" = some (some (.ref fq7)))
  (lq7:K.lookup fq7=some ⟨ocq7,odq7,.func (W.fnOf "roof" "roof" (aW pI) (aV pI) (aB pI) .none kVq7 dcq7 pmq7 anq7 cdq7 ctq7),slq7⟩)
  (cq7:W.codeIn K cdq7 "roof" = true) (kq7:W.keepIn K (.ref fq7)=true)
  (aq8:W.nsIn K mainGlobals "settled" = some (some (.ref fq8)))
  (lq8:K.lookup fq8=some ⟨ocq8,odq8,.func (W.fnOf "settled" "settled" (aW gW) (aV gW) (aB gW) .none kVq8 dcq8 pmq8 anq8 cdq8 ctq8),slq8⟩)
  (cq8:W.codeIn K cdq8 "settled" = true) (kq8:W.keepIn K (.ref fq8)=true)
  (aq9:W.nsIn K mainGlobals "rise" = some (some (.ref fq9)))
  (lq9:K.lookup fq9=some ⟨ocq9,odq9,.func (W.fnOf "rise" "rise" (aW pU) (aV pU) (aB pU) .none kVq9 dcq9 pmq9 anq9 cdq9 ctq9),slq9⟩)
  (cq9:W.codeIn K cdq9 "rise" = true) (kq9:W.keepIn K (.ref fq9)=true)
  (aq10:W.nsIn K mainGlobals "fall" = some (some (.ref fq10)))
  (lq10:K.lookup fq10=some ⟨ocq10,odq10,.func (W.fnOf "fall" "fall" (aW pM) (aV pM) (aB pM) .none kVq10 dcq10 pmq10 anq10 cdq10 ctq10),slq10⟩)
  (cq10:W.codeIn K cdq10 "fall" = true) (kq10:W.keepIn K (.ref fq10)=true)
  (aq11:W.nsIn K mainGlobals "least" = some (some (.ref fq11)))
  (lq11:K.lookup fq11=some ⟨ocq11,odq11,.func (W.fnOf "least" "least" (aW kJ) (aV kJ) (aB kJ) .none kVq11 dcq11 pmq11 anq11 cdq11 ctq11),slq11⟩)
  (cq11:W.codeIn K cdq11 "least" = true) (kq11:W.keepIn K (.ref fq11)=true)
  (aq12:W.nsIn K mainGlobals "greatest" = some (some (.ref fq12)))
  (lq12:K.lookup fq12=some ⟨ocq12,odq12,.func (W.fnOf "greatest" "greatest" (aW fH) (aV fH) (aB fH) .none kVq12 dcq12 pmq12 anq12 cdq12 ctq12),slq12⟩)
  (cq12:W.codeIn K cdq12 "greatest" = true) (kq12:W.keepIn K (.ref fq12)=true)
  (aq13:W.nsIn K mainGlobals "begun" = some (some (.ref fq13)))
  (lq13:K.lookup fq13=some ⟨ocq13,odq13,.func (W.fnOf "begun" "begun" (aW kO) (aV kO) (aB kO) .none kVq13 dcq13 pmq13 anq13 cdq13 ctq13),slq13⟩)
  (cq13:W.codeIn K cdq13 "begun" = true) (kq13:W.keepIn K (.ref fq13)=true)
  (aq14:W.nsIn K mainGlobals "with_one_more" = some (some (.ref fq14)))
  (lq14:K.lookup fq14=some ⟨ocq14,odq14,.func (W.fnOf "with_one_more" "with_one_more" (aW cH) (aV cH) (aB cH) .none kVq14 dcq14 pmq14 anq14 cdq14 ctq14),slq14⟩)
  (cq14:W.codeIn K cdq14 "with_one_more" = true) (kq14:W.keepIn K (.ref fq14)=true)
  (aq15:W.nsIn K mainGlobals "begins" = some (some (.ref fq15)))
  (lq15:K.lookup fq15=some ⟨ocq15,odq15,.func (W.fnOf "begins" "begins" (aW jr) (aV jr) (aB jr) .none kVq15 dcq15 pmq15 anq15 cdq15 ctq15),slq15⟩)
  (cq15:W.codeIn K cdq15 "begins" = true) (kq15:W.keepIn K (.ref fq15)=true)
  (aq16:W.nsIn K mainGlobals "_law_cell" = some (some (.ref fq16)))
  (lq16:K.lookup fq16=some ⟨ocq16,odq16,.func (W.fnOf "_law_cell" "_law_cell" (aW fO) (aV fO) (aB fO) .none kVq16 dcq16 pmq16 anq16 cdq16 ctq16),slq16⟩)
  (cq16:W.codeIn K cdq16 "_law_cell" = true) (kq16:W.keepIn K (.ref fq16)=true)
  (aq17:W.nsIn K mainGlobals "_law_draws" = some (some (.ref fq17)))
  (lq17:K.lookup fq17=some ⟨ocq17,odq17,.func (W.fnOf "_law_draws" "_law_draws" (aW dU) (aV dU) (aB dU) .none kVq17 dcq17 pmq17 anq17 cdq17 ctq17),slq17⟩)
  (cq17:W.codeIn K cdq17 "_law_draws" = true) (kq17:W.keepIn K (.ref fq17)=true)
  (aq18:W.nsIn K mainGlobals "_law_same" = some (some (.ref fq18)))
  (lq18:K.lookup fq18=some ⟨ocq18,odq18,.func (W.fnOf "_law_same" "_law_same" (aW fJ) (aV fJ) (aB fJ) .none kVq18 dcq18 pmq18 anq18 cdq18 ctq18),slq18⟩)
  (cq18:W.codeIn K cdq18 "_law_same" = true) (kq18:W.keepIn K (.ref fq18)=true)
  (aq19:W.nsIn K mainGlobals "_law_under" = some (some (.ref fq19)))
  (lq19:K.lookup fq19=some ⟨ocq19,odq19,.func (W.fnOf "_law_under" "_law_under" (aW dW) (aV dW) (aB dW) .none kVq19 dcq19 pmq19 anq19 cdq19 ctq19),slq19⟩)
  (cq19:W.codeIn K cdq19 "_law_under" = true) (kq19:W.keepIn K (.ref fq19)=true)
  (aq20:W.nsIn K mainGlobals "_law_crowd" = some (some (.ref fq20)))
  (lq20:K.lookup fq20=some ⟨ocq20,odq20,.func (W.fnOf "_law_crowd" "_law_crowd" (aW dR) (aV dR) (aB dR) .none kVq20 dcq20 pmq20 anq20 cdq20 ctq20),slq20⟩)
  (cq20:W.codeIn K cdq20 "_law_crowd" = true) (kq20:W.keepIn K (.ref fq20)=true)
  (aq21:W.nsIn K mainGlobals "_law_term" = some (some (.ref fq21)))
  (lq21:K.lookup fq21=some ⟨ocq21,odq21,.func (W.fnOf "_law_term" "_law_term" (aW fD) (aV fD) (aB fD) .none kVq21 dcq21 pmq21 anq21 cdq21 ctq21),slq21⟩)
  (cq21:W.codeIn K cdq21 "_law_term" = true) (kq21:W.keepIn K (.ref fq21)=true)
  (aq22:W.nsIn K mainGlobals "_law_renamed" = some (some (.ref fq22)))
  (lq22:K.lookup fq22=some ⟨ocq22,odq22,.func (W.fnOf "_law_renamed" "_law_renamed" (aW cR) (aV cR) (aB cR) .none kVq22 dcq22 pmq22 anq22 cdq22 ctq22),slq22⟩)
  (cq22:W.codeIn K cdq22 "_law_renamed" = true) (kq22:W.keepIn K (.ref fq22)=true)
  (aq23:W.nsIn K mainGlobals "_law_mine" = some (some (.ref fq23)))
  (lq23:K.lookup fq23=some ⟨ocq23,odq23,.func (W.fnOf "_law_mine" "_law_mine" (aW fK) (aV fK) (aB fK) .none kVq23 dcq23 pmq23 anq23 cdq23 ctq23),slq23⟩)
  (cq23:W.codeIn K cdq23 "_law_mine" = true) (kq23:W.keepIn K (.ref fq23)=true)
  (aq24:W.nsIn K mainGlobals "_law_pledge" = some (some (.ref fq24)))
  (lq24:K.lookup fq24=some ⟨ocq24,odq24,.func (W.fnOf "_law_pledge" "_law_pledge" (aW dg) (aV dg) (aB dg) .none kVq24 dcq24 pmq24 anq24 cdq24 ctq24),slq24⟩)
  (cq24:W.codeIn K cdq24 "_law_pledge" = true) (kq24:W.keepIn K (.ref fq24)=true)
  (aq25:W.nsIn K mainGlobals "_law_book" = some (some (.ref fq25)))
  (lq25:K.lookup fq25=some ⟨ocq25,odq25,.func (W.fnOf "_law_book" "_law_book" (aW fB) (aV fB) (aB fB) .none kVq25 dcq25 pmq25 anq25 cdq25 ctq25),slq25⟩)
  (cq25:W.codeIn K cdq25 "_law_book" = true) (kq25:W.keepIn K (.ref fq25)=true)
  (aq26:W.nsIn K mainGlobals "_law_giving" = some (some (.ref fq26)))
  (lq26:K.lookup fq26=some ⟨ocq26,odq26,.func (W.fnOf "_law_giving" "_law_giving" (aW c7) (aV c7) (aB c7) .none kVq26 dcq26 pmq26 anq26 cdq26 ctq26),slq26⟩)
  (cq26:W.codeIn K cdq26 "_law_giving" = true) (kq26:W.keepIn K (.ref fq26)=true)
  (aq27:W.nsIn K mainGlobals "_law_scene" = some (some (.ref fq27)))
  (lq27:K.lookup fq27=some ⟨ocq27,odq27,.func (W.fnOf "_law_scene" "_law_scene" (aW dM) (aV dM) (aB dM) .none kVq27 dcq27 pmq27 anq27 cdq27 ctq27),slq27⟩)
  (cq27:W.codeIn K cdq27 "_law_scene" = true) (kq27:W.keepIn K (.ref fq27)=true)
  (aq28:W.nsIn K mainGlobals "_law_scene_at" = some (some (.ref fq28)))
  (lq28:K.lookup fq28=some ⟨ocq28,odq28,.func (W.fnOf "_law_scene_at" "_law_scene_at" (aW cN) (aV cN) (aB cN) .none kVq28 dcq28 pmq28 anq28 cdq28 ctq28),slq28⟩)
  (cq28:W.codeIn K cdq28 "_law_scene_at" = true) (kq28:W.keepIn K (.ref fq28)=true)
  (aq29:W.nsIn K mainGlobals "_law_crowds" = some (some (.ref fq29)))
  (lq29:K.lookup fq29=some ⟨ocq29,odq29,.func (W.fnOf "_law_crowds" "_law_crowds" (aW dq) (aV dq) (aB dq) .none kVq29 dcq29 pmq29 anq29 cdq29 ctq29),slq29⟩)
  (cq29:W.codeIn K cdq29 "_law_crowds" = true) (kq29:W.keepIn K (.ref fq29)=true)
  (aq30:W.nsIn K mainGlobals "_law_holds" = some (some (.ref fq30)))
  (lq30:K.lookup fq30=some ⟨ocq30,odq30,.func (W.fnOf "_law_holds" "_law_holds" (aW dZ) (aV dZ) (aB dZ) .none kVq30 dcq30 pmq30 anq30 cdq30 ctq30),slq30⟩)
  (cq30:W.codeIn K cdq30 "_law_holds" = true) (kq30:W.keepIn K (.ref fq30)=true)
  (aq31:W.nsIn K mainGlobals "_law_owes" = some (some (.ref fq31)))
  (lq31:K.lookup fq31=some ⟨ocq31,odq31,.func (W.fnOf "_law_owes" "_law_owes" (aW fL) (aV fL) (aB fL) .none kVq31 dcq31 pmq31 anq31 cdq31 ctq31),slq31⟩)
  (cq31:W.codeIn K cdq31 "_law_owes" = true) (kq31:W.keepIn K (.ref fq31)=true)
  (aq32:W.nsIn K mainGlobals "_law_owed" = some (some (.ref fq32)))
  (lq32:K.lookup fq32=some ⟨ocq32,odq32,.func (W.fnOf "_law_owed" "_law_owed" (aW fM) (aV fM) (aB fM) .none kVq32 dcq32 pmq32 anq32 cdq32 ctq32),slq32⟩)
  (cq32:W.codeIn K cdq32 "_law_owed" = true) (kq32:W.keepIn K (.ref fq32)=true)
  (aq33:W.nsIn K mainGlobals "_law_step_by_step" = some (some (.ref fq33)))
  (lq33:K.lookup fq33=some ⟨ocq33,odq33,.func (W.fnOf "_law_step_by_step" "_law_step_by_step" (aW bL) (aV bL) (aB bL) .none kVq33 dcq33 pmq33 anq33 cdq33 ctq33),slq33⟩)
  (cq33:W.codeIn K cdq33 "_law_step_by_step" = true) (kq33:W.keepIn K (.ref fq33)=true)
  (aq34:W.nsIn K mainGlobals "_law_least" = some (some (.ref fq34)))
  (lq34:K.lookup fq34=some ⟨ocq34,odq34,.func (W.fnOf "_law_least" "_law_least" (aW dJ) (aV dJ) (aB dJ) .none kVq34 dcq34 pmq34 anq34 cdq34 ctq34),slq34⟩)
  (cq34:W.codeIn K cdq34 "_law_least" = true) (kq34:W.keepIn K (.ref fq34)=true)
  (aq35:W.nsIn K mainGlobals "_law_roof" = some (some (.ref fq35)))
  (lq35:K.lookup fq35=some ⟨ocq35,odq35,.func (W.fnOf "_law_roof" "_law_roof" (aW fG) (aV fG) (aB fG) .none kVq35 dcq35 pmq35 anq35 cdq35 ctq35),slq35⟩)
  (cq35:W.codeIn K cdq35 "_law_roof" = true) (kq35:W.keepIn K (.ref fq35)=true)
  (aq36:W.nsIn K mainGlobals "_law_above" = some (some (.ref fq36)))
  (lq36:K.lookup fq36=some ⟨ocq36,odq36,.func (W.fnOf "_law_above" "_law_above" (aW dI) (aV dI) (aB dI) .none kVq36 dcq36 pmq36 anq36 cdq36 ctq36),slq36⟩)
  (cq36:W.codeIn K cdq36 "_law_above" = true) (kq36:W.keepIn K (.ref fq36)=true)
  (aq37:W.nsIn K mainGlobals "_law_begun" = some (some (.ref fq37)))
  (lq37:K.lookup fq37=some ⟨ocq37,odq37,.func (W.fnOf "_law_begun" "_law_begun" (aW d7) (aV d7) (aB d7) .none kVq37 dcq37 pmq37 anq37 cdq37 ctq37),slq37⟩)
  (cq37:W.codeIn K cdq37 "_law_begun" = true) (kq37:W.keepIn K (.ref fq37)=true)
  (aq38:W.nsIn K mainGlobals "law" = some (some (.ref fq38)))
  (lq38:K.lookup fq38=some ⟨ocq38,odq38,.func (W.fnOf "law" "law" (aW rN) (aV rN) (aB rN) .none kVq38 dcq38 pmq38 anq38 cdq38 ctq38),slq38⟩)
  (cq38:W.codeIn K cdq38 "law" = true) (kq38:W.keepIn K (.ref fq38)=true)
  (z_len:W.nsIn K mainGlobals "len" = some none)
  (z_range:W.nsIn K mainGlobals "range" = some none)
  (z_all:W.nsIn K mainGlobals "all" = some none)
  (z_isinstance:W.nsIn K mainGlobals "isinstance" = some none)
  (z_int:W.nsIn K mainGlobals "int" = some none)
  (z_bool:W.nsIn K mainGlobals "bool" = some none)
  (z_str:W.nsIn K mainGlobals "str" = some none)
  (z_list:W.nsIn K mainGlobals "list" = some none)
  (z_tuple:W.nsIn K mainGlobals "tuple" = some none)
  (z_abs:W.nsIn K mainGlobals "abs" = some none)
  (z_max:W.nsIn K mainGlobals "max" = some none)
  (z_min:W.nsIn K mainGlobals "min" = some none)
  (z_sum:W.nsIn K mainGlobals "sum" = some none)
  (z_sorted:W.nsIn K mainGlobals "sorted" = some none)
  (z_zip:W.nsIn K mainGlobals "zip" = some none)
  (z_reversed:W.nsIn K mainGlobals "reversed" = some none)
  (z_divmod:W.nsIn K mainGlobals "divmod" = some none)
  (z_set:W.nsIn K mainGlobals "set" = some none)
  (z_any:W.nsIn K mainGlobals "any" = some none)
  (z_enumerate:W.nsIn K mainGlobals "enumerate" = some none)
  : ∃ fd:FuncData,(∀ (s:Shared) (v:Value),BindsTo s fd ⟨[v],[]⟩ [("_law_script",v)])/\∀ base:Heap,K.In base->base.Ns mainGlobals mg->dz l.prog w K mg base CX0 16 fa fd ["_law_script"] (Fj K):=by
 have e:=hfa.symm.trans (W.mg_of X G aq38)
 cases e
 have B:Bt mg:=⟨W.mg_none_of X G z_len,W.mg_none_of X G z_range,W.mg_none_of X G z_all,W.mg_none_of X G z_isinstance,W.mg_none_of X G z_int,W.mg_none_of X G z_bool,W.mg_none_of X G z_str,W.mg_none_of X G z_list,W.mg_none_of X G z_tuple,W.mg_none_of X G z_abs,W.mg_none_of X G z_max,W.mg_none_of X G z_min,W.mg_none_of X G z_sum,W.mg_none_of X G z_sorted,W.mg_none_of X G z_zip,W.mg_none_of X G z_reversed,W.mg_none_of X G z_divmod,W.mg_none_of X G z_set,W.mg_none_of X G z_any,W.mg_none_of X G z_enumerate⟩
 have Fq0:=bD (st:=ji) lq0 cq0 kq0
 have bq0:=Fq0.binds (ps:=["giving","high","crowd"]) fun _ _ _ _ _ _ us hl=>by obtain⟨x0,x1,x2,rfl⟩:=Jz hl; rfl
 have mq0:=W.mg_of X G aq0
 have Fq1:=bD (st:=fP) lq1 cq1 kq1
 have bq1:=Fq1.binds (ps:=["parts","giving"]) fun _ _ _ _ _ _ us hl=>by obtain⟨x0,x1,rfl⟩:=oU hl; rfl
 have mq1:=W.mg_of X G aq1
 have Fq2:=bD (st:=dG) lq2 cq2 kq2
 have bq2:=Fq2.binds (ps:=["parts","giving"]) fun _ _ _ _ _ _ us hl=>by obtain⟨x0,x1,rfl⟩:=oU hl; rfl
 have mq2:=W.mg_of X G aq2
 have Fq3:=bD (st:=kj) lq3 cq3 kq3
 have bq3:=Fq3.binds (ps:=["term","giving"]) fun _ _ _ _ _ _ us hl=>by obtain⟨x0,x1,rfl⟩:=oU hl; rfl
 have mq3:=W.mg_of X G aq3
 have Fq4:=bD (st:=pH) lq4 cq4 kq4
 have bq4:=Fq4.binds (ps:=["pledge","giving"]) fun _ _ _ _ _ _ us hl=>by obtain⟨x0,x1,rfl⟩:=oU hl; rfl
 have mq4:=W.mg_of X G aq4
 have Fq5:=bD (st:=dY) lq5 cq5 kq5
 have bq5:=Fq5.binds (ps:=["pledge"]) fun _ _ _ _ _ _ us hl=>by obtain⟨x0,rfl⟩:=KR hl; rfl
 have mq5:=W.mg_of X G aq5
 have Fq6:=bD (st:=cT) lq6 cq6 kq6
 have bq6:=Fq6.binds (ps:=["book","floor","giving"]) fun _ _ _ _ _ _ us hl=>by obtain⟨x0,x1,x2,rfl⟩:=Jz hl; rfl
 have mq6:=W.mg_of X G aq6
 have Fq7:=bD (st:=pI) lq7 cq7 kq7
 have bq7:=Fq7.binds (ps:=["book","floor"]) fun _ _ _ _ _ _ us hl=>by obtain⟨x0,x1,rfl⟩:=oU hl; rfl
 have mq7:=W.mg_of X G aq7
 have Fq8:=bD (st:=gW) lq8 cq8 kq8
 have bq8:=Fq8.binds (ps:=["book","floor","giving"]) fun _ _ _ _ _ _ us hl=>by obtain⟨x0,x1,x2,rfl⟩:=Jz hl; rfl
 have mq8:=W.mg_of X G aq8
 have Fq9:=bD (st:=pU) lq9 cq9 kq9
 have bq9:=Fq9.binds (ps:=["book","floor"]) fun _ _ _ _ _ _ us hl=>by obtain⟨x0,x1,rfl⟩:=oU hl; rfl
 have mq9:=W.mg_of X G aq9
 have Fq10:=bD (st:=pM) lq10 cq10 kq10
 have bq10:=Fq10.binds (ps:=["book","floor"]) fun _ _ _ _ _ _ us hl=>by obtain⟨x0,x1,rfl⟩:=oU hl; rfl
 have mq10:=W.mg_of X G aq10
 have Fq11:=bD (st:=kJ) lq11 cq11 kq11
 have bq11:=Fq11.binds (ps:=["book","floor"]) fun _ _ _ _ _ _ us hl=>by obtain⟨x0,x1,rfl⟩:=oU hl; rfl
 have mq11:=W.mg_of X G aq11
 have Fq12:=bD (st:=fH) lq12 cq12 kq12
 have bq12:=Fq12.binds (ps:=["book","floor"]) fun _ _ _ _ _ _ us hl=>by obtain⟨x0,x1,rfl⟩:=oU hl; rfl
 have mq12:=W.mg_of X G aq12
 have Fq13:=bD (st:=kO) lq13 cq13 kq13
 have bq13:=Fq13.binds (ps:=["book","floor","crowd"]) fun _ _ _ _ _ _ us hl=>by obtain⟨x0,x1,x2,rfl⟩:=Jz hl; rfl
 have mq13:=W.mg_of X G aq13
 have Fq14:=bD (st:=cH) lq14 cq14 kq14
 have bq14:=Fq14.binds (ps:=["book","whole","crowd","giving"]) fun _ _ _ _ _ _ us hl=>by obtain⟨x0,x1,x2,x3,rfl⟩:=KY hl; rfl
 have mq14:=W.mg_of X G aq14
 have Fq15:=bD (st:=jr) lq15 cq15 kq15
 have bq15:=Fq15.binds (ps:=["book","floor"]) fun _ _ _ _ _ _ us hl=>by obtain⟨x0,x1,rfl⟩:=oU hl; rfl
 have mq15:=W.mg_of X G aq15
 have Fq16:=bD (st:=fO) lq16 cq16 kq16
 have bq16:=Fq16.binds (ps:=["_law_script","_law_k"]) fun _ _ _ _ _ _ us hl=>by obtain⟨x0,x1,rfl⟩:=oU hl; rfl
 have mq16:=W.mg_of X G aq16
 have Fq17:=bD (st:=dU) lq17 cq17 kq17
 have bq17:=Fq17.binds (ps:=["_law_cell_here","_law_parts"]) fun _ _ _ _ _ _ us hl=>by obtain⟨x0,x1,rfl⟩:=oU hl; rfl
 have mq17:=W.mg_of X G aq17
 have Fq18:=bD (st:=fJ) lq18 cq18 kq18
 have bq18:=Fq18.binds (ps:=["_law_found","_law_due"]) fun _ _ _ _ _ _ us hl=>by obtain⟨x0,x1,rfl⟩:=oU hl; rfl
 have mq18:=W.mg_of X G aq18
 have Fq19:=bD (st:=dW) lq19 cq19 kq19
 have bq19:=Fq19.binds (ps:=["_law_cell_here","_law_k"]) fun _ _ _ _ _ _ us hl=>by obtain⟨x0,x1,rfl⟩:=oU hl; rfl
 have mq19:=W.mg_of X G aq19
 have Fq20:=bD (st:=dR) lq20 cq20 kq20
 have bq20:=Fq20.binds (ps:=["_law_number","_law_n"]) fun _ _ _ _ _ _ us hl=>by obtain⟨x0,x1,rfl⟩:=oU hl; rfl
 have mq20:=W.mg_of X G aq20
 have Fq21:=bD (st:=fD) lq21 cq21 kq21
 have bq21:=Fq21.binds (ps:=["_law_cell_here","_law_n","_law_deep","_law_most"]) fun _ _ _ _ _ _ us hl=>by obtain⟨x0,x1,x2,x3,rfl⟩:=KY hl; rfl
 have mq21:=W.mg_of X G aq21
 have Fq22:=bD (st:=cR) lq22 cq22 kq22
 have bq22:=Fq22.binds (ps:=["_law_term_here","_law_row"]) fun _ _ _ _ _ _ us hl=>by obtain⟨x0,x1,rfl⟩:=oU hl; rfl
 have mq22:=W.mg_of X G aq22
 have Fq23:=bD (st:=fK) lq23 cq23 kq23
 have bq23:=Fq23.binds (ps:=["_law_cell_here","_law_n","_law_one","_law_deep","_law_most"]) fun _ _ _ _ _ _ us hl=>by obtain⟨x0,x1,x2,x3,x4,rfl⟩:=Mr hl; rfl
 have mq23:=W.mg_of X G aq23
 have Fq24:=bD (st:=dg) lq24 cq24 kq24
 have bq24:=Fq24.binds (ps:=["_law_cell_here","_law_n","_law_one","_law_deep","_law_most"]) fun _ _ _ _ _ _ us hl=>by obtain⟨x0,x1,x2,x3,x4,rfl⟩:=Mr hl; rfl
 have mq24:=W.mg_of X G aq24
 have Fq25:=bD (st:=fB) lq25 cq25 kq25
 have bq25:=Fq25.binds (ps:=["_law_script","_law_start","_law_n","_law_most"]) fun _ _ _ _ _ _ us hl=>by obtain⟨x0,x1,x2,x3,rfl⟩:=KY hl; rfl
 have mq25:=W.mg_of X G aq25
 have Fq26:=bD (st:=c7) lq26 cq26 kq26
 have bq26:=Fq26.binds (ps:=["_law_cell_here","_law_n","_law_most"]) fun _ _ _ _ _ _ us hl=>by obtain⟨x0,x1,x2,rfl⟩:=Jz hl; rfl
 have mq26:=W.mg_of X G aq26
 have Fq27:=bD (st:=dM) lq27 cq27 kq27
 have bq27:=Fq27.binds (ps:=["_law_script"]) fun _ _ _ _ _ _ us hl=>by obtain⟨x0,rfl⟩:=KR hl; rfl
 have mq27:=W.mg_of X G aq27
 have Fq28:=bD (st:=cN) lq28 cq28 kq28
 have bq28:=Fq28.binds (ps:=["_law_script","_law_start"]) fun _ _ _ _ _ _ us hl=>by obtain⟨x0,x1,rfl⟩:=oU hl; rfl
 have mq28:=W.mg_of X G aq28
 have Fq29:=bD (st:=dq) lq29 cq29 kq29
 have bq29:=Fq29.binds (ps:=["_law_n"]) fun _ _ _ _ _ _ us hl=>by obtain⟨x0,rfl⟩:=KR hl; rfl
 have mq29:=W.mg_of X G aq29
 have Fq30:=bD (st:=dZ) lq30 cq30 kq30
 have bq30:=Fq30.binds (ps:=["_law_term_here","_law_giving_here"]) fun _ _ _ _ _ _ us hl=>by obtain⟨x0,x1,rfl⟩:=oU hl; rfl
 have mq30:=W.mg_of X G aq30
 have Fq31:=bD (st:=fL) lq31 cq31 kq31
 have bq31:=Fq31.binds (ps:=["_law_pledge_here","_law_giving_here"]) fun _ _ _ _ _ _ us hl=>by obtain⟨x0,x1,rfl⟩:=oU hl; rfl
 have mq31:=W.mg_of X G aq31
 have Fq32:=bD (st:=fM) lq32 cq32 kq32
 have bq32:=Fq32.binds (ps:=["_law_some","_law_giving_here"]) fun _ _ _ _ _ _ us hl=>by obtain⟨x0,x1,rfl⟩:=oU hl; rfl
 have mq32:=W.mg_of X G aq32
 have Fq33:=bD (st:=bL) lq33 cq33 kq33
 have bq33:=Fq33.binds (ps:=["_law_book_here","_law_floor","_law_giving_here"]) fun _ _ _ _ _ _ us hl=>by obtain⟨x0,x1,x2,rfl⟩:=Jz hl; rfl
 have mq33:=W.mg_of X G aq33
 have Fq34:=bD (st:=dJ) lq34 cq34 kq34
 have bq34:=Fq34.binds (ps:=["_law_book_here","_law_floor"]) fun _ _ _ _ _ _ us hl=>by obtain⟨x0,x1,rfl⟩:=oU hl; rfl
 have mq34:=W.mg_of X G aq34
 have Fq35:=bD (st:=fG) lq35 cq35 kq35
 have bq35:=Fq35.binds (ps:=["_law_book_here","_law_floor"]) fun _ _ _ _ _ _ us hl=>by obtain⟨x0,x1,rfl⟩:=oU hl; rfl
 have mq35:=W.mg_of X G aq35
 have Fq36:=bD (st:=dI) lq36 cq36 kq36
 have bq36:=Fq36.binds (ps:=["_law_one","_law_other"]) fun _ _ _ _ _ _ us hl=>by obtain⟨x0,x1,rfl⟩:=oU hl; rfl
 have mq36:=W.mg_of X G aq36
 have Fq37:=bD (st:=d7) lq37 cq37 kq37
 have bq37:=Fq37.binds (ps:=["_law_book_here","_law_floor","_law_most","_law_crowd_here"]) fun _ _ _ _ _ _ us hl=>by obtain⟨x0,x1,x2,x3,rfl⟩:=KY hl; rfl
 have mq37:=W.mg_of X G aq37
 have Fq38:=bD (st:=rN) lq38 cq38 kq38
 have bq38:=Fq38.binds (ps:=["_law_script"]) fun _ _ _ _ _ _ us hl=>by obtain⟨x0,rfl⟩:=KR hl; rfl
 have mq38:=W.mg_of X G aq38
 refine⟨W.fnOf "law" "law" (aW rN) (aV rN) (aB rN) .none kVq38 dcq38 pmq38 anq38 cdq38 ctq38,fun s v=>.of_eq rfl,fun base _ _=>?_⟩
 have Dq16:Df l.prog w K mg base "_law_cell" 1 ["_law_script","_law_k"] (yE K):=⟨⟨_,_,vL Fq16 B,mq16,kq16,bq16⟩⟩
 have Dq17:Df l.prog w K mg base "_law_draws" 1 ["_law_cell_here","_law_parts"] (jK K):=⟨⟨_,_,uo Fq17 B,mq17,kq17,bq17⟩⟩
 have Dq19:Df l.prog w K mg base "_law_under" 1 ["_law_cell_here","_law_k"] (n8):=⟨⟨_,_,uG Fq19 B,mq19,kq19,bq19⟩⟩
 have Dq20:Df l.prog w K mg base "_law_crowd" 1 ["_law_number","_law_n"] (rM):=⟨⟨_,_,uM Fq20 B,mq20,kq20,bq20⟩⟩
 have Dq26:Df l.prog w K mg base "_law_giving" 2 ["_law_cell_here","_law_n","_law_most"] (rT):=⟨⟨_,_,rO Fq26 B Dq17,mq26,kq26,bq26⟩⟩
 have S0:Df l.prog w K mg base "_law_same" 0 ["_law_found","_law_due"] (jx 0):=⟨⟨_,_,same_none,mq18,kq18,bq18⟩⟩
 have S1:Df l.prog w K mg base "_law_same" 1 ["_law_found","_law_due"] (jx 1):=⟨⟨_,_,iD Fq18 B S0,mq18,kq18,bq18⟩⟩
 have S2:Df l.prog w K mg base "_law_same" 2 ["_law_found","_law_due"] (jx 2):=⟨⟨_,_,iD Fq18 B S1,mq18,kq18,bq18⟩⟩
 have S3:Df l.prog w K mg base "_law_same" 3 ["_law_found","_law_due"] (jx 3):=⟨⟨_,_,iD Fq18 B S2,mq18,kq18,bq18⟩⟩
 have S4:Df l.prog w K mg base "_law_same" 4 ["_law_found","_law_due"] (jx 4):=⟨⟨_,_,iD Fq18 B S3,mq18,kq18,bq18⟩⟩
 have T0:Df l.prog w K mg base "_law_term" 1 ["_law_cell_here","_law_n","_law_deep","_law_most"] (jQ 0):=⟨⟨_,_,term_none,mq21,kq21,bq21⟩⟩
 have T1:Df l.prog w K mg base "_law_term" 2 ["_law_cell_here","_law_n","_law_deep","_law_most"] (jQ 1):=⟨⟨_,_,jM Fq21 B Dq17 Dq19 Dq20 T0,mq21,kq21,bq21⟩⟩
 have T2:Df l.prog w K mg base "_law_term" 3 ["_law_cell_here","_law_n","_law_deep","_law_most"] (jQ 2):=⟨⟨_,_,jM Fq21 B Dq17 Dq19 Dq20 T1,mq21,kq21,bq21⟩⟩
 have T3:Df l.prog w K mg base "_law_term" 4 ["_law_cell_here","_law_n","_law_deep","_law_most"] (jQ 3):=⟨⟨_,_,jM Fq21 B Dq17 Dq19 Dq20 T2,mq21,kq21,bq21⟩⟩
 have R0:Df l.prog w K mg base "_law_renamed" 0 ["_law_term_here","_law_row"] (rH K 0):=⟨⟨_,_,Ex,mq22,kq22,bq22⟩⟩
 have R1:Df l.prog w K mg base "_law_renamed" 1 ["_law_term_here","_law_row"] (rH K 1):=⟨⟨_,_,gR Fq22 B R0,mq22,kq22,bq22⟩⟩
 have R2:Df l.prog w K mg base "_law_renamed" 2 ["_law_term_here","_law_row"] (rH K 2):=⟨⟨_,_,gR Fq22 B R1,mq22,kq22,bq22⟩⟩
 have R3:Df l.prog w K mg base "_law_renamed" 3 ["_law_term_here","_law_row"] (rH K 3):=⟨⟨_,_,gR Fq22 B R2,mq22,kq22,bq22⟩⟩
 have Dq23:Df l.prog w K mg base "_law_mine" 5 ["_law_cell_here","_law_n","_law_one","_law_deep","_law_most"] (zZ):=⟨⟨_,_,wC Fq23 B T3 R3,mq23,kq23,bq23⟩⟩
 have Dq24:Df l.prog w K mg base "_law_pledge" 6 ["_law_cell_here","_law_n","_law_one","_law_deep","_law_most"] (qy):=⟨⟨_,_,qu Fq24 B Dq17 Dq19 Dq20 Dq23,mq24,kq24,bq24⟩⟩
 have Dq25:Df l.prog w K mg base "_law_book" 7 ["_law_script","_law_start","_law_n","_law_most"] (Br K):=⟨⟨_,_,wD Fq25 B Dq16 Dq17 Dq19 Dq24,mq25,kq25,bq25⟩⟩
 have Dq27:Df l.prog w K mg base "_law_scene" 8 ["_law_script"] (wz K):=⟨⟨_,_,uU Fq27 B Dq16 Dq17 Dq26 Dq25,mq27,kq27,bq27⟩⟩
 have Dq28:Df l.prog w K mg base "_law_scene_at" 9 ["_law_script","_law_start"] (nW K):=⟨⟨_,_,nZ Fq28 B Dq27,mq28,kq28,bq28⟩⟩
 have L0:Df l.prog w K mg base "_law_holds" 0 ["_law_term_here","_law_giving_here"] (cC K 0):=⟨⟨_,_,v7,mq30,kq30,bq30⟩⟩
 have L1:Df l.prog w K mg base "_law_holds" 1 ["_law_term_here","_law_giving_here"] (cC K 1):=⟨⟨_,_,gm Fq30 B L0,mq30,kq30,bq30⟩⟩
 have L2:Df l.prog w K mg base "_law_holds" 2 ["_law_term_here","_law_giving_here"] (cC K 2):=⟨⟨_,_,gm Fq30 B L1,mq30,kq30,bq30⟩⟩
 have L3:Df l.prog w K mg base "_law_holds" 3 ["_law_term_here","_law_giving_here"] (cC K 3):=⟨⟨_,_,gm Fq30 B L2,mq30,kq30,bq30⟩⟩
 have L4:Df l.prog w K mg base "_law_holds" 4 ["_law_term_here","_law_giving_here"] (cC K 4):=⟨⟨_,_,gm Fq30 B L3,mq30,kq30,bq30⟩⟩
 have Dq31:Df l.prog w K mg base "_law_owes" 5 ["_law_pledge_here","_law_giving_here"] (qm K):=⟨⟨_,_,vo Fq31 B L4,mq31,kq31,bq31⟩⟩
 have Dq32:Df l.prog w K mg base "_law_owed" 6 ["_law_some","_law_giving_here"] (BR K):=⟨⟨_,_,vB Fq32 B Dq31,mq32,kq32,bq32⟩⟩
 have Dq35:Df l.prog w K mg base "_law_roof" 1 ["_law_book_here","_law_floor"] (pZ K):=⟨⟨_,_,wI Fq35 B,mq35,kq35,bq35⟩⟩
 have Dq36:Df l.prog w K mg base "_law_above" 1 ["_law_one","_law_other"] (rJ K):=⟨⟨_,_,tQ Fq36 B,mq36,kq36,bq36⟩⟩
 have H0:Df l.prog w K mg base "holds" 0 ["term","giving"] (cC K 0):=⟨⟨_,_,zG,mq3,kq3,bq3⟩⟩
 have A1:Df l.prog w K mg base "all_hold" 1 ["parts","giving"] (pB K 0):=⟨⟨_,_,iI Fq1 B H0,mq1,kq1,bq1⟩⟩
 have Y1:Df l.prog w K mg base "any_holds" 1 ["parts","giving"] (pN K 0):=⟨⟨_,_,gJ Fq2 B H0,mq2,kq2,bq2⟩⟩
 have H1:Df l.prog w K mg base "holds" 2 ["term","giving"] (cC K 1):=⟨⟨_,_,mU Fq3 B A1 Y1,mq3,kq3,bq3⟩⟩
 have A2:Df l.prog w K mg base "all_hold" 3 ["parts","giving"] (pB K 1):=⟨⟨_,_,iI Fq1 B H1,mq1,kq1,bq1⟩⟩
 have Y2:Df l.prog w K mg base "any_holds" 3 ["parts","giving"] (pN K 1):=⟨⟨_,_,gJ Fq2 B H1,mq2,kq2,bq2⟩⟩
 have H2:Df l.prog w K mg base "holds" 4 ["term","giving"] (cC K 2):=⟨⟨_,_,mU Fq3 B A2 Y2,mq3,kq3,bq3⟩⟩
 have A3:Df l.prog w K mg base "all_hold" 5 ["parts","giving"] (pB K 2):=⟨⟨_,_,iI Fq1 B H2,mq1,kq1,bq1⟩⟩
 have Y3:Df l.prog w K mg base "any_holds" 5 ["parts","giving"] (pN K 2):=⟨⟨_,_,gJ Fq2 B H2,mq2,kq2,bq2⟩⟩
 have H3:Df l.prog w K mg base "holds" 6 ["term","giving"] (cC K 3):=⟨⟨_,_,mU Fq3 B A3 Y3,mq3,kq3,bq3⟩⟩
 have A4:Df l.prog w K mg base "all_hold" 7 ["parts","giving"] (pB K 3):=⟨⟨_,_,iI Fq1 B H3,mq1,kq1,bq1⟩⟩
 have Y4:Df l.prog w K mg base "any_holds" 7 ["parts","giving"] (pN K 3):=⟨⟨_,_,gJ Fq2 B H3,mq2,kq2,bq2⟩⟩
 have H4:Df l.prog w K mg base "holds" 8 ["term","giving"] (cC K 4):=⟨⟨_,_,mU Fq3 B A4 Y4,mq3,kq3,bq3⟩⟩
 have Dq4:Df l.prog w K mg base "owes" 9 ["pledge","giving"] (qm K):=⟨⟨_,_,Jr Fq4 B H4,mq4,kq4,bq4⟩⟩
 have Dq5:Df l.prog w K mg base "last_step" 1 ["pledge"] (Am):=⟨⟨_,_,sI Fq5 B,mq5,kq5,bq5⟩⟩
 have Dq6:Df l.prog w K mg base "what_is_due" 10 ["book","floor","giving"] (IV K):=⟨⟨_,_,o5 Fq6 B Dq4,mq6,kq6,bq6⟩⟩
 have Dq7:Df l.prog w K mg base "roof" 2 ["book","floor"] (pZ K):=⟨⟨_,_,Jl Fq7 B Dq5,mq7,kq7,bq7⟩⟩
 have Dq8:Df l.prog w K mg base "settled" 11 ["book","floor","giving"] (jO K):=⟨⟨_,_,zc Fq8 B Dq6,mq8,kq8,bq8⟩⟩
 have Dq9:Df l.prog w K mg base "rise" 12 ["book","floor"] (lq Cj):=⟨⟨_,_,HQ Fq9 B Dq8,mq9,kq9,bq9⟩⟩
 have Dq10:Df l.prog w K mg base "fall" 12 ["book","floor"] (lq rfF):=⟨⟨_,_,Iu (by decide) Fq10 B Dq8 Dq7,mq10,kq10,bq10⟩⟩
 have Dq11:Df l.prog w K mg base "least" 13 ["book","floor"] (lE Cj):=⟨⟨_,_,Ge Fq11 B Dq9,mq11,kq11,bq11⟩⟩
 have Dq12:Df l.prog w K mg base "greatest" 13 ["book","floor"] (lE rfF):=⟨⟨_,_,vV Fq12 B Dq10,mq12,kq12,bq12⟩⟩
 have Dq33:Df l.prog w K mg base "_law_step_by_step" 7 ["_law_book_here","_law_floor","_law_giving_here"] (rK):=⟨⟨_,_,jL Fq33 B Dq32,mq33,kq33,bq33⟩⟩
 have Dq0:Df l.prog w K mg base "lifted" 1 ["giving","high","crowd"] (qi):=⟨⟨_,_,Ad Fq0 B,mq0,kq0,bq0⟩⟩
 have Dq13:Df l.prog w K mg base "begun" 14 ["book","floor","crowd"] (wy):=⟨⟨_,_,Ez Fq13 B Dq11 Dq12 Dq0,mq13,kq13,bq13⟩⟩
 have Dq14:Df l.prog w K mg base "with_one_more" 14 ["book","whole","crowd","giving"] (Bh):=⟨⟨_,_,mq Fq14 B Dq11 Dq0,mq14,kq14,bq14⟩⟩
 have Dq15:Df l.prog w K mg base "begins" 15 ["book","floor"] (rm):=⟨⟨_,_,Dg Fq15 B Dq11 Dq12 Dq14,mq15,kq15,bq15⟩⟩
 have Dq29:Df l.prog w K mg base "_law_crowds" 1 ["_law_n"] (qO):=⟨⟨_,_,qU Fq29 B,mq29,kq29,bq29⟩⟩
 have Dq34:Df l.prog w K mg base "_law_least" 8 ["_law_book_here","_law_floor"] (rF):=⟨⟨_,_,tY Fq34 B Dq33,mq34,kq34,bq34⟩⟩
 have Dq37:Df l.prog w K mg base "_law_begun" 9 ["_law_book_here","_law_floor","_law_most","_law_crowd_here"] (qZ):=⟨⟨_,_,ug Fq37 B Dq34,mq37,kq37,bq37⟩⟩
 exact Kz Fq38 B Dq28 Dq33 Dq35 Dq29 Dq37 Dq13 Dq15 S3 Dq36 Dq11 Dq12
theorem walk {l:W.OpenLaw} {q:Program} {loose:List Str} {XP:(Str->Option Value)->Heap->Prop} {YP:World->Heap->Prop} {d:DefRec} {K:Params->W.Frag} (hn:l.most=some 63) (hdf:d.params.defaults=[])
  (hY:∀ (w:World) (h:Heap),YP w h->(K w.params).In h)
  (F:∀ (w:World) (mg:Str->Option Value) (fa:Addr) (h:Heap),(K w.params).In h->h.Ns mainGlobals mg->mg d.name=some (.ref fa) →
   ∃ fd:FuncData,(∀ (s:Shared) (u:Value),BindsTo s fd ⟨[u],[]⟩ [("_law_script",u)])/\∀ base:Heap,(K w.params).In base->base.Ns mainGlobals mg->dz l.prog w (K w.params) mg base CX0 16 fa fd ["_law_script"] (Fj (K w.params))) :
  W.WalkO q loose XP YP l.row.toRowW d [] (fun f vs=>PySem.call f vs) :=
 L2.Js (n:=63) (k:=16) (x:="_law_script") (CX:=fun _=>CX0) (sp:=fun w=>Fj (K w.params)) hn (by decide) hdf ⟨rfl,by decide,by decide⟩ hY F (fun _ _ a ns hl _ hS=>⟨a,ns,rfl,hS,hl,fun _=>rfl⟩) fun _ _ _ _ _ z=>z
end My
end
open PySem PySem.W PyProof.Rows
theorem PySem.Challenge.cw_loveboon_k31_whole_who_begins_holds.tw18367618243172796553:True:=trivial
theorem PySem.Challenge.cw_loveboon_k31_whole_who_begins_holds.tw449247800578286909:True:=trivial
theorem PySem.Challenge.cw_loveboon_k31_whole_who_begins_holds.tw4056059382303058574:True:=trivial
theorem PySem.Challenge.cw_loveboon_k31_whole_who_begins_holds.tw12889635983818383068:True:=trivial
theorem PySem.Challenge.cw_loveboon_k31_whole_who_begins_holds.tw8520056407113891471:True:=trivial
theorem PySem.Challenge.cw_loveboon_k31_whole_who_begins_holds.tw9028999805131142877:True:=trivial
theorem PySem.Challenge.cw_loveboon_k31_whole_who_begins_holds.tw917467120817033702:True:=trivial
theorem PySem.Challenge.cw_loveboon_k31_whole_who_begins_holds.tw4701580423862609743:True:=trivial
theorem PySem.Challenge.cw_loveboon_k31_whole_who_begins_holds.tw8435932463225503636:True:=trivial
theorem PySem.Challenge.cw_loveboon_k31_whole_who_begins_holds.tw11682426070065620359:True:=trivial
theorem PySem.Challenge.cw_loveboon_k31_whole_who_begins_holds.tw14566783717922618159:True:=trivial
theorem PySem.Challenge.cw_loveboon_k31_whole_who_begins_holds.tw12900685309054113869:True:=trivial
theorem PySem.Challenge.cw_loveboon_k31_whole_who_begins_holds.tw9318932419826536150:True:=trivial
theorem PySem.Challenge.cw_loveboon_k31_whole_who_begins_holds.tw12255071184722671969:True:=trivial
theorem PySem.Challenge.cw_loveboon_k31_whole_who_begins_holds.tw9768453593017185402:True:=trivial
theorem PySem.Challenge.cw_loveboon_k31_whole_who_begins_holds.tw3395720663829187731:True:=trivial
theorem PySem.Challenge.cw_loveboon_k31_whole_who_begins_holds.tw11734732917096089161:True:=trivial
theorem PySem.Challenge.cw_loveboon_k31_whole_who_begins_holds.tw4325748119887757459:True:=trivial
theorem PySem.Challenge.cw_loveboon_k31_whole_who_begins_holds.tw15932951718091548825:True:=trivial
theorem PySem.Challenge.cw_loveboon_k31_whole_who_begins_holds.tw1949490026587938120:True:=trivial
theorem PySem.Challenge.cw_loveboon_k31_whole_who_begins_holds.tw3370595217576031086:True:=trivial
set_option maxRecDepth 100000 in
set_option maxHeartbeats 0 in
theorem PySem.Challenge.cw_loveboon_k31_whole_who_begins_holds : PySem.Challenge.rw_loveboon_k31_whole_who_begins.Holds := by
 w_on; o_law; k_head; (case hw=>w_witness2)
 k_fill
 refine My.walk (l:=PySem.Challenge.rw_loveboon_k31_whole_who_begins) rfl rfl (fun w h Y=>W.kIn_of Y) ?F
 case F =>
  intro w mg fa h KX G hmg
  refine' My.all_mk KX G hmg ?aq0 ?lq0 ?cq0 ?kq0 ?aq1 ?lq1 ?cq1 ?kq1 ?aq2 ?lq2 ?cq2 ?kq2 ?aq3 ?lq3 ?cq3 ?kq3 ?aq4 ?lq4 ?cq4 ?kq4 ?aq5 ?lq5 ?cq5 ?kq5 ?aq6 ?lq6 ?cq6 ?kq6 ?aq7 ?lq7 ?cq7 ?kq7 ?aq8 ?lq8 ?cq8 ?kq8 ?aq9 ?lq9 ?cq9 ?kq9 ?aq10 ?lq10 ?cq10 ?kq10 ?aq11 ?lq11 ?cq11 ?kq11 ?aq12 ?lq12 ?cq12 ?kq12 ?aq13 ?lq13 ?cq13 ?kq13 ?aq14 ?lq14 ?cq14 ?kq14 ?aq15 ?lq15 ?cq15 ?kq15 ?aq16 ?lq16 ?cq16 ?kq16 ?aq17 ?lq17 ?cq17 ?kq17 ?aq18 ?lq18 ?cq18 ?kq18 ?aq19 ?lq19 ?cq19 ?kq19 ?aq20 ?lq20 ?cq20 ?kq20 ?aq21 ?lq21 ?cq21 ?kq21 ?aq22 ?lq22 ?cq22 ?kq22 ?aq23 ?lq23 ?cq23 ?kq23 ?aq24 ?lq24 ?cq24 ?kq24 ?aq25 ?lq25 ?cq25 ?kq25 ?aq26 ?lq26 ?cq26 ?kq26 ?aq27 ?lq27 ?cq27 ?kq27 ?aq28 ?lq28 ?cq28 ?kq28 ?aq29 ?lq29 ?cq29 ?kq29 ?aq30 ?lq30 ?cq30 ?kq30 ?aq31 ?lq31 ?cq31 ?kq31 ?aq32 ?lq32 ?cq32 ?kq32 ?aq33 ?lq33 ?cq33 ?kq33 ?aq34 ?lq34 ?cq34 ?kq34 ?aq35 ?lq35 ?cq35 ?kq35 ?aq36 ?lq36 ?cq36 ?kq36 ?aq37 ?lq37 ?cq37 ?kq37 ?aq38 ?lq38 ?cq38 ?kq38 ?z_len ?z_range ?z_all ?z_isinstance ?z_int ?z_bool ?z_str ?z_list ?z_tuple ?z_abs ?z_max ?z_min ?z_sum ?z_sorted ?z_zip ?z_reversed ?z_divmod ?z_set ?z_any ?z_enumerate
  (case aq0=>k_is)
  (case lq0=>k_is)
  (case cq0=>k_is)
  (case kq0=>k_is)
  (case aq1=>k_is)
  (case lq1=>k_is)
  (case cq1=>k_is)
  (case kq1=>k_is)
  (case aq2=>k_is)
  (case lq2=>k_is)
  (case cq2=>k_is)
  (case kq2=>k_is)
  (case aq3=>k_is)
  (case lq3=>k_is)
  (case cq3=>k_is)
  (case kq3=>k_is)
  (case aq4=>k_is)
  (case lq4=>k_is)
  (case cq4=>k_is)
  (case kq4=>k_is)
  (case aq5=>k_is)
  (case lq5=>k_is)
  (case cq5=>k_is)
  (case kq5=>k_is)
  (case aq6=>k_is)
  (case lq6=>k_is)
  (case cq6=>k_is)
  (case kq6=>k_is)
  (case aq7=>k_is)
  (case lq7=>k_is)
  (case cq7=>k_is)
  (case kq7=>k_is)
  (case aq8=>k_is)
  (case lq8=>k_is)
  (case cq8=>k_is)
  (case kq8=>k_is)
  (case aq9=>k_is)
  (case lq9=>k_is)
  (case cq9=>k_is)
  (case kq9=>k_is)
  (case aq10=>k_is)
  (case lq10=>k_is)
  (case cq10=>k_is)
  (case kq10=>k_is)
  (case aq11=>k_is)
  (case lq11=>k_is)
  (case cq11=>k_is)
  (case kq11=>k_is)
  (case aq12=>k_is)
  (case lq12=>k_is)
  (case cq12=>k_is)
  (case kq12=>k_is)
  (case aq13=>k_is)
  (case lq13=>k_is)
  (case cq13=>k_is)
  (case kq13=>k_is)
  (case aq14=>k_is)
  (case lq14=>k_is)
  (case cq14=>k_is)
  (case kq14=>k_is)
  (case aq15=>k_is)
  (case lq15=>k_is)
  (case cq15=>k_is)
  (case kq15=>k_is)
  (case aq16=>k_is)
  (case lq16=>k_is)
  (case cq16=>k_is)
  (case kq16=>k_is)
  (case aq17=>k_is)
  (case lq17=>k_is)
  (case cq17=>k_is)
  (case kq17=>k_is)
  (case aq18=>k_is)
  (case lq18=>k_is)
  (case cq18=>k_is)
  (case kq18=>k_is)
  (case aq19=>k_is)
  (case lq19=>k_is)
  (case cq19=>k_is)
  (case kq19=>k_is)
  (case aq20=>k_is)
  (case lq20=>k_is)
  (case cq20=>k_is)
  (case kq20=>k_is)
  (case aq21=>k_is)
  (case lq21=>k_is)
  (case cq21=>k_is)
  (case kq21=>k_is)
  (case aq22=>k_is)
  (case lq22=>k_is)
  (case cq22=>k_is)
  (case kq22=>k_is)
  (case aq23=>k_is)
  (case lq23=>k_is)
  (case cq23=>k_is)
  (case kq23=>k_is)
  (case aq24=>k_is)
  (case lq24=>k_is)
  (case cq24=>k_is)
  (case kq24=>k_is)
  (case aq25=>k_is)
  (case lq25=>k_is)
  (case cq25=>k_is)
  (case kq25=>k_is)
  (case aq26=>k_is)
  (case lq26=>k_is)
  (case cq26=>k_is)
  (case kq26=>k_is)
  (case aq27=>k_is)
  (case lq27=>k_is)
  (case cq27=>k_is)
  (case kq27=>k_is)
  (case aq28=>k_is)
  (case lq28=>k_is)
  (case cq28=>k_is)
  (case kq28=>k_is)
  (case aq29=>k_is)
  (case lq29=>k_is)
  (case cq29=>k_is)
  (case kq29=>k_is)
  (case aq30=>k_is)
  (case lq30=>k_is)
  (case cq30=>k_is)
  (case kq30=>k_is)
  (case aq31=>k_is)
  (case lq31=>k_is)
  (case cq31=>k_is)
  (case kq31=>k_is)
  (case aq32=>k_is)
  (case lq32=>k_is)
  (case cq32=>k_is)
  (case kq32=>k_is)
  (case aq33=>k_is)
  (case lq33=>k_is)
  (case cq33=>k_is)
  (case kq33=>k_is)
  (case aq34=>k_is)
  (case lq34=>k_is)
  (case cq34=>k_is)
  (case kq34=>k_is)
  (case aq35=>k_is)
  (case lq35=>k_is)
  (case cq35=>k_is)
  (case kq35=>k_is)
  (case aq36=>k_is)
  (case lq36=>k_is)
  (case cq36=>k_is)
  (case kq36=>k_is)
  (case aq37=>k_is)
  (case lq37=>k_is)
  (case cq37=>k_is)
  (case kq37=>k_is)
  (case aq38=>k_is)
  (case lq38=>k_is)
  (case cq38=>k_is)
  (case kq38=>k_is)
  (case z_len=>k_is)
  (case z_range=>k_is)
  (case z_all=>k_is)
  (case z_isinstance=>k_is)
  (case z_int=>k_is)
  (case z_bool=>k_is)
  (case z_str=>k_is)
  (case z_list=>k_is)
  (case z_tuple=>k_is)
  (case z_abs=>k_is)
  (case z_max=>k_is)
  (case z_min=>k_is)
  (case z_sum=>k_is)
  (case z_sorted=>k_is)
  (case z_zip=>k_is)
  (case z_reversed=>k_is)
  (case z_divmod=>k_is)
  (case z_set=>k_is)
  (case z_any=>k_is)
  (case z_enumerate=>k_is)
