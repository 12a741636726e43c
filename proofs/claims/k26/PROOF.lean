import PyProof.Rows.All
import Wide.All
import OpenK.AllK
import Wide.FinOn
import Lean
import PyProof.EqAt
import PyProof.EqKinds
import PyProof.TupleCall
import PyProof.NeKinds
import PySem.Challenge.RW_loveboon_k26_whole_even_givings_joined_a
noncomputable section
set_option Elab.async false
set_option linter.all false
set_option maxRecDepth 100000
namespace L2
theorem az1 {a : Prop} (h : a := by first | exact .inl rfl | exact .inr rfl | assumption) : a := h
theorem az2 {a : Prop} (h : a := by decide) : a := h
theorem az3 {a : Prop} (h : a := by first | exact Ep _ (by decide) (by decide) | rfl) : a := h
theorem az4 {a : Prop} (h : a := by intro _; rfl) : a := h
theorem az5 {a : Prop} (h : a := by rfl) : a := h
theorem az6 {a : Prop} (h : a := by first | exact Or.inl rfl | exact Or.inr (Or.inl rfl) | exact Or.inr (Or.inr rfl)) : a := h
theorem az7 {a : Prop} (h : a := by first | decide | exact Nat.le_refl _ | lia) : a := h
theorem az8 {a : Prop} (h : a := by decide+kernel) : a := h
theorem az9 {a : Prop} (h : a := by intros; rfl) : a := h
theorem Pg {a : Prop} (h : a := by intro x p z; cases z) : a := h
open PySem PySem.Spec PyProof.Rows
noncomputable abbrev Key:=Sum Int Str
noncomputable def MP:Key->Value->Bool
 | .inl k,v=>Value.isInt k v
 | .inr x,v=>Value.isStrOf x v
noncomputable def Qc (w:World):Key->Int
 | .inl k=>hashInt k
 | .inr x=>hashStr w x
theorem cz:∀ {k:Key} {v:Value},MP k v=true->(∃ i t,k=Sum.inl i/\v=Value.int i t)∨(∃ x t,k=Sum.inr x/\v=Value.str x t)
 | .inl i,v,h=>by
  obtain⟨t,e⟩:=Value.isInt_shape (k:=i) (v:=v) h
  exact .inl ⟨i,t,rfl,e⟩
 | .inr x,v,h=>by
  obtain⟨t,e⟩:=Value.isStrOf_shape (x:=x) (v:=v) h
  exact .inr ⟨x,t,rfl,e⟩
theorem KR (a b:Int):decide ((Sum.inl a:Key)=Sum.inl b)=(a == b):=by
 by_cases e:a=b
 ·subst e; simp
 ·have h:¬ (Sum.inl a:Key)=Sum.inl b:=fun q=>e (Sum.inl.inj q)
  rw[decide_eq_false h]
  exact (beq_eq_false_iff_ne.mpr e).symm
theorem M9 (a b:Str):decide ((Sum.inr a:Key)=Sum.inr b)=decide (a=b):=by
 by_cases e:a=b
 ·subst e; simp
 ·have h:¬ (Sum.inr a:Key)=Sum.inr b:=fun q=>e (Sum.inr.inj q)
  rw[decide_eq_false h,decide_eq_false e]
theorem La (a:Int) (b:Str):decide ((Sum.inl a:Key)=Sum.inr b)=false:=decide_eq_false (fun q=>nomatch q)
theorem LR (a:Str) (b:Int):decide ((Sum.inr a:Key)=Sum.inl b)=false:=decide_eq_false (fun q=>nomatch q)
noncomputable def Di (prog:Program) (w:World):PySem.KeyKind prog w Key where
 is:=MP
 hash:=Qc w
 inj:=fun v a b ha hb=>by
  rcases cz ha with⟨i,t,rfl,rfl⟩ | ⟨x,t,rfl,rfl⟩
  ·rcases cz hb with⟨j,u,rfl,e⟩ | ⟨y,u,rfl,e⟩
   ·injection e with e1 _; rw[e1]
   ·exact nomatch e
  ·rcases cz hb with⟨j,u,rfl,e⟩ | ⟨y,u,rfl,e⟩
   ·exact nomatch e
   ·injection e with e1 _; rw[e1]
 byValue:=fun k v h=>by
  rcases cz h with⟨i,t,rfl,rfl⟩ | ⟨x,t,rfl,rfl⟩ <;> rfl
 pyHash:=fun hv h=>by
  rcases cz hv with⟨i,t,rfl,rfl⟩ | ⟨x,t,rfl,rfl⟩
  ·exact wpAny_pyHash_int h
  ·exact wpAny_pyHash_str h
 eqBool:=fun hu hv h=>by
  rcases cz hu with⟨i,t,rfl,rfl⟩ | ⟨x,t,rfl,rfl⟩
  ·rcases cz hv with⟨j,u,rfl,rfl⟩ | ⟨y,u,rfl,rfl⟩
   ·rw[KR] at h; exact wpAny_eqBool_int h
   ·rw[La] at h; exact SeqAt.EqAt.int_str i t y u _ _ _ _ h
  ·rcases cz hv with⟨j,u,rfl,rfl⟩ | ⟨y,u,rfl,rfl⟩
   ·rw[LR] at h; exact SeqAt.EqAt.str_int x t j u _ _ _ _ h
   ·rw[M9] at h; exact wpAny_eqBool_str h
 «strs»:=fun k x t v h=>by
  rcases cz h with⟨i,u,rfl,e⟩ | ⟨y,u,rfl,e⟩
  ·exact nomatch e
  ·injection e with e1 _
   subst e1
   cases v <;> rfl
end L2
namespace L2
open PySem PySem.Spec PyProof.Rows
inductive V where
 | non | bl (b:Bool) | int (i:Int) | str (x:Str) | byt (b:Array UInt8) | flt (b:UInt64) | ref (a:Addr) | ty (n:String)
 deriving DecidableEq
noncomputable def RelV:V->Value->Prop
 | .non,u=>u=Value.none
 | .bl b,u=>u=Value.bool b
 | .int i,u=>∃ t,u=Value.int i t
 | .str x,u=>∃ t,u=Value.str x t
 | .byt b,u=>∃ t,u=Value.bytes b t
 | .flt b,u=>∃ t,u=Value.float b t
 | .ref a,u=>u=Value.ref a
 | .ty n,u=>u=Value.type n
noncomputable abbrev Vals:List V->List Value->Prop:=Paired RelV
theorem Vals.length {xs:List V} {us:List Value} (r:Vals xs us):xs.length=us.length:=Paired.length r
theorem Vals.get:∀ {xs:List V} {us:List Value} {i:Nat} {x:V},Vals xs us->xs[i]? = some x->∃ u,us[i]? = some u/\RelV x u
 | _,_,_,_,.nil,e=>by simp at e
 | _,_,0,_,.cons r _,e=>by simp at e; subst e; exact⟨_,rfl,r⟩
 | _,_,i+1,x,.cons _ t,e=>by
  obtain⟨u,h1,h2⟩:=Vals.get (i:=i) (x:=x) t (by simpa using e)
  exact⟨u,by simpa using h1,h2⟩
theorem Vals.set {x:V} {u:Value} (r:RelV x u):∀ {xs:List V} {us:List Value} (i:Nat),Vals xs us->Vals (xs.set i x) (us.set i u)
 | _,_,_,.nil=>.nil
 | _,_,0,.cons _ t=>.cons r t
 | _,_,i+1,.cons q t=>.cons q (Vals.set r i t)
theorem Vals.append:∀ {xs ys:List V} {us ws:List Value},Vals xs us->Vals ys ws->Vals (xs++ys) (us++ws)
 | _,_,_,_,.nil,s=>s
 | _,_,_,_,.cons r t,s=>.cons r (Vals.append t s)
theorem Vals.take:∀ {xs:List V} {us:List Value} (n:Nat),Vals xs us->Vals (xs.take n) (us.take n)
 | _,_,0,_=>.nil
 | _,_,_+1,.nil=>.nil
 | _,_,n+1,.cons r t=>.cons r (Vals.take n t)
theorem Vals.drop:∀ {xs:List V} {us:List Value} (n:Nat),Vals xs us->Vals (xs.drop n) (us.drop n)
 | _,_,0,r=>r
 | _,_,_+1,.nil=>.nil
 | _,_,n+1,.cons _ t=>Vals.drop n t
noncomputable def Ig:Option V->Option Value->Prop
 | some v,some u=>RelV v u
 | none,none=>True
 | _,_=>False
noncomputable def KV {κ:Type}:List (κ × V)->List (κ × Value)->Prop:=Paired fun (p:κ × V) (q:κ × Value)=>p.1=q.1/\RelV p.2 q.2
noncomputable def kV:Key->V
 | .inl i=>.int i
 | .inr x=>.str x
inductive HO where
 /-- a list -/
 | lst (xs:List V)
 /-- a tuple (never changes) -/
 | tup (xs:List V)
 /-- a dict whose keys are ints and texts; one whose keys are tuples of ints and texts (the empty one is both) -/
 | dK (kvs:List (Key × V)) | dT (kvs:List (List Key × V))
 /-- a set of ints: its members,its size -/
 | set (S:Int->Bool) (n:Nat)
 /-- an instance of the class at C,its dict at dx,its attributes -/
 | ins (C dx:Addr) (fs:List (Str × V))
 /-- the dict of the instance at x -/
 | own (x:Addr)
 /-- the dict of an exception -/
 | xd (fs:List (Str × V))
 /-- a bound method,f of x -/
 | met (f x:Addr)
 /-- a range object lo,lo+1,.. below hi -/
 | rng (lo hi:Int)
 /-- a thing that is known to the object (the script; a dict while a loop walks it): read,never written while it is so -/
 | frz (o:Obj) (u:HO)
 /-- a code object's table -/
 | tbl (ps:Array Value)
 /-- any other thing,by what is true of its one object (a def of one's own: SetO a S n:=HO.ext fun h=>..) -/
 | ext (φ:Heap->Prop)
noncomputable abbrev Hp:=Addr->Option HO
noncomputable def upd (H:Hp) (a:Addr) (o:HO):Hp:=fun b=>if b=a then some o else H b
theorem ao {H:Hp} {a:Addr} {o:HO}:upd H a o a=some o:=by unfold upd; rw[if_pos rfl]
theorem aR {H:Hp} {a b:Addr} {o:HO} (h:b≠a):upd H a o b=H b:=by unfold upd; rw[if_neg h]
theorem cH {H:Hp} {a b:Addr} {o:HO} (h:H a=some o) (h':H b=none):a≠b:=by
 intro e; subst e; rw[h] at h'; cases h'
section
variable (P:Program) (w:World)
noncomputable def fV (H:Hp) (h:Heap) (a:Addr):HO->Prop
 | .lst xs=>xs.length<=sizeLine/\∃ (its:List Value) (n:Nat),Vals xs its/\h.get? a=some { cls:=.type "list",data:=.seq its.toArray n }
 | .tup xs=>xs.length<=sizeLine/\∃ its:List Value,Vals xs its/\IsTup h a its.toArray
 | .dK kvs=>kvs.length<=sizeLine/\(a == sysModules)=false/\∃ vs,KV kvs vs/\h.DictOf (Di P w) a vs
 | .dT kvs=>kvs.length<=sizeLine/\(a == sysModules)=false/\∃ xs:List (List Key × Addr × Value),
   Paired (fun (p:List Key × V) (q:List Key × Addr × Value)=>p.1=q.1/\H q.2.1=some (.tup (p.1.map kV))/\RelV p.2 q.2.2) kvs xs ∧
   ∃ o es ep,h.get? a=some o/\o.ExactDict/\o.data = .dict es ep/\es.toList=xs.map (entryOfKey (tupleKind (Di P w)))/\(xs.map (·.1)).Nodup
 | .set S n=>h.SetOf (intKind P w) a S n
 | .ins C dx fs=>H dx=some (.own a)/\fs.length<=1000/\dx≠a/\h.get? a=some (PySem.W.instObj C dx) ∧
   ∃ mA,h.Ns1 dx mA/\(∀ f,Ig (fs.lookup f) (mA f))/\PySem.Within mA (fs.map (·.1))
 | .own _=>∃ o,h.get? a=some o
 | .xd fs=>∃ mA,h.Ns1 a mA/\∀ f,Ig (fs.lookup f) (mA f)
 | .rng lo hi=>∃ t u v,h.get? a=some { cls:=.type "range",data:=.fields #[.int lo t,.int hi u,.int 1 v] }
 | .frz o u=>h.get? a=some o/\fV H h a u
 | .tbl ps=>h.get? a=some { cls:=.none,data:=.fields ps }
 | .met f x=>h.get? a=some (PySem.W.methodObj (.ref f) (.ref x))
 | .ext φ=>φ h/\(∃ o,h.get? a=some o)/\∀ h1 h2:Heap,φ h1->(∀ o,h1.get? a=some o->h2.get? a=some o)->φ h2
noncomputable def HOk (H:Hp) (h:Heap):Prop:=∀ a o,H a=some o->fV P w H h a o
end
section
variable {P:Program} {w:World} {H H':Hp} {h h':Heap} {a:Addr} {o:HO}
theorem fV.lt (x:fV P w H h a o):a < h.objs.size:=by
 cases o with
 | lst xs=>obtain⟨_,_,_,_,e⟩:=x; exact Heap.lt_size e
 | tup xs=>obtain⟨_,_,_,p⟩:=x; exact p.lt
 | dK kvs=>obtain⟨_,_,_,_,o,_,_,e,_⟩:=x; exact Heap.lt_size e
 | dT kvs=>obtain⟨_,_,_,_,o,_,_,e,_⟩:=x; exact Heap.lt_size e
 | set S n=>obtain⟨o,_,_,_,e,_⟩:=x; exact Heap.lt_size e
 | ins C dx fs=>obtain⟨_,_,_,e,_⟩:=x; exact Heap.lt_size e
 | own y=>obtain⟨_,e⟩:=x; exact Heap.lt_size e
 | xd fs=>obtain⟨_,⟨_,_,_,e,_⟩,_⟩:=x; exact Heap.lt_size e
 | rng lo hi=>obtain⟨_,_,_,e⟩:=x; exact Heap.lt_size e
 | frz ob u=>obtain⟨e,_⟩:=x; exact Heap.lt_size e
 | tbl ps=>exact Heap.lt_size (show h.get? a=some _ from x)
 | met f y=>exact Heap.lt_size (show h.get? a=some _ from x)
 | ext φ=>obtain⟨_,⟨_,e⟩,_⟩:=x; exact Heap.lt_size e
theorem Paired.Ow {α β:Type} {F G:α->β->Prop}:∀ {l₁:List α} {l₂:List β},Paired F l₁ l₂->(∀ a b,F a b->G a b)->Paired G l₁ l₂
 | _,_,.nil,_=>.nil
 | _,_,.cons r t,f=>.cons (f _ _ r) (Paired.Ow t f)
theorem fV.stay (x:fV P w H h a o) (k:∀ b u,(b=a∨H b=some (.own a))->h.get? b=some u->h'.get? b=some u)
  (ho:∀ b,H b=some (.own a)->H' b=some (.own a)) (ht:∀ b xs,H b=some (.tup xs)->H' b=some (.tup xs)):fV P w H' h' a o:=by
 induction o with
 | lst xs=>obtain⟨z,its,n,r,e⟩:=x; exact⟨z,its,n,r,k _ _ (.inl rfl) e⟩
 | tup xs=>obtain⟨z,its,r,ob,e,c⟩:=x; exact⟨z,its,r,ob,k _ _ (.inl rfl) e,c⟩
 | dK kvs=>obtain⟨z,y,vs,r,ob,es,ep,e,c⟩:=x; exact⟨z,y,vs,r,ob,es,ep,k _ _ (.inl rfl) e,c⟩
 | dT kvs =>
  obtain⟨z,y,xs,r,ob,es,ep,e,c⟩:=x
  exact⟨z,y,xs,Paired.Ow r fun p q z=>⟨z.1,ht _ _ z.2.1,z.2.2⟩,ob,es,ep,k _ _ (.inl rfl) e,c⟩
 | set S n=>obtain⟨ob,es,ep,t,e,c⟩:=x; exact⟨ob,es,ep,t,k _ _ (.inl rfl) e,c⟩
 | ins C dx fs =>
  obtain⟨d,z,ne,e,mA,⟨od,es,ep,e2,c⟩,r⟩:=x
  exact⟨ho _ d,z,ne,k _ _ (.inl rfl) e,mA,⟨od,es,ep,k _ _ (.inr d) e2,c⟩,r⟩
 | own y=>obtain⟨ob,e⟩:=x; exact⟨ob,k _ _ (.inl rfl) e⟩
 | xd fs=>obtain⟨mA,⟨od,es,ep,e,c⟩,r⟩:=x; exact⟨mA,⟨od,es,ep,k _ _ (.inl rfl) e,c⟩,r⟩
 | rng lo hi=>obtain⟨t,u,v,e⟩:=x; exact⟨t,u,v,k _ _ (.inl rfl) e⟩
 | frz ob u ih=>obtain⟨e,q⟩:=x; exact⟨k _ _ (.inl rfl) e,ih q⟩
 | tbl ps =>
  have e:h.get? a=some { cls:=.none,data:=.fields ps }:=x
  show h'.get? a=some { cls:=.none,data:=.fields ps }
  exact k a _ (.inl rfl) e
 | met f y =>
  have e:h.get? a=some (PySem.W.methodObj (.ref f) (.ref y)):=x
  show h'.get? a=some (PySem.W.methodObj (.ref f) (.ref y))
  exact k a _ (.inl rfl) e
 | ext φ=>obtain⟨p,⟨o,e⟩,st⟩:=x; exact⟨st _ _ p fun o q=>k _ _ (.inl rfl) q,⟨o,k _ _ (.inl rfl) e⟩,st⟩
theorem HOk.lt (x:HOk P w H h) (e:H a=some o):a < h.objs.size:=(x a o e).lt
theorem HOk.fresh (x:HOk P w H h) (e:h.objs.size<=a):H a=none:=by
 cases q:H a with
 | none=>rfl
 | some u=>exact absurd (Nat.lt_of_lt_of_le (x.lt q) e) (Nat.lt_irrefl _)
theorem HOk.kept (x:HOk P w H h) (k:∀ b u,h.get? b=some u->h'.get? b=some u):HOk P w H h':=fun a o e =>
 (x a o e).stay (fun b u _ q=>k b u q) (fun _ q=>q) fun _ _ q=>q
theorem HOk.laid (x:HOk P w H h) (k:∀ b u,h.get? b=some u->h'.get? b=some u) (hp:h.objs.size<=a) (new:fV P w (upd H a o) h' a o):HOk P w (upd H a o) h':=fun b u e=>by
 have hn:=x.fresh hp
 by_cases hb:b=a
 ·subst hb; rw[ao] at e; cases e; exact new
 ·rw[aR hb] at e
  exact (x b u e).stay (fun c v _ q=>k c v q) (fun c q=>by rw[aR (cH q hn)]; exact q) fun c xs q=>by rw[aR (cH q hn)]; exact q
end
noncomputable def Rd (H:Hp) (a:Addr) (u:HO):Prop:=H a=some u∨∃ o,H a=some (.frz o u)
theorem Rd.of {H:Hp} {a:Addr} {u:HO} (h:H a=some u):Rd H a u:=.inl h
theorem Rd.ok {P:Program} {w:World} {H:Hp} {h:Heap} {a:Addr} {u:HO} (r:Rd H a u) (x:HOk P w H h):fV P w H h a u:=by
 rcases r with r | ⟨o,r⟩
 ·exact x a u r
 ·obtain⟨_,q⟩:=x a _ r
  exact q
noncomputable def Mut:Option HO->Prop
 | some (.lst _)=>True
 | some (.dK _)=>True
 | some (.dT _)=>True
 | some (.set _ _)=>True
 | some (.ins _ _ _)=>True
 | some (.ext _)=>True
 | _=>False
section
variable {P:Program} {w:World} {H:Hp} {h h':Heap} {x e:Addr} {o':HO}
theorem HOk.write (ok:HOk P w H h) (mu:Mut (H x)) (he:e=x∨H e=some (.own x)) (k:∀ b u,b≠e->h.get? b=some u->h'.get? b=some u) (heo:∃ u,h'.get? e=some u)
  (new:fV P w (upd H x o') h' x o'):HOk P w (upd H x o') h':=fun b u q=>by
 have nown:∀ c y,H c=some (.own y)->c≠x:=fun c y r z=>by subst z; rw[r] at mu; exact mu
 have ntup:∀ c xs,H c=some (.tup xs)->c≠x:=fun c xs r z=>by subst z; rw[r] at mu; exact mu
 by_cases hb:b=x
 ·subst hb; rw[ao] at q; cases q; exact new
 ·rw[aR hb] at q
  by_cases hbe:b=e
  ·have q':H b=some (.own x):=by
    rcases he with z | z
    ·exact absurd (hbe.trans z) hb
    ·rw[hbe]; exact z
   rw[q] at q'; cases q'
   obtain⟨v,hv⟩:=heo
   exact⟨v,by rw[hbe]; exact hv⟩
  ·refine (ok b u q).stay (fun c v hc r=>k c v ?_ r) (fun c r=>by rw[aR (nown c b r)]; exact r) fun c xs r=>by rw[aR (ntup c xs r)]; exact r
   rcases hc with rfl | hc
   ·exact hbe
   ·rintro rfl
    rcases he with z | z
    ·exact nown c b hc z
    ·rw[hc] at z; cases z; exact hb rfl
end
structure Un (fs ex:List Addr) (H H':Hp) (h h':Heap):Prop where
 keep:∀ b o,h.get? b=some o->H b=none->b ∉ fs->b ∉ ex->h'.get? b=some o
 slot:∀ b o,h.get? b=some o->H b=none->b∈fs->b ∉ ex->∃ sl,h'.get? b=some { o with slots:=sl }
 free:∀ b o,h.get? b=some o->H b=none->b ∉ ex->H' b=none
 there:∀ b o,h.get? b=some o->b ∉ ex->∃ o',h'.get? b=some o'
 tups:∀ b xs,H b=some (.tup xs)->H' b=some (.tup xs)
 frzs:∀ b o u,H b=some (.frz o u)->H' b=some (.frz o u)
 tbls:∀ b ps,H b=some (.tbl ps)->∃ more,H' b=some (.tbl (ps++more))
section
variable {fs fs' ex ex':List Addr} {H H1 H2:Hp} {h h1 h2 h':Heap} {a x e:Addr} {o:HO}
theorem Un.any (u:Un fs ex H H1 h h1) {b:Addr} {ob:Obj} (q:h.get? b=some ob) (n:H b=none) (hx:b ∉ ex):∃ sl,h1.get? b=some { ob with slots:=sl }:=by
 by_cases hb:b∈fs
 ·exact u.slot b ob q n hb hx
 ·exact⟨ob.slots,u.keep b ob q n hb hx⟩
theorem Un.trans (a:Un fs ex H H1 h h1) (b:Un fs ex H1 H2 h1 h2):Un fs ex H H2 h h2 where
 keep:=fun c ob q n hc hx=>b.keep c ob (a.keep c ob q n hc hx) (a.free c ob q n hx) hc hx
 slot:=fun c ob q n hc hx=>by
  obtain⟨sl,e1⟩:=a.slot c ob q n hc hx
  obtain⟨sl',e2⟩:=b.slot c _ e1 (a.free c ob q n hx) hc hx
  exact⟨sl',e2⟩
 free:=fun c ob q n hx=>by
  obtain⟨o',e1⟩:=a.there c ob q hx
  exact b.free c o' e1 (a.free c ob q n hx) hx
 there:=fun c ob q hx=>by
  obtain⟨o',e1⟩:=a.there c ob q hx
  exact b.there c o' e1 hx
 tups:=fun c xs q=>b.tups c xs (a.tups c xs q)
 frzs:=fun c ob xs q=>b.frzs c ob xs (a.frzs c ob xs q)
 tbls:=fun c ps q=>by
  obtain⟨m1,e1⟩:=a.tbls c ps q
  obtain⟨m2,e2⟩:=b.tbls c _ e1
  exact⟨m1++m2,by rw[e2,Array.append_assoc]⟩
theorem Un.kept (k:∀ b u,h.get? b=some u->h'.get? b=some u):Un fs ex H H h h' :=
 ⟨fun b ob q _ _ _=>k b ob q,fun b ob q _ _ _=>⟨ob.slots,k b ob q⟩,fun _ _ _ n _=>n,fun b ob q _=>⟨ob,k b ob q⟩,fun _ _ q=>q,fun _ _ _ q=>q,fun _ ps q=>⟨#[],by rw[q]; simp⟩⟩
theorem Un.refl:Un fs ex H H h h:=Un.kept fun _ _ q=>q
theorem Un.laid (k:∀ b u,h.get? b=some u->h'.get? b=some u) (hp:h.objs.size<=a) (hn:H a=none):Un fs ex H (upd H a o) h h' where
 keep:=fun b u q _ _ _=>k b u q
 slot:=fun b u q _ _ _=>⟨u.slots,k b u q⟩
 free:=fun b u q n _=>by rw[aR (Nat.ne_of_lt (Nat.lt_of_lt_of_le (Heap.lt_size q) hp))]; exact n
 there:=fun b u q _=>⟨u,k b u q⟩
 tups:=fun b xs q=>by rw[aR (cH q hn)]; exact q
 frzs:=fun b u xs q=>by rw[aR (cH q hn)]; exact q
 tbls:=fun b ps q=>⟨#[],by rw[aR (cH q hn),q]; simp⟩
theorem Un.write (mu:Mut (H x)) (he:e=x∨H e=some (.own x)) (k:∀ b u,b≠e->h.get? b=some u->h'.get? b=some u) (heo:∃ u,h'.get? e=some u):Un fs ex H (upd H x o) h h':=by
 have hx:∀ b,H b=none->b≠x:=fun b n z=>by subst z; rw[n] at mu; exact mu
 have hb:∀ b,H b=none->b≠e:=fun b n z=>by
  subst z
  rcases he with r | r
  ·exact hx b n r
  ·rw[n] at r; cases r
 have hm:∀ b u,H b=some u->¬ Mut (some u)->b≠x:=fun b u q nm z=>by subst z; rw[q] at mu; exact nm mu
 refine⟨fun b u q n _ _=>k b u (hb b n) q,fun b u q n _ _=>⟨u.slots,k b u (hb b n) q⟩,fun b u q n _=>by rw[aR (hx b n)]; exact n,fun b u q _=>?_,
  fun b xs q=>by rw[aR (hm b _ q fun z=>z)]; exact q,fun b u xs q=>by rw[aR (hm b _ q fun z=>z)]; exact q,fun b ps q=>⟨#[],by rw[aR (hm b _ q fun z=>z),q]; simp⟩⟩
 by_cases hbe:b=e
 ·subst hbe; exact heo
 ·exact⟨u,k b u hbe q⟩
theorem Un.mono (u:Un fs ex H H1 h h1) (hs:∀ b∈fs,b∈fs') (hx:∀ b∈ex,b∈ex'):Un fs' ex' H H1 h h1 :=
 ⟨fun b ob q n hb he=>u.keep b ob q n (fun z=>hb (hs b z)) fun z=>he (hx b z),fun _ _ q n _ he=>u.any q n fun z=>he (hx _ z),fun b ob q n he=>u.free b ob q n fun z=>he (hx b z),fun b ob q he=>u.there b ob q fun z=>he (hx b z),u.tups,u.frzs,u.tbls⟩
end
noncomputable def trk (h:Heap) (H:Hp):List Addr:=(List.range h.objs.size).filter fun a=>(H a).isSome
noncomputable def Fw (h:Heap) (H:Hp):Heap:=PySem.W.hideAll h (trk h H)
theorem CV (h:Heap) (H:Hp):(Fw h H).objs.size=h.objs.size:=PySem.W.hideAll_size _ _
theorem Gv {h:Heap} {H:Hp} {b:Addr} {o:Obj} (e:h.get? b=some o) (n:H b=none):(Fw h H).get? b=some o :=
 PySem.W.hideAll_get _ e fun hm=>by
  have q:(H b).isSome=true:=(List.mem_filter.mp hm).2
  rw[n] at q; simp at q
theorem JS {h:Heap} {H:Hp} {b:Addr} {o:Obj} (e:(Fw h H).get? b=some o):h.get? b=some o/\H b=none:=by
 have e':h.get? b=some o:=PySem.W.of_hideAll (trk h H) e
 refine⟨e',?_⟩
 cases q:H b with
 | none=>rfl
 | some x =>
  have hm:b∈trk h H:=List.mem_filter.mpr ⟨List.mem_range.mpr (Heap.lt_size e'),by simp [q]⟩
  have z:(Fw h H).get? b=none:=PySem.W.hideAll_none (trk h H) hm
  rw[z] at e; cases e
noncomputable def Ip (g h:Heap) (L:Addr):List (Addr × Obj):=(List.range h.objs.size).filterMap fun a=>if a=L∨(g.get? a).isSome=true then none else (h.get? a).map fun o=>(a,o)
noncomputable def rest (g h:Heap) (L d:Addr):List (Addr × Obj):=(Ip g h L).filter fun p=>decide (p.1≠d)
end L2
namespace L2
open PySem PySem.Spec PyProof.Rows
structure Mod (K:PySem.W.Frag) (mg:Str->Option Value) (base:Heap):Prop where
 kin:K.In base
 glob:base.Ns mainGlobals mg
 blt:∃ mb,base.Ns builtinsNs mb/\∀ x:Str,x≠"__name__"->mb x=bootBuiltins x
 nolimit:base.NoLimit
structure Cx where
 prog:Program
 w:World
 K:PySem.W.Frag
 mg:Str->Option Value
 base:Heap
 A:Around
 N:List Str
 s₀:Shared
 H₀:Hp
 env:Env
 outer:List Env
 stack:List Env
 ex:List Addr
 fn:Str->Bool
 calm:Bool
 pn:List (Addr × Obj)
 xe:Value->Shared->Prop
noncomputable def frs (l:List Env):List Addr:=l.filterMap (·.frame)
noncomputable abbrev Cx.fs (X:Cx):List Addr:=frs X.outer
noncomputable def Vis (sc:Scope) (x:Str):Prop:=sc.names.lookup x=some .local∨sc.names.lookup x=some .cell∨sc.names.lookup x=some .free
noncomputable def Loc (sc:Scope) (x:Str):Prop:=sc.names.lookup x=some .local∨sc.names.lookup x=some .cell
noncomputable def Look (env:Env) (h:Heap) (m:Str->Option Value) (x:Str) (u:Value):Prop :=
 (env.kindOf x=some .local/\m x=some u)∨((env.kindOf x=some .cell∨env.kindOf x=some .free)/\∃ c,env.cells.lookup x=some c/\h.IsCell c (some u))
structure Cx.Ok (X:Cx):Prop where
 mod:Mod X.K X.mg X.base
 kind:X.env.scope.kind = .function
 glob:X.env.globals=mainGlobals
 blt:X.env.builtins=builtinsNs
 above:X.s₀.heap.objs.size<=X.env.locals
 inj:∀ x y c,X.env.cells.lookup x=some c->X.env.cells.lookup y=some c->x=y
 has:∀ x,(X.env.kindOf x=some .cell∨X.env.kindOf x=some .free)->∃ c,X.env.cells.lookup x=some c
 cab:∀ x c,X.fn x=true->X.env.cells.lookup x=some c->X.s₀.heap.objs.size<=c
 hd:X.calm=true->X.A.handled=none
 frames:X.A.frames=some X.stack
 stk:X.stack=X.outer∨(X.stack=X.env::X.outer/\X.env.frame=some X.env.locals)
 exf:∀ b∈X.ex,b≠X.env.locals/\∀ x c,X.env.cells.lookup x=some c->c≠b
 bs:∀ b o,X.base.get? b=some o->X.s₀.heap.get? b=some o/\X.H₀ b=none
 bsz:X.base.objs.size<=X.s₀.heap.objs.size
 noex:∀ b o,X.base.get? b=some o->b ∉ X.ex
 exfs:∀ b∈X.ex,b ∉ X.fs
 o4:X.s₀.heap.FunFrames X.base X.outer
 frf:∀ b∈X.fs,X.H₀ b=none
structure Inv (X:Cx) (pins:List (Addr × Obj)) (σ:List (Option V)) (H:Hp) (s:Shared):Prop where
 ok:X.Ok
 os:s.os=X.s₀.os
 bare:AllBare s.gens
 base:Un X.fs X.ex X.H₀ H X.s₀.heap s.heap
 loc:∃ m,s.heap.Ns X.env.locals m/\∀ (i:Nat) (x:Str) (v:V),X.N[i]? = some x->σ[i]? = some (some v)->Vis X.env.scope x->∃ u,RelV v u/\Look X.env s.heap m x u
 cell:∀ x c,X.env.cells.lookup x=some c->∃ v,s.heap.IsCell c v
 free:H X.env.locals=none
 freeC:∀ x c,X.env.cells.lookup x=some c->H c=none
 pin:∀ p∈X.pn++pins,s.heap.get? p.1=some p.2/\H p.1=none/\p.1≠X.env.locals/\p.1 ∉ X.fs/\∀ v,p.2.data≠.cell v
 hok:HOk X.prog X.w H s.heap
 len:σ.length=X.N.length
section
variable {X:Cx} {pins:List (Addr × Obj)} {σ:List (Option V)} {H H':Hp} {s:Shared} {h':Heap}
theorem Cx.Ok.PK (ok:X.Ok) {b:Addr} {o:Obj} (e:X.base.get? b=some o):b ∉ X.fs:=fun hb=>by
 have:=(ok.o4.mem hb).1
 rw[e] at this; cases this
theorem Inv.bs (I:Inv X pins σ H s):∀ b o,X.base.get? b=some o->s.heap.get? b=some o/\H b=none:=fun b o e =>
 ⟨I.base.keep b o (I.ok.bs b o e).1 (I.ok.bs b o e).2 (I.ok.PK e) (I.ok.noex b o e),I.base.free b o (I.ok.bs b o e).1 (I.ok.bs b o e).2 (I.ok.noex b o e)⟩
theorem Inv.bk (I:Inv X pins σ H s):∀ b o,X.base.get? b=some o->s.heap.get? b=some o:=fun b o e=>(I.bs b o e).1
theorem Inv.mod (I:Inv X pins σ H s):Mod X.K X.mg X.base:=I.ok.mod
theorem Inv.kIn (I:Inv X pins σ H s):X.K.In s.heap:=I.ok.mod.kin.keeps I.bk
theorem Inv.nolimit (I:Inv X pins σ H s):s.heap.NoLimit:=I.ok.mod.nolimit.keeps I.bk
theorem Inv.fr (I:Inv X pins σ H s):∃ m,Fr X.base X.env.locals s.heap m :=
 let ⟨m,hn,_⟩:=I.loc
 ⟨m,hn,I.bk,Nat.le_trans I.ok.bsz I.ok.above⟩
theorem Inv.lt (I:Inv X pins σ H s):X.env.locals < s.heap.objs.size:=let ⟨_,hn,_⟩:=I.loc; hn.lt
theorem Inv.sz (I:Inv X pins σ H s):X.s₀.heap.objs.size<=s.heap.objs.size:=Nat.le_trans I.ok.above (Nat.le_of_lt I.lt)
theorem Inv.Pk (I:Inv X pins σ H s) {a:Addr} (h:s.heap.objs.size<=a):a ∉ X.fs:=fun hb=>by
 obtain⟨_,o,ho,_⟩:=I.ok.o4.mem hb
 exact absurd (Nat.lt_of_lt_of_le (Heap.lt_size ho) (Nat.le_trans I.sz h)) (Nat.lt_irrefl _)
theorem Inv.cne (I:Inv X pins σ H s):∀ x c,X.env.cells.lookup x=some c->c≠X.env.locals:=fun x c e z=>by
 obtain⟨v,o,ho,hd⟩:=I.cell x c e
 obtain⟨m,⟨o',es,ep,ho',hd',_⟩,_⟩:=I.loc
 rw[z,ho'] at ho; cases ho; rw[hd'] at hd; cases hd
theorem Inv.o4 (I:Inv X pins σ H s):s.heap.FunFrames X.base X.outer:=by
 have all:∀ (l:List Env),(∀ b∈frs l,b∈X.fs)->X.s₀.heap.FunFrames X.base l->s.heap.FunFrames X.base l:=by
  intro l
  induction l with
  | nil=>intro _ _; trivial
  | cons env r ih =>
   intro hs hl
   obtain⟨hk,⟨L,o,hf,hn,ho,hd⟩,hr⟩:=hl
   have hL:L∈X.fs:=hs L (by unfold frs; rw[List.filterMap_cons,hf]; exact List.mem_cons_self)
   obtain⟨sl,e⟩:=I.base.slot L o ho (I.ok.frf L hL) hL fun z=>I.ok.exfs L z hL
   exact⟨hk,⟨L,_,hf,hn,e,hd⟩,ih (fun b hb=>hs b (by unfold frs; rw[List.filterMap_cons,hf]; exact List.mem_cons_of_mem _ hb)) hr⟩
 exact all X.outer (fun _ hb=>hb) I.ok.o4
theorem Inv.stack (I:Inv X pins σ H s):s.heap.FunFrames X.base X.stack:=by
 rcases I.ok.stk with e | ⟨e,hf⟩
 ·rw[e]; exact I.o4
 ·rw[e]
  obtain⟨m,hn,_⟩:=I.loc
  refine .cons (by rw[I.ok.kind]; decide) hf hn ?_ I.o4
  exact Heap.get?_none_of_le (Nat.le_trans I.ok.bsz I.ok.above)
theorem Inv.pI (I:Inv X pins σ H s):∀ b∈frs X.stack,b∈X.env.locals::X.fs:=fun b hb=>by
 rcases I.ok.stk with e | ⟨e,hf⟩
 ·rw[e] at hb; exact List.mem_cons_of_mem _ hb
 ·rw[e] at hb
  unfold frs at hb
  rw[List.filterMap_cons,hf] at hb
  exact hb
theorem Inv.qK (I:Inv X pins σ H s):∀ b∈frs X.stack,H b=none:=fun b hb=>by
 rcases List.mem_cons.mp (I.pI b hb) with e | hb
 ·rw[e]; exact I.free
 ·obtain⟨_,o,ho,_⟩:=I.ok.o4.mem hb
  exact I.base.free b o ho (I.ok.frf b hb) fun z=>I.ok.exfs b z hb
theorem Inv.step {g':Array GenState} {t':Nat} {d':Drawn} {ch:List Addr} (I:Inv X pins σ H s)
  (hch:∀ b∈ch,(b∈X.ex∨X.s₀.heap.objs.size<=b)/\b≠X.env.locals/\(∀ x c,X.env.cells.lookup x=some c->c≠b)/\∀ p∈X.pn++pins,p.1≠b)
  (keep:∀ b o,b≠X.env.locals->b ∉ X.fs->b ∉ ch->s.heap.get? b=some o->H b=none->h'.get? b=some o)
  (slot:∀ b o,b≠X.env.locals->b∈X.fs->b ∉ ch->s.heap.get? b=some o->H b=none->∃ sl,h'.get? b=some { o with slots:=sl }) (free:∀ b o,b ∉ ch->s.heap.get? b=some o->H b=none->H' b=none)
  (there:∀ b o,b ∉ ch->s.heap.get? b=some o->∃ o',h'.get? b=some o')
  (tups:∀ b xs,H b=some (.tup xs)->H' b=some (.tup xs)) (frzs:∀ b o u,H b=some (.frz o u)->H' b=some (.frz o u)) (tbls:∀ b ps,H b=some (.tbl ps)->∃ more,H' b=some (.tbl (ps++more)))
  (ns:∀ m,s.heap.Ns X.env.locals m->h'.Ns X.env.locals m) (hok:HOk X.prog X.w H' h') (hg:AllBare g') :
  Inv X pins σ H' { s with heap:=h',gens:=g',drawn:=d',toks:=t' }:=by
 have neL:∀ b o,X.s₀.heap.get? b=some o->b≠X.env.locals:=fun b o e=>Nat.ne_of_lt (Nat.lt_of_lt_of_le (Heap.lt_size e) I.ok.above)
 have neC:∀ b o,X.s₀.heap.get? b=some o->b ∉ X.ex->b ∉ ch:=fun b o e hx hb=>by
  rcases (hch b hb).1 with z | z
  ·exact hx z
  ·exact absurd (Nat.lt_of_lt_of_le (Heap.lt_size e) z) (Nat.lt_irrefl _)
 have cellK:∀ x c,X.env.cells.lookup x=some c->∀ v,s.heap.IsCell c v->h'.IsCell c v:=fun x c e v ⟨o,ho,hd⟩=>by
  have nch:c ∉ ch:=fun z=>(hch c z).2.2.1 x c e rfl
  by_cases hc:c∈X.fs
  ·obtain⟨sl,q⟩:=slot c o (I.cne x c e) hc nch ho (I.freeC x c e)
   exact⟨_,q,hd⟩
  ·exact⟨o,keep c o (I.cne x c e) hc nch ho (I.freeC x c e),hd⟩
 refine⟨I.ok,I.os,hg,⟨fun b o e n hb hx=>?_,fun b o e n hb hx=>?_,fun b o e n hx=>?_,fun b o e hx=>?_,fun b xs e=>tups b xs (I.base.tups b xs e),fun b o xs e=>frzs b o xs (I.base.frzs b o xs e),fun b ps e=>?_⟩,?_,fun x c e=>?_,?_,fun x c e=>?_,fun p hp=>?_,hok,I.len⟩
 ·exact keep b o (neL b o e) hb (neC b o e hx) (I.base.keep b o e n hb hx) (I.base.free b o e n hx)
 ·obtain⟨sl,e1⟩:=I.base.slot b o e n hb hx
  obtain⟨sl',e2⟩:=slot b _ (neL b o e) hb (neC b o e hx) e1 (I.base.free b o e n hx)
  exact⟨sl',e2⟩
 ·obtain⟨o',e1⟩:=I.base.there b o e hx
  exact free b o' (neC b o e hx) e1 (I.base.free b o e n hx)
 ·obtain⟨o',e1⟩:=I.base.there b o e hx
  exact there b o' (neC b o e hx) e1
 ·obtain⟨m1,e1⟩:=I.base.tbls b ps e
  obtain⟨m2,e2⟩:=tbls b _ e1
  exact⟨m1++m2,by rw[e2,Array.append_assoc]⟩
 ·obtain⟨m,hn,hl⟩:=I.loc
  refine⟨m,ns m hn,fun i x v e1 e2 e3=>?_⟩
  obtain⟨u,r,l⟩:=hl i x v e1 e2 e3
  refine⟨u,r,?_⟩
  rcases l with l | ⟨k,c,e,z⟩
  ·exact .inl l
  ·exact .inr ⟨k,c,e,cellK x c e _ z⟩
 ·obtain⟨v,z⟩:=I.cell x c e
  exact⟨v,cellK x c e v z⟩
 ·obtain⟨m,⟨o,_,_,ho,_⟩,_⟩:=I.loc
  exact free _ o (fun z=>(hch _ z).2.1 rfl) ho I.free
 ·obtain⟨v,o,ho,hd⟩:=I.cell x c e
  exact free c o (fun z=>(hch c z).2.2.1 x c e rfl) ho (I.freeC x c e)
 ·obtain⟨e,n,ne,nf,d⟩:=I.pin p hp
  have nch:p.1 ∉ ch:=fun z=>(hch p.1 z).2.2.2 p hp rfl
  exact⟨keep p.1 p.2 ne nf nch e n,free p.1 p.2 nch e n,ne,nf,d⟩
theorem Inv.un {t':Nat} (I:Inv X pins σ H s) (u:Un X.fs [] H H' s.heap h') (hok:HOk X.prog X.w H' h'):Inv X pins σ H' { s with heap:=h',toks:=t' }:=by
 obtain⟨m,⟨o,es,ep,ho,r⟩,_⟩:=id I.loc
 obtain⟨sl,hL⟩:=u.any ho I.free (by simp)
 exact I.step (g':=s.gens) (d':=s.drawn) (ch:=[]) (fun _ z=>nomatch z) (fun b o _ hb _ e n=>u.keep b o e n hb (by simp)) (fun b o _ hb _ e n=>u.slot b o e n hb (by simp)) (fun b o _ e n=>u.free b o e n (by simp)) (fun b o _ e=>u.there b o e (by simp)) u.tups u.frzs u.tbls (fun m' hm=>by
  obtain⟨o',es',ep',ho',r'⟩:=hm
  rw[ho] at ho'; cases ho'
  exact⟨_,es',ep',hL,r'⟩) hok I.bare
theorem Inv.call {g':Array GenState} {t':Nat} {d':Drawn} {ch:List Addr} (I:Inv X pins σ H s) (u:Un (frs X.stack) ch H H' s.heap h') (hok:HOk X.prog X.w H' h') (hg:AllBare g')
  (hch:∀ b∈ch,(b∈X.ex∨X.s₀.heap.objs.size<=b)/\b≠X.env.locals/\(∀ x c,X.env.cells.lookup x=some c->c≠b)/\∀ p∈X.pn++pins,p.1≠b) :
  Inv X pins σ H' { s with heap:=h',gens:=g',drawn:=d',toks:=t' }:=by
 obtain⟨m,⟨o,es,ep,ho,r⟩,_⟩:=id I.loc
 obtain⟨sl,hL⟩:=u.any ho I.free fun z=>(hch _ z).2.1 rfl
 exact I.step (ch:=ch) hch (fun b o hL hb hc e n=>u.keep b o e n (fun z=>(List.mem_cons.mp (I.pI b z)).elim hL hb) hc) (fun b o _ _ hc e n=>u.any e n hc) (fun b o hc e n=>u.free b o e n hc) (fun b o hc e=>u.there b o e hc) u.tups u.frzs u.tbls (fun m' hm=>by
  obtain⟨o',es',ep',ho',r'⟩:=hm
  rw[ho] at ho'; cases ho'
  exact⟨_,es',ep',hL,r'⟩) hok hg
theorem Inv.turned {t':Nat} {it:Addr} (I:Inv X pins σ H s) (k:∀ b o,b≠it->s.heap.get? b=some o->h'.get? b=some o) (hn:H it=none) (hL:it≠X.env.locals)
  (h1:it∈X.ex∨X.s₀.heap.objs.size<=it) (h2:∀ x c,X.env.cells.lookup x=some c->c≠it) (h3:∀ p∈X.pn++pins,p.1≠it):Inv X pins σ H { s with heap:=h',toks:=t' }:=by
 have nit:∀ b u,H b=some u->b≠it:=fun b u e z=>by rw[z,hn] at e; cases e
 refine I.step (g':=s.gens) (d':=s.drawn) (ch:=[it]) (fun b hb=>?_) (fun b o _ _ hc e _=>k b o (fun z=>hc (by simp [z])) e) (fun b o _ _ hc e _=>⟨o.slots,k b o (fun z=>hc (by simp [z])) e⟩) (fun _ _ _ _ n=>n)
  (fun b o hc e=>⟨o,k b o (fun z=>hc (by simp [z])) e⟩) (fun _ _ e=>e) (fun _ _ _ e=>e) (fun b ps e=>⟨#[],by rw[e]; simp⟩) (fun m hm=>?_) (fun b u e=>?_) I.bare
 ·have e:b=it:=by simpa using hb
  subst e
  exact⟨h1,hL,h2,h3⟩
 ·obtain⟨o,es,ep,ho,r⟩:=hm
  exact⟨o,es,ep,k _ o (Ne.symm hL) ho,r⟩
 ·refine (I.hok b u e).stay (fun c v hc q=>k c v ?_ q) (fun _ q=>q) fun _ _ q=>q
  rcases hc with z | z
  ·rw[z]; exact nit b u e
  ·exact nit c _ z
theorem Inv.tok (I:Inv X pins σ H s) (t:Nat):Inv X pins σ H { s with toks:=t }:=I.un (h':=s.heap) (t':=t) Un.refl I.hok
theorem Inv.kept {t':Nat} (I:Inv X pins σ H s) (k:∀ b u,s.heap.get? b=some u->h'.get? b=some u):Inv X pins σ H { s with heap:=h',toks:=t' }:=I.un (Un.kept k) (I.hok.kept k)
theorem Inv.laid {a:Addr} {o:HO} {t':Nat} (I:Inv X pins σ H s) (k:∀ b u,s.heap.get? b=some u->h'.get? b=some u) (hp:s.heap.objs.size<=a) (new:fV X.prog X.w (upd H a o) h' a o) :
  Inv X pins σ (upd H a o) { s with heap:=h',toks:=t' }:=I.un (Un.laid k hp (I.hok.fresh hp)) (I.hok.laid k hp new)
theorem Inv.write {x e:Addr} {o:HO} {t':Nat} (I:Inv X pins σ H s) (mu:Mut (H x)) (he:e=x∨H e=some (.own x)) (k:∀ b u,b≠e->s.heap.get? b=some u->h'.get? b=some u) (heo:∃ u,h'.get? e=some u)
  (new:fV X.prog X.w (upd H x o) h' x o):Inv X pins σ (upd H x o) { s with heap:=h',toks:=t' }:=I.un (Un.write mu he k heo) (I.hok.write mu he k heo new)
theorem Inv.Cz {pins':List (Addr × Obj)} (I:Inv X pins σ H s) (h:∀ p∈pins',s.heap.get? p.1=some p.2/\H p.1=none/\p.1≠X.env.locals/\p.1 ∉ X.fs/\∀ v,p.2.data≠.cell v):Inv X pins' σ H s :=
 ⟨I.ok,I.os,I.bare,I.base,I.loc,I.cell,I.free,I.freeC,fun p hp=>(List.mem_append.mp hp).elim (fun z=>I.pin p (List.mem_append_left _ z)) (h p),I.hok,I.len⟩
theorem xH {N:List Str} (hN:N.Nodup) {i j:Nat} {x:Str} (a:N[i]? = some x) (b:N[j]? = some x):i=j:=by
 obtain⟨h1,e1⟩:=List.getElem?_eq_some_iff.mp a
 obtain⟨h2,e2⟩:=List.getElem?_eq_some_iff.mp b
 exact (List.getElem_inj hN).mp (e1.trans e2.symm)
theorem nU {M:Model} {A:Around} {E:Value->Shared->Prop} {i:Nat} {x:Str} {v:V} {u:Value} {Q:Unit->Shared->Prop} (I:Inv X pins σ H s) (hN:X.N.Nodup) (hi:X.N[i]? = some x) (hx:Loc X.env.scope x) (r:RelV v u)
  (h:∀ s',Inv X pins (σ.set i (some v)) H s'->(∃ a,Heap.SameBut a s.heap s'.heap/\(a=X.env.locals∨X.env.cells.lookup x=some a))->Q () s') (hf : autoParam (X.fn x=true∨X.env.scope.names.lookup x=some .local) L2.az1._auto_1):wpAny M A (storeName X.env x u) Q E s:=by
 obtain⟨m,hn,hl⟩:=id I.loc
 have hcls:(X.env.scope.kind == .class || (X.env.scope.kind == .module && X.env.locals != X.env.globals))=false:=by rw[I.ok.kind]; rfl
 have hiσ:i < σ.length:=by rw[I.len]; exact (List.getElem?_eq_some_iff.mp hi).1
 have cne:=I.cne
 have tracked:∀ {a:Addr} {h':Heap},(∃ o,s.heap.get? a=some o/\H a=none)->Heap.SameBut a s.heap h'->HOk X.prog X.w H h':=fun {a h'} ha hs b ob e=>by
  obtain⟨_,_,hfree⟩:=ha
  refine (I.hok b ob e).stay (fun c w' hc q=>(hs.2 c ?_).trans q) (fun _ q=>q) fun _ _ q=>q
  rintro rfl
  rcases hc with rfl | hc
  ·rw[hfree] at e; cases e
  ·rw[hfree] at hc; cases hc
 rcases hx with hk | hk
 ·refine wpAny_storeName_local hk hn (fun h' hn' hs=>?_) hcls
  obtain⟨oL,_,_,hoL,_⟩:=id hn
  refine h _ ⟨I.ok,I.os,I.bare,⟨fun b o e n hb hx=>?_,fun b o e n hb hx=>?_,I.base.free,fun b o e hx=>?_,I.base.tups,I.base.frzs,I.base.tbls⟩,⟨_,hn',fun j y v' e1 e2 e3=>?_⟩,fun y c e=>?_,I.free,I.freeC,fun p hp=>?_,tracked ⟨oL,hoL,I.free⟩ hs,by simpa using I.len⟩ ⟨_,hs,.inl rfl⟩
  ·exact (hs.2 b (Nat.ne_of_lt (Nat.lt_of_lt_of_le (Heap.lt_size e) I.ok.above))).trans (I.base.keep b o e n hb hx)
  ·obtain⟨sl,e1⟩:=I.base.slot b o e n hb hx
   exact⟨sl,(hs.2 b (Nat.ne_of_lt (Nat.lt_of_lt_of_le (Heap.lt_size e) I.ok.above))).trans e1⟩
  ·obtain⟨o',e1⟩:=I.base.there b o e hx
   exact⟨o',(hs.2 b (Nat.ne_of_lt (Nat.lt_of_lt_of_le (Heap.lt_size e) I.ok.above))).trans e1⟩
  ·by_cases hj:j=i
   ·subst hj
    rw[hi] at e1; cases e1
    rw[List.getElem?_set_self hiσ] at e2
    cases e2
    exact⟨u,r,.inl ⟨hk,by simp⟩⟩
   ·rw[List.getElem?_set_ne (Ne.symm hj)] at e2
    obtain⟨u',r',q⟩:=hl j y v' e1 e2 e3
    refine⟨u',r',?_⟩
    rcases q with⟨k,e⟩ | ⟨k,c,e,z⟩
    ·refine .inl ⟨k,?_⟩
     have:y≠x:=fun e=>hj (xH hN e1 (e▸hi))
     simp [this,e]
    ·exact .inr ⟨k,c,e,z.sameBut hs (cne y c e)⟩
  ·obtain⟨w',z⟩:=I.cell y c e
   exact⟨w',z.sameBut hs (cne y c e)⟩
  ·obtain⟨e,n,ne,nf,d⟩:=I.pin p hp
   exact⟨(hs.2 p.1 ne).trans e,n,ne,nf,d⟩
 ·have hfn:X.fn x=true:=by
   rcases hf with z | z
   ·exact z
   ·rw[z] at hk; cases hk
  obtain⟨c,hc⟩:=I.ok.has x (.inl hk)
  obtain⟨w',z⟩:=I.cell x c hc
  refine wpAny_storeName_cell I.ok.kind hk hc z (fun h' hc' hs=>?_)
  obtain⟨oc,hoc,hocd⟩:=id z
  refine h { s with heap:=h' } ⟨I.ok,I.os,I.bare,⟨fun b o e n hb hx=>?_,fun b o e n hb hx=>?_,I.base.free,fun b o e hx=>?_,I.base.tups,I.base.frzs,I.base.tbls⟩,⟨m,hn.sameBut hs (Ne.symm (cne x c hc)),fun j y v' e1 e2 e3=>?_⟩,fun y c' e=>?_,I.free,I.freeC,fun p hp=>?_,tracked ⟨oc,hoc,I.freeC x c hc⟩ hs,by simpa using I.len⟩ ⟨c,hs,.inr hc⟩
  ·exact (hs.2 b (Nat.ne_of_lt (Nat.lt_of_lt_of_le (Heap.lt_size e) (I.ok.cab x c hfn hc)))).trans (I.base.keep b o e n hb hx)
  ·obtain⟨sl,e1⟩:=I.base.slot b o e n hb hx
   exact⟨sl,(hs.2 b (Nat.ne_of_lt (Nat.lt_of_lt_of_le (Heap.lt_size e) (I.ok.cab x c hfn hc)))).trans e1⟩
  ·obtain⟨o',e1⟩:=I.base.there b o e hx
   exact⟨o',(hs.2 b (Nat.ne_of_lt (Nat.lt_of_lt_of_le (Heap.lt_size e) (I.ok.cab x c hfn hc)))).trans e1⟩
  ·by_cases hj:j=i
   ·subst hj
    rw[hi] at e1; cases e1
    rw[List.getElem?_set_self hiσ] at e2
    cases e2
    exact⟨u,r,.inr ⟨.inl hk,c,hc,hc'⟩⟩
   ·rw[List.getElem?_set_ne (Ne.symm hj)] at e2
    obtain⟨u',r',q⟩:=hl j y v' e1 e2 e3
    refine⟨u',r',?_⟩
    rcases q with q | ⟨k,c',e,z'⟩
    ·exact .inl q
    ·refine .inr ⟨k,c',e,z'.sameBut hs ?_⟩
     rintro rfl
     exact hj (xH hN e1 (I.ok.inj _ _ _ e hc▸hi))
  ·by_cases hcc:c'=c
   ·subst hcc; exact⟨_,hc'⟩
   ·obtain⟨w2,z2⟩:=I.cell y c' e
    exact⟨w2,z2.sameBut hs hcc⟩
  ·obtain⟨e,n,ne,nf,d⟩:=I.pin p hp
   refine⟨(hs.2 p.1 ?_).trans e,n,ne,nf,d⟩
   intro q
   rw[q,hoc] at e
   have q':oc=p.2:=Option.some.inj e
   exact d w' (by rw[← q']; exact hocd)
theorem rM {M:Model} {A:Around} {E:Value->Shared->Prop} {i:Nat} {x:Str} {v:V} {u:Value} {Q:Unit->Shared->Prop} (I:Inv X pins σ H s) (hN:X.N.Nodup) (hi:X.N[i]? = some x) (hx:Loc X.env.scope x) (r:RelV v u)
  (h:∀ s',Inv X pins (σ.set i (some v)) H s'->Q () s') (hf : autoParam (X.fn x=true∨X.env.scope.names.lookup x=some .local) L2.az1._auto_1):wpAny M A (storeName X.env x u) Q E s :=
 nU I hN hi hx r (fun s' I' _=>h s' I') hf
theorem Inv.call' {s':Shared} {ch:List Addr} (I:Inv X pins σ H s) (ho:s'.os=s.os) (u:Un (frs X.stack) ch H H' s.heap s'.heap) (hok:HOk X.prog X.w H' s'.heap) (hg:AllBare s'.gens)
  (hch:∀ b∈ch,(b∈X.ex∨X.s₀.heap.objs.size<=b)/\b≠X.env.locals/\(∀ x c,X.env.cells.lookup x=some c->c≠b)/\∀ p∈X.pn++pins,p.1≠b):Inv X pins σ H' s':=by
 obtain⟨h',g',d',t',o'⟩:=s'
 have e:o'=s.os:=ho
 subst e
 exact I.call (g':=g') (t':=t') (d':=d') u hok hg hch
end
noncomputable abbrev XK:=Value->Option Addr->Hp->Prop
noncomputable abbrev St:=List (Option V)
noncomputable abbrev VK:=V->Hp->Prop
noncomputable abbrev TE:=St->Hp->VK->Prop
noncomputable abbrev TT:=St->Hp->(Bool->Hp->Prop)->Prop
noncomputable abbrev TA:=St->Hp->(List V->Hp->Prop)->Prop
structure Ends where
 nx:St->Hp->Prop
 rt:VK
 bk:St->Hp->Prop:=fun _ _=>False
 ct:St->Hp->Prop:=fun _ _=>False
noncomputable abbrev TS:=Ends->St->Hp->Prop
inductive EP (X:Cx) (pins:List (Addr × Obj)) (σ:St) (Q:VK) (u:Value) (s':Shared):Prop where
 | mk (v:V) (H':Hp) (z0:Inv X pins σ H' s') (z1:RelV v u) (z2:Q v H'):EP X pins σ Q u s'
noncomputable def TP (X:Cx) (pins:List (Addr × Obj)) (σ:St) (Q:Bool->Hp->Prop) (b:Bool) (s':Shared):Prop:=∃ H',Inv X pins σ H' s'/\Q b H'
inductive AP (X:Cx) (pins:List (Addr × Obj)) (σ:St) (Q:List V->Hp->Prop) (us:List Value) (s':Shared):Prop where
 | mk (vs:List V) (H':Hp) (z0:Inv X pins σ H' s') (z1:Vals vs us) (z2:Q vs H'):AP X pins σ Q us s'
noncomputable def SP (X:Cx) (pins:List (Addr × Obj)) (D:Ends) (f:Flow) (s':Shared):Prop :=
 match f with
 | .next=>∃ σ' H',Inv X pins σ' H' s'/\D.nx σ' H'
 | .brk=>∃ σ' H',Inv X pins σ' H' s'/\D.bk σ' H'
 | .cont=>∃ σ' H',Inv X pins σ' H' s'/\D.ct σ' H'
 | .ret u=>∃ v σ' H',Inv X pins σ' H' s'/\RelV v u/\D.rt v H'
noncomputable def PE (X:Cx) (e:Expr) (t:TE):Prop :=
 ∀ (pins:List (Addr × Obj)) (s:Shared) (σ:St) (H:Hp) (Q:VK),Inv X pins σ H s->t σ H Q->wpAny (model X.prog X.w) X.A (eval e X.env) (EP X pins σ Q) X.xe s
noncomputable def PT (X:Cx) (e:Expr) (t:TT):Prop :=
 ∀ (pins:List (Addr × Obj)) (s:Shared) (σ:St) (H:Hp) (Q:Bool->Hp->Prop),Inv X pins σ H s->t σ H Q->wpAny (model X.prog X.w) X.A (isTrue e X.env (eval e X.env)) (TP X pins σ Q) X.xe s
noncomputable def PW (X:Cx) (e:Expr) (t:TT):Prop :=
 ∀ (whole:Sem Value) (pins:List (Addr × Obj)) (s:Shared) (σ:St) (H:Hp) (Q:Bool->Hp->Prop),Inv X pins σ H s->t σ H Q->wpAny (model X.prog X.w) X.A (isTrue e X.env whole) (TP X pins σ Q) X.xe s
theorem PW.pt {X:Cx} {e:Expr} {t:TT} (h:PW X e t):PT X e t:=h _
noncomputable def PA (X:Cx) (es:List Expr) (t:TA):Prop :=
 ∀ (pos:Pos) (pins:List (Addr × Obj)) (s:Shared) (σ:St) (H:Hp) (Q:List V->Hp->Prop),Inv X pins σ H s->t σ H Q->wpAny (model X.prog X.w) X.A (spliced (backTo pos (starEach es X.env))) (AP X pins σ Q) X.xe s
noncomputable def PS (X:Cx) (st:Stmt) (t:TS):Prop :=
 ∀ (pins:List (Addr × Obj)) (s:Shared) (σ:St) (H:Hp) (D:Ends),Inv X pins σ H s->t D σ H->wpAny (model X.prog X.w) X.A (exec st X.env) (SP X pins D) X.xe s
noncomputable def PSs (X:Cx) (st:List Stmt) (t:TS):Prop :=
 ∀ (pins:List (Addr × Obj)) (s:Shared) (σ:St) (H:Hp) (D:Ends),Inv X pins σ H s->t D σ H->wpAny (model X.prog X.w) X.A (execs st X.env) (SP X pins D) X.xe s
theorem thn {α:Type} {t:Sem α} {Q Q':α->Shared->Prop} {M:Model} {A:Around} {E:Value->Shared->Prop} {s:Shared} (h:wpAny M A t Q E s) (hQ:∀ a s,Q a s->Q' a s):wpAny M A t Q' E s:=wpAny_mono h hQ fun _ _ x=>x
end L2
namespace L2
open PySem PySem.Spec PyProof.Rows
section
variable {X:Cx}
inductive ExB (x:V) (P:Bool->Prop):Prop where
 | mk (c:Bool) (z0:x = .bl c) (z1:P c):ExB x P
inductive M3 (i:Nat) (σ:St) (H:Hp) (Q:VK):Prop where
 | mk (v:V) (z0:σ[i]? = some (some v)) (z1:Q v H):M3 i σ H Q
noncomputable def Ka (i:Nat):TE:=fun σ H Q=>M3 i σ H Q
noncomputable def tC (v:V):TE:=fun _ H Q=>Q v H
theorem HJ {i:Nat} {x:Str} {pos:Pos} (hN:X.N[i]? = some x) (hv:Vis X.env.scope x) (hd : autoParam ((x == ("__debug__" : Str))=false) L2.az2._auto_1) (hcd : autoParam ((x == ("__classdict__" : Str))=false) L2.az2._auto_1):PE X (.Name x pos) (Ka i):=by
 intro pins s σ H Q I h
 obtain⟨v,e,h⟩:=h
 obtain⟨m,hn,hl⟩:=I.loc
 obtain⟨u,r,l⟩:=hl i x v hN e hv
 have fin:EP X pins σ Q u s:=⟨v,H,I,r,h⟩
 rcases l with⟨hk,hm⟩ | ⟨hk,c,hc,hcell⟩
 ·exact wpAny_Name (wpAny_loadName_local I.ok.kind hk hn hm fin) hd
 ·rcases hk with hk | hk
  ·exact wpAny_Name (wpAny_loadName_cell I.ok.kind hk hc hcell fin) hd
  ·exact wpAny_Name (wpAny_loadName_free I.ok.kind hk hc hcell fin hcd) hd
theorem au {i j pos}:PE X (.Constant (.int i) j pos) (tC (.int i)):=fun _ _ _ H _ I h=>wpAny_Constant_int ⟨.int i,H,I.tok _,⟨_,rfl⟩,h⟩
theorem j5 {b j pos}:PE X (.Constant (.bool b) j pos) (tC (.bl b)):=fun _ _ _ H _ I h=>Constant_bool ⟨.bl b,H,I,rfl,h⟩
theorem bG {x j pos}:PE X (.Constant (.str x) j pos) (tC (.str x)):=fun _ _ _ H _ I h=>Calls.Constant_str ⟨.str x,H,I.tok _,⟨_,rfl⟩,h⟩
noncomputable def Gl (X:Cx) (x:Str):Prop:=X.env.kindOf x=some .globalImplicit
theorem nj {E:Value->Shared->Prop} {pins:List (Addr × Obj)} {s:Shared} {σ:St} {H:Hp} {x:Str} {u:Value} {pos:Pos} {Q:Value->Shared->Prop} (I:Inv X pins σ H s) (hg:Gl X x) (hm:X.mg x=some u) (h:Q u s)
  (hd : autoParam ((x == ("__debug__" : Str))=false) L2.az2._auto_1):wpAny (model X.prog X.w) X.A (eval (.Name x pos) X.env) Q E s :=
 Calls.Name_function_global I.ok.kind hg (Calls.loadGlobal_global (by rw[I.ok.glob]; exact I.mod.glob.keeps I.bk) hm h) hd
theorem iC {E:Value->Shared->Prop} {pins:List (Addr × Obj)} {s:Shared} {σ:St} {H:Hp} {x:Str} {u:Value} {pos:Pos} {Q:Value->Shared->Prop} (I:Inv X pins σ H s) (hg:Gl X x) (hm:X.mg x=none) (hv:bootBuiltins x=some u) (h:Q u s)
  (hn : autoParam (x≠"__name__") L2.az2._auto_1) (hd : autoParam ((x == ("__debug__" : Str))=false) L2.az2._auto_1):wpAny (model X.prog X.w) X.A (eval (.Name x pos) X.env) Q E s:=by
 obtain⟨mb,h1,h2⟩:=I.mod.blt
 exact Calls.Name_function_global I.ok.kind hg (Calls.loadGlobal_builtin (by rw[I.ok.glob]; exact I.mod.glob.keeps I.bk) hm (by rw[I.ok.blt]; exact h1.keeps I.bk) ((h2 x hn).trans hv) h) hd
theorem Ku {x:Str} {v:V} {u:Value} {pos:Pos} (hg:Gl X x) (hm:X.mg x=none) (hv:bootBuiltins x=some u) (r:RelV v u) (hn : autoParam (x≠"__name__") L2.az2._auto_1) (hd : autoParam ((x == ("__debug__" : Str))=false) L2.az2._auto_1):PE X (.Name x pos) (tC v) :=
 fun _ _ _ H _ I h=>iC I hg hm hv ⟨v,H,I,r,h⟩ hn hd
variable {a b:Expr} {ta tb:TE} {pos:Pos}
noncomputable def PC (X:Cx) (op:CmpOp) (a b:Expr) (t:TE):Prop :=
 ∀ (pins:List (Addr × Obj)) (s:Shared) (σ:St) (H:Hp) (Q:VK),Inv X pins σ H s->t σ H Q →
  wpAny (model X.prog X.w) X.A (eval a X.env) (fun v s₁=>wpAny (model X.prog X.w) X.A (eval b X.env) (fun u s₂=>wpAny (model X.prog X.w) X.A (compareOp op v u) (EP X pins σ Q) X.xe s₂) X.xe s₁) X.xe s
theorem Ep (b:Expr) {op:CmpOp} (h:op≠.In) (h2:op≠.NotIn):behindInMarks op b=false:=by
 have e1:(op == CmpOp.In)=false:=by cases op <;> first | rfl | exact absurd rfl h
 have e2:(op == CmpOp.NotIn)=false:=by cases op <;> first | rfl | exact absurd rfl h2
 cases b <;> simp [behindInMarks,e1,e2]
noncomputable def Pz (ta:TE):TE:=fun σ H Q=>ta σ H fun x H1=>Q (.bl (decide (x = .non))) H1
theorem RelV.Eg {x:V} {v:Value} (r:RelV x v):(v == Value.none)=decide (x = .non):=by
 cases x with
 | non=>cases r; rfl
 | bl _=>cases r; rfl
 | int _=>obtain⟨t,rfl⟩:=r; rfl
 | str _=>obtain⟨t,rfl⟩:=r; rfl
 | byt _=>obtain⟨t,rfl⟩:=r; rfl
 | flt _=>obtain⟨t,rfl⟩:=r; rfl
 | ref _=>cases r; rfl
 | ty _=>cases r; rfl
theorem Ib {j pos'} (ha:PE X a ta):PC X .Is a (.Constant .none j pos') (Pz ta):=by
 intro pins s σ H Q I h
 refine thn (ha pins s σ H _ I h) fun v s1 ⟨x,H1,I1,r1,q1⟩=>?_
 exact Constant_none (is_none_gen ⟨.bl _,H1,I1,by rw[r1.Eg]; rfl,q1⟩)
noncomputable def tB (t:TE):TT:=fun σ H Q=>t σ H fun x H1=>ExB x fun c=>Q c H1
theorem Mi {op:CmpOp} {t:TE} (h:PC X op a b t) (h1 : autoParam (behindInMarks op b=false) L2.az3._auto_1):PE X (.Compare a [op] [b] pos) t:=fun pins s σ H Q I hw=>wpAny_Compare1 (h pins s σ H Q I hw) h1
theorem Lh {op:CmpOp} {t:TE} (h:PC X op a b t) (h1 : autoParam (behindInMarks op b=false) L2.az3._auto_1):PT X (.Compare a [op] [b] pos) (tB t):=by
 intro pins s σ H Q I hw
 refine wpAny_isTrue_Compare1 (thn (h pins s σ H _ I hw) fun v s1 h1=>thn h1 fun u s2 h2=>thn h2 fun c s3 ⟨x,H1,I1,r1,q1⟩=>?_) h1
 obtain⟨d,rfl,q⟩:=q1
 cases r1
 exact wpAny_truthy_bool ⟨H1,I1,q⟩
theorem dG {e:Expr} {t:TE} (h:PE X e t) (he : autoParam (∀ whole,isTrue e X.env whole=(do let v ← whole; standAt e.pos; holding [v] (truthy v))) L2.az4._auto_1):PT X e (tB t):=by
 intro pins s σ H Q I hw
 refine isTrue_plain (thn (h pins s σ H _ I hw) fun v s1 ⟨x,H1,I1,r1,q1⟩=>?_) (he _)
 obtain⟨d,rfl,q⟩:=q1
 cases r1
 exact wpAny_truthy_bool ⟨H1,I1,q⟩
variable {tA tB':TT} {rest:List Expr}
noncomputable def Oz (t u:TT):TT:=fun σ H Q=>t σ H fun c H1=>if c=true then u σ H1 Q else Q false H1
noncomputable def tOr (t u:TT):TT:=fun σ H Q=>t σ H fun c H1=>if c=true then Q true H1 else u σ H1 Q
noncomputable def PB (t:TT):TT:=fun σ H Q=>t σ H fun c H1=>Q (!c) H1
theorem kO (ha:PT X a tA):PW X (.BoolOp .And [a] pos) tA:=by
 intro wh pins s σ H Q I h
 refine isTrue_and (thn (ha pins s σ H Q I h) fun c s1 e=>?_)
 cases c with
 | true=>exact isTrue_and_nil e
 | false=>exact e
theorem Mh (ha:PT X a tA):PW X (.BoolOp .Or [a] pos) tA:=by
 intro wh pins s σ H Q I h
 refine isTrue_or (thn (ha pins s σ H Q I h) fun c s1 e=>?_)
 cases c with
 | false=>exact isTrue_or_nil e
 | true=>exact e
theorem pQ (ha:PT X a tA) (hb:PW X (.BoolOp .And (b::rest) pos) tB'):PW X (.BoolOp .And (a::b::rest) pos) (Oz tA tB'):=by
 intro wh pins s σ H Q I h
 refine isTrue_and (thn (ha pins s σ H _ I h) fun c s1 ⟨H1,I1,q1⟩=>?_)
 cases c with
 | true=>exact hb wh pins s1 σ H1 Q I1 q1
 | false=>exact⟨H1,I1,q1⟩
theorem N7 (ha:PT X a tA) (hb:PW X (.BoolOp .Or (b::rest) pos) tB'):PW X (.BoolOp .Or (a::b::rest) pos) (tOr tA tB'):=by
 intro wh pins s σ H Q I h
 refine isTrue_or (thn (ha pins s σ H _ I h) fun c s1 ⟨H1,I1,q1⟩=>?_)
 cases c with
 | true=>exact⟨H1,I1,q1⟩
 | false=>exact hb wh pins s1 σ H1 Q I1 q1
theorem lG (ha:PT X a tA):PT X (.UnaryOp .Not a pos) (PB tA):=by
 intro pins s σ H Q I h
 exact isTrue_not (ha pins s σ H (fun c H1=>Q (!c) H1) I h)
noncomputable def Nr (ta tb:TE):TE:=fun σ H Q=>ta σ H fun x H1=>ExB x fun c=>if c=true then tb σ H1 Q else Q (.bl false) H1
noncomputable def PJ (ta tb:TE):TE:=fun σ H Q=>ta σ H fun x H1=>ExB x fun c=>if c=true then Q (.bl true) H1 else tb σ H1 Q
theorem tW {op} {t:TE} (h:PE X a t):PE X (.BoolOp op [a] pos) t:=fun pins s σ H Q I hw=>BoolOp_one (h pins s σ H Q I hw)
theorem ux (ha:PE X a ta) (hb:PE X (.BoolOp .And (b::rest) pos) tb):PE X (.BoolOp .And (a::b::rest) pos) (Nr ta tb):=by
 intro pins s σ H Q I h
 refine BoolOp_and (thn (ha pins s σ H _ I h) fun v s1 ⟨x,H1,I1,r1,q1⟩=>?_)
 obtain⟨c,rfl,q1⟩:=q1
 cases r1
 refine wpAny_truthy_bool ?_
 cases c with
 | true=>exact hb pins s1 σ H1 Q I1 q1
 | false=>exact⟨.bl false,H1,I1,rfl,q1⟩
theorem Nt (ha:PE X a ta) (hb:PE X (.BoolOp .Or (b::rest) pos) tb):PE X (.BoolOp .Or (a::b::rest) pos) (PJ ta tb):=by
 intro pins s σ H Q I h
 refine BoolOp_or (thn (ha pins s σ H _ I h) fun v s1 ⟨x,H1,I1,r1,q1⟩=>?_)
 obtain⟨c,rfl,q1⟩:=q1
 cases r1
 refine wpAny_truthy_bool ?_
 cases c with
 | false=>exact hb pins s1 σ H1 Q I1 q1
 | true=>exact⟨.bl true,H1,I1,rfl,q1⟩
end
end L2
namespace L2
open PySem PySem.Spec PyProof.Rows
noncomputable def SqL (K:PySem.W.Frag) (H:Hp) (a:Addr) (xs:List V):Prop :=
 Rd H a (.lst xs) ∨
  ∃ (o:Obj) (its:Array Value) (n:Nat),K.lookup a=some o/\o.cls = .type "list"/\o.dict=none/\o.data = .seq its n/\its.size<=sizeLine/\Vals xs its.toList
noncomputable def SqT (K:PySem.W.Frag) (H:Hp) (a:Addr) (xs:List V):Prop :=
 Rd H a (.tup xs) ∨
  ∃ (o:Obj) (its:Array Value) (n:Nat),K.lookup a=some o/\o.cls = .type "tuple"/\o.data = .seq its n/\its.size<=sizeLine/\Vals xs its.toList
noncomputable def Px:Value->Option V
 | .none=>some .non
 | .bool b=>some (.bl b)
 | .int i _=>some (.int i)
 | .str x _=>some (.str x)
 | .bytes b _=>some (.byt b)
 | .float b _=>some (.flt b)
 | .ref a=>some (.ref a)
 | .type n=>some (.ty n)
 | _=>none
theorem RelV.abs {x:V} {u:Value} (r:RelV x u):Px u=some x:=by
 cases x with
 | non=>cases r; rfl
 | bl _=>cases r; rfl
 | int _=>obtain⟨t,rfl⟩:=r; rfl
 | str _=>obtain⟨t,rfl⟩:=r; rfl
 | byt _=>obtain⟨t,rfl⟩:=r; rfl
 | flt _=>obtain⟨t,rfl⟩:=r; rfl
 | ref _=>cases r; rfl
 | ty _=>cases r; rfl
theorem RelV.inj {x y:V} {u:Value} (r:RelV x u) (q:RelV y u):x=y:=Option.some.inj (r.abs.symm.trans q.abs)
theorem Vals.inj:∀ {xs ys:List V} {us:List Value},Vals xs us->Vals ys us->xs=ys
 | _,_,_,.nil,.nil=>rfl
 | _,_,_,.cons r t,.cons r' t'=>by rw[r.inj r',Vals.inj t t']
section
variable {X:Cx} {pins:List (Addr × Obj)} {σ:St} {H:Hp} {s:Shared} {a:Addr} {xs ys:List V}
theorem SqL.of {K:PySem.W.Frag} (h:H a=some (.lst xs)):SqL K H a xs:=.inl (.inl h)
theorem SqT.of {K:PySem.W.Frag} (h:H a=some (.tup xs)):SqT K H a xs:=.inl (.inl h)
theorem Inv.list (I:Inv X pins σ H s) (h:SqL X.K H a xs):∃ its:List Value,Vals xs its/\PlainL s.heap a its.toArray/\xs.length<=sizeLine:=by
 rcases h with h | ⟨o,its,n,hk,hc,hd,hs,hz,r⟩
 ·obtain⟨z,its,n,r,e⟩:=h.ok I.hok
  exact⟨its,r,⟨_,n,e,rfl,rfl,rfl⟩,z⟩
 ·refine⟨its.toList,r,⟨o,n,I.kIn a o hk,hc,hd,by simpa using hs⟩,?_⟩
  have e:=r.length
  simp only[Array.length_toList] at e
  lia
theorem Inv.tuple (I:Inv X pins σ H s) (h:SqT X.K H a xs):∃ its:List Value,Vals xs its/\IsTup s.heap a its.toArray/\xs.length<=sizeLine:=by
 rcases h with h | ⟨o,its,n,hk,hc,hs,hz,r⟩
 ·obtain⟨z,its,r,p⟩:=h.ok I.hok
  exact⟨its,r,p,z⟩
 ·refine⟨its.toList,r,⟨o,I.kIn a o hk,hc,n,by simpa using hs⟩,?_⟩
  have e:=r.length
  simp only[Array.length_toList] at e
  lia
theorem Inv.rY (I:Inv X pins σ H s) (h:SqL X.K H a xs) (h':SqL X.K H a ys):xs=ys:=by
 obtain⟨its,r,⟨o,n,e,_,_,d⟩,_⟩:=I.list h
 obtain⟨its',r',⟨o',n',e',_,_,d'⟩,_⟩:=I.list h'
 rw[e] at e'; cases e'
 rw[d] at d'
 injection d' with d1 _
 have:its=its':=by simpa using congrArg Array.toList d1
 subst this
 exact r.inj r'
theorem Inv.iW (I:Inv X pins σ H s) (h:SqT X.K H a xs) (h':SqT X.K H a ys):xs=ys:=by
 obtain⟨its,r,⟨o,e,_,n,d⟩,_⟩:=I.tuple h
 obtain⟨its',r',⟨o',e',_,n',d'⟩,_⟩:=I.tuple h'
 rw[e] at e'; cases e'
 rw[d] at d'
 injection d' with d1 _
 have:its=its':=by simpa using congrArg Array.toList d1
 subst this
 exact r.inj r'
end
noncomputable abbrev Cx.wish (X:Cx) (E:Value->Shared->Prop):Cx:={ X with xe:=E }
noncomputable abbrev Cx.nox (X:Cx):Cx:=X.wish fun _ _=>False
theorem Cx.Ok.wish {X:Cx} (ok:X.Ok) (E:Value->Shared->Prop):(X.wish E).Ok :=
 ⟨ok.mod,ok.kind,ok.glob,ok.blt,ok.above,ok.inj,ok.has,ok.cab,ok.hd,ok.frames,ok.stk,ok.exf,ok.bs,ok.bsz,ok.noex,ok.exfs,ok.o4,ok.frf⟩
theorem Cx.Ok.jr {X:Cx} {E:Value->Shared->Prop} (ok:(X.wish E).Ok):X.Ok :=
 ⟨ok.mod,ok.kind,ok.glob,ok.blt,ok.above,ok.inj,ok.has,ok.cab,ok.hd,ok.frames,ok.stk,ok.exf,ok.bs,ok.bsz,ok.noex,ok.exfs,ok.o4,ok.frf⟩
section
variable {X:Cx} {pins:List (Addr × Obj)} {σ:St} {H:Hp} {s:Shared} {E:Value->Shared->Prop}
theorem Inv.wish (I:Inv X pins σ H s) (E:Value->Shared->Prop):Inv (X.wish E) pins σ H s:=⟨I.ok.wish E,I.os,I.bare,I.base,I.loc,I.cell,I.free,I.freeC,I.pin,I.hok,I.len⟩
theorem Inv.jr (I:Inv (X.wish E) pins σ H s):Inv X pins σ H s:=⟨I.ok.jr,I.os,I.bare,I.base,I.loc,I.cell,I.free,I.freeC,I.pin,I.hok,I.len⟩
theorem SP.jr {D:Ends} {f:Flow} {s':Shared} (h:SP (X.wish E) pins D f s'):SP X pins D f s':=by
 cases f with
 | next=>obtain⟨σ',H',I,q⟩:=h; exact⟨σ',H',I.jr,q⟩
 | brk=>obtain⟨σ',H',I,q⟩:=h; exact⟨σ',H',I.jr,q⟩
 | cont=>obtain⟨σ',H',I,q⟩:=h; exact⟨σ',H',I.jr,q⟩
 | ret u=>obtain⟨v,σ',H',I,r,q⟩:=h; exact⟨v,σ',H',I.jr,r,q⟩
theorem PE.nox {e:Expr} {t:TE} (h:PE X.nox e t):PE X e t:=fun pins s σ H Q I hw =>
 wpAny_mono (h pins s σ H Q (I.wish _) hw) (fun _ _ ⟨v,H',I',r,q⟩=>⟨v,H',I'.jr,r,q⟩) fun _ _ z=>False.elim z
theorem PT.nox {e:Expr} {t:TT} (h:PT X.nox e t):PT X e t:=fun pins s σ H Q I hw =>
 wpAny_mono (h pins s σ H Q (I.wish _) hw) (fun _ _ ⟨H',I',q⟩=>⟨H',I'.jr,q⟩) fun _ _ z=>False.elim z
theorem PSs.nox {st:List Stmt} {t:TS} (h:PSs X.nox st t):PSs X st t:=fun pins s σ H D I hw =>
 wpAny_mono (h pins s σ H D (I.wish _) hw) (fun _ _ q=>q.jr) fun _ _ z=>False.elim z
end
section
variable {X:Cx} {st:Stmt} {rest:List Stmt} {t u:TS} {e:Expr} {te:TE} {pos:Pos}
noncomputable def K5:TS:=fun D σ H=>D.nx σ H
noncomputable def Fl (t u:TS):TS:=fun D σ H=>t { D with nx:=u D } σ H
theorem aW:PSs X [] K5:=fun _ _ σ H _ I h=>wpAny_execs_nil ⟨σ,H,I,h⟩
theorem aA (h1:PS X st t) (h2:PSs X rest u):PSs X (st::rest) (Fl t u):=by
 intro pins s σ H D I h
 refine wpAny_execs_cons (thn (h1 pins s σ H { D with nx:=u D } I h) fun f s1 q=>?_)
 cases f with
 | next =>
  obtain⟨σ',H',I',q⟩:=q
  exact h2 pins s1 σ' H' D I' q
 | ret v=>exact q
 | brk=>exact q
 | cont=>exact q
theorem aC (h1:PS X st t):PSs X [st] t:=by
 intro pins s σ H D I h
 refine wpAny_execs_cons (thn (h1 pins s σ H D I h) fun f s1 q=>?_)
 cases f with
 | next=>exact wpAny_execs_nil q
 | ret v=>exact q
 | brk=>exact q
 | cont=>exact q
theorem Inv.quiet {pins:List (Addr × Obj)} {σ:St} {H:Hp} {s:Shared} (I:Inv X pins σ H s):interactive X.env=false:=by simp [interactive,I.ok.kind]
noncomputable def Ob (te:TE):TS:=fun D σ H=>te σ H fun _ H1=>D.nx σ H1
theorem cW (he:PE X e te) (hs : autoParam (swapsWith e none pos.line X.env=pure false) L2.az5._auto_1):PS X (.Expr e pos) (Ob te):=by
 intro pins s σ H D I h
 exact wpAny_Expr_any (thn (he pins s σ H _ I h) fun v s1 ⟨x,H1,I1,r1,q1⟩=>⟨σ,H1,I1,q1⟩) I.quiet hs
noncomputable def O3 (te:TE):TS:=fun D σ H=>te σ H D.rt
theorem aJ (he:PE X e te):PS X (.Return (some e) pos) (O3 te):=by
 intro pins s σ H D I h
 exact wpAny_Return_some (thn (he pins s σ H _ I h) fun v s1 ⟨x,H1,I1,r1,q1⟩=>⟨x,σ,H1,I1,r1,q1⟩)
noncomputable def Ga (c:TT) (t u:TS):TS:=fun D σ H=>c σ H fun b H1=>if b=true then t D σ H1 else u D σ H1
theorem bV {c:Expr} {a b:List Stmt} {tc:TT} (hc:PT X c tc) (ha:PSs X a t) (hb:PSs X b u):PS X (.If c a b pos) (Ga tc t u):=by
 intro pins s σ H D I h
 refine wpAny_If (thn (hc pins s σ H _ I h) fun d s1 ⟨H1,I1,q1⟩=>?_)
 cases d with
 | true=>exact ha pins s1 σ H1 D I1 q1
 | false=>exact hb pins s1 σ H1 D I1 q1
end
noncomputable abbrev TG:=V->St->Hp->(St->Hp->Prop)->Prop
noncomputable abbrev TGs:=List V->St->Hp->(St->Hp->Prop)->Prop
noncomputable def PG (X:Cx) (target:Expr) (t:TG):Prop :=
 ∀ (pins:List (Addr × Obj)) (s:Shared) (σ:St) (H:Hp) (v:V) (u:Value) (Q:St->Hp->Prop),Inv X pins σ H s->RelV v u->t v σ H Q →
  wpAny (model X.prog X.w) X.A (assign target X.env u) (fun _ s'=>∃ σ' H',Inv X pins σ' H' s'/\Q σ' H') X.xe s
noncomputable def PGs (X:Cx) (ts:List Expr) (t:TGs):Prop :=
 ∀ (pins:List (Addr × Obj)) (s:Shared) (σ:St) (H:Hp) (vs:List V) (us:List Value) (Q:St->Hp->Prop),Inv X pins σ H s->Vals vs us->t vs σ H Q →
  wpAny (model X.prog X.w) X.A (assignInOrder ((assignEach ts X.env).map (·.2)) us) (fun _ s'=>∃ σ' H',Inv X pins σ' H' s'/\Q σ' H') X.xe s
section
variable {X:Cx} {pos:Pos}
noncomputable def vW (i:Nat):TG:=fun v σ H Q=>Q (σ.set i (some v)) H
theorem aH {i:Nat} {x:Str} (hN:X.N.Nodup) (hi:X.N[i]? = some x) (hx:Loc X.env.scope x) (hf : autoParam (X.fn x=true∨X.env.scope.names.lookup x=some .local) L2.az1._auto_1):PG X (.Name x pos) (vW i):=by
 intro pins s σ H v u Q I r h
 exact wpAny_assign_Name (rM I hN hi hx r (fun s' I'=>⟨_,H,I',h⟩) hf)
noncomputable def PL:TGs:=fun vs σ H Q=>vs=[]/\Q σ H
inductive G3 (t:TG) (u:TGs) (vs:List V) (σ:St) (H:Hp) (Q:St->Hp->Prop):Prop where
 | mk (v:V) (r:List V) (z0:vs=v::r) (z1:t v σ H fun σ' H'=>u r σ' H' Q):G3 t u vs σ H Q
noncomputable def Oc (t:TG) (u:TGs):TGs:=fun vs σ H Q=>G3 t u vs σ H Q
theorem gf:PGs X [] PL:=by
 intro pins s σ H vs us Q I r h
 obtain⟨e,h⟩:=h
 subst e
 cases r
 exact assignInOrder_nil ⟨σ,H,I,h⟩
theorem bA {e:Expr} {es:List Expr} {t:TG} {u:TGs} (h1:PG X e t) (h2:PGs X es u)
  (hs : autoParam ((assignEach (e::es) X.env).map (·.2)=assign e X.env::(assignEach es X.env).map (·.2)) L2.az5._auto_1):PGs X (e::es) (Oc t u):=by
 intro pins s σ H vs us Q I r h
 obtain⟨v,vr,e1,h⟩:=h
 subst e1
 cases r with
 | cons r rr =>
  rw[hs]
  refine assignInOrder_cons (thn (h1 pins s σ H _ _ _ I r h) fun _ s1 ⟨σ1,H1,I1,q1⟩=>?_)
  exact h2 pins s1 σ1 H1 _ _ Q I1 rr q1
inductive Ml (K:PySem.W.Frag) (n:Nat) (t:TGs) (v:V) (σ:St) (H:Hp) (Q:St->Hp->Prop):Prop where
 | mk (a:Addr) (xs:List V) (z0:v = .ref a) (z1:SqT K H a xs) (z2:xs.length=n) (z3:t xs σ H Q):Ml K n t v σ H Q
noncomputable def O9 (K:PySem.W.Frag) (n:Nat) (t:TGs):TG:=fun v σ H Q=>Ml K n t v σ H Q
theorem Lw {es:List Expr} {k:Nat} {t:TGs} {n:Nat} (hc:X.calm=true) (h:PGs X es t)
  (hn : autoParam ((assignEach es X.env).length=n) L2.az5._auto_1) (hst : autoParam ((assignEach es X.env).findIdx? (·.1)=none) L2.az5._auto_1):PG X (.Tuple es k pos) (O9 X.K n t):=by
 intro pins s σ H v u Q I r hw
 obtain⟨a,xs,e1,hq,hl,hw⟩:=hw
 subst e1
 cases r
 obtain⟨its,rv,ht,hz⟩:=I.tuple hq
 refine assign_Tuple_tuple (I.ok.hd hc) ht (by simp [hn,← hl,rv.length]) hst fun h' hx=>?_
 have I1:Inv X pins σ H { s with heap:=h' }:=I.kept (t':=s.toks) fun b o e=>hx b o (Nat.ne_of_lt (Heap.lt_size e)) e
 exact h pins _ σ H xs _ Q I1 (by simpa using rv) hw
noncomputable def O7 (te:TE) (g:TG):TS:=fun D σ H=>te σ H fun x H1=>g x σ H1 D.nx
theorem HR {tg e:Expr} {te:TE} {g:TG} (he:PE X e te) (hg:PG X tg g) (hs : autoParam (swapsWithSole [tg] e pos.line X.env=pure false) L2.az5._auto_1) (hw : autoParam (swappedStores [tg] e X.env=pure none) L2.az5._auto_1)
  (h1 : autoParam ((assignEach [tg] X.env).map (·.2)=[assign tg X.env]) L2.az5._auto_1):PS X (.Assign [tg] e pos) (O7 te g):=by
 intro pins s σ H D I h
 refine wpAny_Assign_stores (thn (he pins s σ H _ I h) fun v s1 ⟨x,H1,I1,r1,q1⟩=>?_) hs hw
 rw[h1]
 exact thn (hg pins s1 σ H1 x v _ I1 r1 q1) fun _ s2 q=>q
theorem bu {i:Nat} {x:Str} {e:Expr} {te:TE} {pos':Pos} (hN:X.N.Nodup) (hi:X.N[i]? = some x) (hx:Loc X.env.scope x) (he:PE X e te) (hs : autoParam (swapsWith e (some (.Name x pos')) pos.line X.env=pure false) L2.az5._auto_1) (hf : autoParam (X.fn x=true∨X.env.scope.names.lookup x=some .local) L2.az1._auto_1) :
  PS X (.Assign [.Name x pos'] e pos) (O7 te (vW i)):=by
 intro pins s σ H D I h
 refine wpAny_Assign_Name (thn (he pins s σ H _ I h) fun v s1 ⟨y,H1,I1,r1,q1⟩=>?_) hs
 exact rM I1 hN hi hx r1 (fun s2 I2=>⟨_,H1,I2,q1⟩) hf
end
section
variable {X:Cx} {pos:Pos}
noncomputable def HN (c:TT) (tb:TS):TS:=fun D σ H=>∃ W:Nat->St->Hp->Prop,(∃ m,W m σ H)/\∀ m σ H,W m σ H →
 c σ H fun b H1=>if b=true then ∃ N:St->Hp->Prop,(∀ σ' H',N σ' H'->∃ m',m' < m/\W m' σ' H')/\tb { D with nx:=N,ct:=N,bk:=D.nx } σ H1 else D.nx σ H1
theorem FT {c:Expr} {body:List Stmt} {tc:TT} {tb:TS} (hp:PassesOwn (model X.prog X.w) X.A X.env X.xe) (hc:PT X c tc) (hb:PSs X body tb):PS X (.While c body [] pos) (HN tc tb):=by
 intro pins s σ H D I h
 obtain⟨W,⟨m0,w0⟩,turn⟩:=h
 refine wpAny_While (codeAny_whileLoop (fun n s'=>∃ σ' H',Inv X pins σ' H' s'/\W n σ' H') ?_ m0 ⟨σ,H,I,w0⟩)
 rintro n s1 ⟨σ1,H1,I1,w1⟩
 refine wpAny_passesOwn hp (thn (hc pins s1 σ1 H1 _ I1 (turn n σ1 H1 w1)) fun b s2 ⟨H2,I2,q2⟩=>?_)
 cases b with
 | true =>
  obtain⟨N,hN,q2⟩:=q2
  rw[if_pos rfl]
  refine wpAny_passesOwn hp (thn (hb pins s2 σ1 H2 _ I2 q2) fun f s3 q3=>?_)
  cases f with
  | next =>
   obtain⟨σ3,H3,I3,n3⟩:=q3
   obtain⟨m',hm,w3⟩:=hN σ3 H3 n3
   exact⟨m',hm,σ3,H3,I3,w3⟩
  | cont =>
   obtain⟨σ3,H3,I3,n3⟩:=q3
   obtain⟨m',hm,w3⟩:=hN σ3 H3 n3
   exact⟨m',hm,σ3,H3,I3,w3⟩
  | brk=>exact q3
  | ret v=>exact q3
 | false =>
  rw[if_neg Bool.false_ne_true]
  exact wpAny_execs_nil ⟨σ1,H2,I2,q2⟩
end
structure It where
 go:Nat->Hp->Prop
 yld:Nat->Hp->V->Hp->Prop
 stop:Nat->Hp->Prop
noncomputable def sH (X:Cx) (pins:List (Addr × Obj)) (H:Hp) (b:Addr):Prop :=
 H b=none/\b≠X.env.locals/\b ∉ X.fs/\(b∈X.ex∨X.s₀.heap.objs.size<=b)/\(∀ x c,X.env.cells.lookup x=some c->c≠b)/\∀ p∈X.pn++pins,p.1≠b
theorem Inv.DR {X:Cx} {pins:List (Addr × Obj)} {σ:St} {H H':Hp} {s:Shared} {b:Addr} (I:Inv X pins σ H s) (hb:s.heap.objs.size<=b) (hn:H' b=none):sH X pins H' b:=by
 refine⟨hn,Nat.ne_of_gt (Nat.lt_of_lt_of_le I.lt hb),I.Pk hb,.inr (Nat.le_trans I.sz hb),fun x c e z=>?_,fun p hp z=>?_⟩
 ·obtain⟨v,q⟩:=I.cell x c e
  exact absurd (Nat.lt_of_lt_of_le q.lt (by rw[z]; exact hb)) (Nat.lt_irrefl _)
 ·exact absurd (Nat.lt_of_lt_of_le (Heap.lt_size (I.pin p hp).1) (by rw[z]; exact hb)) (Nat.lt_irrefl _)
structure Turn (P:Program) (w:World) (K:PySem.W.Frag) (tg:Expr) (J:It) (fp:List Addr) (it:Addr) (tn:Nat->Heap->Prop):Prop where
 mem:it∈fp
 obj:∀ i h,tn i h->∀ b∈fp,∃ o,h.get? b=some o/\∀ v,o.data≠.cell v
 keep:∀ i h h',tn i h->(∀ b∈fp,∀ o,h.get? b=some o->h'.get? b=some o)->tn i h'
 item:∀ (X:Cx),X.prog=P->X.w=w->X.K=K->X.calm=true->∀ (i:Nat) (pins:List (Addr × Obj)) (s:Shared) (σ:St) (H:Hp) (E:Value->Shared->Prop),Inv X pins σ H s->(∀ b∈fp,sH X pins H b)->tn i s.heap->J.go i H →
  wpAny (model P w) X.A (pyNext (.ref it)) (fun r s1=>∃ u,r=some u ∧
   wpAny (model P w) X.A (letOwnedTupleGo tg (.ref it) u) (fun _ s2=>∃ x H',Inv X pins σ H' s2/\RelV x u/\J.yld i H x H'/\tn (i+1) s2.heap/\∀ b∈fp,H' b=none) E s1) E s
 done:∀ (X:Cx),X.prog=P->X.w=w->X.K=K->X.calm=true->∀ (i:Nat) (pins:List (Addr × Obj)) (s:Shared) (σ:St) (H:Hp) (E:Value->Shared->Prop),Inv X pins σ H s->(∀ b∈fp,sH X pins H b)->tn i s.heap->J.stop i H →
  wpAny (model P w) X.A (pyNext (.ref it)) (fun r s1=>r=none/\Inv X pins σ H s1) E s
 self:∀ (A:Around) (i:Nat) (s:Shared) (Q:Value->Shared->Prop) (E:Value->Shared->Prop),tn i s.heap->Q (.ref it) s->wpAny (model P w) A (pyIter (.ref it)) Q E s
noncomputable abbrev TI:=St->Hp->(It->Hp->Prop)->Prop
noncomputable def PIE (X:Cx) (pins:List (Addr × Obj)) (σ:St) (tg:Expr) (R:It->Hp->Prop) (itv:Value) (s2:Shared):Prop :=
 ∃ (it:Addr) (fp:List Addr) (tn:Nat->Heap->Prop) (J:It) (H':Hp),itv = .ref it/\Inv X pins σ H' s2/\Turn X.prog X.w X.K tg J fp it tn/\tn 0 s2.heap/\(∀ b∈fp,sH X pins H' b)/\R J H'
noncomputable def PI (X:Cx) (tg iter:Expr) (wi:TI):Prop :=
 ∀ (pins:List (Addr × Obj)) (s:Shared) (σ:St) (H:Hp) (R:It->Hp->Prop),Inv X pins σ H s->wi σ H R →
  wpAny (model X.prog X.w) X.A (eval iter X.env) (fun v s1=>wpAny (model X.prog X.w) X.A (pyIter v) (PIE X pins σ tg R) X.xe s1) X.xe s
theorem Dz {M : Model} {A : Around} {E : Value → Shared → Prop} {s : Shared} {tg : Expr} {it : Addr} {u : Value} {o : Obj} {n : String} {vs : Array Value} {Q : Unit → Shared → Prop} (ho : s.heap.get? it = some o) (hc : o.cls = .type n) (hd : o.data = .fields vs)
    (hn : ["enumerate", "zip", "dict_itemiterator", "dict_reverseitemiterator", "odict_iterator", "itertools.zip_longest", "itertools.pairwise"].contains n = false) (hQ : Q () s) : wpAny M A (letOwnedTupleGo tg (.ref it) u) Q E s := by
  unfold letOwnedTupleGo
  cases tg <;> first
    | exact wpAny_pure hQ
    | (cases u <;> first
        | exact wpAny_pure hQ
        | (refine wpAny_bind (wpAny_load ho ?_)
           rw [hc, hd]
           show wpAny M A (if (["enumerate", "zip", "dict_itemiterator", "dict_reverseitemiterator", "odict_iterator", "itertools.zip_longest", "itertools.pairwise"].contains n && vs[0]? == some (rawInt _)) = true then _ else _) Q E s
           rw [if_neg (by intro h; rw [hn, Bool.false_and] at h; cases h)]
           exact wpAny_pure hQ))
noncomputable def Itl (K:PySem.W.Frag) (a:Addr):It :=
 ⟨fun i H=>∃ xs x,SqL K H a xs/\xs[i]? = some x,fun i H x H'=>H'=H/\∀ xs,SqL K H a xs->xs[i]? = some x,fun i H=>∃ xs,SqL K H a xs/\xs.length<=i⟩
noncomputable def Itt (K:PySem.W.Frag) (a:Addr):It :=
 ⟨fun i H=>∃ xs x,SqT K H a xs/\xs[i]? = some x,fun i H x H'=>H'=H/\∀ xs,SqT K H a xs->xs[i]? = some x,fun i H=>∃ xs,SqT K H a xs/\xs.length<=i⟩
noncomputable def Itr (lo:Int) (n:Nat):It:=⟨fun i _=>i < n,fun i H x H'=>H'=H/\x = .int (lo+i),fun i _=>n<=i⟩
theorem Dk {P:Program} {w:World} {K:PySem.W.Frag} {tg:Expr} (a it:Addr):Turn P w K tg (Itl K a) [it] it (fun i h=>h.IsListIter it a i) where
 mem:=by simp
 obj:=fun i h st b hb=>by
  have e:b=it:=by simpa using hb
  subst e
  obtain⟨o,e,c,d⟩:=st
  exact⟨o,e,fun v z=>by rw[d] at z; cases z⟩
 keep:=fun i h h' st k=>st.at fun o e=>k it (by simp) o e
 item:=by
  intro X hP hw hK hc i pins s σ H E I hf st hg
  subst hP hw hK
  obtain⟨xs,x,hq,hx⟩:=hg
  obtain⟨its,rv,p,hz⟩:=I.list hq
  obtain⟨u,hu,ru⟩:=rv.get hx
  obtain⟨f0,f1,f2,f3,f4,f5⟩:=hf it (by simp)
  refine wpAny_pyNext_list_item st p.isList (x:=u) (by simpa using hu) fun h' st' sb=>?_
  have I1:Inv X pins σ H { s with heap:=h' }:=I.turned (t':=s.toks) (fun b o hb e=>(sb.2 b hb).trans e) f0 f1 f3 f4 f5
  obtain⟨o,e,c,d⟩:=id st'
  exact⟨u,rfl,Dz (s:={ s with heap:=h' }) e c d (by decide) ⟨x,H,I1,ru,⟨rfl,fun ys hy=>by rw[I.rY hy hq]; exact hx⟩,st',fun b hb=>(hf b hb).1⟩⟩
 done:=by
  intro X hP hw hK hc i pins s σ H E I hf st hg
  subst hP hw hK
  obtain⟨xs,hq,hx⟩:=hg
  obtain⟨its,rv,p,hz⟩:=I.list hq
  obtain⟨f0,f1,f2,f3,f4,f5⟩:=hf it (by simp)
  have hl:=rv.length
  exact wpAny_pyNext_list_end (I.ok.hd hc) st p.isList (by simp; lia) fun h' eb=>⟨rfl,I.turned (t':=s.toks) (fun b o hb e=>eb b o hb e) f0 f1 f3 f4 f5⟩
 self:=fun _ _ _ _ _ st h=>wpAny_pyIter_listiter st h
theorem yQ {P:Program} {w:World} {K:PySem.W.Frag} {tg:Expr} (a it:Addr):Turn P w K tg (Itt K a) [it] it (fun i h=>h.IsTupleIter it a i) where
 mem:=by simp
 obj:=fun i h st b hb=>by
  have e:b=it:=by simpa using hb
  subst e
  obtain⟨o,e,c,d⟩:=st
  exact⟨o,e,fun v z=>by rw[d] at z; cases z⟩
 keep:=fun i h h' st k=>st.at fun o e=>k it (by simp) o e
 item:=by
  intro X hP hw hK hc i pins s σ H E I hf st hg
  subst hP hw hK
  obtain⟨xs,x,hq,hx⟩:=hg
  obtain⟨its,rv,p,hz⟩:=I.tuple hq
  obtain⟨u,hu,ru⟩:=rv.get hx
  obtain⟨f0,f1,f2,f3,f4,f5⟩:=hf it (by simp)
  refine wpAny_pyNext_tuple_item st (show s.heap.IsTuple a its.toArray from p) (x:=u) (by simpa using hu) fun h' st' sb=>?_
  have I1:Inv X pins σ H { s with heap:=h' }:=I.turned (t':=s.toks) (fun b o hb e=>(sb.2 b hb).trans e) f0 f1 f3 f4 f5
  obtain⟨o,e,c,d⟩:=id st'
  exact⟨u,rfl,Dz (s:={ s with heap:=h' }) e c d (by decide) ⟨x,H,I1,ru,⟨rfl,fun ys hy=>by rw[I.iW hy hq]; exact hx⟩,st',fun b hb=>(hf b hb).1⟩⟩
 done:=by
  intro X hP hw hK hc i pins s σ H E I hf st hg
  subst hP hw hK
  obtain⟨xs,hq,hx⟩:=hg
  obtain⟨its,rv,p,hz⟩:=I.tuple hq
  obtain⟨f0,f1,f2,f3,f4,f5⟩:=hf it (by simp)
  have hl:=rv.length
  exact wpAny_pyNext_tuple_end (I.ok.hd hc) st (show s.heap.IsTuple a its.toArray from p) (by simp; lia) fun h' eb=>⟨rfl,I.turned (t':=s.toks) (fun b o hb e=>eb b o hb e) f0 f1 f3 f4 f5⟩
 self:=fun _ _ _ _ _ st h=>wpAny_pyIter_tupleiter st h
theorem zJ {P:Program} {w:World} {K:PySem.W.Frag} {tg:Expr} (it:Addr) (lo:Int) (n:Nat):Turn P w K tg (Itr lo n) [it] it (fun i h=>IsRangeIter h it (lo+(i:Nat) * 1) ((n:Int) - (i:Nat)) 1) where
 mem:=by simp
 obj:=fun i h st b hb=>by
  have e:b=it:=by simpa using hb
  subst e
  exact⟨_,st,fun v z=>by
   have z':Data.fields _=Data.cell v:=z
   cases z'⟩
 keep:=fun i h h' st k=>k it (by simp) _ st
 item:=by
  intro X hP hw hK hc i pins s σ H E I hf st hg
  subst hP hw hK
  obtain⟨f0,f1,f2,f3,f4,f5⟩:=hf it (by simp)
  have W:=Walks.range (prog:=X.prog) (w:=X.w) (I.ok.hd hc) it lo 1 n
  refine W.item i s _ _ hg st fun v h' tk hv st' kk=>?_
  obtain⟨t,rfl⟩:=hv
  have I1:Inv X pins σ H { s with heap:=h',toks:=tk }:=I.turned (fun b o hb e=>kk b o (by simpa using hb) e) f0 f1 f3 f4 f5
  refine⟨_,rfl,Dz (s:={ s with heap:=h',toks:=tk }) (n:="range_iterator") st' rfl rfl (by decide) ⟨.int (lo+i),H,I1,⟨t,?_⟩,⟨rfl,rfl⟩,st',fun b hb=>(hf b hb).1⟩⟩
  rw[Int.mul_one]
 done:=by
  intro X hP hw hK hc i pins s σ H E I hf st hg
  subst hP hw hK
  obtain⟨f0,f1,f2,f3,f4,f5⟩:=hf it (by simp)
  exact wpAny_pyNext_range_end (I.ok.hd hc) st (by have:n<=i:=hg; lia) fun h' eb=>⟨rfl,I.turned (t':=s.toks) (fun b o hb e=>eb b o hb e) f0 f1 f3 f4 f5⟩
 self:=fun _ _ _ _ _ st h=>wpAny_pyIter_rangeiter st h
end L2
namespace L2
open PySem PySem.Spec PyProof.Rows
section
variable {X:Cx} {tg:Expr}
noncomputable def Lp (K:PySem.W.Frag) (tl:TE):TI:=fun σ H R=>tl σ H fun x H1=>∃ a,x = .ref a/\(∃ xs,SqL K H1 a xs)/\R (Itl K a) H1
noncomputable def Pa (K:PySem.W.Frag) (tl:TE):TI:=fun σ H R=>tl σ H fun x H1=>∃ a,x = .ref a/\(∃ xs,SqT K H1 a xs)/\R (Itt K a) H1
theorem eN {l:Expr} {tl:TE} (hl:PE X l tl):PI X tg l (Lp X.K tl):=by
 intro pins s σ H R I h
 refine thn (hl pins s σ H _ I h) fun v s1 ⟨x,H1,I1,r1,q1⟩=>?_
 obtain⟨a,e,⟨xs,hq⟩,q⟩:=q1
 subst e
 cases r1
 obtain⟨its,rv,p,hz⟩:=I1.list hq
 refine wpAny_pyIter_list p.isList ?_
 refine⟨s1.heap.objs.size,[s1.heap.objs.size],_,_,H1,rfl,I1.kept (t':=s1.toks) fun b o e=>Heap.get?_push_of_some _ e,Dk a _,⟨_,Heap.get?_push_size _ rfl,rfl,rfl⟩,fun b hb=>?_,q⟩
 have e:b=s1.heap.objs.size:=by simpa using hb
 subst e
 exact I1.DR (Nat.le_refl _) (I1.hok.fresh (Nat.le_refl _))
theorem f9 {l:Expr} {tl:TE} (hl:PE X l tl):PI X tg l (Pa X.K tl):=by
 intro pins s σ H R I h
 refine thn (hl pins s σ H _ I h) fun v s1 ⟨x,H1,I1,r1,q1⟩=>?_
 obtain⟨a,e,⟨xs,hq⟩,q⟩:=q1
 subst e
 cases r1
 obtain⟨its,rv,p,hz⟩:=I1.tuple hq
 refine wpAny_pyIter_tuple (show s1.heap.IsTuple a its.toArray from p) ?_
 refine⟨s1.heap.objs.size,[s1.heap.objs.size],_,_,H1,rfl,I1.kept (t':=s1.toks) fun b o e=>Heap.get?_push_of_some _ e,yQ a _,⟨_,Heap.get?_push_size _ rfl,rfl,rfl⟩,fun b hb=>?_,q⟩
 have e:b=s1.heap.objs.size:=by simpa using hb
 subst e
 exact I1.DR (Nat.le_refl _) (I1.hok.fresh (Nat.le_refl _))
theorem Ey {pins:List (Addr × Obj)} {σ:St} {H:Hp} {s:Shared} {R:It->Hp->Prop} {E:Value->Shared->Prop} {lo hi:Int} {t u v:Tok} {tk:Nat} (I:Inv X pins σ H s) (h1 : -(2 ^ 62)<=lo) (h2:lo < 2 ^ 62) (h3 : -(2 ^ 62)<=hi) (h4:hi < 2 ^ 62)
  (q:R (Itr lo (hi - lo).toNat) H):wpAny (model X.prog X.w) X.A (pyIter (.ref s.heap.objs.size)) (PIE X pins σ tg R) E { s with heap:=s.heap.push { cls:=.type "range",data:=.fields #[.int lo t,.int hi u,.int 1 v] },toks:=tk }:=by
 refine wpAny_pyIter_range (IsRange.new ..) (small_one h1 h2 h3 h4) ?_
 have I1:Inv X pins σ H { s with heap:=s.heap.push { cls:=.type "range",data:=.fields #[.int lo t,.int hi u,.int 1 v] },toks:=tk }:=I.kept fun b o e=>Heap.get?_push_of_some _ e
 refine⟨(s.heap.push { cls:=.type "range",data:=.fields #[.int lo t,.int hi u,.int 1 v] }).objs.size,[(s.heap.push { cls:=.type "range",data:=.fields #[.int lo t,.int hi u,.int 1 v] }).objs.size],_,_,H,rfl,
  I1.kept (t':=tk) fun b o e=>Heap.get?_push_of_some _ e,zJ _ lo (hi - lo).toNat,?_,fun b hb=>?_,q⟩
 ·have e1:lo+((0:Nat):Int) * 1=lo:=by simp
  have e2:(((hi - lo).toNat:Nat):Int) - ((0:Nat):Int)=Builtin.Range.rangeSize lo hi 1:=by rw[rangeSize_one]; split <;> lia
  show IsRangeIter _ _ (lo+((0:Nat):Int) * 1) ((((hi - lo).toNat:Nat):Int) - ((0:Nat):Int)) 1
  rw[e1,e2]
  exact Heap.get?_push_size _ rfl
 ·have e:b=(s.heap.push { cls:=.type "range",data:=.fields #[.int lo t,.int hi u,.int 1 v] }).objs.size:=by simpa using hb
  subst e
  exact I1.DR (Nat.le_refl _) (I1.hok.fresh (Nat.le_refl _))
noncomputable def Oi (ta:TA):TI:=fun σ H R=>ta σ H fun vs H1=>∃ j:Int,vs=[.int j]/\-(2 ^ 62)<=j/\j < 2 ^ 62/\R (Itr 0 j.toNat) H1
theorem cD {a:Expr} {ta:TA} {p pos:Pos} (hg:Gl X "range") (hm:X.mg "range" = none) (ha:PA X [a] ta) (hs : autoParam (starEach [a] X.env=[(false,eval a X.env)]) L2.az5._auto_1):PI X tg (.Call (.Name "range" p) [a] [] pos) (Oi ta):=by
 intro pins s σ H R I h
 refine Call_ (iC I hg hm boot_range (PyProof.Rows.callWith_type1 (thn (ha pos pins s σ H _ I h) fun us s1 ⟨vs,H1,I1,r1,q1⟩=>?_) hs rfl))
 obtain⟨j,e,q1,q2,q⟩:=q1
 subst e
 cases r1 with
 | cons r rr =>
  cases rr
  obtain⟨t,rfl⟩:=r
  exact call_range_1 (Ey I1 (by lia) (by lia) q1 q2 (by simpa using q))
noncomputable def Pb (wi:TI) (g:TG) (tb:TS):TS:=fun D σ H=>wi σ H fun J H1=>∃ W:Nat->Nat->St->Hp->Prop,(∃ m,W 0 m σ H1)/\∀ i m σ H,W i m σ H →
 (J.stop i H/\D.nx σ H)∨(J.go i H/\∃ N:St->Hp->Prop,(∀ σ' H',N σ' H'->∃ m',m' < m/\W (i+1) m' σ' H')/\∀ x H',J.yld i H x H'->g x σ H' fun σ2 H2=>tb { D with nx:=N,ct:=N,bk:=D.nx } σ2 H2)
noncomputable def pA (fp:List Addr) (h:Heap):List (Addr × Obj):=fp.filterMap fun b=>(h.get? b).map fun o=>(b,o)
theorem fj {fp:List Addr} {h:Heap} {b:Addr} {o:Obj} (hb:b∈fp) (e:h.get? b=some o):(b,o)∈pA fp h:=List.mem_filterMap.mpr ⟨b,hb,by rw[e]; rfl⟩
theorem Aa {fp:List Addr} {h:Heap} {p:Addr × Obj} (hp:p∈pA fp h):p.1∈fp/\h.get? p.1=some p.2:=by
 obtain⟨b,hb,e⟩:=List.mem_filterMap.mp hp
 cases q:h.get? b with
 | none=>rw[q] at e; cases e
 | some o =>
  rw[q] at e
  have e':(b,o)=p:=Option.some.inj e
  subst e'
  exact⟨hb,q⟩
theorem Inv.pinned {pins:List (Addr × Obj)} {σ:St} {H:Hp} {s:Shared} {fp:List Addr} (I:Inv X pins σ H s) (hf:∀ b∈fp,sH X pins H b) (ho:∀ b∈fp,∃ o,s.heap.get? b=some o/\∀ v,o.data≠.cell v):Inv X (pins++pA fp s.heap) σ H s :=
 I.Cz fun p hp=>(List.mem_append.mp hp).elim (fun z=>I.pin p (List.mem_append_right _ z)) fun z=>by
  obtain⟨hb,e⟩:=Aa z
  obtain⟨f0,f1,f2,_⟩:=hf p.1 hb
  obtain⟨o,e',d⟩:=ho p.1 hb
  rw[e] at e'; cases e'
  exact⟨e,f0,f1,f2,d⟩
theorem Inv.jG {pins pl:List (Addr × Obj)} {σ:St} {H:Hp} {s:Shared} (I:Inv X (pins++pl) σ H s):Inv X pins σ H s:=I.Cz fun p hp=>I.pin p (List.mem_append_right _ (List.mem_append_left _ hp))
theorem gG {iter:Expr} {body:List Stmt} {wi:TI} {g:TG} {tb:TS} {pos:Pos} (hp:PassesOwn (model X.prog X.w) X.A X.env X.xe) (hc:X.calm=true) (hi:PI X tg iter wi) (hg:PG X tg g) (hb:PSs X body tb)
  (hs : autoParam (∀ x,foldedSetIterable iter X.env x=pure x) L2.az4._auto_1):PS X (.For tg iter body [] pos) (Pb wi g tb):=by
 intro pins s σ H D I h
 refine wpAny_For (thn (hi pins s σ H _ I h) fun v s1 h1=>thn h1 fun itv s2 h2=>?_) hs
 obtain⟨it,fp,tn,J,H2,e,I2,T,st2,f2,W,⟨m0,w0⟩,turn⟩:=h2
 subst e
 have stat:∀ {H':Hp},(∀ b∈fp,H' b=none)->∀ b∈fp,sH X pins H' b:=fun hn b hb=>⟨hn b hb,(f2 b hb).2⟩
 refine codeAny_forLoop_any (fun n s'=>∃ i σ' H',Inv X pins σ' H' s'/\tn i s'.heap/\(∀ b∈fp,H' b=none)/\W i n σ' H') ?_ m0 ⟨0,σ,H2,I2,st2,fun b hb=>(f2 b hb).1,w0⟩
 rintro n s3 ⟨i,σ3,H3,I3,st3,fr3,w3⟩
 rcases turn i n σ3 H3 w3 with⟨stop,qn⟩ | ⟨go,N,hN,step⟩
 ·refine wpAny_passesOwn hp (thn (T.done X rfl rfl rfl hc i pins s3 σ3 H3 X.xe I3 (stat fr3) st3 stop) fun r s4 ⟨hr,I4⟩=>?_)
  subst hr
  exact wpAny_execs_nil ⟨σ3,H3,I4,qn⟩
 ·refine wpAny_passesOwn hp (thn (T.item X rfl rfl rfl hc i pins s3 σ3 H3 X.xe I3 (stat fr3) st3 go) fun r s4 ⟨u,hr,h4⟩=>?_)
  subst hr
  refine wpAny_passesOwn hp (thn h4 fun _ s5 ⟨x,H5,I5,r5,y5,st5,fr5⟩=>?_)
  have I5':=I5.pinned (stat fr5) (T.obj _ _ st5)
  refine wpAny_passesOwn hp (thn (hg _ s5 σ3 H5 x u _ I5' r5 (step x H5 y5)) fun _ s6 ⟨σ6,H6,I6,q6⟩=>?_)
  refine wpAny_passesOwn hp (thn (hb _ s6 σ6 H6 _ I6 q6) fun f s7 q7=>?_)
  have again:∀ {σ7:St} {H7:Hp},Inv X (pins++pA fp s5.heap) σ7 H7 s7->N σ7 H7->∃ m,m < n/\∃ i σ' H',Inv X pins σ' H' s7/\tn i s7.heap/\(∀ b∈fp,H' b=none)/\W i m σ' H':=fun {σ7 H7} I7 n7=>by
   obtain⟨m',hm,w7⟩:=hN σ7 H7 n7
   refine⟨m',hm,i+1,σ7,H7,I7.jG,T.keep _ _ _ st5 fun b hb o e=>(I7.pin (b,o) (List.mem_append_right _ (List.mem_append_right _ (fj hb e)))).1,fun b hb=>?_,w7⟩
   obtain⟨o,e,d⟩:=T.obj _ _ st5 b hb
   exact (I7.pin (b,o) (List.mem_append_right _ (List.mem_append_right _ (fj hb e)))).2.1
  cases f with
  | next=>obtain⟨σ7,H7,I7,n7⟩:=q7; exact again I7 n7
  | cont=>obtain⟨σ7,H7,I7,n7⟩:=q7; exact again I7 n7
  | brk=>obtain⟨σ7,H7,I7,q7⟩:=q7; exact⟨σ7,H7,I7.jG,q7⟩
  | ret v=>obtain⟨x7,σ7,H7,I7,r7,q7⟩:=q7; exact⟨x7,σ7,H7,I7.jG,r7,q7⟩
end
theorem rA {K:PySem.W.Frag} {a:Addr} {xs:List V} {g:TG} {tb:TS} {D:Ends} {σ:St} {H:Hp} (Pv:Nat->St->Hp->Prop) (h0:Pv 0 σ H) (hl:∀ i σ H,i<=xs.length->Pv i σ H->SqL K H a xs)
  (hs:∀ i x σ H,xs[i]? = some x->Pv i σ H->g x σ H fun σ2 H2=>tb { D with nx:=Pv (i+1),ct:=Pv (i+1),bk:=D.nx } σ2 H2) (hd:∀ σ H,Pv xs.length σ H->D.nx σ H) :
  ∃ W:Nat->Nat->St->Hp->Prop,(∃ m,W 0 m σ H)/\∀ i m σ H,W i m σ H →
   ((Itl K a).stop i H/\D.nx σ H)∨((Itl K a).go i H/\∃ N:St->Hp->Prop,(∀ σ' H',N σ' H'->∃ m',m' < m/\W (i+1) m' σ' H')/\∀ x H',(Itl K a).yld i H x H'->g x σ H' fun σ2 H2=>tb { D with nx:=N,ct:=N,bk:=D.nx } σ2 H2):=by
 refine⟨fun i m σ H=>m=xs.length - i/\i<=xs.length/\Pv i σ H,⟨xs.length,by simp,Nat.zero_le _,h0⟩,?_⟩
 rintro i m σ H ⟨rfl,hi,p⟩
 have q:=hl i σ H hi p
 by_cases hlt:i < xs.length
 ·refine .inr ⟨⟨xs,xs[i],q,by simp [hlt]⟩,Pv (i+1),fun σ' H' p'=>⟨xs.length - (i+1),by lia,rfl,hlt,p'⟩,fun x H' y=>?_⟩
  obtain⟨e,y⟩:=y
  subst e
  exact hs i x σ _ (y xs q) p
 ·have e:i=xs.length:=by lia
  subst e
  exact .inl ⟨⟨xs,q,Nat.le_refl _⟩,hd σ H p⟩
theorem oA {K:PySem.W.Frag} {a:Addr} {xs:List V} {g:TG} {tb:TS} {D:Ends} {σ:St} {H:Hp} (Pv:Nat->St->Hp->Prop) (h0:Pv 0 σ H) (hl:∀ i σ H,i<=xs.length->Pv i σ H->SqT K H a xs)
  (hs:∀ i x σ H,xs[i]? = some x->Pv i σ H->g x σ H fun σ2 H2=>tb { D with nx:=Pv (i+1),ct:=Pv (i+1),bk:=D.nx } σ2 H2) (hd:∀ σ H,Pv xs.length σ H->D.nx σ H) :
  ∃ W:Nat->Nat->St->Hp->Prop,(∃ m,W 0 m σ H)/\∀ i m σ H,W i m σ H →
   ((Itt K a).stop i H/\D.nx σ H)∨((Itt K a).go i H/\∃ N:St->Hp->Prop,(∀ σ' H',N σ' H'->∃ m',m' < m/\W (i+1) m' σ' H')/\∀ x H',(Itt K a).yld i H x H'->g x σ H' fun σ2 H2=>tb { D with nx:=N,ct:=N,bk:=D.nx } σ2 H2):=by
 refine⟨fun i m σ H=>m=xs.length - i/\i<=xs.length/\Pv i σ H,⟨xs.length,by simp,Nat.zero_le _,h0⟩,?_⟩
 rintro i m σ H ⟨rfl,hi,p⟩
 have q:=hl i σ H hi p
 by_cases hlt:i < xs.length
 ·refine .inr ⟨⟨xs,xs[i],q,by simp [hlt]⟩,Pv (i+1),fun σ' H' p'=>⟨xs.length - (i+1),by lia,rfl,hlt,p'⟩,fun x H' y=>?_⟩
  obtain⟨e,y⟩:=y
  subst e
  exact hs i x σ _ (y xs q) p
 ·have e:i=xs.length:=by lia
  subst e
  exact .inl ⟨⟨xs,q,Nat.le_refl _⟩,hd σ H p⟩
theorem mO {lo:Int} {n:Nat} {g:TG} {tb:TS} {D:Ends} {σ:St} {H:Hp} (Pv:Nat->St->Hp->Prop) (h0:Pv 0 σ H)
  (hs:∀ i σ H,i < n->Pv i σ H->g (.int (lo+i)) σ H fun σ2 H2=>tb { D with nx:=Pv (i+1),ct:=Pv (i+1),bk:=D.nx } σ2 H2) (hd:∀ σ H,Pv n σ H->D.nx σ H) :
  ∃ W:Nat->Nat->St->Hp->Prop,(∃ m,W 0 m σ H)/\∀ i m σ H,W i m σ H →
   ((Itr lo n).stop i H/\D.nx σ H)∨((Itr lo n).go i H/\∃ N:St->Hp->Prop,(∀ σ' H',N σ' H'->∃ m',m' < m/\W (i+1) m' σ' H')/\∀ x H',(Itr lo n).yld i H x H'->g x σ H' fun σ2 H2=>tb { D with nx:=N,ct:=N,bk:=D.nx } σ2 H2):=by
 refine⟨fun i m σ H=>m=n - i/\i<=n/\Pv i σ H,⟨n,by simp,Nat.zero_le _,h0⟩,?_⟩
 rintro i m σ H ⟨rfl,hi,p⟩
 by_cases hlt:i < n
 ·refine .inr ⟨hlt,Pv (i+1),fun σ' H' p'=>⟨n - (i+1),by lia,rfl,hlt,p'⟩,fun x H' y=>?_⟩
  obtain⟨e,y⟩:=y
  subst e y
  exact hs i σ _ hlt p
 ·have e:i=n:=by lia
  subst e
  exact .inl ⟨Nat.le_refl _,hd σ H p⟩
theorem Gx {c:TT} {tb:TS} {D:Ends} {σ:St} {H:Hp} (Pv:St->Hp->Prop) (μ:St->Hp->Nat) (h0:Pv σ H)
  (hs:∀ σ H,Pv σ H->c σ H fun b H1=>if b=true then tb { D with nx:=fun σ' H'=>Pv σ' H'/\μ σ' H' < μ σ H,ct:=fun σ' H'=>Pv σ' H'/\μ σ' H' < μ σ H,bk:=D.nx } σ H1 else D.nx σ H1)
  (mono:∀ σ H Q Q',(∀ b H1,Q b H1->Q' b H1)->c σ H Q->c σ H Q'):HN c tb D σ H:=by
 refine⟨fun m σ H=>m=μ σ H/\Pv σ H,⟨_,rfl,h0⟩,?_⟩
 rintro m σ H ⟨rfl,p⟩
 refine mono σ H _ _ (fun b H1 q=>?_) (hs σ H p)
 cases b with
 | true=>exact⟨_,fun σ' H' ⟨p',l⟩=>⟨_,l,rfl,p'⟩,q⟩
 | false=>exact q
end L2
namespace L2
open PySem PySem.Spec PyProof.Rows
noncomputable abbrev R2:=V->V->Hp->VK->Prop
noncomputable def OpR (X:Cx) (f:Value->Value->Sem Value) (r:R2):Prop :=
 ∀ (pins:List (Addr × Obj)) (s:Shared) (σ:St) (H:Hp) (x y:V) (v u:Value) (Q:VK),Inv X pins σ H s->RelV x v->RelV y u->r x y H Q →
  wpAny (model X.prog X.w) X.A (f v u) (EP X pins σ Q) X.xe s
noncomputable def UnR (X:Cx) (f:Value->Sem Value) (r:V->Hp->VK->Prop):Prop :=
 ∀ (pins:List (Addr × Obj)) (s:Shared) (σ:St) (H:Hp) (x:V) (v:Value) (Q:VK),Inv X pins σ H s->RelV x v->r x H Q →
  wpAny (model X.prog X.w) X.A (f v) (EP X pins σ Q) X.xe s
noncomputable def gF (X:Cx) (f:Value) (r:List V->Hp->VK->Prop):Prop :=
 ∀ (pins:List (Addr × Obj)) (s:Shared) (σ:St) (H:Hp) (xs:List V) (us:List Value) (Q:VK),Inv X pins σ H s->Vals xs us->r xs H Q →
  wpAny (model X.prog X.w) X.A (call f us) (EP X pins σ Q) X.xe s
noncomputable def tOp (r:R2) (ta tb:TE):TE:=fun σ H Q=>ta σ H fun x H1=>tb σ H1 fun y H2=>r x y H2 Q
noncomputable def tUn (r:V->Hp->VK->Prop) (ta:TE):TE:=fun σ H Q=>ta σ H fun x H1=>r x H1 Q
inductive RII (C:Int->Int->Prop) (g:Int->Int->V) (x:V) (y:V) (H:Hp) (Q:VK):Prop where
 | mk (i:Int) (j:Int) (z0:x = .int i) (z1:y = .int j) (z2:C i j) (z3:Q (g i j) H):RII C g x y H Q
noncomputable def rI (C:Int->Int->Prop) (g:Int->Int->V):R2:=fun x y H Q=>RII C g x y H Q
inductive O8 (g:Int->Int->V) (x:V) (y:V) (H:Hp) (Q:VK):Prop where
 | mk (i:Int) (j:Int) (z0:x = .int i) (z1:y = .int j) (z2:Q (g i j) H):O8 g x y H Q
noncomputable def rI0 (g:Int->Int->V):R2:=fun x y H Q=>O8 g x y H Q
inductive RUI (g:Int->V) (x:V) (H:Hp) (Q:VK):Prop where
 | mk (i:Int) (z0:x = .int i) (z1:Q (g i) H):RUI g x H Q
noncomputable def rU (g:Int->V):V->Hp->VK->Prop:=fun x H Q=>RUI g x H Q
section
variable {X:Cx} {a b c:Expr} {ta tb tc:TE} {pos:Pos}
theorem NK (ha:PE X a ta) (hb:PE X b tb) {pins:List (Addr × Obj)} {s:Shared} {σ:St} {H:Hp} {R:V->V->Hp->Prop} (I:Inv X pins σ H s)
  (h:ta σ H fun x H1=>tb σ H1 fun y H2=>R x y H2) {Q:Value->Shared->Prop} {f:Value->Value->Sem Value}
  (hf:∀ v u s2 x y H2,Inv X pins σ H2 s2->RelV x v->RelV y u->R x y H2->wpAny (model X.prog X.w) X.A (f v u) Q X.xe s2) :
  wpAny (model X.prog X.w) X.A (eval a X.env) (fun v s₁=>wpAny (model X.prog X.w) X.A (eval b X.env) (fun u s₂=>wpAny (model X.prog X.w) X.A (f v u) Q X.xe s₂) X.xe s₁) X.xe s:=by
 refine thn (ha pins s σ H _ I h) fun v s1 ⟨x,H1,I1,r1,q1⟩=>?_
 refine thn (hb pins s1 σ H1 _ I1 q1) fun u s2 ⟨y,H2,I2,r2,q2⟩=>?_
 exact hf v u s2 x y H2 I2 r1 r2 q2
theorem aQ {op:Operator} {r:R2} (ho:OpR X (binaryOp op) r) (ha:PE X a ta) (hb:PE X b tb):PE X (.BinOp a op b pos) (tOp r ta tb):=by
 intro pins s σ H Q I h
 exact wpAny_BinOp (NK ha hb I h fun v u s2 x y H2 I2 rx ry q=>ho pins s2 σ H2 x y v u Q I2 rx ry q)
theorem Ah {op:UnaryOp} {r:V->Hp->VK->Prop} (ho:UnR X (unaryOp op) r) (ha:PE X a ta):PE X (.UnaryOp op a pos) (tUn r ta):=by
 intro pins s σ H Q I h
 exact UnaryOp_ (thn (ha pins s σ H _ I h) fun v s1 ⟨x,H1,I1,r1,q1⟩=>ho pins s1 σ H1 x v Q I1 r1 q1)
theorem opI {f:Value->Value->Sem Value} {C:Int->Int->Prop} {g:Int->Int->Int}
  (rule:∀ (i j:Int) (t u:Tok) (s:Shared) (Q:Value->Shared->Prop) (E:Value->Shared->Prop),C i j->Q (.int (g i j) s.toks) { s with toks:=s.toks+1 }->wpAny (model X.prog X.w) X.A (f (.int i t) (.int j u)) Q E s) :
  OpR X f (rI C fun i j=>.int (g i j)):=by
 intro pins s σ H x y v u Q I rx ry h
 obtain⟨i,j,rfl,rfl,hc,q⟩:=h
 obtain⟨t,rfl⟩:=rx
 obtain⟨t',rfl⟩:=ry
 exact rule i j t t' s _ _ hc ⟨.int (g i j),H,I.tok _,⟨_,rfl⟩,q⟩
theorem O5 {f:Value->Value->Sem Value} {g:Int->Int->Int}
  (rule:∀ (i j:Int) (t u:Tok) (s:Shared) (Q:Value->Shared->Prop) (E:Value->Shared->Prop),Q (.int (g i j) s.toks) { s with toks:=s.toks+1 }->wpAny (model X.prog X.w) X.A (f (.int i t) (.int j u)) Q E s) :
  OpR X f (rI0 fun i j=>.int (g i j)):=by
 intro pins s σ H x y v u Q I rx ry h
 obtain⟨i,j,rfl,rfl,q⟩:=h
 obtain⟨t,rfl⟩:=rx
 obtain⟨t',rfl⟩:=ry
 exact rule i j t t' s _ _ ⟨.int (g i j),H,I.tok _,⟨_,rfl⟩,q⟩
theorem Ol {f:Value->Value->Sem Value} {g:Int->Int->Bool}
  (rule:∀ (i j:Int) (t u:Tok) (s:Shared) (Q:Value->Shared->Prop) (E:Value->Shared->Prop),Q (.bool (g i j)) s->wpAny (model X.prog X.w) X.A (f (.int i t) (.int j u)) Q E s) :
  OpR X f (rI0 fun i j=>.bl (g i j)):=by
 intro pins s σ H x y v u Q I rx ry h
 obtain⟨i,j,rfl,rfl,q⟩:=h
 obtain⟨t,rfl⟩:=rx
 obtain⟨t',rfl⟩:=ry
 exact rule i j t t' s _ _ ⟨.bl (g i j),H,I,rfl,q⟩
noncomputable def Py (i j:Int):Prop:=0 < j/\j < 1073741824
noncomputable def P0 (i j:Int):Prop:=0<=j/\j<=1000000/\i.natAbs < 2 ^ 64
noncomputable def Oo (i j:Int):Prop:=(-(2 ^ 64) < i/\i < 2 ^ 64)∨(-(2 ^ 64) < j/\j < 2 ^ 64)
theorem Oo.ok {i j:Int} (h:Oo i j):IntMulOk i j:=by
 rcases h with⟨h1,h2⟩ | ⟨h1,h2⟩
 ·exact .of_left (intBits_le_64 h1 h2)
 ·exact .of_right (intBits_le_64 h1 h2)
theorem bL:OpR X (binaryOp .Add) (rI0 fun i j=>.int (i+j)):=O5 fun _ _ _ _ _ _ _ q=>add_int q
theorem nW:OpR X (binaryOp .Sub) (rI0 fun i j=>.int (i - j)):=O5 fun _ _ _ _ _ _ _ q=>sub_int q
theorem iG:OpR X (binaryOp .Mult) (rI Oo fun i j=>.int (i * j)):=opI fun _ _ _ _ _ _ _ hc q=>mul_int q hc.ok
theorem rF:OpR X (binaryOp .FloorDiv) (rI Py fun i j=>.int (i / j)):=opI fun i j _ _ _ _ _ hc q=>by
 have h1:(0:Int) < j:=hc.1
 have h2:j < 1073741824:=hc.2
 exact floordiv_int (by lia) (by rw[Int.fdiv_eq_ediv_of_nonneg i (by lia)]; exact q) (.inl (PyProof.noPylong_small (by lia)))
theorem cN:OpR X (binaryOp .Mod) (rI (fun _ j=>0 < j) fun i j=>.int (i % j)):=opI fun i j _ _ _ _ _ hc q=>by
 have h1:(0:Int) < j:=hc
 exact mod_int' (by lia) (by rw[Int.fmod_eq_emod_of_nonneg i (by lia)]; exact q)
theorem m5:OpR X (binaryOp .Pow) (rI P0 fun i j=>.int (i ^ j.toNat)):=opI fun _ _ _ _ _ _ _ hc q=>pow_int_small hc.1 hc.2.1 hc.2.2 q
theorem unI {f:Value->Sem Value} {g:Int->Int}
  (rule:∀ (i:Int) (t:Tok) (s:Shared) (Q:Value->Shared->Prop) (E:Value->Shared->Prop),Q (.int (g i) s.toks) { s with toks:=s.toks+1 }->wpAny (model X.prog X.w) X.A (f (.int i t)) Q E s) :
  UnR X f (rU fun i=>.int (g i)):=by
 intro pins s σ H x v Q I rx h
 obtain⟨i,rfl,q⟩:=h
 obtain⟨t,rfl⟩:=rx
 exact rule i t s _ _ ⟨.int (g i),H,I.tok _,⟨_,rfl⟩,q⟩
theorem sS:UnR X (unaryOp .USub) (rU fun i=>.int (-i)):=unI fun _ _ _ _ _ q=>neg_int q
end
noncomputable def O2:V->V->Bool
 | .non,.non=>true | .non,.int _=>true | .int _,.non=>true | .non,.bl _=>true | .bl _,.non=>true | .non,.str _=>true | .str _,.non=>true
 | .int _,.int _=>true | .bl _,.bl _=>true | .str _,.str _=>true | .byt _,.byt _=>true
 | .int _,.str _=>true | .str _,.int _=>true | .bl _,.str _=>true | .str _,.bl _=>true
 | _,_=>false
noncomputable def rEq:R2:=fun x y H Q=>O2 x y=true/\Q (.bl (decide (x=y))) H
noncomputable def rNe:R2:=fun x y H Q=>O2 x y=true/\Q (.bl (!decide (x=y))) H
theorem zV {i j:Int}:decide (V.int i=V.int j)=(i == j):=by
 rw[Bool.eq_iff_iff]
 simp
theorem Ih {i j:Bool}:decide (V.bl i=V.bl j)=(i == j):=by
 rw[Bool.eq_iff_iff]
 simp
theorem CT {i j:Str}:decide (V.str i=V.str j)=(i == j):=by
 rw[Bool.eq_iff_iff]
 simp
theorem Aq {i j:Array UInt8}:decide (V.byt i=V.byt j)=(i.toList == j.toList):=by
 rw[Bool.eq_iff_iff]
 cases i
 cases j
 simp
section
variable {X:Cx} {a b c:Expr} {ta tb tc:TE} {pos:Pos}
theorem bW {pins:List (Addr × Obj)} {σ:St} {H:Hp} {s:Shared} {Q:VK} {k k':Bool} (I:Inv X pins σ H s) (q:Q (.bl k) H) (e:k=k'):EP X pins σ Q (.bool k') s:=by
 subst e
 exact⟨.bl k,H,I,rfl,q⟩
theorem fc:OpR X (compareOp .Eq) rEq:=by
 intro pins s σ H x y v u Q I rx ry h
 obtain⟨hs,q⟩:=h
 cases x with
 | non =>
  cases rx
  cases y with
  | non=>cases ry; exact PySem.EqNone.eq_none_none (bW I q (by simp))
  | bl j=>cases ry; exact PySem.EqNone.eq_none_bool (bW I q (by simp))
  | int j=>obtain⟨t',rfl⟩:=ry; exact PySem.EqNone.eq_none_int (bW I q (by simp))
  | str j=>obtain⟨t',rfl⟩:=ry; exact PySem.EqNone.eq_none_str (bW I q (by simp))
  | _=>exact absurd (show false=true from hs) Bool.false_ne_true
 | bl i =>
  cases rx
  cases y with
  | non=>cases ry; exact PySem.EqNone.eq_bool_none (bW I q (by simp))
  | bl j=>cases ry; exact eq_bool (bW I q Ih)
  | str j=>obtain⟨t',rfl⟩:=ry; exact PySem.EqMixed.eq_bool_str (bW I q (by simp))
  | _=>exact absurd (show false=true from hs) Bool.false_ne_true
 | int i =>
  obtain⟨t,rfl⟩:=rx
  cases y with
  | non=>cases ry; exact PySem.EqNone.eq_int_none (bW I q (by simp))
  | int j=>obtain⟨t',rfl⟩:=ry; exact eq_int (bW I q zV)
  | str j=>obtain⟨t',rfl⟩:=ry; exact PySem.EqMixed.eq_int_str (bW I q (by simp))
  | _=>exact absurd (show false=true from hs) Bool.false_ne_true
 | str i =>
  obtain⟨t,rfl⟩:=rx
  cases y with
  | non=>cases ry; exact PySem.EqNone.eq_str_none (bW I q (by simp))
  | bl j=>cases ry; exact PySem.EqMixed.eq_str_bool (bW I q (by simp))
  | int j=>obtain⟨t',rfl⟩:=ry; exact PySem.EqMixed.eq_str_int (bW I q (by simp))
  | str j=>obtain⟨t',rfl⟩:=ry; exact eq_str (bW I q CT)
  | _=>exact absurd (show false=true from hs) Bool.false_ne_true
 | byt i =>
  obtain⟨t,rfl⟩:=rx
  cases y with
  | byt j=>obtain⟨t',rfl⟩:=ry; exact PySem.W.eq_bytes (bW I q Aq)
  | _=>exact absurd (show false=true from hs) Bool.false_ne_true
 | _=>cases y <;> exact absurd (show false=true from hs) Bool.false_ne_true
theorem KY:OpR X (compareOp .NotEq) rNe:=by
 intro pins s σ H x y v u Q I rx ry h
 obtain⟨hs,q⟩:=h
 cases x with
 | non =>
  cases rx
  cases y with
  | non=>cases ry; exact PySem.EqNone.ne_none_none (bW I q (by simp))
  | bl j=>cases ry; exact PySem.EqNone.ne_none_bool (bW I q (by simp))
  | int j=>obtain⟨t',rfl⟩:=ry; exact PySem.EqNone.ne_none_int (bW I q (by simp))
  | str j=>obtain⟨t',rfl⟩:=ry; exact PySem.EqNone.ne_none_str (bW I q (by simp))
  | _=>exact absurd (show false=true from hs) Bool.false_ne_true
 | bl i =>
  cases rx
  cases y with
  | non=>cases ry; exact PySem.EqNone.ne_bool_none (bW I q (by simp))
  | bl j=>cases ry; exact ne_bool (bW I q (congrArg not Ih))
  | str j=>obtain⟨t',rfl⟩:=ry; exact PySem.EqMixed.ne_bool_str (bW I q (by simp))
  | _=>exact absurd (show false=true from hs) Bool.false_ne_true
 | int i =>
  obtain⟨t,rfl⟩:=rx
  cases y with
  | non=>cases ry; exact PySem.EqNone.ne_int_none (bW I q (by simp))
  | int j=>obtain⟨t',rfl⟩:=ry; exact ne_int (bW I q (congrArg not zV))
  | str j=>obtain⟨t',rfl⟩:=ry; exact PySem.EqMixed.ne_int_str (bW I q (by simp))
  | _=>exact absurd (show false=true from hs) Bool.false_ne_true
 | str i =>
  obtain⟨t,rfl⟩:=rx
  cases y with
  | non=>cases ry; exact PySem.EqNone.ne_str_none (bW I q (by simp))
  | bl j=>cases ry; exact PySem.EqMixed.ne_str_bool (bW I q (by simp))
  | int j=>obtain⟨t',rfl⟩:=ry; exact PySem.EqMixed.ne_str_int (bW I q (by simp))
  | str j=>obtain⟨t',rfl⟩:=ry; exact ne_str (bW I q (congrArg not CT))
  | _=>exact absurd (show false=true from hs) Bool.false_ne_true
 | byt i =>
  obtain⟨t,rfl⟩:=rx
  cases y with
  | byt j=>obtain⟨t',rfl⟩:=ry; exact PySem.W.ne_bytes (bW I q (congrArg not Aq))
  | _=>exact absurd (show false=true from hs) Bool.false_ne_true
 | _=>cases y <;> exact absurd (show false=true from hs) Bool.false_ne_true
theorem Ba:OpR X (compareOp .Lt) (rI0 fun i j=>.bl (decide (i < j))):=Ol fun _ _ _ _ _ _ _ q=>lt_int q
theorem DN:OpR X (compareOp .Gt) (rI0 fun i j=>.bl (decide (j < i))):=Ol fun _ _ _ _ _ _ _ q=>gt_int q
theorem nD:OpR X (compareOp .GtE) (rI0 fun i j=>.bl (decide (j<=i))):=Ol fun _ _ _ _ _ _ _ q=>ge_int q
theorem OpR.or {f:Value->Value->Sem Value} {r r':R2} (h:OpR X f r) (h':OpR X f r'):OpR X f (fun x y H Q=>r x y H Q∨r' x y H Q):=by
 intro pins s σ H x y v u Q I rx ry q
 rcases q with q | q
 ·exact h pins s σ H x y v u Q I rx ry q
 ·exact h' pins s σ H x y v u Q I rx ry q
theorem aZ (b:Expr) {op:CmpOp} (h : autoParam (op≠.In) L2.az2._auto_1) (h2 : autoParam (op≠.NotIn) L2.az2._auto_1):behindInMarks op b=false:=by
 have e1:(op == CmpOp.In)=false:=by cases op <;> first | rfl | exact absurd rfl h
 have e2:(op == CmpOp.NotIn)=false:=by cases op <;> first | rfl | exact absurd rfl h2
 cases b <;> simp [behindInMarks,e1,e2]
theorem cM {op:CmpOp} {r:R2} (ho:OpR X (compareOp op) r) (ha:PE X a ta) (hb:PE X b tb) (hm:behindInMarks op b=false):PE X (.Compare a [op] [b] pos) (tOp r ta tb):=by
 intro pins s σ H Q I h
 exact wpAny_Compare1 (NK ha hb I h fun v u s2 x y H2 I2 rx ry q=>ho pins s2 σ H2 x y v u Q I2 rx ry q) hm
noncomputable def N5 (t:TE):TT:=fun σ H Q=>t σ H fun x H'=>ExB x fun k=>Q k H'
theorem aX {op:CmpOp} {r:R2} (ho:OpR X (compareOp op) r) (ha:PE X a ta) (hb:PE X b tb) (hm:behindInMarks op b=false):PT X (.Compare a [op] [b] pos) (N5 (tOp r ta tb)):=by
 intro pins s σ H Q I h
 refine wpAny_isTrue_Compare1 (thn (ha pins s σ H _ I h) fun v s1 ⟨x,H1,I1,r1,q1⟩=>thn (hb pins s1 σ H1 _ I1 q1) fun u s2 ⟨y,H2,I2,r2,q2⟩ =>
  thn (ho pins s2 σ H2 x y v u _ I2 r1 r2 q2) fun c s3 ⟨z,H3,I3,r3,k,e,q3⟩=>?_) hm
 subst e
 cases r3
 exact wpAny_truthy_bool ⟨H3,I3,q3⟩
theorem uc:(sizeLine:Nat) < 2 ^ 63:=by rw[sizeLine_eq]; decide
theorem vals1 {x:V} {us:List Value} (r:Vals [x] us):∃ u,us=[u]/\RelV x u:=by
 cases r with
 | cons r1 r2=>cases r2; exact⟨_,rfl,r1⟩
theorem vals2 {x y:V} {us:List Value} (r:Vals [x,y] us):∃ u w',us=[u,w']/\RelV x u/\RelV y w':=by
 cases r with
 | cons r1 r2 =>
  cases r2 with
  | cons r3 r4=>cases r4; exact⟨_,_,rfl,r1,r3⟩
theorem jF:gF X (.builtin "abs") (fun xs H Q=>∃ i,xs=[.int i]/\Q (.int (if i < 0 then -i else i)) H):=by
 intro pins s σ H xs us Q I r h
 obtain⟨i,rfl,q⟩:=h
 obtain⟨u,rfl,t,rfl⟩:=vals1 r
 exact call_abs_int fun u tk=>⟨.int (if i < 0 then -i else i),H,I.tok _,⟨_,rfl⟩,q⟩
theorem nA (hc:X.calm=true):gF X (.builtin "max") (fun xs H Q=>∃ i j,xs=[.int i,.int j]/\Q (.int (if j > i then j else i)) H):=by
 intro pins s σ H xs us Q I r h
 obtain⟨i,j,rfl,q⟩:=h
 obtain⟨u,w',rfl,⟨t,rfl⟩,⟨t',rfl⟩⟩:=vals2 r
 refine max_two_ints (I.ok.hd hc) fun h' tk k=>⟨_,H,I.kept k,?_,q⟩
 by_cases hj:j > i
 ·rw[if_pos hj,if_pos hj]; exact⟨_,rfl⟩
 ·rw[if_neg hj,if_neg hj]; exact⟨_,rfl⟩
theorem ue (hc:X.calm=true):gF X (.builtin "min") (fun xs H Q=>∃ i j,xs=[.int i,.int j]/\Q (.int (if j < i then j else i)) H):=by
 intro pins s σ H xs us Q I r h
 obtain⟨i,j,rfl,q⟩:=h
 obtain⟨u,w',rfl,⟨t,rfl⟩,⟨t',rfl⟩⟩:=vals2 r
 refine min_two_ints (I.ok.hd hc) fun h' tk k=>⟨_,H,I.kept k,?_,q⟩
 by_cases hj:j < i
 ·rw[if_pos hj,if_pos hj]; exact⟨_,rfl⟩
 ·rw[if_neg hj,if_neg hj]; exact⟨_,rfl⟩
theorem vf:gF X (.type "int") (fun xs H Q=>(∃ i,xs=[.int i]/\Q (.int i) H)∨∃ k,xs=[.bl k]/\Q (.int (if k then 1 else 0)) H):=by
 intro pins s σ H xs us Q I r h
 rcases h with⟨i,rfl,q⟩ | ⟨k,rfl,q⟩
 ·obtain⟨u,rfl,t,rfl⟩:=vals1 r
  exact call_int_int ⟨.int i,H,I,⟨_,rfl⟩,q⟩
 ·obtain⟨u,rfl,r1⟩:=vals1 r
  cases r1
  exact call_int_bool ⟨.int (if k then 1 else 0),H,I.tok _,⟨_,rfl⟩,q⟩
end
end L2
namespace L2
open PySem PySem.Spec PyProof.Rows
structure Om (h:Heap) (x dx C:Addr) (mA:Str->Option Value):Prop where
 obj:h.get? x=some (PySem.W.instObj C dx)
 ns:h.Ns1 dx mA
 ne:dx≠x
theorem uY {h:Heap} {dx:Addr} {mA:Str->Option Value} (n:h.Ns1 dx mA):∃ od,h.get? dx=some od/\∀ name,PySem.W.lookIn name od=some (mA name):=by
 obtain⟨o,es,ep,ho,hd,hk,_,hm⟩:=n
 refine⟨o,ho,fun name=>?_⟩
 have e:=hm name
 unfold nsFind findBy at e
 rw[← Array.find?_toList] at e
 unfold PySem.W.lookIn
 rw[hd]
 dsimp only
 split
 ·rename_i y q
  rw[q] at e
  exact congrArg some e
 ·rename_i q
  rw[q] at e
  have a:es.toList.any (·.refKey)=false:=by
   rw[List.any_eq_false]
   intro y hy
   obtain⟨z,t,hkey⟩:=hk y (Array.mem_toList_iff.mp hy)
   simp [DictEntry.refKey,hkey]
  have a':¬ es.toList.any (·.refKey)=true:=by rw[a]; exact Bool.false_ne_true
  rw[if_neg a']
  exact congrArg some e
theorem Om.look {h:Heap} {x dx C:Addr} {mA:Str->Option Value} (I:Om h x dx C mA):∃ od,PySem.W.InstAt h x (PySem.W.instObj C dx) C (some od)/\∀ name,PySem.W.lookIn name od=some (mA name) :=
 let ⟨od,ho,hl⟩:=uY I.ns
 ⟨od,⟨I.obj,rfl,rfl,ho⟩,hl⟩
section
variable {prog:Program} {w:World} {A:Around} {E:Value->Shared->Prop} {s:Shared} {K:PySem.W.Frag} {x dx C f:Addr} {mA:Str->Option Value} {name:Str} {v:Value}
end
theorem Ig.some_of {v:V} {o:Option Value} (r:Ig (some v) o):∃ u,o=some u/\RelV v u:=by
 cases o with
 | none=>exact (show False from r).elim
 | some u=>exact⟨u,rfl,r⟩
theorem BW {v:V} {u:Value} (r:RelV v u):PySem.W.handedIn u=true:=by
 cases v with
 | non=>cases (show u=Value.none from r); rfl
 | bl b=>cases (show u=Value.bool b from r); rfl
 | int i=>obtain⟨t,e⟩:=(show ∃ t,u=Value.int i t from r); cases e; rfl
 | str x=>obtain⟨t,e⟩:=(show ∃ t,u=Value.str x t from r); cases e; rfl
 | byt b=>obtain⟨t,e⟩:=(show ∃ t,u=Value.bytes b t from r); cases e; rfl
 | flt b=>obtain⟨t,e⟩:=(show ∃ t,u=Value.float b t from r); cases e; rfl
 | ref a=>cases (show u=Value.ref a from r); rfl
 | ty n=>cases (show u=Value.type n from r); rfl
section
variable {P:Program} {w:World} {H H':Hp} {h h':Heap} {a C dx:Addr} {fs fs':List (Str × V)}
theorem Jx (hok:HOk P w H h) (e:H a=some (.ins C dx fs)):∃ mA,Om h a dx C mA/\(∀ f,Ig (fs.lookup f) (mA f))/\PySem.Within mA (fs.map (·.1))/\fs.length<=1000/\H dx=some (.own a):=by
 obtain⟨d,z,ne,ob,mA,n,r,q⟩:=(show fV P w H h a (.ins C dx fs) from hok a _ e)
 exact⟨mA,⟨ob,n,ne⟩,r,q,z,d⟩
end
structure Cls (K:PySem.W.Frag) (C:Addr):Prop where
 pg:PySem.W.plainGet K C Str.empty=true
 hd:PySem.W.hasDictIn K C=true
 po:PySem.W.plainOver K C=true
 sa:PySem.W.findIn K (.ref C) "__setattr__" = some (some (.builtin "object.__setattr__"))
theorem Cls.get {K:PySem.W.Frag} {C:Addr} (c:Cls K C) (f:Str):PySem.W.plainGet K C f=true:=c.pg
structure Con (K:PySem.W.Frag) (C:Addr) (f:Str) (v:V) (u:Value):Prop where
 at_:PySem.W.findIn K (.ref C) f=some (some u)
 rel:RelV v u
 get:PySem.W.specialIn K u "__get__" = some none
 cp:PySem.W.copiedNames.contains f=false
structure Meth (K:PySem.W.Frag) (C:Addr) (m:Str) (f:Addr):Prop where
 at_:PySem.W.findIn K (.ref C) m=some (some (.ref f))
 fn:PySem.W.isFn K (.ref f)=true
 kp:PySem.W.keepIn K (.ref f)=true
section
variable {X:Cx} {pins:List (Addr × Obj)} {σ:St} {H:Hp} {s:Shared} {a C dx:Addr} {fs:List (Str × V)} {f:Str} {v:V} {A:Around} {E:Value->Shared->Prop}
theorem Inv.made (I:Inv X pins σ H s):Inv X pins σ (upd (upd H s.heap.objs.size (.own (s.heap.objs.size+1))) (s.heap.objs.size+1) (.ins C s.heap.objs.size []))
  {s with heap:=(s.heap.push PySem.W.emptyDict).push (PySem.W.instObj C s.heap.objs.size) }:=by
 have e1:(s.heap.push PySem.W.emptyDict).get? s.heap.objs.size=some PySem.W.emptyDict:=Heap.get?_push_size s.heap rfl
 have e2:((s.heap.push PySem.W.emptyDict).push (PySem.W.instObj C s.heap.objs.size)).get? (s.heap.objs.size+1)=some (PySem.W.instObj C s.heap.objs.size):=by
  have:=Heap.get?_push_size (s.heap.push PySem.W.emptyDict) (o:=PySem.W.instObj C s.heap.objs.size) rfl
  rwa [Heap.size_push] at this
 have e3:(s.heap.push PySem.W.emptyDict).Ns s.heap.objs.size (fun _=>none):=⟨PySem.W.emptyDict,#[],_,e1,rfl,(fun e he=>absurd he (by simp)),fun _=>rfl⟩
 have I1:=I.laid (a:=s.heap.objs.size) (o:=.own (s.heap.objs.size+1)) (h':=s.heap.push PySem.W.emptyDict) (t':=s.toks) (fun b u q=>Heap.get?_push_of_some _ q) (Nat.le_refl _) ⟨_,e1⟩
 refine I1.laid (a:=s.heap.objs.size+1) (o:=.ins C s.heap.objs.size []) (t':=s.toks) (fun b u q=>Heap.get?_push_of_some _ q) (Nat.le_of_eq (Heap.size_push _ _)) ?_
 have ne:s.heap.objs.size≠s.heap.objs.size+1:=Nat.ne_of_lt (Nat.lt_succ_self _)
 refine⟨by rw[aR ne,ao],Nat.zero_le _,ne,e2,fun _=>none,(Heap.Ns1.of_empty e3).at fun o q=>Heap.get?_push_of_some _ q,fun _=>True.intro,fun y hy=>absurd rfl hy⟩
theorem Jm {prog:Program} {w:World} {env:Env} {e:Expr} {f:Str} {pos:Pos} {s:Shared} {Q:Value->Shared->Prop} (hb:attributeBase e f env (eval e env)=eval e env)
  (h:wpAny (model prog w) A (eval e env) (fun o s₁=>wpAny (model prog w) A (getAttr o f true) Q E s₁) E s):wpAny (model prog w) A (eval (.Attribute e f pos) env) Q E s :=
 Attribute_any_ h (by rw[arm_eval_Attribute,hb])
end
section
variable {X:Cx} {o e value:Expr} {f:Str} {pos pos' tpos:Pos} {ta tv:TE}
end
section
variable {X:Cx} {pins:List (Addr × Obj)} {σ:St} {H:Hp} {s:Shared} {A:Around} {E:Value->Shared->Prop} {Q:Value->Shared->Prop} {c:Value} {b:Bool}
inductive zr (K:PySem.W.Frag) (H:Hp):V->Value->Prop where
 | non:zr K H .non (.type "NoneType")
 | bl (x:Bool):zr K H (.bl x) (.type "bool")
 | int (i:Int):zr K H (.int i) (.type "int")
 | str (x:Str):zr K H (.str x) (.type "str")
 | flt (x:UInt64):zr K H (.flt x) (.type "float")
 | lst {a:Addr} {xs:List V} (e:H a=some (.lst xs)):zr K H (.ref a) (.type "list")
 | frz {a:Addr} {o:Obj} {xs:List V} (e:H a=some (.frz o (.lst xs))):zr K H (.ref a) (.type "list")
 | tup {a:Addr} {xs:List V} (e:H a=some (.tup xs)):zr K H (.ref a) (.type "tuple")
 | dK {a:Addr} {kvs:List (Key × V)} (e:H a=some (.dK kvs)):zr K H (.ref a) (.type "dict")
 | dT {a:Addr} {kvs:List (List Key × V)} (e:H a=some (.dT kvs)):zr K H (.ref a) (.type "dict")
 | ins {a C dx:Addr} {fs:List (Str × V)} (e:H a=some (.ins C dx fs)) (cl:Cls K C) (ha:PySem.W.findIn K (.ref C) "__class__" = some (some (.builtin "object.__class__")))
   (hn:PySem.W.specialIn K (.builtin "object.__class__") "__get__" = some (some (.builtin "getset_descriptor.__get__"))) (htk:PySem.W.takesIn K (.builtin "object.__class__")=some true)
   (hm:PySem.W.mroIn K C (.type "object")=some true):zr K H (.ref a) (.ref C)
theorem Bh {x:V} {u t:Value} (I:Inv X pins σ H s) (rx:RelV x u) (ty:zr X.K H x t) (e:PySem.W.kitOne X.K t c=some b) (h:∀ tk,Q (.bool b) { s with toks:=tk }) :
  wpAny (model X.prog X.w) A (call (.builtin "isinstance") [u,c]) Q E s:=by
 cases ty with
 | non=>cases (show u=Value.none from rx); exact PySem.W.kia_one PySem.W.kitx_none I.kIn True.intro e (fun z=>nomatch z) h
 | bl y=>cases (show u=Value.bool y from rx); exact PySem.W.kia_one PySem.W.kitx_bool I.kIn True.intro e (fun z=>nomatch z) h
 | int i=>obtain⟨t,q⟩:=(show ∃ t,u=Value.int i t from rx); cases q; exact PySem.W.kia_one PySem.W.kitx_int I.kIn True.intro e (fun z=>nomatch z) h
 | str y=>obtain⟨t,q⟩:=(show ∃ t,u=Value.str y t from rx); cases q; exact PySem.W.kia_one PySem.W.kitx_str I.kIn True.intro e (fun z=>nomatch z) h
 | flt y=>obtain⟨t,q⟩:=(show ∃ t,u=Value.float y t from rx); cases q; exact PySem.W.kia_one PySem.W.kitx_float I.kIn True.intro e (fun z=>nomatch z) h
 | @lst a xs ea =>
  cases (show u=Value.ref a from rx)
  obtain⟨_,_,n,_,h1⟩:=(show fV X.prog X.w H s.heap a (.lst xs) from I.hok a _ ea)
  exact PySem.W.kia_one PySem.W.kitx_list I.kIn ⟨_,h1,rfl⟩ e (fun z=>nomatch z) h
 | @frz a ob xs ea =>
  cases (show u=Value.ref a from rx)
  obtain⟨_,_,_,n,_,h1⟩:=(show fV X.prog X.w H s.heap a (.frz ob (.lst xs)) from I.hok a _ ea)
  exact PySem.W.kia_one PySem.W.kitx_list I.kIn ⟨_,h1,rfl⟩ e (fun z=>nomatch z) h
 | @tup a xs ea =>
  cases (show u=Value.ref a from rx)
  obtain⟨_,_,_,p⟩:=(show fV X.prog X.w H s.heap a (.tup xs) from I.hok a _ ea)
  obtain⟨o,h1,h2,_⟩:=p
  exact PySem.W.kia_one PySem.W.kitx_tuple I.kIn ⟨o,h1,h2⟩ e (fun z=>nomatch z) h
 | @dK a kvs ea =>
  cases (show u=Value.ref a from rx)
  obtain⟨_,_,vs,_,p⟩:=(show fV X.prog X.w H s.heap a (.dK kvs) from I.hok a _ ea)
  obtain⟨o,es,ep,h1,h2,_⟩:=p
  exact PySem.W.kia_one PySem.W.kitx_dict I.kIn ⟨o,h1,h2.1⟩ e (fun z=>nomatch z) h
 | @dT a kvs ea =>
  cases (show u=Value.ref a from rx)
  obtain⟨_,_,xs,_,o,es,ep,h1,h2,_⟩:=(show fV X.prog X.w H s.heap a (.dT kvs) from I.hok a _ ea)
  exact PySem.W.kia_one PySem.W.kitx_dict I.kIn ⟨o,h1,h2.1⟩ e (fun z=>nomatch z) h
 | @ins a C dx fs ea cl ha hn htk hm =>
  cases (show u=Value.ref a from rx)
  obtain⟨mA,O,_⟩:=Jx I.hok ea
  obtain⟨od,J,_⟩:=O.look
  exact PySem.W.kia_one (PySem.W.kitx_own (cl.get _) cl.hd ha hn htk hm) I.kIn J e (fun z=>nomatch z) h
end
end L2
namespace L2
open PySem PySem.Spec PyProof.Rows
structure gB (k:Nat) (A:Around):Prop where
 hd:A.handled=none
 dp:A.depth+3 * k+5 < recursionLimit
 un:A.units+16 * k+200 < cLine
theorem gB.mono {j k:Nat} {A:Around} (r:gB k A) (h:j<=k):gB j A:=⟨r.hd,by have:=r.dp; lia,by have:=r.un; lia⟩
theorem gB.deeper {k:Nat} {A:Around} (r:gB (k+1) A) (env:Env):gB k (A.deeper env) :=
 ⟨r.hd,by have:=r.dp; show A.depth+1+3 * k+5 < _; lia,by have:=r.un; show A.units+3+16 * k+200 < _; lia⟩
theorem gB.in1 {k:Nat} {A:Around} (r:gB (k+1) A):gB k A.in1 :=
 ⟨r.hd,by have:=r.dp; show A.depth+3 * k+5 < _; lia,by have:=r.un; show A.units+1+16 * k+200 < _; lia⟩
theorem yO {A:Around} {C:Addr} {us:List Value} {kw:List (Str × Value)}:(A.under (.builtin "type.__call__" ⟨.ref C::us,kw⟩)).depth=A.depth+1:=by
 first | rfl | simp [Around.under,Code.weight,Code.isCreation,Code.isGuard,Code.isCaller,Code.frames,Code.isFrame,guardIds]
theorem zN {A:Around} {C:Addr} {us:List Value} {kw:List (Str × Value)}:(A.under (.builtin "type.__call__" ⟨.ref C::us,kw⟩)).units=A.units+1:=by
 first | rfl | simp [Around.under,Code.cUnits,Code.frames,Code.isFrame]
theorem gB.make {k:Nat} {A:Around} (r:gB (k+1) A) (C:Addr) (us:List Value) (kw:List (Str × Value)):gB k (A.under (.builtin "type.__call__" ⟨.ref C::us,kw⟩)) :=
 ⟨r.hd,by have:=r.dp; rw[yO]; lia,by have:=r.un; rw[zN]; lia⟩
theorem gB.depth {k:Nat} {A:Around} (r:gB k A):A.depth < recursionLimit:=by have:=r.dp; lia
theorem gB.units {k:Nat} {A:Around} (r:gB k A):A.units+64 < cLine:=by have:=r.un; lia
theorem gB.ql {k:Nat} {A:Around} (r:gB k A):A.units < cLine:=by have:=r.un; lia
noncomputable def Nh:TA:=fun _ H Q=>Q [] H
noncomputable def Ay (ta:TE) (tr:TA):TA:=fun σ H Q=>ta σ H fun x H1=>tr σ H1 fun xs H2=>Q (x::xs) H2
section
variable {X:Cx} {e:Expr} {es:List Expr} {te:TE} {t:TA} {pos:Pos}
theorem aj:PA X [] Nh:=fun _ _ _ _ H Q I h=>Calls.spliced_nil ⟨[],H,I,.nil,h⟩
theorem aa (ha:PE X e te) (hr:PA X es t) (hs : autoParam (starEach (e::es) X.env=(false,eval e X.env)::starEach es X.env) L2.az5._auto_1):PA X (e::es) (Ay te t):=by
 intro pos pins s σ H Q I h
 rw[hs]
 show wpAny _ _ (spliced ((false,eval e X.env)::backTo pos (starEach es X.env))) _ _ s
 refine Calls.spliced_cons (thn (ha pins s σ H _ I h) fun u s1 ⟨x,H1,I1,r1,q1⟩=>?_)
 exact thn (hr pos pins s1 σ H1 _ I1 q1) fun us s2 ⟨xs,H2,I2,r2,q2⟩=>⟨x::xs,H2,I2,.cons r1 r2,q2⟩
noncomputable def Ni (t:TA):TE:=fun σ H Q=>t σ H fun xs H1=>xs.length<=sizeLine/\∀ p,H1 p=none->Q (.ref p) (upd H1 p (.tup xs))
noncomputable def Pn (t:TA):TE:=fun σ H Q=>t σ H fun xs H1=>xs.length<=sizeLine/\∀ p,H1 p=none->Q (.ref p) (upd H1 p (.lst xs))
theorem bI {x1} (h:PA X es t):PE X (.Tuple es x1 pos) (Ni t):=by
 intro pins s σ H Q I hq
 refine wpAny_Tuple_spliced (thn (h pos pins s σ H _ I hq) fun us s1 ⟨xs,H1,I1,r,z,q⟩=>⟨by rw[← r.length]; exact z,?_⟩)
 have hf:H1 s1.heap.objs.size=none:=I1.hok.fresh (Nat.le_refl _)
 refine⟨.ref s1.heap.objs.size,upd H1 s1.heap.objs.size (.tup xs),I1.laid (t':=s1.toks) (fun b u e=>Heap.get?_push_of_some _ e) (Nat.le_refl _) ?_,rfl,q _ hf⟩
 exact⟨z,us,r,⟨_,Heap.get?_push_size _ rfl,rfl,_,rfl⟩⟩
theorem bQ (h:PA X es t):PE X (.List es pos) (Pn t):=by
 intro pins s σ H Q I hq
 refine wpAny_List_spliced (thn (h pos pins s σ H _ I hq) fun us s1 ⟨xs,H1,I1,r,z,q⟩=>⟨by rw[← r.length]; exact z,?_⟩)
 have hf:H1 s1.heap.objs.size=none:=I1.hok.fresh (Nat.le_refl _)
 refine⟨.ref s1.heap.objs.size,upd H1 s1.heap.objs.size (.lst xs),I1.laid (t':=s1.toks) (fun b u e=>Heap.get?_push_of_some _ e) (Nat.le_refl _) ?_,rfl,q _ hf⟩
 exact⟨z,us,0,r,Heap.get?_push_size _ rfl⟩
end
noncomputable abbrev Sp:=List V->Hp->VK->XK->Prop
noncomputable abbrev CXT:=List Env->Hp->Shared->XK->Value->Shared->Prop
structure zz (P:Program) (w:World) (K:PySem.W.Frag) (mg:Str->Option Value) (base:Heap) (A:Around) (outer:List Env) (s:Shared) (H:Hp):Prop where
 frames:A.frames=some outer
 mod:Mod K mg base
 bs:∀ b o,base.get? b=some o->s.heap.get? b=some o/\H b=none
 bsz:base.objs.size<=s.heap.objs.size
 o4:s.heap.FunFrames base outer
 frf:∀ b∈frs outer,H b=none
 hok:HOk P w H s.heap
 bare:AllBare s.gens
noncomputable def CE (outer:List Env) (P:Program) (w:World) (H:Hp) (s:Shared) (Q:VK) (u:Value) (s':Shared):Prop :=
 ∃ v H',s'.os=s.os/\AllBare s'.gens/\Un (frs outer) [] H H' s.heap s'.heap/\HOk P w H' s'.heap/\RelV v u/\Q v H'
noncomputable def CR (CX:CXT) (outer:List Env) (P:Program) (w:World) (H:Hp) (s:Shared) (Q:VK) (E:XK) (r:Result) (s':Shared):Prop :=
 match r with
 | .ok (.ret u)=>CE outer P w H s Q u s'
 | .ok _=>False
 | .error e=>CX outer H s E e s'
structure cu (P:Program) (w:World) (K:PySem.W.Frag) (mg:Str->Option Value) (base:Heap) (CX:CXT) (k:Nat) (f:Addr) (fd:FuncData) (ps:List Str) (sp:Sp):Prop where
 len:∀ vs H Q E,sp vs H Q E->vs.length=ps.length
 run:∀ (A:Around) (outer:List Env) (s:Shared) (H:Hp) (args:Args) (us:List Value) (vs:List V) (Q:VK) (E:XK),gB k A->zz P w K mg base A outer s H->BindsTo s fd args (ps.zip us)->Vals vs us->sp vs H Q E →
  codeAny (model P w) A (.call (.ref f) args) (CR CX outer P w H s Q E) s
theorem cu.mono {P:Program} {w:World} {K:PySem.W.Frag} {mg:Str->Option Value} {base:Heap} {CX:CXT} {j k:Nat} {f:Addr} {fd:FuncData} {ps:List Str} {sp:Sp} (F:cu P w K mg base CX j f fd ps sp) (h:j<=k) :
  cu P w K mg base CX k f fd ps sp:=⟨F.len,fun A outer s H args us vs Q E hr=>F.run A outer s H args us vs Q E (hr.mono h)⟩
theorem cu.imp {P:Program} {w:World} {K:PySem.W.Frag} {mg:Str->Option Value} {base:Heap} {CX:CXT} {k:Nat} {f:Addr} {fd:FuncData} {ps:List Str} {sp sp':Sp} (F:cu P w K mg base CX k f fd ps sp)
  (h:∀ vs H Q E,sp' vs H Q E->sp vs H Q E):cu P w K mg base CX k f fd ps sp' :=
 ⟨fun vs H Q E q=>F.len vs H Q E (h _ _ _ _ q),fun A outer s H args us vs Q E hr he hb hv hs=>F.run A outer s H args us vs Q E hr he hb hv (h _ _ _ _ hs)⟩
theorem zz.make {P:Program} {w:World} {K:PySem.W.Frag} {mg:Str->Option Value} {base:Heap} {A:Around} {outer:List Env} {s:Shared} {H:Hp} (e:zz P w K mg base A outer s H) (C:Addr) (us:List Value) (kw:List (Str × Value)) :
  zz P w K mg base (A.under (.builtin "type.__call__" ⟨.ref C::us,kw⟩)) outer s H:=⟨by first | exact e.frames | (simpa [Around.under,Code.envs,Code.isFrame,pushEnvs] using e.frames),e.mod,e.bs,e.bsz,e.o4,e.frf,e.hok,e.bare⟩
theorem zz.in1 {P:Program} {w:World} {K:PySem.W.Frag} {mg:Str->Option Value} {base:Heap} {A:Around} {outer:List Env} {s:Shared} {H:Hp} (e:zz P w K mg base A outer s H) :
  zz P w K mg base A.in1 outer s H:=⟨e.frames,e.mod,e.bs,e.bsz,e.o4,e.frf,e.hok,e.bare⟩
section
variable {X:Cx} {pins:List (Addr × Obj)} {σ:St} {H:Hp} {s s':Shared}
theorem Inv.env0 (I:Inv X pins σ H s):zz X.prog X.w X.K X.mg X.base X.A X.stack s H :=
 ⟨I.ok.frames,I.ok.mod,I.bs,Nat.le_trans I.ok.bsz I.sz,I.stack,I.qK,I.hok,I.bare⟩
theorem Inv.after {Q:VK} {u:Value} (I:Inv X pins σ H s) (h:CE X.stack X.prog X.w H s Q u s'):EP X pins σ Q u s':=by
 obtain⟨v,H',os,bare,un,hok,r,q⟩:=h
 obtain⟨hh,g,d,t,os'⟩:=s'
 obtain rfl:os'=s.os:=os
 exact⟨v,H',I.call (h':=hh) (g':=g) (d':=d) (t':=t) (ch:=[]) un hok bare (fun b z=>absurd z (by simp)),r,q⟩
end
noncomputable def Gw (sp:Sp) (dvs:List V) (E:XK) (t:TA):TE:=fun σ H Q=>t σ H fun vs H1=>sp (vs++dvs) H1 Q E
noncomputable def Binds (K:PySem.W.Frag) (fd:FuncData) (ps:List Str) (ds:List Value):Prop :=
 ∀ (s:Shared) (us:List Value),K.In s.heap->(us++ds).length=ps.length->BindsTo s fd ⟨us,[]⟩ (ps.zip (us++ds))
theorem Binds.all {K:PySem.W.Frag} {fd:FuncData} {ps:List Str} (h:∀ us:List Value,us.length=ps.length->bindArgs fd ⟨us,[]⟩=pure (ps.zip us)):Binds K fd ps []:=fun s us _ hl=>by
 rw[List.append_nil] at hl ⊢
 exact .of_eq (h us hl)
noncomputable def Passes (CX:CXT) (X:Cx) (E:XK):Prop:=∀ (pins:List (Addr × Obj)) (σ:St) (H:Hp) (s:Shared) (e:Value) (s':Shared),Inv X pins σ H s->CX X.stack H s E e s'->X.xe e s'
section
variable {X:Cx} {CX:CXT} {k:Nat} {f C:Addr} {fd:FuncData} {ps:List Str} {sp:Sp} {dvs:List V} {ds:List Value} {E:XK} {x m:Str} {p pos apos:Pos} {e o:Expr} {es:List Expr} {ta:TE} {t:TA}
theorem HF {pins:List (Addr × Obj)} {σ:St} {H:Hp} {s:Shared} {Q:VK} {us:List Value} {vs:List V} (F:cu X.prog X.w X.K X.mg X.base CX k f fd ps sp) (hr:gB k X.A) (hb:Binds X.K fd ps ds) (hd:Vals dvs ds) (hx:Passes CX X E)
  (I:Inv X pins σ H s) (r:Vals vs us) (h:sp (vs++dvs) H Q E):wpAny (model X.prog X.w) X.A (call (.ref f) us) (EP X pins σ Q) X.xe s:=by
 have r2:Vals (vs++dvs) (us++ds):=r.append hd
 have hl:(us++ds).length=ps.length:=by rw[← r2.length]; exact F.len _ _ _ _ h
 refine wpAny_call (codeAny_mono (F.run X.A X.stack s H ⟨us,[]⟩ (us++ds) (vs++dvs) Q E hr I.env0 (hb s us I.kIn hl) r2 h) fun r s' hq=>?_)
 cases r with
 | error e=>exact hx pins σ H s e s' I hq
 | ok fl =>
  cases fl with
  | ret u=>exact I.after hq
  | next=>exact False.elim hq
  | brk=>exact False.elim hq
  | cont=>exact False.elim hq
theorem Dl (F:cu X.prog X.w X.K X.mg X.base CX k f fd ps sp) (hr:gB k X.A) (hg:Gl X x) (hm:X.mg x=some (.ref f)) (hk:PySem.W.keepIn X.K (.ref f)=true) (hb:Binds X.K fd ps ds) (hd:Vals dvs ds) (hx:Passes CX X E)
  (ha:PA X (e::es) t) (hdb : autoParam ((x == ("__debug__" : Str))=false) L2.az2._auto_1) (he : autoParam (starEach (e::es) X.env=(false,eval e X.env)::starEach es X.env) L2.az5._auto_1) (hpl : autoParam ((backTo pos (starEach es X.env)).any (·.1)=false) L2.az5._auto_1) :
  PE X (.Call (.Name x p) (e::es) [] pos) (Gw sp dvs E t):=by
 intro pins s σ H Q I h
 refine wpAny_Call_Name_kw (nj I hg hm ?_ hdb)
 refine PySem.W.callWith_K (h₀:=X.base) I.ok.mod.kin hk (thn (ha pos pins s σ H _ I h) fun us s1 ⟨vs,H1,I1,r,q⟩=>⟨I1.kIn,?_⟩) he hpl
 exact HF F hr hb hd hx I1 r q
structure Mk (K:PySem.W.Frag) (C f:Addr):Prop where
 makes:PySem.W.makesIn K C=true
 init:PySem.W.findIn K (.ref C) "__init__" = some (some (.ref f))
 fn:PySem.W.isFn K (.ref f)=true
 kp:PySem.W.keepIn K (.ref C)=true
end
section
variable {X:Cx} {CX:CXT} {k:Nat} {f C:Addr} {fd:FuncData} {ps ks:List Str} {sp:Sp} {E:XK} {x m:Str} {p pos apos kpos:Pos} {e o:Expr} {es:List Expr} {kws:List Keyword} {te ta:TE} {t tk:TA} {nm:Option Str}
structure Ox (K:PySem.W.Frag) (fd:FuncData) (ps ks:List Str) (g:List Value->List Value->List Value) (gV:List V->List V->List V):Prop where
 to:∀ (s:Shared) (us ws:List Value),K.In s.heap->(g us ws).length=ps.length->BindsTo s fd ⟨us,ks.zip ws⟩ (ps.zip (g us ws))
 rel:∀ {vs:List V} {us:List Value} {zs:List V} {ws:List Value},Vals vs us->Vals zs ws->Vals (gV vs zs) (g us ws)
variable {g:List Value->List Value->List Value} {gV:List V->List V->List V}
end
structure aL (N P:List Str) (sc:Scope):Prop where
 kind:sc.kind = .function
 co:sc.isCoroutine=false
 gen:sc.isGenerator=false
 nd:N.Nodup
 pre:N.take P.length=P
 par:∀ x∈P,sc.names.lookup x=some .local∨sc.names.lookup x=some .cell
 nofree:∀ y∈sc.names,y.2≠.free
theorem sX {kindOf:Str->Option NameKind} {x:Str}:∀ {binds:List (Str × Value)} {m:Str->Option Value},(∀ v,(x,v) ∉ binds)->bindL kindOf binds m x=m x
 | [],_,_=>rfl
 | (n,v)::r,m,h=>by
  unfold bindL
  rw[sX fun w hw=>h w (List.mem_cons_of_mem _ hw)]
  split
  ·have:x≠n:=by rintro rfl; exact h v List.mem_cons_self
   simp [this]
  ·rfl
theorem tY {kindOf:Str->Option NameKind} {x:Str}:∀ {binds:List (Str × Value)} {m:Str->Option Value},(∀ v,(x,v) ∉ binds)->bindC kindOf binds m x=m x
 | [],_,_=>rfl
 | (n,v)::r,m,h=>by
  unfold bindC
  rw[tY fun w hw=>h w (List.mem_cons_of_mem _ hw)]
  split
  ·rfl
  ·have:x≠n:=by rintro rfl; exact h v List.mem_cons_self
   simp [this]
theorem tX {kindOf:Str->Option NameKind} {x:Str} {v:Value}:∀ {P:List Str} {vs:List Value} {i:Nat} {m:Str->Option Value},P.Nodup->P[i]? = some x->vs[i]? = some v->kindOf x=some .local →
  bindL kindOf (P.zip vs) m x=some v
 | [],_,_,_,_,h,_,_=>by simp at h
 | _::_,[],_,_,_,_,h,_=>by simp at h
 | p::P,w::vs,0,m,nd,h1,h2,hk=>by
  simp at h1 h2; subst h1; subst h2
  show bindL kindOf ((p,w)::P.zip vs) m p=_
  unfold bindL
  rw[sX fun v hv=>(List.nodup_cons.mp nd).1 (List.of_mem_zip hv).1,if_pos hk]
  simp
 | p::P,w::vs,i+1,m,nd,h1,h2,hk=>by
  show bindL kindOf ((p,w)::P.zip vs) m x=_
  unfold bindL
  exact tX (i:=i) (List.nodup_cons.mp nd).2 (by simpa using h1) (by simpa using h2) hk
theorem uh {kindOf:Str->Option NameKind} {x:Str} {v:Value}:∀ {P:List Str} {vs:List Value} {i:Nat} {m:Str->Option Value},P.Nodup->P[i]? = some x->vs[i]? = some v->kindOf x≠some .local →
  bindC kindOf (P.zip vs) m x=some v
 | [],_,_,_,_,h,_,_=>by simp at h
 | _::_,[],_,_,_,_,h,_=>by simp at h
 | p::P,w::vs,0,m,nd,h1,h2,hk=>by
  simp at h1 h2; subst h1; subst h2
  show bindC kindOf ((p,w)::P.zip vs) m p=_
  unfold bindC
  rw[tY fun v hv=>(List.nodup_cons.mp nd).1 (List.of_mem_zip hv).1,if_neg hk]
  simp
 | p::P,w::vs,i+1,m,nd,h1,h2,hk=>by
  show bindC kindOf ((p,w)::P.zip vs) m x=_
  unfold bindC
  exact uh (i:=i) (List.nodup_cons.mp nd).2 (by simpa using h1) (by simpa using h2) hk
noncomputable def start (N:List Str) (vs:List V):St:=vs.map some++List.replicate (N.length - vs.length) none
noncomputable def vz (CX:CXT) (P:Program) (w:World) (K:PySem.W.Frag) (mg:Str->Option Value) (base:Heap) (N:List Str) (qual:Str) (scope:Scope) (f:Addr) (cd:Value) (A:Around) (outer:List Env) (s:Shared) (H:Hp) (E:XK):Cx where
 prog:=P
 w:=w
 K:=K
 mg:=mg
 base:=base
 A:=A.deeper (envOfC qual scope s.heap.objs.size f cd)
 N:=N
 s₀:=s
 H₀:=H
 env:=envOfC qual scope s.heap.objs.size f cd
 outer:=outer
 stack:=envOfC qual scope s.heap.objs.size f cd::outer
 ex:=[]
 calm:=true
 fn:=fun _=>true
 pn:=[]
 xe:=fun e s'=>wpAny (model P w) (A.deeper (envOfC qual scope s.heap.objs.size f cd)) (leaving (envOfC qual scope s.heap.objs.size f cd) e) (fun _ s''=>CX outer H s E e s'') (fun e' s''=>CX outer H s E e' s'') s'
theorem yj {sc:Scope} {n:Nat} {x:Str} (h:sc.names.lookup x=some .cell):∃ c,(cellsFrom n sc.names []).lookup x=some c:=by
 have q:=PySem.W.cellsFrom_some sc.names n [] (.inl h)
 exact Option.isSome_iff_exists.mp q
theorem uU {CX:CXT} {P:Program} {w:World} {K:PySem.W.Frag} {mg:Str->Option Value} {base:Heap} {N ps:List Str} {qual:Str} {scope:Scope} {f:Addr} {cd:Value} {A:Around} {outer:List Env} {s s1:Shared} {H:Hp} {E:XK} {us:List Value} {vs:List V}
  (S:aL N ps scope) (hd:A.handled=none) (e0:zz P w K mg base A outer s H) (hl:vs.length=ps.length) (r:Vals vs us)
  (x:InCallC s s.heap.objs.size (bindL (envOfC qual scope s.heap.objs.size f cd).kindOf (ps.zip us) fun _=>none) (cellsFrom (s.heap.objs.size+1) scope.names []) (bindC (envOfC qual scope s.heap.objs.size f cd).kindOf (ps.zip us) fun _=>none) s1) :
  Inv (vz CX P w K mg base N qual scope f cd A outer s H E) [] (start N vs) H s1:=by
 have hpl:ps.length<=N.length:=by have:=congrArg List.length S.pre; rw[List.length_take] at this; lia
 obtain⟨h1,tk,rfl,hk⟩:=x.done
 have noA:∀ b:Addr,b ∉ (vz CX P w K mg base N qual scope f cd A outer s H E).ex:=fun b z=>absurd (show b∈([]:List Addr) from z) (by simp)
 refine⟨⟨e0.mod,S.kind,rfl,rfl,Nat.le_refl _,fun y z c h1 h2=>?_,fun y hy=>?_,fun y c _ h=>?_,fun _=>hd,Around.frames_deeper e0.frames,.inr ⟨rfl,rfl⟩,fun b z=>absurd z (noA b),e0.bs,e0.bsz,fun b _ _=>noA b,fun b z=>absurd z (noA b),e0.o4,e0.frf⟩,
  rfl,e0.bare,Un.kept hk,⟨_,x.toInCall.ns,fun i y v h1 h2 h3=>?_⟩,fun y c h=>⟨_,x.cell y c h⟩,e0.hok.fresh (Nat.le_refl _),fun y c h=>?_,fun p hp=>absurd (show p∈([]:List (Addr × Obj)) from hp) (by simp),e0.hok.kept hk,?_⟩
 ·exact name_of_addr x.apart (PySem.mem_of_lookup h1) (PySem.mem_of_lookup h2)
 ·have hy:scope.names.lookup y=some .cell∨scope.names.lookup y=some .free:=hy
  rcases hy with hy | hy
  ·exact yj hy
  ·exact absurd rfl (S.nofree _ (PySem.mem_of_lookup hy))
 ·exact Nat.le_of_lt (x.above y c (PySem.mem_of_lookup h))
 ·have hi:i < vs.length:=by
   unfold start at h2
   by_cases hi:i < vs.length
   ·exact hi
   ·rw[List.getElem?_append_right (by simpa using hi)] at h2
    rw[List.getElem?_replicate] at h2
    split at h2 <;> cases h2
  have ha:vs[i]? = some v:=by
   unfold start at h2
   rw[List.getElem?_append_left (by simpa using hi),List.getElem?_map] at h2
   cases e:vs[i]? with
   | none=>rw[e] at h2; cases h2
   | some a=>rw[e] at h2; cases h2; rfl
  obtain⟨u,hu,rv⟩:=r.get ha
  have hp:ps[i]? = some y:=by
   rw[← S.pre,List.getElem?_take_of_lt (by lia)]; exact h1
  have ndP:ps.Nodup:=by rw[← S.pre]; exact S.nd.sublist (List.take_sublist _ _)
  refine⟨u,rv,?_⟩
  rcases S.par y (List.mem_of_getElem? hp) with k | k
  ·exact .inl ⟨k,tX ndP hp hu k⟩
  ·obtain⟨c,e⟩:=yj (n:=s.heap.objs.size+1) k
   refine .inr ⟨.inl k,c,e,?_⟩
   have q:=x.cell y c e
   rw[uh ndP hp hu (by show scope.names.lookup y≠_; rw[k]; decide)] at q
   exact q
 ·exact e0.hok.fresh (Nat.le_of_lt (x.above y c (PySem.mem_of_lookup h)))
 ·unfold start
  show _=N.length
  rw[List.length_append,List.length_map,List.length_replicate]
  lia
theorem JF {CX:CXT} {P:Program} {w:World} {K:PySem.W.Frag} {mg:Str->Option Value} {base:Heap} {k:Nat} {f:Addr} {name qual:Str} {params:Arguments} {body:List Stmt} {scope:Scope} {dV kV doc pm cdv ct oc:Value} {an od:Option Addr}
  {osl:Array (Option Value)} {N ps:List Str} {sp:Sp} (lk:K.lookup f=some ⟨oc,od,.func (PySem.W.fnOf name qual params body scope dV kV doc pm an cdv ct),osl⟩) (hcd:PySem.W.codeIn K cdv qual=true) (S:aL N ps scope)
  (len:∀ vs H Q E,sp vs H Q E->vs.length=ps.length)
  (hbody:∀ (A:Around) (outer:List Env) (s:Shared) (H:Hp) (vs:List V) (Q:VK) (E:XK),gB k (A.deeper (envOfC qual scope s.heap.objs.size f cdv))->sp vs H Q E →
   ∃ t,PSs (vz CX P w K mg base N qual scope f cdv A outer s H E) body t/\t { nx:=fun _ H'=>Q .non H',rt:=Q } (start N vs) H) :
  cu P w K mg base CX (k+1) f (PySem.W.fnOf name qual params body scope dV kV doc pm an cdv ct) ps sp:=by
 refine⟨len,fun A outer s H args us vs Q E hr e0 hb r hsp=>?_⟩
 have hl:=len _ _ _ _ hsp
 have KX:K.In s.heap:=e0.mod.kin.keeps fun b o e=>(e0.bs b o e).1
 have lim:s.heap.NoLimit:=e0.mod.nolimit.keeps fun b o e=>(e0.bs b o e).1
 have hkind:∀ y∈ps.zip us,scope.names.lookup y.1=some .local∨(scope.names.lookup y.1=some .cell/\((cellsFrom (s.heap.objs.size+1) scope.names []).lookup y.1).isSome=true):=fun⟨n,v⟩ hy=>by
  rcases S.par n (List.of_mem_zip hy).1 with q | q
  ·exact .inl q
  ·exact .inr ⟨q,PySem.W.cellsFrom_some _ _ _ (.inl q)⟩
 refine codeAny_call_function hr.depth (KX _ _ lk) rfl S.co S.gen rfl (PySem.W.codeRec_of KX hcd) (hb _ _ _ _ ?_)
 refine wpAny_newFunctionEnv_cells S.kind hkind fun env he s1 x=>?_
 subst he
 refine⟨lim.keeps x.toInCall.keep,codeAny_func ?_⟩
 obtain⟨t,ht,hq⟩:=hbody A outer s H vs Q E (hr.deeper _) hsp
 have I:Inv (vz CX P w K mg base N qual scope f cdv A outer s H E) [] (start N vs) H s1:=uU S hr.hd e0 hl r x
 refine wpAny_mono (ht [] s1 (start N vs) H _ I hq) (fun fl s' hs=>?_) fun e s' hs=>hs
 have fin:∀ {σ':St} {H':Hp} {v:V} {u:Value},Inv (vz CX P w K mg base N qual scope f cdv A outer s H E) [] σ' H' s'->RelV v u->Q v H'->CE outer P w H s Q u s' :=
  fun {σ' H' v u} J rv q=>⟨v,H',J.os,J.bare,J.base,J.hok,rv,q⟩
 cases fl with
 | ret u =>
  obtain⟨v,σ',H',J,rv,q⟩:=hs
  exact fin J rv q
 | next =>
  obtain⟨σ',H',J,q⟩:=hs
  exact fin (v:=V.non) (u:=Value.none) J rfl q
 | brk =>
  obtain⟨_,_,_,q⟩:=hs
  exact False.elim q
 | cont =>
  obtain⟨_,_,_,q⟩:=hs
  exact False.elim q
end L2
namespace L2
open PySem PySem.Spec PyProof.Rows
section
variable {X:Cx} {x:Str} {p pos:Pos} {e:Expr} {es:List Expr} {t:TA} {id T:String} {r:List V->Hp->VK->Prop}
noncomputable def tCB (r:List V->Hp->VK->Prop) (t:TA):TE:=fun σ H Q=>t σ H fun vs H1=>r vs H1 Q
theorem aM (hc:gF X (.builtin id) r) (hg:Gl X x) (hm:X.mg x=none) (hv:bootBuiltins x=some (.builtin id)) (ha:PA X (e::es) t) (hn : autoParam (x≠"__name__") L2.az2._auto_1) (hdb : autoParam ((x == ("__debug__" : Str))=false) L2.az2._auto_1)
  (he : autoParam (starEach (e::es) X.env=(false,eval e X.env)::starEach es X.env) L2.az5._auto_1) (hpl : autoParam ((backTo pos (starEach es X.env)).any (·.1)=false) L2.az5._auto_1):PE X (.Call (.Name x p) (e::es) [] pos) (tCB r t):=by
 intro pins s σ H Q I h
 refine wpAny_Call_Name_kw (iC I hg hm hv ?_ hn hdb)
 exact PyProof.Rows.callWith_builtin1 (thn (ha pos pins s σ H _ I h) fun us s1 ⟨vs,H1,I1,r1,q1⟩=>hc pins s1 σ H1 vs us Q I1 r1 q1) he hpl
theorem bM (hc:gF X (.type T) r) (hg:Gl X x) (hm:X.mg x=none) (hv:bootBuiltins x=some (.type T)) (ha:PA X (e::es) t) (hn : autoParam (x≠"__name__") L2.az2._auto_1) (hdb : autoParam ((x == ("__debug__" : Str))=false) L2.az2._auto_1)
  (he : autoParam (starEach (e::es) X.env=(false,eval e X.env)::starEach es X.env) L2.az5._auto_1) (hpl : autoParam ((backTo pos (starEach es X.env)).any (·.1)=false) L2.az5._auto_1):PE X (.Call (.Name x p) (e::es) [] pos) (tCB r t):=by
 intro pins s σ H Q I h
 refine wpAny_Call_Name_kw (iC I hg hm hv ?_ hn hdb)
 exact PyProof.Rows.callWith_type1 (thn (ha pos pins s σ H _ I h) fun us s1 ⟨vs,H1,I1,r1,q1⟩=>hc pins s1 σ H1 vs us Q I1 r1 q1) he hpl
end
end L2
namespace HT
open PySem PyProof.Rows
section
open PySem.SeqAt
open PySem.AutoSeq1 (wpAny_loadPart')
open PySem.MeetsSeq PySem.MeetsSeq2 PySem.MeetsSeq3
end
section
variable {prog:Program} {w:World} {A:Around} {E:Value->Shared->Prop} {s:Shared}
theorem Ja {t b:Addr} {vs ws:List Value} {Q:Value->Shared->Prop} (ht:IsTup s.heap t vs.toArray) (hb:IsTup s.heap b ws.toArray) (hv:vs≠[])
  (h1:ws=[]->Q (.ref t) s) (h2:ws≠[]->Q (.ref s.heap.objs.size) { s with heap:=s.heap.push { cls:=.type "tuple",data:=.seq (vs++ws).toArray } })
  (hsz:vs.length+ws.length<=sizeLine):wpAny (model prog w) A (binaryOp .Add (.ref t) (.ref b)) Q E s:=by
 obtain⟨⟨cls,dd,data,sl⟩,ho,hc,n,hd⟩:=id ht
 obtain⟨⟨cls2,dd2,data2,sl2⟩,ho2,hc2,n2,hd2⟩:=id hb
 simp only at hc hd hc2 hd2
 subst hc hd hc2 hd2
 have e:vs.toArray++ws.toArray=(vs++ws).toArray:=by simp
 by_cases hw:ws=[]
 ·exact concat_meets ⟨_,ho,rfl⟩ ⟨_,ho2,rfl⟩ noFill_tuple_add seq_tuple_add PySem.F.slot_tuple_add PySem.F.entry_tuple_add (PySem.F.args_tuple_add_2 _ _)
   (tuple_addW1 t b vs.toArray ws.toArray n n2 dd dd2 sl sl2 (by simpa using hv) (by simp [hw])) ⟨ho,ho2,h1 hw⟩
 ·refine concat_meets ⟨_,ho,rfl⟩ ⟨_,ho2,rfl⟩ noFill_tuple_add seq_tuple_add PySem.F.slot_tuple_add PySem.F.entry_tuple_add (PySem.F.args_tuple_add_2 _ _)
   (tuple_addW2 t b vs.toArray ws.toArray n n2 dd dd2 sl sl2 (by simpa using hv) (by simpa using hw) (by rw[List.size_toArray,List.size_toArray]; exact hsz)) ⟨ho,ho2,?_⟩
  rw[e]
  exact h2 hw
noncomputable def sIx (n d:Nat):Option Int->Nat
 | none=>d
 | some v=>if v < 0 then (v+(n:Int)).toNat else min v.toNat n
theorem Ng (n d:Nat) (hd:d<=n) (o:Option Int):sIx n d o<=n:=by
 cases o with
 | none=>exact hd
 | some v =>
  show (if v < 0 then (v+(n:Int)).toNat else min v.toNat n)<=n
  by_cases hv:v < 0
  ·rw[if_pos hv]; lia
  ·rw[if_neg hv]; exact Nat.min_le_right _ _
theorem Ar (v:Int) (n d:Nat):(if v < 0 then max (v+(n:Int)) 0 else min v (n:Int))=((sIx n d (some v):Nat):Int):=by
 show (if v < 0 then max (v+(n:Int)) 0 else min v (n:Int))=(((if v < 0 then (v+(n:Int)).toNat else min v.toNat n):Nat):Int)
 by_cases hv:v < 0
 ·simp only[if_pos hv]; lia
 ·simp only[if_neg hv]; lia
theorem yK (lo hi:Option Int) (n:Nat):Builtin.Slice.sliceAdjust lo hi 1 (n:Int)=(((sIx n 0 lo:Nat):Int),((sIx n n hi:Nat):Int)):=by
 have h1:¬ ((1:Int) < 0):=by lia
 unfold Builtin.Slice.sliceAdjust
 simp only[h1,if_false]
 refine Prod.ext ?_ ?_
 ·cases lo with
  | none=>rfl
  | some v=>exact Ar v n 0
 ·cases hi with
  | none=>rfl
  | some v=>exact Ar v n n
theorem yR (i j:Nat):Builtin.Slice.slicePlaces (i:Int) (j:Int) 1=j - i:=by
 unfold Builtin.Slice.slicePlaces
 have h1:(1:Int) > 0:=by lia
 simp only[h1,if_true,Int.ediv_one]
 split <;> lia
theorem qd {v:Value} {o:Option Int} {Q:Option Int->Shared->Prop} (p:IsPart v o) (h:Q o s):wpAny (model prog w) A (Builtin.Slice.slicePartIndex v) Q E s:=by
 cases p with
 | none=>exact slicePart_none h
 | int i t=>exact slicePart_int h
theorem lK {sl:Addr} {vl vu:Value} {lo hi:Option Int} {n:Nat} {Q:Int × Int × Nat->Shared->Prop} (hs:s.heap.IsSliceOf sl vl vu .none) (pl:IsPart vl lo) (pu:IsPart vu hi)
  (h:Q (((sIx n 0 lo:Nat):Int),1,sIx n n hi - sIx n 0 lo) s):wpAny (model prog w) A (Builtin.Slice.sliceApplied (.ref sl) (pure (n:Int))) Q E s:=by
 obtain⟨os,hos,hcs,hds⟩:=id hs
 unfold Builtin.Slice.sliceApplied Builtin.Slice.sliceFields
 refine wpAny_bind (wpAny_bind (wpAny_field hos hds (x:=vl) rfl (wpAny_bind (wpAny_field hos hds (x:=vu) rfl (wpAny_bind (wpAny_field hos hds (x:=.none) rfl (wpAny_pure ?_)))))))
 refine wpAny_bind (slicePart_none ?_)
 show wpAny _ _ (if ((1:Int) == 0)=true then _ else _) _ _ s
 rw[if_neg (by decide)]
 refine wpAny_bind (qd pl (wpAny_bind (qd pu (wpAny_bind (wpAny_pure ?_)))))
 show wpAny _ _ (match Builtin.Slice.sliceAdjust lo hi 1 (n:Int) with | (lo,hi)=>pure (lo,(1:Int),Builtin.Slice.slicePlaces lo hi 1)) _ _ s
 rw[yK lo hi n]
 show wpAny _ _ (pure (((sIx n 0 lo:Nat):Int),(1:Int),Builtin.Slice.slicePlaces ((sIx n 0 lo:Nat):Int) ((sIx n n hi:Nat):Int) 1)) _ _ s
 rw[yR]
 exact wpAny_pure h
theorem Em (xs:Array Value) (i k:Nat):((List.range k).filterMap fun (m:Nat)=>xs[((i:Int)+(m:Int) * 1).toNat]?).toArray=((xs.toList.drop i).take k).toArray:=by
 have e:(fun (m:Nat)=>xs[((i:Int)+(m:Int) * 1).toNat]?)=fun m=>xs[i+m]?:=by
  funext m
  have:((i:Int)+(m:Int) * 1).toNat=i+m:=by lia
  rw[this]
 rw[e]
 have:=pick_run xs i k
 rw[List.filterMap_map] at this
 have e2:((fun x=>xs[x]?) ∘ fun x=>i+x)=fun m=>xs[i+m]?:=rfl
 rw[e2] at this
 rw[this]
theorem jZ {t sl:Addr} {items:Array Value} {vl vu:Value} {lo hi:Option Int} {Q:Value->Shared->Prop} (ht:IsTup s.heap t items) (hs:s.heap.IsSliceOf sl vl vu .none) (pl:IsPart vl lo) (pu:IsPart vu hi)
  (hw:¬ (sIx items.size 0 lo=0/\sIx items.size items.size hi=items.size))
  (h:Q (.ref s.heap.objs.size) { s with heap:=s.heap.push { cls:=.type "tuple",data:=.seq ((items.toList.drop (sIx items.size 0 lo)).take (sIx items.size items.size hi - sIx items.size 0 lo)).toArray } })
  (hsz:items.size<=sizeLine):wpAny (model prog w) A (getItem (.ref t) (.ref sl)) Q E s:=by
 have htake:sizeOk (.seq ((items.toList.drop (sIx items.size 0 lo)).take (sIx items.size items.size hi - sIx items.size 0 lo)).toArray):=by
  show ((items.toList.drop (sIx items.size 0 lo)).take (sIx items.size items.size hi - sIx items.size 0 lo)).toArray.size<=sizeLine
  rw[List.size_toArray,List.length_take,List.length_drop,Array.length_toList]
  lia
 have hj:sIx items.size items.size hi<=items.size:=Ng _ _ (Nat.le_refl _) hi
 obtain⟨os,hos,hcs,hds⟩:=id hs
 have hTs:s.TypeIs (.ref sl) "slice":=⟨os,hos,hcs⟩
 unfold getItem
 try with_reducible refine wpAny_holding ?_
 first | refine wpAny_bind (wpAny_pure ?_) | skip
 refine wpAny_bind (wpAny_sequenceKey ht.typeIs (by decide) ?_)
 refine wpAny_bind (wpAny_callSpecial?_slot (name:=Str.ofString "__getitem__") ht.typeIs PyProof.Rows.slot_tuple_getitem
  (wpAny_call_entry PyProof.Rows.slot_tuple_getitem ht.typeIs entry_tuple_getitem ?_ (args_tuple_getitem _ _)))
 show wpAny _ _ (Builtin.Tuple.tupleItemsOf (.ref t) >>= _) _ _ s
 refine wpAny_bind (tupleItemsOf_ ht ?_)
 refine wpAny_bind (wpAny_typeOf hTs ?_)
 rw[if_pos (by decide)]
 refine wpAny_bind (lK hs pl pu ?_)
 have hno:¬ ((((sIx items.size 0 lo:Nat):Int) == 0 && (1:Int) == 1 && (sIx items.size items.size hi - sIx items.size 0 lo) == items.size)=true):=by
  intro q
  rw[Bool.and_eq_true,Bool.and_eq_true] at q
  have q1:((sIx items.size 0 lo:Nat):Int)=0:=eq_of_beq q.1.1
  have q2:sIx items.size items.size hi - sIx items.size 0 lo=items.size:=eq_of_beq q.2
  exact hw ⟨by lia,by lia⟩
 show wpAny _ _ (if (((sIx items.size 0 lo:Nat):Int) == 0 && (1:Int) == 1 && (sIx items.size items.size hi - sIx items.size 0 lo) == items.size)=true then _ else _) _ _ s
 rw[if_neg hno,Em]
 first
  | exact wpAny_bind (m:=Builtin.Tuple.tupleExact _) (wpAny_newObj_type (wpAny_pure ⟨_,rfl,wpAny_pure h⟩) htake)
  | exact wpAny_bind (m:=Builtin.Tuple.tupleExact _) (wpAny_newObj_type (wpAny_bind (wpAny_pure (wpAny_pure ⟨_,rfl,wpAny_pure h⟩))) htake)
  | exact wpAny_bind (wpAny_bind (m:=Builtin.Tuple.tupleExact _) (wpAny_newObj_type (wpAny_pure (wpAny_pure ⟨_,rfl,wpAny_pure h⟩)) htake))
  | exact wpAny_bind (wpAny_bind (m:=Builtin.Tuple.tupleExact _) (wpAny_newObj_type (wpAny_pure ⟨_,rfl,wpAny_pure h⟩) htake))
end
end HT
namespace L2
open PySem PySem.Spec PyProof.Rows
noncomputable abbrev TO:=St->Hp->(Option Int->Hp->Prop)->Prop
noncomputable def PO (X:Cx) (e:Option Expr) (t:TO):Prop :=
 ∀ (pins:List (Addr × Obj)) (s:Shared) (σ:St) (H:Hp) (Q:Option Int->Hp->Prop),Inv X pins σ H s->t σ H Q →
  wpAny (model X.prog X.w) X.A (evalPart e X.env) (fun u s'=>∃ o H',Inv X pins σ H' s'/\IsPart u o/\Q o H') X.xe s
noncomputable def JZ:TO:=fun _ H Q=>Q none H
noncomputable def NT (t:TE):TO:=fun σ H Q=>t σ H fun x H1=>∃ i,x = .int i/\Q (some i) H1
theorem intsAre_of {ns:List Int}:∀ {us:List Value},Vals (ns.map V.int) us->IntsAre us ns:=by
 induction ns with
 | nil=>intro us r; rw[List.map_nil] at r; cases r; exact .nil
 | cons n ns ih =>
  intro us r
  rw[List.map_cons] at r
  cases r with
  | cons r1 r2 =>
   obtain⟨t,e⟩:=r1
   subst e
   exact .cons n t (ih r2)
section
variable {X:Cx} {e:Expr} {te:TE} {lo hi:Option Expr} {tl th:TO} {pos p2:Pos}
theorem Af:PO X none JZ:=by
 intro pins s σ H Q I h
 rw[evalPart_none]
 exact wpAny_pure ⟨none,H,I,.none,h⟩
theorem rK (h:PE X e te):PO X (some e) (NT te):=by
 intro pins s σ H Q I hw
 rw[evalPart_some]
 refine thn (h pins s σ H _ I hw) fun u s1 ⟨x,H1,I1,r1,q1⟩=>?_
 obtain⟨i,rfl,q⟩:=q1
 obtain⟨t,rfl⟩:=r1
 exact⟨some i,H1,I1,.int i t,q⟩
noncomputable def SlR (X:Cx) (r:V->Option Int->Option Int->Hp->VK->Prop):Prop :=
 ∀ (pins:List (Addr × Obj)) (s:Shared) (σ:St) (H:Hp) (x:V) (v vl vu:Value) (lo hi:Option Int) (sl:Addr) (Q:VK),Inv X pins σ H s->RelV x v->s.heap.IsSliceOf sl vl vu .none->IsPart vl lo->IsPart vu hi->r x lo hi H Q →
  ∃ T id,typeLookup (.type T) "__getitem__" = pure (some (.builtin id))/\s.TypeIs v T/\wpAny (model X.prog X.w) X.A (getItem v (.ref sl)) (EP X pins σ Q) X.xe s
theorem SlR.or {r r':V->Option Int->Option Int->Hp->VK->Prop} (h:SlR X r) (h':SlR X r'):SlR X (fun x lo hi H Q=>r x lo hi H Q∨r' x lo hi H Q):=by
 intro pins s σ H x v vl vu lo hi sl Q I rx hs pl pu q
 rcases q with q | q
 ·exact h pins s σ H x v vl vu lo hi sl Q I rx hs pl pu q
 ·exact h' pins s σ H x v vl vu lo hi sl Q I rx hs pl pu q
noncomputable def tSl (r:V->Option Int->Option Int->Hp->VK->Prop) (te:TE) (tl th:TO):TE:=fun σ H Q=>te σ H fun x H1=>tl σ H1 fun l H2=>th σ H2 fun u H3=>r x l u H3 Q
theorem qY {r:V->Option Int->Option Int->Hp->VK->Prop} (hr:SlR X r) (he:PE X e te) (hl:PO X lo tl) (hu:PO X hi th):PE X (.Subscript e (.Slice lo hi none p2) pos) (tSl r te tl th):=by
 intro pins s σ H Q I h
 refine Subscript_ (thn (he pins s σ H _ I h) fun v s1 ⟨x,H1,I1,r1,q1⟩=>?_)
 refine wpAny_Slice (thn (hl pins s1 σ H1 _ I1 q1) fun vl s2 ⟨l,H2,I2,pl,q2⟩=>thn (hu pins s2 σ H2 _ I2 q2) fun vu s3 ⟨u,H3,I3,pu,q3⟩=>?_)
 rw[evalPart_none]
 refine wpAny_pure ?_
 have I4:Inv X pins σ H3 { s3 with heap:=s3.heap.push { cls:=.type "slice",data:=.fields #[vl,vu,.none] } }:=I3.kept (t':=s3.toks) fun b ob q=>Heap.get?_push_of_some _ q
 obtain⟨T,id,hT,ht,hg⟩:=hr pins { s3 with heap:=s3.heap.push { cls:=.type "slice",data:=.fields #[vl,vu,.none] } } σ H3 x v vl vu l u s3.heap.objs.size Q I4 r1 (Heap.IsSliceOf.new ..) pl pu q3
 show wpAny (model X.prog X.w) X.A (subscriptTail e (.Slice lo hi none p2) v (.ref s3.heap.objs.size)) (EP X pins σ Q) X.xe { s3 with heap:=s3.heap.push { cls:=.type "slice",data:=.fields #[vl,vu,.none] } }
 exact tail_any (ops:=[.ref s3.heap.objs.size,v]) ht hT hg (by with_unfolding_all rfl)
noncomputable def Bs (xs:List V) (lo hi:Option Int):List V:=(xs.drop (HT.sIx xs.length 0 lo)).take (HT.sIx xs.length xs.length hi - HT.sIx xs.length 0 lo)
theorem nT (xs:List V) (lo hi:Option Int):(Bs xs lo hi).length<=xs.length:=by
 unfold Bs
 rw[List.length_take,List.length_drop]
 lia
inductive Mv (K:PySem.W.Frag) (x:V) (lo:Option Int) (hi:Option Int) (H:Hp) (Q:VK):Prop where
 | mk (a:Addr) (xs:List V) (z0:x = .ref a) (z1:SqT K H a xs) (z2:¬ (HT.sIx xs.length 0 lo=0/\HT.sIx xs.length xs.length hi=xs.length)) (z3:∀ p,H p=none->Q (.ref p) (upd H p (.tup (Bs xs lo hi)))):Mv K x lo hi H Q
noncomputable def O6 (K:PySem.W.Frag):V->Option Int->Option Int->Hp->VK->Prop:=fun x lo hi H Q=>Mv K x lo hi H Q
theorem Ln:SlR X (O6 X.K):=by
 intro pins s σ H x v vl vu lo hi sl Q I rx hs pl pu h
 obtain⟨a,xs,rfl,hx,hw,q⟩:=h
 cases rx
 obtain⟨its,r,ht,hz⟩:=I.tuple hx
 have hlen:its.toArray.size=xs.length:=by rw[List.size_toArray]; exact r.length.symm
 refine⟨"tuple",_,PyProof.Rows.slot_tuple_getitem.lookup,ht.typeIs,?_⟩
 refine HT.jZ ht hs pl pu (by rw[hlen]; exact hw) ?_ (by rw[hlen]; exact hz)
 rw[hlen]
 refine⟨.ref s.heap.objs.size,_,I.laid (t':=s.toks) (o:=.tup (Bs xs lo hi)) (fun b ob q=>Heap.get?_push_of_some _ q) (Nat.le_refl _) ?_,rfl,q _ (I.hok.fresh (Nat.le_refl _))⟩
 exact⟨Nat.le_trans (nT xs lo hi) hz,_,(r.drop (HT.sIx xs.length 0 lo)).take (HT.sIx xs.length xs.length hi - HT.sIx xs.length 0 lo),IsTup.new _ _⟩
noncomputable def NZ (K:PySem.W.Frag):R2:=fun x y H Q=>∃ a b xs ys,x = .ref a/\y = .ref b/\SqT K H a xs/\SqT K H b ys/\xs≠[]/\xs.length+ys.length<=sizeLine ∧
 (ys=[]->Q (.ref a) H)/\(ys≠[]->∀ p,H p=none->Q (.ref p) (upd H p (.tup (xs++ys))))
theorem Vals.sr {xs:List V} {us:List Value} (r:Vals xs us):us=[] ↔ xs=[]:=by
 cases r with
 | nil=>simp
 | cons _ _=>simp
theorem JN:OpR X (binaryOp .Add) (NZ X.K):=by
 intro pins s σ H x y v u Q I rx ry h
 obtain⟨a,b,xs,ys,rfl,rfl,ha,hb,hx,hz,q1,q2⟩:=h
 cases rx
 cases ry
 obtain⟨its,r1,p1,_⟩:=I.tuple ha
 obtain⟨its2,r2,p2,_⟩:=I.tuple hb
 refine HT.Ja p1 p2 (fun z=>hx (r1.sr.mp z)) (fun z=>⟨.ref a,H,I,rfl,q1 (r2.sr.mp z)⟩) (fun z=>?_) (by rw[← r1.length,← r2.length]; exact hz)
 refine⟨.ref s.heap.objs.size,_,I.laid (t':=s.toks) (o:=.tup (xs++ys)) (fun b ob q=>Heap.get?_push_of_some _ q) (Nat.le_refl _) ?_,rfl,q2 (fun w=>z (r2.sr.mpr w)) _ (I.hok.fresh (Nat.le_refl _))⟩
 exact⟨by rw[List.length_append]; exact hz,_,r1.append r2,IsTup.new _ _⟩
end
end L2
namespace L2
open PySem PySem.Spec PyProof.Rows
noncomputable def ixN (n:Nat) (i:Int):Option Nat:=if 0<=i then (if i < n then some i.toNat else none) else if -(n:Int)<=i then some (i+n).toNat else none
noncomputable def atI {α:Type} (xs:List α) (i:Int):Option α:=(ixN xs.length i).bind fun j=>xs[j]?
theorem J7 {n:Nat} {i:Int} {j:Nat} (h:ixN n i=some j):seqIndex? i n=some j/\j < n/\-(n:Int)<=i/\i < n:=by
 unfold ixN at h
 by_cases h0:0<=i
 ·rw[if_pos h0] at h
  by_cases h1:i < n
  ·rw[if_pos h1] at h
   have e:i.toNat=j:=Option.some.inj h
   exact⟨by rw[seqIndex_of h0 h1,e],by lia,by lia,h1⟩
  ·rw[if_neg h1] at h; cases h
 ·rw[if_neg h0] at h
  by_cases h1 : -(n:Int)<=i
  ·rw[if_pos h1] at h
   have e:(i+n).toNat=j:=Option.some.inj h
   exact⟨by rw[seqIndex_neg (by lia) h1,e],by lia,h1,by lia⟩
  ·rw[if_neg h1] at h; cases h
theorem wA {α:Type} {xs:List α} {i:Int} {v:α} (h:atI xs i=some v):∃ j,seqIndex? i xs.length=some j/\xs[j]? = some v/\j < xs.length/\-(xs.length:Int)<=i/\i < xs.length:=by
 unfold atI at h
 cases e:ixN xs.length i with
 | none=>rw[e] at h; cases h
 | some j =>
  rw[e] at h
  obtain⟨h1,h2,h3,h4⟩:=J7 e
  exact⟨j,h1,h,h2,h3,h4⟩
theorem iY {α:Type} {xs:List α} {j:Nat} {v:α} (h:xs[j]? = some v):atI xs (j:Int)=some v:=by
 have hj:j < xs.length:=(List.getElem?_eq_some_iff.mp h).1
 have e:ixN xs.length (j:Int)=some j:=by
  unfold ixN
  rw[if_pos (by lia),if_pos (by lia)]; simp
 unfold atI; rw[e]; exact h
theorem Gi {α:Type} (xs:List α) (v:α):atI (xs++[v]) (-1)=some v:=by
 have hl:(xs++[v]).length=xs.length+1:=by simp
 have e:ixN (xs++[v]).length (-1)=some xs.length:=by
  unfold ixN
  rw[hl,if_neg (by decide),if_pos (by lia)]
  congr 1
  lia
 unfold atI
 rw[e]
 show (xs++[v])[xs.length]? = some v
 simp
noncomputable def J4 (b:Expr):Prop:=∀ o i,subscripted b false o i=operate [o,i] (getItem o i)
noncomputable def IxR (X:Cx) (r:R2):Prop :=
 ∀ (value slice:Expr) (pins:List (Addr × Obj)) (s:Shared) (σ:St) (H:Hp) (x y:V) (v u:Value) (Q:VK),Inv X pins σ H s->RelV x v->RelV y u->r x y H Q →
  subscripted slice false v u=operate [v,u] (getItem v u)->wpAny (model X.prog X.w) X.A (subscriptTail value slice v u) (EP X pins σ Q) X.xe s
noncomputable def MtR (X:Cx) (id:String) (r:V->List V->Hp->VK->Prop):Prop :=
 ∀ (pins:List (Addr × Obj)) (s:Shared) (σ:St) (H:Hp) (x:V) (xs:List V) (v:Value) (us:List Value) (Q:VK),Inv X pins σ H s->RelV x v->Vals xs us->r x xs H Q →
  wpAny (model X.prog X.w) X.A (call (.builtin id) (v::us)) (EP X pins σ Q) X.xe s
section
variable {X:Cx} {a b:Expr} {ta tb:TE} {pos:Pos}
theorem IxR.or {r r':R2} (h:IxR X r) (h':IxR X r'):IxR X (fun x y H Q=>r x y H Q∨r' x y H Q):=by
 intro value slice pins s σ H x y v u Q I rx ry q hs
 rcases q with q | q
 ·exact h value slice pins s σ H x y v u Q I rx ry q hs
 ·exact h' value slice pins s σ H x y v u Q I rx ry q hs
theorem MtR.or {id:String} {r r':V->List V->Hp->VK->Prop} (h:MtR X id r) (h':MtR X id r'):MtR X id (fun x xs H Q=>r x xs H Q∨r' x xs H Q):=by
 intro pins s σ H x xs v us Q I rx rs q
 rcases q with q | q
 ·exact h pins s σ H x xs v us Q I rx rs q
 ·exact h' pins s σ H x xs v us Q I rx rs q
theorem aV {r:R2} (hr:IxR X r) (ha:PE X a ta) (hb:PE X b tb) (hs:J4 b):PE X (.Subscript a b pos) (tOp r ta tb):=by
 intro pins s σ H Q I h
 exact Subscript_ (NK ha hb I h fun v u s2 x y H2 I2 rx ry q=>hr a b pins s2 σ H2 x y v u Q I2 rx ry q (hs _ _))
inductive MK (K:PySem.W.Frag) (x:V) (y:V) (H:Hp) (Q:VK):Prop where
 | mk (p:Addr) (xs:List V) (i:Int) (v:V) (z0:x = .ref p) (z1:y = .int i) (z2:SqL K H p xs) (z3:atI xs i=some v) (z4:Q v H):MK K x y H Q
noncomputable def eU (K:PySem.W.Frag):R2:=fun x y H Q=>MK K x y H Q
inductive Mu (K:PySem.W.Frag) (x:V) (y:V) (H:Hp) (Q:VK):Prop where
 | mk (p:Addr) (xs:List V) (i:Int) (v:V) (z0:x = .ref p) (z1:y = .int i) (z2:SqT K H p xs) (z3:atI xs i=some v) (z4:Q v H):Mu K x y H Q
noncomputable def gC (K:PySem.W.Frag):R2:=fun x y H Q=>Mu K x y H Q
noncomputable def OJ:R2:=fun x y H Q=>∃ z i c,x = .str z/\y = .int i/\z.length<=sizeLine/\atI z.cps.toList i=some c/\Q (.str ⟨#[c]⟩) H
theorem aO:IxR X (eU X.K):=by
 intro value slice pins s σ H x y v u Q I rx ry h hs
 obtain⟨p,xs,i,z,rfl,rfl,hq,he,q⟩:=h
 cases rx
 obtain⟨t,rfl⟩:=ry
 obtain⟨its,r,pl,hz⟩:=I.list hq
 obtain⟨j,h1,h2,h3,h4,h5⟩:=wA he
 obtain⟨w,ew,rw'⟩:=r.get h2
 have hl:=r.length
 have hn:=uc
 have fin:EP X pins σ Q w s:=⟨z,H,I,rw',q⟩
 by_cases h0:0<=i
 ·have hj:i.toNat=j:=by
   rw[seqIndex_of h0 h5] at h1
   exact Option.some.inj h1
  exact item_listR pl.isList h0 (by lia) (by rw[hj]; simpa using ew) fin hs
 ·have hj:(i+(its.toArray.size:Int)).toNat=j:=by
   rw[seqIndex_neg (by lia) h4] at h1
   rw[List.size_toArray,← hl]
   exact Option.some.inj h1
  exact subscriptTail_builtinR (x:=w) pl.isList.typeIs slot_list_getitem.lookup
   (wpAny_getItem_list_neg (Q:=fun r s'=>r=w/\EP X pins σ Q r s') pl.isList (by lia) (by rw[List.size_toArray] <;> lia) (by lia) (by rw[hj]; simpa using ew) ⟨rfl,fin⟩) hs
theorem bw:IxR X (gC X.K):=by
 intro value slice pins s σ H x y v u Q I rx ry h hs
 obtain⟨p,xs,i,z,rfl,rfl,hq,he,q⟩:=h
 cases rx
 obtain⟨t,rfl⟩:=ry
 obtain⟨its,r,pl,hz⟩:=I.tuple hq
 obtain⟨j,h1,h2,h3,h4,h5⟩:=wA he
 obtain⟨w,ew,rw'⟩:=r.get h2
 have hl:=r.length
 have hn:=uc
 have fin:EP X pins σ Q w s:=⟨z,H,I,rw',q⟩
 exact subscriptTail_builtinR (x:=w) pl.typeIs slot_tuple_getitem.lookup
  (getItem_tuple (j:=j) (Q:=fun r s'=>r=w/\EP X pins σ Q r s') pl (by lia) (by lia) (by rw[List.size_toArray,← hl]; exact h1) (by simpa using ew) ⟨rfl,fin⟩) hs
theorem MN:IxR X OJ:=by
 intro value slice pins s σ H x y v u Q I rx ry h hs
 obtain⟨z,i,c,rfl,rfl,hz,he,q⟩:=h
 obtain⟨t,rfl⟩:=rx
 obtain⟨t',rfl⟩:=ry
 obtain⟨j,h1,h2,h3,h4,h5⟩:=wA he
 have hl:z.cps.toList.length=z.length:=by simp [Str.length]
 rw[hl] at h1 h4 h5
 have hn:=uc
 exact tail_any (typeIs_str s z t) slot_str_getitem.lookup (getItem_str (c:=c) (by
  have e1:decide (i < -(2 ^ 63:Int))=false:=decide_eq_false (by lia)
  have e2:decide (i ≥ 2 ^ 63)=false:=decide_eq_false (by lia)
  rw[e1,e2,Bool.or_false]) (by rw[h1]; simpa using h2) ⟨.str ⟨#[c]⟩,H,I.tok _,⟨_,rfl⟩,q⟩) hs
noncomputable def rIx (K:PySem.W.Frag):R2:=fun x y H Q=>eU K x y H Q∨gC K x y H Q∨OJ x y H Q
theorem Ie:IxR X (rIx X.K):=aO.or (bw.or MN)
theorem Inv.lst {pins:List (Addr × Obj)} {σ:St} {H:Hp} {s:Shared} {p:Addr} {xs:List V} (I:Inv X pins σ H s) (h:H p=some (.lst xs)) :
  ∃ (its:List Value) (n:Nat),Vals xs its/\s.heap.get? p=some { cls:=.type "list",data:=.seq its.toArray n }/\xs.length<=sizeLine:=by
 obtain⟨z,its,n,r,e⟩:=I.hok p _ h
 exact⟨its,n,r,e,z⟩
theorem uo (lo hi:Option Int) (n:Nat):(sliceBounds lo hi none n).1=((HT.sIx n 0 lo:Nat):Int)/\(sliceBounds lo hi none n).2.1=((HT.sIx n n hi:Nat):Int)/\(sliceBounds lo hi none n).2.2=1:=by
 refine⟨?_,?_,rfl⟩
 ·cases lo with
  | none=>simp [sliceBounds,HT.sIx]
  | some i =>
   simp only[sliceBounds,HT.sIx,Option.getD_none,show (1:Int) > 0 by decide,if_true]
   by_cases h:i < 0
   ·simp only[h,if_true] <;> lia
   ·simp only[h,if_false] <;> lia
 ·cases hi with
  | none=>simp [sliceBounds,HT.sIx]
  | some i =>
   simp only[sliceBounds,HT.sIx,Option.getD_none,show (1:Int) > 0 by decide,if_true]
   by_cases h:i < 0
   ·simp only[h,if_true] <;> lia
   ·simp only[h,if_false] <;> lia
theorem qx (its:List Value) (lo hi:Option Int):slicePick its.toArray lo hi none=((its.drop (HT.sIx its.length 0 lo)).take (HT.sIx its.length its.length hi - HT.sIx its.length 0 lo)).toArray:=by
 obtain⟨h1,h2,h3⟩:=uo lo hi its.toArray.size
 unfold slicePick
 rw[h1,h2,h3]
 simp only[sliceRange_one,pick_run,List.size_toArray] <;> rfl
inductive Lx (K:PySem.W.Frag) (x:V) (lo:Option Int) (hi:Option Int) (H:Hp) (Q:VK):Prop where
 | mk (a:Addr) (xs:List V) (z0:x = .ref a) (z1:SqL K H a xs) (z2:∀ p,H p=none->Q (.ref p) (upd H p (.lst (Bs xs lo hi)))):Lx K x lo hi H Q
noncomputable def Oe (K:PySem.W.Frag):V->Option Int->Option Int->Hp->VK->Prop:=fun x lo hi H Q=>Lx K x lo hi H Q
theorem Ac:SlR X (Oe X.K):=by
 intro pins s σ H x v vl vu lo hi sl Q I rx hs pl pu h
 obtain⟨a,xs,rfl,hx,q⟩:=h
 cases rx
 obtain⟨its,r,ht,hz⟩:=I.list hx
 have hlen:=r.length
 refine⟨"list",_,slot_list_getitem.lookup,ht.isList.typeIs,?_⟩
 refine wpAny_getItem_list_slice ht.isList hs pl pu .none (by simp) ?_ (by rw[List.size_toArray] <;> lia)
 rw[qx,← hlen]
 refine⟨.ref s.heap.objs.size,_,I.laid (t':=s.toks) (o:=.lst (Bs xs lo hi)) (fun b ob q=>Heap.get?_push_of_some _ q) (Nat.le_refl _) ?_,rfl,q _ (I.hok.fresh (Nat.le_refl _))⟩
 exact⟨Nat.le_trans (nT xs lo hi) hz,_,0,(r.drop (HT.sIx xs.length 0 lo)).take (HT.sIx xs.length xs.length hi - HT.sIx xs.length 0 lo),Heap.get?_push_size _ rfl⟩
noncomputable def uT:V->Bool
 | .non=>true
 | .bl _=>true
 | .int _=>true
 | .str _=>true
 | _=>false
noncomputable def eqV:V->V->Bool
 | .non,.non=>true
 | .bl a,.bl b=>a == b
 | .bl a,.int b=>(if a then 1 else 0) == b
 | .int a,.bl b=>a == (if b then 1 else 0)
 | .int a,.int b=>a == b
 | .str a,.str b=>a == b
 | _,_=>false
theorem MF {A:Around} {s:Shared} {y x:V} {u v:Value} (ry:RelV y u) (rx:RelV x v) (fy:uT y=true) (fx:uT x=true):SeqAt.EqAt A s u v (eqV y x):=by
 cases y with
 | non =>
  cases ry
  cases x with
  | non=>cases rx; exact SeqAt.EqAt.same _
  | bl b=>cases rx; exact SeqAt.EqAt.none_bool b
  | int b=>obtain⟨t,rfl⟩:=rx; exact SeqAt.EqAt.none_int b t
  | str b=>obtain⟨t,rfl⟩:=rx; exact SeqAt.EqAt.none_str b t
  | _=>exact absurd (show false=true from fx) Bool.false_ne_true
 | bl a =>
  cases ry
  cases x with
  | non=>cases rx; exact SeqAt.EqAt.bool_none a
  | bl b=>cases rx; exact SeqAt.EqAt.bool_bool a b
  | int b=>obtain⟨t,rfl⟩:=rx; exact SeqAt.EqAt.bool_int a b t
  | str b=>obtain⟨t,rfl⟩:=rx; exact SeqAt.EqAt.bool_str a b t
  | _=>exact absurd (show false=true from fx) Bool.false_ne_true
 | int a =>
  obtain⟨t',rfl⟩:=ry
  cases x with
  | non=>cases rx; exact SeqAt.EqAt.int_none a t'
  | bl b=>cases rx; exact SeqAt.EqAt.int_bool a t' b
  | int b=>obtain⟨t,rfl⟩:=rx; exact SeqAt.EqAt.int_int a t' b t
  | str b=>obtain⟨t,rfl⟩:=rx; exact SeqAt.EqAt.int_str a t' b t
  | _=>exact absurd (show false=true from fx) Bool.false_ne_true
 | str a =>
  obtain⟨t',rfl⟩:=ry
  cases x with
  | non=>cases rx; exact SeqAt.EqAt.str_none a t'
  | bl b=>cases rx; exact SeqAt.EqAt.str_bool a t' b
  | int b=>obtain⟨t,rfl⟩:=rx; exact SeqAt.EqAt.str_int a t' b t
  | str b=>obtain⟨t,rfl⟩:=rx; exact SeqAt.EqAt.str_str a t' b t
  | _=>exact absurd (show false=true from fx) Bool.false_ne_true
 | _=>exact absurd (show false=true from fy) Bool.false_ne_true
noncomputable def eqU (x:V) (u:Value):Bool:=match u with
 | .none=>eqV .non x
 | .bool b=>eqV (.bl b) x
 | .int i _=>eqV (.int i) x
 | .str z _=>eqV (.str z) x
 | _=>false
theorem HW {x y:V} {u:Value} (r:RelV y u) (f:uT y=true):eqU x u=eqV y x:=by
 cases y with
 | non=>cases r; rfl
 | bl b=>cases r; rfl
 | int i=>obtain⟨t,rfl⟩:=r; rfl
 | str z=>obtain⟨t,rfl⟩:=r; rfl
 | _=>exact absurd (show false=true from f) Bool.false_ne_true
theorem vH {x:V}:∀ {xs:List V} {us:List Value},Vals xs us->xs.all uT=true->us.any (eqU x)=xs.any fun y=>eqV y x
 | _,_,.nil,_=>rfl
 | y::xs,u::us,.cons r t,f=>by
  rw[List.all_cons,Bool.and_eq_true] at f
  rw[List.any_cons,List.any_cons,HW r f.1,vH t f.2]
theorem qC {A:Around} {s:Shared} {x:V} {v:Value} (rx:RelV x v) (fx:uT x=true):∀ {xs:List V} {us:List Value},Vals xs us->xs.all uT=true->∀ u∈us,SeqAt.EqAt A s u v (eqU x u)
 | _,_,.nil,_=>fun u hu=>by cases hu
 | y::xs,u::us,.cons r t,f=>fun u' hu=>by
  rw[List.all_cons,Bool.and_eq_true] at f
  rcases List.mem_cons.mp hu with rfl | hu
  ·rw[HW r f.1]; exact MF r rx f.1 fx
  ·exact qC rx fx t f.2 u' hu
noncomputable def inV (x:V) (xs:List V):Bool:=xs.any fun y=>eqV y x
inductive O4 (K:PySem.W.Frag) (neg:Bool) (x:V) (y:V) (H:Hp) (Q:VK):Prop where
 | mk (p:Addr) (xs:List V) (z0:y = .ref p) (z1:(SqL K H p xs∨SqT K H p xs)) (z2:uT x=true) (z3:xs.all uT=true) (z4:Q (.bl (if neg then !inV x xs else inV x xs)) H):O4 K neg x y H Q
noncomputable def rIn (K:PySem.W.Frag) (neg:Bool):R2:=fun x y H Q=>O4 K neg x y H Q
theorem oh:OpR X (compareOp .In) (rIn X.K false):=by
 intro pins s σ H x y v u Q I rx ry h
 obtain⟨p,xs,rfl,hq,fx,fs,q⟩:=h
 cases ry
 rcases hq with hq | hq
 ·obtain⟨its,r,pl,hz⟩:=I.list hq
  refine SeqAt.in_listAt (eqU x) pl.isList (fun w hw=>qC rx fx r fs w (by simpa using hw)) ⟨.bl _,H,I,rfl,?_⟩
  rw[show its.toArray.any (eqU x)=its.any (eqU x) by simp,vH r fs]
  exact q
 ·obtain⟨its,r,pl,hz⟩:=I.tuple hq
  refine SeqAt.in_tupleAt (eqU x) pl (fun w hw=>qC rx fx r fs w (by simpa using hw)) ⟨.bl _,H,I,rfl,?_⟩
  rw[show its.toArray.any (eqU x)=its.any (eqU x) by simp,vH r fs]
  exact q
theorem uQ:gF X (.builtin "len") (fun xs H Q=>∃ p ys,xs=[.ref p]/\(SqL X.K H p ys∨SqT X.K H p ys)/\Q (.int ys.length) H):=by
 intro pins s σ H xs us Q I r h
 obtain⟨p,ys,rfl,hq,q⟩:=h
 obtain⟨u,rfl,rx⟩:=vals1 r
 cases rx
 have hn:=uc
 rcases hq with hq | hq
 ·obtain⟨its,r',pl,hz⟩:=I.list hq
  have hlen:=r'.length
  exact Calls.call_len_list pl.isList (by simp only[List.size_toArray] <;> lia) ⟨.int ys.length,H,I.tok _,⟨s.toks+1,by rw[List.size_toArray,hlen]⟩,q⟩
 ·obtain⟨its,r',pl,hz⟩:=I.tuple hq
  have hlen:=r'.length
  exact len_tuple pl (by simp only[List.size_toArray] <;> lia) ⟨.int ys.length,H,I.tok _,⟨s.toks+1,by rw[List.size_toArray,hlen]⟩,q⟩
theorem gF.or {f:Value} {r r':List V->Hp->VK->Prop} (h:gF X f r) (h':gF X f r'):gF X f (fun xs H Q=>r xs H Q∨r' xs H Q):=by
 intro pins s σ H xs us Q I rs q
 rcases q with q | q
 ·exact h pins s σ H xs us Q I rs q
 ·exact h' pins s σ H xs us Q I rs q
theorem uO:gF X (.type "list") (fun xs H Q=>∃ p ys,xs=[.ref p]/\(SqL X.K H p ys∨SqT X.K H p ys)/\∀ l,H l=none->Q (.ref l) (upd H l (.lst ys))):=by
 intro pins s σ H xs us Q I r h
 obtain⟨p,ys,rfl,hq,q⟩:=h
 obtain⟨u,rfl,rx⟩:=vals1 r
 cases rx
 have fin:∀ (its:List Value),Vals ys its->ys.length<=sizeLine->∀ (h':Heap) (c':Nat),(∀ b o',s.heap.get? b=some o'->h'.get? b=some o') →
   h'.get? s.heap.objs.size=some { cls:=.type "list",dict:=none,data:=.seq its.toArray c',slots:=#[] }->EP X pins σ Q (.ref s.heap.objs.size) { s with heap:=h' }:=fun its r' hz h' c' kp e =>
  ⟨.ref s.heap.objs.size,_,I.laid (t':=s.toks) kp (Nat.le_refl _) (show fV X.prog X.w _ h' _ (.lst ys) from ⟨hz,its,c',r',e⟩),rfl,q _ (I.hok.fresh (Nat.le_refl _))⟩
 rcases hq with hq | hq
 ·obtain⟨its,r',pl,hz⟩:=I.list hq
  have hlen:=r'.length
  obtain⟨o,ho,hc,n,hd⟩:=pl.isList
  exact call_list_seq p (.inl rfl) ho hc hd (fun h' c' kp e=>fin its r' hz h' c' kp e) (by simp only[List.size_toArray] <;> lia)
 ·obtain⟨its,r',pl,hz⟩:=I.tuple hq
  have hlen:=r'.length
  obtain⟨o,ho,hc,n,hd⟩:=pl
  exact call_list_seq p (.inr rfl) ho hc hd (fun h' c' kp e=>fin its r' hz h' c' kp e) (by simp only[List.size_toArray] <;> lia)
theorem qP:gF X (.type "tuple") (fun xs H Q=>∃ p ys,xs=[.ref p]/\((SqL X.K H p ys/\∀ l,H l=none->Q (.ref l) (upd H l (.tup ys)))∨(SqT X.K H p ys/\Q (.ref p) H))):=by
 intro pins s σ H xs us Q I r h
 obtain⟨p,ys,rfl,h⟩:=h
 obtain⟨u,rfl,rx⟩:=vals1 r
 cases rx
 rcases h with⟨hq,q⟩ | ⟨hq,q⟩
 ·obtain⟨its,r',pl,hz⟩:=I.list hq
  have hlen:=r'.length
  refine call_tuple_list pl.isList (fun h' kp=>?_) (by simp only[List.size_toArray] <;> lia)
  have I1:Inv X pins σ H { s with heap:=h' }:=I.kept (t':=s.toks) kp
  have I2:Inv X pins σ (upd H h'.objs.size (.tup ys)) { s with heap:=h'.push { cls:=.type "tuple",data:=.seq its.toArray } } :=
   I1.laid (t':=s.toks) (fun b o e=>Heap.get?_push_of_some _ e) (Nat.le_refl _) (show fV X.prog X.w _ _ _ (.tup ys) from ⟨hz,its,r',IsTup.new _ _⟩)
  exact⟨.ref h'.objs.size,_,I2,rfl,q _ (I1.hok.fresh (Nat.le_refl _))⟩
 ·obtain⟨its,r',pl,hz⟩:=I.tuple hq
  exact call_tuple_same pl ⟨.ref p,H,I,rfl,q⟩
noncomputable def tyV (K:PySem.W.Frag) (T:String) (x:V) (H:Hp):Prop:=match x with
 | .str _=>T = "str"
 | .int _=>T = "int"
 | .ref p=>(T = "list"/\∃ xs,SqL K H p xs)∨(T = "tuple"/\∃ o,K.lookup p=some o/\o.cls = .type "tuple"/\o.dict=none) ∨
   (T = "dict"/\((∃ kvs,H p=some (.dK kvs))∨∃ kvs,H p=some (.dT kvs)))∨(T = "set"/\∃ S n,H p=some (.set S n))
 | _=>False
theorem Ls {pins:List (Addr × Obj)} {σ:St} {H:Hp} {s:Shared} {T:String} {x:V} {v:Value} (I:Inv X pins σ H s) (r:RelV x v) (ty:tyV X.K T x H) :
  s.TypeIs v T/\∀ a,v = .ref a->∃ ob,s.heap.get? a=some ob/\ob.dict=none:=by
 cases x with
 | str z =>
  obtain⟨t,rfl⟩:=r
  cases (show T = "str" from ty)
  exact⟨typeIs_str s z t,fun _ e=>nomatch e⟩
 | int i =>
  obtain⟨t,rfl⟩:=r
  cases (show T = "int" from ty)
  exact⟨typeIs_int s i t,fun _ e=>nomatch e⟩
 | ref p =>
  cases r
  rcases ty with⟨rfl,xs,hq⟩ | ⟨rfl,o,hk,hc,hd⟩ | ⟨rfl,hk⟩ | ⟨rfl,S,n,hk⟩
  ·obtain⟨its,_,pl,_⟩:=I.list hq
   refine⟨pl.isList.typeIs,fun a e=>?_⟩
   cases e
   obtain⟨o,n,e,c,hd,_⟩:=pl
   exact⟨o,e,hd⟩
  ·refine⟨⟨o,I.kIn p o hk,hc⟩,fun a e=>?_⟩
   cases e
   exact⟨o,I.kIn _ o hk,hd⟩
  ·have z:∃ o,s.heap.get? p=some o/\o.ExactDict:=by
    rcases hk with⟨kvs,hk⟩ | ⟨kvs,hk⟩
    ·obtain⟨_,_,_,_,o,_,_,e,ex,_⟩:=I.hok p _ hk
     exact⟨o,e,ex⟩
    ·obtain⟨_,_,_,_,o,_,_,e,ex,_⟩:=I.hok p _ hk
     exact⟨o,e,ex⟩
   obtain⟨o,e,ex⟩:=z
   refine⟨⟨o,e,ex.1⟩,fun a e2=>?_⟩
   cases e2
   exact⟨o,e,ex.2.1⟩
  ·obtain⟨o,_,_,_,e,ex,_⟩:=I.hok p _ hk
   refine⟨⟨o,e,ex.1⟩,fun a e2=>?_⟩
   cases e2
   exact⟨o,e,ex.2.1⟩
 | _=>exact False.elim ty
noncomputable def tBM (K:PySem.W.Frag) (T:String) (r:V->List V->Hp->VK->Prop) (to:TE) (t:TA):TE:=fun σ H Q=>to σ H fun x H1=>tyV K T x H1/\t σ H1 fun xs H2=>r x xs H2 Q
variable {o e:Expr} {es:List Expr} {to:TE} {t:TA} {name:Str} {apos cpos:Pos} {T id:String} {r:V->List V->Hp->VK->Prop}
theorem uR (pa:PlainAttrs T) (slot:Slot T name id) (hty:typeOf (.builtin id)=pure (.type "method_descriptor")) (hm:MtR X id r) (ho:PE X o to) (ha:PA X (e::es) t)
  (hbase : autoParam (attributeBase o name X.env (eval o X.env)=eval o X.env) L2.az5._auto_1)
  (hfew:((backTo cpos (starEach (e::es) X.env)).all (fun x=>!x.1) && (backToKw cpos (keywordEach [] X.env)).all (fun x=>x.1.isSome)
   && decide ((e::es).length+([]:List Keyword).length+(if ([]:List Keyword).isEmpty then 0 else 1) < 30))=true:=by rfl)
  (hline : autoParam ((apos.endLine == cpos.line)=true) L2.az5._auto_1) (hs : autoParam (starEach (e::es) X.env=(false,eval e X.env)::starEach es X.env) L2.az5._auto_1) (hplain : autoParam ((backTo cpos (starEach es X.env)).any (·.1)=false) L2.az5._auto_1) :
  PE X (.Call (.Attribute o name apos) (e::es) [] cpos) (tBM X.K T r to t):=by
 intro pins s σ H Q I h
 refine wpAny_Call_method_late hbase hfew hline rfl (thn (ho pins s σ H _ I h) fun v s1 ⟨x,H1,I1,r1,ty,q1⟩=>?_)
 obtain⟨h1,h2⟩:=Ls I1 r1 ty
 refine⟨T,id,pa,slot,hty,h1,h2,?_⟩
 have hA:=ha cpos pins s1 σ H1 _ I1 q1
 rw[hs] at hA ⊢
 refine Calls.callWith_builtin (by show (false || (backTo cpos (starEach es X.env)).any (·.1))=false; rw[hplain] <;> rfl) (Calls.evalArgs_plain ?_)
 exact thn hA fun us s2 ⟨vs,H2,I2,r2,q2⟩=>hm pins s2 σ H2 x vs v us Q I2 r1 r2 q2
/- xs.append(e),list.index on a module's tuple .. are MtR facts of 06m -/
end
end L2
namespace L2
open PySem PySem.Spec PyProof.Rows
noncomputable def MtM (X:Cx) (id:String) (r:V->List V->Hp->VK->Prop):Prop :=
 ∀ (pins:List (Addr × Obj)) (s:Shared) (σ:St) (H:Hp) (x:V) (xs:List V) (v:Value) (us:List Value) (Q:VK),Inv X pins σ H s->RelV x v->Vals xs us->r x xs H Q →
  wpAny (model X.prog X.w) X.A (call (.builtin id) (v::us)) (EP X pins σ Q) X.xe s
theorem Vals.one:∀ {x:V} {us:List Value},Vals [x] us->∃ u,us=[u]/\RelV x u
 | _,_,.cons r .nil=>⟨_,rfl,r⟩
theorem Vals.two:∀ {x y:V} {us:List Value},Vals [x,y] us->∃ u v,us=[u,v]/\RelV x u/\RelV y v
 | _,_,_,.cons r (.cons q .nil)=>⟨_,_,rfl,r,q⟩
theorem Vals.zero:∀ {us:List Value},Vals [] us->us=[]
 | _,.nil=>rfl
theorem Vals.dropLast {xs:List V} {us:List Value} (h:Vals xs us):Vals xs.dropLast us.dropLast:=by
 induction h with
 | nil=>exact .nil
 | cons r t ih =>
  cases t with
  | nil=>exact .nil
  | cons q t'=>exact .cons r ih
theorem Vals.eraseIdx:∀ {xs:List V} {us:List Value} (i:Nat),Vals xs us->Vals (xs.eraseIdx i) (us.eraseIdx i)
 | _,_,_,.nil=>.nil
 | _,_,0,.cons _ t=>t
 | _,_,i+1,.cons r t=>.cons r (Vals.eraseIdx i t)
theorem Vals.reverse {xs:List V} {us:List Value} (h:Vals xs us):Vals xs.reverse us.reverse:=by
 induction h with
 | nil=>exact .nil
 | cons r t ih=>rw[List.reverse_cons,List.reverse_cons]; exact Vals.append ih (.cons r .nil)
theorem Vals.rep {xs:List V} {us:List Value} (h:Vals xs us):∀ k:Nat,Vals (List.replicate k xs).flatten (List.replicate k us).flatten
 | 0=>.nil
 | k+1=>by
  rw[List.replicate_succ,List.replicate_succ,List.flatten_cons,List.flatten_cons]
  exact Vals.append h (Vals.rep h k)
theorem foldl_rep (its:List Value):∀ (k:Nat) (acc:List Value),
  List.foldl (fun x1 x2=>x1++x2) acc.toArray (List.replicate k its.toArray)=(acc++(List.replicate k its).flatten).toArray
 | 0,acc=>by simp
 | k+1,acc=>by
  have e:acc.toArray++its.toArray=(acc++its).toArray:=by simp
  have e2:(acc++its)++(List.replicate k its).flatten=acc++(List.replicate (k+1) its).flatten:=by
   rw[List.replicate_succ,List.flatten_cons,List.append_assoc]
  rw[← e2,← foldl_rep its k (acc++its),← e,List.replicate_succ,List.foldl_cons]
section
variable {X:Cx} {pins:List (Addr × Obj)} {σ:St} {H:Hp} {s:Shared} {l b:Addr} {xs ys zs:List V}
theorem Inv.Ot {its its':List Value} {n:Nat} {f:Array Value->Array Value} {t':Nat} (I:Inv X pins σ H s) (hH:H l=some (.lst xs))
  (e:s.heap.get? l=some { cls:=.type "list",data:=.seq its.toArray n }) (hf:f its.toArray=its'.toArray) (hv:Vals ys its') (hz:ys.length<=sizeLine) :
  Inv X pins σ (upd H l (.lst ys)) { s with heap:=s.heap.update l (Obj.mapSeq f),toks:=t' }:=by
 have q:=PySem.IsL.update e f
 rw[hf] at q
 refine I.write (x:=l) (e:=l) (by rw[hH]; exact trivial) (.inl rfl) (fun b' u hb hu=>(Heap.get?_update_other s.heap (Obj.mapSeq f) (Ne.symm hb)).trans hu) ⟨_,q⟩ ?_
 exact⟨hz,its',_,hv,q⟩
theorem Inv.Nm {its:List Value} {t':Nat} (I:Inv X pins σ H s) (hv:Vals ys its) (hz:ys.length<=sizeLine) :
  Inv X pins σ (upd H s.heap.objs.size (.lst ys)) { s with heap:=s.heap.push { cls:=.type "list",data:=.seq its.toArray },toks:=t' } :=
 I.laid (fun _ _ q=>Heap.get?_push_of_some _ q) (Nat.le_refl _) ⟨hz,its,0,hv,Heap.get?_push_size _ rfl⟩
theorem Inv.fresh (I:Inv X pins σ H s):H s.heap.objs.size=none:=I.hok.fresh (Nat.le_refl _)
theorem Inv.KD (I:Inv X pins σ H s) (hH:H l=some (.lst xs)):xs.length<=sizeLine/\∃ (its:List Value) (n:Nat),Vals xs its/\xs.length=its.length/\s.heap.get? l=some { cls:=.type "list",data:=.seq its.toArray n }:=by
 obtain⟨z,its,n,r,e⟩:=I.hok l _ hH
 exact⟨z,its,n,r,r.length,e⟩
theorem xU {n:Nat} (h:n<=sizeLine):Builtin.List.listTooLong n=false:=by
 unfold Builtin.List.listTooLong
 exact decide_eq_false (by lia)
end
section
variable {X:Cx}
inductive xx (x:V) (vs:List V) (H:Hp) (Q:VK):Prop where
 | mk (l:Addr) (xs:List V) (y:V) (z0:x = .ref l) (z1:vs=[y]) (z2:H l=some (.lst xs)) (z3:xs.length < sizeLine) (z4:Q .non (upd H l (.lst (xs++[y])))):xx  x vs H Q
noncomputable def Jt:V->List V->Hp->VK->Prop:=fun x vs H Q=>xx  x vs H Q
theorem dB:MtM X "list.append" Jt:=by
 intro pins s σ H x vs v us Q I rx rv h
 obtain⟨l,xs,y,rfl,rfl,hH,hz,q⟩:=h
 cases rx
 obtain⟨u,rfl,ru⟩:=rv.one
 obtain⟨z,its,n,r,hl,e⟩:=I.KD hH
 refine call_meets F.slot_list_append ⟨_,e,rfl⟩ F.entry_list_append (F.args_list_append_2 _ _) (PySem.list_append l its.toArray n u (by rw[List.size_toArray]; lia)) ⟨e,?_⟩
 refine⟨.non,_,I.Ot (its':=its++[u]) hH e (by simp) (r.append (.cons ru .nil)) ?_,rfl,q⟩
 rw[List.length_append,List.length_singleton]
 lia
inductive wN (x:V) (vs:List V) (H:Hp) (Q:VK):Prop where
 | mk (l:Addr) (b:Addr) (xs:List V) (zs:List V) (z0:x = .ref l) (z1:vs=[.ref b]) (z2:H l=some (.lst xs)) (z3:H b=some (.lst zs)) (z4:xs.length+zs.length<=sizeLine) (z5:Q .non (upd H l (.lst (xs++zs)))):wN  x vs H Q
noncomputable def JL:V->List V->Hp->VK->Prop:=fun x vs H Q=>wN  x vs H Q
theorem Du:MtM X "list.extend" JL:=by
 intro pins s σ H x vs v us Q I rx rv h
 obtain⟨l,b,xs,zs,rfl,rfl,hH,hB,hz,q⟩:=h
 cases rx
 obtain⟨u,rfl,ru⟩:=rv.one
 cases ru
 obtain⟨z,its,n,r,hl,e⟩:=I.KD hH
 obtain⟨z2,its2,n2,r2,hl2,e2⟩:=I.KD hB
 have hsz:its.toArray.size+its2.toArray.size<=sizeLine:=by rw[List.size_toArray,List.size_toArray]; lia
 have hlong:¬ (!its.toArray.isEmpty && Builtin.List.listTooLong (its.toArray.size+its2.toArray.size))=true:=by
  rw[xU hsz,Bool.and_false]
  exact Bool.false_ne_true
 refine call_meets F.slot_list_extend ⟨_,e,rfl⟩ F.entry_list_extend (F.args_list_extend_2 _ _)
  (AutoSeq1.list_extend_list_list_0 l its.toArray n b its2.toArray n2 hlong (by rw[List.size_toArray]; lia) (by lia)) ⟨e,e2,?_⟩
 refine⟨.non,_,I.Ot (its':=its++its2) hH e (by simp) (r.append r2) ?_,rfl,q⟩
 rw[List.length_append]
 lia
inductive Lf (x:V) (y:V) (H:Hp) (Q:VK):Prop where
 | mk (l:Addr) (b:Addr) (xs:List V) (zs:List V) (z0:x = .ref l) (z1:y = .ref b) (z2:H l=some (.lst xs)) (z3:H b=some (.lst zs)) (z4:xs.length+zs.length<=sizeLine) (z5:∀ p,H p=none->Q (.ref p) (upd H p (.lst (xs++zs)))):Lf  x y H Q
noncomputable def Pj:R2:=fun x y H Q=>Lf  x y H Q
theorem CN:OpR X (binaryOp .Add) Pj:=by
 intro pins s σ H x y v u Q I rx ry h
 obtain⟨l,b,xs,zs,rfl,rfl,hH,hB,hz,q⟩:=h
 cases rx
 cases ry
 obtain⟨z,its,n,r,hl,e⟩:=I.KD hH
 obtain⟨z2,its2,n2,r2,hl2,e2⟩:=I.KD hB
 refine PySem.P.add_list e e2 ?_ (by rw[List.size_toArray,List.size_toArray]; lia)
 have ea:its.toArray++its2.toArray=(its++its2).toArray:=by simp
 rw[ea]
 exact⟨.ref _,_,I.Nm (t':=s.toks) (r.append r2) (by rw[List.length_append]; lia),rfl,q _ I.fresh⟩
noncomputable def PX:R2:=fun x y H Q=>∃ l k xs,x = .ref l/\y = .int k/\H l=some (.lst xs)/\-(2 ^ 63)<=k/\k < 2 ^ 63/\xs.length * k.toNat<=sizeLine ∧
 ∀ p,H p=none->Q (.ref p) (upd H p (.lst (List.replicate k.toNat xs).flatten))
theorem len_rep {α:Type} (xs:List α) (k:Nat):(List.replicate k xs).flatten.length=k * xs.length:=by
 induction k with
 | zero=>simp
 | succ k ih=>rw[List.replicate_succ,List.flatten_cons,List.length_append,ih,Nat.succ_mul,Nat.add_comm]
theorem HQ:OpR X (binaryOp .Mult) PX:=by
 intro pins s σ H x y v u Q I rx ry h
 obtain⟨l,k,xs,rfl,rfl,hH,h1,h2,hz,q⟩:=h
 cases rx
 obtain⟨t,rfl⟩:=ry
 obtain⟨z,its,n,r,hl,e⟩:=I.KD hH
 have hlen:its.toArray.size * k.toNat<=sizeLine:=by rw[List.size_toArray,← hl]; exact hz
 have hcap:¬ its.toArray.size * k.toNat > (2 ^ 63 - 1) / 8:=by
  have:(sizeLine:Nat)<=(2 ^ 63 - 1) / 8:=by decide
  lia
 have hfit:¬ (!Builtin.List.listFitsIndex k)=true:=by
  rw[fitsIndex_both h1 h2]
  exact Bool.false_ne_true
 have hlong:¬ Builtin.List.listTooLong (its.toArray.size * k.toNat)=true:=by
  rw[xU hlen]
  exact Bool.false_ne_true
 have hnew:List.foldl (fun x1 x2=>x1++x2) #[] (List.replicate (if its.toArray.isEmpty=true then 0 else k.toNat) its.toArray)=(List.replicate k.toNat its).flatten.toArray:=by
  have f0:∀ m:Nat,List.foldl (fun x1 x2=>x1++x2) #[] (List.replicate m its.toArray)=(List.replicate m its).flatten.toArray:=fun m=>by
   have:=foldl_rep its m []
   rw[List.nil_append] at this
   exact this
  rw[f0]
  cases its with
  | nil=>simp
  | cons a r'=>rw[if_neg (by simp)]
 refine wpAny_binaryOp_repeat_ref (T:="list") (U:="int") (by decide) ⟨_,e,rfl⟩ (fun s'=>typeIs_int s' k t) noFill_list_mul F.fills_int_mul F.slot_int_rmul repeat_list F.slot_int_index.lookup
  (call_meets F.slot_int_rmul (typeIs_int s k t) F.entry_int_rmul (F.args_int_rmul_2 _ _) (int___rmul___int_list k t l its.toArray n)
   ⟨e,rfl,⟨_,e,rfl⟩,call_meets F.slot_list_mul ⟨_,e,rfl⟩ F.entry_list_mul (F.args_list_mul_2 _ _) (AutoListH.list___mul___list_int_3 l its.toArray n k t hfit hcap hlong) ⟨e,?_⟩⟩)
 rw[hnew]
 exact⟨.ref _,_,I.Nm (t':=s.toks) (r.rep k.toNat) (by rw[len_rep,Nat.mul_comm]; exact hz),rfl,q _ I.fresh⟩
end
section
variable {prog:Program} {w:World} {A:Around} {E:Value->Shared->Prop} {s:Shared}
set_option maxRecDepth 100000 in
end
section
variable {X:Cx}
end
end L2
namespace Att
open PySem PySem.W PySem.Calls PyProof.Rows
theorem nZ {P:Params} {h:Heap}:∀ (ns:List Int) (vs:List Value),WellAll P h vs (ns.map WData.int)->IntsAre vs ns:=by
 intro ns
 induction ns with
 | nil =>
  intro vs w
  rw[List.map_nil] at w
  cases w
  exact .nil
 | cons n ns ih =>
  intro vs w
  rw[List.map_cons] at w
  cases w with
  | cons a b =>
   cases a
   exact .cons _ _ (ih _ b)
theorem Al {l:OpenLaw} {n:Nat} (hn:l.most=some n) {P:Params} {h:Heap} {args:List WData} {vals:List Value}
  (hpre:l.row.toRowW.claim.pre args=true) (hwl:WellAll P h vals args) :
  ∃ a vs ns,vals=[Value.ref a]/\args=[WData.list (ns.map WData.int)]/\h.get? a=some { cls:=.type "list",data:=.seq vs.toArray }/\IntsAre vs ns/\ns.length<=n:=by
 have hsh:WShape.hasAll [] args [.list .int]=true:=(pre_splitW hpre).1
 have hc:l.pre.holds [] { args:=args }=true:=(pre_splitW hpre).2
 obtain⟨d,r,rfl,h1,h2⟩:=hasAllW_cons hsh
 obtain rfl:=hasAllW_nil h2
 obtain⟨xs,rfl,h3⟩:=hasW_list h1
 obtain⟨ns,rfl⟩:=items_int h3
 have hlen:ns.length<=n:=by
  unfold OpenLaw.pre at hc
  have h4:(WTm.not (.lt (.lit (.int (n:Int))) (.len (.arg 0)))).holds [] { args:=[.list (ns.map .int)] }=true:=by
   have h4:=(holds_andW hc).1
   rw[hn] at h4
   exact h4
  have h5:=condW_of h4 (w_not (w_lt w_lit (w_len_list (w_arg rfl))))
  rw[List.length_map] at h5
  refine Nat.le_of_not_lt fun q=>?_
  have q':(n:Int) < ((ns.length:Nat):Int):=by lia
  first
   | (rw[decide_eq_true q'] at h5; exact absurd h5 (by decide))
   | (simp at h5; lia)
 cases hwl with
 | cons w1 w2 =>
  cases w2
  cases w1 with
  | list ho hall=>exact⟨_,_,ns,rfl,rfl,ho,nZ ns _ hall,hlen⟩
theorem Dc (l:OpenLaw) (args:List WData):l.row.toRowW.claim.post args (.bool true) args=true :=
 postW_of (r:=l.row.toRowW) (X:=(true == true))
  (show WShape.has [] (.bool true) .bool=true by first | rfl | decide | simp [WShape.has,WShape.arms,WShape.armsAll])
  (show (WTm.eq .res (.lit (.bool true))).value [] { args:=args,res:=some (.bool true),after:=args }=some (.bool (true == true)) from w_eq_bool (w_res rfl) w_lit) rfl
theorem vU {l:OpenLaw} {n:Nat} {q:Program} {loose:List Str} {XP:(Str->Option Value)->Heap->Prop} {YP:World->Heap->Prop} {d:DefRec}
  (hn:l.most=some n) (hdf:d.params.defaults=[])
  (call:∀ (w:World) (s₀ s₁:Shared) (mg mb:Str->Option Value) (fa:Addr) (o:Obj) (pm cd doc:Value) (a:Addr) (vs:List Value) (ns:List Int),
   Ground q loose [] XP w s₀ mg mb s₁.heap->YP w s₁.heap →
   s₁.heap.get? fa=some o->o.data = .func (docDef d.name d.params d.body d.scope pm cd doc)->s₁.heap.CodeRec cd d.name->mg d.name=some (.ref fa) →
   s₁.heap.get? a=some { cls:=.type "list",data:=.seq vs.toArray }->IntsAre vs ns->ns.length<=n->s₁.gens = #[] →
   codeAny (model l.prog w) callerA (.call (.ref fa) ⟨[.ref a],[]⟩) (fun r s'=>r = .ok (.ret (.bool true))/\OldK s₁.heap s'.heap/\s'.os=s₁.os/\AllBare s'.gens) s₁) :
  WalkO q loose XP YP l.row.toRowW d [] (fun f vs=>PySem.call f vs):=by
 intro w s₀ s₁ mg mb G Y fa o pm cd doc dV kV ho hd hcd hD hmg hg args vals as hpre hlay hrd hwl hlo
 obtain rfl:dV = .none:=Dflts.none hD hdf
 obtain rfl:kV = .none:=Dflts.noKw hD
 obtain⟨a,vs,ns,rfl,rfl,hobj,hints,hlen⟩:=Al hn hpre hwl
 refine enter_call (codeAny_mono (call w s₀ s₁ mg mb fa o pm cd doc a vs ns G Y ho (fd_plain hd) hcd hmg hobj hints hlen hg) fun r s' hq=>?_)
 obtain⟨rfl,h2,h3,h4⟩:=hq
 exact⟨.inl ⟨.bool true,.bool true,[],rfl,fun _=>rfl,.bool true,Dc l _,fun _=>⟨List.Pairwise.nil,fun _ hm=>(nomatch hm)⟩⟩,h2,h3,h4⟩
section
variable {prog:Program} {w:World} {A:Around} {E:Value->Shared->Prop} {s:Shared} {K:Frag}
theorem KC {R:Result->Shared->Prop} {name qual:Str} {params:Arguments} {body:List Stmt} {scope:Scope} {dV kV doc pm cdv ct oc:Value} {an od:Option Addr} {osl:Array (Option Value)} {f:Addr} {args:Args} {binds:List (Str × Value)}
  (X:K.In s.heap) (hlim:s.heap.NoLimit) (ho:K.lookup f=some ⟨oc,od,.func (fnOf name qual params body scope dV kV doc pm an cdv ct),osl⟩) (hcd:codeIn K cdv qual=true) (hroom:A.depth < recursionLimit)
  (hbind:BindsTo s (fnOf name qual params body scope dV kV doc pm an cdv ct) args binds)
  (hkind:(binds.all fun y=>scope.names.lookup y.1 == some .local || scope.names.lookup y.1 == some .cell)=true)
  (h:∀ s₁,InCallC s s.heap.objs.size (bindL (envOfC qual scope s.heap.objs.size f cdv).kindOf binds fun _=>none) (cellsFrom (s.heap.objs.size+1) scope.names [])
    (bindC (envOfC qual scope s.heap.objs.size f cdv).kindOf binds fun _=>none) s₁ →
   wpAny (model prog w) (A.deeper (envOfC qual scope s.heap.objs.size f cdv)) (execs body (envOfC qual scope s.heap.objs.size f cdv))
    (fun fl s'=>R (.ok (.ret (match fl with | .ret v=>v | _=>.none))) s')
    (fun e s'=>wpAny (model prog w) (A.deeper (envOfC qual scope s.heap.objs.size f cdv)) (leaving (envOfC qual scope s.heap.objs.size f cdv) e) (fun _ s''=>R (.error e) s'') (fun e' s''=>R (.error e') s'') s') s₁)
  (hco:scope.isCoroutine=false) (hgen:scope.isGenerator=false) (hk:scope.kind = .function):codeAny (model prog w) A (.call (.ref f) args) R s:=by
 refine codeAny_call_function hroom (X _ _ ho) rfl hco hgen rfl (codeRec_of X hcd) (hbind _ _ _ _ ?_)
 refine wpAny_newFunctionEnv_cells hk (kindsX hkind _) fun env he s₁ x=>?_
 subst he
 exact⟨hlim.keeps x.toInCall.keep,codeAny_func (h s₁ x)⟩
noncomputable def ledger (h:Heap) (L d:Addr):List (Addr × Obj):=(List.range h.objs.size).filterMap fun a=>if a=L∨a=d then none else (h.get? a).map fun o=>(a,o)
end
end Att
namespace L2
open PySem PySem.Spec PyProof.Rows
theorem jL:∀ {vs:List Value} {ns:List Int},IntsAre vs ns->Vals (ns.map V.int) vs
 | _,_,.nil=>.nil
 | _,_,.cons n t h=>.cons ⟨t,rfl⟩ (jL h)
end L2
namespace L2
open PySem PySem.Spec PyProof.Rows
end L2
namespace L2
open PySem PySem.Spec PyProof.Rows
noncomputable def inClass (s:Stmt) (j:Nat):Stmt:=match s with
 | .ClassDef _ _ _ body _ _ _ _ _ _ _=>body.getD j (.Pass ⟨0,0,0,0⟩)
 | _=>.Pass ⟨0,0,0,0⟩
noncomputable def aK (s:Stmt):Arguments:=match s with
 | .FunctionDef _ a _ _ _ _ _ _ _ _=>a
 | _=>{ posonlyargs:=[],args:=[],vararg:=none,kwonlyargs:=[],kw_defaults:=[],kwarg:=none,defaults:=[] }
noncomputable def aF (s:Stmt):List Stmt:=match s with
 | .FunctionDef _ _ b _ _ _ _ _ _ _=>b
 | _=>[]
noncomputable def aq (s:Stmt):Scope:=match s with
 | .FunctionDef _ _ _ _ _ _ sc _ _ _=>sc
 | _=>{ kind:=.function,names:=[],isGenerator:=false,isCoroutine:=false }
noncomputable abbrev CX0:CXT:=fun _ _ _ _ _ _=>False
noncomputable abbrev E0:XK:=fun _ _ _=>False
theorem DK {X:Cx}:Passes CX0 X E0:=fun _ _ _ _ _ _ _ h=>h.elim
structure Fun (K:PySem.W.Frag) (x qual:Str) (st:Stmt) (f:Addr) (fd:FuncData):Prop where
 ex:∃ (oc:Value) (od:Option Addr) (kV doc pm:Value) (an:Option Addr) (cdv ct:Value) (osl:Array (Option Value)),
  fd=PySem.W.fnOf x qual (aK st) (aF st) (aq st) .none kV doc pm an cdv ct/\K.lookup f=some ⟨oc,od,.func fd,osl⟩/\PySem.W.codeIn K cdv qual=true
 kp:PySem.W.keepIn K (.ref f)=true
section
variable {P:Program} {w:World} {K:PySem.W.Frag} {mg:Str->Option Value} {base:Heap}
theorem Fun.ok {x qual:Str} {st:Stmt} {f:Addr} {fd:FuncData} {N ps:List Str} {k:Nat} {sp:Sp} (F:Fun K x qual st f fd) (S:aL N ps (aq st)) (len:∀ vs H Q E,sp vs H Q E->vs.length=ps.length)
  (hbody:∀ (cdv:Value) (A:Around) (outer:List Env) (s:Shared) (H:Hp) (vs:List V) (Q:VK) (E:XK),gB k (A.deeper (envOfC qual (aq st) s.heap.objs.size f cdv))->sp vs H Q E →
   ∃ t,PSs (vz CX0 P w K mg base N qual (aq st) f cdv A outer s H E).nox (aF st) t/\t { nx:=fun _ H'=>Q .non H',rt:=Q } (start N vs) H):cu P w K mg base CX0 (k+1) f fd ps sp:=by
 obtain⟨oc,od,kV,doc,pm,an,cdv,ct,osl,rfl,lk,hcd⟩:=F.ex
 refine JF lk hcd S len fun A outer s H vs Q E hr hsp=>?_
 obtain⟨t,h,q⟩:=hbody cdv A outer s H vs Q E hr hsp
 exact⟨t,h.nox,q⟩
theorem Fun.binds {x qual:Str} {st:Stmt} {f:Addr} {fd:FuncData} {ps:List Str} (F:Fun K x qual st f fd)
  (h:∀ (kV doc pm:Value) (an:Option Addr) (cdv ct:Value) (us:List Value),us.length=ps.length->bindArgs (PySem.W.fnOf x qual (aK st) (aF st) (aq st) .none kV doc pm an cdv ct) ⟨us,[]⟩=pure (ps.zip us)):Binds K fd ps []:=by
 obtain⟨oc,od,kV,doc,pm,an,cdv,ct,osl,rfl,lk,hcd⟩:=F.ex
 exact .all (h kV doc pm an cdv ct)
theorem bf {x qual:Str} {st:Stmt} {f:Addr} {oc:Value} {od an:Option Addr} {osl:Array (Option Value)} {kV doc pm cdv ct:Value} (l:K.lookup f=some ⟨oc,od,.func (PySem.W.fnOf x qual (aK st) (aF st) (aq st) .none kV doc pm an cdv ct),osl⟩)
  (c:PySem.W.codeIn K cdv qual=true) (k:PySem.W.keepIn K (.ref f)=true):Fun K x qual st f (PySem.W.fnOf x qual (aK st) (aF st) (aq st) .none kV doc pm an cdv ct):=⟨⟨oc,od,kV,doc,pm,an,cdv,ct,osl,rfl,l,c⟩,k⟩
end
theorem aN {n:Nat} (h:n<=1000):n < sizeLine:=Nat.lt_of_le_of_lt h (by decide)
section
variable {X:Cx}
theorem pv (i:Nat) {x:Str} {pos:Pos} (hN : autoParam (X.N[i]? = some x) L2.az5._auto_1) (hv : autoParam (Vis X.env.scope x) L2.az6._auto_1) (hd : autoParam ((x == ("__debug__" : Str))=false) L2.az2._auto_1)
  (hcd : autoParam ((x == ("__classdict__" : Str))=false) L2.az2._auto_1):PE X (.Name x pos) (Ka i):=HJ hN hv hd hcd
end
theorem jx {A B:Prop} (h:B):if false=true then A else B:=by
 rw[if_neg Bool.false_ne_true]
 exact h
theorem oZ {A B:Prop} (h:A):if true=true then A else B:=by
 rw[if_pos rfl]
 exact h
theorem vg {c A B:Prop} [Decidable c] (h1:c->A) (h2:¬ c->B):if c then A else B:=by
 by_cases h:c
 ·rw[if_pos h]
  exact h1 h
 ·rw[if_neg h]
  exact h2 h
noncomputable def aU (H H':Hp):Prop:=∀ b o,H b=some o->H' b=some o
theorem aU.refl (H:Hp):aU H H:=fun _ _ h=>h
theorem aU.trans {H H1 H2:Hp} (a:aU H H1) (b:aU H1 H2):aU H H2:=fun c o h=>b c o (a c o h)
theorem aU.free {H H':Hp} (e:aU H H') {l:Addr} (h:H' l=Option.none):H l=Option.none:=by
 cases q:H l with
 | none=>rfl
 | some o =>
  rw[e l o q] at h
  cases h
theorem aU.seq {K:PySem.W.Frag} {H H':Hp} {a:Addr} {xs:List V} (e:aU H H') (h:SqL K H a xs):SqL K H' a xs:=by
 rcases h with (h | ⟨o,h⟩) | h
 ·exact .inl (.inl (e _ _ h))
 ·exact .inl (.inr ⟨o,e _ _ h⟩)
 ·exact .inr h
end L2
set_option maxHeartbeats 4000000
namespace L2
open PySem PySem.Spec PyProof.Rows
theorem wj {env:Env}:∀ {names:List (Str × NameKind)} {x:Str},names.lookup x=some .free →
  (names.map fun (n,k)=>if (k == NameKind.free && env.scope.kind == .function && env.kindOf n == some .cell) then (n,NameKind.cell) else (n,k)).lookup x=some .cell ∨
  (names.map fun (n,k)=>if (k == NameKind.free && env.scope.kind == .function && env.kindOf n == some .cell) then (n,NameKind.cell) else (n,k)).lookup x=some .free
 | [],_,h=>by simp at h
 | (n,k)::r,x,h=>by
  have ih:=@wj env r x
  rw[List.map_cons]
  cases hx:x == n with
  | true =>
   rw[List.lookup_cons,hx] at h
   cases h
   by_cases hc:(NameKind.free == NameKind.free && env.scope.kind == .function && env.kindOf n == some .cell)=true
   ·refine .inl ?_
    dsimp only
    rw[if_pos hc,List.lookup_cons,hx]
   ·refine .inr ?_
    dsimp only
    rw[if_neg hc,List.lookup_cons,hx]
  | false =>
   rw[List.lookup_cons,hx] at h
   dsimp only
   by_cases hc:(k == NameKind.free && env.scope.kind == .function && env.kindOf n == some .cell)=true
   ·rw[if_pos hc,List.lookup_cons,hx]; exact ih h
   ·rw[if_neg hc,List.lookup_cons,hx]; exact ih h
theorem nQ {env:Env}:∀ {names:List (Str × NameKind)} {x:Str} {k':NameKind},
  (names.map fun (n,k)=>if (k == NameKind.free && env.scope.kind == .function && env.kindOf n == some .cell) then (n,NameKind.cell) else (n,k)).lookup x=some k'->names.lookup x=some k'∨names.lookup x=some .free
 | [],_,_,h=>by simp at h
 | (n,k)::r,x,k',h=>by
  have ih:=@nQ env r x k'
  rw[List.map_cons] at h
  dsimp only at h
  cases hx:x == n with
  | true =>
   rw[List.lookup_cons,hx]
   by_cases hc:(k == NameKind.free && env.scope.kind == .function && env.kindOf n == some .cell)=true
   ·have hk:k = .free:=by
     rw[Bool.and_eq_true,Bool.and_eq_true] at hc
     exact eq_of_beq hc.1.1
    exact .inr (by rw[hk])
   ·rw[if_neg hc,List.lookup_cons,hx] at h
    exact .inl h
  | false =>
   rw[List.lookup_cons,hx]
   by_cases hc:(k == NameKind.free && env.scope.kind == .function && env.kindOf n == some .cell)=true
   ·rw[if_pos hc,List.lookup_cons,hx] at h; exact ih h
   ·rw[if_neg hc,List.lookup_cons,hx] at h; exact ih h
theorem v7 {env:Env}:∀ (names:List (Str × NameKind)) (acc:List (Str × Addr)),(∀ y∈names,y.2 = .free->∃ c,env.cells.lookup y.1=some c)->(∀ n c,acc.lookup n=some c->env.cells.lookup n=some c) →
  ∃ cl,(forIn names acc (fun (x:Str × NameKind) (r:List (Str × Addr))=>(match x with | (name,kind)=>if (kind == NameKind.free)=true then (do let c ← cellOf env name; pure (ForInStep.yield ((name,c)::r))) else pure (ForInStep.yield r):Sem (ForInStep (List (Str × Addr))))))=pure cl ∧
   (∀ n c,cl.lookup n=some c->env.cells.lookup n=some c)/\(∀ n c,acc.lookup n=some c->∃ c',cl.lookup n=some c')/\∀ y∈names,y.2 = .free->∃ c,cl.lookup y.1=some c
 | [],acc,_,h=>⟨acc,by rw[List.forIn_nil],h,fun _ c e=>⟨c,e⟩,fun y hy=>by simp at hy⟩
 | (n,k)::r,acc,hf,h=>by
  rw[List.forIn_cons]
  dsimp only
  by_cases hk:(k == NameKind.free)=true
  ·rw[if_pos hk]
   have hk':k = .free:=eq_of_beq hk
   obtain⟨c,hc⟩:=hf (n,k) List.mem_cons_self hk'
   have hc:env.cells.lookup n=some c:=hc
   have ec:cellOf env n=pure c:=by unfold cellOf; rw[hc]
   have h2:∀ m d,((n,c)::acc).lookup m=some d->env.cells.lookup m=some d:=fun m d e=>by
    rw[List.lookup_cons] at e
    cases hx:m == n with
    | true=>rw[hx] at e; cases e; rw[eq_of_beq hx]; exact hc
    | false=>rw[hx] at e; exact h m d e
   obtain⟨cl,e1,e2,e3,e4⟩:=v7 r ((n,c)::acc) (fun y hy=>hf y (List.mem_cons_of_mem _ hy)) h2
   refine⟨cl,by rw[ec,pure_bind,pure_bind]; exact e1,e2,fun m d e=>?_,fun y hy hyf=>?_⟩
   ·refine (match hx:m == n with | true=>e3 m c (by rw[List.lookup_cons,hx]) | false=>e3 m d (by rw[List.lookup_cons,hx]; exact e))
   ·rcases List.mem_cons.mp hy with rfl | hy
    ·exact e3 n c (by rw[List.lookup_cons,beq_self_eq_true])
    ·exact e4 y hy hyf
  ·rw[if_neg hk]
   obtain⟨cl,e1,e2,e3,e4⟩:=v7 r acc (fun y hy=>hf y (List.mem_cons_of_mem _ hy)) h
   refine⟨cl,by rw[pure_bind]; exact e1,e2,e3,fun y hy hyf=>?_⟩
   rcases List.mem_cons.mp hy with rfl | hy
   ·exact absurd (by rw[show k=NameKind.free from hyf]; rfl) hk
   ·exact e4 y hy hyf
theorem rO {scope:Scope} {env:Env} (h:∀ y∈scope.names,y.2 = .free->∃ c,env.cells.lookup y.1=some c) :
  ∃ cl,closureFor scope env=pure cl/\(∀ n c,cl.lookup n=some c->env.cells.lookup n=some c)/\∀ y∈scope.names,y.2 = .free->∃ c,cl.lookup y.1=some c:=by
 obtain⟨cl,e1,e2,_,e4⟩:=v7 scope.names [] h (fun _ _ e=>by simp at e)
 refine⟨cl,?_,e2,e4⟩
 unfold closureFor
 first
  | exact e1
  | (rw[← bind_pure (x:=pure cl),← e1]; rfl)
  | (simp only[bind_pure]; exact e1)
noncomputable def dD (X:Cx) (scope:Scope) (cl:List (Str × Addr)) (C:Addr) (N:List Str) (s:Shared) (H:Hp) (fp:List Addr):Cx :=
 {X with N:=N,s₀:=s,H₀:=H,env:=compEnvC scope cl C X.env,outer:=X.stack,ex:=fp,fn:=fun _=>false,pn:=[],xe:=fun _ _=>False }
structure pY (X:Cx) (scope:Scope) (F:List Str) (cap:List Nat):Prop where
 kind:scope.kind = .function
 cell:∀ y∈scope.names,y.2≠.cell
 nms:∀ y∈scope.names,y.2 = .local->scope.names.lookup y.1=some .local
 fr:∀ y∈scope.names,y.2 = .free->X.env.kindOf y.1=some .cell∨X.env.kindOf y.1=some .free
 len:cap.length=F.length
 at':∀ (k:Nat) (x:Str),F[k]? = some x->∃ i,cap[k]? = some i/\X.N[i]? = some x/\scope.names.lookup x=some .free
noncomputable def PTs (X:Cx) (ifs:List Expr) (t:TT):Prop :=
 ∀ (pins:List (Addr × Obj)) (s:Shared) (σ:St) (H:Hp) (Q:Bool->Hp->Prop),Inv X pins σ H s->t σ H Q →
  wpAny (model X.prog X.w) X.A (forIn ifs true fun c r=>if r=true then do let ok ← isTrue c X.env (eval c X.env); pure (ForInStep.yield ok) else pure (ForInStep.yield r)) (TP X pins σ Q) X.xe s
noncomputable def Dt:TT:=fun _ H Q=>Q true H
theorem bC {X:Cx}:PTs X [] Dt:=fun _ _ _ H _ I h=>wpAny_tests_nil ⟨H,I,h⟩
theorem kj {X:Cx} {c:Expr} {t:TT} (hc:PT X c t):PTs X [c] t:=fun pins s σ H Q I h=>wpAny_tests_one (hc pins s σ H Q I h)
theorem pD {prog:Program} {w:World} {A:Around} {R:Result->Shared->Prop} {s:Shared} {elt target iter:Expr} {ifs:List Expr} {scope:Scope} {pos:Pos} {it acc:Value} {env:Env} (I:Nat->Shared->Prop)
  (turn:∀ n s,I n s->wpAny (model prog w) A (pyNext it) (fun r s₁=>match r with
   | none=>R (.ok .next) s₁
   | some v=>wpAny (model prog w) A (letOwnedTupleGo target it v) (fun _ s₀=>wpAny (model prog w) A (assign target env v) (fun _ s₂ =>
     wpAny (model prog w) A (forIn ifs true fun c r=>if r=true then do let ok ← isTrue c env (eval c env); pure (ForInStep.yield ok) else pure (ForInStep.yield r)) (fun ok s₃ =>
      if ok=true then wpAny (model prog w) A (eval elt env) (fun x s₄=>wpAny (model prog w) A (call (.builtin "list.append") [acc,x]) (fun _ s₅=>∃ m,m < n/\I m s₅) (fun _ _=>False) s₄) (fun _ _=>False) s₃
      else ∃ m,m < n/\I m s₃) (fun _ _=>False) s₂) (fun _ _=>False) s₀) (fun _ _=>False) s₁) (fun _ _=>False) s)
  (n:Nat) (h:I n s):codeAny (model prog w) A (.compLoop (.ListComp elt [⟨target,iter,ifs,0⟩] scope pos) 0 it acc env) R s:=by
 have no:∀ {E:Value->Shared->Prop} (x:Value) (s':Shared),(fun (_:Value) (_:Shared)=>False) x s'->E x s':=fun _ _ z=>z.elim
 refine codeAny_loop rfl I (fun n s hI=>?_) n h
 refine (show wpAny (model prog w) A ((compTurn (.ListComp elt [⟨target,iter,ifs,0⟩] scope pos) 0 it acc env).onRaise (fun x=>do noteFrame x env; theTreesLotGoes x)) _ _ s from wpAny_noted ?_)
 rw[compTurn_list]
 refine wpAny_bind (wpAny_standAt (wpAny_bind (wpAny_mono (turn n s hI) (fun r s₁ h₁=>?_) no)))
 cases r with
 | none=>exact wpAny_pure h₁
 | some v =>
  refine wpAny_bind (wpAny_mono h₁ (fun _ s₀ h₀=>wpAny_bind (wpAny_mono h₀ (fun _ s₂ h₂=>wpAny_bind (wpAny_mono h₂ (fun ok s₃ h₃=>?_) no)) no)) no)
  cases ok with
  | false=>exact wpAny_pure ⟨rfl,h₃⟩
  | true=>exact wpAny_bind (wpAny_bind (wpAny_mono h₃ (fun x s₄ h₄=>wpAny_bind (wpAny_mono h₄ (fun _ s₅ h₅=>wpAny_pure (wpAny_pure ⟨rfl,h₅⟩)) no)) no))
noncomputable def eO (D:Addr) (σ0:St) (J:It) (g:TG) (tt:TT) (te:TE) (H1:Hp) (Q:Hp->Prop):Prop :=
 ∃ W:Nat->Nat->List V->St->Hp->Prop,(∃ m,W 0 m [] σ0 (upd H1 D (.lst []))) ∧
  ∀ i m ys σ' H',W i m ys σ' H'->H' D=some (.lst ys)/\((J.stop i H'/\Q H')∨(J.go i H'/\∃ N:List V->St->Hp->Prop,(∀ zs σ2 H2,N zs σ2 H2->∃ m',m' < m/\W (i+1) m' zs σ2 H2) ∧
   ∀ x H2,J.yld i H' x H2->g x σ' H2 fun σ3 H3=>tt σ3 H3 fun b H4=>if b=true then te σ3 H4 fun y H5=>H5 D=some (.lst ys)/\ys.length < sizeLine/\N (ys++[y]) σ3 (upd H5 D (.lst (ys++[y]))) else N ys σ3 H4))
noncomputable def Ia (n:Nat) (cap:List Nat) (σ:St):St:=List.replicate n none++cap.map fun i=>(σ[i]?).join
noncomputable def Og (n:Nat) (cap:List Nat) (wi:TI) (g:TG) (tt:TT) (te:TE):TE:=fun σ H Q=>wi σ H fun J H1=>∀ D,H1 D=none->eO D (Ia n cap σ) J g tt te H1 fun H2=>Q (.ref D) H2
section
variable {X:Cx} {elt tg iter:Expr} {ifs:List Expr} {scope:Scope} {pos:Pos} {L F:List Str} {cap:List Nat} {wi:TI} {g:TG} {tt:TT} {te:TE}
theorem sE {pins:List (Addr × Obj)} {σ:St} {H:Hp} {s:Shared} (I:Inv X pins σ H s) {b:Addr} (h1:b≠X.env.locals) (h2:b ∉ X.fs):b ∉ frs X.stack:=fun z=>(List.mem_cons.mp (I.pI b z)).elim h1 h2
theorem zq {cl:List (Str × Addr)} {pins:List (Addr × Obj)} {σ:St} {H:Hp} {s:Shared} {fp:List Addr} {h₁:Heap} {tk:Nat} (ok:pY X scope F cap) (I:Inv X pins σ H s) (hfp:∀ b∈fp,sH X pins H b/\b < s.heap.objs.size)
  (sub:∀ n c,cl.lookup n=some c->X.env.cells.lookup n=some c) (all:∀ y∈scope.names,y.2 = .free->∃ c,cl.lookup y.1=some c)
  (ns:h₁.Ns s.heap.objs.size fun _=>none) (kp:∀ b o,s.heap.get? b=some o->h₁.get? b=some o) :
  Inv (dD X scope cl s.heap.objs.size (L++F) s H fp) [] (Ia L.length cap σ) H { s with heap:=h₁,toks:=tk }:=by
 have frk:∀ x,scope.names.lookup x=some .free->X.env.kindOf x=some .cell∨X.env.kindOf x=some .free:=fun x e=>ok.fr (x,.free) (PySem.mem_of_lookup e) rfl
 have okX:(dD X scope cl s.heap.objs.size (L++F) s H fp).Ok:=by
  refine⟨I.ok.mod,ok.kind,I.ok.glob,I.ok.blt,Nat.le_refl _,fun x y c e1 e2=>I.ok.inj x y c (sub x c e1) (sub y c e2),fun x hx=>?_,fun x c hx _=>?_,I.ok.hd,I.ok.frames,.inl rfl,fun b hb=>?_,I.bs,Nat.le_trans I.ok.bsz I.sz,fun b o e hb=>?_,fun b hb=>?_,I.stack,I.qK⟩
  ·have e:scope.names.lookup x=some .free:=by
    rcases hx with hx | hx
    ·rcases nQ (env:=X.env) (show _=some NameKind.cell from hx) with e | e
     ·exact absurd rfl (ok.cell _ (PySem.mem_of_lookup e))
     ·exact e
    ·rcases nQ (env:=X.env) (show _=some NameKind.free from hx) with e | e <;> exact e
   exact all (x,.free) (PySem.mem_of_lookup e) rfl
  ·exact absurd (show false=true from hx) Bool.false_ne_true
  ·exact⟨Nat.ne_of_lt (hfp b hb).2,fun x c e=>(hfp b hb).1.2.2.2.2.1 x c (sub x c e)⟩
  ·obtain⟨_,_,_,f3,_⟩:=(hfp b hb).1
   rcases f3 with z | z
   ·exact I.ok.noex b o e z
   ·exact absurd (Nat.lt_of_lt_of_le (Heap.lt_size e) (Nat.le_trans I.ok.bsz z)) (Nat.lt_irrefl _)
  ·obtain⟨_,f1,f2,_⟩:=(hfp b hb).1
   exact sE I f1 f2
 refine⟨okX,rfl,I.bare,Un.kept kp,⟨_,ns,fun i x v e1 e2 e3=>?_⟩,fun x c e=>?_,I.hok.fresh (Nat.le_refl _),fun x c e=>I.freeC x c (sub x c e),fun p hp=>absurd (show p∈([]:List (Addr × Obj)) from hp) (by simp),I.hok.kept kp,?_⟩
 ·have e1:(L++F)[i]? = some x:=e1
  have e2:(List.replicate L.length none++cap.map fun i=>(σ[i]?).join)[i]? = some (some v):=e2
  have hL:¬ i < L.length:=fun hi=>by
   rw[List.getElem?_append_left (by simpa using hi),List.getElem?_replicate] at e2
   split at e2 <;> cases e2
  have hi:L.length<=i:=Nat.le_of_not_lt hL
  rw[List.getElem?_append_right hi] at e1
  rw[List.getElem?_append_right (by simpa using hi),List.length_replicate,List.getElem?_map] at e2
  obtain⟨j,hj,hN,hk⟩:=ok.at' _ _ e1
  rw[hj] at e2
  have e4:(σ[j]?).join=some v:=by simpa using e2
  have e5:σ[j]? = some (some v):=by
   cases q:σ[j]? with
   | none=>rw[q] at e4; cases e4
   | some a=>rw[q] at e4; exact congrArg some e4
  obtain⟨m,hn,hl⟩:=I.loc
  have kd:=frk x hk
  obtain⟨u,r,lk⟩:=hl j x v hN e5 (kd.elim (fun z=>.inr (.inl z)) fun z=>.inr (.inr z))
  obtain⟨c,hc,hcell⟩:∃ c,X.env.cells.lookup x=some c/\s.heap.IsCell c (some u):=by
   rcases lk with⟨z,_⟩ | ⟨_,c,z1,z2⟩
   ·rcases kd with y | y <;> (rw[y] at z; cases z)
   ·exact⟨c,z1,z2⟩
  obtain⟨c',hc'⟩:=all (x,.free) (PySem.mem_of_lookup hk) rfl
  have ec:c'=c:=by
   have:=sub x c' hc'
   rw[hc] at this
   exact (Option.some.inj this).symm
  subst ec
  obtain⟨o,ho,hd⟩:=hcell
  exact⟨u,r,.inr ⟨(wj (env:=X.env) hk),c',hc',o,kp _ _ ho,hd⟩⟩
 ·obtain⟨v,o,ho,hd⟩:=I.cell x c (sub x c e)
  exact⟨v,o,kp _ _ ho,hd⟩
 ·show (List.replicate L.length (none:Option V)++cap.map fun i=>(σ[i]?).join).length=(L++F).length
  rw[List.length_append,List.length_append,List.length_replicate,List.length_map,ok.len]
theorem xX {cl:List (Str × Addr)} {pins:List (Addr × Obj)} {σ:St} {s2:Shared} {H2:Hp} {it:Addr} {fp:List Addr} {tn:Nat->Heap->Prop} {J:It} {use:Option (Value->Sem Unit)} {QQ:Value->Shared->Prop} {Z:Hp->Prop} {E:Value->Shared->Prop}
  (hc:X.calm=true) (ok:pY X scope F cap)
  (sub:∀ n c,cl.lookup n=some c->X.env.cells.lookup n=some c) (all:∀ y∈scope.names,y.2 = .free->∃ c,cl.lookup y.1=some c)
  (hg:∀ cl C s H fp,PG (dD X scope cl C (L++F) s H fp) tg g) (ht:∀ cl C s H fp,PTs (dD X scope cl C (L++F) s H fp) ifs tt) (he:∀ cl C s H fp,PE (dD X scope cl C (L++F) s H fp) elt te)
  (I2:Inv X pins σ H2 s2) (T:Turn X.prog X.w X.K tg J fp it tn) (st2:tn 0 s2.heap) (f2:∀ b∈fp,sH X pins H2 b)
  (q2:eO s2.heap.objs.size (Ia L.length cap σ) J g tt te H2 Z)
  (fin:∀ (C:Addr) (s':Shared) (H':Hp),Z H'->Inv X pins σ H' s'->(∃ m,s'.heap.Ns C m)->H' C=none->C≠X.env.locals->X.s₀.heap.objs.size<=C->(∀ x c,X.env.cells.lookup x=some c->c≠C)->(∀ p∈X.pn++pins,p.1≠C) →
   compPost (model X.prog X.w) X.A E use QQ (.ref s2.heap.objs.size) C (.ok .next) s') :
  wpAny (model X.prog X.w) X.A (newList []) (fun acc s₃=>wpAny (model X.prog X.w) X.A (newFunctionEnv scope X.env.globals cl [] X.env.qual none .none (some X.env)) (fun cenv s₄ =>
   codeAny (model X.prog X.w) X.A (.compStart (.ListComp elt [⟨tg,iter,ifs,0⟩] scope pos) 0 (.ref it) acc { cenv with scope:=relabel scope X.env }) (compPost (model X.prog X.w) X.A E use QQ acc cenv.locals) s₄) E s₃) E s2:=by
 have hD:H2 s2.heap.objs.size=none:=I2.fresh
 refine wpAny_newObj_type (wpAny_newFunctionEnv ok.cell (by intro y hy; simp at hy) (fun h₁ hns₁ hsb₁=>?_) ok.kind)
 dsimp only at hns₁ hsb₁ ⊢
 have I3:Inv X pins σ (upd H2 s2.heap.objs.size (.lst [])) { s2 with heap:=s2.heap.push { cls:=.type "list",data:=.seq ([]:List Value).toArray } }:=I2.Nm (t':=s2.toks) (ys:=[]) (its:=[]) .nil (Nat.zero_le _)
 have blt:∀ b∈fp,b < s2.heap.objs.size:=fun b hb=>let ⟨_,e,_⟩:=T.obj 0 _ st2 b hb; Heap.lt_size e
 have szC:(s2.heap.push { cls:=.type "list",data:=.seq ([]:List Value).toArray }).objs.size=s2.heap.objs.size+1:=Heap.size_push _ _
 generalize hs3:({ s2 with heap:=s2.heap.push { cls:=.type "list",data:=.seq ([]:List Value).toArray } }:Shared)=s3 at I3
 have es3:s3.heap=s2.heap.push { cls:=.type "list",data:=.seq ([]:List Value).toArray }:=by rw[← hs3]
 have eos:s3.os=s2.os:=by rw[← hs3]
 have fok:∀ b∈fp,sH X pins (upd H2 s2.heap.objs.size (.lst [])) b/\b < s3.heap.objs.size:=fun b hb=>by
  obtain⟨f0,fr⟩:=f2 b hb
  refine⟨⟨by rw[aR (Nat.ne_of_lt (blt b hb))]; exact f0,fr⟩,?_⟩
  rw[es3,szC]
  exact Nat.lt_succ_of_lt (blt b hb)
 have hkp:∀ b o,s3.heap.get? b=some o->h₁.get? b=some o:=fun b o e=>by
  have e':b < s3.heap.objs.size:=Heap.lt_size e
  rw[es3] at e e'
  exact (hsb₁.2 b (Nat.ne_of_lt e')).trans (Heap.get?_push_of_some _ e)
 have hns:h₁.Ns s3.heap.objs.size fun _=>none:=by
  rw[es3]
  exact hns₁
 have I4:∀ tk,Inv (dD X scope cl s3.heap.objs.size (L++F) s3 (upd H2 s2.heap.objs.size (.lst [])) fp) [] (Ia L.length cap σ) (upd H2 s2.heap.objs.size (.lst [])) { s3 with heap:=h₁,toks:=tk }:=fun tk =>
  zq (L:=L) ok I3 fok sub all hns hkp
 have stat:∀ {H':Hp},(∀ b∈fp,H' b=none)->∀ b∈fp,sH (dD X scope cl s3.heap.objs.size (L++F) s3 (upd H2 s2.heap.objs.size (.lst [])) fp) [] H' b:=fun {H'} hn b hb=>by
  obtain⟨⟨_,g1,g2,g3,g4,g5⟩,g6⟩:=fok b hb
  exact⟨hn b hb,Nat.ne_of_lt g6,sE I3 g1 g2,.inl hb,fun x c e=>g4 x c (sub x c e),fun p hp=>absurd (show p∈([]:List (Addr × Obj)) from hp) (by simp)⟩
 have loop:∀ tk,codeAny (model X.prog X.w) X.A (.compLoop (.ListComp elt [⟨tg,iter,ifs,0⟩] scope pos) 0 (.ref it) (.ref s2.heap.objs.size) (compEnvC scope cl s3.heap.objs.size X.env))
   (compPost (model X.prog X.w) X.A E use QQ (.ref s2.heap.objs.size) s3.heap.objs.size) { s3 with heap:=h₁,toks:=tk }:=fun tk=>by
  obtain⟨W,⟨m0,w0⟩,turn⟩:=q2
  have st3:tn 0 h₁:=T.keep 0 _ _ st2 fun b hb o e=>hkp b o (by rw[es3]; exact Heap.get?_push_of_some _ e)
  refine pD (fun n s'=>∃ i ys σ' H',Inv (dD X scope cl s3.heap.objs.size (L++F) s3 (upd H2 s2.heap.objs.size (.lst [])) fp) [] σ' H' s'/\tn i s'.heap/\(∀ b∈fp,H' b=none)/\W i n ys σ' H') ?_ m0
   ⟨0,[],_,_,I4 tk,st3,fun b hb=>(fok b hb).1.1,w0⟩
  rintro n s5 ⟨i,ys,σ5,H5,I5,st5,fr5,w5⟩
  obtain⟨hDl,alt⟩:=turn i n ys σ5 H5 w5
  rcases alt with⟨stop,qz⟩ | ⟨go,N,hN,step⟩
  ·refine thn (T.done (dD X scope cl s3.heap.objs.size (L++F) s3 (upd H2 s2.heap.objs.size (.lst [])) fp) rfl rfl rfl hc i [] s5 σ5 H5 _ I5 (stat fr5) st5 stop) fun r s6 ⟨hr,I6⟩=>?_
   subst hr
   have un:Un (frs X.stack) fp H2 H5 s2.heap s6.heap:=by
    have u1:Un (frs X.stack) fp H2 (upd H2 s2.heap.objs.size (.lst [])) s2.heap s3.heap:=by
     rw[es3]
     exact Un.laid (fun _ _ q=>Heap.get?_push_of_some _ q) (Nat.le_refl _) hD
    exact u1.trans I6.base
   have J1:Inv X pins σ H5 s6:=I2.call' (I6.os.trans eos) un I6.hok I6.bare fun b hb=>by
    obtain⟨_,g1,_,g3,g4,g5⟩:=f2 b hb
    exact⟨g3,g1,g4,g5⟩
   have hC:s2.heap.objs.size<=s3.heap.objs.size:=by rw[es3,szC]; exact Nat.le_succ _
   obtain⟨m,hm,_⟩:=I6.loc
   refine fin s3.heap.objs.size s6 H5 qz J1 ⟨m,hm⟩ I6.free (Nat.ne_of_gt (Nat.lt_of_lt_of_le I2.lt hC)) (Nat.le_trans I2.sz hC) (fun x c e z=>?_) (fun p hp z=>?_)
   ·obtain⟨v,q⟩:=I2.cell x c e
    exact absurd (Nat.lt_of_lt_of_le q.lt (by rw[z]; exact hC)) (Nat.lt_irrefl _)
   ·exact absurd (Nat.lt_of_lt_of_le (Heap.lt_size (I2.pin p hp).1) (by rw[z]; exact hC)) (Nat.lt_irrefl _)
  ·refine thn (T.item (dD X scope cl s3.heap.objs.size (L++F) s3 (upd H2 s2.heap.objs.size (.lst [])) fp) rfl rfl rfl hc i [] s5 σ5 H5 _ I5 (stat fr5) st5 go) fun r s6 ⟨u,hr,h6⟩=>?_
   subst hr
   refine thn h6 fun _ s7 ⟨x,H7,I7,r7,y7,st7,fr7⟩=>?_
   have I7':=I7.pinned (stat fr7) (T.obj _ _ st7)
   refine thn (hg _ _ _ _ _ _ s7 σ5 H7 x u _ I7' r7 (step x H7 y7)) fun _ s8 ⟨σ8,H8,I8,q8⟩=>?_
   have again:∀ {σ9:St} {H9:Hp} {s9:Shared} {zs:List V},Inv (dD X scope cl s3.heap.objs.size (L++F) s3 (upd H2 s2.heap.objs.size (.lst [])) fp) ([]++pA fp s7.heap) σ9 H9 s9->N zs σ9 H9 →
     ∃ m,m < n/\∃ i ys σ' H',Inv (dD X scope cl s3.heap.objs.size (L++F) s3 (upd H2 s2.heap.objs.size (.lst [])) fp) [] σ' H' s9/\tn i s9.heap/\(∀ b∈fp,H' b=none)/\W i m ys σ' H':=fun {σ9 H9 s9 zs} I9 n9=>by
    obtain⟨m',hm,w9⟩:=hN zs σ9 H9 n9
    refine⟨m',hm,i+1,zs,σ9,H9,I9.jG,T.keep _ _ _ st7 fun b hb o e=>(I9.pin (b,o) (List.mem_append_right _ (List.mem_append_right _ (fj hb e)))).1,fun b hb=>?_,w9⟩
    obtain⟨o,e,d⟩:=T.obj _ _ st7 b hb
    exact (I9.pin (b,o) (List.mem_append_right _ (List.mem_append_right _ (fj hb e)))).2.1
   refine thn (ht _ _ _ _ _ _ s8 σ8 H8 _ I8 q8) fun okb s9 ⟨H9,I9,q9⟩=>?_
   cases okb with
   | false =>
    rw[if_neg Bool.false_ne_true] at q9 ⊢
    exact again I9 q9
   | true =>
    rw[if_pos rfl] at q9 ⊢
    refine thn (he _ _ _ _ _ _ s9 σ8 H9 _ I9 q9) fun y s10 ⟨yv,H10,I10,r10,e10,z10,n10⟩=>?_
    refine thn (dB _ s10 σ8 H10 (.ref s2.heap.objs.size) [yv] (.ref s2.heap.objs.size) [y] (fun _ H'=>N (ys++[yv]) σ8 H') I10 rfl (.cons r10 .nil) ⟨_,ys,yv,rfl,rfl,e10,z10,n10⟩) fun _ s11 ⟨_,H11,I11,_,n11⟩=>?_
    exact again I11 n11
 have eC:(s2.heap.push { cls:=.type "list",data:=.seq ([]:List Value).toArray }).objs.size=s3.heap.objs.size:=by rw[es3]
 have goal:∀ tk,codeAny (model X.prog X.w) X.A (.compStart (.ListComp elt [⟨tg,iter,ifs,0⟩] scope pos) 0 (.ref it) (.ref s2.heap.objs.size) (compEnvC scope cl s3.heap.objs.size X.env))
   (compPost (model X.prog X.w) X.A E use QQ (.ref s2.heap.objs.size) s3.heap.objs.size) { s3 with heap:=h₁,toks:=tk }:=fun tk =>
  codeAny_compStart_list (loop tk) (T.self _ 0 _ _ _ (T.keep 0 _ _ st2 fun b hb o e=>hkp b o (by rw[es3]; exact Heap.get?_push_of_some _ e)) (loop tk))
 have g0:=goal (s2.toks+([]:List (Str × Value)).length)
 subst hs3
 exact g0
theorem bD (hc:X.calm=true) (ok:pY X scope F cap) (hi:PI X tg iter wi)
  (hg:∀ cl C s H fp,PG (dD X scope cl C (L++F) s H fp) tg g) (ht:∀ cl C s H fp,PTs (dD X scope cl C (L++F) s H fp) ifs tt) (he:∀ cl C s H fp,PE (dD X scope cl C (L++F) s H fp) elt te)
  (hs : autoParam (∀ x,foldedSetIterable iter X.env x=pure x) L2.az4._auto_1):PE X (.ListComp elt [⟨tg,iter,ifs,0⟩] scope pos) (Og L.length cap wi g tt te):=by
 intro pins s σ H Q I h
 obtain⟨cl,e1,e2,e3⟩:=rO (scope:=scope) (env:=X.env) (fun y hy hf=>I.ok.has _ (ok.fr y hy hf))
 rw[eval_ListComp]
 refine wpAny_comprehension_free (use:=none) rfl hs e1 ok.kind ok.nms (thn (hi pins s σ H _ I h) fun v s1 h1=>thn h1 fun itv s2 h2=>?_)
 obtain⟨it,fp,tn,J,H2,e,I2,T,st2,f2,q2⟩:=h2
 subst e
 refine xX (Z:=fun H'=>Q (.ref s2.heap.objs.size) H') hc ok e2 e3 hg ht he I2 T st2 f2 (q2 _ I2.fresh) fun C s' H' z J m hCf hCl hCs hCc hCp=>?_
 ·obtain⟨m,hm⟩:=m
  exact⟨m,hm,fun h' hs'=>⟨.ref _,H',J.turned (t':=s'.toks) (fun b o hb e=>(hs'.2 b hb).trans e) hCf hCl (.inr hCs) hCc hCp,rfl,z⟩⟩
noncomputable def GK (n:Nat) (cap:List Nat) (wi:TI) (g:TG) (tt:TT) (te:TE) (j:Nat):TS:=fun D σ H=>wi σ H fun J H1=>∀ d,H1 d=none->eO d (Ia n cap σ) J g tt te H1 fun H2=>D.nx (σ.set j (some (.ref d))) H2
theorem rQ {j:Nat} {y:Str} {py spos:Pos} (hN:X.N.Nodup) (hj:X.N[j]? = some y) (hy:Loc X.env.scope y) (hc:X.calm=true) (ok:pY X scope F cap) (hi:PI X tg iter wi)
  (hg:∀ cl C s H fp,PG (dD X scope cl C (L++F) s H fp) tg g) (ht:∀ cl C s H fp,PTs (dD X scope cl C (L++F) s H fp) ifs tt) (he:∀ cl C s H fp,PE (dD X scope cl C (L++F) s H fp) elt te)
  (hsw : autoParam (swapsWith (.ListComp elt [⟨tg,iter,ifs,0⟩] scope pos) (some (.Name y py)) spos.line X.env=pure true) L2.az5._auto_1)
  (hs : autoParam (∀ x,foldedSetIterable iter X.env x=pure x) L2.az4._auto_1) (hf : autoParam (X.fn y=true∨X.env.scope.names.lookup y=some .local) L2.az1._auto_1) :
  PS X (.Assign [.Name y py] (.ListComp elt [⟨tg,iter,ifs,0⟩] scope pos) spos) (GK L.length cap wi g tt te j):=by
 intro pins s σ H D I h
 obtain⟨cl,e1,e2,e3⟩:=rO (scope:=scope) (env:=X.env) (fun y hy hf=>I.ok.has _ (ok.fr y hy hf))
 rw[exec_Assign_Name_used _ _ _ _ hsw]
 refine wpAny_bind (wpAny_standAt (wpAny_bind ?_))
 show wpAny (model X.prog X.w) X.A (do let _ ← comprehension (.ListComp elt [⟨tg,iter,ifs,0⟩] scope pos) scope X.env _ (newList []) false (eval iter X.env) (some (assign (.Name y py) X.env))) _ _ s
 refine wpAny_bind (wpAny_mono (wpAny_comprehension_free (use:=some (assign (.Name y py) X.env)) (Q:=fun _ s'=>SP X pins D .next s') rfl hs e1 ok.kind ok.nms
  (thn (hi pins s σ H _ I h) fun v s1 h1=>thn h1 fun itv s2 h2=>?_)) (fun _ s' hq=>wpAny_pure (wpAny_pure hq)) fun _ _ e=>e)
 obtain⟨it,fp,tn,J,H2,e,I2,T,st2,f2,q2⟩:=h2
 subst e
 refine xX (Z:=fun H'=>D.nx (σ.set j (some (.ref s2.heap.objs.size))) H') hc ok e2 e3 hg ht he I2 T st2 f2 (q2 _ I2.fresh) fun C s' H' z J m hCf hCl hCs hCc hCp=>?_
 obtain⟨m,hm⟩:=m
 refine wpAny_assign_Name (nU J hN hj hy (v:=.ref s2.heap.objs.size) rfl (fun s5 I5 hs5=>?_) hf)
 obtain⟨a,sb,ha⟩:=hs5
 have hne:C≠a:=by
  rcases ha with rfl | ha
  ·exact hCl
  ·exact Ne.symm (hCc y a ha)
 exact⟨m,hm.sameBut sb hne,fun h' hs'=>⟨_,H',I5.turned (t':=s5.toks) (fun b o hb e=>(hs'.2 b hb).trans e) hCf hCl (.inr hCs) hCc hCp,z⟩⟩
end
end L2
namespace L2
open PySem PySem.Spec PyProof.Rows
structure Df (P:Program) (w:World) (K:PySem.W.Frag) (mg:Str->Option Value) (base:Heap) (x:Str) (k:Nat) (ps:List Str) (sp:Sp):Prop where
 ex:∃ (f:Addr) (fd:FuncData),cu P w K mg base CX0 k f fd ps sp/\mg x=some (.ref f)/\PySem.W.keepIn K (.ref f)=true/\Binds K fd ps []
section
variable {X:Cx} {k j:Nat} {x:Str} {ps:List Str} {sp:Sp} {p pos:Pos} {e:Expr} {es:List Expr} {t:TA}
theorem aY (D:Df X.prog X.w X.K X.mg X.base x k ps sp) (hr:gB j X.A) (ha:PA X (e::es) t) (hk : autoParam (k<=j) L2.az7._auto_1) (hg : autoParam (Gl X x) L2.az5._auto_1)
  (hdb : autoParam ((x == ("__debug__" : Str))=false) L2.az2._auto_1) (he : autoParam (starEach (e::es) X.env=(false,eval e X.env)::starEach es X.env) L2.az5._auto_1) (hpl : autoParam ((backTo pos (starEach es X.env)).any (·.1)=false) L2.az5._auto_1) :
  PE X (.Call (.Name x p) (e::es) [] pos) (Gw sp [] E0 t):=by
 obtain⟨f,fd,F,hm,hkp,hb⟩:=D.ex
 exact Dl F (hr.mono hk) hg hm hkp hb .nil DK ha hdb he hpl
theorem oV {T:String} (hm:X.mg x=none) (hv:bootBuiltins x=some (.type T)) (hg : autoParam (Gl X x) L2.az5._auto_1) (hn : autoParam (x≠"__name__") L2.az2._auto_1) (hd : autoParam ((x == ("__debug__" : Str))=false) L2.az2._auto_1):PE X (.Name x pos) (tC (.ty T)):=Ku hg hm hv rfl hn hd
inductive Lg (K:W.Frag) (xs:List V) (H:Hp) (Q:VK):Prop where
 | mk (x:V) (T:String) (t:Value) (b:Bool) (z0:xs=[x,.ty T]) (z1:zr K H x t) (z2:W.kitOne K t (.type T)=some b) (z3:Q (.bl b) H):Lg K xs H Q
noncomputable def Av (K:W.Frag):List V->Hp->VK->Prop:=fun xs H Q=>Lg K xs H Q
theorem eE:gF X (.builtin "isinstance") (Av X.K):=by
 intro pins s σ H xs us Q I r h
 obtain⟨x,T,t,b,rfl,ty,e,q⟩:=h
 obtain⟨u,v,rfl,ru,rv⟩:=vals2 r
 cases (show v=Value.type T from rv)
 exact Bh I ru ty e fun tk=>⟨.bl b,H,I.tok tk,rfl,q⟩
noncomputable def yx (K:W.Frag):List V->Hp->VK->Prop:=fun xs H Q=>∃ (p:Addr) (ys:List V),xs=[.ref p]/\(SqL K H p ys∨SqT K H p ys)/\Q (.int ys.length) H
theorem cj:gF X (.builtin "len") (yx X.K):=uQ
noncomputable def Cp (K:W.Frag):List V->Hp->VK->Prop:=fun xs H Q=>∃ (p:Addr) (ys:List V),xs=[.ref p]/\(SqL K H p ys∨SqT K H p ys)/\∀ l,H l=none->Q (.ref l) (upd H l (.lst ys))
theorem yZ:gF X (.type "list") (Cp X.K):=uO
noncomputable def gJ (K:W.Frag):List V->Hp->VK->Prop:=fun xs H Q=>∃ (p:Addr) (ys:List V),xs=[.ref p]/\((SqL K H p ys/\∀ l,H l=none->Q (.ref l) (upd H l (.tup ys)))∨(SqT K H p ys/\Q (.ref p) H))
theorem bH:gF X (.type "tuple") (gJ X.K):=qP
theorem jt:∀ bs:List Bool,(List.range bs.length).all (fun i=>bs.getD i true)=bs.all fun b=>b
 | []=>rfl
 | b::r=>by
  have ih:=jt r
  rw[List.length_cons,List.range_succ_eq_map,List.all_cons,List.all_map,List.all_cons,← ih]
  rfl
inductive GP (K:W.Frag) (xs:List V) (H:Hp) (Q:VK):Prop where
 | mk (p:Addr) (bs:List Bool) (z0:xs=[.ref p]) (z1:SqL K H p (bs.map V.bl)) (z2:Q (.bl (bs.all fun b=>b)) H):GP K xs H Q
noncomputable def zc (K:W.Frag):List V->Hp->VK->Prop:=fun xs H Q=>GP K xs H Q
theorem iU (hc:X.calm=true):gF X (.builtin "all") (zc X.K):=by
 intro pins s σ H xs us Q I r h
 obtain⟨p,bs,rfl,hq,q⟩:=h
 obtain⟨u,rfl,ru⟩:=vals1 r
 cases ru
 obtain⟨its,rv,pl,hz⟩:=I.list hq
 have hlen:bs.length=its.length:=by simpa using rv.length
 refine call_all_walk (wpAny_pyIter_list pl.isList ?_)
 have I1:Inv X pins σ H { s with heap:=s.heap.push { cls:=.type "list_iterator",data:=.fields #[.ref p,.int 0 0] } }:=I.kept (t':=s.toks) fun b o e=>Heap.get?_push_of_some _ e
 have hne:p≠s.heap.objs.size:=by
  obtain⟨o,ho,_⟩:=pl.isList
  exact Nat.ne_of_lt (Heap.lt_size ho)
 refine⟨s.heap.objs.size,_,_,_,_,_,fun i=>bs.getD i true,rfl,Walks.list (A:=X.A.in1) (I.ok.hd hc) s.heap.objs.size p hne its.toArray,⟨⟨_,Heap.get?_push_size _ rfl,rfl,rfl⟩,?_⟩,?_,fun h' tk hk=>?_⟩
 ·obtain⟨o,ho,hr⟩:=pl.isList
  exact⟨o,Heap.get?_push_of_some _ ho,hr⟩
 ·intro i v s' Q' E' hP hQ
  have hP:its[i]? = some v:=by simpa using hP
  have hi:i < bs.length:=by
   rw[hlen]
   exact (List.getElem?_eq_some_iff.mp hP).1
  obtain⟨u',hu',ru'⟩:=rv.get (i:=i) (x:=V.bl bs[i]) (by rw[List.getElem?_map,List.getElem?_eq_getElem hi]; rfl)
  rw[hP] at hu'
  cases hu'
  cases (show v=Value.bool bs[i] from ru')
  refine wpAny_truthy_bool ?_
  have eg:bs.getD i true=bs[i]:=by rw[List.getD_eq_getElem?_getD,List.getElem?_eq_getElem hi]; rfl
  have hQ':Q' (bs.getD i true) s':=hQ
  rw[eg] at hQ'
  exact hQ'
 ·have f:=I.DR (b:=s.heap.objs.size) (H':=H) (Nat.le_refl _) I.fresh
  have eall:(List.range its.toArray.size).all (fun i=>bs.getD i true)=bs.all fun b=>b:=by
   have el:its.toArray.size=bs.length:=by rw[List.size_toArray,hlen]
   rw[el]
   exact jt bs
  rw[eall]
  exact⟨.bl _,H,I1.turned (t':=tk) (it:=s.heap.objs.size) (fun b o hb e=>hk b o (by simpa using hb) e) f.1 f.2.1 f.2.2.2.1 f.2.2.2.2.1 f.2.2.2.2.2,rfl,q⟩
end
end L2
namespace L2
open PySem PySem.Spec PyProof.Rows
noncomputable def Br (osc:Scope) (oN:List Str) (sc:Scope) (F:List Str) (cap:List Nat):Bool :=
 decide (sc.kind = .function) && sc.names.all (fun y=>!decide (y.2 = .cell)) && sc.names.all (fun y=>!decide (y.2 = .local) || decide (sc.names.lookup y.1=some .local)) &&
 sc.names.all (fun y=>!decide (y.2 = .free) || decide (osc.names.lookup y.1=some .cell) || decide (osc.names.lookup y.1=some .free)) && decide (cap.length=F.length) &&
 (List.range F.length).all fun k=>(decide (F[k]? = none) || decide ((cap[k]?.bind fun i=>oN[i]?)=F[k]?)) && decide ((F[k]?.bind fun x=>sc.names.lookup x)=some .free)
theorem bh {X:Cx} {osc sc:Scope} {oN F:List Str} {cap:List Nat} (ho:X.env.scope=osc) (hN:X.N=oN) (h:Br osc oN sc F cap=true):pY X sc F cap:=by
 unfold Br at h
 simp only[Bool.and_eq_true] at h
 obtain⟨⟨⟨⟨⟨h1,h2⟩,h3⟩,h4⟩,h5⟩,h6⟩:=h
 refine⟨of_decide_eq_true h1,fun y hy e=>?_,fun y hy e=>?_,fun y hy e=>?_,of_decide_eq_true h5,fun k x e=>?_⟩
 ·have:=List.all_eq_true.mp h2 y hy
  rw[e] at this
  exact absurd this (by decide)
 ·have:=List.all_eq_true.mp h3 y hy
  rw[decide_eq_true e] at this
  exact of_decide_eq_true (by simpa using this)
 ·have:=List.all_eq_true.mp h4 y hy
  rw[decide_eq_true e] at this
  have z:decide (osc.names.lookup y.1=some .cell)=true∨decide (osc.names.lookup y.1=some .free)=true:=by
   rw[Bool.not_true,Bool.false_or,Bool.or_eq_true] at this
   exact this
  show X.env.scope.names.lookup y.1=_∨X.env.scope.names.lookup y.1=_
  rw[ho]
  exact z.elim (fun q=>.inl (of_decide_eq_true q)) fun q=>.inr (of_decide_eq_true q)
 ·have hk:k < F.length:=(List.getElem?_eq_some_iff.mp e).1
  have q:=List.all_eq_true.mp h6 k (List.mem_range.mpr hk)
  rw[e,Bool.and_eq_true] at q
  obtain⟨q1,q2⟩:=q
  have q1:(cap[k]?.bind fun i=>oN[i]?)=some x:=by
   rw[Bool.or_eq_true] at q1
   rcases q1 with z | z
   ·exact absurd (of_decide_eq_true z) (by simp)
   ·exact of_decide_eq_true z
  have q2:sc.names.lookup x=some .free:=of_decide_eq_true q2
  cases hc:cap[k]? with
  | none=>rw[hc] at q1; cases q1
  | some i =>
   rw[hc] at q1
   exact⟨i,rfl,by rw[hN]; exact q1,q2⟩
theorem bc {X:Cx} {scope:Scope} {cl:List (Str × Addr)} {C:Addr} {N:List Str} {s:Shared} {H:Hp} {fp:List Addr} (h:N.Nodup):(dD X scope cl C N s H fp).N.Nodup:=h
section
variable {K:W.Frag} {a D:Addr} {xs:List V} {g:TG} {tt:TT} {te:TE} {H1:Hp} {Q:Hp->Prop} {σ0:St}
theorem dH (Pv:Nat->List V->St->Hp->Prop) (h0:Pv 0 [] σ0 (upd H1 D (.lst []))) (hl:∀ i ys σ H,i<=xs.length->Pv i ys σ H->SqT K H a xs/\H D=some (.lst ys))
  (hs:∀ i ys x σ H,xs[i]? = some x->Pv i ys σ H->g x σ H fun σ3 H3=>tt σ3 H3 fun b H4=>if b=true then te σ3 H4 fun y H5=>H5 D=some (.lst ys)/\ys.length < sizeLine/\Pv (i+1) (ys++[y]) σ3 (upd H5 D (.lst (ys++[y]))) else Pv (i+1) ys σ3 H4)
  (hd:∀ ys σ H,Pv xs.length ys σ H->Q H):eO D σ0 (Itt K a) g tt te H1 Q:=by
 refine⟨fun i m ys σ H=>m=xs.length - i/\i<=xs.length/\Pv i ys σ H,⟨xs.length,by simp,Nat.zero_le _,h0⟩,?_⟩
 rintro i m ys σ H ⟨rfl,hi,p⟩
 obtain⟨q,qD⟩:=hl i ys σ H hi p
 refine⟨qD,?_⟩
 by_cases hlt:i < xs.length
 ·refine .inr ⟨⟨xs,xs[i],q,by simp [hlt]⟩,Pv (i+1),fun zs σ' H' p'=>⟨xs.length - (i+1),by lia,rfl,hlt,p'⟩,fun x H' y=>?_⟩
  obtain⟨e,y⟩:=y
  subst e
  exact hs i ys x σ _ (y xs q) p
 ·have e:i=xs.length:=by lia
  subst e
  exact .inl ⟨⟨xs,q,Nat.le_refl _⟩,hd ys σ H p⟩
theorem eG (Pv:Nat->List V->St->Hp->Prop) (h0:Pv 0 [] σ0 (upd H1 D (.lst []))) (hl:∀ i ys σ H,i<=xs.length->Pv i ys σ H->SqL K H a xs/\H D=some (.lst ys))
  (hs:∀ i ys x σ H,xs[i]? = some x->Pv i ys σ H->g x σ H fun σ3 H3=>tt σ3 H3 fun b H4=>if b=true then te σ3 H4 fun y H5=>H5 D=some (.lst ys)/\ys.length < sizeLine/\Pv (i+1) (ys++[y]) σ3 (upd H5 D (.lst (ys++[y]))) else Pv (i+1) ys σ3 H4)
  (hd:∀ ys σ H,Pv xs.length ys σ H->Q H):eO D σ0 (Itl K a) g tt te H1 Q:=by
 refine⟨fun i m ys σ H=>m=xs.length - i/\i<=xs.length/\Pv i ys σ H,⟨xs.length,by simp,Nat.zero_le _,h0⟩,?_⟩
 rintro i m ys σ H ⟨rfl,hi,p⟩
 obtain⟨q,qD⟩:=hl i ys σ H hi p
 refine⟨qD,?_⟩
 by_cases hlt:i < xs.length
 ·refine .inr ⟨⟨xs,xs[i],q,by simp [hlt]⟩,Pv (i+1),fun zs σ' H' p'=>⟨xs.length - (i+1),by lia,rfl,hlt,p'⟩,fun x H' y=>?_⟩
  obtain⟨e,y⟩:=y
  subst e
  exact hs i ys x σ _ (y xs q) p
 ·have e:i=xs.length:=by lia
  subst e
  exact .inl ⟨⟨xs,q,Nat.le_refl _⟩,hd ys σ H p⟩
theorem cF {lo:Int} {n:Nat} (Pv:Nat->List V->St->Hp->Prop) (h0:Pv 0 [] σ0 (upd H1 D (.lst []))) (hl:∀ i ys σ H,i<=n->Pv i ys σ H->H D=some (.lst ys))
  (hs:∀ i ys σ H,i < n->Pv i ys σ H->g (.int (lo+i)) σ H fun σ3 H3=>tt σ3 H3 fun b H4=>if b=true then te σ3 H4 fun y H5=>H5 D=some (.lst ys)/\ys.length < sizeLine/\Pv (i+1) (ys++[y]) σ3 (upd H5 D (.lst (ys++[y]))) else Pv (i+1) ys σ3 H4)
  (hd:∀ ys σ H,Pv n ys σ H->Q H):eO D σ0 (Itr lo n) g tt te H1 Q:=by
 refine⟨fun i m ys σ H=>m=n - i/\i<=n/\Pv i ys σ H,⟨n,by simp,Nat.zero_le _,h0⟩,?_⟩
 rintro i m ys σ H ⟨rfl,hi,p⟩
 refine⟨hl i ys σ H hi p,?_⟩
 by_cases hlt:i < n
 ·refine .inr ⟨hlt,Pv (i+1),fun zs σ' H' p'=>⟨n - (i+1),by lia,rfl,hlt,p'⟩,fun x H' y=>?_⟩
  obtain⟨e,y⟩:=y
  subst e y
  exact hs i ys σ _ hlt p
 ·have e:i=n:=by lia
  subst e
  exact .inl ⟨Nat.le_refl _,hd ys σ H p⟩
end
structure Bt (mg:Str->Option Value):Prop where
 len_:mg "len" = none
 range_:mg "range" = none
 all_:mg "all" = none
 isinstance_:mg "isinstance" = none
 int_:mg "int" = none
 bool_:mg "bool" = none
 str_:mg "str" = none
 list_:mg "list" = none
 tuple_:mg "tuple" = none
 abs_:mg "abs" = none
 max_:mg "max" = none
 min_:mg "min" = none
 sum_:mg "sum" = none
 sorted_:mg "sorted" = none
 zip_:mg "zip" = none
 reversed_:mg "reversed" = none
 divmod_:mg "divmod" = none
 set_:mg "set" = none
 any_:mg "any" = none
 enumerate_:mg "enumerate" = none
theorem ie:bootBuiltins "len" = some (.builtin "len"):=PySem.boot_len
theorem uJ:bootBuiltins "all" = some (.builtin "all"):=by decide+kernel
theorem bJ:bootBuiltins "isinstance" = some (.builtin "isinstance"):=by decide+kernel
theorem uW:bootBuiltins "abs" = some (.builtin "abs"):=by decide+kernel
theorem pL:bootBuiltins "max" = some (.builtin "max"):=by decide+kernel
theorem Ii:bootBuiltins "min" = some (.builtin "min"):=by decide+kernel
theorem Dw:bootBuiltins "sum" = some (.builtin "sum"):=by decide+kernel
theorem xR:bootBuiltins "int" = some (.type "int"):=by decide+kernel
theorem Ds:bootBuiltins "bool" = some (.type "bool"):=by decide+kernel
theorem GJ:bootBuiltins "str" = some (.type "str"):=by decide+kernel
theorem wG:bootBuiltins "list" = some (.type "list"):=by decide+kernel
theorem cA:bootBuiltins "tuple" = some (.type "tuple"):=by decide+kernel
theorem oM (K:W.Frag) (T:String):W.kitOne K (.type T) (.type T)=some true:=by
 unfold PySem.W.kitOne
 rw[if_pos (beq_self_eq_true _)]
theorem nu (K:W.Frag):W.kitOne K (.type "int") (.type "bool")=some false:=by kernel_rfl
theorem mY (K:W.Frag):W.kitOne K (.type "bool") (.type "int")=some true:=by kernel_rfl
theorem za (K:W.Frag):W.kitOne K (.type "int") (.type "str")=some false:=by kernel_rfl
theorem wk (K:W.Frag):W.kitOne K (.type "bool") (.type "str")=some false:=by kernel_rfl
theorem sY (K:W.Frag):W.kitOne K (.type "tuple") (.type "str")=some false:=by kernel_rfl
theorem wL (K:W.Frag):W.kitOne K (.type "list") (.type "str")=some false:=by kernel_rfl
theorem tD (K:W.Frag):W.kitOne K (.type "tuple") (.type "int")=some false:=by kernel_rfl
theorem vX (K:W.Frag):W.kitOne K (.type "list") (.type "int")=some false:=by kernel_rfl
theorem jT (K:W.Frag):W.kitOne K (.type "tuple") (.type "list")=some false:=by kernel_rfl
theorem jE (K:W.Frag):W.kitOne K (.type "list") (.type "tuple")=some false:=by kernel_rfl
end L2
namespace L2
open PySem PySem.Spec PyProof.Rows
inductive Dm where
 | non | bl (b:Bool) | int (i:Int) | str (x:Str) | tup (ds:List Dm) | lst (ds:List Dm)
mutual
noncomputable def Dm.dep:Dm->Nat
 | .tup ds=>lE ds+1
 | .lst ds=>lE ds+1
 | _=>0
noncomputable def lE:List Dm->Nat
 | []=>0
 | d::r=>max d.dep (lE r)
end
mutual
inductive Rep (H:Hp):V->Dm->Prop where
 | non:Rep H .non .non
 | bl (b:Bool):Rep H (.bl b) (.bl b)
 | int (i:Int):Rep H (.int i) (.int i)
 | str (x:Str):Rep H (.str x) (.str x)
 | tup {a:Addr} {xs:List V} {ds:List Dm}:H a=some (.tup xs)->xs.length<=100000->lZ H xs ds->Rep H (.ref a) (.tup ds)
 | lst {a:Addr} {xs:List V} {ds:List Dm}:H a=some (.lst xs)->xs.length<=100000->lZ H xs ds->Rep H (.ref a) (.lst ds)
inductive lZ (H:Hp):List V->List Dm->Prop where
 | nil:lZ H [] []
 | cons {v:V} {d:Dm} {vs:List V} {ds:List Dm}:Rep H v d->lZ H vs ds->lZ H (v::vs) (d::ds)
end
mutual
theorem Rep.mono {H H':Hp} (e:aU H H'):∀ {v:V} {d:Dm},Rep H v d->Rep H' v d
 | _,_,.non=>.non
 | _,_,.bl b=>.bl b
 | _,_,.int i=>.int i
 | _,_,.str x=>.str x
 | _,_,.tup h l r=>.tup (e _ _ h) l (lZ.mono e r)
 | _,_,.lst h l r=>.lst (e _ _ h) l (lZ.mono e r)
theorem lZ.mono {H H':Hp} (e:aU H H'):∀ {vs:List V} {ds:List Dm},lZ H vs ds->lZ H' vs ds
 | _,_,.nil=>.nil
 | _,_,.cons h r=>.cons (Rep.mono e h) (lZ.mono e r)
end
theorem lZ.length {H:Hp}:∀ {vs:List V} {ds:List Dm},lZ H vs ds->vs.length=ds.length
 | _,_,.nil=>rfl
 | _,_,.cons _ r=>by rw[List.length_cons,List.length_cons,lZ.length r]
theorem lZ.get {H:Hp}:∀ {vs:List V} {ds:List Dm} {i:Nat},lZ H vs ds->i < vs.length->∃ v d,vs[i]? = some v/\ds[i]? = some d/\Rep H v d
 | _,_,_,.nil,h=>absurd h (Nat.not_lt_zero _)
 | _,_,0,.cons h _,_=>⟨_,_,rfl,rfl,h⟩
 | _,_,i+1,.cons _ r,h=>by
  obtain⟨v,d,e1,e2,e3⟩:=lZ.get (i:=i) r (Nat.lt_of_succ_lt_succ h)
  exact⟨v,d,by simpa using e1,by simpa using e2,e3⟩
theorem lW:∀ {ds:List Dm} {i:Nat} {d:Dm},ds[i]? = some d->d.dep<=lE ds
 | [],_,_,h=>by simp at h
 | d::r,0,_,h=>by
  cases (show some d=some _ from h)
  rw[lE]
  exact Nat.le_max_left _ _
 | d::r,i+1,_,h=>by
  rw[lE]
  exact Nat.le_trans (lW (i:=i) (ds:=r) (by simpa using h)) (Nat.le_max_right _ _)
theorem vd {H:Hp}:∀ ns:List Int,lZ H (ns.map V.int) (ns.map Dm.int)
 | []=>.nil
 | n::r=>.cons (.int n) (vd r)
section
variable {X:Cx}
inductive Mf (K:W.Frag) (x:V) (y:V) (H:Hp) (Q:VK):Prop where
 | mk (a b:Addr) (xs:List V) (z0:x = .ref a) (z1:y = .ref b) (z2:SqL K H a xs) (z3:SqL K H b []) (z4:Q (.bl xs.isEmpty) H):Mf K x y H Q
noncomputable def O1 (K:W.Frag):R2:=fun x y H Q=>Mf K x y H Q
theorem Ms (hu:X.A.units < cLine):OpR X (compareOp .Eq) (O1 X.K):=by
 intro pins s σ H x y v u Q I rx ry h
 obtain⟨a,b,xs,rfl,rfl,ha,hb,q⟩:=h
 cases rx
 cases ry
 obtain⟨its,r1,p1,_⟩:=I.list ha
 obtain⟨its2,r2,p2,_⟩:=I.list hb
 cases r2
 cases r1 with
 | nil=>exact SeqAt.eq_listAt (e:=fun _=>true) p1.isList p2.isList rfl hu (fun j h1 _=>absurd h1 (by simp)) ⟨.bl true,H,I,rfl,q⟩
 | cons r t=>exact SeqAt.eq_list_lengthsAt p1.isList p2.isList (by simp) hu ⟨.bl false,H,I,rfl,q⟩
end
end L2
namespace L2
open PySem PySem.Spec PyProof.Rows
section
variable {prog:Program} {w:World} {A:Around} {E:Value->Shared->Prop} {s:Shared}
theorem nY {it t:Addr} {i:Nat} {its:Array Value} {x:Value} {Q:Value->Shared->Prop} (j:s.heap.IsTupleIter it t i) (ht:s.heap.IsTuple t its) (hx:its[i]? = some x)
  (k:∀ h',h'.IsTupleIter it t (i+1)->Heap.SameBut it s.heap h'->Q x { s with heap:=h' }):wpAny (model prog w) A (Builtin.SmallTypes.nextOf (.ref it)) Q E s:=by
 obtain⟨o,e1,c1,d1⟩:=id j; obtain⟨o2,e2,_,n2,d2⟩:=ht; unfold Builtin.SmallTypes.nextOf
 refine wpAny_bind (wpAny_callSpecial?_slot (name:=Str.ofString "__next__") j.typeIs F.slot_tuple_iterator_next (wpAny_call_entry F.slot_tuple_iterator_next j.typeIs F.entry_tuple_iterator_next ?_ (F.args_tuple_iterator_next_1 _)))
 show wpAny _ _ (field (.ref it) 0 >>= _) _ _ s; refine wpAny_bind (wpAny_field e1 d1 (x:=.ref t) rfl ?_)
 show wpAny _ _ (if (Value.ref t == Value.none)=true then _ else _) _ _ s; rw[if_neg (show ¬ ((Value.ref t == Value.none)=true) from Bool.false_ne_true)]
 show wpAny _ _ (field (.ref it) 1 >>= _) _ _ s; refine wpAny_bind (wpAny_field e1 d1 (x:=.int i 0) rfl ?_)
 show wpAny _ _ (seqItems? (.ref t) >>= _) _ _ s; refine wpAny_bind (wpAny_seqItems e2 d2 ?_); simp only[Int.toNat_natCast,hx]
 refine wpAny_bind (wpAny_setField e1 d1 (by simp) (wpAny_pure ⟨x,rfl,wpAny_pure (k _ ?_ (Heap.SameBut.update ..))⟩))
 exact⟨_,Heap.get?_update_self _ e1 (Obj.isFreed_of_fields (Obj.data_mapFields d1 _)),(Obj.cls_mapFields ..).trans c1,by rw[Obj.data_mapFields d1]; simp [rawInt]⟩
theorem CG {it t:Addr} {i:Nat} {its:Array Value} {Q:Value->Shared->Prop} (hh:A.handled=none) (j:s.heap.IsTupleIter it t i) (ht:s.heap.IsTuple t its) (hx:its[i]? = none)
  (k:∀ h' e,Heap.ExtBut it s.heap h'->(∃ o,h'.get? e=some o/\o.cls = .type "StopIteration")->E (.ref e) { s with heap:=h' }):wpAny (model prog w) A (Builtin.SmallTypes.nextOf (.ref it)) Q E s:=by
 obtain⟨o,e1,c1,d1⟩:=id j; obtain⟨o2,e2,_,n2,d2⟩:=ht; unfold Builtin.SmallTypes.nextOf
 refine wpAny_bind (wpAny_callSpecial?_slot (name:=Str.ofString "__next__") j.typeIs F.slot_tuple_iterator_next (wpAny_call_entry F.slot_tuple_iterator_next j.typeIs F.entry_tuple_iterator_next ?_ (F.args_tuple_iterator_next_1 _)))
 show wpAny _ _ (field (.ref it) 0 >>= _) _ _ s; refine wpAny_bind (wpAny_field e1 d1 (x:=.ref t) rfl ?_)
 show wpAny _ _ (if (Value.ref t == Value.none)=true then _ else _) _ _ s; rw[if_neg (show ¬ ((Value.ref t == Value.none)=true) from Bool.false_ne_true)]
 show wpAny _ _ (field (.ref it) 1 >>= _) _ _ s; refine wpAny_bind (wpAny_field e1 d1 (x:=.int i 0) rfl ?_)
 show wpAny _ _ (seqItems? (.ref t) >>= _) _ _ s; refine wpAny_bind (wpAny_seqItems e2 d2 ?_); simp only[Int.toNat_natCast,hx]
 refine wpAny_bind (wpAny_rule (wpAny_bind (wpAny_setField e1 d1 (by simp) ?_))); show wpAny _ _ (newExc (.type "StopIteration") [] >>= _) _ _ _
 refine wpAny_bind ?_; simp only[newExc,newTuple]; refine wpAny_bind (wpAny_newObj_type ?_ (by size_fits))
 refine wpAny_bind (m:=firstArgMember _ _) (wpAny_of_eq (a:=Value.none) (by first | rfl | (simp only[firstArgMember]; rfl)) ?_); refine wpAny_newObj_type ?_ (by size_fits)
 simp only[raiseNew]; refine wpAny_bind (wpAny_handled ?_); first | rw[show A.in1.handled=none from hh] | rw[hh]
 refine wpAny_bind (wpAny_pure (wpAny_throw ?_)); exact k _ _ (((Heap.SameBut.update ..).extBut.push _).push _) ⟨_,Heap.get?_push_size _ rfl,rfl⟩
structure Zap (z p q i1 i2 l1 l2:Addr):Prop where
 pz:p≠z
 qz:q≠z
 az:i1≠z
 bz:i2≠z
 pq:p≠q
 pa:p≠i1
 pb:p≠i2
 qa:q≠i1
 qb:q≠i2
 ab:i1≠i2
 xz:l1≠z
 xq:l1≠q
 xa:l1≠i1
 xb:l1≠i2
 yz:l2≠z
 yq:l2≠q
 ya:l2≠i1
 yb:l2≠i2
theorem iR {h h':Heap} {a t:Addr} {its:Array Value} (ht:h.IsTuple t its) (sb:Heap.SameBut a h h') (ne:t≠a):h'.IsTuple t its:=by
 obtain⟨o,e,r⟩:=ht
 exact⟨o,(sb.2 t ne).trans e,r⟩
theorem cV {h h':Heap} {a it t:Addr} {i:Nat} (ht:h.IsTupleIter it t i) (sb:Heap.SameBut a h h') (ne:it≠a):h'.IsTupleIter it t i:=by
 obtain⟨o,e,r⟩:=ht
 exact⟨o,(sb.2 it ne).trans e,r⟩
theorem J9 {z p q i1 i2 l1 l2:Addr} {k:Nat} {xs ys:Array Value} {x y a b:Value} {Q:Option Value->Shared->Prop} (D:Zap z p q i1 i2 l1 l2)
  (hz:IsZip s.heap z p q .none) (hp:IsPair s.heap p (.ref i1) (.ref i2)) (hq:IsPair s.heap q a b) (j1:s.heap.IsTupleIter i1 l1 k) (j2:s.heap.IsTupleIter i2 l2 k) (t1:s.heap.IsTuple l1 xs) (t2:s.heap.IsTuple l2 ys)
  (hx:xs[k]? = some x) (hy:ys[k]? = some y)
  (hQ:∀ h',IsZip h' z p q (rawInt s.heap.objs.size)->IsPair h' q x y->h'.IsTupleIter i1 l1 (k+1)->h'.IsTupleIter i2 l2 (k+1)->IsPair h' s.heap.objs.size x y->h'.objs.size=s.heap.objs.size+1 →
   (∀ c o,c≠z->c≠q->c≠i1->c≠i2->s.heap.get? c=some o->h'.get? c=some o)->Q (some (.ref s.heap.objs.size)) { s with heap:=h' }):wpAny (model prog w) A (pyNext (.ref z)) Q E s:=by
 have hT:s.TypeIs (.ref z) "zip":=⟨_,hz,rfl⟩; unfold pyNext
 refine wpAny_bind (wpAny_attempt (wpAny_callSpecial?_slot (name:=Str.ofString "__next__") hT F.slot_zip_next (wpAny_call_entry F.slot_zip_next hT F.entry_zip_next ?_ (F.args_zip_next_1 _))))
 show wpAny _ _ (field (.ref z) 2 >>= _) _ _ _; refine wpAny_bind (wpAny_field hz rfl (x:=.bool false) rfl ?_)
 show wpAny _ _ (field (.ref z) 3 >>= _) _ _ _; refine wpAny_bind (wpAny_field hz rfl (x:=.ref p) rfl ?_); refine wpAny_bind (wpAny_seqItems hp rfl ?_)
 show wpAny _ _ (Builtin.SmallTypes.ownedTupleIsFree (.ref z) >>= _) _ _ _; refine wpAny_bind ?_; unfold Builtin.SmallTypes.ownedTupleIsFree
 refine wpAny_bind (wpAny_field hz rfl (x:=.none) rfl (wpAny_pure ?_)); simp only[if_true]; refine wpAny_bind (wpAny_rule ?_); refine wpAny_bind (wpAny_field hz rfl (x:=.ref q) rfl ?_)
 refine wpAny_bind (wpAny_setField_rec hz (by simp) fun h1 z1 b1=>?_); replace z1:IsZip h1 z p q .ellipsis:=z1
 refine wpAny_bind ?_; simp only[List.zipIdx_cons,List.zipIdx_nil,List.forIn_cons,List.forIn_nil]; refine wpAny_bind (wpAny_bind (wpAny_onRaise ?_))
 show wpAny _ _ (Builtin.SmallTypes.nextOf (.ref i1) >>= _) _ _ _; refine wpAny_bind (nY (cV j1 b1 D.az) (iR t1 b1 D.xz) hx fun h2 u1 b2=>wpAny_pure ?_)
 have q2:IsPair h2 q a b:=(b2.2 _ D.qa).trans ((b1.2 _ D.qz).trans hq); refine wpAny_bind (wpAny_seqItems q2 rfl ?_); refine wpAny_bind (wpAny_updateSeq_pair q2 fun h3 q3 b3=>?_)
 replace q3:IsPair h3 q x b:=q3; refine wpAny_bind (wpAny_letGo (wpAny_pure ?_)); refine wpAny_bind (wpAny_bind (wpAny_onRaise ?_))
 show wpAny _ _ (Builtin.SmallTypes.nextOf (.ref i2) >>= _) _ _ _
 refine wpAny_bind (nY (cV (cV (cV j2 b1 D.bz) b2 D.ab.symm) b3 D.qb.symm) (iR (iR (iR t2 b1 D.yz) b2 D.ya) b3 D.yq) hy fun h4 u2 b4=>wpAny_pure ?_)
 have q4:IsPair h4 q x b:=(b4.2 _ D.qb).trans q3; refine wpAny_bind (wpAny_seqItems q4 rfl ?_); refine wpAny_bind (wpAny_updateSeq_pair q4 fun h5 q5 b5=>?_)
 replace q5:IsPair h5 q x y:=q5; refine wpAny_bind (wpAny_letGo (wpAny_pure (wpAny_pure ?_))); refine wpAny_bind (wpAny_seqItems q5 rfl ?_); refine wpAny_bind (wpAny_newTuple ?_)
 have sz:h5.objs.size=s.heap.objs.size:=by rw[b5.1,b4.1,b3.1,b2.1,b1.1]
 have z5:IsZip h5 z p q .ellipsis:=(b5.2 _ D.qz.symm).trans ((b4.2 _ D.bz.symm).trans ((b3.2 _ D.qz.symm).trans ((b2.2 _ D.az.symm).trans z1)))
 have kp:∀ c o,c≠z->c≠q->c≠i1->c≠i2->s.heap.get? c=some o->h5.get? c=some o:=fun c o c1 c2 c3 c4 e=>(b5.2 c c2).trans ((b4.2 c c4).trans ((b3.2 c c2).trans ((b2.2 c c3).trans ((b1.2 c c1).trans e))))
 have u15:h5.IsTupleIter i1 l1 (k+1):=cV (cV (cV u1 b3 D.qa.symm) b4 D.ab) b5 D.qa.symm
 have u25:h5.IsTupleIter i2 l2 (k+1):=cV u2 b5 D.qb.symm
 have zl:z < h5.objs.size:=Heap.lt_size z5
 show wpAny _ _ (Builtin.SmallTypes.ownedTupleHandOut (.ref z) (.ref h5.objs.size) >>= _) _ _ _; refine wpAny_bind ?_; unfold Builtin.SmallTypes.ownedTupleHandOut
 have z6:IsZip (h5.push { cls:=.type "tuple",data:=.seq #[x,y] }) z p q .ellipsis:=Heap.get?_push_of_some _ z5
 refine wpAny_bind (wpAny_setField_rec z6 (by simp) fun h7 z7 b7=>?_); replace z7:IsZip h7 z p q (rawInt h5.objs.size):=z7
 refine wpAny_setField_rec z7 (by simp) fun h8 z8 b8=>?_; replace z8:IsZip h8 z p q (rawInt h5.objs.size):=z8
 have up:∀ c o,c≠z->h5.get? c=some o->h8.get? c=some o:=fun c o c1 e=>(b8.2 c c1).trans ((b7.2 c c1).trans (Heap.get?_push_of_some _ e))
 have t8:IsPair h8 h5.objs.size x y:=(b8.2 _ (Nat.ne_of_gt zl)).trans ((b7.2 _ (Nat.ne_of_gt zl)).trans (Heap.get?_push_size _ rfl))
 have s8:h8.objs.size=h5.objs.size+1:=by rw[b8.1,b7.1,Heap.size_push]
 rw[sz] at z8 t8 s8; refine wpAny_pure ⟨_,rfl,?_⟩
 show wpAny _ _ _ _ _ _
 rw[sz]
 exact wpAny_pure (hQ h8 z8 (up _ _ D.qz q5) (by obtain⟨o,e,r⟩:=u15; exact⟨o,up _ o D.az e,r⟩) (by obtain⟨o,e,r⟩:=u25; exact⟨o,up _ o D.bz e,r⟩) t8 s8 fun c o c1 c2 c3 c4 e=>up c o c1 (kp c o c1 c2 c3 c4 e))
theorem Jk {z p q i1 i2 l1 l2:Addr} {k:Nat} {xs ys:Array Value} {a b:Value} {Q:Fin->Shared->Prop} (hh:A.handled=none) (D:Zap z p q i1 i2 l1 l2)
  (hz:IsZip s.heap z p q .none) (hp:IsPair s.heap p (.ref i1) (.ref i2)) (hq:IsPair s.heap q a b) (j1:s.heap.IsTupleIter i1 l1 k) (j2:s.heap.IsTupleIter i2 l2 k) (t1:s.heap.IsTuple l1 xs) (t2:s.heap.IsTuple l2 ys)
  (hend:xs[k]? = none∨ys[k]? = none) (hE:∀ h' e,(∀ c o,c≠z->c≠q->c≠i1->c≠i2->s.heap.get? c=some o->h'.get? c=some o)->(∃ o,h'.get? e=some o/\o.cls = .type "StopIteration")->E (.ref e) { s with heap:=h' }) :
  wpAny (model prog w) A (Builtin.«zip.__next__» ⟨[.ref z],[]⟩) Q E s:=by
 show wpAny _ _ (field (.ref z) 2 >>= _) _ _ _; refine wpAny_bind (wpAny_field hz rfl (x:=.bool false) rfl ?_)
 show wpAny _ _ (field (.ref z) 3 >>= _) _ _ _; refine wpAny_bind (wpAny_field hz rfl (x:=.ref p) rfl ?_); refine wpAny_bind (wpAny_seqItems hp rfl ?_)
 show wpAny _ _ (Builtin.SmallTypes.ownedTupleIsFree (.ref z) >>= _) _ _ _; refine wpAny_bind ?_; unfold Builtin.SmallTypes.ownedTupleIsFree
 refine wpAny_bind (wpAny_field hz rfl (x:=.none) rfl (wpAny_pure ?_)); simp only[if_true]; refine wpAny_bind (wpAny_rule ?_); refine wpAny_bind (wpAny_field hz rfl (x:=.ref q) rfl ?_)
 refine wpAny_bind (wpAny_setField_rec hz (by simp) fun h1 z1 b1=>?_); replace z1:IsZip h1 z p q .ellipsis:=z1
 refine wpAny_bind ?_; simp only[List.zipIdx_cons,List.zipIdx_nil,List.forIn_cons,List.forIn_nil]; refine wpAny_bind (wpAny_bind (wpAny_onRaise ?_))
 show wpAny _ _ (Builtin.SmallTypes.nextOf (.ref i1) >>= _) _ _ _
 cases hx:xs[k]? with
 | none =>
  refine wpAny_bind (CG hh (cV j1 b1 D.az) (iR t1 b1 D.xz) hx fun h2 e b2 he=>?_)
  obtain⟨oe,ho,hc⟩:=he
  have z2:IsZip h2 z p q .ellipsis:=b2 _ _ D.az.symm z1
  have ez:e≠z:=fun u=>by subst u; rw[z2] at ho; cases ho; simp at hc
  exact wpAny_setField_rec z2 (by simp) fun h3 _ b3=>hE h3 e (fun c o c1 _ c3 _ u=>(b3.2 c c1).trans (b2 _ _ c3 ((b1.2 c c1).trans u))) ⟨oe,(b3.2 e ez).trans ho,hc⟩
 | some x =>
  have hy:ys[k]? = none:=hend.elim (fun u=>by rw[hx] at u; cases u) id
  refine wpAny_bind (nY (cV j1 b1 D.az) (iR t1 b1 D.xz) hx fun h2 u1 b2=>wpAny_pure ?_)
  have q2:IsPair h2 q a b:=(b2.2 _ D.qa).trans ((b1.2 _ D.qz).trans hq); refine wpAny_bind (wpAny_seqItems q2 rfl ?_); refine wpAny_bind (wpAny_updateSeq_pair q2 fun h3 q3 b3=>?_)
  refine wpAny_bind (wpAny_letGo (wpAny_pure ?_)); refine wpAny_bind (wpAny_bind (wpAny_onRaise ?_)); show wpAny _ _ (Builtin.SmallTypes.nextOf (.ref i2) >>= _) _ _ _
  refine wpAny_bind (CG hh (cV (cV (cV j2 b1 D.bz) b2 D.ab.symm) b3 D.qb.symm) (iR (iR (iR t2 b1 D.yz) b2 D.ya) b3 D.yq) hy fun h4 e b4 he=>?_)
  obtain⟨oe,ho,hc⟩:=he
  have z4:IsZip h4 z p q .ellipsis:=b4 _ _ D.bz.symm ((b3.2 _ D.qz.symm).trans ((b2.2 _ D.az.symm).trans z1))
  have ez:e≠z:=fun u=>by subst u; rw[z4] at ho; cases ho; simp at hc
  exact wpAny_setField_rec z4 (by simp) fun h5 _ b5=>hE h5 e (fun c o c1 c2 c3 c4 u=>(b5.2 c c1).trans (b4 _ _ c4 ((b3.2 c c2).trans ((b2.2 c c3).trans ((b1.2 c c1).trans u))))) ⟨oe,(b5.2 e ez).trans ho,hc⟩
theorem Lr {z p q i1 i2 l1 l2:Addr} {k:Nat} {xs ys:Array Value} {a b:Value} {Q:Option Value->Shared->Prop} (hh:A.handled=none) (D:Zap z p q i1 i2 l1 l2)
  (hz:IsZip s.heap z p q .none) (hp:IsPair s.heap p (.ref i1) (.ref i2)) (hq:IsPair s.heap q a b) (j1:s.heap.IsTupleIter i1 l1 k) (j2:s.heap.IsTupleIter i2 l2 k) (t1:s.heap.IsTuple l1 xs) (t2:s.heap.IsTuple l2 ys)
  (hend:xs[k]? = none∨ys[k]? = none) (hQ:∀ h',(∀ c o,c≠z->c≠q->c≠i1->c≠i2->s.heap.get? c=some o->h'.get? c=some o)->Q none { s with heap:=h' }):wpAny (model prog w) A (pyNext (.ref z)) Q E s:=by
 have hT:s.TypeIs (.ref z) "zip":=⟨_,hz,rfl⟩; unfold pyNext
 refine wpAny_bind (wpAny_attempt (wpAny_callSpecial?_slot (name:=Str.ofString "__next__") hT F.slot_zip_next (wpAny_call_entry F.slot_zip_next hT F.entry_zip_next (Jk hh D hz hp hq j1 j2 t1 t2 hend fun h' e kp he=>?_) (F.args_zip_next_1 _))))
 obtain⟨o,ho,hc⟩:=he
 exact wpAny_bind (wpAny_isInstance (T:="StopIteration") (b:=true) ⟨o,ho,hc⟩ isSubtype_stop (wpAny_pure (hQ _ kp)))
noncomputable abbrev zA (h:Heap) (t:Addr):Heap:=h.push { cls:=.type "tuple_iterator",data:=.fields #[.ref t,.int 0 0] }
noncomputable abbrev zC (h:Heap) (t u:Addr):Heap:=(zA (zA h t) u).push { cls:=.type "tuple",data:=.seq #[.ref h.objs.size,.ref (zA h t).objs.size] }
noncomputable abbrev zD (h:Heap) (t u:Addr):Heap:=(zC h t u).push { cls:=.type "tuple",data:=.seq #[.none,.none] }
noncomputable abbrev zE (h:Heap) (t u:Addr):Heap:=(zD h t u).push { cls:=.type "zip",data:=.fields #[.none,.bool false,.bool false,.ref (zA (zA h t) u).objs.size,.ref (zC h t u).objs.size] }
theorem K3 (l1 l2:Addr) (xs ys:Array Value) :
  Meets (Builtin.«zip.__new__» ⟨[.type "zip",.ref l1,.ref l2],[]⟩) (fun _ R s=>s.heap.IsTuple l1 xs/\s.heap.IsTuple l2 ys/\R (.ok (.ret (.ref (zD s.heap l1 l2).objs.size))) { s with heap:=zE s.heap l1 l2 }) :=
 .of_wp fun prog w A R s h=>by
  obtain⟨hp,g,d,tk,os⟩:=s; obtain⟨a1,a2,h⟩:=h; have hsub:=sub_zip
  have T1:Heap.IsTuple (Shared.heap ⟨hp,g,d,tk,os⟩) l1 xs:=a1
  have T2:Heap.IsTuple (Shared.heap ⟨hp.push { cls:=.type "tuple_iterator",data:=.fields #[.ref l1,.int 0 0] },g,d,tk,os⟩) l2 ys:=by
   obtain⟨o,e,r⟩:=a2
   exact⟨o,Heap.get?_push_of_some _ e,r⟩
  wp_walk using wpAny_pyIter_tuple T1,wpAny_pyIter_tuple T2
  exact⟨_,rfl,h⟩
theorem Kh {l1 l2:Addr} {xs ys:Array Value} {Q:Value->Shared->Prop} (t1:s.heap.IsTuple l1 xs) (t2:s.heap.IsTuple l2 ys)
  (h:∀ h',IsZip h' (s.heap.objs.size+4) (s.heap.objs.size+2) (s.heap.objs.size+3) .none->IsPair h' (s.heap.objs.size+2) (.ref s.heap.objs.size) (.ref (s.heap.objs.size+1))->IsPair h' (s.heap.objs.size+3) .none .none →
   h'.IsTupleIter s.heap.objs.size l1 0->h'.IsTupleIter (s.heap.objs.size+1) l2 0->(∀ c o,s.heap.get? c=some o->h'.get? c=some o)->Q (.ref (s.heap.objs.size+4)) { s with heap:=h' }) :
  wpAny (model prog w) A (call (.type "zip") [.ref l1,.ref l2]) Q E s:=by
 refine callType_new F.called_zip (by decide) (F.typeCall_zip_2 _ _) (F.newCall_zip_2 _ _) (fun obj=>F.args_object_init_3 obj _ _) F.entry_zip_new (K3 l1 l2 xs ys) ⟨t1,t2,?_⟩
 have y1:(zA s.heap l1).objs.size=s.heap.objs.size+1:=Heap.size_push ..
 have y2:(zA (zA s.heap l1) l2).objs.size=s.heap.objs.size+2:=by rw[Heap.size_push,y1]
 have y3:(zC s.heap l1 l2).objs.size=s.heap.objs.size+3:=by rw[Heap.size_push,y2]
 have y4:(zD s.heap l1 l2).objs.size=s.heap.objs.size+4:=by rw[Heap.size_push,y3]
 have w5:(zE s.heap l1 l2).get? (zD s.heap l1 l2).objs.size=some _:=Heap.get?_push_size _ rfl
 have w4:(zE s.heap l1 l2).get? (zC s.heap l1 l2).objs.size=some _:=Heap.get?_push_of_some _ (Heap.get?_push_size _ rfl)
 have w3:(zE s.heap l1 l2).get? (zA (zA s.heap l1) l2).objs.size=some _:=Heap.get?_push_of_some _ (Heap.get?_push_of_some _ (Heap.get?_push_size _ rfl))
 have w2:(zE s.heap l1 l2).get? (zA s.heap l1).objs.size=some _:=Heap.get?_push_of_some _ (Heap.get?_push_of_some _ (Heap.get?_push_of_some _ (Heap.get?_push_size _ rfl)))
 have w1:(zE s.heap l1 l2).get? s.heap.objs.size=some _:=Heap.get?_push_of_some _ (Heap.get?_push_of_some _ (Heap.get?_push_of_some _ (Heap.get?_push_of_some _ (Heap.get?_push_size _ rfl))))
 show _/\_
 rw[y2,y3,y4] at w5; rw[y1,y2] at w3; rw[y3] at w4; rw[y1] at w2; rw[y4]
 exact⟨⟨_,w5,rfl⟩,h _ w5 w3 w4 ⟨_,w1,rfl,rfl⟩ ⟨_,w2,rfl,rfl⟩ fun c o u=>Heap.get?_push_of_some _ (Heap.get?_push_of_some _ (Heap.get?_push_of_some _ (Heap.get?_push_of_some _ (Heap.get?_push_of_some _ u))))⟩
end
theorem Inv.jV {X:Cx} {pins:List (Addr × Obj)} {σ:St} {H:Hp} {s:Shared} {h':Heap} {t':Nat} {ch:List Addr} (I:Inv X pins σ H s) (k:∀ b o,b ∉ ch->s.heap.get? b=some o->h'.get? b=some o) (hf:∀ b∈ch,sH X pins H b) :
  Inv X pins σ H { s with heap:=h',toks:=t' }:=by
 have nit:∀ b u,H b=some u->b ∉ ch:=fun b u e z=>by
  have:=(hf b z).1
  rw[this] at e; cases e
 refine I.step (g':=s.gens) (d':=s.drawn) (ch:=ch) (fun b hb=>let ⟨_,f1,_,f3,f4,f5⟩:=hf b hb; ⟨f3,f1,f4,f5⟩) (fun b o _ _ hc e _=>k b o hc e) (fun b o _ _ hc e _=>⟨o.slots,k b o hc e⟩) (fun _ _ _ _ n=>n)
  (fun b o hc e=>⟨o,k b o hc e⟩) (fun _ _ e=>e) (fun _ _ _ e=>e) (fun b ps e=>⟨#[],by rw[e]; simp⟩) (fun m hm=>?_) (fun b u e=>?_) I.bare
 ·obtain⟨o,es,ep,ho,r⟩:=hm
  exact⟨o,es,ep,k _ o (fun z=>(hf _ z).2.1 rfl) ho,r⟩
 ·refine (I.hok b u e).stay (fun c v hc q=>k c v ?_ q) (fun _ q=>q) fun _ _ q=>q
  rcases hc with z | z
  ·rw[z]; exact nit b u e
  ·exact nit c _ z
noncomputable def Itz (K : W.Frag) (a b : Addr) : It :=
  ⟨fun i H => ∃ xs ys x y, SqT K H a xs ∧ SqT K H b ys ∧ xs[i]? = some x ∧ ys[i]? = some y,
   fun i H v H' => ∃ p x y, H p = none ∧ v = .ref p ∧ (∀ xs, SqT K H a xs → xs[i]? = some x) ∧ (∀ ys, SqT K H b ys → ys[i]? = some y) ∧ H' = upd H p (.tup [x, y]),
   fun i H => ∃ xs ys, SqT K H a xs ∧ SqT K H b ys ∧ (xs.length ≤ i ∨ ys.length ≤ i)⟩
noncomputable def tnZ (z p q i1 i2 a b:Addr) (i:Nat) (h:Heap):Prop:=IsZip h z p q .none/\IsPair h p (.ref i1) (.ref i2)/\(∃ u v,IsPair h q u v)/\h.IsTupleIter i1 a i/\h.IsTupleIter i2 b i
theorem FN {P:Program} {w:World} {K:W.Frag} {elts:List Expr} {x1} {pos:Pos} {z p q i1 i2 a b:Addr} (D:Zap z p q i1 i2 a b) :
  Turn P w K (.Tuple elts x1 pos) (Itz K a b) [z,p,q,i1,i2] z (tnZ z p q i1 i2 a b) where
 mem:=by simp
 obj:=fun i h st c hc=>by
  obtain⟨hz,hp,⟨u,v,hq⟩,⟨o1,e1,_,d1⟩,⟨o2,e2,_,d2⟩⟩:=st
  simp only[List.mem_cons,List.not_mem_nil,or_false] at hc
  rcases hc with rfl | rfl | rfl | rfl | rfl
  ·exact⟨_,hz,fun v z=>by cases z⟩
  ·exact⟨_,hp,fun v z=>by cases z⟩
  ·exact⟨_,hq,fun v z=>by cases z⟩
  ·exact⟨_,e1,fun v z=>by rw[d1] at z; cases z⟩
  ·exact⟨_,e2,fun v z=>by rw[d2] at z; cases z⟩
 keep:=fun i h h' st k=>by
  obtain⟨hz,hp,⟨u,v,hq⟩,⟨o1,e1,r1⟩,⟨o2,e2,r2⟩⟩:=st
  exact⟨k z (by simp) _ hz,k p (by simp) _ hp,⟨u,v,k q (by simp) _ hq⟩,⟨o1,k i1 (by simp) _ e1,r1⟩,⟨o2,k i2 (by simp) _ e2,r2⟩⟩
 item:=by
  intro X hP hw hK hc i pins s σ H E I hf st hg
  subst hP hw hK
  obtain⟨xs,ys,x,y,hx,hy,ex,ey⟩:=hg
  obtain⟨hz,hp,⟨u,v,hq⟩,j1,j2⟩:=st
  obtain⟨its,rv,tp,_⟩:=I.tuple hx
  obtain⟨its2,rv2,tp2,_⟩:=I.tuple hy
  obtain⟨xu,hxu,rx⟩:=rv.get ex
  obtain⟨yu,hyu,ry⟩:=rv2.get ey
  refine J9 D hz hp hq j1 j2 (show s.heap.IsTuple a its.toArray from tp) (show s.heap.IsTuple b its2.toArray from tp2) (x:=xu) (y:=yu) (by simpa using hxu) (by simpa using hyu) fun h' z' q' u1 u2 t' _ kp=>⟨_,rfl,?_⟩
  refine wpAny_letOwnedTupleGo_zip z' fun h2 z2 b2=>?_
  have lt:∀ {c o},s.heap.get? c=some o->c < s.heap.objs.size:=fun e=>Heap.lt_size e
  have zne:s.heap.objs.size≠z:=Nat.ne_of_gt (lt hz)
  have hfr:H s.heap.objs.size=none:=I.fresh
  have I1:Inv X pins σ (upd H s.heap.objs.size (.tup [x,y])) { s with heap:=s.heap.push { cls:=.type "tuple",data:=.seq #[xu,yu] } } :=
   I.laid (t':=s.toks) (fun _ _ e=>Heap.get?_push_of_some _ e) (Nat.le_refl _) ⟨by show 2<=sizeLine; decide,[xu,yu],.cons rx (.cons ry .nil),⟨_,Heap.get?_push_size _ rfl,rfl,_,rfl⟩⟩
  have blt:∀ c∈[z,p,q,i1,i2],c < s.heap.objs.size:=fun c hc=>by
   obtain⟨_,e1,_⟩:=j1
   obtain⟨_,e2,_⟩:=j2
   simp only[List.mem_cons,List.not_mem_nil,or_false] at hc
   rcases hc with rfl | rfl | rfl | rfl | rfl
   ·exact lt hz
   ·exact lt hp
   ·exact lt hq
   ·exact lt e1
   ·exact lt e2
  have ff:∀ c∈[z,p,q,i1,i2],sH X pins (upd H s.heap.objs.size (.tup [x,y])) c:=fun c hc=>by
   obtain⟨f0,fr⟩:=hf c hc
   exact⟨by rw[aR (Nat.ne_of_lt (blt c hc))]; exact f0,fr⟩
  have kk:∀ c o,c ∉ [z,q,i1,i2]->(s.heap.push { cls:=.type "tuple",data:=.seq #[xu,yu] }).get? c=some o->h2.get? c=some o:=fun c o hc e=>by
   have c1:c≠z:=fun h=>hc (by simp [h])
   refine (b2.2 c c1).trans ?_
   rcases Heap.get?_push_cases e with⟨ec,eo⟩ | e'
   ·subst ec
    subst eo
    exact t'
   ·exact kp c o c1 (fun h=>hc (by simp [h])) (fun h=>hc (by simp [h])) (fun h=>hc (by simp [h])) e'
  have I2:Inv X pins σ (upd H s.heap.objs.size (.tup [x,y])) { s with heap:=h2 } :=
   Inv.jV (s:={ s with heap:=s.heap.push { cls:=.type "tuple",data:=.seq #[xu,yu] } }) (h':=h2) (t':=s.toks) (ch:=[z,q,i1,i2]) I1 kk fun c hc=>ff c (by
    simp only[List.mem_cons] at hc ⊢
    rcases hc with h | h | h | h
    ·exact .inl h
    ·exact .inr (.inr (.inl h))
    ·exact .inr (.inr (.inr (.inl h)))
    ·exact .inr (.inr (.inr (.inr h))))
  refine⟨.ref s.heap.objs.size,_,I2,rfl,⟨_,x,y,hfr,rfl,fun zs hzs=>?_,fun zs hzs=>?_,rfl⟩,⟨z2,(b2.2 _ D.pz).trans (kp _ _ D.pz D.pq D.pa D.pb hp),⟨_,_,(b2.2 _ D.qz).trans q'⟩,cV u1 b2 D.az,cV u2 b2 D.bz⟩,fun c hc=>(ff c hc).1⟩
  ·rw[I.iW hzs hx]; exact ex
  ·rw[I.iW hzs hy]; exact ey
 done:=by
  intro X hP hw hK hc i pins s σ H E I hf st hg
  subst hP hw hK
  obtain⟨xs,ys,hx,hy,hend⟩:=hg
  obtain⟨hz,hp,⟨u,v,hq⟩,j1,j2⟩:=st
  obtain⟨its,rv,tp,_⟩:=I.tuple hx
  obtain⟨its2,rv2,tp2,_⟩:=I.tuple hy
  have l1:=rv.length
  have l2:=rv2.length
  refine Lr (I.ok.hd hc) D hz hp hq j1 j2 (show s.heap.IsTuple a its.toArray from tp) (show s.heap.IsTuple b its2.toArray from tp2) (hend.imp (fun h=>by simp; lia) fun h=>by simp; lia) fun h' kp=>⟨rfl,?_⟩
  exact I.jV (t':=s.toks) (ch:=[z,q,i1,i2]) (fun c o hc e=>kp c o (fun h=>hc (by simp [h])) (fun h=>hc (by simp [h])) (fun h=>hc (by simp [h])) (fun h=>hc (by simp [h])) e)
   fun c hc=>hf c (by simp only[List.mem_cons] at hc ⊢; rcases hc with h | h | h | h; exact .inl h; exact .inr (.inr (.inl h)); exact .inr (.inr (.inr (.inl h))); exact .inr (.inr (.inr (.inr h))))
 self:=fun _ _ _ _ _ st h=>wpAny_pyIter_zip st.1 h
theorem Dd {n c d:Nat} (hc:c < n) (hd:d < n):Zap (n+4) (n+2) (n+3) n (n+1) c d:=by
 constructor <;> (refine (fun (h:¬ @Eq Nat _ _)=>h) ?_) <;> lia
noncomputable def Pu (K:W.Frag) (ta:TA):TI:=fun σ H R=>ta σ H fun vs H1=>∃ a b xs ys,vs=[.ref a,.ref b]/\SqT K H1 a xs/\SqT K H1 b ys/\R (Itz K a b) H1
theorem CP {X:Cx} {elts:List Expr} {x1} {tpos:Pos} {a b:Expr} {ta:TA} {p pos:Pos} (hg:Gl X "zip") (hm:X.mg "zip" = none) (ha:PA X [a,b] ta) (hs : autoParam (starEach [a,b] X.env=[(false,eval a X.env),(false,eval b X.env)]) L2.az5._auto_1) (hs2 : autoParam (starEach [b] X.env=[(false,eval b X.env)]) L2.az5._auto_1) :
  PI X (.Tuple elts x1 tpos) (.Call (.Name "zip" p) [a,b] [] pos) (Pu X.K ta):=by
 intro pins s σ H R I h
 refine Call_ (iC I hg hm boot_zip (PyProof.Rows.callWith_type1 (thn (ha pos pins s σ H _ I h) fun us s1 ⟨vs,H1,I1,r1,q1⟩=>?_) (by rw[hs,hs2]) (by rw[hs2]; rfl)))
 obtain⟨c,d,xs,ys,e,hx,hy,q⟩:=q1
 subst e
 obtain⟨u1,u2,rfl,ru1,ru2⟩:=vals2 r1
 cases ru1
 cases ru2
 obtain⟨its,_,tp,_⟩:=I1.tuple hx
 obtain⟨its2,_,tp2,_⟩:=I1.tuple hy
 refine Kh (show s1.heap.IsTuple c its.toArray from tp) (show s1.heap.IsTuple d its2.toArray from tp2) fun h' z' p' q' j1 j2 kp=>?_
 have lc:c < s1.heap.objs.size:=by obtain⟨o,e,_⟩:=tp; exact Heap.lt_size e
 have ld:d < s1.heap.objs.size:=by obtain⟨o,e,_⟩:=tp2; exact Heap.lt_size e
 have D:Zap (s1.heap.objs.size+4) (s1.heap.objs.size+2) (s1.heap.objs.size+3) s1.heap.objs.size (s1.heap.objs.size+1) c d:=Dd lc ld
 refine wpAny_pyIter_zip z' ⟨_,_,_,_,H1,rfl,I1.kept (t':=s1.toks) kp,FN D,⟨z',p',⟨_,_,q'⟩,j1,j2⟩,fun e he=>?_,q⟩
 have hle:s1.heap.objs.size<=e:=by
  simp only[List.mem_cons,List.not_mem_nil,or_false] at he
  rcases he with rfl | rfl | rfl | rfl | rfl <;> lia
 exact I1.DR hle (I1.hok.fresh hle)
theorem Jy {K:W.Frag} {a b:Addr} {xs ys:List V} {g:TG} {tb:TS} {D:Ends} {σ:St} {H:Hp} (hlen:xs.length=ys.length) (Pv:Nat->St->Hp->Prop) (h0:Pv 0 σ H) (hl:∀ i σ H,i<=xs.length->Pv i σ H->SqT K H a xs/\SqT K H b ys)
  (hs:∀ i x y p σ H,xs[i]? = some x->ys[i]? = some y->H p=none->Pv i σ H->g (.ref p) σ (upd H p (.tup [x,y])) fun σ2 H2=>tb { D with nx:=Pv (i+1),ct:=Pv (i+1),bk:=D.nx } σ2 H2) (hd:∀ σ H,Pv xs.length σ H->D.nx σ H) :
  ∃ W:Nat->Nat->St->Hp->Prop,(∃ m,W 0 m σ H)/\∀ i m σ H,W i m σ H →
   ((Itz K a b).stop i H/\D.nx σ H)∨((Itz K a b).go i H/\∃ N:St->Hp->Prop,(∀ σ' H',N σ' H'->∃ m',m' < m/\W (i+1) m' σ' H')/\∀ x H',(Itz K a b).yld i H x H'->g x σ H' fun σ2 H2=>tb { D with nx:=N,ct:=N,bk:=D.nx } σ2 H2):=by
 refine⟨fun i m σ H=>m=xs.length - i/\i<=xs.length/\Pv i σ H,⟨xs.length,by simp,Nat.zero_le _,h0⟩,?_⟩
 rintro i m σ H ⟨rfl,hi,p⟩
 obtain⟨q1,q2⟩:=hl i σ H hi p
 by_cases hlt:i < xs.length
 ·have hlt2:i < ys.length:=by lia
  refine .inr ⟨⟨xs,ys,xs[i],ys[i],q1,q2,by simp [hlt],by simp [hlt2]⟩,Pv (i+1),fun σ' H' p'=>⟨xs.length - (i+1),by lia,rfl,hlt,p'⟩,fun v H' y=>?_⟩
  obtain⟨pp,x,y,hp,rfl,hx,hy,rfl⟩:=y
  exact hs i x y pp σ _ (hx xs q1) (hy ys q2) hp p
 ·have e:i=xs.length:=by lia
  subst e
  exact .inl ⟨⟨xs,ys,q1,q2,.inl (Nat.le_refl _)⟩,hd σ H p⟩
theorem yl {K:W.Frag} {a b D:Addr} {xs ys:List V} {g:TG} {tt:TT} {te:TE} {H1:Hp} {Q:Hp->Prop} {σ0:St} (hlen:xs.length=ys.length) (Pv:Nat->List V->St->Hp->Prop) (h0:Pv 0 [] σ0 (upd H1 D (.lst [])))
  (hl:∀ i zs σ H,i<=xs.length->Pv i zs σ H->SqT K H a xs/\SqT K H b ys/\H D=some (.lst zs))
  (hs:∀ i zs x y p σ H,xs[i]? = some x->ys[i]? = some y->H p=none->Pv i zs σ H->g (.ref p) σ (upd H p (.tup [x,y])) fun σ3 H3=>tt σ3 H3 fun c H4=>if c=true then te σ3 H4 fun v H5=>H5 D=some (.lst zs)/\zs.length < sizeLine/\Pv (i+1) (zs++[v]) σ3 (upd H5 D (.lst (zs++[v]))) else Pv (i+1) zs σ3 H4)
  (hd:∀ zs σ H,Pv xs.length zs σ H->Q H):eO D σ0 (Itz K a b) g tt te H1 Q:=by
 refine⟨fun i m zs σ H=>m=xs.length - i/\i<=xs.length/\Pv i zs σ H,⟨xs.length,by simp,Nat.zero_le _,h0⟩,?_⟩
 rintro i m zs σ H ⟨rfl,hi,p⟩
 obtain⟨q1,q2,qD⟩:=hl i zs σ H hi p
 refine⟨qD,?_⟩
 by_cases hlt:i < xs.length
 ·have hlt2:i < ys.length:=by lia
  refine .inr ⟨⟨xs,ys,xs[i],ys[i],q1,q2,by simp [hlt],by simp [hlt2]⟩,Pv (i+1),fun zs' σ' H' p'=>⟨xs.length - (i+1),by lia,rfl,hlt,p'⟩,fun v H' y=>?_⟩
  obtain⟨pp,x,y,hp,rfl,hx,hy,rfl⟩:=y
  exact hs i zs x y pp σ _ (hx xs q1) (hy ys q2) hp p
 ·have e:i=xs.length:=by lia
  subst e
  exact .inl ⟨⟨xs,ys,q1,q2,.inl (Nat.le_refl _)⟩,hd zs σ H p⟩
end L2
namespace L2
open PySem PySem.Spec PyProof.Rows
theorem m8:∀ ns ms:List Int,((List.range (min ns.length ms.length)).all (fun j=>ns.getD j 0 == ms.getD j 0) && ns.length == ms.length)=decide (ns=ms)
 | [],[]=>rfl
 | [],m::ms=>by rw[decide_eq_false (by simp)]; rfl
 | n::ns,[]=>by rw[decide_eq_false (by simp)]; rfl
 | n::ns,m::ms=>by
  have ih:=m8 ns ms
  have e:min (n::ns).length (m::ms).length=min ns.length ms.length+1:=by rw[List.length_cons,List.length_cons]; lia
  have el:((n::ns).length == (m::ms).length)=(ns.length == ms.length):=by simp
  have e3:decide (n::ns=m::ms)=(n == m && decide (ns=ms)):=by
   by_cases h1:n=m
   ·subst h1
    by_cases h2:ns=ms
    ·subst h2; simp
    ·simp [h2]
   ·simp [h1]
  rw[e,List.range_succ_eq_map,List.all_cons,List.all_map,el,e3,← ih,Bool.and_assoc]
  rfl
theorem fZ {X:Cx} {pos:Pos} {K:W.Frag} {es:List Expr} {k:Nat} {t:TGs} (n:Nat) (hK:X.K=K) (hc:X.calm=true) (h:PGs X es t)
  (hn : autoParam ((assignEach es X.env).length=n) L2.az5._auto_1) (hst : autoParam ((assignEach es X.env).findIdx? (·.1)=none) L2.az5._auto_1):PG X (.Tuple es k pos) (O9 K n t):=by
 subst hK
 exact Lw hc h hn hst
section
variable {X:Cx}
inductive Im (K:W.Frag) (x:V) (y:V) (H:Hp) (Q:VK):Prop where
 | mk (a b:Addr) (ns ms:List Int) (z0:x = .ref a) (z1:y = .ref b) (z2:SqT K H a (ns.map V.int)) (z3:SqT K H b (ms.map V.int)) (z4:Q (.bl (decide (ns=ms))) H):Im K x y H Q
noncomputable def Gs (K:W.Frag):R2:=fun x y H Q=>Im K x y H Q
theorem ints_get {ns:List Int} {its:List Value} (i:IntsAre its ns) {j:Nat} (h:j < its.length):∃ t,its[j] = .int (ns.getD j 0) t:=by
 induction i generalizing j with
 | nil=>exact absurd h (Nat.not_lt_zero _)
 | cons n t r ih =>
  cases j with
  | zero=>exact⟨t,rfl⟩
  | succ j =>
   obtain⟨u,e⟩:=ih (j:=j) (Nat.lt_of_succ_lt_succ h)
   exact⟨u,by simpa using e⟩
theorem vV (hu:X.A.units < cLine):OpR X (compareOp .Eq) (Gs X.K):=by
 intro pins s σ H x y v u Q I rx ry h
 obtain⟨a,b,ns,ms,rfl,rfl,ha,hb,q⟩:=h
 cases rx
 cases ry
 obtain⟨its,r1,p1,_⟩:=I.tuple ha
 obtain⟨its2,r2,p2,_⟩:=I.tuple hb
 have i1:IntsAre its ns:=intsAre_of r1
 have i2:IntsAre its2 ms:=intsAre_of r2
 have l1:=i1.length
 have l2:=i2.length
 refine SeqAt.eq_tupleAt (e:=fun j=>ns.getD j 0 == ms.getD j 0) (show s.heap.IsTuple a its.toArray from p1) (show s.heap.IsTuple b its2.toArray from p2) hu (fun j h1 h2=>?_) ?_
 ·obtain⟨t,e1⟩:=ints_get i1 (j:=j) (by simpa using h1)
  obtain⟨t',e2⟩:=ints_get i2 (j:=j) (by simpa using h2)
  rw[List.getElem_toArray,List.getElem_toArray,e1,e2]
  exact SeqAt.EqAt.int_int _ _ _ _
 ·refine⟨.bl _,H,I,?_,q⟩
  have e:=m8 ns ms
  have s1:its.toArray.size=ns.length:=by rw[List.size_toArray]; exact l1
  have s2:its2.toArray.size=ms.length:=by rw[List.size_toArray]; exact l2
  rw[s1,s2,e]
  rfl
inductive Cr (K:W.Frag) (x:V) (y:V) (H:Hp) (Q:VK):Prop where
 | mk (a b:Addr) (xs ys:List V) (z0:x = .ref a) (z1:y = .ref b) (z2:SqT K H a xs) (z3:SqT K H b ys) (z4:xs.length+ys.length<=sizeLine) (z5:(xs=[]->Q (.ref b) H)) (z6:(xs≠[]->ys=[]->Q (.ref a) H)) (z7:(xs≠[]->ys≠[]->∀ p,H p=none->Q (.ref p) (upd H p (.tup (xs++ys))))):Cr K x y H Q
noncomputable def Ag (K:W.Frag):R2:=fun x y H Q=>Cr K x y H Q
theorem xJ:OpR X (binaryOp .Add) (Ag X.K):=by
 intro pins s σ H x y v u Q I rx ry h
 obtain⟨a,b,xs,ys,rfl,rfl,ha,hb,hz,q0,q1,q2⟩:=h
 by_cases hx:xs=[]
 ·subst hx
  cases rx
  cases ry
  obtain⟨its,r1,p1,_⟩:=I.tuple ha
  obtain⟨its2,r2,p2,_⟩:=I.tuple hb
  cases r1
  obtain⟨⟨c1,d1,dt1,sl1⟩,ho,hc,n,hd⟩:=id p1
  obtain⟨⟨c2,d2,dt2,sl2⟩,ho2,hc2,n2,hd2⟩:=id p2
  simp only at hc hd hc2 hd2
  subst hc hd hc2 hd2
  exact concat_meets ⟨_,ho,rfl⟩ ⟨_,ho2,rfl⟩ noFill_tuple_add seq_tuple_add PySem.F.slot_tuple_add PySem.F.entry_tuple_add (PySem.F.args_tuple_add_2 _ _) (tuple_addW0 a b _ _ n n2 d1 d2 sl1 sl2 rfl) ⟨ho,ho2,⟨.ref b,H,I,rfl,q0 rfl⟩⟩
 ·exact JN pins s σ H _ _ v u Q I rx ry ⟨a,b,xs,ys,rfl,rfl,ha,hb,hx,hz,q1 hx,q2 hx⟩
end
end L2
namespace L2
open PySem PySem.Spec PyProof.Rows
theorem jo:∀ bs:List Bool,(List.range bs.length).any (fun i=>bs.getD i false)=bs.any fun b=>b
 | []=>rfl
 | b::r=>by
  have ih:=jo r
  rw[List.length_cons,List.range_succ_eq_map,List.any_cons,List.any_map,List.any_cons,← ih]
  rfl
theorem zf (l:Addr) (items:Array Value) (n:Nat) (dd:Option Addr) (sl:Array (Option Value)) (x:Int) (u:Tok) (h1:1 < x) (h2:x < 2 ^ 31) (he:items.isEmpty=false) (hz:items.size * x.toNat<=sizeLine) :
  Meets (Builtin.«tuple.__mul__» ⟨[.ref l,.int x u],[]⟩) (fun _ R s=>s.heap.get? l=some { cls:=.type "tuple",dict:=dd,data:=.seq items n,slots:=sl }/\R (.ok (.ret (Value.ref s.heap.objs.size))) { s with heap:=s.heap.push { cls:=Value.type "tuple",data:=Data.seq (List.foldl (fun x1 x2=>x1++x2) #[] (List.replicate x.toNat items)) },toks:=s.toks }) :=
 .of_wp fun prog w A R s h=>by
  obtain⟨hp,g,d,tk,os⟩:=s
  obtain⟨hl,h⟩:=h
  have f1:=AutoSeq1.idx_int
  have c1:(decide (x < -(2 ^ 63)) || decide (x ≥ 2 ^ 63))=false:=by
   rw[decide_eq_false (by lia),decide_eq_false (by lia)]
   rfl
  have c2:(items.isEmpty || x == 1)=false:=by
   rw[he,beq_false_of_ne (by lia)]
   rfl
  have c3:(decide (x<=0) || items.isEmpty)=false:=by
   rw[he,decide_eq_false (by lia)]
   rfl
  have ez:((items.size * x.toNat:Nat):Int)=(items.size:Int) * x:=by
   rw[Int.natCast_mul,Int.toNat_of_nonneg (by lia)]
  have c4:¬ (items.size:Int) * x > (2 ^ 63 - 1) / 8:=by
   have:(sizeLine:Nat)<=(2 ^ 63 - 1) / 8:=by decide
   lia
  have c5:Builtin.Tuple.tupleTooMany ((items.size:Int) * x)=false:=by
   unfold Builtin.Tuple.tupleTooMany
   rw[decide_eq_false]
   lia
  have c6:¬ (List.foldl (fun x1 x2=>x1++x2) #[] (List.replicate x.toNat items)).size > sizeLine:=by
   have e:=foldl_rep items.toList x.toNat []
   rw[List.nil_append,Array.toArray_toList] at e
   rw[e,List.size_toArray,len_rep,Array.length_toList,Nat.mul_comm]
   lia
  wp_walk using wpAny_loadPart' hl
  refine wpAny_ite_false (decide_eq_false (by rw[c1]; exact Bool.false_ne_true)) ?_
  wp_walk using wpAny_loadPart' hl
  refine wpAny_ite_false (decide_eq_false (by rw[c2]; exact Bool.false_ne_true)) ?_
  wp_walk using wpAny_loadPart' hl
  refine wpAny_ite_false (decide_eq_false (by rw[c3]; exact Bool.false_ne_true)) ?_
  wp_walk using wpAny_loadPart' hl
  refine wpAny_ite_false (decide_eq_false c4) ?_
  wp_walk using wpAny_loadPart' hl
  exact⟨_,rfl,h⟩
theorem yM (l:Addr) (items:Array Value) (n:Nat) (dd:Option Addr) (sl:Array (Option Value)) (u:Tok) :
  Meets (Builtin.«tuple.__mul__» ⟨[.ref l,.int 1 u],[]⟩) (fun _ R s=>s.heap.get? l=some { cls:=.type "tuple",dict:=dd,data:=.seq items n,slots:=sl }/\R (.ok (.ret (Value.ref l))) s) :=
 .of_wp fun prog w A R s h=>by
  obtain⟨hp,g,d,tk,os⟩:=s
  obtain⟨hl,h⟩:=h
  have f1:=AutoSeq1.idx_int
  have c2:(items.isEmpty || (1:Int) == 1)=true:=by rw[show ((1:Int) == 1)=true from rfl,Bool.or_true]
  wp_walk using wpAny_loadPart' hl
  exact⟨_,rfl,h⟩
theorem iQ:fillsNumberSlot (.type "tuple") "mul" = pure false :=
 PySem.fillsNumberSlot_seq (id:="tuple.__mul__") (r:=some (.builtin "tuple.__rmul__")) F.slot_tuple_mul.lookup (by decide+kernel) F.slot_tuple_rmul.lookup (by decide+kernel)
theorem lB:seqRepeat? (.type "tuple")=pure (some (.builtin "tuple.__mul__")):=by
 unfold seqRepeat?
 rw[PySem.seqSlot_of (T:="tuple") (name:="__mul__") (id:="tuple.__mul__") F.slot_tuple_mul.lookup (by decide+kernel),PySem.seqSlot_of (T:="tuple") (name:="__rmul__") (id:="tuple.__rmul__") F.slot_tuple_rmul.lookup (by decide+kernel)]
 rfl
theorem jk (a:Int) (t:Tok) (l:Addr) (items:Array Value) (n:Nat) (dd:Option Addr) (sl:Array (Option Value)) :
  Meets (Builtin.«int.__rmul__» ⟨[.int a t,.ref l],[]⟩) (fun _ R s=>s.heap.get? l=some { cls:=.type "tuple",dict:=dd,data:=.seq items n,slots:=sl }/\R (.ok (.ret Value.notImplemented)) s) :=
 .of_wp fun prog w A R s h=>by
  obtain⟨hp,g,d,tk,os⟩:=s
  obtain⟨hl,h⟩:=h
  wp_walk
  exact⟨_,rfl,h⟩
section
variable {X:Cx}
inductive HX (K:W.Frag) (x:V) (y:V) (H:Hp) (Q:VK):Prop where
 | mk (l:Addr) (k:Int) (xs:List V) (z0:x = .ref l) (z1:y = .int k) (z2:SqT K H l xs) (z3:xs≠[]) (z4:1<=k) (z5:k < 2 ^ 31) (z6:xs.length * k.toNat<=sizeLine) (z7:(k=1->Q (.ref l) H)) (z8:(k≠1->∀ p,H p=none->Q (.ref p) (upd H p (.tup (List.replicate k.toNat xs).flatten)))):HX K x y H Q
noncomputable def BJ (K:W.Frag):R2:=fun x y H Q=>HX K x y H Q
theorem CJ:OpR X (binaryOp .Mult) (BJ X.K):=by
 intro pins s σ H x y v u Q I rx ry h
 obtain⟨l,k,xs,rfl,rfl,hl,hx,h1,h2,hz,q1,q2⟩:=h
 cases rx
 obtain⟨t,rfl⟩:=ry
 obtain⟨its,r,p,_⟩:=I.tuple hl
 have hlen:=r.length
 obtain⟨⟨c1,d1,dt1,sl1⟩,ho,hc,n,hd⟩:=id p
 simp only at hc hd
 subst hc hd
 by_cases hk:k=1
 ·subst hk
  exact wpAny_binaryOp_repeat_ref (T:="tuple") (U:="int") (by decide) ⟨_,ho,rfl⟩ (fun s'=>typeIs_int s' 1 t) iQ F.fills_int_mul F.slot_int_rmul lB F.slot_int_index.lookup
   (call_meets F.slot_int_rmul (typeIs_int s 1 t) F.entry_int_rmul (F.args_int_rmul_2 _ _) (jk 1 t l its.toArray n d1 sl1)
    ⟨ho,rfl,⟨_,ho,rfl⟩,call_meets F.slot_tuple_mul ⟨_,ho,rfl⟩ F.entry_tuple_mul (F.args_tuple_mul_2 _ _) (yM l its.toArray n d1 sl1 t) ⟨ho,⟨.ref l,H,I,rfl,q1 rfl⟩⟩⟩)
 ·have he:its.toArray.isEmpty=false:=by
   cases its with
   | nil=>exact absurd (r.sr.mp rfl) hx
   | cons a r'=>rfl
  have hnew:List.foldl (fun x1 x2=>x1++x2) #[] (List.replicate k.toNat its.toArray)=(List.replicate k.toNat its).flatten.toArray:=by
   have:=foldl_rep its k.toNat []
   rw[List.nil_append] at this
   exact this
  have hz':its.toArray.size * k.toNat<=sizeLine:=by rw[List.size_toArray,← hlen]; exact hz
  refine wpAny_binaryOp_repeat_ref (T:="tuple") (U:="int") (by decide) ⟨_,ho,rfl⟩ (fun s'=>typeIs_int s' k t) iQ F.fills_int_mul F.slot_int_rmul lB F.slot_int_index.lookup
   (call_meets F.slot_int_rmul (typeIs_int s k t) F.entry_int_rmul (F.args_int_rmul_2 _ _) (jk k t l its.toArray n d1 sl1)
    ⟨ho,rfl,⟨_,ho,rfl⟩,call_meets F.slot_tuple_mul ⟨_,ho,rfl⟩ F.entry_tuple_mul (F.args_tuple_mul_2 _ _) (zf l its.toArray n d1 sl1 k t (by lia) h2 he hz') ⟨ho,?_⟩⟩)
  rw[hnew]
  refine⟨.ref s.heap.objs.size,_,I.laid (t':=s.toks) (o:=.tup (List.replicate k.toNat xs).flatten) (fun b ob q=>Heap.get?_push_of_some _ q) (Nat.le_refl _) ?_,rfl,q2 hk _ (I.hok.fresh (Nat.le_refl _))⟩
  exact⟨by rw[len_rep,Nat.mul_comm]; exact hz,_,r.rep k.toNat,IsTup.new _ _⟩
inductive Il (K:W.Frag) (xs:List V) (H:Hp) (Q:VK):Prop where
 | mk (p:Addr) (ns:List Int) (z0:xs=[.ref p]) (z1:SqL K H p (ns.map V.int)) (z2:Q (.int ns.sum) H):Il K xs H Q
noncomputable def Ff (K:W.Frag):List V->Hp->VK->Prop:=fun xs H Q=>Il K xs H Q
theorem mZ (hc:X.calm=true):gF X (.builtin "sum") (Ff X.K):=by
 intro pins s σ H xs us Q I r h
 obtain⟨p,ns,rfl,hq,q⟩:=h
 obtain⟨u,rfl,ru⟩:=vals1 r
 cases ru
 obtain⟨its,rv,pl,hz⟩:=I.list hq
 have hi:IntsAre its ns:=intsAre_of rv
 obtain⟨zs,hx⟩:=hi.allInts.items
 have hl':s.heap.IsList p (intItems zs):=hx▸pl.isList
 refine sum_intListG (I.ok.hd hc) hl' fun h' tk t' hk=>?_
 have e1:ns=zs.toList.map (·.1):=by
  rw[← nums_intItems,← hx]
  exact (show numsOf its.toArray.toList=ns from hi.numsOf).symm
 have e2:preSum (numAt zs) zs.size=ns.sum:=by
  rw[preSum_eq,List.take_of_length_le (by simp),e1]
 rw[e2]
 exact⟨.int _,H,I.kept (t':=tk) hk,⟨_,rfl⟩,q⟩
inductive HB (K:W.Frag) (xs:List V) (H:Hp) (Q:VK):Prop where
 | mk (p:Addr) (bs:List Bool) (z0:xs=[.ref p]) (z1:SqL K H p (bs.map V.bl)) (z2:Q (.bl (bs.any fun b=>b)) H):HB K xs H Q
noncomputable def K4 (K:W.Frag):List V->Hp->VK->Prop:=fun xs H Q=>HB K xs H Q
theorem Dn (hc:X.calm=true):gF X (.builtin "any") (K4 X.K):=by
 intro pins s σ H xs us Q I r h
 obtain⟨p,bs,rfl,hq,q⟩:=h
 obtain⟨u,rfl,ru⟩:=vals1 r
 cases ru
 obtain⟨its,rv,pl,hz⟩:=I.list hq
 have hlen:bs.length=its.length:=by simpa using rv.length
 refine call_any_walk (wpAny_pyIter_list pl.isList ?_)
 have I1:Inv X pins σ H { s with heap:=s.heap.push { cls:=.type "list_iterator",data:=.fields #[.ref p,.int 0 0] } }:=I.kept (t':=s.toks) fun b o e=>Heap.get?_push_of_some _ e
 have hne:p≠s.heap.objs.size:=by
  obtain⟨o,ho,_⟩:=pl.isList
  exact Nat.ne_of_lt (Heap.lt_size ho)
 refine⟨s.heap.objs.size,_,_,_,_,_,fun i=>bs.getD i false,rfl,Walks.list (A:=X.A.in1) (I.ok.hd hc) s.heap.objs.size p hne its.toArray,⟨⟨_,Heap.get?_push_size _ rfl,rfl,rfl⟩,?_⟩,?_,fun h' tk hk=>?_⟩
 ·obtain⟨o,ho,hr⟩:=pl.isList
  exact⟨o,Heap.get?_push_of_some _ ho,hr⟩
 ·intro i v s' Q' E' hP hQ
  have hP:its[i]? = some v:=by simpa using hP
  have hi:i < bs.length:=by
   rw[hlen]
   exact (List.getElem?_eq_some_iff.mp hP).1
  obtain⟨u',hu',ru'⟩:=rv.get (i:=i) (x:=V.bl bs[i]) (by rw[List.getElem?_map,List.getElem?_eq_getElem hi]; rfl)
  rw[hP] at hu'
  cases hu'
  cases (show v=Value.bool bs[i] from ru')
  refine wpAny_truthy_bool ?_
  have eg:bs.getD i false=bs[i]:=by rw[List.getD_eq_getElem?_getD,List.getElem?_eq_getElem hi]; rfl
  have hQ':Q' (bs.getD i false) s':=hQ
  rw[eg] at hQ'
  exact hQ'
 ·have f:=I.DR (b:=s.heap.objs.size) (H':=H) (Nat.le_refl _) I.fresh
  have eany:(List.range its.toArray.size).any (fun i=>bs.getD i false)=bs.any fun b=>b:=by
   have el:its.toArray.size=bs.length:=by rw[List.size_toArray,hlen]
   rw[el]
   exact jo bs
  rw[eany]
  exact⟨.bl _,H,I1.turned (t':=tk) (it:=s.heap.objs.size) (fun b o hb e=>hk b o (by simpa using hb) e) f.1 f.2.1 f.2.2.2.1 f.2.2.2.2.1 f.2.2.2.2.2,rfl,q⟩
end
theorem K7:bootBuiltins "any" = some (.builtin "any"):=by decide+kernel
end L2
namespace L2
open PySem PySem.Spec PyProof.Rows
noncomputable def Nf:List V->Hp->VK->Prop:=fun xs H Q=>(∃ i,xs=[.int i]/\Q (.int i) H)∨∃ k,xs=[.bl k]/\Q (.int (if k then 1 else 0)) H
end L2
namespace L2
open PySem
noncomputable def Ris (xs:Array Nat):Prop:=xs.toList.Pairwise (· < ·)
theorem yo {xs:Array Nat} (h:Ris xs) {i j x y:Nat} (hij:i < j) (hi:xs[i]? = some x) (hj:xs[j]? = some y):x < y:=by
 rw[← Array.getElem?_toList] at hi hj
 obtain⟨li,ei⟩:=List.getElem?_eq_some_iff.mp hi
 obtain⟨lj,ej⟩:=List.getElem?_eq_some_iff.mp hj
 have:=List.pairwise_iff_getElem.mp h i j li lj hij
 rw[ei,ej] at this
 exact this
theorem rn {xs:Array Nat} (h:Ris xs) (j:Nat):∀ (fuel lo hi:Nat),hi - lo<=fuel->lo<=hi->hi<=xs.size->(∀ i x,i < lo->xs[i]? = some x->x < j)->(∀ i x,hi<=i->xs[i]? = some x->j<=x) →
  SetTable.below.go xs j fuel lo hi<=xs.size/\(∀ i x,i < SetTable.below.go xs j fuel lo hi->xs[i]? = some x->x < j)/\(∀ i x,SetTable.below.go xs j fuel lo hi<=i->xs[i]? = some x->j<=x)
 | 0,lo,hi,hf,hl,hs,h1,h2=>by
  rw[SetTable.below.go]
  have e:lo=hi:=by lia
  subst e
  exact⟨hs,h1,h2⟩
 | fuel+1,lo,hi,hf,hl,hs,h1,h2=>by
  rw[SetTable.below.go]
  by_cases hlt:lo < hi
  ·rw[if_pos hlt]
   dsimp only
   have hm1:lo<=(lo+hi) / 2:=by lia
   have hm2:(lo+hi) / 2 < hi:=by lia
   have hms:(lo+hi) / 2 < xs.size:=by lia
   generalize (lo+hi) / 2=m at *
   have eg:xs[m]? = some xs[m]:=Array.getElem?_eq_getElem hms
   have ed:xs.getD m j=xs[m]:=by rw[Array.getD_eq_getD_getElem?,eg]; rfl
   rw[ed]
   by_cases hc:xs[m] < j
   ·rw[if_pos hc]
    refine rn h j fuel (m+1) hi (by lia) (by lia) hs (fun i x hi' e=>?_) h2
    by_cases hm:i=m
    ·subst hm
     rw[eg] at e
     cases e
     exact hc
    ·exact Nat.lt_trans (yo h (show i < m by lia) e eg) hc
   ·rw[if_neg hc]
    refine rn h j fuel lo m (by lia) hm1 (by lia) h1 (fun i x hi' e=>?_)
    by_cases hm:i=m
    ·subst hm
     rw[eg] at e
     cases e
     lia
    ·have:=yo h (show m < i by lia) eg e
     lia
  ·rw[if_neg hlt]
   have e:lo=hi:=by lia
   subst e
   exact⟨hs,h1,h2⟩
theorem qZ {xs:Array Nat} (h:Ris xs) (j:Nat):SetTable.below xs j<=xs.size/\(∀ i x,i < SetTable.below xs j->xs[i]? = some x->x < j)/\(∀ i x,SetTable.below xs j<=i->xs[i]? = some x->j<=x):=by
 unfold SetTable.below
 refine rn h j xs.size 0 xs.size (by lia) (Nat.zero_le _) (Nat.le_refl _) (fun i x hi=>absurd hi (Nat.not_lt_zero _)) fun i x hi e=>?_
 rw[Array.getElem?_eq_none hi] at e
 cases e
theorem below_at {xs:Array Nat} (h:Ris xs) {i x:Nat} (e:xs[i]? = some x):SetTable.below xs (x+1)=i+1:=by
 obtain⟨h1,h2,h3⟩:=qZ h (x+1)
 have hi:i < xs.size:=(Array.getElem?_eq_some_iff.mp e).1
 generalize SetTable.below xs (x+1)=p at *
 rcases Nat.lt_trichotomy p (i+1) with hp | hp | hp
 ·have:=h3 i x (by lia) e
  lia
 ·exact hp
 ·have hs:i+1 < xs.size:=by lia
  have:=yo h (Nat.lt_succ_self i) e (Array.getElem?_eq_getElem hs)
  have:=h2 (i+1) _ hp (Array.getElem?_eq_getElem hs)
  lia
theorem zm {xs:Array Nat} (h:Ris xs):SetTable.below xs 0=0:=by
 obtain⟨h1,h2,h3⟩:=qZ h 0
 generalize SetTable.below xs 0=p at *
 rcases Nat.eq_zero_or_pos p with hp | hp
 ·exact hp
 ·have hs:0 < xs.size:=by lia
  have:=h2 0 _ hp (Array.getElem?_eq_getElem hs)
  lia
theorem Kl {xs:Array Nat} (h:Ris xs) {j:Nat} (hj:xs[SetTable.below xs j]?≠some j):Ris (SetTable.insertAt xs (SetTable.below xs j) j):=by
 obtain⟨h1,h2,h3⟩:=qZ h j
 unfold Ris
 rw[SetTable.toList_insertAt]
 generalize hp:SetTable.below xs j=p at *
 have hh:xs.toList.Pairwise (· < ·):=h
 have hlt:∀ x∈xs.toList.take p,x < j:=fun x hx=>by
  obtain⟨i,hi,e⟩:=List.getElem_of_mem hx
  rw[List.length_take] at hi
  rw[List.getElem_take] at e
  exact h2 i x (by lia) (by rw[← Array.getElem?_toList,List.getElem?_eq_getElem (by lia),e])
 have hgt:∀ x∈xs.toList.drop p,j < x:=fun x hx=>by
  obtain⟨i,hi,e⟩:=List.getElem_of_mem hx
  rw[List.length_drop] at hi
  rw[List.getElem_drop] at e
  have ex:xs[p+i]? = some x:=by rw[← Array.getElem?_toList,List.getElem?_eq_getElem (by lia),e]
  have:=h3 (p+i) x (by lia) ex
  rcases Nat.lt_or_ge j x with q | q
  ·exact q
  ·have ejx:x=j:=by lia
   subst ejx
   by_cases hi0:i=0
   ·subst hi0
    exact absurd ex hj
   ·have hps:p < xs.size:=by
     have:=(Array.getElem?_eq_some_iff.mp ex).1
     lia
    have:=yo h (show p < p+i by lia) (Array.getElem?_eq_getElem hps) ex
    have:=h3 p _ (Nat.le_refl _) (Array.getElem?_eq_getElem hps)
    lia
 rw[List.pairwise_append]
 refine⟨hh.sublist (List.take_sublist _ _),List.pairwise_cons.mpr ⟨hgt,hh.sublist (List.drop_sublist _ _)⟩,fun a ha b hb=>?_⟩
 rcases List.mem_cons.mp hb with rfl | hb
 ·exact hlt a ha
 ·exact Nat.lt_trans (hlt a ha) (hgt b hb)
noncomputable def m7 (t:SetTable) (j:Nat):Prop:=t.place[SetTable.below t.place j]?≠some j
theorem pN {t:SetTable} {j:Nat} (h:t.slot j = .empty∨t.slot j = .dummy):m7 t j:=by
 intro e
 unfold SetTable.slot at h
 dsimp only at h
 rw[e,if_pos (by exact beq_self_eq_true _)] at h
 rcases h with h | h <;> cases h
theorem km {t:SetTable} {f:Nat->Int} {h:Int}:∀ (fuel:Nat) (p:SetTable.Probe) {j:Nat} {d:Option Nat},(∀ x,p.dummy=some x->m7 t x)->SetTable.probe.go t f h fuel p=some (.empty j d)->m7 t j/\∀ x,d=some x->m7 t x
 | 0,_,_,_,_,e=>by rw[SetTable.probe.go] at e; cases e
 | fuel+1,p,j,d,hd,e=>by
  rw[SetTable.probe.go] at e
  have adv:∀ q:SetTable.Probe,(t.advance q).dummy=q.dummy:=fun q=>by
   unfold SetTable.advance
   split <;> rfl
  cases hs:t.slot p.j with
  | empty =>
   rw[hs] at e
   cases e
   exact⟨pN (.inl hs),hd⟩
  | dummy =>
   rw[hs] at e
   dsimp only at e
   refine km fuel _ (fun x hx=>?_) e
   rw[adv] at hx
   cases hx
   exact pN (.inr hs)
  | live i =>
   rw[hs] at e
   dsimp only at e
   by_cases hc:(f i == h)=true
   ·rw[if_pos hc] at e
    cases e
   ·rw[if_neg hc] at e
    exact km fuel _ (fun x hx=>by rw[adv] at hx; exact hd x hx) e
theorem wM {t:SetTable} {h:Int} {j:Nat} {b:Bool} (e:t.freeSlot h=some (j,b)):m7 t j:=by
 unfold SetTable.freeSlot SetTable.probe at e
 split at e
 ·rename_i j' d hp
  obtain⟨h1,h2⟩:=km _ _ (fun x hx=>by cases hx) hp
  cases e
  cases d with
  | none=>exact h1
  | some x=>exact h2 x rfl
 ·cases e
structure TOk (b:Bool) (t:SetTable):Prop where
 led:t.led=b
 ris:t.plain=true->Ris t.place
theorem Cj (b:Bool):TOk b (.fresh 0 0 b):=⟨rfl,fun _=>List.Pairwise.nil⟩
theorem iM {b:Bool} {t:SetTable} (h:TOk b t) (n:Nat):TOk b (t.standIn n):=⟨h.led,fun z=>by cases z⟩
theorem zM {b:Bool} {t:SetTable} (h:TOk b t) (es:Array (Int × Value)) (k:Int) (x:Value):TOk b (layNew t es k x).2.1:=by
 unfold layNew
 split
 ·rename_i slot wd e
  dsimp only
  unfold SetTable.orStandIn
  have ht:TOk b (t.put slot).1:=⟨h.led,fun z=>Kl (h.ris z) (wM e)⟩
  split
  ·exact ht
  ·exact iM ht _
 ·exact iM h _
theorem Et (owner:Array (Option Nat)):∀ l:List Nat,l.Pairwise (· < ·)->((l.filterMap fun j=>(owner.getD j none).map (j,·)).map (·.1)).Pairwise (· < ·):=fun l hl=>by
 have hs:List.Sublist ((l.filterMap fun j=>(owner.getD j none).map (j,·)).map (·.1)) l:=by
  induction l with
  | nil=>exact List.Sublist.slnil
  | cons a r ih =>
   have ih:=ih (List.pairwise_cons.mp hl).2
   rw[List.filterMap_cons]
   cases e:owner.getD a none with
   | none=>exact ih.cons _
   | some k=>exact ih.cons₂ _
 exact hl.sublist hs
theorem tK {b:Bool} {t:SetTable} (h:TOk b t) (es:Array (Int × Value)) (m:Nat):TOk b (relayAll t es m).2.1:=by
 unfold relayAll
 split
 ·rename_i t' order e
  dsimp only
  split
  ·unfold SetTable.relaid SetTable.laid at e
   cases ho:SetTable.layClean (SetTable.sizeAbove m - 1) (es.map (·.1)) with
   | none=>rw[ho] at e; cases e
   | some owner =>
    rw[ho] at e
    cases e
    exact⟨h.led,fun _=>Et owner _ List.pairwise_lt_range⟩
  ·exact iM h _
 ·exact iM h _
end L2
namespace L2
open PySem PySem.Spec PyProof.Rows
section
variable {P:Program} {w:World} {A:Around} {E:Value->Shared->Prop} {s:Shared}
noncomputable def j7 (P:Program) (w:World) (b:Bool) (h:Heap) (a:Addr) (ks:List Int):Prop :=
 ∃ o es ep t,h.get? a=some o/\o.ExactSet/\o.data = .set es ep t/\ElemsOf (intKind P w) es.toList/\t.fits es.size=true/\TOk b t/\∃ ns,IntsAre (es.toList.map (·.2)) ns/\ns.Perm ks
theorem gQ {l l':List Value} (p:l.Perm l'):∀ {ns:List Int},IntsAre l ns->∃ ms,IntsAre l' ms/\ms.Perm ns:=by
 induction p with
 | nil=>intro ns h; exact⟨ns,h,.refl _⟩
 | cons x p ih =>
  intro ns h
  cases h with
  | cons n t r =>
   obtain⟨ms,h1,h2⟩:=ih r
   exact⟨n::ms,.cons n t h1,h2.cons n⟩
 | swap x y l =>
  intro ns h
  cases h with
  | cons n t r =>
   cases r with
   | cons m u r=>exact⟨m::n::_,.cons m u (.cons n t r),.swap _ _ _⟩
 | trans p q ih1 ih2 =>
  intro ns h
  obtain⟨ms,h1,h2⟩:=ih1 h
  obtain⟨ks,h3,h4⟩:=ih2 h1
  exact⟨ks,h3,h4.trans h2⟩
theorem lF {k:Int} {t:Tok}:∀ {l:List Value} {ns:List Int},IntsAre l ns->IntsAre (l++[.int k t]) (ns++[k])
 | _,_,.nil=>.cons k t .nil
 | _,_,.cons n u r=>.cons n u (lF r)
theorem ni {k:Int}:∀ {l:List Value} {ns:List Int},IntsAre l ns->(k∈ns ↔ ∃ v∈l,(intKind P w).is k v=true)
 | _,_,.nil=>by simp
 | _,_,.cons n t r=>by
  have ih:=ni (k:=k) r
  have e:(intKind P w).is k (.int n t)=decide (k=n):=KeyKind.is_eq_decide (intKind_is _ _ _ _) k
  rw[List.mem_cons,ih]
  constructor
  ·rintro (h | ⟨v,hv,q⟩)
   ·exact⟨_,List.mem_cons_self,by rw[e]; exact decide_eq_true h⟩
   ·exact⟨v,List.mem_cons_of_mem _ hv,q⟩
  ·rintro⟨v,hv,q⟩
   rcases List.mem_cons.mp hv with rfl | hv
   ·rw[e] at q
    exact .inl (of_decide_eq_true q)
   ·exact .inr ⟨v,hv,q⟩
theorem lA {b:Bool} {h:Heap} {a:Addr} {o:Obj} {es es':Array (Int × Value)} {ep:Nat} {t t':SetTable} {ks:List Int} (ho:h.get? a=some o) (hx:o.ExactSet) (hd:o.data = .set es ep t)
  (hel:ElemsOf (intKind P w) es'.toList) (hf:t'.fits es'.size=true) (tk:TOk b t') (hn:∃ ns,IntsAre (es'.toList.map (·.2)) ns/\ns.Perm ks) :
  (h.update a (Obj.putSet es' t')).get? a=some { o with data:=.set es' (ep+1) t' }/\j7 P w b (h.update a (Obj.putSet es' t')) a ks:=by
 have g:(h.update a (Obj.putSet es' t')).get? a=some { o with data:=.set es' (ep+1) t' }:=by
  have q:=Heap.get?_update_self (Obj.putSet es' t') ho (by rw[putSet_of es' t' hd]; rfl)
  rwa [putSet_of es' t' hd] at q
 exact⟨g,_,es',ep+1,t',g,hx,rfl,hel,hf,tk,hn⟩
theorem Ju {b:Bool} {a:Addr} {ks:List Int} {k:Int} {t0:Tok} {Q:Bool->Shared->Prop} (hS:j7 P w b s.heap a ks) (hroom:ks.length+1 < scanBound)
  (h:∀ h' r,Heap.SameBut a s.heap h'->j7 P w b h' a (step_dedup ks k)->Q r { s with heap:=h' }):wpAny (model P w) A (setAddHashed a (.int k t0) ((intKind P w).hash k)) Q E s:=by
 obtain⟨o,es,ep,t,ho,hx,hd,hel,hf,tk,ns,hi,hp⟩:=hS
 have key:(intKind P w).is k (.int k t0)=true:=intKind_is _ _ _ _
 have hlen:es.size=ks.length:=by
  rw[← hp.length_eq,← hi.length,List.length_map,Array.length_toList]
 have hb:es.size < scanBound:=by lia
 have hm:=ni (P:=P) (w:=w) (k:=k) hi
 unfold setAddHashed setAddHashedIn
 refine wpAny_holding (wpAny_bind (wpAny_setState_of ho hd hf ?_))
 dsimp only
 rw[byScan_of rfl hb hel]
 simp only[↓reduceIte]
 unfold setAddByScan
 refine wpAny_bind (wpAny_bind (wpAny_rule (wpAny_bind (wpAny_setScan_of key ho hd hf hel ?_))))
 cases hr:es.toList.findIdx? (fun e=>(intKind P w).is k e.2) with
 | some j =>
  dsimp only
  obtain⟨hj,q,_⟩:=List.findIdx?_eq_some_iff_getElem.mp hr
  have hk:k∈ks:=hp.mem_iff.mp (hm.mpr ⟨es.toList[j].2,List.mem_map.mpr ⟨_,List.getElem_mem hj,rfl⟩,q⟩)
  have es0:step_dedup ks k=ks:=by
   unfold step_dedup
   have hany:(ks.any fun x=>x == k)=true:=List.any_eq_true.mpr ⟨k,hk,beq_self_eq_true k⟩
   rw[if_pos hany]
  have q':=h s.heap false (Heap.SameBut.refl a s.heap) (by rw[es0]; exact⟨o,es,ep,t,ho,hx,hd,hel,hf,tk,ns,hi,hp⟩)
  exact wpAny_pure (wpAny_pure q')
 | none =>
  dsimp only
  have hk:k ∉ ks:=fun z=>by
   obtain⟨v,hv,q⟩:=hm.mp (hp.mem_iff.mpr z)
   obtain⟨e,he,rfl⟩:=List.mem_map.mp hv
   rw[List.findIdx?_eq_none_iff.mp hr e he] at q
   cases q
  have es0:step_dedup ks k=ks++[k]:=by
   unfold step_dedup
   rw[if_neg]
   intro z
   obtain⟨x,hx',e⟩:=List.any_eq_true.mp z
   exact hk (by rw[← eq_of_beq e]; exact hx')
  rw[es0] at h
  have pm:=layNew_perm t es ((intKind P w).hash k) (.int k t0)
  have ft:=layNew_fits t es ((intKind P w).hash k) (.int k t0)
  have tk1:=zM tk es ((intKind P w).hash k) (.int k t0)
  generalize layNew t es ((intKind P w).hash k) (.int k t0)=L at pm ft tk1 ⊢
  obtain⟨es1,t1,wd,gv⟩:=L
  dsimp only at pm ft tk1 ⊢
  rw[Array.toList_push] at pm
  have hel1:ElemsOf (intKind P w) es1.toList:=(hel.push key rfl).perm pm
  have hn1:∃ ns,IntsAre (es1.toList.map (·.2)) ns/\ns.Perm (ks++[k]):=by
   have i1:IntsAre ((es.toList++[((intKind P w).hash k,Value.int k t0)]).map (·.2)) (ns++[k]):=by
    rw[List.map_append]
    exact lF hi
   obtain⟨ms,h1,h2⟩:=gQ (pm.symm.map (·.2)) i1
   exact⟨ms,h1,h2.trans (hp.append (.refl _))⟩
  have hs1:es1.size<=sizeLine:=by
   have:es1.size=es.size+1:=by rw[← Array.length_toList,pm.length_eq,List.length_append,Array.length_toList]; rfl
   exact fits_of_scanBound (by lia)
  have gw:∀ (b:Bool) {s₁:Shared} {Q':Unit->Shared->Prop},Q' () s₁->wpAny (model P w) A (match b with | true=>rule "set.scan.the-table-gave-way" | false=>pure ()) Q' E s₁:=fun b s₁ Q' hq=>by
   cases b
   ·exact wpAny_pure hq
   ·exact wpAny_rule hq
  have tail:∀ (g:Bool->Sem Unit) (R:Option Bool->Shared->Prop) (t2:SetTable),(∀ (b:Bool) (s₁:Shared) (Q':Unit->Shared->Prop),Q' () s₁->wpAny (model P w) A (g b) Q' E s₁)->t2.fits es1.size=true->TOk b t2 →
    (∀ h',Heap.SameBut a s.heap h'->j7 P w b h' a (ks++[k])->R (some true) { s with heap:=h' })->wpAny (model P w) A (do
    storeSet a es1 t2
    if (!wd && t2.tooFull)=true then do
      g (relayAll t2 es1 (SetTable.grown es1.size)).2.2
      storeSet a (relayAll t2 es1 (SetTable.grown es1.size)).1 (relayAll t2 es1 (SetTable.grown es1.size)).2.1
      pure (some true)
     else pure (some true)) R E s:=fun g R t2 hg f2 k2 hR=>by
   refine wpAny_bind (wpAny_storeSet_of ho hd ?_ hs1)
   obtain⟨ho1,hS1⟩:=lA (P:=P) (w:=w) ho hx hd hel1 f2 k2 hn1
   have sb1:=Heap.SameBut.update s.heap a (Obj.putSet es1 t2)
   split
   ·have pr:=relayAll_perm t2 es1 (SetTable.grown es1.size)
    have fr:=relayAll_fits t2 es1 (SetTable.grown es1.size)
    have tr:=tK k2 es1 (SetTable.grown es1.size)
    generalize relayAll t2 es1 (SetTable.grown es1.size)=R at pr fr tr ⊢
    obtain⟨es2,t3,g2⟩:=R
    dsimp only at pr fr tr ⊢
    have hn2:∃ ns,IntsAre (es2.toList.map (·.2)) ns/\ns.Perm (ks++[k]):=by
     obtain⟨ns1,i1,p1⟩:=hn1
     obtain⟨ms,h1,h2⟩:=gQ (pr.symm.map (·.2)) i1
     exact⟨ms,h1,h2.trans p1⟩
    have hs2:es2.size<=sizeLine:=by
     have:es2.size=es1.size:=by rw[← Array.length_toList,pr.length_eq,Array.length_toList]
     lia
    refine wpAny_bind (hg _ _ _ (wpAny_bind (wpAny_storeSet_of ho1 rfl ?_ hs2)))
    obtain⟨_,hS2⟩:=lA (P:=P) (w:=w) ho1 hx rfl (hel1.perm pr) fr tr hn2
    exact wpAny_pure (hR _ (sb1.trans (Heap.SameBut.update _ a _)) hS2)
   ·exact wpAny_pure (hR _ sb1 hS1)
  refine wpAny_bind (gw _ ?_)
  split
  ·refine wpAny_bind ?_
   rw[hashByValue_scannable 8 rfl]
   refine wpAny_pure (tail _ _ _ (fun b s₁ Q' hq=>gw b hq) ?_ ?_ fun h' sb hS=>wpAny_pure (h h' true sb hS))
   ·exact ft
   ·exact tk1
  ·exact wpAny_bind (wpAny_pure (tail _ _ _ (fun b s₁ Q' hq=>gw b hq) ft tk1 fun h' sb hS=>wpAny_pure (h h' true sb hS)))
end
end L2
namespace L2
open PySem PySem.Spec PyProof.Rows
theorem kI {P:Program} {w:World} {b:Bool} {h h':Heap} {a:Addr} {ks:List Int} (hk:∀ o,h.get? a=some o->h'.get? a=some o) (hS:j7 P w b h a ks):j7 P w b h' a ks:=by
 obtain⟨o,es,ep,t,ho,r⟩:=hS
 exact⟨o,es,ep,t,hk o ho,r⟩
section
variable {P:Program} {w:World} {A:Around} {R:Result->Shared->Prop} {I:Addr} {fp wr:List Addr} {G:Array GenState->Array GenState->Prop} {n:Nat} {Pv:Nat->Value->Prop} {St:Nat->Shared->Prop} {b:Bool}
theorem Fb (W:WalksS P w A.in1 I fp wr G n Pv St) (S:Addr) (hS:S ∉ fp) (val:Nat->Int) (hv:∀ i v,Pv i v->∃ t,v = .int (val i) t) (hb:n+1 < scanBound) :
  ∀ (k i:Nat) (s:Shared),n - i=k->i<=n->St i s->j7 P w b s.heap S (firstMet val i)->(∀ s',Moved (S::wr) G s s'->j7 P w b s'.heap S (firstMet val n)->R (.ok (.ret .none)) s') →
   codeAny (model P w) A (.builtin "set.update.loop" ⟨[.ref S,.ref I],[]⟩) R s:=by
 have nw:S ∉ wr:=fun z=>hS (W.sub _ z)
 have sub:∀ x∈wr,x∈S::wr:=fun x hx=>List.mem_cons_of_mem _ hx
 intro k
 induction k with
 | zero =>
  intro i s hk hi st hs hR
  obtain rfl:i=n:=by lia
  refine codeAny_builtin F.entry_set_update_loop ?_
  rw[Around.under_plainId F.plain_set_update_loop _]
  refine (show wpAny _ A.in1 (pyNext (.ref I) >>= _) _ _ s from wpAny_bind (W.done s _ _ st fun s' hm=>?_))
  exact (show wpAny _ A.in1 (ret Value.none) _ _ s' from wpAny_pure (hR s' (hm.mono sub) (kI (fun o e=>hm.heap S o nw e) hs)))
 | succ k ih =>
  intro i s hk hi st hs hR
  have lt:i < n:=by lia
  refine codeAny_builtin F.entry_set_update_loop ?_
  rw[Around.under_plainId F.plain_set_update_loop _]
  refine (show wpAny _ A.in1 (pyNext (.ref I) >>= _) _ _ s from wpAny_bind (W.item i s _ _ lt st fun v s' hP st' hm=>?_))
  obtain⟨t,rfl⟩:=hv i v hP
  have hs':=kI (h':=s'.heap) (fun o e=>hm.heap S o nw e) hs
  have room:(firstMet val i).length+1 < scanBound:=by
   have:=firstMet_length_le val i
   lia
  refine (show wpAny _ A.in1 (holding [Value.int (val i) t] (setAdd S (.int (val i) t)) >>= _) _ _ s' from wpAny_bind (wpAny_holding ?_))
  unfold setAdd
  refine wpAny_holding (wpAny_bind ((intKind P w).pyHash (k:=val i) (intKind_is _ _ _ _) ?_))
  refine Ju (s:={ s' with toks:=s'.toks+1 }) hs' room fun h' r sb hn=>?_
  rw[← firstMet_succ] at hn
  refine wpAny_pure ⟨plainId_quiet F.plain_set_update_loop _,ih (i+1) _ (by lia) lt (W.frame _ s' _ _ st' (Nat.le_succ _) fun x hx o e=>?_) hn fun s'' hm'' hs''=>?_⟩
  ·rw[sb.2 x (fun z:x=S=>hS (by rw[← z]; exact hx))]
   exact e
  ·refine hR s'' (Moved.trans W.gtrans ((hm.mono sub).then_heap (Nat.le_succ _) fun x o hx e=>?_) hm'') hs''
   rw[sb.2 x (fun z:x=S=>hx (by rw[z]; exact List.mem_cons_self))]
   exact e
end
end L2
namespace L2
open PySem PySem.Spec PyProof.Rows
section
variable {P:Program} {w:World} {A:Around} {E:Value->Shared->Prop} {s:Shared}
noncomputable def Ez (w:World):Bool:=!w.params.followText "set-order"
noncomputable def newS (w:World):Obj:={ cls:=.type "set",dict:=none,data:=.set #[] 0 (.fresh 0 0 (Ez w)) }
theorem Jq (a:Value) {Q₁:Value->Shared->Prop} (h:Q₁ (.ref s.heap.objs.size) { s with heap:=s.heap.push (newS w) }) :
  codeAny (model P w) A (.call (.builtin "set.__new__") ⟨[.type "set",a],[]⟩) (wants Q₁ E) s:=by
 refine codeAny_of_tree (show wpAny _ A.in1 (do checkBuiltinCall "set.__new__" ⟨[.type "set",a],[]⟩; again (.builtin "set.__new__" ⟨[.type "set",a],[]⟩)) _ _ s from ?_)
 refine wpAny_bind (wpAny_of_eq (PySem.F.newCall_set_1 a) (wpAny_pure ⟨plainId_quiet PySem.F.plain_set_new _,codeAny_builtin PySem.F.entry_set_new ?_⟩))
 rw[Around.under_plainId PySem.F.plain_set_new _]
 unfold Builtin.«set.__new__» Builtin.Frozenset.newClass; have hsub:=sub_set_self; obtain⟨hp,g,d,tk,os⟩:=s
 dsimp only
 wp_walk
 refine wpAny_askSetting (wpAny_pure ?_)
 dsimp only
 simp only[newObj]; refine wpAny_bind (wpAny_alloc (wpAny_pure ?_))
 exact wpAny_pure h
end
end L2
namespace L2
open PySem PySem.Spec PyProof.Rows
section
variable {P:Program} {w:World} {A:Around} {E:Value->Shared->Prop} {s:Shared}
set_option maxRecDepth 100000 in
set_option maxHeartbeats 3200000 in
theorem vO {l:Addr} {items:Array Value} {ns:List Int} {Q:Value->Shared->Prop} (hh:A.handled=none) (hl:s.heap.IsList l items) (hi:IntsAre items.toList ns) (hb:items.size+1 < scanBound)
  (h:∀ (h':Heap) (tk:Nat),j7 P w (Ez w) h' s.heap.objs.size (firstMet (fun i=>ns.getD i 0) items.size)->(∀ b o,b < s.heap.objs.size->s.heap.get? b=some o->h'.get? b=some o)->Q (.ref s.heap.objs.size) { s with heap:=h',toks:=tk }) :
  wpAny (model P w) A (call (.type "set") [.ref l]) Q E s:=by
 obtain⟨c,tl,hmro⟩:=PySem.F.called_set.mro
 have hmade:=PySem.F.called_set.made
 have hsub:=PySem.F.called_set.sub
 refine wpAny_call (codeAny_of_tree (show wpAny _ _ (callAny (.type "set") _) _ _ _ from wpAny_pure ⟨Code.quiet_builtin _ (by decide+kernel),codeAny_builtin PySem.F.entry_type_call ?_⟩))
 rw[Around.under_plain (weight_type_call_type "set" [.ref l] []) rfl]
 have h1:=PySem.F.called_set.notType
 have h2:=PySem.F.called_set.canCreate
 have hct:=PySem.F.typeCall_set_1 (.ref l)
 repeat (any_goals (first | assumption | wp_step))
 refine codeAny_mono (Jq (.ref l) (E:=E) (Q₁:=fun obj s₁=>obj = .ref s.heap.objs.size/\s₁={ s with heap:=s.heap.push (newS w) }) ⟨rfl,rfl⟩) fun r s₁ hr=>?_
 cases r with
 | error e=>exact hr
 | ok fl =>
  cases fl with
  | ret obj =>
   obtain⟨rfl,rfl⟩:=hr
   have gS:(s.heap.push (newS w)).get? s.heap.objs.size=some (newS w):=Heap.get?_push_size _ rfl
   have hT:Shared.TypeIs { s with heap:=s.heap.push (newS w) } (.ref s.heap.objs.size) "set":=⟨_,gS,rfl⟩
   have hli:=PySem.F.called_set.init.lookup
   have hbi:=PySem.F.called_set.init.bind (.ref s.heap.objs.size)
   repeat (any_goals (first | assumption | wp_step))
   refine codeAny_mono (codeAny_call_builtin (R:=wants (fun r s₂=>r = .none/\∃ h' tk,s₂={ s with heap:=h',toks:=tk }/\j7 P w (Ez w) h' s.heap.objs.size (firstMet (fun i=>ns.getD i 0) items.size) ∧
     (∀ b o,b < s.heap.objs.size->s.heap.get? b=some o->h'.get? b=some o)) E) PySem.F.called_set.init.plain PySem.F.entry_set_init (check_set_init_1 hT ?_)) fun r₂ s₂ hr₂=>?_
   ·obtain⟨ol,hol,hcl,nl,hdl⟩:=hl
    obtain⟨ocls,odict,odata,oslots⟩:=ol
    simp only at hcl hdl
    subst hcl hdl
    have hol':(s.heap.push (newS w)).get? l=some { cls:=.type "list",dict:=odict,data:=.seq items nl,slots:=oslots }:=Heap.get?_push_of_some _ hol
    have hsls:=PySem.F.sub_list_set
    have hslf:=PySem.F.sub_list_frozenset
    have hne:(Value.type "list" == Value.type "dict")=false:=by decide
    have hl1:(s.heap.push (newS w)).IsList l items:=⟨_,hol',rfl,nl,rfl⟩
    have gS':(s.heap.push (newS w)).get? s.heap.objs.size=some { cls:=.type "set",dict:=none,data:=.set #[] 0 (.fresh 0 0 (Ez w)) }:=gS
    unfold Builtin.«set.__init__» noKeywords Builtin.Frozenset.updateFrom; generalize hPI:pyIter=PI
    wp_walk
    subst hPI
    refine wpAny_pyIter_list hl1 (wpAny_bind (wpAny_runValue ?_))
    have hlS:l < s.heap.objs.size:=Heap.lt_size hol
    have hh3:A.in1.in1.in1.handled=none:=by simp [hh]
    have hneI:l≠(s.heap.push (newS w)).objs.size:=by
     rw[Heap.size_push]
     exact Nat.ne_of_lt (Nat.lt_succ_of_lt hlS)
    have hSf:s.heap.objs.size ∉ [(s.heap.push (newS w)).objs.size,l]:=by
     rw[Heap.size_push,List.mem_cons,List.mem_singleton]
     rintro (z | z)
     ·exact absurd z (Nat.ne_of_lt (Nat.lt_succ_self _))
     ·exact absurd z (Nat.ne_of_gt hlS)
    refine Fb (b:=Ez w) ((Walks.list hh3 _ l hneI items).toS) s.heap.objs.size hSf (fun i=>ns.getD i 0) (fun i v hv=>IntsAre.int_at hi i v (by rw[Array.getElem?_toList]; exact hv)) hb (items.size - 0) 0 _ (by lia) (Nat.zero_le _)
     ⟨⟨_,Heap.get?_push_size _ rfl,rfl,rfl⟩,(hl1.push _)⟩ ?hS0 ?hR
    case hS0=>exact⟨newS w,#[],0,_,Heap.get?_push_of_some _ gS,⟨rfl,rfl,rfl⟩,rfl,(fun e he=>by simp at he),rfl,Cj _,[],.nil,.refl _⟩
    case hR =>
     intro s' hm hS'
     obtain⟨h',g',d',tk',os'⟩:=s'
     obtain rfl:g'=s.gens:=hm.gens
     obtain rfl:d'=s.drawn:=hm.drawn
     obtain rfl:os'=s.os:=hm.os
     refine (show wpAny _ _ _ _ _ _ from wpAny_pure (show wpAny _ _ (ret Value.none) _ _ _ from wpAny_pure ⟨rfl,h',tk',rfl,hS',fun b o hb e=>?_⟩))
     refine hm.heap b o ?_ (Heap.get?_push_of_some _ (Heap.get?_push_of_some _ e))
     rw[List.mem_cons,List.mem_singleton,Heap.size_push]
     rintro (z | z)
     ·exact absurd z (Nat.ne_of_lt hb)
     ·exact absurd z (Nat.ne_of_lt (Nat.lt_succ_of_lt hb))
   ·cases r₂ with
    | error e=>exact hr₂
    | ok fl₂ =>
     cases fl₂ with
     | ret r =>
      obtain⟨rfl,h',tk,rfl,hS',hk'⟩:=hr₂
      repeat (any_goals (first | assumption | wp_step))
      exact h h' tk hS' hk'
     | _=>exact hr₂.elim
  | _=>exact hr.elim
end
end L2
namespace L2
open PySem PySem.Spec PyProof.Rows
theorem uM:Manifest.owners.lookup (String.ofList ['r','o','t','a','r','e','t','i','_','t','e','s'].reverse)=some Manifest.sig_set_iterator:=by kernel_rfl
theorem bF:Slot "set_iterator" "__next__" "set_iterator.__next__" :=
 .of (owner:="set_iterator") (n:="__next__") (by rw[typeLookup_type,builtinLookup_eq_fast]; kernel_rfl) (by decide+kernel) (by decide+kernel) (by decide+kernel) (by first | exact .inl (by decide+kernel) | exact .inr (by decide+kernel)) (by rw[isSubtype_type]; kernel_rfl)
theorem eQ:entryFor table "set_iterator.__next__" = some Builtin.«set_iterator.__next__»:=entryFor_of_tree (by kernel_rfl)
theorem fY (a:Value):argsOk "set_iterator.__next__" ⟨[a],[]⟩:=by
 unfold argsOk
 rw[signature?_of (id:="set_iterator.__next__") (n:=['_','_','t','x','e','n','_','_']) (o:=['r','o','t','a','r','e','t','i','_','t','e','s']) (by kernel_rfl) uM]
 kernel_rfl
theorem iT:Slot "set_iterator" "__iter__" "set_iterator.__iter__" :=
 .of (owner:="set_iterator") (n:="__iter__") (by rw[typeLookup_type,builtinLookup_eq_fast]; kernel_rfl) (by decide+kernel) (by decide+kernel) (by decide+kernel) (by first | exact .inl (by decide+kernel) | exact .inr (by decide+kernel)) (by rw[isSubtype_type]; kernel_rfl)
theorem lM:entryFor table "set_iterator.__iter__" = some Builtin.«dict_keyiterator.__iter__»:=entryFor_alias (id':="dict_keyiterator.__iter__") (by kernel_rfl) rfl (by decide+kernel) (by kernel_rfl)
theorem nJ (a:Value):argsOk "set_iterator.__iter__" ⟨[a],[]⟩:=by
 unfold argsOk
 rw[signature?_of (id:="set_iterator.__iter__") (n:=['_','_','r','e','t','i','_','_']) (o:=['r','o','t','a','r','e','t','i','_','t','e','s']) (by kernel_rfl) uM]
 kernel_rfl
theorem nR:entryFor table "set.__iter__" = some Builtin.«frozenset.__iter__»:=entryFor_alias (id':="frozenset.__iter__") (by kernel_rfl) rfl (by decide+kernel) (by kernel_rfl)
theorem j9 {α:Type}:∀ (l:List α) (j:Nat) (h:j < l.length),(l[j]::l.eraseIdx j).Perm l
 | a::r,0,_=>.refl _
 | a::r,j+1,h=>by
  have ih:=j9 r j (Nat.lt_of_succ_lt_succ h)
  rw[List.getElem_cons_succ,List.eraseIdx_cons_succ]
  exact (List.Perm.swap _ _ _).trans (ih.cons a)
theorem uX {α:Type} (nx:Nat->Nat):∀ (fuel k:Nat) (left:List α) (out:Array α),left.length<=fuel->(pickOrder.go nx fuel k left out).toList.Perm (out.toList++left)
 | 0,k,left,out,h=>by
  rw[pickOrder.go]
  have e:left=[]:=List.eq_nil_of_length_eq_zero (by lia)
  subst e
  rw[List.append_nil]
 | fuel+1,k,left,out,h=>by
  rw[pickOrder.go]
  cases hl:left with
  | nil =>
   simp
  | cons a r =>
   have hlen:nx k % (a::r).length < (a::r).length:=Nat.mod_lt _ (by simp)
   rw[List.getElem?_eq_getElem hlen]
   dsimp only
   generalize nx k % (a::r).length=j at hlen ⊢
   have ih:=uX nx fuel (k+1) ((a::r).eraseIdx j) (out.push (a::r)[j]) (by rw[List.length_eraseIdx_of_lt hlen,← hl]; lia)
   refine ih.trans ?_
   rw[Array.toList_push,List.append_assoc]
   refine List.Perm.append (.refl _) ?_
   show ((a::r)[j]::(a::r).eraseIdx j).Perm (a::r)
   exact j9 _ j hlen
theorem mK {α:Type} (nx:Nat->Nat) (xs:Array α):(pickOrder nx xs).toList.Perm xs.toList:=by
 unfold pickOrder
 have:=uX nx xs.size 0 xs.toList #[] (by rw[Array.length_toList]; exact Nat.le_refl _)
 simpa using this
section
variable {P:Program} {w:World} {A:Around} {E:Value->Shared->Prop} {s:Shared}
theorem uL {α:Type} {Q:List α->Shared->Prop}:∀ (n:Nat) (xs:List α) (s:Shared),xs.length=n->(∀ ys d,ys.Perm xs->Q ys { s with drawn:=d })->wpAny (model P w) A (drawOrder n xs) Q E s
 | 0,xs,s,h,hq=>by
  rw[drawOrder]
  have e:xs=[]:=List.eq_nil_of_length_eq_zero h
  subst e
  exact wpAny_pure (hq [] s.drawn (.refl _))
 | n+1,[],s,h,hq=>by cases h
 | n+1,x::xs,s,h,hq=>by
  rw[drawOrder]
  ·refine wpAny_bind (fun Γ p hΓ=>?_)
   show Sem.wp _ _ (.choose .order (x::xs).length .pure) _ _ _ _
   rw[Sem.wp_choose]
   refine⟨by simp,?_⟩
   rw[Sem.wp_pure]
   generalize (model P w).w.draws .order (s.drawn.get .order)=z
   have hlen:z % (x::xs).length < (x::xs).length:=Nat.mod_lt _ (by simp)
   generalize z % (x::xs).length=j at hlen ⊢
   show wpAny _ _ _ _ _ _
   rw[List.getElem?_eq_getElem hlen]
   dsimp only
   refine wpAny_bind (uL n ((x::xs).eraseIdx j) _ (by rw[List.length_eraseIdx_of_lt hlen]; rw[List.length_cons] at h ⊢; lia) fun ys d p=>wpAny_pure ?_)
   exact hq _ d ((p.cons _).trans (j9 _ j hlen))
  ·simp
end
end L2
namespace L2
open PySem PySem.Spec PyProof.Rows
noncomputable def SIt (h:Heap) (I S:Addr) (f:Value) (i n ep:Nat):Prop:=h.get? I=some { cls:=.type "set_iterator",dict:=none,data:=.fields #[f,.int i 0,.ref S,.int n 0,.int ep 0],slots:=#[] }
section
variable {P:Program} {w:World} {A:Around} {E:Value->Shared->Prop} {s:Shared} {I S:Addr} {o:Obj} {es:Array (Int × Value)} {ep:Nat} {t:SetTable}
theorem rN {sl:Int} {tk:Tok} {i:Nat} {Q:Option Value->Shared->Prop} {r:Option (Value × Nat)} (hh:A.handled=none) (hI:SIt s.heap I S (.int sl tk) i es.size ep) (hS:s.heap.get? S=some o) (hd:o.data = .set es ep t) (hf:t.fits es.size=true)
  (hn:∀ (A:Around) (E:Value->Shared->Prop) (Q:Option (Value × Nat)->Shared->Prop),Q r s->wpAny (model P w) A (setNext S sl.toNat i ep) Q E s)
  (hs:∀ x j h',r=some (x,j)->SIt h' I S (.int (j:Nat) 0) (i+1) es.size ep->Heap.SameBut I s.heap h'->Q (some x) { s with heap:=h' }) (he:∀ h',r=none->Heap.ExtBut I s.heap h'->Q none { s with heap:=h' }):wpAny (model P w) A (pyNext (.ref I)) Q E s:=by
 have hT:s.TypeIs (.ref I) "set_iterator":=⟨_,hI,rfl⟩
 unfold pyNext
 refine wpAny_bind (wpAny_attempt (wpAny_callSpecial?_slot (name:=Str.ofString "__next__") hT bF (wpAny_call_entry bF hT eQ ?_ (fY _))))
 refine (show wpAny _ _ (fieldsOf (.ref I) >>= _) _ _ s from wpAny_bind (wpAny_fieldsOf hI rfl ?_))
 refine (show wpAny _ _ (setEntries S >>= _) _ _ s from wpAny_bind (wpAny_setEntries_of hS hd hf ?_))
 rw[if_neg (by simp)]
 refine (show wpAny _ _ (setNext S sl.toNat (i:Int).toNat (ep:Int).toNat >>= _) _ _ s from wpAny_bind ?_)
 rw[Int.toNat_natCast,Int.toNat_natCast]
 refine hn _ _ _ ?_
 cases hr:r with
 | some xj =>
  obtain⟨x,j⟩:=xj
  dsimp only
  refine wpAny_bind (wpAny_setField hI rfl (by simp) ?_)
  have g1:=Heap.get?_update_self (Obj.mapFields (·.setIfInBounds 0 (rawInt (j:Int)))) hI rfl
  refine wpAny_bind (wpAny_setField g1 rfl (by simp) ?_)
  have g2:=Heap.get?_update_self (Obj.mapFields (·.setIfInBounds 1 (rawInt ((i:Int)+1)))) g1 rfl
  refine wpAny_pure ⟨x,rfl,wpAny_pure (hs x j _ hr ?_ ((Heap.SameBut.update ..).trans (Heap.SameBut.update ..)))⟩
  exact g2
 | none =>
  dsimp only
  refine wpAny_bind (wpAny_setField hI rfl (by simp) ?_)
  refine (show wpAny _ _ (newExc (.type "StopIteration") [] >>= _) _ _ _ from wpAny_bind ?_)
  simp only[newExc,newTuple]
  refine wpAny_bind (wpAny_newObj_type ?_ (by size_fits))
  refine wpAny_bind (m:=firstArgMember _ _) (wpAny_of_eq (a:=Value.none) (by first | rfl | (simp only[firstArgMember]; rfl)) (wpAny_newObj_type ?_ (by size_fits)))
  simp only[raiseNew]
  refine wpAny_bind (wpAny_handled ?_)
  first | rw[show A.in1.handled=none from hh] | rw[hh]
  refine wpAny_bind (wpAny_pure (wpAny_throw ?_))
  refine wpAny_bind (wpAny_isInstance (T:="StopIteration") (b:=true) ⟨_,Heap.get?_push_size _ rfl,rfl⟩ isSubtype_stop (wpAny_pure ?_))
  exact he _ hr (((Heap.SameBut.update ..).extBut.push _).push _)
end
end L2
namespace L2
open PySem PySem.Spec PyProof.Rows
section
variable {P:Program} {w:World} {A:Around} {E:Value->Shared->Prop} {s:Shared} {I S:Addr} {o:Obj} {es:Array (Int × Value)} {ep:Nat} {t:SetTable}
theorem uV {sl i:Nat} {Q:Option (Value × Nat)->Shared->Prop} (hb:w.params.followText "set-order" = true) (hS:s.heap.get? S=some o) (hd:o.data = .set es ep t) (hf:t.fits es.size=true)
  (h:Q (((pickOrder (w.params.setOrder S ep) es)[i]?).map fun e=>(e.2,sl)) s):wpAny (model P w) A (setNext S sl i ep) Q E s:=by
 unfold setNext
 refine wpAny_bind (wpAny_setState_of hS hd hf ?_)
 dsimp only
 unfold setsByText
 refine wpAny_bind (wpAny_bind (wpAny_askSetting (wpAny_pure ?_)))
 rw[if_pos (show (model P w).w.params.followText "set-order" = true from hb),if_neg (by simp)]
 unfold setWalk
 refine wpAny_bind (wpAny_bind (wpAny_setState_of hS hd hf ?_))
 dsimp only
 unfold setsByText
 refine wpAny_bind (wpAny_bind (wpAny_askSetting (wpAny_pure ?_)))
 rw[if_pos (show (model P w).w.params.followText "set-order" = true from hb)]
 exact wpAny_bind (wpAny_askSetting (wpAny_pure (wpAny_pure h)))
theorem pH {sl i:Nat} {Q:Option (Value × Nat)->Shared->Prop} (hb:w.params.followText "set-order" = false) (hS:s.heap.get? S=some o) (hd:o.data = .set es ep t) (hf:t.fits es.size=true) (hl:t.led=true)
  (hp:t.plain=true∨es.size<=1) (hi:SetTable.below t.place sl=i)
  (h:Q (match es[i]?,t.place[i]? with | some (_,x),some j=>some (x,j+1) | _,_=>none) s):wpAny (model P w) A (setNext S sl i ep) Q E s:=by
 unfold setNext
 refine wpAny_bind (wpAny_setState_of hS hd hf ?_)
 dsimp only
 unfold setsByText
 refine wpAny_bind (wpAny_bind (wpAny_askSetting (wpAny_pure ?_)))
 rw[if_neg (show ¬ (model P w).w.params.followText "set-order" = true by rw[show (model P w).w.params.followText "set-order" = false from hb]; exact Bool.false_ne_true)]
 have hdr:(!t.plain && decide (es.size > 1))=false:=by
  rcases hp with q | q
  ·rw[q]
   rfl
  ·rw[decide_eq_false (by lia),Bool.and_false]
 refine wpAny_ite_false (show decide ((!t.plain && decide (es.size > 1))=true)=false from decide_eq_false (by rw[hdr]; exact Bool.false_ne_true)) ?_
 refine wpAny_bind (show wpAny _ _ (if (!t.led && !es.isEmpty)=true then unsupported "set:maker-not-led" else pure ()) _ _ _ from ?_)
 rw[hl]
 refine wpAny_ite_false (decide_eq_false (by simp)) (wpAny_pure (wpAny_pure ?_))
 rw[hi]
 exact h
theorem qN {f:Value} {i n:Nat} {Q:Value->Shared->Prop} (hI:SIt s.heap I S f i n ep) (h:Q (.ref I) s):wpAny (model P w) A (pyIter (.ref I)) Q E s:=by
 have hT:s.TypeIs (.ref I) "set_iterator":=⟨_,hI,rfl⟩
 refine wpAny_pyIter_slot hT iT (wpAny_call_entry iT hT lM (show wpAny _ _ (ret (.ref I)) _ _ s from ?_) (nJ _))
 exact wpAny_pure ⟨_,rfl,"set_iterator",_,hT,bF.lookup,h⟩
theorem Ak (hh:A.handled=none) (hne:S≠I) (hb:w.params.followText "set-order" = true) (hd:o.data = .set es ep t) (hf:t.fits es.size=true) :
  Walks P w A I [I,S] [I] es.size (fun i v=>((pickOrder (w.params.setOrder S ep) es).toList.map (·.2))[i]? = some v) (fun i h=>(∃ (sl:Nat) (tk:Tok),SIt h I S (.int (sl:Int) tk) i es.size ep)/\h.get? S=some o) where
 sub:=fun b hb=>by simp at hb; simp [hb]
 frame:=fun i h h' st hk=>by
  obtain⟨⟨sl,tk,hI⟩,hS⟩:=st
  exact⟨⟨sl,tk,hk I (by simp) _ hI⟩,hk S (by simp) _ hS⟩
 item:=fun i s Q E hi st hQ=>by
  obtain⟨⟨sl,tk,hI⟩,hS⟩:=st
  have pl:(pickOrder (w.params.setOrder S ep) es).size=es.size:=by
   have:=(mK (w.params.setOrder S ep) es).length_eq
   simpa using this
  have hx:(pickOrder (w.params.setOrder S ep) es)[i]? = some ((pickOrder (w.params.setOrder S ep) es)[i]'(by lia)):=Array.getElem?_eq_getElem _
  generalize (pickOrder (w.params.setOrder S ep) es)[i]'(by lia)=x at hx
  refine rN (r:=some (x.2,sl)) hh hI hS hd hf (fun A E Q q=>?_) (fun v j h' hr hI' sb=>?_) (fun h' hr _=>by cases hr)
  ·refine uV hb hS hd hf ?_
   rw[Int.toNat_natCast,hx]
   exact q
  ·cases hr
   refine hQ _ h' s.toks ?_ ⟨⟨sl,0,hI'⟩,sb.2 S hne▸hS⟩ fun b o' hb' e=>?_
   ·rw[List.getElem?_map,Array.getElem?_toList,hx]
    rfl
   ·rw[sb.2 b (fun z=>hb' (by rw[z]; exact List.mem_singleton.mpr rfl))]
    exact e
 done:=fun s Q E st hQ=>by
  obtain⟨⟨sl,tk,hI⟩,hS⟩:=st
  have pl:(pickOrder (w.params.setOrder S ep) es).size=es.size:=by
   have:=(mK (w.params.setOrder S ep) es).length_eq
   simpa using this
  refine rN (r:=none) hh hI hS hd hf (fun A E Q q=>?_) (fun v j h' hr=>by cases hr) (fun h' _ hx=>?_)
  ·refine uV hb hS hd hf ?_
   rw[Array.getElem?_eq_none (by lia)]
   exact q
  ·exact hQ h' s.toks fun b o' hb' e=>hx b o' (fun z=>hb' (by rw[z]; exact List.mem_singleton.mpr rfl)) e
 self:=fun i s Q E st hQ=>by
  obtain⟨⟨sl,tk,hI⟩,_⟩:=st
  exact qN hI hQ
noncomputable def slotAt (pl:Array Nat):Nat->Nat
 | 0=>0
 | i+1=>pl.getD i 0+1
theorem kZ {pl:Array Nat} (h:Ris pl):∀ {i:Nat},i<=pl.size->SetTable.below pl (slotAt pl i)=i
 | 0,_=>zm h
 | i+1,hi=>by
  have e:pl[i]? = some (pl.getD i 0):=by
   rw[Array.getElem?_eq_getElem (by lia),Array.getD_eq_getD_getElem?,Array.getElem?_eq_getElem (by lia)]
   rfl
  exact below_at h e
theorem zB (hh:A.handled=none) (hne:S≠I) (hb:w.params.followText "set-order" = false) (hd:o.data = .set es ep t) (hf:t.fits es.size=true) (hl:t.led=true) (hp:t.plain=true∨es.size<=1) (hr:Ris t.place) :
  Walks P w A I [I,S] [I] es.size (fun i v=>(es.toList.map (·.2))[i]? = some v) (fun i h=>(∃ tk:Tok,SIt h I S (.int (slotAt t.place i:Nat) tk) i es.size ep)/\h.get? S=some o) where
 sub:=fun b hb=>by simp at hb; simp [hb]
 frame:=fun i h h' st hk=>by
  obtain⟨⟨tk,hI⟩,hS⟩:=st
  exact⟨⟨tk,hk I (by simp) _ hI⟩,hk S (by simp) _ hS⟩
 item:=fun i s Q E hi st hQ=>by
  obtain⟨⟨tk,hI⟩,hS⟩:=st
  have ps:t.place.size=es.size:=by
   simp only[SetTable.fits,Bool.and_eq_true,beq_iff_eq] at hf
   exact hf.1
  have hx:es[i]? = some es[i]:=Array.getElem?_eq_getElem hi
  have hj:t.place[i]? = some (t.place.getD i 0):=by
   rw[Array.getElem?_eq_getElem (by lia),Array.getD_eq_getD_getElem?,Array.getElem?_eq_getElem (by lia)]
   rfl
  generalize es[i]=x at hx
  obtain⟨k,v⟩:=x
  refine rN (r:=some (v,t.place.getD i 0+1)) hh hI hS hd hf (fun A E Q q=>?_) (fun u j h' hr hI' sb=>?_) (fun h' hr _=>by cases hr)
  ·refine pH hb hS hd hf hl hp (i:=i) (by rw[Int.toNat_natCast]; exact kZ hr (by lia)) ?_
   rw[hx,hj]
   exact q
  ·cases hr
   refine hQ _ h' s.toks ?_ ⟨⟨0,hI'⟩,sb.2 S hne▸hS⟩ fun b o' hb' e=>?_
   ·rw[List.getElem?_map,Array.getElem?_toList,hx]
    rfl
   ·rw[sb.2 b (fun z=>hb' (by rw[z]; exact List.mem_singleton.mpr rfl))]
    exact e
 done:=fun s Q E st hQ=>by
  obtain⟨⟨tk,hI⟩,hS⟩:=st
  have ps:t.place.size=es.size:=by
   simp only[SetTable.fits,Bool.and_eq_true,beq_iff_eq] at hf
   exact hf.1
  refine rN (r:=none) hh hI hS hd hf (fun A E Q q=>?_) (fun v j h' hr=>by cases hr) (fun h' _ hx=>?_)
  ·refine pH hb hS hd hf hl hp (i:=es.size) (by rw[Int.toNat_natCast]; exact kZ hr (by lia)) ?_
   rw[Array.getElem?_eq_none (Nat.le_refl _)]
   exact q
  ·exact hQ h' s.toks fun b o' hb' e=>hx b o' (fun z=>hb' (by rw[z]; exact List.mem_singleton.mpr rfl)) e
 self:=fun i s Q E st hQ=>by
  obtain⟨⟨tk,hI⟩,_⟩:=st
  exact qN hI hQ
end
end L2
namespace L2
open PySem PySem.Spec PyProof.Rows
section
variable {P:Program} {w:World} {A:Around} {E:Value->Shared->Prop} {s:Shared} {I S T:Addr} {o:Obj} {es:Array (Int × Value)} {ep:Nat} {t:SetTable}
noncomputable def dg (pl:List Nat):List Value:=pl.map fun j:Nat=>rawInt (j:Int)
theorem zK {pl:List Nat} (hh:A.handled=none) (hne:S≠I) (hnt:T≠I) (hd:o.data = .set es ep t) (hf:t.fits es.size=true) (hp:pl.Perm (List.range es.size)) :
  Walks P w A I [I,S,T] [I] es.size (fun i v=>(pl.map fun j=>(es.getD j (0,.none)).2)[i]? = some v) (fun i h=>SIt h I S (.ref T) i es.size ep/\h.get? S=some o/\h.IsTuple T (dg pl).toArray) where
 sub:=fun b hb=>by simp at hb; simp [hb]
 frame:=fun i h h' st hk=>by
  obtain⟨hI,hS,o',ho',r⟩:=st
  exact⟨hk I (by simp) _ hI,hk S (by simp) _ hS,o',hk T (by simp) _ ho',r⟩
 item:=fun i s Q E hi st hQ=>by
  obtain⟨hI,hS,hT⟩:=st
  have lp:pl.length=es.size:=by rw[hp.length_eq,List.length_range]
  have hT0:s.TypeIs (.ref I) "set_iterator":=⟨_,hI,rfl⟩
  obtain⟨j,hj⟩:∃ j,pl[i]? = some j:=⟨pl[i],List.getElem?_eq_getElem (by lia)⟩
  have hj2:j < es.size:=List.mem_range.mp (hp.mem_iff.mp (List.mem_of_getElem? hj))
  have hx:es[j]? = some (es.getD j (0,.none)):=by
   rw[Array.getElem?_eq_getElem hj2,Array.getD_eq_getD_getElem?,Array.getElem?_eq_getElem hj2]
   rfl
  obtain⟨ot,hot,hct,nt,hdt⟩:=id hT
  unfold pyNext
  refine wpAny_bind (wpAny_attempt (wpAny_callSpecial?_slot (name:=Str.ofString "__next__") hT0 bF (wpAny_call_entry bF hT0 eQ ?_ (fY _))))
  refine (show wpAny _ _ (fieldsOf (.ref I) >>= _) _ _ s from wpAny_bind (wpAny_fieldsOf hI rfl ?_))
  refine (show wpAny _ _ (setEntries S >>= _) _ _ s from wpAny_bind (wpAny_setEntries_of hS hd hf ?_))
  rw[if_neg (by simp)]
  refine (show wpAny _ _ (seqItems? (.ref T) >>= _) _ _ s from wpAny_bind (wpAny_seqItems hot hdt ?_))
  have hpl:(dg pl).toArray[(i:Int).toNat]? = some (.int (j:Int) 0):=by
   rw[Int.toNat_natCast,List.getElem?_toArray]
   show (pl.map fun j:Nat=>rawInt (j:Int))[i]? = _
   rw[List.getElem?_map,hj]
   rfl
  dsimp only
  rw[hpl]
  dsimp only
  refine wpAny_bind (show wpAny _ _ (setNextDrawn S (j:Int).toNat (ep:Int).toNat) _ _ _ from ?_)
  unfold setNextDrawn
  refine wpAny_bind (wpAny_setState_of hS hd hf ?_)
  dsimp only
  rw[Int.toNat_natCast,Int.toNat_natCast,if_neg (by simp),hx]
  refine wpAny_pure (wpAny_bind (wpAny_setField hI rfl (by simp) ?_))
  have g1:=Heap.get?_update_self (Obj.mapFields (·.setIfInBounds 1 (rawInt ((i:Int)+1)))) hI rfl
  refine wpAny_pure ⟨_,rfl,wpAny_pure (hQ _ _ s.toks ?_ ⟨g1,?_,?_⟩ fun b o' hb' e=>?_)⟩
  ·rw[List.getElem?_map,hj]
   rfl
  ·rw[Heap.get?_update_other _ _ (Ne.symm hne)]
   exact hS
  ·exact⟨ot,by rw[Heap.get?_update_other _ _ (Ne.symm hnt)]; exact hot,hct,nt,hdt⟩
  ·rw[Heap.get?_update_other _ _ (fun z:I=b=>hb' (by rw[z]; exact List.mem_singleton.mpr rfl))]
   exact e
 done:=fun s Q E st hQ=>by
  obtain⟨hI,hS,hT⟩:=st
  have lp:pl.length=es.size:=by rw[hp.length_eq,List.length_range]
  have hT0:s.TypeIs (.ref I) "set_iterator":=⟨_,hI,rfl⟩
  obtain⟨ot,hot,hct,nt,hdt⟩:=id hT
  unfold pyNext
  refine wpAny_bind (wpAny_attempt (wpAny_callSpecial?_slot (name:=Str.ofString "__next__") hT0 bF (wpAny_call_entry bF hT0 eQ ?_ (fY _))))
  refine (show wpAny _ _ (fieldsOf (.ref I) >>= _) _ _ s from wpAny_bind (wpAny_fieldsOf hI rfl ?_))
  refine (show wpAny _ _ (setEntries S >>= _) _ _ s from wpAny_bind (wpAny_setEntries_of hS hd hf ?_))
  rw[if_neg (by simp)]
  refine (show wpAny _ _ (seqItems? (.ref T) >>= _) _ _ s from wpAny_bind (wpAny_seqItems hot hdt ?_))
  have hpl:(dg pl).toArray[(es.size:Int).toNat]? = none:=by
   rw[Int.toNat_natCast,List.getElem?_toArray]
   show (pl.map fun j:Nat=>rawInt (j:Int))[es.size]? = _
   rw[List.getElem?_map,List.getElem?_eq_none (by lia)]
   rfl
  dsimp only
  rw[hpl]
  dsimp only
  refine wpAny_bind (wpAny_setField hI rfl (by simp) ?_)
  have g1:=Heap.get?_update_self (Obj.mapFields (·.setIfInBounds 0 (rawInt 0))) hI rfl
  refine wpAny_bind (wpAny_setField g1 rfl (by simp) ?_)
  refine (show wpAny _ _ (newExc (.type "StopIteration") [] >>= _) _ _ _ from wpAny_bind ?_)
  simp only[newExc,newTuple]
  refine wpAny_bind (wpAny_newObj_type ?_ (by size_fits))
  refine wpAny_bind (m:=firstArgMember _ _) (wpAny_of_eq (a:=Value.none) (by first | rfl | (simp only[firstArgMember]; rfl)) (wpAny_newObj_type ?_ (by size_fits)))
  simp only[raiseNew]
  refine wpAny_bind (wpAny_handled ?_)
  first | rw[show A.in1.handled=none from hh] | rw[hh]
  refine wpAny_bind (wpAny_pure (wpAny_throw ?_))
  refine wpAny_bind (wpAny_isInstance (T:="StopIteration") (b:=true) ⟨_,Heap.get?_push_size _ rfl,rfl⟩ isSubtype_stop (wpAny_pure ?_))
  refine hQ _ s.toks fun b o' hb' e=>?_
  have hbI:b≠I:=fun z=>hb' (by rw[z]; exact List.mem_singleton.mpr rfl)
  exact ((((Heap.SameBut.update ..).trans (Heap.SameBut.update ..)).extBut.push _).push _) b o' hbI e
 self:=fun i s Q E st hQ=>qN st.1 hQ
end
end L2
namespace L2
open PySem PySem.Spec PyProof.Rows
section
variable {P:Program} {w:World} {A:Around} {E:Value->Shared->Prop} {s:Shared} {S:Addr}
theorem Ew {Q:Bool->Shared->Prop} (hT:s.TypeIs (.ref S) "set") (h:Q false s):wpAny (model P w) A (Builtin.List.listLengthHint (.ref S)) Q E s:=by
 unfold Builtin.List.listLengthHint; refine wpAny_bind (wpAny_specialOf hT PySem.F.slot_set_len.lookup ?_)
 generalize hid:("set.__len__" : String)=id0
 wp_delta
 rw[show splitId id0=some ("set","__len__") from by subst hid; decide+kernel]
 subst hid
 refine wpAny_bind (wpAny_isInstance (T:="set") (b:=true) hT (by rw[isSubtype_type]; kernel_rfl) ?_)
 refine wpAny_ite_split (fun z=>absurd z (by decide)) (fun _=>wpAny_ite_split (fun _=>?_) (fun z=>absurd (by decide+kernel) z))
 exact wpAny_bind (wpAny_typeOf hT (wpAny_pure h))
theorem Fg {b:Bool} {ks:List Int} {Q:Value->Shared->Prop} (hh:A.handled=none) (hb:b=Ez w) (hS:j7 P w b s.heap S ks) (hz:ks.length<=sizeLine)
  (h:∀ (I:Addr) (fp:List Addr) (n:Nat) (vs:List Value) (ns:List Int) (St:Nat->Heap->Prop) (s':Shared),Walks P w A I fp [I] n (fun i v=>vs[i]? = some v) St->St 0 s'.heap->IntsAre vs ns->ns.Perm ks->vs.length=n->(∀ x∈fp,x=S∨s.heap.objs.size<=x)->s.heap.objs.size<=I →
   s'.os=s.os->s'.gens=s.gens->(∀ b o,s.heap.get? b=some o->s'.heap.get? b=some o)->Q (.ref I) s'):wpAny (model P w) A (pyIter (.ref S)) Q E s:=by
 obtain⟨o,es,ep,t,ho,hx,hd,hel,hf,tk,ns,hi,hp⟩:=hS
 have hT:s.TypeIs (.ref S) "set":=⟨o,ho,hx.1⟩
 have hlt:S < s.heap.objs.size:=Heap.lt_size ho
 refine wpAny_pyIter_slot hT PySem.F.slot_set_iter (wpAny_call_entry PySem.F.slot_set_iter hT nR ?_ (PySem.F.args_set_iter_1 _))
 refine (show wpAny _ _ (Builtin.Frozenset.sizeOf S >>= _) _ _ s from ?_)
 unfold Builtin.Frozenset.sizeOf
 refine wpAny_bind (wpAny_bind (wpAny_setEntries_of ho hd hf (wpAny_pure ?_)))
 unfold setDrawn setsByText
 refine wpAny_bind (wpAny_bind (wpAny_setState_of ho hd hf ?_))
 dsimp only
 refine wpAny_bind (wpAny_bind (wpAny_askSetting (wpAny_pure (wpAny_pure ?_))))
 have hps:t.place.size=es.size:=by
  simp only[SetTable.fits,Bool.and_eq_true,beq_iff_eq] at hf
  exact hf.1
 have hlen:(es.toList.map (·.2)).length=es.size:=by rw[List.length_map,Array.length_toList]
 have hez:es.size<=sizeLine:=by
  have h1:=hi.length
  have h2:=hp.length_eq
  lia
 have start:∀ (vs:List Value) (ns':List Int) (St:Nat->Heap->Prop),Walks P w A s.heap.objs.size [s.heap.objs.size,S] [s.heap.objs.size] es.size (fun i v=>vs[i]? = some v) St->(∀ h,SIt h s.heap.objs.size S (.int (0:Nat) 0) 0 es.size ep->h.get? S=some o->St 0 h) →
   IntsAre vs ns'->ns'.Perm ks->vs.length=es.size->wpAny (model P w) A.in1 (do
    let first ← pure (rawInt 0)
    let e ← setEpoch S
    let r ← newFields "set_iterator" [first,rawInt 0,Value.ref S,rawInt (es.size:Int),rawInt (e:Int)]
    ret r) (fun fin s'=>∃ v,fin=Fin.done (Flow.ret v)/\∃ T' r,s'.TypeIs v T'/\typeLookup (Value.type T') (Str.ofString "__next__")=pure (some r)/\Q v s') E s:=fun vs ns' St W hst hi' hp' hl'=>by
  refine wpAny_bind (wpAny_pure (wpAny_bind (wpAny_setEpoch_of ho hd hf (wpAny_bind (wpAny_newObj_type (wpAny_pure ?_))))))
  have g:(s.heap.push { cls:=.type "set_iterator",data:=.fields [rawInt 0,rawInt 0,Value.ref S,rawInt (es.size:Int),rawInt (ep:Int)].toArray }).get? s.heap.objs.size=some { cls:=.type "set_iterator",data:=.fields [rawInt 0,rawInt 0,Value.ref S,rawInt (es.size:Int),rawInt (ep:Int)].toArray }:=Heap.get?_push_size _ rfl
  refine⟨_,rfl,"set_iterator",_,⟨_,g,rfl⟩,bF.lookup,?_⟩
  refine h s.heap.objs.size [s.heap.objs.size,S] es.size vs ns' St _ W (hst _ g (Heap.get?_push_of_some _ ho)) hi' hp' hl' (fun x hx'=>?_) (Nat.le_refl _) rfl rfl fun b' o' e=>Heap.get?_push_of_some _ e
  rcases List.mem_cons.mp hx' with rfl | hx'
  ·exact .inr (Nat.le_refl _)
  ·exact .inl (List.mem_singleton.mp hx')
 have hne:S≠s.heap.objs.size:=Nat.ne_of_lt hlt
 cases hB:w.params.followText "set-order" with
 | true =>
  refine wpAny_ite_false (decide_eq_false (show ¬ (!w.params.followText "set-order" && (!t.plain && decide (es.size > 1)))=true by rw[hB]; exact Bool.false_ne_true)) ?_
  have pp:=mK (w.params.setOrder S ep) es
  obtain⟨ms,h1,h2⟩:=gQ (pp.symm.map (·.2)) hi
  exact start _ ms _ (Ak hh hne hB hd hf) (fun h' q1 q2=>⟨⟨0,0,q1⟩,q2⟩) h1 (h2.trans hp) (by rw[List.length_map,pp.length_eq,Array.length_toList])
 | false =>
  have hled:t.led=true:=by
   rw[tk.led,hb]
   unfold Ez
   rw[hB]
   rfl
  cases hD:(!t.plain && decide (es.size > 1)) with
  | false =>
   refine wpAny_ite_false (decide_eq_false (show ¬ (!w.params.followText "set-order" && (!t.plain && decide (es.size > 1)))=true by rw[hD,Bool.and_false]; exact Bool.false_ne_true)) ?_
   have hpl:t.plain=true∨es.size<=1:=by
    rw[Bool.and_eq_false_iff] at hD
    rcases hD with q | q
    ·exact .inl (by simpa using q)
    ·exact .inr (by have:=of_decide_eq_false q; lia)
   have hris:Ris t.place:=by
    rcases hpl with q | q
    ·exact tk.ris q
    ·unfold Ris
     have hl1:t.place.toList.length<=1:=by rw[Array.length_toList]; lia
     generalize t.place.toList=l at hl1
     match l,hl1 with
     | [],_=>exact List.Pairwise.nil
     | [x],_=>exact List.pairwise_singleton _ _
   exact start _ ns _ (zB hh hne hB hd hf hled hpl hris) (fun h' q1 q2=>⟨⟨0,q1⟩,q2⟩) hi hp hlen
  | true =>
   refine wpAny_ite_true (decide_eq_true (show (!w.params.followText "set-order" && (!t.plain && decide (es.size > 1)))=true by rw[hD,hB]; rfl)) ?_
   refine wpAny_bind (uL es.size (List.range es.size) s List.length_range fun pl d pp=>?_)
   simp only[newTuple]
   have lp:pl.length=es.size:=by rw[pp.length_eq,List.length_range]
   refine wpAny_bind (wpAny_newObj_type ?_ (show (dg pl).toArray.size<=sizeLine by unfold dg; rw[List.size_toArray,List.length_map]; lia))
   have sz1:(s.heap.push { cls:=.type "tuple",data:=.seq (dg pl).toArray }).objs.size=s.heap.objs.size+1:=Heap.size_push _ _
   have gT:(s.heap.push { cls:=.type "tuple",data:=.seq (dg pl).toArray }).get? s.heap.objs.size=some { cls:=.type "tuple",data:=.seq (dg pl).toArray }:=Heap.get?_push_size _ rfl
   have ho1:(s.heap.push { cls:=.type "tuple",data:=.seq (dg pl).toArray }).get? S=some o:=Heap.get?_push_of_some _ ho
   refine wpAny_bind (wpAny_setEpoch_of (o:=o) (es:=es) (t:=t) ho1 hd hf (wpAny_bind (wpAny_newObj_type (wpAny_pure ?_))))
   have g:((s.heap.push { cls:=.type "tuple",data:=.seq (dg pl).toArray }).push { cls:=.type "set_iterator",data:=.fields [Value.ref s.heap.objs.size,rawInt 0,Value.ref S,rawInt (es.size:Int),rawInt (ep:Int)].toArray }).get? (s.heap.push { cls:=.type "tuple",data:=.seq (dg pl).toArray }).objs.size=some { cls:=.type "set_iterator",data:=.fields [Value.ref s.heap.objs.size,rawInt 0,Value.ref S,rawInt (es.size:Int),rawInt (ep:Int)].toArray }:=Heap.get?_push_size _ rfl
   refine⟨_,rfl,"set_iterator",_,⟨_,g,rfl⟩,bF.lookup,?_⟩
   have hne1:S≠(s.heap.push { cls:=.type "tuple",data:=.seq (dg pl).toArray }).objs.size:=by
    rw[sz1]
    exact Nat.ne_of_lt (Nat.lt_succ_of_lt hlt)
   have hne2:s.heap.objs.size≠(s.heap.push { cls:=.type "tuple",data:=.seq (dg pl).toArray }).objs.size:=by
    rw[sz1]
    exact Nat.ne_of_lt (Nat.lt_succ_self _)
   have hv:(pl.map fun j=>(es.getD j (0,.none)).2).Perm (es.toList.map (·.2)):=by
    refine (pp.map _).trans ?_
    have e:(List.range es.size).map (fun j=>(es.getD j (0,Value.none)).2)=es.toList.map (·.2):=by
     apply List.ext_getElem?
     intro i
     have ea:es.toList[i]? = es[i]?:=Array.getElem?_toList
     rw[List.getElem?_map,List.getElem?_map,ea]
     by_cases hi':i < es.size
     ·rw[List.getElem?_range hi',Array.getElem?_eq_getElem hi']
      simp [Array.getD_eq_getD_getElem?,Array.getElem?_eq_getElem hi']
     ·have er:(List.range es.size)[i]? = none:=List.getElem?_eq_none (by rw[List.length_range]; lia)
      rw[er,Array.getElem?_eq_none (by lia)]
      rfl
    rw[e]
   have le1:s.heap.objs.size<=(s.heap.push { cls:=.type "tuple",data:=.seq (dg pl).toArray }).objs.size:=by
    rw[sz1]
    exact Nat.le_succ _
   obtain⟨ms,h1,h2⟩:=gQ hv.symm hi
   refine h _ [(s.heap.push { cls:=.type "tuple",data:=.seq (dg pl).toArray }).objs.size,S,s.heap.objs.size] es.size _ ms _ _ (zK (T:=s.heap.objs.size) hh hne1 hne2 hd hf pp) ⟨g,Heap.get?_push_of_some _ ho1,_,Heap.get?_push_of_some _ gT,rfl,0,rfl⟩ h1 (h2.trans hp) (by rw[List.length_map]; exact lp) (fun x hx'=>?_) le1 rfl rfl fun b' o' e=>Heap.get?_push_of_some _ (Heap.get?_push_of_some _ e)
   rcases List.mem_cons.mp hx' with rfl | hx'
   ·exact .inr le1
   ·rcases List.mem_cons.mp hx' with rfl | hx'
    ·exact .inl rfl
    ·exact .inr (by rw[List.mem_singleton.mp hx']; exact Nat.le_refl _)
theorem vL {ks:List Int} {Q:List Value->Shared->Prop} (hh:A.handled=none) (hS:j7 P w (Ez w) s.heap S ks) (hz:ks.length<=sizeLine)
  (h:∀ (vs:List Value) (ns:List Int) (s':Shared),IntsAre vs ns->ns.Perm ks->s.heap.objs.size<=s'.heap.objs.size->s'.os=s.os->s'.gens=s.gens->(∀ b o,s.heap.get? b=some o->s'.heap.get? b=some o)->Q vs s'):wpAny (model P w) A (collect (.ref S)) Q E s:=by
 obtain⟨o,es,ep,t,ho,hx,_⟩:=id hS
 have hlt:S < s.heap.objs.size:=Heap.lt_size ho
 have hSl:s.heap.objs.size≠S:=Nat.ne_of_gt hlt
 unfold collect
 refine wpAny_bind (wpAny_runValue (codeAny_builtin PySem.F.entry_proto_collect ?_))
 rw[Around.under_plainId PySem.F.plain_proto_collect _]
 refine (show wpAny _ A.in1 (newList [] >>= fun l=>again (.builtin "list.__iadd__" ⟨[l,.ref S],[]⟩)) _ _ s from wpAny_bind (wpAny_newObj_type ?_))
 refine wpAny_pure ⟨plainId_quiet PySem.F.plain_list_iadd _,codeAny_builtin PySem.F.entry_list_iadd ?_⟩
 rw[Around.under_plainId PySem.F.plain_list_iadd _]
 generalize hN:s.heap.push { cls:=.type "list",data:=.seq ([]:List Value).toArray }=h1
 have gL:h1.get? s.heap.objs.size=some { cls:=.type "list",data:=.seq ([]:List Value).toArray }:=by rw[← hN]; exact Heap.get?_push_size _ rfl
 have k1:∀ b o,s.heap.get? b=some o->h1.get? b=some o:=fun b o e=>by rw[← hN]; exact Heap.get?_push_of_some _ e
 have sz1:h1.objs.size=s.heap.objs.size+1:=by rw[← hN]; exact Heap.size_push _ _
 have hT:Shared.TypeIs { s with heap:=h1 } (.ref S) "set":=⟨o,k1 _ _ ho,hx.1⟩
 refine (show wpAny _ A.in1 (Builtin.List.listExtendWith (.ref s.heap.objs.size) (.ref S) (.ref s.heap.objs.size)) _ _ { s with heap:=h1 } from ?_)
 unfold Builtin.List.listExtendWith; refine wpAny_bind (wpAny_typeOf hT ?_)
 have q1:Builtin.List.listSameRef (.ref s.heap.objs.size) (.ref S)=false:=by simp [Builtin.List.listSameRef,hSl]
 have q2:(Value.type "set" == Value.type "list")=false:=by decide
 have q3:(Value.type "set" == Value.type "tuple")=false:=by decide
 simp only[q1,q2,q3,Bool.or_false,Bool.false_eq_true,if_false]
 refine wpAny_bind (Fg (s:={ s with heap:=h1 }) hh rfl (kI (fun o e=>k1 S o e) hS) hz fun I fp n vs ns St s2 W st hi hp hl hfp hI os2 gs2 k2=>?_)
 have gL2:=k2 _ _ gL
 have hTs:s2.TypeIs (.ref S) "set":=⟨o,k2 _ _ (k1 _ _ ho),hx.1⟩
 have hLf:s.heap.objs.size ∉ fp:=fun z=>by
  rcases hfp _ z with q | q
  ·exact hSl q
  ·have q':h1.objs.size<=s.heap.objs.size:=q
   rw[sz1] at q'
   exact absurd q' (Nat.not_succ_le_self _)
 have hz':n<=sizeLine:=by
  have e1:=hi.length
  have e2:=hp.length_eq
  lia
 have key:∀ (R:Result->Shared->Prop),(∀ (s':Shared) (c':Nat),s'.heap.get? s.heap.objs.size=some { cls:=.type "list",dict:=none,data:=.seq vs.toArray c',slots:=#[] }->s'.os=s.os->s'.gens=s.gens->(∀ b o,s.heap.get? b=some o->s'.heap.get? b=some o)->R (.ok (.ret (.ref s.heap.objs.size))) s') →
   ∀ (h':Heap) (c tk:Nat),St 0 h'->(∀ b o,b≠s.heap.objs.size->s2.heap.get? b=some o->h'.get? b=some o)->h'.get? s.heap.objs.size=some { cls:=.type "list",data:=.seq #[] c } →
   codeAny (model P w) A (.builtin "list.extend.loop" ⟨[.ref s.heap.objs.size,.ref I,.ref s.heap.objs.size],[]⟩) R { s2 with heap:=h',toks:=tk }:=fun R hR h' c tk st' kp gl=>by
  refine codeAny_extend_loopS W.toS hz' s.heap.objs.size hLf _ n 0 _ #[] c rfl (Nat.zero_le _) st' gl (ItemsOf.nil _) fun s' acc' c' hm gL' hacc=>?_
  have eacc:acc'=vs.toArray:=by
   apply Array.ext_getElem?
   intro j
   have ev:vs.toArray[j]? = vs[j]?:=List.getElem?_toArray
   rw[ev]
   by_cases hj:j < acc'.size
   ·have e:=hacc.2 j acc'[j] (Array.getElem?_eq_getElem hj)
    rw[Array.getElem?_eq_getElem hj]
    exact e.symm
   ·rw[Array.getElem?_eq_none (by lia),List.getElem?_eq_none (by have:=hacc.1; lia)]
  rw[eacc] at gL'
  refine hR s' c' gL' (hm.os.trans os2) (hm.gens.trans gs2) fun b o' e=>?_
  have hbl:b < s.heap.objs.size:=Heap.lt_size e
  refine hm.heap b o' ?_ (kp b o' (Nat.ne_of_lt hbl) (k2 _ _ (k1 _ _ e)))
  rw[List.mem_cons,List.mem_singleton]
  rintro (z | z)
  ·exact absurd z (Nat.ne_of_lt hbl)
  ·have q:h1.objs.size<=I:=hI
   rw[sz1,← z] at q
   exact absurd (Nat.lt_of_lt_of_le hbl (Nat.le_of_succ_le q)) (Nat.lt_irrefl _)
 refine wpAny_bind (wpAny_holding (Ew hTs ?_))
 have fin:∀ (s':Shared) (c':Nat),s'.heap.get? s.heap.objs.size=some { cls:=.type "list",dict:=none,data:=.seq vs.toArray c',slots:=#[] }->s'.os=s.os->s'.gens=s.gens->(∀ b o,s.heap.get? b=some o->s'.heap.get? b=some o) →
   wpAny (model P w) A (load s.heap.objs.size >>= fun o=>match o.data with | .seq xs _=>pure xs.toList | _=>unsupported "internal:collect") Q E s':=fun s' c' g e1 e2 e3=>wpAny_bind (wpAny_load g (wpAny_pure (h vs ns s' hi hp (Nat.le_of_lt (Heap.lt_size g)) e1 e2 e3)))
 refine wpAny_ite_split (fun _=>?_) (fun _=>wpAny_pure ⟨plainId_quiet PySem.F.plain_extend_loop _,key _ (fun s' c' g e1 e2 e3=>fin s' c' g e1 e2 e3) s2.heap _ s2.toks st (fun b o _ e=>e) gL2⟩)
 refine wpAny_bind (wpAny_rule (wpAny_bind (show wpAny _ _ (updateSeq s.heap.objs.size (·.push .none) >>= fun _=>updateSeq s.heap.objs.size (·.pop)) _ _ _ from ?_)))
 refine wpAny_bind (wpAny_updateSeq gL2 rfl ?_)
 have g3:=Heap.get?_update_self (Obj.mapSeq (·.push Value.none)) gL2 rfl
 refine wpAny_updateSeq (hz:=by seq_fits) g3 rfl ?_
 have g4:=Heap.get?_update_self (Obj.mapSeq (·.pop)) g3 rfl
 have oth:∀ b o',b≠s.heap.objs.size->s2.heap.get? b=some o'->((s2.heap.update s.heap.objs.size (Obj.mapSeq (·.push Value.none))).update s.heap.objs.size (Obj.mapSeq (·.pop))).get? b=some o':=fun b o' hb e=>by
  rw[Heap.get?_update_other _ _ (Ne.symm hb),Heap.get?_update_other _ _ (Ne.symm hb)]
  exact e
 exact wpAny_pure ⟨plainId_quiet PySem.F.plain_extend_loop _,key _ (fun s' c' g e1 e2 e3=>fin s' c' g e1 e2 e3) _ _ s2.toks (W.frame 0 _ _ st fun b hb o' e=>oth b o' (fun z=>hLf (by rw[← z]; exact hb)) e) oth g4⟩
end
end L2
namespace L2
open PySem PySem.Spec PyProof.Rows
section
variable {P:Program} {w:World} {A:Around} {E:Value->Shared->Prop} {s:Shared} {S:Addr}
theorem zH {ks:List Int} {Q:Value->Shared->Prop} (hh:A.handled=none) (hS:j7 P w (Ez w) s.heap S ks) (h64:ks.length < 64)
  (h:∀ (l:Addr) (vs:List Value) (ns:List Int) (c:Nat) (s':Shared),IntsAre vs ns->ns.Perm ks->ns.Pairwise (·<=·)->s'.heap.get? l=some { cls:=.type "list",data:=.seq vs.toArray c }->s.heap.objs.size<=l->s'.os=s.os->s'.gens=s.gens →
   (∀ b o,s.heap.get? b=some o->s'.heap.get? b=some o)->Q (.ref l) s'):wpAny (model P w) A (call (.builtin "sorted") [.ref S]) Q E s:=by
 refine Calls.call_function_entry kind_sorted plain_sorted entry_sorted (args_sorted1 _) ?_
 unfold Builtin.«sorted»; refine wpAny_bind (m:=checkCount "sorted" 1 1 _) (wpAny_pure ?_)
 refine wpAny_bind (vL hh hS (Nat.le_of_lt (Nat.lt_of_lt_of_le h64 (by decide))) fun vs ns s1 hi hp hsz os1 gs1 k1=>?_)
 have hl:vs.length < 64:=by
  have e1:=hi.length
  have e2:=hp.length_eq
  lia
 refine wpAny_bind (wpAny_newList ?_)
 have g1:(s1.heap.push (seqObj "list" vs.toArray 0)).get? s1.heap.objs.size=some (seqObj "list" vs.toArray 0):=Heap.get?_push_size _ rfl
 refine wpAny_bind (wpAny_holding (wpAny_call_entry slot_list_sort ⟨_,g1,rfl⟩ entry_list_sort (list_sort_tree g1 hi hl fun out ns' a1 a2 a3=>⟨_,rfl,?_⟩) (args_list_sort _)))
 obtain⟨c,hc⟩:=sortedHeap_at (out:=out) g1
 refine wpAny_pure ⟨_,rfl,h s1.heap.objs.size out.toList ns' c _ a1 (a2.trans hp) a3 ?_ hsz os1 gs1 fun b o e=>?_⟩
 ·exact hc
 ·have e1:=k1 b o e
  have lt:=Heap.lt_size e1
  rw[sortedHeap_old (Nat.ne_of_lt lt) (by rw[Heap.size_push]; exact Nat.lt_succ_of_lt lt)]
  exact Heap.get?_push_of_some _ e1
end
end L2
namespace L2
open PySem PySem.Spec PyProof.Rows
noncomputable def ddI (ns:List Int):List Int:=firstMet (fun i=>ns.getD i 0) ns.length
theorem Inv.moved {X:Cx} {pins:List (Addr × Obj)} {σ:St} {H:Hp} {s s':Shared} (I:Inv X pins σ H s) (ho:s'.os=s.os) (hg:s'.gens=s.gens) (k:∀ b u,s.heap.get? b=some u->s'.heap.get? b=some u):Inv X pins σ H s':=by
 have J:=I.kept (t':=s.toks) k
 exact⟨J.ok,ho.trans I.os,by rw[hg]; exact I.bare,J.base,J.loc,J.cell,J.free,J.freeC,J.pin,J.hok,J.len⟩
theorem Inv.LK {X:Cx} {pins:List (Addr × Obj)} {σ:St} {H:Hp} {s s':Shared} {l:Addr} {ys:List V} {its:List Value} {c:Nat} (I:Inv X pins σ H s) (ho:s'.os=s.os) (hg:s'.gens=s.gens) (k:∀ b u,s.heap.get? b=some u->s'.heap.get? b=some u)
  (hl:s.heap.objs.size<=l) (hv:Vals ys its) (hz:ys.length<=sizeLine) (g:s'.heap.get? l=some { cls:=.type "list",data:=.seq its.toArray c }):Inv X pins σ (upd H l (.lst ys)) s':=by
 have J:=I.laid (t':=s.toks) (o:=.lst ys) k hl ⟨hz,its,c,hv,g⟩
 exact⟨J.ok,ho.trans I.os,by rw[hg]; exact I.bare,J.base,J.loc,J.cell,J.free,J.freeC,J.pin,J.hok,J.len⟩
noncomputable def tSS (K:W.Frag) (te:TA):TE:=fun σ H Q=>te σ H fun xs H1=>∃ (a:Addr) (ns:List Int),xs=[.ref a]/\SqL K H1 a (ns.map V.int)/\ns.length<=4000/\(ddI ns).length < 64/\∀ ms:List Int,ms.Perm (ddI ns)->ms.Pairwise (·<=·)->∀ l,H1 l=none->Q (.ref l) (upd H1 l (.lst (ms.map V.int)))
theorem tG {X:Cx} {e:Expr} {te:TA} {p1 p2 q1 q2:Pos} (hc:X.calm=true) (hg1:Gl X "sorted") (hm1:X.mg "sorted" = none) (hg2:Gl X "set") (hm2:X.mg "set" = none) (ha:PA X [e] te)
  (hb1 : autoParam (bootBuiltins "sorted" = some (.builtin "sorted")) L2.az8._auto_1) (hb2 : autoParam (bootBuiltins "set" = some (.type "set")) L2.az8._auto_1)
  (he1 : autoParam (starEach [.Call (.Name "set" p2) [e] [] q2] X.env=(false,eval (.Call (.Name "set" p2) [e] [] q2) X.env)::starEach [] X.env) L2.az5._auto_1) (hp1 : autoParam ((backTo q1 (starEach [] X.env)).any (·.1)=false) L2.az5._auto_1)
  (he2 : autoParam (starEach [e] X.env=(false,eval e X.env)::starEach [] X.env) L2.az5._auto_1) (hp2 : autoParam ((backTo q2 (starEach [] X.env)).any (·.1)=false) L2.az5._auto_1) :
  PE X (.Call (.Name "sorted" p1) [.Call (.Name "set" p2) [e] [] q2] [] q1) (tSS X.K te):=by
 intro pins s σ H Q I h
 refine wpAny_Call_Name_kw (iC I hg1 hm1 hb1 ?_ (by decide) (by decide))
 refine PyProof.Rows.callWith_builtin1 ?_ he1 hp1
 rw[he1]
 refine (show wpAny _ _ (spliced ((false,eval (.Call (.Name "set" p2) [e] [] q2) X.env)::backTo q1 (starEach [] X.env))) _ _ s from Calls.spliced_cons ?_)
 refine wpAny_Call_Name_kw (iC I hg2 hm2 hb2 ?_ (by decide) (by decide))
 refine PyProof.Rows.callWith_type1 (thn (ha q2 pins s σ H _ I h) fun us s1 ⟨vs,H1,I1,r1,q⟩=>?_) he2 hp2
 obtain⟨a,ns,rfl,hq,hl,h64,hQ⟩:=q
 obtain⟨u,rfl,ru⟩:=vals1 r1
 cases ru
 obtain⟨its,rv,pl,_⟩:=I1.list hq
 have hi:IntsAre its ns:=intsAre_of rv
 have hsz:its.toArray.size=ns.length:=by rw[List.size_toArray]; exact hi.length
 refine vO (I1.ok.hd hc) pl.isList hi (by rw[hsz]; exact Nat.lt_of_le_of_lt (Nat.succ_le_succ hl) (by decide)) fun h' tk hS hk=>?_
 rw[hsz] at hS
 have I2:Inv X pins σ H1 { s1 with heap:=h',toks:=tk }:=I1.kept (t':=tk) fun b o e=>hk b o (Heap.lt_size e) e
 refine (show wpAny _ _ (spliced []) _ _ _ from Calls.spliced_nil ?_)
 refine zH (I1.ok.hd hc) hS h64 fun l vs ms c s3 hi3 hp3 hw3 g3 hl3 os3 gs3 k3=>?_
 have hml:(ms.map V.int).length<=sizeLine:=by
  rw[List.length_map,hp3.length_eq]
  exact Nat.le_of_lt (Nat.lt_of_lt_of_le h64 (by decide))
 exact⟨.ref l,_,I2.LK os3 gs3 k3 hl3 (jL hi3) hml g3,rfl,hQ ms hp3 hw3 l (I2.hok.fresh hl3)⟩
end L2
namespace L2
open PySem PySem.Spec PyProof.Rows
mutual
noncomputable def eqD:Dm->Dm->Bool
 | .tup ds,.tup es=>yJ ds es
 | .lst ds,.lst es=>yJ ds es
 | .tup _,_=>false
 | .lst _,_=>false
 | .non,.non=>true
 | .bl a,.bl b=>a == b
 | .bl a,.int b=>(if a then 1 else 0) == b
 | .int a,.bl b=>a == (if b then 1 else 0)
 | .int a,.int b=>a == b
 | .str a,.str b=>a == b
 | _,_=>false
noncomputable def yJ:List Dm->List Dm->Bool
 | [],[]=>true
 | d::ds,e::es=>eqD d e && yJ ds es
 | _,_=>false
end
mutual
theorem mJ:∀ d:Dm,eqD d d=true
 | .non=>by rw[eqD]
 | .bl b=>by rw[eqD]; exact beq_self_eq_true b
 | .int i=>by rw[eqD]; exact beq_self_eq_true i
 | .str x=>by rw[eqD]; exact beq_self_eq_true x
 | .tup ds=>by rw[eqD]; exact nF ds
 | .lst ds=>by rw[eqD]; exact nF ds
theorem nF:∀ ds:List Dm,yJ ds ds=true
 | []=>by rw[yJ]
 | d::r=>by rw[yJ,mJ d,nF r]; rfl
end
mutual
theorem CQ {H:Hp}:∀ {v:V} {d e:Dm},Rep H v d->Rep H v e->d=e
 | _,_,_,.non,h=>by cases h; rfl
 | _,_,_,.bl b,h=>by cases h; rfl
 | _,_,_,.int i,h=>by cases h; rfl
 | _,_,_,.str x,h=>by cases h; rfl
 | _,_,_,.tup h _ r,h2=>by
  cases h2 with
  | tup h' _ r' =>
   rw[h] at h'
   cases h'
   rw[jO r r']
  | lst h' _ _ =>
   rw[h] at h'
   cases h'
 | _,_,_,.lst h _ r,h2=>by
  cases h2 with
  | lst h' _ r' =>
   rw[h] at h'
   cases h'
   rw[jO r r']
  | tup h' _ _ =>
   rw[h] at h'
   cases h'
theorem jO {H:Hp}:∀ {vs:List V} {ds es:List Dm},lZ H vs ds->lZ H vs es->ds=es
 | _,_,_,.nil,h=>by cases h; rfl
 | _,_,_,.cons h r,h2=>by
  cases h2 with
  | cons h' r'=>rw[CQ h h',jO r r']
end
theorem jj : ∀ ds es : List Dm, ((List.range (min ds.length es.length)).all (fun j => eqD (ds.getD j .non) (es.getD j .non)) && ds.length == es.length) = yJ ds es
  | [], [] => by rw [yJ]; rfl
  | [], e :: es => by rw [yJ]; · rfl
                      all_goals simp
  | d :: ds, [] => by rw [yJ]; · rfl
                      all_goals simp
  | d :: ds, e :: es => by
    have ih := jj ds es
    have em : min (d :: ds).length (e :: es).length = min ds.length es.length + 1 := by rw [List.length_cons, List.length_cons]; lia
    have el : ((d :: ds).length == (e :: es).length) = (ds.length == es.length) := by simp
    rw [em, List.range_succ_eq_map, List.all_cons, List.all_map, el, yJ, ← ih, Bool.and_assoc]
    rfl
theorem FJ {ds es:List Dm} (h:ds.length≠es.length):yJ ds es=false:=by
 rw[← jj]
 have:(ds.length == es.length)=false:=by simpa using h
 rw[this,Bool.and_false]
theorem uz {ds es:List Dm} (h:ds.length=es.length):(List.range ds.length).all (fun j=>eqD (ds.getD j .non) (es.getD j .non))=yJ ds es:=by
 rw[← jj,← h,Nat.min_self,beq_self_eq_true,Bool.and_true]
section
variable {X:Cx} {pins:List (Addr × Obj)} {s:Shared} {σ:St} {H:Hp}
theorem jJ {vs:List V} {ds:List Dm} {its:List Value} (r:lZ H vs ds) (rv:Vals vs its) {j:Nat} (h:j < its.length):∃ v,vs[j]? = some v/\RelV v its[j]/\Rep H v (ds.getD j .non):=by
 have l1:=rv.length
 obtain⟨v,d,e1,e2,e3⟩:=r.get (i:=j) (by lia)
 obtain⟨u,hu,ru⟩:=rv.get e1
 rw[List.getElem?_eq_getElem h] at hu
 cases hu
 exact⟨v,e1,ru,by rw[List.getD_eq_getElem?_getD,e2]; exact e3⟩
theorem qL {ds:List Dm} {j:Nat} (h:j < ds.length):(ds.getD j .non).dep<=lE ds:=by
 rw[List.getD_eq_getElem?_getD,List.getElem?_eq_getElem h]
 exact lW (List.getElem?_eq_getElem h)
theorem jd (I : Inv X pins σ H s) (d e : Dm) (v u : V) (x y : Value) (A : Around) (hd : d.dep = 0) (hu : A.units < cLine) (rv : Rep H v d) (ru : Rep H u e) (rx : RelV v x) (ry : RelV u y) : SeqAt.EqAt A s x y (eqD d e) := by
  cases rv with
  | tup h l r => rw [Dm.dep] at hd; lia
  | lst h l r => rw [Dm.dep] at hd; lia
  | non =>
    cases rx
    cases ru with
    | tup h l r => cases ry; obtain ⟨its, _, p, _⟩ := I.tuple (SqT.of h); rw [eqD]; · exact SeqAt.EqAt.none_tuple (show s.heap.IsTuple _ its.toArray from p) hu
                   all_goals simp
    | lst h l r => cases ry; obtain ⟨its, _, p, _⟩ := I.list (SqL.of h); rw [eqD]; · exact SeqAt.EqAt.none_list p.isList hu
                   all_goals simp
    | non => cases ry; rw [eqD]; exact SeqAt.EqAt.same _
    | bl b => cases ry; rw [eqD]; · exact SeqAt.EqAt.none_bool b
              all_goals simp
    | int b => obtain ⟨t, rfl⟩ := ry; rw [eqD]; · exact SeqAt.EqAt.none_int b t
               all_goals simp
    | str b => obtain ⟨t, rfl⟩ := ry; rw [eqD]; · exact SeqAt.EqAt.none_str b t
               all_goals simp
  | bl a =>
    cases rx
    cases ru with
    | tup h l r => cases ry; obtain ⟨its, _, p, _⟩ := I.tuple (SqT.of h); rw [eqD]; · exact SeqAt.EqAt.bool_tuple a (show s.heap.IsTuple _ its.toArray from p) hu
                   all_goals simp
    | lst h l r => cases ry; obtain ⟨its, _, p, _⟩ := I.list (SqL.of h); rw [eqD]; · exact SeqAt.EqAt.bool_list a p.isList hu
                   all_goals simp
    | non => cases ry; rw [eqD]; · exact SeqAt.EqAt.bool_none a
             all_goals simp
    | bl b => cases ry; rw [eqD]; exact SeqAt.EqAt.bool_bool a b
    | int b => obtain ⟨t, rfl⟩ := ry; rw [eqD]; exact SeqAt.EqAt.bool_int a b t
    | str b => obtain ⟨t, rfl⟩ := ry; rw [eqD]; · exact SeqAt.EqAt.bool_str a b t
               all_goals simp
  | int a =>
    obtain ⟨t', rfl⟩ := rx
    cases ru with
    | tup h l r => cases ry; obtain ⟨its, _, p, _⟩ := I.tuple (SqT.of h); rw [eqD]; · exact SeqAt.EqAt.int_tuple a t' (show s.heap.IsTuple _ its.toArray from p) hu
                   all_goals simp
    | lst h l r => cases ry; obtain ⟨its, _, p, _⟩ := I.list (SqL.of h); rw [eqD]; · exact SeqAt.EqAt.int_list a t' p.isList hu
                   all_goals simp
    | non => cases ry; rw [eqD]; · exact SeqAt.EqAt.int_none a t'
             all_goals simp
    | bl b => cases ry; rw [eqD]; exact SeqAt.EqAt.int_bool a t' b
    | int b => obtain ⟨t, rfl⟩ := ry; rw [eqD]; exact SeqAt.EqAt.int_int a t' b t
    | str b => obtain ⟨t, rfl⟩ := ry; rw [eqD]; · exact SeqAt.EqAt.int_str a t' b t
               all_goals simp
  | str a =>
    obtain ⟨t', rfl⟩ := rx
    cases ru with
    | tup h l r => cases ry; obtain ⟨its, _, p, _⟩ := I.tuple (SqT.of h); rw [eqD]; · exact SeqAt.EqAt.str_tuple a t' (show s.heap.IsTuple _ its.toArray from p) hu
                   all_goals simp
    | lst h l r => cases ry; obtain ⟨its, _, p, _⟩ := I.list (SqL.of h); rw [eqD]; · exact SeqAt.EqAt.str_list a t' p.isList hu
                   all_goals simp
    | non => cases ry; rw [eqD]; · exact SeqAt.EqAt.str_none a t'
             all_goals simp
    | bl b => cases ry; rw [eqD]; · exact SeqAt.EqAt.str_bool a t' b
              all_goals simp
    | int b => obtain ⟨t, rfl⟩ := ry; rw [eqD]; · exact SeqAt.EqAt.str_int a t' b t
               all_goals simp
    | str b => obtain ⟨t, rfl⟩ := ry; rw [eqD]; exact SeqAt.EqAt.str_str a t' b t
theorem Es (I : Inv X pins σ H s) : ∀ (n : Nat) (d e : Dm) (v u : V) (x y : Value) (A : Around), d.dep ≤ n → A.units + n < cLine → Rep H v d → Rep H u e → RelV v x → RelV u y → SeqAt.EqAt A s x y (eqD d e) := by
  intro n
  induction n with
  | zero =>
    intro d e v u x y A hd hu rv ru rx ry
    exact jd I d e v u x y A (by lia) (by lia) rv ru rx ry
  | succ n ih =>
    intro d e v u x y A hd hu rv ru rx ry
    have hu0 : A.units < cLine := by lia
    have hu1 : A.in1.units + n < cLine := by show A.units + 1 + n < cLine; lia
    cases rv with
    | @tup a xs ds h l r =>
      cases rx
      rw [Dm.dep] at hd
      obtain ⟨its, vl, p, _⟩ := I.tuple (SqT.of h)
      have p : s.heap.IsTuple a its.toArray := p
      cases ru with
      | @tup b ys es h' l' r' =>
        cases ry
        by_cases hab : a = b
        · subst hab
          rw [h] at h'
          cases h'
          rw [jO r r', mJ]
          exact SeqAt.EqAt.same _
        · obtain ⟨its', vl', p', _⟩ := I.tuple (SqT.of h')
          have p' : s.heap.IsTuple b its'.toArray := p'
          have q := SeqAt.RcAt.tuples (e := fun j => eqD (ds.getD j .non) (es.getD j .non)) p p' hu0 fun j h1 h2 => by
            have h1 : j < its.length := by simpa using h1
            have h2 : j < its'.length := by simpa using h2
            obtain ⟨v1, _, r1, p1⟩ := jJ r vl h1
            obtain ⟨v2, _, r2, p2⟩ := jJ r' vl' h2
            rw [List.getElem_toArray, List.getElem_toArray]
            refine ih _ _ v1 v2 _ _ _ ?_ hu1 p1 p2 r1 r2
            have := qL (ds := ds) (j := j) (by have := r.length; have := vl.length; lia)
            lia
          have el : its.toArray.size = ds.length := by rw [List.size_toArray, ← vl.length, r.length]
          have el' : its'.toArray.size = es.length := by rw [List.size_toArray, ← vl'.length, r'.length]
          rw [el, el', jj] at q
          rw [eqD]
          exact SeqAt.EqAt.of_refs hab q
      | lst h' l' r' => cases ry; obtain ⟨its', _, p', _⟩ := I.list (SqL.of h'); rw [eqD]; · exact SeqAt.EqAt.tuple_list p p'.isList hu0
                        all_goals simp
      | non => cases ry; rw [eqD]; · exact SeqAt.EqAt.tuple_none p hu0
               all_goals simp
      | bl b => cases ry; rw [eqD]; · exact SeqAt.EqAt.tuple_bool b p hu0
                all_goals simp
      | int b => obtain ⟨t, rfl⟩ := ry; rw [eqD]; · exact SeqAt.EqAt.tuple_int b t p hu0
                 all_goals simp
      | str b => obtain ⟨t, rfl⟩ := ry; rw [eqD]; · exact SeqAt.EqAt.tuple_str b t p hu0
                 all_goals simp
    | @lst a xs ds h l r =>
      cases rx
      rw [Dm.dep] at hd
      obtain ⟨its, vl, p, _⟩ := I.list (SqL.of h)
      cases ru with
      | @lst b ys es h' l' r' =>
        cases ry
        by_cases hab : a = b
        · subst hab
          rw [h] at h'
          cases h'
          rw [jO r r', mJ]
          exact SeqAt.EqAt.same _
        · obtain ⟨its', vl', p', _⟩ := I.list (SqL.of h')
          have el : its.toArray.size = ds.length := by rw [List.size_toArray, ← vl.length, r.length]
          have el' : its'.toArray.size = es.length := by rw [List.size_toArray, ← vl'.length, r'.length]
          rw [eqD]
          by_cases hl : ds.length = es.length
          · have q := SeqAt.RcAt.lists (e := fun j => eqD (ds.getD j .non) (es.getD j .non)) p.isList p'.isList (by rw [el, el']; exact hl) hu0 fun j h1 h2 => by
              have h1 : j < its.length := by simpa using h1
              have h2 : j < its'.length := by simpa using h2
              obtain ⟨v1, _, r1, p1⟩ := jJ r vl h1
              obtain ⟨v2, _, r2, p2⟩ := jJ r' vl' h2
              rw [List.getElem_toArray, List.getElem_toArray]
              refine ih _ _ v1 v2 _ _ _ ?_ hu1 p1 p2 r1 r2
              have := qL (ds := ds) (j := j) (by have := r.length; have := vl.length; lia)
              lia
            rw [el, uz hl] at q
            exact SeqAt.EqAt.of_refs hab q
          · rw [FJ hl]
            exact SeqAt.EqAt.of_refs hab (SeqAt.RcAt.lists_lengths p.isList p'.isList (by rw [el, el']; simpa using hl) hu0)
      | tup h' l' r' => cases ry; obtain ⟨its', _, p', _⟩ := I.tuple (SqT.of h'); rw [eqD]; · exact SeqAt.EqAt.list_tuple p.isList (show s.heap.IsTuple _ its'.toArray from p') hu0
                        all_goals simp
      | non => cases ry; rw [eqD]; · exact SeqAt.EqAt.list_none p.isList hu0
               all_goals simp
      | bl b => cases ry; rw [eqD]; · exact SeqAt.EqAt.list_bool b p.isList hu0
                all_goals simp
      | int b => obtain ⟨t, rfl⟩ := ry; rw [eqD]; · exact SeqAt.EqAt.list_int b t p.isList hu0
                 all_goals simp
      | str b => obtain ⟨t, rfl⟩ := ry; rw [eqD]; · exact SeqAt.EqAt.list_str b t p.isList hu0
                 all_goals simp
    | non => exact jd I _ e _ u _ y A rfl hu0 .non ru rx ry
    | bl b => exact jd I _ e _ u _ y A rfl hu0 (.bl b) ru rx ry
    | int i => exact jd I _ e _ u _ y A rfl hu0 (.int i) ru rx ry
    | str z => exact jd I _ e _ u _ y A rfl hu0 (.str z) ru rx ry
end
end L2
namespace L2
open PySem PySem.Spec PyProof.Rows
section
variable {X:Cx} {k:Nat}
theorem Ef {H:Hp} {v v':V} {d d':Dm} {x:Value} (r:Rep H v d) (r':Rep H v' d') (h:RelV v x) (h':RelV v' x):d=d':=by
 have e:v=v':=by
  cases r <;> cases r' <;> first
   | rfl
   | (obtain⟨t,e⟩:=h; obtain⟨t',e'⟩:=h'; rw[e] at e'; cases e'; rfl)
   | (obtain⟨t,e⟩:=h; obtain⟨t',e'⟩:=h'; rw[e] at e'; cases e'; done)
   | (obtain⟨t,e⟩:=h; have h':_=_:=h'; rw[e] at h'; cases h'; done)
   | (obtain⟨t,e⟩:=h'; have h:_=_:=h; rw[e] at h; cases h; done)
   | (have h:_=_:=h; have h':_=_:=h'; rw[h] at h'; cases h'; rfl)
   | (have h:_=_:=h; have h':_=_:=h'; rw[h] at h'; cases h'; done)
 subst e
 exact CQ r r'
end
end L2
namespace L2
open PySem PySem.Spec PyProof.Rows
section
variable {X:Cx} {k:Nat}
inductive G9 (n:Nat) (neg:Bool) (x:V) (y:V) (H:Hp) (Q:VK):Prop where
 | mk (d:Dm) (p:Addr) (ys:List V) (es:List Dm) (z0:Rep H x d) (z1:y = .ref p) (z2:H p=some (.lst ys)) (z3:lZ H ys es) (z4:lE es<=n) (z5:Q (.bl (if neg then !es.any (fun e=>eqD e d) else es.any fun e=>eqD e d)) H):G9 n neg x y H Q
noncomputable def Mr (n:Nat) (neg:Bool):R2:=fun x y H Q=>G9 n neg x y H Q
theorem Gf {pins:List (Addr × Obj)} {s:Shared} {σ:St} {H:Hp} {x:V} {v:Value} {d:Dm} {p:Addr} {ys:List V} {es:List Dm} {n:Nat} (I:Inv X pins σ H s) (rx:RelV x v) (rp:Rep H x d) (hp:H p=some (.lst ys)) (re:lZ H ys es) (hd:lE es<=n) (hu:X.A.units+1+n < cLine) :
  ∃ (its:Array Value) (f:Value->Bool),s.heap.IsList p its/\(∀ y,y∈its->SeqAt.EqAt X.A.in1 s y v (f y))/\its.any f=es.any fun e=>eqD e d:=by
 obtain⟨its,vl,pt,_⟩:=I.list (SqL.of hp)
 have lv:=vl.length
 have le:=re.length
 have hat:∀ j (h:j < its.length),∃ v',RelV v' its[j]/\Rep H v' (es.getD j .non):=fun j h=>by
  obtain⟨v',_,r1,p1⟩:=jJ re vl h
  exact⟨v',r1,p1⟩
 have hf:∃ f:Value->Bool,∀ j (h:j < its.length),f its[j]=eqD (es.getD j .non) d:=by
  classical
  refine⟨fun y=>decide (∃ j,∃ h:j < its.length,its[j]=y/\eqD (es.getD j .non) d=true),fun j h=>?_⟩
  cases hq:eqD (es.getD j .non) d with
  | true=>exact decide_eq_true ⟨j,h,rfl,hq⟩
  | false =>
   refine decide_eq_false ?_
   rintro⟨i,hi,e,q⟩
   obtain⟨v1,a1,b1⟩:=hat i hi
   obtain⟨v2,a2,b2⟩:=hat j h
   rw[e] at a1
   rw[Ef b1 b2 a1 a2,hq] at q
   cases q
 obtain⟨f,hf⟩:=hf
 refine⟨its.toArray,f,pt.isList,fun y hy=>?_,?_⟩
 ·obtain⟨j,hj,rfl⟩:=List.getElem_of_mem (show y∈its by simpa using hy)
  obtain⟨v',r1,p1⟩:=hat j hj
  rw[hf j hj]
  refine Es I n _ _ v' x _ _ _ ?_ (show X.A.units+1+n < cLine from hu) p1 rp r1 rx
  have:=qL (ds:=es) (j:=j) (by lia)
  lia
 ·rw[List.any_toArray,Bool.eq_iff_iff,List.any_eq_true,List.any_eq_true]
  constructor
  ·rintro⟨y,hy,q⟩
   obtain⟨j,hj,rfl⟩:=List.getElem_of_mem hy
   rw[hf j hj] at q
   have hj':j < es.length:=by lia
   exact⟨es.getD j .non,by rw[List.getD_eq_getElem?_getD,List.getElem?_eq_getElem hj']; exact List.getElem_mem hj',q⟩
  ·rintro⟨e,he,q⟩
   obtain⟨j,hj,rfl⟩:=List.getElem_of_mem he
   have hj':j < its.length:=by lia
   exact⟨its[j],List.getElem_mem hj',by rw[hf j hj',List.getD_eq_getElem?_getD,List.getElem?_eq_getElem hj]; exact q⟩
theorem yP {n:Nat} (hr:gB k X.A) (hn:n<=50):OpR X (compareOp .NotIn) (Mr n true):=by
 intro pins s σ H x y v u Q I rx ry h
 obtain⟨d,p,ys,es,rp,rfl,hp,re,hd,q⟩:=h
 cases ry
 have hu:=hr.units
 obtain⟨its,f,t,ea,e⟩:=Gf I rx rp hp re hd (by lia)
 exact SeqAt.notIn_listAt f t ea ⟨.bl _,H,I,rfl,by rw[e]; exact q⟩
end
end L2
namespace L2
open PySem PySem.Spec PyProof.Rows
noncomputable def mxD (d:Int):List Int->Int
 | []=>d
 | a::r=>r.foldl max a
theorem gP:∀ (r:List Int) (a:Int),a<=r.foldl max a/\∀ b∈r,b<=r.foldl max a
 | [],a=>⟨Int.le_refl _,by simp⟩
 | c::r,a=>by
  obtain⟨h1,h2⟩:=gP r (max a c)
  rw[List.foldl_cons]
  refine⟨by lia,fun b hb=>?_⟩
  rcases List.mem_cons.mp hb with rfl | hb
  ·lia
  ·exact h2 b hb
theorem qt {n:Int}:∀ {l:List Value} {ns:List Int} {j:Nat},IntsAre l ns->ns[j]? = some n->∃ t,l[j]? = some (.int n t)
 | _,_,j,.nil,h=>by simp at h
 | _,_,0,.cons _ _ _,h=>by
  cases (show some _=some n from h)
  exact⟨_,rfl⟩
 | _,_,j+1,.cons _ _ r,h=>by
  obtain⟨t,e⟩:=qt (j:=j) r (by simpa using h)
  exact⟨t,by simpa using e⟩
noncomputable def dkw (dk:Option (Int × Tok)):List (Str × Value):=dk.toList.map fun d=>(("default" : Str),Value.int d.1 d.2)
section
variable {prog:Program} {w:World} {A:Around} {R:Result->Shared->Prop} {E:Value->Shared->Prop} {s:Shared}
theorem An {it l S:Addr} {items:Array Value} {ns:List Int} (hh:A.handled=none) (hi:IntsAre items.toList ns) (hne:l≠it) (hS1:S≠it) (hS2:S≠l) (kw:List (Str × Value)) :
  ∀ (k j:Nat) (s:Shared) (b:Int) (t:Tok) (c:Nat),ns.length - j=k->j<=ns.length->s.heap.IsListIter it l j->s.heap.IsList l items →
   s.heap.get? S=some { cls:=.type "list",dict:=none,data:=.seq #[.int b t,.int b t] c,slots:=#[] } →
   (∀ t' h' tk,(∀ a o,a≠it->a≠S->s.heap.get? a=some o->h'.get? a=some o)->R (.ok (.ret (.int ((ns.drop j).foldl max b) t'))) { s with heap:=h',toks:=tk }) →
   codeAny (model prog w) A (.builtin "max.loop" ⟨[.ref it,.none,.ref S],kw⟩) R s:=by
 have W:=Walks.list (prog:=prog) (w:=w) (A:=A.in1) hh it l hne items
 have hname:(toString "max"++toString ".loop" : String) = "max.loop":=by decide
 have hsz:items.size=ns.length:=by rw[← Array.length_toList]; exact hi.length
 intro k
 induction k with
 | zero =>
  intro j s b t c hk hj h1 h2 hS hR
  refine codeAny_builtin F.entry_max_loop ?_; rw[Around.under_plainId F.plain_max_loop _]
  show wpAny _ A.in1 (seqItems? (.ref S) >>= _) _ _ s; refine wpAny_bind (wpAny_seqItems hS rfl ?_)
  have ej:j=items.size:=by lia
  show wpAny _ A.in1 (tryCatch (pyNext (.ref it)) _ >>= _) _ _ s; refine wpAny_bind (wpAny_tryCatch (W.done s _ _ (by rw[← ej]; exact⟨h1,h2⟩) fun h' tk hm=>?_))
  have hS':=hm S _ (by simpa using hS1) hS
  show wpAny _ A.in1 (updateSeq S (fun _=>#[]) >>= _) _ _ _; refine wpAny_bind (wpAny_updateSeq hS' rfl (wpAny_bind (wpAny_letGo (wpAny_pure ?_))))
  rw[List.drop_of_length_le (by lia)] at hR
  exact hR t _ tk fun a o ha hb e=>(Heap.get?_update_other _ _ (Ne.symm hb)).trans (hm a o (by simpa using ha) e)
 | succ k ih =>
  intro j s b t c hk hj h1 h2 hS hR
  refine codeAny_builtin F.entry_max_loop ?_; rw[Around.under_plainId F.plain_max_loop _]
  show wpAny _ A.in1 (seqItems? (.ref S) >>= _) _ _ s; refine wpAny_bind (wpAny_seqItems hS rfl ?_)
  have hlt:j < ns.length:=by lia
  obtain⟨u,hu⟩:=qt hi (List.getElem?_eq_getElem hlt)
  have ed:ns.drop j=ns[j]::ns.drop (j+1):=List.drop_eq_getElem_cons hlt
  show wpAny _ A.in1 (tryCatch (pyNext (.ref it)) _ >>= _) _ _ s; refine wpAny_bind (wpAny_tryCatch (W.item j s _ _ (by lia) ⟨h1,h2⟩ fun v h' tk hP st hm=>?_))
  obtain⟨g1,g2⟩:=st
  have ev:v = .int ns[j] u:=by
   have e:items[j]? = some v:=hP
   rw[← Array.getElem?_toList,hu] at e
   exact (Option.some.inj e).symm
  subst ev
  have hS':=hm S _ (by simpa using hS1) hS
  show wpAny _ A.in1 (tryCatch (holding [Value.int ns[j] u,Value.int ns[j] u] (richCompare .Gt (.int ns[j] u) (.int b t) >>= _)) _ >>= _) _ _ _
  refine wpAny_bind (wpAny_tryCatch (wpAny_holding (wpAny_bind ((CmpOf.ints_gt (P:=fun i v=>∃ t,v = .int (if i=0 then ns[j] else b) t) (fun i=>if i=0 then ns[j] else b) (fun _ _ h=>h)) 0 1 _ _ _ _ _ ⟨u,rfl⟩ ⟨t,rfl⟩ ?_))))
  refine wpAny_bind (wpAny_holding (wpAny_truthy_bool (wpAny_bind (wpAny_letGo (wpAny_pure ?_)))))
  show wpAny _ A.in1 (if decide (ns[j] > b)=true then _ else _) _ _ _
  by_cases hb:ns[j] > b
  ·rw[if_pos (decide_eq_true hb)]
   refine wpAny_bind (wpAny_updateSeq hS' rfl (wpAny_bind (wpAny_letGo ?_)))
   rw[hname]
   refine wpAny_pure ⟨plainId_quiet F.plain_max_loop _,ih (j+1) _ ns[j] u _ (by lia) hlt ?_ ?_ (Heap.get?_update_self _ hS' rfl) fun t' h2 tk2 k2=>?_⟩
   ·exact g1.at fun o e=>(Heap.get?_update_other _ _ hS1).trans e
   ·exact g2.at fun o e=>(Heap.get?_update_other _ _ hS2).trans e
   ·have q:=hR t' h2 tk2 fun a o ha hb e=>k2 a o ha hb ((Heap.get?_update_other _ _ (Ne.symm hb)).trans (hm a o (by simpa using ha) e))
    rw[ed,List.foldl_cons,show max b ns[j]=ns[j] by lia] at q
    exact q
  ·rw[if_neg (by simpa using hb)]
   refine wpAny_bind (wpAny_letGo ?_)
   rw[hname]
   refine wpAny_pure ⟨plainId_quiet F.plain_max_loop _,ih (j+1) _ b t c (by lia) hlt g1 g2 hS' fun t' h2 tk2 k2=>?_⟩
   have q:=hR t' h2 tk2 fun a o ha hb e=>k2 a o ha hb (hm a o (by simpa using ha) e)
   rw[ed,List.foldl_cons,show max b ns[j]=b by lia] at q
   exact q
theorem zb {it l S:Addr} {items:Array Value} {ns:List Int} {c:Nat} (hh:A.handled=none) (hi:IntsAre items.toList ns) (hne:l≠it) (hS1:S≠it) (hS2:S≠l) (dk:Option (Int × Tok)) (hd:ns=[]->dk≠none)
  (h1:s.heap.IsListIter it l 0) (h2:s.heap.IsList l items) (hS:s.heap.get? S=some { cls:=.type "list",dict:=none,data:=.seq #[] c,slots:=#[] })
  (hR:∀ t' h' tk,(∀ a o,a≠it->a≠S->s.heap.get? a=some o->h'.get? a=some o)->R (.ok (.ret (.int (mxD ((dk.map (·.1)).getD 0) ns) t'))) { s with heap:=h',toks:=tk }) :
  codeAny (model prog w) A (.builtin "max.loop" ⟨[.ref it,.none,.ref S],dkw dk⟩) R s:=by
 have W:=Walks.list (prog:=prog) (w:=w) (A:=A.in1) hh it l hne items
 have hname:(toString "max"++toString ".loop" : String) = "max.loop":=by decide
 have hsz:items.size=ns.length:=by rw[← Array.length_toList]; exact hi.length
 refine codeAny_builtin F.entry_max_loop ?_; rw[Around.under_plainId F.plain_max_loop _]
 show wpAny _ A.in1 (seqItems? (.ref S) >>= _) _ _ s; refine wpAny_bind (wpAny_seqItems hS rfl ?_)
 show wpAny _ A.in1 (tryCatch (pyNext (.ref it)) _ >>= _) _ _ s
 cases ns with
 | nil =>
  have e0:items.size=0:=hsz
  refine wpAny_bind (wpAny_tryCatch (W.done s _ _ (by rw[e0]; exact⟨h1,h2⟩) fun h' tk hm=>?_))
  cases dk with
  | none=>exact absurd rfl (hd rfl)
  | some d =>
   refine wpAny_bind (wpAny_rule ?_)
   exact wpAny_pure (hR d.2 h' tk fun a o ha hb e=>hm a o (by simpa using ha) e)
 | cons n r =>
  obtain⟨u,hu⟩:=qt (n:=n) (j:=0) hi rfl
  refine wpAny_bind (wpAny_tryCatch (W.item 0 s _ _ (by rw[hsz]; exact Nat.succ_pos _) ⟨h1,h2⟩ fun v h' tk hP st hm=>?_))
  obtain⟨g1,g2⟩:=st
  have ev:v = .int n u:=by
   have e:items[0]? = some v:=hP
   rw[← Array.getElem?_toList,hu] at e
   exact (Option.some.inj e).symm
  subst ev
  have hS':=hm S _ (by simpa using hS1) hS
  show wpAny _ A.in1 (updateSeq S (fun _=>#[Value.int n u,Value.int n u]) >>= _) _ _ _
  refine wpAny_bind (wpAny_updateSeq hS' rfl ?_)
  rw[hname]
  refine wpAny_pure ⟨plainId_quiet F.plain_max_loop _,An hh hi hne hS1 hS2 _ _ 1 _ n u _ rfl (Nat.succ_le_succ (Nat.zero_le _)) ?_ ?_ (Heap.get?_update_self _ hS' rfl) fun t' h2 tk2 k2=>?_⟩
  ·exact g1.at fun o e=>(Heap.get?_update_other _ _ hS1).trans e
  ·exact g2.at fun o e=>(Heap.get?_update_other _ _ hS2).trans e
  ·exact hR t' h2 tk2 fun a o ha hb e=>k2 a o ha hb ((Heap.get?_update_other _ _ (Ne.symm hb)).trans (hm a o (by simpa using ha) e))
theorem Ae (a v:Value):argsOk "max" ⟨[a],[("default",v)]⟩:=by unfold argsOk; kernel_rfl
theorem Aw (v:Value):Builtin.Builtins.bindParams "max" ["key","default"] 0 ⟨[],[("default",v)]⟩=pure [none,some v]:=by kernel_rfl
theorem Gy {l:Addr} {items:Array Value} {ns:List Int} {Q:Value->Shared->Prop} (hh:A.handled=none) (hl:s.heap.IsList l items) (hi:IntsAre items.toList ns) (dk:Option (Int × Tok)) (hd:ns=[]->dk≠none)
  (h:∀ t h' tk,(∀ a o,s.heap.get? a=some o->h'.get? a=some o)->Q (.int (mxD ((dk.map (·.1)).getD 0) ns) t) { s with heap:=h',toks:=tk }) :
  wpAny (model prog w) A (call (.builtin "max") [.ref l] (dkw dk)) Q E s:=by
 have ha:argsOk "max" ⟨[.ref l],dkw dk⟩:=by
  cases dk with
  | none=>exact F.args_max1 _
  | some d=>exact Ae _ _
 have hb:Builtin.Builtins.bindParams "max" ["key","default"] 0 ⟨[],dkw dk⟩=pure [none,dk.map fun d=>.int d.1 d.2]:=by
  cases dk with
  | none=>rfl
  | some d=>exact Aw _
 have hname:(toString "max"++toString ".loop" : String) = "max.loop":=by decide
 refine wpAny_call (codeAny_call_builtin F.plain_max F.entry_max ?_)
 have main:wpAny (model prog w) A.in1 (Builtin.«max» ⟨[.ref l],dkw dk⟩) (fun fin s'=>match fin with
   | .done f=>(match (Except.ok f:Result) with | .ok (.ret v)=>Q v s' | .ok _=>False | .error e=>E e s')
   | .again c'=>c'.quiet=true/\codeAny (model prog w) A c' (fun r s'=>match r with | .ok (.ret v)=>Q v s' | .ok _=>False | .error e=>E e s') s') E s:=by
  show wpAny _ A.in1 (Builtin.Builtins.bindParams "max" ["key","default"] 0 ⟨[],dkw dk⟩ >>= _) _ _ s
  refine wpAny_bind (wpAny_of_eq hb (wpAny_bind (wpAny_pure ?_)))
  refine wpAny_bind (wpAny_pyIter_list hl (wpAny_bind (wpAny_newObj_type ?_)))
  have lt:l < s.heap.objs.size:=by obtain⟨o,e,_⟩:=hl; exact Heap.lt_size e
  have hs1:(s.heap.push { cls:=.type "list_iterator",data:=.fields #[.ref l,.int 0 0] }).objs.size=s.heap.objs.size+1:=Heap.size_push ..
  rw[hname]
  have ek:(dk.map fun d=>Value.int d.1 d.2).toList.map (fun d=>(("default" : Str),d))=dkw dk:=by cases dk <;> rfl
  refine wpAny_pure ⟨plainId_quiet F.plain_max_loop _,?_⟩
  show codeAny _ A (.builtin "max.loop" ⟨[.ref s.heap.objs.size,.none,_],(dk.map fun d=>Value.int d.1 d.2).toList.map (fun d=>(("default" : Str),d))⟩) _ _
  rw[ek]
  refine zb hh hi (Nat.ne_of_lt lt) (by rw[hs1]; exact Nat.ne_of_gt (Nat.lt_succ_self _)) (by rw[hs1]; exact Nat.ne_of_gt (Nat.lt_succ_of_lt lt)) dk hd
   ⟨_,Heap.get?_push_of_some _ (Heap.get?_push_size _ rfl),rfl,rfl⟩ ((hl.push _).push _) (Heap.get?_push_size _ rfl) fun t h' tk k=>?_
  exact h t h' tk fun a o e=>k a o (Nat.ne_of_lt (Heap.lt_size e)) (by rw[hs1]; exact Nat.ne_of_lt (Nat.lt_succ_of_lt (Heap.lt_size e))) (Heap.get?_push_of_some _ (Heap.get?_push_of_some _ e))
 simp only[checkBuiltinCall,F.kind_max]
 cases hsig:Manifest.signature? "max" with
 | none=>exact wpAny_pure main
 | some sig =>
  have ha':Bind.checkArgs "max" sig ⟨[.ref l],dkw dk⟩=pure ():=by simpa only [argsOk,hsig] using ha
  simp only[ha']
  exact wpAny_pure main
end
section
variable {X:Cx}
inductive BP (K:W.Frag) (xs:List V) (H:Hp) (Q:VK):Prop where
 | mk (p:Addr) (ns:List Int) (z0:xs=[.ref p]) (z1:SqL K H p (ns.map V.int)) (z2:ns.length < 64) (z3:∀ ms:List Int,ms.Perm ns->ms.Pairwise (·<=·)->∀ l,H l=none->Q (.ref l) (upd H l (.lst (ms.map V.int)))):BP K xs H Q
noncomputable def GR (K:W.Frag):List V->Hp->VK->Prop:=fun xs H Q=>BP K xs H Q
theorem yN:gF X (.builtin "sorted") (GR X.K):=by
 intro pins s σ H xs us Q I r h
 obtain⟨p,ns,rfl,hq,h64,q⟩:=h
 obtain⟨u,rfl,ru⟩:=vals1 r
 cases ru
 obtain⟨its,rv,pl,hz⟩:=I.list hq
 have hi:IntsAre its ns:=intsAre_of rv
 refine sorted_ints pl.isList hi (by have:=hi.length; lia) fun out ns' a1 a2 a3=>?_
 obtain⟨e,he⟩:=sortedAll_at s.heap its out
 have hml:(ns'.map V.int).length<=sizeLine:=by
  rw[List.length_map,a2.length_eq]
  exact Nat.le_of_lt (Nat.lt_of_lt_of_le h64 (by decide))
 exact⟨.ref _,_,I.LK rfl rfl (fun _ _=>sortedAll_old) (Nat.le_succ _) (jL a1) hml he,rfl,q ns' a2 a3 _ (I.hok.fresh (Nat.le_succ _))⟩
inductive Ik (K:W.Frag) (xs:List V) (H:Hp) (Q:VK):Prop where
 | mk (p:Addr) (ns:List Int) (z0:xs=[.ref p]) (z1:SqL K H p (ns.map V.int)) (z2:ns≠[]) (z3:Q (.int (mxD 0 ns)) H):Ik K xs H Q
noncomputable def Fe (K:W.Frag):List V->Hp->VK->Prop:=fun xs H Q=>Ik K xs H Q
theorem n8 (hc:X.calm=true):gF X (.builtin "max") (Fe X.K):=by
 intro pins s σ H xs us Q I r h
 obtain⟨p,ns,rfl,hq,hne,q⟩:=h
 obtain⟨u,rfl,ru⟩:=vals1 r
 cases ru
 obtain⟨its,rv,pl,hz⟩:=I.list hq
 exact Gy (I.ok.hd hc) pl.isList (show IntsAre its.toArray.toList ns from intsAre_of rv) none (fun e=>absurd e hne) fun t h' tk k=>⟨.int _,H,I.kept (t':=tk) k,⟨_,rfl⟩,q⟩
noncomputable def N6 (K:W.Frag) (d:Int) (te:TA):TE:=fun σ H Q=>te σ H fun xs H1=>∃ (p:Addr) (ns:List Int),xs=[.ref p]/\SqL K H1 p (ns.map V.int)/\Q (.int (mxD d ns)) H1
theorem Kz {e:Expr} {te:TA} {d:Int} {j} {p pos kp cp:Pos} (hc:X.calm=true) (hg:Gl X "max") (hm:X.mg "max" = none) (ha:PA X [e] te)
  (hb : autoParam (bootBuiltins "max" = some (.builtin "max")) L2.az8._auto_1)
  (he : autoParam (backTo pos (starEach [e] X.env)=(false,eval e X.env)::backTo pos (starEach [] X.env)) L2.az5._auto_1) (hp : autoParam ((backTo pos (starEach [e] X.env)).any (·.1)=false) L2.az5._auto_1) :
  PE X (.Call (.Name "max" p) [e] [⟨some "default",.Constant (.int d) j cp,kp⟩] pos) (N6 X.K d te):=by
 intro pins s σ H Q I h
 refine wpAny_Call_Name_kw (iC I hg hm hb ?_ (by decide) (by decide))
 refine callWith_kw (thn (ha pos pins s σ H _ I h) fun us s1 ⟨vs,H1,I1,r1,q⟩=>?_) he hp
 obtain⟨a,ns,rfl,hq,q⟩:=q
 obtain⟨u,rfl,ru⟩:=vals1 r1
 cases ru
 refine kws_cons (wpAny_Constant_int (kws_nil ?_))
 have I2:Inv X pins σ H1 { s1 with toks:=s1.toks+1 }:=I1.tok _
 obtain⟨its,rv,pl,hz⟩:=I2.list hq
 exact Gy (I.ok.hd hc) pl.isList (show IntsAre its.toArray.toList ns from intsAre_of rv) (some (d,_)) (fun _ z=>nomatch z) fun t h' tk k=>⟨.int _,H1,I2.kept (t':=tk) k,⟨_,rfl⟩,q⟩
end
end L2
namespace L2
open PySem PySem.Spec PyProof.Rows
theorem Bq:Manifest.owners.lookup (String.ofList ['d','e','s','r','e','v','e','r'].reverse)=some Manifest.sig_reversed:=by kernel_rfl
theorem dC:Slot "reversed" "__next__" "reversed.__next__" :=
 .of (owner:="reversed") (n:="__next__") (by rw[typeLookup_type,builtinLookup_eq_fast]; kernel_rfl) (by decide+kernel) (by decide+kernel) (by decide+kernel) (by first | exact .inl (by decide+kernel) | exact .inr (by decide+kernel)) (by rw[isSubtype_type]; kernel_rfl)
theorem rE:Slot "reversed" "__init__" "object.__init__" :=
 .of (owner:="object") (n:="__init__") (by rw[typeLookup_type,builtinLookup_eq_fast]; kernel_rfl) (by decide+kernel) (by decide+kernel) (by decide+kernel) (by first | exact .inl (by decide+kernel) | exact .inr (by decide+kernel)) (by rw[isSubtype_type]; kernel_rfl)
theorem ju:entryFor table "reversed.__next__" = some Builtin.«reversed.__next__»:=entryFor_of_tree (by kernel_rfl)
theorem jK (a:Value):argsOk "reversed.__next__" ⟨[a],[]⟩:=by
 unfold argsOk
 rw[signature?_of (id:="reversed.__next__") (n:=['_','_','t','x','e','n','_','_']) (o:=['d','e','s','r','e','v','e','r']) (by kernel_rfl) Bq]
 kernel_rfl
theorem jU:Slot "reversed" "__iter__" "reversed.__iter__" :=
 .of (owner:="reversed") (n:="__iter__") (by rw[typeLookup_type,builtinLookup_eq_fast]; kernel_rfl) (by decide+kernel) (by decide+kernel) (by decide+kernel) (by first | exact .inl (by decide+kernel) | exact .inr (by decide+kernel)) (by rw[isSubtype_type]; kernel_rfl)
theorem oY:entryFor table "reversed.__iter__" = some Builtin.«dict_keyiterator.__iter__»:=entryFor_alias (id':="dict_keyiterator.__iter__") (by kernel_rfl) rfl (by decide+kernel) (by kernel_rfl)
theorem qM (a:Value):argsOk "reversed.__iter__" ⟨[a],[]⟩:=by
 unfold argsOk
 rw[signature?_of (id:="reversed.__iter__") (n:=['_','_','r','e','t','i','_','_']) (o:=['d','e','s','r','e','v','e','r']) (by kernel_rfl) Bq]
 kernel_rfl
theorem zj:TypeCalled "reversed" "reversed.__new__" "object.__init__" :=
 ⟨by decide+kernel,by decide+kernel,⟨_,_,F.mro_reversed⟩,F.made_reversed,by decide+kernel,by rw[isSubtype_type]; kernel_rfl,rE⟩
theorem tV:typeLookup (.type "tuple") "__reversed__" = pure none:=by rw[typeLookup_type,builtinLookup_eq_fast]; kernel_rfl
theorem sJ:isSubtype (.type "tuple") (.type "dict")=pure false:=by rw[isSubtype_type]; kernel_rfl
noncomputable def RIt (h:Heap) (I t:Addr) (i:Int):Prop:=h.get? I=some { cls:=.type "reversed",dict:=none,data:=.fields #[.ref t,.int i 0],slots:=#[] }
theorem El (a:Value):Builtin.SmallTypes.newClass "reversed" ⟨[.type "reversed",a],[]⟩=pure (.type "reversed",[a]):=by
 unfold Builtin.SmallTypes.newClass
 simp only[isType,F.sub_reversed_self,pure_bind,Bool.not_true,Bool.false_eq_true,if_false]
theorem Fo (t:Addr) (items:Array Value) (hf:(items.size:Int) < 2 ^ 63) :
  Meets (Builtin.«reversed.__new__» ⟨[.type "reversed",.ref t],[]⟩) (fun _ R s=>IsTup s.heap t items/\R (.ok (.ret (.ref s.heap.objs.size))) { s with heap:=s.heap.push { cls:=.type "reversed",data:=.fields #[.ref t,.int ((items.size:Int) - 1) 0] },toks:=s.toks+1+1 }) :=
 .of_wp fun prog w A R s h=>by
  obtain⟨ht,h⟩:=h
  unfold Builtin.«reversed.__new__»
  refine wpAny_bind (wpAny_of_eq (El _) ?_)
  try dsimp only
  refine wpAny_bind (wpAny_of_eq (a:=()) (by first | rfl | kernel_rfl) (wpAny_bind (wpAny_of_eq (a:=()) (by first | rfl | kernel_rfl) ?_)))
  try dsimp only
  refine wpAny_bind (wpAny_specialOf ht.typeIs tV ?_)
  try dsimp only
  refine (show wpAny _ _ ((isInstance (.ref t) (.type "dict") >>= _) >>= _) _ _ s from wpAny_bind (wpAny_bind (wpAny_isInstance ht.typeIs sJ ?_)))
  rw[if_neg Bool.false_ne_true]
  refine wpAny_bind (wpAny_specialOf ht.typeIs slot_tuple_getitem.lookup ?_)
  dsimp only
  rw[if_pos (by decide+kernel)]
  refine wpAny_pure ?_
  rw[if_neg (by simp)]
  refine wpAny_bind (len_tuple ht hf ?_)
  refine wpAny_bind (wpAny_of_eq (a:=some ((items.size:Nat):Int)) rfl ?_)
  dsimp only
  refine wpAny_bind ?_
  refine (show wpAny _ _ (newObj (.type "reversed") (.fields #[.ref t,rawInt ((items.size:Int) - 1)])) _ _ _ from wpAny_newObj_type ?_)
  exact wpAny_pure ⟨_,rfl,h⟩
section
variable {prog:Program} {w:World} {A:Around} {E:Value->Shared->Prop} {s:Shared}
theorem Bj {t:Addr} {items:Array Value} {Q:Value->Shared->Prop} (ht:IsTup s.heap t items) (hf:(items.size:Int) < 2 ^ 63)
  (h:Q (.ref s.heap.objs.size) { s with heap:=s.heap.push { cls:=.type "reversed",data:=.fields #[.ref t,.int ((items.size:Int) - 1) 0] },toks:=s.toks+1+1 }):wpAny (model prog w) A (call (.type "reversed") [.ref t]) Q E s:=by
 refine callType_new zj (by decide) (F.typeCall_reversed_1 _) (F.newCall_reversed_1 _) (fun obj=>F.args_object_init_2 obj _) F.entry_reversed_new (Fo t items hf) ⟨ht,?_⟩
 exact⟨⟨_,Heap.get?_push_size _ rfl,rfl⟩,h⟩
theorem Fp {it t:Addr} {i:Nat} {items:Array Value} {x:Value} {Q:Option Value->Shared->Prop} (hit:RIt s.heap it t (i:Int)) (ht:IsTup s.heap t items) (hi:(i:Int) < 2 ^ 63) (hx:items[i]? = some x)
  (hQ:∀ h',RIt h' it t ((i:Int) - 1)->Heap.SameBut it s.heap h'->Q (some x) { s with heap:=h',toks:=s.toks+1 }):wpAny (model prog w) A (pyNext (.ref it)) Q E s:=by
 have hT:s.TypeIs (.ref it) "reversed":=⟨_,hit,rfl⟩
 unfold pyNext
 refine wpAny_bind (wpAny_attempt (wpAny_callSpecial?_slot (name:=Str.ofString "__next__") hT dC (wpAny_call_entry dC hT ju ?_ (jK _))))
 unfold Builtin.«reversed.__next__»
 refine wpAny_bind (wpAny_of_eq (a:=(Value.ref it,[])) rfl ?_)
 dsimp only
 refine wpAny_bind (wpAny_field hit rfl (x:=.ref t) rfl (wpAny_bind (wpAny_field hit rfl (x:=.int (i:Int) 0) rfl ?_)))
 dsimp only
 rw[if_neg (by lia)]
 refine wpAny_bind (wpAny_specialOf ht.typeIs slot_tuple_getitem.lookup ?_)
 rw[if_neg (by simp)]
 refine wpAny_bind (wpAny_mkInt ?_)
 have hsz:i < items.size:=(Array.getElem?_eq_some_iff.mp hx).1
 have hk:seqIndex? (i:Int) items.size=some i:=by
  have e0:¬ ((i:Int) < 0):=by lia
  unfold seqIndex?
  simp only[if_neg e0]
  simp [hsz]
 refine wpAny_bind (wpAny_attempt (getItem_tuple (s:={ s with toks:=s.toks+1 }) (show IsTup s.heap t items from ht) (by lia) hi hk hx ?_))
 dsimp only
 refine wpAny_bind (wpAny_field (s:={ s with toks:=s.toks+1 }) hit rfl (x:=.int (i:Int) 0) rfl ?_)
 dsimp only
 refine wpAny_bind (wpAny_setField (s:={ s with toks:=s.toks+1 }) hit rfl (by simp) ?_)
 refine wpAny_pure ⟨x,rfl,wpAny_pure (hQ _ ?_ (Heap.SameBut.update ..))⟩
 exact Heap.get?_update_self (Obj.mapFields (·.setIfInBounds 1 (rawInt ((i:Int) - 1)))) hit rfl
theorem Jz {it t:Addr} {Q:Option Value->Shared->Prop} (hh:A.handled=none) (hit:RIt s.heap it t (-1)) (hQ:∀ h',Heap.ExtBut it s.heap h'->Q none { s with heap:=h' }):wpAny (model prog w) A (pyNext (.ref it)) Q E s:=by
 have hT:s.TypeIs (.ref it) "reversed":=⟨_,hit,rfl⟩
 unfold pyNext
 refine wpAny_bind (wpAny_attempt (wpAny_callSpecial?_slot (name:=Str.ofString "__next__") hT dC (wpAny_call_entry dC hT ju ?_ (jK _))))
 unfold Builtin.«reversed.__next__»
 refine wpAny_bind (wpAny_of_eq (a:=(Value.ref it,[])) rfl ?_)
 dsimp only
 refine wpAny_bind (wpAny_field hit rfl (x:=.ref t) rfl (wpAny_bind (wpAny_field hit rfl (x:=.int (-1) 0) rfl ?_)))
 dsimp only
 rw[if_pos (by decide)]
 refine wpAny_bind (wpAny_rule ?_)
 refine wpAny_bind ?_
 refine (show wpAny _ _ (setField (.ref it) 1 (rawInt (-1)) >>= _) _ _ s from wpAny_bind (wpAny_setField hit rfl (by simp) ?_))
 have g1:=Heap.get?_update_self (Obj.mapFields (·.setIfInBounds 1 (rawInt (-1)))) hit rfl
 refine wpAny_setField g1 rfl (by simp) ?_
 refine wpAny_bind ?_
 refine (show wpAny _ _ (newExc (.type "StopIteration") [] >>= _) _ _ _ from wpAny_bind ?_)
 simp only[newExc,newTuple]
 refine wpAny_bind (wpAny_newObj_type ?_ (by size_fits))
 refine wpAny_bind (m:=firstArgMember _ _) (wpAny_of_eq (a:=Value.none) (by first | rfl | (simp only[firstArgMember]; rfl)) (wpAny_newObj_type ?_ (by size_fits)))
 simp only[raiseNew]
 refine wpAny_bind (wpAny_handled ?_)
 first | rw[show A.in1.handled=none from hh] | rw[hh]
 refine wpAny_bind (wpAny_pure (wpAny_throw ?_))
 refine wpAny_bind (wpAny_isInstance (T:="StopIteration") (b:=true) ⟨_,Heap.get?_push_size _ rfl,rfl⟩ isSubtype_stop (wpAny_pure ?_))
 exact hQ _ ((((Heap.SameBut.update ..).trans (Heap.SameBut.update ..)).extBut.push _).push _)
theorem xM {it t:Addr} {i:Int} {Q:Value->Shared->Prop} (hI:RIt s.heap it t i) (h:Q (.ref it) s):wpAny (model prog w) A (pyIter (.ref it)) Q E s:=by
 have hT:s.TypeIs (.ref it) "reversed":=⟨_,hI,rfl⟩
 refine wpAny_pyIter_slot hT jU (wpAny_call_entry jU hT oY (show wpAny _ _ (ret (.ref it)) _ _ s from ?_) (qM _))
 exact wpAny_pure ⟨_,rfl,"reversed",_,hT,dC.lookup,h⟩
end
noncomputable def Itv (K:W.Frag) (a:Addr) (n:Nat):It :=
 ⟨fun i H=>i < n/\∃ xs x,SqT K H a xs/\xs.length=n/\xs[n - 1 - i]? = some x,fun i H x H'=>H'=H/\∀ xs,SqT K H a xs->xs[n - 1 - i]? = some x,fun i _=>i=n⟩
theorem Fq {P:Program} {w:World} {K:W.Frag} {tg:Expr} (a it:Addr) (n:Nat) (hn:(n:Int) < 2 ^ 63):Turn P w K tg (Itv K a n) [it] it (fun i h=>RIt h it a ((n:Int) - 1 - (i:Int))) where
 mem:=by simp
 obj:=fun i h st b hb=>by
  have e:b=it:=by simpa using hb
  subst e
  exact⟨_,st,fun v z=>by cases (show Data.fields _=Data.cell v from z)⟩
 keep:=fun i h h' st k=>k it (by simp) _ st
 item:=by
  intro X hP hw hK hc i pins s σ H E I hf st hg
  subst hP hw hK
  obtain⟨hin,xs,x,hq,hlen,hx⟩:=hg
  obtain⟨its,rv,p,hz⟩:=I.tuple hq
  obtain⟨u,hu,ru⟩:=rv.get hx
  obtain⟨f0,f1,f2,f3,f4,f5⟩:=hf it (by simp)
  have e:(n:Int) - 1 - (i:Int)=((n - 1 - i:Nat):Int):=by lia
  have st':RIt s.heap it a ((n - 1 - i:Nat):Int):=by rw[← e]; exact st
  refine Fp st' p (by lia) (x:=u) (by simpa using hu) fun h' st2 sb=>?_
  have e2:((n - 1 - i:Nat):Int) - 1=(n:Int) - 1 - ((i+1:Nat):Int):=by lia
  rw[e2] at st2
  have I1:Inv X pins σ H { s with heap:=h',toks:=s.toks+1 }:=I.turned (t':=s.toks+1) (fun b o hb e=>(sb.2 b hb).trans e) f0 f1 f3 f4 f5
  exact⟨u,rfl,Dz (s:={ s with heap:=h',toks:=s.toks+1 }) st2 rfl rfl (by decide) ⟨x,H,I1,ru,⟨rfl,fun ys hy=>by rw[I.iW hy hq]; exact hx⟩,st2,fun b hb=>(hf b hb).1⟩⟩
 done:=by
  intro X hP hw hK hc i pins s σ H E I hf st hg
  subst hP hw hK
  cases (show i=n from hg)
  obtain⟨f0,f1,f2,f3,f4,f5⟩:=hf it (by simp)
  have st':RIt s.heap it a (-1):=by
   have e:(n:Int) - 1 - (n:Int) = -1:=by lia
   rw[← e]; exact st
  exact Jz (I.ok.hd hc) st' fun h' eb=>⟨rfl,I.turned (t':=s.toks) (fun b o hb e=>eb b o hb e) f0 f1 f3 f4 f5⟩
 self:=fun _ _ _ _ _ st h=>xM st h
noncomputable def Pq (K:W.Frag) (ta:TA):TI:=fun σ H R=>ta σ H fun vs H1=>∃ a xs,vs=[.ref a]/\SqT K H1 a xs/\R (Itv K a xs.length) H1
theorem Lq {X:Cx} {tg:Expr} {a:Expr} {ta:TA} {p pos:Pos} (hg:Gl X "reversed") (hm:X.mg "reversed" = none) (ha:PA X [a] ta) (hs : autoParam (starEach [a] X.env=[(false,eval a X.env)]) L2.az5._auto_1) :
  PI X tg (.Call (.Name "reversed" p) [a] [] pos) (Pq X.K ta):=by
 intro pins s σ H R I h
 refine Call_ (iC I hg hm boot_reversed (PyProof.Rows.callWith_type1 (thn (ha pos pins s σ H _ I h) fun us s1 ⟨vs,H1,I1,r1,q1⟩=>?_) hs rfl))
 obtain⟨c,xs,e,hx,q⟩:=q1
 subst e
 obtain⟨u1,rfl,ru1⟩:=vals1 r1
 cases ru1
 obtain⟨its,rv,tp,hz⟩:=I1.tuple hx
 have hl:=rv.length
 have hn:=uc
 have hsz:((its.toArray.size:Nat):Int) < 2 ^ 63:=by rw[List.size_toArray,← hl]; lia
 refine Bj tp hsz ?_
 have g:RIt (s1.heap.push { cls:=.type "reversed",data:=.fields #[.ref c,.int ((its.toArray.size:Int) - 1) 0] }) s1.heap.objs.size c ((xs.length:Int) - 1 - ((0:Nat):Int)):=by
  have e:((xs.length:Int) - 1 - ((0:Nat):Int))=(its.toArray.size:Int) - 1:=by rw[List.size_toArray,← hl]; lia
  rw[e]
  exact Heap.get?_push_size _ rfl
 refine xM g ⟨s1.heap.objs.size,[s1.heap.objs.size],_,_,H1,rfl,I1.kept (t':=s1.toks+1+1) fun b o e=>Heap.get?_push_of_some _ e,Fq c _ xs.length (by lia),g,fun b hb=>?_,q⟩
 have e:b=s1.heap.objs.size:=by simpa using hb
 subst e
 exact I1.DR (Nat.le_refl _) (I1.hok.fresh (Nat.le_refl _))
theorem Jp {K:W.Frag} {a:Addr} {xs:List V} {g:TG} {tb:TS} {D:Ends} {σ:St} {H:Hp} (Pv:Nat->St->Hp->Prop) (h0:Pv 0 σ H) (hl:∀ i σ H,i<=xs.length->Pv i σ H->SqT K H a xs)
  (hs:∀ i x σ H,i < xs.length->xs[xs.length - 1 - i]? = some x->Pv i σ H->g x σ H fun σ2 H2=>tb { D with nx:=Pv (i+1),ct:=Pv (i+1),bk:=D.nx } σ2 H2) (hd:∀ σ H,Pv xs.length σ H->D.nx σ H) :
  ∃ W:Nat->Nat->St->Hp->Prop,(∃ m,W 0 m σ H)/\∀ i m σ H,W i m σ H →
   ((Itv K a xs.length).stop i H/\D.nx σ H)∨((Itv K a xs.length).go i H/\∃ N:St->Hp->Prop,(∀ σ' H',N σ' H'->∃ m',m' < m/\W (i+1) m' σ' H')/\∀ x H',(Itv K a xs.length).yld i H x H'->g x σ H' fun σ2 H2=>tb { D with nx:=N,ct:=N,bk:=D.nx } σ2 H2):=by
 refine⟨fun i m σ H=>m=xs.length - i/\i<=xs.length/\Pv i σ H,⟨xs.length,by simp,Nat.zero_le _,h0⟩,?_⟩
 rintro i m σ H ⟨rfl,hi,p⟩
 have q1:=hl i σ H hi p
 by_cases hlt:i < xs.length
 ·refine .inr ⟨⟨hlt,xs,xs[xs.length - 1 - i],q1,rfl,List.getElem?_eq_getElem (by lia)⟩,Pv (i+1),fun σ' H' p'=>⟨xs.length - (i+1),by lia,rfl,hlt,p'⟩,fun v H' y=>?_⟩
  obtain⟨rfl,hx⟩:=y
  exact hs i v σ _ hlt (hx xs q1) p
 ·have e:i=xs.length:=by lia
  subst e
  exact .inl ⟨rfl,hd σ H p⟩
end L2
namespace L2
open PySem PySem.Spec PyProof.Rows
section
variable {prog:Program} {w:World} {A:Around} {E:Value->Shared->Prop} {s:Shared}
theorem pW {h h':Heap} {a t:Addr} {its:Array Value} (ht:h.IsList t its) (sb:Heap.SameBut a h h') (ne:t≠a):h'.IsList t its:=by
 obtain⟨o,e,r⟩:=ht
 exact⟨o,(sb.2 t ne).trans e,r⟩
theorem iZ {h h':Heap} {a it t:Addr} {i:Nat} (ht:h.IsListIter it t i) (sb:Heap.SameBut a h h') (ne:it≠a):h'.IsListIter it t i:=by
 obtain⟨o,e,r⟩:=ht
 exact⟨o,(sb.2 it ne).trans e,r⟩
theorem IK {z p q i1 i2 l1 l2:Addr} {k:Nat} {xs ys:Array Value} {x y a b:Value} {Q:Option Value->Shared->Prop} (D:Zap z p q i1 i2 l1 l2)
  (hz:IsZip s.heap z p q .none) (hp:IsPair s.heap p (.ref i1) (.ref i2)) (hq:IsPair s.heap q a b) (j1:s.heap.IsTupleIter i1 l1 k) (j2:s.heap.IsListIter i2 l2 k) (t1:s.heap.IsTuple l1 xs) (t2:s.heap.IsList l2 ys)
  (hx:xs[k]? = some x) (hy:ys[k]? = some y)
  (hQ:∀ h',IsZip h' z p q (rawInt s.heap.objs.size)->IsPair h' q x y->h'.IsTupleIter i1 l1 (k+1)->h'.IsListIter i2 l2 (k+1)->IsPair h' s.heap.objs.size x y->h'.objs.size=s.heap.objs.size+1 →
   (∀ c o,c≠z->c≠q->c≠i1->c≠i2->s.heap.get? c=some o->h'.get? c=some o)->Q (some (.ref s.heap.objs.size)) { s with heap:=h' }):wpAny (model prog w) A (pyNext (.ref z)) Q E s:=by
 have hT:s.TypeIs (.ref z) "zip":=⟨_,hz,rfl⟩; unfold pyNext
 refine wpAny_bind (wpAny_attempt (wpAny_callSpecial?_slot (name:=Str.ofString "__next__") hT F.slot_zip_next (wpAny_call_entry F.slot_zip_next hT F.entry_zip_next ?_ (F.args_zip_next_1 _))))
 show wpAny _ _ (field (.ref z) 2 >>= _) _ _ _; refine wpAny_bind (wpAny_field hz rfl (x:=.bool false) rfl ?_)
 show wpAny _ _ (field (.ref z) 3 >>= _) _ _ _; refine wpAny_bind (wpAny_field hz rfl (x:=.ref p) rfl ?_); refine wpAny_bind (wpAny_seqItems hp rfl ?_)
 show wpAny _ _ (Builtin.SmallTypes.ownedTupleIsFree (.ref z) >>= _) _ _ _; refine wpAny_bind ?_; unfold Builtin.SmallTypes.ownedTupleIsFree
 refine wpAny_bind (wpAny_field hz rfl (x:=.none) rfl (wpAny_pure ?_)); simp only[if_true]; refine wpAny_bind (wpAny_rule ?_); refine wpAny_bind (wpAny_field hz rfl (x:=.ref q) rfl ?_)
 refine wpAny_bind (wpAny_setField_rec hz (by simp) fun h1 z1 b1=>?_); replace z1:IsZip h1 z p q .ellipsis:=z1
 refine wpAny_bind ?_; simp only[List.zipIdx_cons,List.zipIdx_nil,List.forIn_cons,List.forIn_nil]; refine wpAny_bind (wpAny_bind (wpAny_onRaise ?_))
 show wpAny _ _ (Builtin.SmallTypes.nextOf (.ref i1) >>= _) _ _ _; refine wpAny_bind (nY (cV j1 b1 D.az) (iR t1 b1 D.xz) hx fun h2 u1 b2=>wpAny_pure ?_)
 have q2:IsPair h2 q a b:=(b2.2 _ D.qa).trans ((b1.2 _ D.qz).trans hq); refine wpAny_bind (wpAny_seqItems q2 rfl ?_); refine wpAny_bind (wpAny_updateSeq_pair q2 fun h3 q3 b3=>?_)
 replace q3:IsPair h3 q x b:=q3; refine wpAny_bind (wpAny_letGo (wpAny_pure ?_)); refine wpAny_bind (wpAny_bind (wpAny_onRaise ?_))
 show wpAny _ _ (Builtin.SmallTypes.nextOf (.ref i2) >>= _) _ _ _
 refine wpAny_bind (wpAny_nextOf_list_item (iZ (iZ (iZ j2 b1 D.bz) b2 D.ab.symm) b3 D.qb.symm) (pW (pW (pW t2 b1 D.yz) b2 D.ya) b3 D.yq) hy fun h4 u2 b4=>wpAny_pure ?_)
 have q4:IsPair h4 q x b:=(b4.2 _ D.qb).trans q3; refine wpAny_bind (wpAny_seqItems q4 rfl ?_); refine wpAny_bind (wpAny_updateSeq_pair q4 fun h5 q5 b5=>?_)
 replace q5:IsPair h5 q x y:=q5; refine wpAny_bind (wpAny_letGo (wpAny_pure (wpAny_pure ?_))); refine wpAny_bind (wpAny_seqItems q5 rfl ?_); refine wpAny_bind (wpAny_newTuple ?_)
 have sz:h5.objs.size=s.heap.objs.size:=by rw[b5.1,b4.1,b3.1,b2.1,b1.1]
 have z5:IsZip h5 z p q .ellipsis:=(b5.2 _ D.qz.symm).trans ((b4.2 _ D.bz.symm).trans ((b3.2 _ D.qz.symm).trans ((b2.2 _ D.az.symm).trans z1)))
 have kp:∀ c o,c≠z->c≠q->c≠i1->c≠i2->s.heap.get? c=some o->h5.get? c=some o:=fun c o c1 c2 c3 c4 e=>(b5.2 c c2).trans ((b4.2 c c4).trans ((b3.2 c c2).trans ((b2.2 c c3).trans ((b1.2 c c1).trans e))))
 have u15:h5.IsTupleIter i1 l1 (k+1):=cV (cV (cV u1 b3 D.qa.symm) b4 D.ab) b5 D.qa.symm
 have u25:h5.IsListIter i2 l2 (k+1):=iZ u2 b5 D.qb.symm
 have zl:z < h5.objs.size:=Heap.lt_size z5
 show wpAny _ _ (Builtin.SmallTypes.ownedTupleHandOut (.ref z) (.ref h5.objs.size) >>= _) _ _ _; refine wpAny_bind ?_; unfold Builtin.SmallTypes.ownedTupleHandOut
 have z6:IsZip (h5.push { cls:=.type "tuple",data:=.seq #[x,y] }) z p q .ellipsis:=Heap.get?_push_of_some _ z5
 refine wpAny_bind (wpAny_setField_rec z6 (by simp) fun h7 z7 b7=>?_); replace z7:IsZip h7 z p q (rawInt h5.objs.size):=z7
 refine wpAny_setField_rec z7 (by simp) fun h8 z8 b8=>?_; replace z8:IsZip h8 z p q (rawInt h5.objs.size):=z8
 have up:∀ c o,c≠z->h5.get? c=some o->h8.get? c=some o:=fun c o c1 e=>(b8.2 c c1).trans ((b7.2 c c1).trans (Heap.get?_push_of_some _ e))
 have t8:IsPair h8 h5.objs.size x y:=(b8.2 _ (Nat.ne_of_gt zl)).trans ((b7.2 _ (Nat.ne_of_gt zl)).trans (Heap.get?_push_size _ rfl))
 have s8:h8.objs.size=h5.objs.size+1:=by rw[b8.1,b7.1,Heap.size_push]
 rw[sz] at z8 t8 s8; refine wpAny_pure ⟨_,rfl,?_⟩
 show wpAny _ _ _ _ _ _
 rw[sz]
 exact wpAny_pure (hQ h8 z8 (up _ _ D.qz q5) (by obtain⟨o,e,r⟩:=u15; exact⟨o,up _ o D.az e,r⟩) (by obtain⟨o,e,r⟩:=u25; exact⟨o,up _ o D.bz e,r⟩) t8 s8 fun c o c1 c2 c3 c4 e=>up c o c1 (kp c o c1 c2 c3 c4 e))
theorem JP {z p q i1 i2 l1 l2:Addr} {k:Nat} {xs ys:Array Value} {a b:Value} {Q:Fin->Shared->Prop} (hh:A.handled=none) (D:Zap z p q i1 i2 l1 l2)
  (hz:IsZip s.heap z p q .none) (hp:IsPair s.heap p (.ref i1) (.ref i2)) (hq:IsPair s.heap q a b) (j1:s.heap.IsTupleIter i1 l1 k) (j2:s.heap.IsListIter i2 l2 k) (t1:s.heap.IsTuple l1 xs) (t2:s.heap.IsList l2 ys)
  (hend:xs[k]? = none∨ys[k]? = none) (hE:∀ h' e,(∀ c o,c≠z->c≠q->c≠i1->c≠i2->s.heap.get? c=some o->h'.get? c=some o)->(∃ o,h'.get? e=some o/\o.cls = .type "StopIteration")->E (.ref e) { s with heap:=h' }) :
  wpAny (model prog w) A (Builtin.«zip.__next__» ⟨[.ref z],[]⟩) Q E s:=by
 show wpAny _ _ (field (.ref z) 2 >>= _) _ _ _; refine wpAny_bind (wpAny_field hz rfl (x:=.bool false) rfl ?_)
 show wpAny _ _ (field (.ref z) 3 >>= _) _ _ _; refine wpAny_bind (wpAny_field hz rfl (x:=.ref p) rfl ?_); refine wpAny_bind (wpAny_seqItems hp rfl ?_)
 show wpAny _ _ (Builtin.SmallTypes.ownedTupleIsFree (.ref z) >>= _) _ _ _; refine wpAny_bind ?_; unfold Builtin.SmallTypes.ownedTupleIsFree
 refine wpAny_bind (wpAny_field hz rfl (x:=.none) rfl (wpAny_pure ?_)); simp only[if_true]; refine wpAny_bind (wpAny_rule ?_); refine wpAny_bind (wpAny_field hz rfl (x:=.ref q) rfl ?_)
 refine wpAny_bind (wpAny_setField_rec hz (by simp) fun h1 z1 b1=>?_); replace z1:IsZip h1 z p q .ellipsis:=z1
 refine wpAny_bind ?_; simp only[List.zipIdx_cons,List.zipIdx_nil,List.forIn_cons,List.forIn_nil]; refine wpAny_bind (wpAny_bind (wpAny_onRaise ?_))
 show wpAny _ _ (Builtin.SmallTypes.nextOf (.ref i1) >>= _) _ _ _
 cases hx:xs[k]? with
 | none =>
  refine wpAny_bind (CG hh (cV j1 b1 D.az) (iR t1 b1 D.xz) hx fun h2 e b2 he=>?_)
  obtain⟨oe,ho,hc⟩:=he
  have z2:IsZip h2 z p q .ellipsis:=b2 _ _ D.az.symm z1
  have ez:e≠z:=fun u=>by subst u; rw[z2] at ho; cases ho; simp at hc
  exact wpAny_setField_rec z2 (by simp) fun h3 _ b3=>hE h3 e (fun c o c1 _ c3 _ u=>(b3.2 c c1).trans (b2 _ _ c3 ((b1.2 c c1).trans u))) ⟨oe,(b3.2 e ez).trans ho,hc⟩
 | some x =>
  have hy:ys[k]? = none:=hend.elim (fun u=>by rw[hx] at u; cases u) id
  refine wpAny_bind (nY (cV j1 b1 D.az) (iR t1 b1 D.xz) hx fun h2 u1 b2=>wpAny_pure ?_)
  have q2:IsPair h2 q a b:=(b2.2 _ D.qa).trans ((b1.2 _ D.qz).trans hq); refine wpAny_bind (wpAny_seqItems q2 rfl ?_); refine wpAny_bind (wpAny_updateSeq_pair q2 fun h3 q3 b3=>?_)
  refine wpAny_bind (wpAny_letGo (wpAny_pure ?_)); refine wpAny_bind (wpAny_bind (wpAny_onRaise ?_)); show wpAny _ _ (Builtin.SmallTypes.nextOf (.ref i2) >>= _) _ _ _
  refine wpAny_bind (wpAny_nextOf_list_end hh (iZ (iZ (iZ j2 b1 D.bz) b2 D.ab.symm) b3 D.qb.symm) (pW (pW (pW t2 b1 D.yz) b2 D.ya) b3 D.yq) hy fun h4 e b4 he=>?_)
  obtain⟨oe,ho,hc⟩:=he
  have z4:IsZip h4 z p q .ellipsis:=b4 _ _ D.bz.symm ((b3.2 _ D.qz.symm).trans ((b2.2 _ D.az.symm).trans z1))
  have ez:e≠z:=fun u=>by subst u; rw[z4] at ho; cases ho; simp at hc
  exact wpAny_setField_rec z4 (by simp) fun h5 _ b5=>hE h5 e (fun c o c1 c2 c3 c4 u=>(b5.2 c c1).trans (b4 _ _ c4 ((b3.2 c c2).trans ((b2.2 c c3).trans ((b1.2 c c1).trans u))))) ⟨oe,(b5.2 e ez).trans ho,hc⟩
theorem Mw {z p q i1 i2 l1 l2:Addr} {k:Nat} {xs ys:Array Value} {a b:Value} {Q:Option Value->Shared->Prop} (hh:A.handled=none) (D:Zap z p q i1 i2 l1 l2)
  (hz:IsZip s.heap z p q .none) (hp:IsPair s.heap p (.ref i1) (.ref i2)) (hq:IsPair s.heap q a b) (j1:s.heap.IsTupleIter i1 l1 k) (j2:s.heap.IsListIter i2 l2 k) (t1:s.heap.IsTuple l1 xs) (t2:s.heap.IsList l2 ys)
  (hend:xs[k]? = none∨ys[k]? = none) (hQ:∀ h',(∀ c o,c≠z->c≠q->c≠i1->c≠i2->s.heap.get? c=some o->h'.get? c=some o)->Q none { s with heap:=h' }):wpAny (model prog w) A (pyNext (.ref z)) Q E s:=by
 have hT:s.TypeIs (.ref z) "zip":=⟨_,hz,rfl⟩; unfold pyNext
 refine wpAny_bind (wpAny_attempt (wpAny_callSpecial?_slot (name:=Str.ofString "__next__") hT F.slot_zip_next (wpAny_call_entry F.slot_zip_next hT F.entry_zip_next (JP hh D hz hp hq j1 j2 t1 t2 hend fun h' e kp he=>?_) (F.args_zip_next_1 _))))
 obtain⟨o,ho,hc⟩:=he
 exact wpAny_bind (wpAny_isInstance (T:="StopIteration") (b:=true) ⟨o,ho,hc⟩ isSubtype_stop (wpAny_pure (hQ _ kp)))
noncomputable abbrev uB (h:Heap) (t:Addr):Heap:=h.push { cls:=.type "list_iterator",data:=.fields #[.ref t,.int 0 0] }
noncomputable abbrev uC (h:Heap) (t u:Addr):Heap:=(uB (zA h t) u).push { cls:=.type "tuple",data:=.seq #[.ref h.objs.size,.ref (zA h t).objs.size] }
noncomputable abbrev uD (h:Heap) (t u:Addr):Heap:=(uC h t u).push { cls:=.type "tuple",data:=.seq #[.none,.none] }
noncomputable abbrev uE (h:Heap) (t u:Addr):Heap:=(uD h t u).push { cls:=.type "zip",data:=.fields #[.none,.bool false,.bool false,.ref (uB (zA h t) u).objs.size,.ref (uC h t u).objs.size] }
theorem Ma (l1 l2:Addr) (xs ys:Array Value) :
  Meets (Builtin.«zip.__new__» ⟨[.type "zip",.ref l1,.ref l2],[]⟩) (fun _ R s=>s.heap.IsTuple l1 xs/\s.heap.IsList l2 ys/\R (.ok (.ret (.ref (uD s.heap l1 l2).objs.size))) { s with heap:=uE s.heap l1 l2 }) :=
 .of_wp fun prog w A R s h=>by
  obtain⟨hp,g,d,tk,os⟩:=s; obtain⟨a1,a2,h⟩:=h; have hsub:=sub_zip
  have T1:Heap.IsTuple (Shared.heap ⟨hp,g,d,tk,os⟩) l1 xs:=a1
  have T2:Heap.IsList (Shared.heap ⟨hp.push { cls:=.type "tuple_iterator",data:=.fields #[.ref l1,.int 0 0] },g,d,tk,os⟩) l2 ys:=by
   obtain⟨o,e,r⟩:=a2
   exact⟨o,Heap.get?_push_of_some _ e,r⟩
  wp_walk using wpAny_pyIter_tuple T1,wpAny_pyIter_list T2
  exact⟨_,rfl,h⟩
theorem Kw {l1 l2:Addr} {xs ys:Array Value} {Q:Value->Shared->Prop} (t1:s.heap.IsTuple l1 xs) (t2:s.heap.IsList l2 ys)
  (h:∀ h',IsZip h' (s.heap.objs.size+4) (s.heap.objs.size+2) (s.heap.objs.size+3) .none->IsPair h' (s.heap.objs.size+2) (.ref s.heap.objs.size) (.ref (s.heap.objs.size+1))->IsPair h' (s.heap.objs.size+3) .none .none →
   h'.IsTupleIter s.heap.objs.size l1 0->h'.IsListIter (s.heap.objs.size+1) l2 0->(∀ c o,s.heap.get? c=some o->h'.get? c=some o)->Q (.ref (s.heap.objs.size+4)) { s with heap:=h' }) :
  wpAny (model prog w) A (call (.type "zip") [.ref l1,.ref l2]) Q E s:=by
 refine callType_new F.called_zip (by decide) (F.typeCall_zip_2 _ _) (F.newCall_zip_2 _ _) (fun obj=>F.args_object_init_3 obj _ _) F.entry_zip_new (Ma l1 l2 xs ys) ⟨t1,t2,?_⟩
 have y1:(zA s.heap l1).objs.size=s.heap.objs.size+1:=Heap.size_push ..
 have y2:(uB (zA s.heap l1) l2).objs.size=s.heap.objs.size+2:=by rw[Heap.size_push,y1]
 have y3:(uC s.heap l1 l2).objs.size=s.heap.objs.size+3:=by rw[Heap.size_push,y2]
 have y4:(uD s.heap l1 l2).objs.size=s.heap.objs.size+4:=by rw[Heap.size_push,y3]
 have w5:(uE s.heap l1 l2).get? (uD s.heap l1 l2).objs.size=some _:=Heap.get?_push_size _ rfl
 have w4:(uE s.heap l1 l2).get? (uC s.heap l1 l2).objs.size=some _:=Heap.get?_push_of_some _ (Heap.get?_push_size _ rfl)
 have w3:(uE s.heap l1 l2).get? (uB (zA s.heap l1) l2).objs.size=some _:=Heap.get?_push_of_some _ (Heap.get?_push_of_some _ (Heap.get?_push_size _ rfl))
 have w2:(uE s.heap l1 l2).get? (zA s.heap l1).objs.size=some _:=Heap.get?_push_of_some _ (Heap.get?_push_of_some _ (Heap.get?_push_of_some _ (Heap.get?_push_size _ rfl)))
 have w1:(uE s.heap l1 l2).get? s.heap.objs.size=some _:=Heap.get?_push_of_some _ (Heap.get?_push_of_some _ (Heap.get?_push_of_some _ (Heap.get?_push_of_some _ (Heap.get?_push_size _ rfl))))
 show _/\_
 rw[y2,y3,y4] at w5; rw[y1,y2] at w3; rw[y3] at w4; rw[y1] at w2; rw[y4]
 exact⟨⟨_,w5,rfl⟩,h _ w5 w3 w4 ⟨_,w1,rfl,rfl⟩ ⟨_,w2,rfl,rfl⟩ fun c o u=>Heap.get?_push_of_some _ (Heap.get?_push_of_some _ (Heap.get?_push_of_some _ (Heap.get?_push_of_some _ (Heap.get?_push_of_some _ u))))⟩
end
noncomputable def Itu (K : W.Frag) (a b : Addr) : It :=
  ⟨fun i H => ∃ xs ys x y, SqT K H a xs ∧ SqL K H b ys ∧ xs[i]? = some x ∧ ys[i]? = some y,
   fun i H v H' => ∃ p x y, H p = none ∧ v = .ref p ∧ (∀ xs, SqT K H a xs → xs[i]? = some x) ∧ (∀ ys, SqL K H b ys → ys[i]? = some y) ∧ H' = upd H p (.tup [x, y]),
   fun i H => ∃ xs ys, SqT K H a xs ∧ SqL K H b ys ∧ (xs.length ≤ i ∨ ys.length ≤ i)⟩
noncomputable def tnU (z p q i1 i2 a b:Addr) (i:Nat) (h:Heap):Prop:=IsZip h z p q .none/\IsPair h p (.ref i1) (.ref i2)/\(∃ u v,IsPair h q u v)/\h.IsTupleIter i1 a i/\h.IsListIter i2 b i
theorem DW {P:Program} {w:World} {K:W.Frag} {elts:List Expr} {x1} {pos:Pos} {z p q i1 i2 a b:Addr} (D:Zap z p q i1 i2 a b) :
  Turn P w K (.Tuple elts x1 pos) (Itu K a b) [z,p,q,i1,i2] z (tnU z p q i1 i2 a b) where
 mem:=by simp
 obj:=fun i h st c hc=>by
  obtain⟨hz,hp,⟨u,v,hq⟩,⟨o1,e1,_,d1⟩,⟨o2,e2,_,d2⟩⟩:=st
  simp only[List.mem_cons,List.not_mem_nil,or_false] at hc
  rcases hc with rfl | rfl | rfl | rfl | rfl
  ·exact⟨_,hz,fun v z=>by cases z⟩
  ·exact⟨_,hp,fun v z=>by cases z⟩
  ·exact⟨_,hq,fun v z=>by cases z⟩
  ·exact⟨_,e1,fun v z=>by rw[d1] at z; cases z⟩
  ·exact⟨_,e2,fun v z=>by rw[d2] at z; cases z⟩
 keep:=fun i h h' st k=>by
  obtain⟨hz,hp,⟨u,v,hq⟩,⟨o1,e1,r1⟩,⟨o2,e2,r2⟩⟩:=st
  exact⟨k z (by simp) _ hz,k p (by simp) _ hp,⟨u,v,k q (by simp) _ hq⟩,⟨o1,k i1 (by simp) _ e1,r1⟩,⟨o2,k i2 (by simp) _ e2,r2⟩⟩
 item:=by
  intro X hP hw hK hc i pins s σ H E I hf st hg
  subst hP hw hK
  obtain⟨xs,ys,x,y,hx,hy,ex,ey⟩:=hg
  obtain⟨hz,hp,⟨u,v,hq⟩,j1,j2⟩:=st
  obtain⟨its,rv,tp,_⟩:=I.tuple hx
  obtain⟨its2,rv2,tp2,_⟩:=I.list hy
  obtain⟨xu,hxu,rx⟩:=rv.get ex
  obtain⟨yu,hyu,ry⟩:=rv2.get ey
  refine IK D hz hp hq j1 j2 (show s.heap.IsTuple a its.toArray from tp) (show s.heap.IsList b its2.toArray from tp2.isList) (x:=xu) (y:=yu) (by simpa using hxu) (by simpa using hyu) fun h' z' q' u1 u2 t' _ kp=>⟨_,rfl,?_⟩
  refine wpAny_letOwnedTupleGo_zip z' fun h2 z2 b2=>?_
  have lt:∀ {c o},s.heap.get? c=some o->c < s.heap.objs.size:=fun e=>Heap.lt_size e
  have zne:s.heap.objs.size≠z:=Nat.ne_of_gt (lt hz)
  have hfr:H s.heap.objs.size=none:=I.fresh
  have I1:Inv X pins σ (upd H s.heap.objs.size (.tup [x,y])) { s with heap:=s.heap.push { cls:=.type "tuple",data:=.seq #[xu,yu] } } :=
   I.laid (t':=s.toks) (fun _ _ e=>Heap.get?_push_of_some _ e) (Nat.le_refl _) ⟨by show 2<=sizeLine; decide,[xu,yu],.cons rx (.cons ry .nil),⟨_,Heap.get?_push_size _ rfl,rfl,_,rfl⟩⟩
  have blt:∀ c∈[z,p,q,i1,i2],c < s.heap.objs.size:=fun c hc=>by
   obtain⟨_,e1,_⟩:=j1
   obtain⟨_,e2,_⟩:=j2
   simp only[List.mem_cons,List.not_mem_nil,or_false] at hc
   rcases hc with rfl | rfl | rfl | rfl | rfl
   ·exact lt hz
   ·exact lt hp
   ·exact lt hq
   ·exact lt e1
   ·exact lt e2
  have ff:∀ c∈[z,p,q,i1,i2],sH X pins (upd H s.heap.objs.size (.tup [x,y])) c:=fun c hc=>by
   obtain⟨f0,fr⟩:=hf c hc
   exact⟨by rw[aR (Nat.ne_of_lt (blt c hc))]; exact f0,fr⟩
  have kk:∀ c o,c ∉ [z,q,i1,i2]->(s.heap.push { cls:=.type "tuple",data:=.seq #[xu,yu] }).get? c=some o->h2.get? c=some o:=fun c o hc e=>by
   have c1:c≠z:=fun h=>hc (by simp [h])
   refine (b2.2 c c1).trans ?_
   rcases Heap.get?_push_cases e with⟨ec,eo⟩ | e'
   ·subst ec
    subst eo
    exact t'
   ·exact kp c o c1 (fun h=>hc (by simp [h])) (fun h=>hc (by simp [h])) (fun h=>hc (by simp [h])) e'
  have I2:Inv X pins σ (upd H s.heap.objs.size (.tup [x,y])) { s with heap:=h2 } :=
   Inv.jV (s:={ s with heap:=s.heap.push { cls:=.type "tuple",data:=.seq #[xu,yu] } }) (h':=h2) (t':=s.toks) (ch:=[z,q,i1,i2]) I1 kk fun c hc=>ff c (by
    simp only[List.mem_cons] at hc ⊢
    rcases hc with h | h | h | h
    ·exact .inl h
    ·exact .inr (.inr (.inl h))
    ·exact .inr (.inr (.inr (.inl h)))
    ·exact .inr (.inr (.inr (.inr h))))
  refine⟨.ref s.heap.objs.size,_,I2,rfl,⟨_,x,y,hfr,rfl,fun zs hzs=>?_,fun zs hzs=>?_,rfl⟩,⟨z2,(b2.2 _ D.pz).trans (kp _ _ D.pz D.pq D.pa D.pb hp),⟨_,_,(b2.2 _ D.qz).trans q'⟩,cV u1 b2 D.az,iZ u2 b2 D.bz⟩,fun c hc=>(ff c hc).1⟩
  ·rw[I.iW hzs hx]; exact ex
  ·rw[I.rY hzs hy]; exact ey
 done:=by
  intro X hP hw hK hc i pins s σ H E I hf st hg
  subst hP hw hK
  obtain⟨xs,ys,hx,hy,hend⟩:=hg
  obtain⟨hz,hp,⟨u,v,hq⟩,j1,j2⟩:=st
  obtain⟨its,rv,tp,_⟩:=I.tuple hx
  obtain⟨its2,rv2,tp2,_⟩:=I.list hy
  have l1:=rv.length
  have l2:=rv2.length
  refine Mw (I.ok.hd hc) D hz hp hq j1 j2 (show s.heap.IsTuple a its.toArray from tp) (show s.heap.IsList b its2.toArray from tp2.isList) (hend.imp (fun h=>by simp; lia) fun h=>by simp; lia) fun h' kp=>⟨rfl,?_⟩
  exact I.jV (t':=s.toks) (ch:=[z,q,i1,i2]) (fun c o hc e=>kp c o (fun h=>hc (by simp [h])) (fun h=>hc (by simp [h])) (fun h=>hc (by simp [h])) (fun h=>hc (by simp [h])) e)
   fun c hc=>hf c (by simp only[List.mem_cons] at hc ⊢; rcases hc with h | h | h | h; exact .inl h; exact .inr (.inr (.inl h)); exact .inr (.inr (.inr (.inl h))); exact .inr (.inr (.inr (.inr h))))
 self:=fun _ _ _ _ _ st h=>wpAny_pyIter_zip st.1 h
noncomputable def Pr (K:W.Frag) (ta:TA):TI:=fun σ H R=>ta σ H fun vs H1=>∃ a b xs ys,vs=[.ref a,.ref b]/\SqT K H1 a xs/\SqL K H1 b ys/\R (Itu K a b) H1
theorem HD {X:Cx} {elts:List Expr} {x1} {tpos:Pos} {a b:Expr} {ta:TA} {p pos:Pos} (hg:Gl X "zip") (hm:X.mg "zip" = none) (ha:PA X [a,b] ta) (hs : autoParam (starEach [a,b] X.env=[(false,eval a X.env),(false,eval b X.env)]) L2.az5._auto_1) (hs2 : autoParam (starEach [b] X.env=[(false,eval b X.env)]) L2.az5._auto_1) :
  PI X (.Tuple elts x1 tpos) (.Call (.Name "zip" p) [a,b] [] pos) (Pr X.K ta):=by
 intro pins s σ H R I h
 refine Call_ (iC I hg hm boot_zip (PyProof.Rows.callWith_type1 (thn (ha pos pins s σ H _ I h) fun us s1 ⟨vs,H1,I1,r1,q1⟩=>?_) (by rw[hs,hs2]) (by rw[hs2]; rfl)))
 obtain⟨c,d,xs,ys,e,hx,hy,q⟩:=q1
 subst e
 obtain⟨u1,u2,rfl,ru1,ru2⟩:=vals2 r1
 cases ru1
 cases ru2
 obtain⟨its,_,tp,_⟩:=I1.tuple hx
 obtain⟨its2,_,tp2,_⟩:=I1.list hy
 refine Kw (show s1.heap.IsTuple c its.toArray from tp) (show s1.heap.IsList d its2.toArray from tp2.isList) fun h' z' p' q' j1 j2 kp=>?_
 have lc:c < s1.heap.objs.size:=by obtain⟨o,e,_⟩:=tp; exact Heap.lt_size e
 have ld:d < s1.heap.objs.size:=by obtain⟨o,e,_⟩:=tp2.isList; exact Heap.lt_size e
 have D:Zap (s1.heap.objs.size+4) (s1.heap.objs.size+2) (s1.heap.objs.size+3) s1.heap.objs.size (s1.heap.objs.size+1) c d:=Dd lc ld
 refine wpAny_pyIter_zip z' ⟨_,_,_,_,H1,rfl,I1.kept (t':=s1.toks) kp,DW D,⟨z',p',⟨_,_,q'⟩,j1,j2⟩,fun e he=>?_,q⟩
 have hle:s1.heap.objs.size<=e:=by
  simp only[List.mem_cons,List.not_mem_nil,or_false] at he
  rcases he with rfl | rfl | rfl | rfl | rfl <;> lia
 exact I1.DR hle (I1.hok.fresh hle)
theorem xW {K:W.Frag} {a b D:Addr} {xs ys:List V} {g:TG} {tt:TT} {te:TE} {H1:Hp} {Q:Hp->Prop} {σ0:St} (hlen:xs.length=ys.length) (Pv:Nat->List V->St->Hp->Prop) (h0:Pv 0 [] σ0 (upd H1 D (.lst [])))
  (hl:∀ i zs σ H,i<=xs.length->Pv i zs σ H->SqT K H a xs/\SqL K H b ys/\H D=some (.lst zs))
  (hs:∀ i zs x y p σ H,xs[i]? = some x->ys[i]? = some y->H p=none->Pv i zs σ H->g (.ref p) σ (upd H p (.tup [x,y])) fun σ3 H3=>tt σ3 H3 fun c H4=>if c=true then te σ3 H4 fun v H5=>H5 D=some (.lst zs)/\zs.length < sizeLine/\Pv (i+1) (zs++[v]) σ3 (upd H5 D (.lst (zs++[v]))) else Pv (i+1) zs σ3 H4)
  (hd:∀ zs σ H,Pv xs.length zs σ H->Q H):eO D σ0 (Itu K a b) g tt te H1 Q:=by
 refine⟨fun i m zs σ H=>m=xs.length - i/\i<=xs.length/\Pv i zs σ H,⟨xs.length,by simp,Nat.zero_le _,h0⟩,?_⟩
 rintro i m zs σ H ⟨rfl,hi,p⟩
 obtain⟨q1,q2,qD⟩:=hl i zs σ H hi p
 refine⟨qD,?_⟩
 by_cases hlt:i < xs.length
 ·have hlt2:i < ys.length:=by lia
  refine .inr ⟨⟨xs,ys,xs[i],ys[i],q1,q2,by simp [hlt],by simp [hlt2]⟩,Pv (i+1),fun zs' σ' H' p'=>⟨xs.length - (i+1),by lia,rfl,hlt,p'⟩,fun v H' y=>?_⟩
  obtain⟨pp,x,y,hp,rfl,hx,hy,rfl⟩:=y
  exact hs i zs x y pp σ _ (hx xs q1) (hy ys q2) hp p
 ·have e:i=xs.length:=by lia
  subst e
  exact .inl ⟨⟨xs,ys,q1,q2,.inl (Nat.le_refl _)⟩,hd zs σ H p⟩
end L2
namespace L2
open PySem PySem.Spec PyProof.Rows
noncomputable def Itn (K : W.Frag) (a : Addr) : It :=
  ⟨fun i H => ∃ xs x, SqL K H a xs ∧ xs[i]? = some x,
   fun i H v H' => ∃ p x, H p = none ∧ v = .ref p ∧ (∀ xs, SqL K H a xs → xs[i]? = some x) ∧ H' = upd H p (.tup [.int (i : Int), x]),
   fun i H => ∃ xs, SqL K H a xs ∧ xs.length ≤ i⟩
noncomputable def tnN (e it a:Addr) (i:Nat) (h:Heap):Prop:=(∃ old,IsEnum h e it (i:Int) old)/\h.IsListIter it a i
theorem DP {P:Program} {w:World} {K:W.Frag} {elts:List Expr} {x1} {pos:Pos} {e it a:Addr} (hne:e≠it) :
  Turn P w K (.Tuple elts x1 pos) (Itn K a) [e,it] e (tnN e it a) where
 mem:=by simp
 obj:=fun i h st c hc=>by
  obtain⟨⟨old,he⟩,⟨o,ho,_,d⟩⟩:=st
  simp only[List.mem_cons,List.not_mem_nil,or_false] at hc
  rcases hc with rfl | rfl
  ·exact⟨_,he,fun v z=>by cases z⟩
  ·exact⟨_,ho,fun v z=>by rw[d] at z; cases z⟩
 keep:=fun i h h' st k=>by
  obtain⟨⟨old,he⟩,j⟩:=st
  exact⟨⟨old,k e (by simp) _ he⟩,j.at fun o q=>k it (by simp) o q⟩
 item:=by
  intro X hP hw hK hc i pins s σ H E I hf st hg
  subst hP hw hK
  obtain⟨xs,x,hx,ex⟩:=hg
  obtain⟨⟨old,he⟩,j⟩:=st
  obtain⟨its,rv,pl,_⟩:=I.list hx
  obtain⟨xu,hxu,rx⟩:=rv.get ex
  refine wpAny_pyNext_enum_item he j pl.isList (x:=xu) (by simpa using hxu) hne fun h' e1 j1 t1 z1 kp=>⟨_,rfl,?_⟩
  refine wpAny_letOwnedTupleGo_enum e1 fun h2 e2 b2=>?_
  have el:e < s.heap.objs.size:=Heap.lt_size he
  have il:it < s.heap.objs.size:=by obtain⟨o,q,_⟩:=j; exact Heap.lt_size q
  have I1:Inv X pins σ (upd H s.heap.objs.size (.tup [.int (i:Int),x])) { s with heap:=s.heap.push { cls:=.type "tuple",data:=.seq #[.int i s.toks,xu] },toks:=s.toks+1 } :=
   I.laid (t':=s.toks+1) (fun _ _ q=>Heap.get?_push_of_some _ q) (Nat.le_refl _) ⟨by show 2<=sizeLine; decide,[.int i s.toks,xu],.cons ⟨_,rfl⟩ (.cons rx .nil),⟨_,Heap.get?_push_size _ rfl,rfl,_,rfl⟩⟩
  have ff:∀ c∈[e,it],sH X pins (upd H s.heap.objs.size (.tup [.int (i:Int),x])) c:=fun c hc=>by
   obtain⟨f0,fr⟩:=hf c hc
   have cl:c < s.heap.objs.size:=by
    simp only[List.mem_cons,List.not_mem_nil,or_false] at hc
    rcases hc with rfl | rfl
    ·exact el
    ·exact il
   exact⟨by rw[aR (Nat.ne_of_lt cl)]; exact f0,fr⟩
  have kk:∀ c o,c ∉ [e,it]->(s.heap.push { cls:=.type "tuple",data:=.seq #[.int i s.toks,xu] }).get? c=some o->h2.get? c=some o:=fun c o hc q=>by
   have c1:c≠e:=fun h=>hc (by simp [h])
   have c2:c≠it:=fun h=>hc (by simp [h])
   refine (b2.2 c c1).trans ?_
   rcases Heap.get?_push_cases q with⟨ec,eo⟩ | q'
   ·subst ec
    subst eo
    exact t1
   ·exact kp c o c1 c2 q'
  have I2:Inv X pins σ (upd H s.heap.objs.size (.tup [.int (i:Int),x])) { s with heap:=h2,toks:=s.toks+1 } :=
   Inv.jV (s:={ s with heap:=s.heap.push { cls:=.type "tuple",data:=.seq #[.int i s.toks,xu] },toks:=s.toks+1 }) (h':=h2) (t':=s.toks+1) (ch:=[e,it]) I1 kk ff
  refine⟨.ref s.heap.objs.size,_,I2,rfl,⟨_,x,I.fresh,rfl,fun zs hzs=>?_,rfl⟩,⟨⟨_,e2⟩,j1.at fun o q=>(b2.2 it (Ne.symm hne)).trans q⟩,fun c hc=>(ff c hc).1⟩
  rw[I.rY hzs hx]; exact ex
 done:=by
  intro X hP hw hK hc i pins s σ H E I hf st hg
  subst hP hw hK
  obtain⟨xs,hx,hend⟩:=hg
  obtain⟨⟨old,he⟩,j⟩:=st
  obtain⟨its,rv,pl,_⟩:=I.list hx
  have l1:=rv.length
  refine wpAny_pyNext_enum_end (I.ok.hd hc) he j pl.isList (by simp; lia) fun h' eb=>⟨rfl,?_⟩
  exact I.jV (t':=s.toks) (ch:=[e,it]) (fun c o hc q=>eb c o (fun h=>hc (by simp [h])) q) hf
 self:=fun _ _ _ _ _ st h=>by
  obtain⟨⟨old,he⟩,_⟩:=st
  exact wpAny_pyIter_enum he h
noncomputable def NQ (K:W.Frag) (ta:TA):TI:=fun σ H R=>ta σ H fun vs H1=>∃ a xs,vs=[.ref a]/\H1 a=some (.lst xs)/\R (Itn K a) H1
theorem JV {X:Cx} {elts:List Expr} {x1} {tpos:Pos} {a:Expr} {ta:TA} {p pos:Pos} (hg:Gl X "enumerate") (hm:X.mg "enumerate" = none) (ha:PA X [a] ta) (hs : autoParam (starEach [a] X.env=[(false,eval a X.env)]) L2.az5._auto_1) :
  PI X (.Tuple elts x1 tpos) (.Call (.Name "enumerate" p) [a] [] pos) (NQ X.K ta):=by
 intro pins s σ H R I h
 refine Call_ (iC I hg hm boot_enumerate (PyProof.Rows.callWith_type1 (thn (ha pos pins s σ H _ I h) fun us s1 ⟨vs,H1,I1,r1,q1⟩=>?_) hs rfl))
 obtain⟨c,xs,e,hx,q⟩:=q1
 subst e
 obtain⟨u1,rfl,ru1⟩:=vals1 r1
 cases ru1
 obtain⟨z,its,n,rv,ho⟩:=I1.hok c _ hx
 refine call_enumerate_1 ho fun h' e1 j1 _ kp=>?_
 have en:s1.heap.objs.size+1≠s1.heap.objs.size:=Nat.ne_of_gt (Nat.lt_succ_self _)
 refine wpAny_pyIter_enum e1 ⟨_,_,_,_,H1,rfl,I1.kept (t':=s1.toks) kp,DP (a:=c) en,⟨⟨_,e1⟩,j1⟩,fun b hb=>?_,q⟩
 have hle:s1.heap.objs.size<=b:=by
  simp only[List.mem_cons,List.not_mem_nil,or_false] at hb
  rcases hb with rfl | rfl
  ·exact Nat.le_succ _
  ·exact Nat.le_refl _
 exact I1.DR hle (I1.hok.fresh hle)
theorem Gq {K:W.Frag} {a:Addr} {xs:List V} {g:TG} {tb:TS} {D:Ends} {σ:St} {H:Hp} (Pv:Nat->St->Hp->Prop) (h0:Pv 0 σ H) (hl:∀ i σ H,i<=xs.length->Pv i σ H->SqL K H a xs)
  (hs:∀ i x p σ H,xs[i]? = some x->H p=none->Pv i σ H->g (.ref p) σ (upd H p (.tup [.int (i:Int),x])) fun σ2 H2=>tb { D with nx:=Pv (i+1),ct:=Pv (i+1),bk:=D.nx } σ2 H2) (hd:∀ σ H,Pv xs.length σ H->D.nx σ H) :
  ∃ W:Nat->Nat->St->Hp->Prop,(∃ m,W 0 m σ H)/\∀ i m σ H,W i m σ H →
   ((Itn K a).stop i H/\D.nx σ H)∨((Itn K a).go i H/\∃ N:St->Hp->Prop,(∀ σ' H',N σ' H'->∃ m',m' < m/\W (i+1) m' σ' H')/\∀ x H',(Itn K a).yld i H x H'->g x σ H' fun σ2 H2=>tb { D with nx:=N,ct:=N,bk:=D.nx } σ2 H2):=by
 refine⟨fun i m σ H=>m=xs.length - i/\i<=xs.length/\Pv i σ H,⟨xs.length,by simp,Nat.zero_le _,h0⟩,?_⟩
 rintro i m σ H ⟨rfl,hi,p⟩
 have q1:=hl i σ H hi p
 by_cases hlt:i < xs.length
 ·refine .inr ⟨⟨xs,xs[i],q1,by simp [hlt]⟩,Pv (i+1),fun σ' H' p'=>⟨xs.length - (i+1),by lia,rfl,hlt,p'⟩,fun v H' y=>?_⟩
  obtain⟨pp,x,hp,rfl,hx,rfl⟩:=y
  exact hs i x pp σ _ (hx xs q1) hp p
 ·have e:i=xs.length:=by lia
  subst e
  exact .inl ⟨⟨xs,q1,Nat.le_refl _⟩,hd σ H p⟩
end L2
namespace L2
open PySem PySem.Spec PyProof.Rows
section
variable {X:Cx} {k:Nat}
noncomputable def IW (H:Hp) (a b:Addr):Prop:=∃ xs ys:List V,H a=some (.lst xs)/\H b=some (.lst ys)/\xs.length=ys.length/\∀ (i:Nat) (u v:V),xs[i]? = some u->ys[i]? = some v->∃ (c d:Addr) (rs:List Addr),u = .ref c/\v = .ref d/\H c=some (.lst (rs.map V.ref))/\H d=some (.lst (rs.map V.ref))
theorem ou:∀ {rs:List Addr} {its:List Value},Vals (rs.map V.ref) its->its=rs.map Value.ref
 | [],_,.nil=>rfl
 | r::rs,_,.cons h t=>by
  rw[ou (rs:=rs) t,List.map_cons,show _=Value.ref r from h]
theorem twin_at {pins:List (Addr × Obj)} {s:Shared} {σ:St} {H:Hp} {a b:Addr} (I:Inv X pins σ H s) (hu:X.A.units+1 < cLine) (h:IW H a b) :
  ∃ its its':Array Value,s.heap.IsList a its/\s.heap.IsList b its'/\its.size=its'.size/\∀ j (h1:j < its.size) (h2:j < its'.size),SeqAt.EqAt X.A.in1 s its[j] its'[j] true:=by
 obtain⟨xs,ys,ha,hb,hl,hp⟩:=h
 obtain⟨its,r1,p1,_⟩:=I.list (SqL.of ha)
 obtain⟨its',r2,p2,_⟩:=I.list (SqL.of hb)
 have l1:=r1.length
 have l2:=r2.length
 refine⟨its.toArray,its'.toArray,p1.isList,p2.isList,by simp; lia,fun j h1 h2=>?_⟩
 have h1:j < its.length:=by simpa using h1
 have h2:j < its'.length:=by simpa using h2
 have k1:j < xs.length:=by lia
 have k2:j < ys.length:=by lia
 obtain⟨c,d,rs,e1,e2,hc,hd⟩:=hp j xs[j] ys[j] (List.getElem?_eq_getElem k1) (List.getElem?_eq_getElem k2)
 obtain⟨u,hu1,ru⟩:=r1.get (List.getElem?_eq_getElem k1)
 obtain⟨v,hv1,rv⟩:=r2.get (List.getElem?_eq_getElem k2)
 rw[List.getElem?_eq_getElem h1] at hu1
 rw[List.getElem?_eq_getElem h2] at hv1
 rw[e1] at ru
 rw[e2] at rv
 rw[List.getElem_toArray,List.getElem_toArray,Option.some.inj hu1,Option.some.inj hv1,show u=Value.ref c from ru,show v=Value.ref d from rv]
 by_cases hcd:c=d
 ·rw[hcd]
  exact SeqAt.EqAt.same _
 ·obtain⟨jts,q1,o1,_⟩:=I.list (SqL.of hc)
  obtain⟨jts',q2,o2,_⟩:=I.list (SqL.of hd)
  rw[ou q1] at o1
  rw[ou q2] at o2
  have r:=SeqAt.RcAt.lists (A:=X.A.in1) (e:=fun _=>true) o1.isList o2.isList rfl hu fun j h1 h2=>SeqAt.EqAt.same _
  have et:∀ n:Nat,(List.range n).all (fun _=>true)=true:=fun n=>by simp
  rw[et] at r
  exact SeqAt.EqAt.of_refs hcd r
inductive G5 (x:V) (y:V) (H:Hp) (Q:VK):Prop where
 | mk (a b:Addr) (z0:x = .ref a) (z1:y = .ref b) (z2:IW H a b) (z3:Q (.bl false) H):G5  x y H Q
noncomputable def Nb:R2:=fun x y H Q=>G5  x y H Q
theorem Ks (hr:gB k X.A):OpR X (compareOp .NotEq) Nb:=by
 intro pins s σ H x y v u Q I rx ry h
 obtain⟨a,b,rfl,rfl,t,q⟩:=h
 cases rx
 cases ry
 have hu:=hr.units
 obtain⟨its,its',p,p',e1,ea⟩:=twin_at I (by lia) t
 have r:=SeqAt.RcNeAt.lists (e:=fun _=>true) p p' e1 hr.ql ea
 have et:∀ n:Nat,(List.range n).all (fun _=>true)=true:=fun n=>by simp
 rw[et] at r
 exact r X.prog X.w X.xe _ ⟨.bl _,H,I,rfl,q⟩
inductive Ij (K:W.Frag) (x:V) (y:V) (H:Hp) (Q:VK):Prop where
 | mk (a b:Addr) (ns ms:List Int) (z0:x = .ref a) (z1:y = .ref b) (z2:SqT K H a (ns.map V.int)) (z3:SqT K H b (ms.map V.int)) (z4:Q (.bl (!decide (ns=ms))) H):Ij K x y H Q
noncomputable def K6 (K:W.Frag):R2:=fun x y H Q=>Ij K x y H Q
theorem Iu (hu:X.A.units < cLine):OpR X (compareOp .NotEq) (K6 X.K):=by
 intro pins s σ H x y v u Q I rx ry h
 obtain⟨a,b,ns,ms,rfl,rfl,ha,hb,q⟩:=h
 cases rx
 cases ry
 obtain⟨its,r1,p1,_⟩:=I.tuple ha
 obtain⟨its2,r2,p2,_⟩:=I.tuple hb
 have i1:IntsAre its ns:=intsAre_of r1
 have i2:IntsAre its2 ms:=intsAre_of r2
 have l1:=i1.length
 have l2:=i2.length
 have r:=SeqAt.RcNeAt.tuples (e:=fun j=>ns.getD j 0 == ms.getD j 0) (show s.heap.IsTuple a its.toArray from p1) (show s.heap.IsTuple b its2.toArray from p2) hu fun j h1 h2=>by
  obtain⟨t,e1⟩:=ints_get i1 (j:=j) (by simpa using h1)
  obtain⟨t',e2⟩:=ints_get i2 (j:=j) (by simpa using h2)
  rw[List.getElem_toArray,List.getElem_toArray,e1,e2]
  exact SeqAt.EqAt.int_int _ _ _ _
 have e:=m8 ns ms
 have s1:its.toArray.size=ns.length:=by rw[List.size_toArray]; exact l1
 have s2:its2.toArray.size=ms.length:=by rw[List.size_toArray]; exact l2
 rw[s1,s2,e] at r
 exact r X.prog X.w X.xe _ ⟨.bl _,H,I,rfl,q⟩
end
end L2
namespace L2
open PySem PySem.Spec PyProof.Rows
theorem lY {X:Cx} {tg l:Expr} {tl:TE} (K:W.Frag) (hK:X.K=K) (hl:PE X l tl):PI X tg l (Lp K tl):=by
 subst hK
 exact eN hl
end L2
namespace L2
open PySem PySem.Spec PyProof.Rows
section
variable {prog:Program} {w:World} {A:Around} {E:Value->Shared->Prop} {s:Shared}
end
end L2
namespace L2
open PySem PySem.Spec PyProof.Rows
end L2
namespace L2
open PySem PySem.Spec PyProof.Rows
section
variable {X:Cx}
end
end L2
namespace L2
open PySem PySem.Spec PyProof.Rows
end L2
namespace L2
open PySem PySem.Spec PyProof.Rows
section
variable {X:Cx}
end
end L2
namespace L2
open PySem PySem.Spec PyProof.Rows
section
variable {prog:Program} {w:World} {A:Around} {R:Result->Shared->Prop} {s:Shared} {elt t0 i0 t1 i1:Expr} {scope:Scope} {pos:Pos} {it acc:Value} {env:Env}
end
section
variable {X:Cx} {elt t0 i0 t1 i1:Expr} {scope:Scope} {pos:Pos} {L F:List Str} {cap:List Nat} {wi wi1:TI} {g g1:TG} {te:TE}
end
end L2
namespace L2
open PySem PySem.Spec PyProof.Rows
section
variable {X:Cx}
end
end L2
namespace L2
open PySem PySem.Spec PyProof.Rows
end L2
namespace L2
open PySem PySem.Spec PyProof.Rows
section
variable {prog:Program} {w:World} {A:Around} {E:Value->Shared->Prop} {s:Shared}
end
section
variable {X:Cx}
end
end L2
namespace L2
open PySem PySem.Spec PyProof.Rows
section
variable {X:Cx} {elt t0 i0 t1 i1:Expr} {scope:Scope} {pos:Pos} {L F:List Str} {cap:List Nat} {wi wi1:TI} {g g1:TG} {te:TE}
end
end L2
namespace L2
open PySem PySem.Spec PyProof.Rows
noncomputable def K9 (lo st:Int) (n:Nat):It:=⟨fun i _=>i < n,fun i H x H'=>H'=H/\x = .int (lo+i * st),fun i _=>n<=i⟩
theorem wF {P:Program} {w:World} {K:W.Frag} {tg:Expr} (it:Addr) (lo st:Int) (n:Nat):Turn P w K tg (K9 lo st n) [it] it (fun i h=>IsRangeIter h it (lo+(i:Nat) * st) ((n:Int) - (i:Nat)) st) where
 mem:=by simp
 obj:=fun i h st b hb=>by
  have e:b=it:=by simpa using hb
  subst e
  exact⟨_,st,fun v z=>by
   have z':Data.fields _=Data.cell v:=z
   cases z'⟩
 keep:=fun i h h' st k=>k it (by simp) _ st
 item:=by
  intro X hP hw hK hc i pins s σ H E I hf hst hg
  subst hP hw hK
  obtain⟨f0,f1,f2,f3,f4,f5⟩:=hf it (by simp)
  have W:=Walks.range (prog:=X.prog) (w:=X.w) (I.ok.hd hc) it lo st n
  refine W.item i s _ _ hg hst fun v h' tk hv st' kk=>?_
  obtain⟨t,rfl⟩:=hv
  have I1:Inv X pins σ H { s with heap:=h',toks:=tk }:=I.turned (fun b o hb e=>kk b o (by simpa using hb) e) f0 f1 f3 f4 f5
  exact⟨_,rfl,Dz (s:={ s with heap:=h',toks:=tk }) (n:="range_iterator") st' rfl rfl (by decide) ⟨.int (lo+i * st),H,I1,⟨t,rfl⟩,⟨rfl,rfl⟩,st',fun b hb=>(hf b hb).1⟩⟩
 done:=by
  intro X hP hw hK hc i pins s σ H E I hf hst hg
  subst hP hw hK
  obtain⟨f0,f1,f2,f3,f4,f5⟩:=hf it (by simp)
  exact wpAny_pyNext_range_end (I.ok.hd hc) hst (by have:n<=i:=hg; lia) fun h' eb=>⟨rfl,I.turned (t':=s.toks) (fun b o hb e=>eb b o hb e) f0 f1 f3 f4 f5⟩
 self:=fun _ _ _ _ _ st h=>wpAny_pyIter_rangeiter st h
section
variable {X:Cx} {tg:Expr}
noncomputable def Ny (ta:TA):TI:=fun σ H R=>ta σ H fun vs H1=>∃ (lo hi st:Int) (n:Nat),vs=[.int lo,.int hi,.int st]/\st≠0/\Builtin.divisionGoesByPylong (hi - lo) st=false/\Builtin.Range.small lo hi st=true/\Builtin.Range.rangeSize lo hi st=(n:Int)/\R (K9 lo st n) H1
theorem Bp {a b c:Expr} {ta:TA} {p pos:Pos} (hg:Gl X "range") (hm:X.mg "range" = none) (ha:PA X [a,b,c] ta) (hs : autoParam (starEach [a,b,c] X.env=[(false,eval a X.env),(false,eval b X.env),(false,eval c X.env)]) L2.az5._auto_1) (hs2 : autoParam (starEach [b,c] X.env=[(false,eval b X.env),(false,eval c X.env)]) L2.az5._auto_1) :
  PI X tg (.Call (.Name "range" p) [a,b,c] [] pos) (Ny ta):=by
 intro pins s σ H R I h
 refine Call_ (iC I hg hm boot_range (PyProof.Rows.callWith_type1 (thn (ha pos pins s σ H _ I h) fun us s1 ⟨vs,H1,I1,r1,q1⟩=>?_) (by rw[hs,hs2]) (by rw[hs2]; rfl)))
 obtain⟨lo,hi,st,n,e,q1,q2,q3,q4,q⟩:=q1
 subst e
 cases r1 with
 | cons r rr =>
  cases rr with
  | cons r' rr =>
   cases rr with
   | cons r'' rr =>
    cases rr
    obtain⟨t,rfl⟩:=r
    obtain⟨u,rfl⟩:=r'
    obtain⟨v,rfl⟩:=r''
    refine call_range_3 q1 ?_ (.inl q2)
    refine wpAny_pyIter_range (IsRange.new ..) q3 ?_
    have I2:Inv X pins σ H1 { s1 with heap:=s1.heap.push { cls:=.type "range",data:=.fields #[.int lo t,.int hi u,.int st v] } }:=I1.kept (t':=s1.toks) fun b o e=>Heap.get?_push_of_some _ e
    refine⟨(s1.heap.push { cls:=.type "range",data:=.fields #[.int lo t,.int hi u,.int st v] }).objs.size,[(s1.heap.push { cls:=.type "range",data:=.fields #[.int lo t,.int hi u,.int st v] }).objs.size],_,_,H1,rfl,
     I2.kept (t':=s1.toks) fun b o e=>Heap.get?_push_of_some _ e,wF _ lo st n,?_,fun b hb=>?_,q⟩
    ·have e1:lo+((0:Nat):Int) * st=lo:=by simp
     have e2:(n:Int) - ((0:Nat):Int)=Builtin.Range.rangeSize lo hi st:=by rw[q4]; simp
     show IsRangeIter _ _ (lo+((0:Nat):Int) * st) ((n:Int) - ((0:Nat):Int)) st
     rw[e1,e2]
     exact Heap.get?_push_size _ rfl
    ·have e:b=(s1.heap.push { cls:=.type "range",data:=.fields #[.int lo t,.int hi u,.int st v] }).objs.size:=by simpa using hb
     subst e
     exact I2.DR (Nat.le_refl _) (I2.hok.fresh (Nat.le_refl _))
end
theorem yU {lo st:Int} {n:Nat} {g:TG} {tb:TS} {D:Ends} {σ:St} {H:Hp} (Pv:Nat->St->Hp->Prop) (h0:Pv 0 σ H)
  (hs:∀ i σ H,i < n->Pv i σ H->g (.int (lo+i * st)) σ H fun σ2 H2=>tb { D with nx:=Pv (i+1),ct:=Pv (i+1),bk:=D.nx } σ2 H2) (hd:∀ σ H,Pv n σ H->D.nx σ H) :
  ∃ W:Nat->Nat->St->Hp->Prop,(∃ m,W 0 m σ H)/\∀ i m σ H,W i m σ H →
   ((K9 lo st n).stop i H/\D.nx σ H)∨((K9 lo st n).go i H/\∃ N:St->Hp->Prop,(∀ σ' H',N σ' H'->∃ m',m' < m/\W (i+1) m' σ' H')/\∀ x H',(K9 lo st n).yld i H x H'->g x σ H' fun σ2 H2=>tb { D with nx:=N,ct:=N,bk:=D.nx } σ2 H2):=by
 refine⟨fun i m σ H=>m=n - i/\i<=n/\Pv i σ H,⟨n,by simp,Nat.zero_le _,h0⟩,?_⟩
 rintro i m σ H ⟨rfl,hi,p⟩
 by_cases hlt:i < n
 ·refine .inr ⟨hlt,Pv (i+1),fun σ' H' p'=>⟨n - (i+1),by lia,rfl,hlt,p'⟩,fun x H' y=>?_⟩
  obtain⟨e,y⟩:=y
  subst e y
  exact hs i σ _ hlt p
 ·have e:i=n:=by lia
  subst e
  exact .inl ⟨Nat.le_refl _,hd σ H p⟩
end L2
namespace L2
open PySem PySem.Spec PyProof.Rows
noncomputable def cX (X:Cx) (scope:Scope) (cl:List (Str × Addr)) (C:Addr) (x0:Str) (N:List Str) (s:Shared) (H:Hp) (fp:List Addr):Cx :=
 {X with N:=N,s₀:=s,H₀:=H,env:=compEnvC scope ((x0,C+1)::cl) C X.env,outer:=X.stack,ex:=fp,fn:=fun y=>y == x0,pn:=[],xe:=fun _ _=>False }
structure rP (X:Cx) (scope:Scope) (x0:Str) (F:List Str) (cap:List Nat):Prop where
 kind:scope.kind = .function
 cf:∀ (n:Nat) (acc:List (Str × Addr)),cellsFrom n scope.names acc=(x0,n)::acc
 pc:∀ h:Heap,pushCells h scope.names=h.push { cls:=.type "cell",data:=.cell none }
 own:∀ x,scope.names.lookup x=some .cell->x=x0
 own0:scope.names.lookup x0=some .cell
 nms:∀ y∈scope.names,y.2 = .local->scope.names.lookup y.1=some .local
 fr:∀ y∈scope.names,y.2 = .free->X.env.kindOf y.1=some .cell∨X.env.kindOf y.1=some .free
 len:cap.length=F.length
 at':∀ (k:Nat) (x:Str),F[k]? = some x->∃ i,cap[k]? = some i/\X.N[i]? = some x/\scope.names.lookup x=some .free
theorem lkK {x0 x:Str} {c0 c:Addr} {cl:List (Str × Addr)} (h:((x0,c0)::cl).lookup x=some c):(x=x0/\c=c0)∨(x≠x0/\cl.lookup x=some c):=by
 by_cases e:x=x0
 ·subst e
  rw[List.lookup_cons_self] at h
  exact .inl ⟨rfl,(Option.some.inj h).symm⟩
 ·refine .inr ⟨e,?_⟩
  rw[List.lookup_cons] at h
  have:(x == x0)=false:=beq_eq_false_iff_ne.mpr e
  rw[this] at h
  exact h
theorem BK {x0 x:Str} {c0 c:Addr} {cl:List (Str × Addr)} (e:x≠x0) (h:cl.lookup x=some c):((x0,c0)::cl).lookup x=some c:=by
 rw[List.lookup_cons]
 have:(x == x0)=false:=beq_eq_false_iff_ne.mpr e
 rw[this]
 exact h
theorem JX {M:Model} {A:Around} {E:Value->Shared->Prop} {s:Shared} {scope:Scope} {globals:Addr} {cl:List (Str × Addr)} {qual:Str} {outer:Env} {Q:Env->Shared->Prop}
  (hQ:Q (newEnv scope s.heap.objs.size globals (cellsFrom (s.heap.objs.size+1) scope.names cl) qual none .none (some outer) builtinsNs) { s with heap:=pushCells (s.heap.push { cls:=.type "dict",data:=.dict #[] }) scope.names }) :
  wpAny M A (newFunctionEnv scope globals cl [] qual none .none (some outer)) Q E s:=by
 simp only[newFunctionEnv,Option.isSome_some,if_true]
 refine wpAny_bind (wpAny_alloc ?_)
 refine wpAny_bind (wpAny_layCells _ (fun name kind cells=>by cases hkc:kind == NameKind.cell <;> simp [hkc]) _ _ _ _ ?_)
 rw[show ({ s with heap:=s.heap.push { cls:=.type "dict",data:=.dict #[] } }:Shared).heap.objs.size=s.heap.objs.size+1 from Heap.size_push ..]
 refine wpAny_bind ?_
 rw[List.forIn_nil]
 exact wpAny_pure (wpAny_pure hQ)
section
variable {X:Cx} {elt tg iter:Expr} {ifs:List Expr} {scope:Scope} {pos:Pos} {x0:Str} {L F:List Str} {cap:List Nat} {wi:TI} {g:TG} {tt:TT} {te:TE}
theorem wu {cl:List (Str × Addr)} {pins:List (Addr × Obj)} {σ:St} {H:Hp} {s:Shared} {fp:List Addr} {h₁:Heap} {tk:Nat} (ok:rP X scope x0 F cap) (I:Inv X pins σ H s) (hfp:∀ b∈fp,sH X pins H b/\b < s.heap.objs.size)
  (sub:∀ n c,cl.lookup n=some c->X.env.cells.lookup n=some c) (all:∀ y∈scope.names,y.2 = .free->∃ c,cl.lookup y.1=some c)
  (ns:h₁.Ns s.heap.objs.size fun _=>none) (kp:∀ b o,s.heap.get? b=some o->h₁.get? b=some o) (nc:h₁.IsCell (s.heap.objs.size+1) none) :
  Inv (cX X scope cl s.heap.objs.size x0 (L++F) s H fp) [] (Ia L.length cap σ) H { s with heap:=h₁,toks:=tk }:=by
 have frk:∀ x,scope.names.lookup x=some .free->X.env.kindOf x=some .cell∨X.env.kindOf x=some .free:=fun x e=>ok.fr (x,.free) (PySem.mem_of_lookup e) rfl
 have old:∀ x c,cl.lookup x=some c->c < s.heap.objs.size:=fun x c e=>let ⟨_,q⟩:=I.cell x c (sub x c e); q.lt
 have okX:(cX X scope cl s.heap.objs.size x0 (L++F) s H fp).Ok:=by
  refine⟨I.ok.mod,ok.kind,I.ok.glob,I.ok.blt,Nat.le_refl _,fun x y c e1 e2=>?_,fun x hx=>?_,fun x c hx e=>?_,I.ok.hd,I.ok.frames,.inl rfl,fun b hb=>⟨Nat.ne_of_lt (hfp b hb).2,fun x c e=>?_⟩,I.bs,Nat.le_trans I.ok.bsz I.sz,fun b o e hb=>?_,fun b hb=>?_,I.stack,I.qK⟩
  ·rcases lkK e1 with⟨f1,f2⟩ | ⟨f1,f2⟩ <;> rcases lkK e2 with⟨f3,f4⟩ | ⟨f3,f4⟩
   ·rw[f1,f3]
   ·have:=old _ _ f4
    rw[f2] at this
    exact absurd (Nat.lt_trans (Nat.lt_succ_self _) this) (Nat.lt_irrefl _)
   ·have:=old _ _ f2
    rw[f4] at this
    exact absurd (Nat.lt_trans (Nat.lt_succ_self _) this) (Nat.lt_irrefl _)
   ·exact I.ok.inj x y c (sub x c f2) (sub y c f4)
  ·by_cases hx0:x=x0
   ·exact⟨s.heap.objs.size+1,by rw[hx0]; exact List.lookup_cons_self⟩
   ·have e:scope.names.lookup x=some .free:=by
     rcases hx with hx | hx
     ·rcases nQ (env:=X.env) (show _=some NameKind.cell from hx) with e | e
      ·exact absurd (ok.own _ e) hx0
      ·exact e
     ·rcases nQ (env:=X.env) (show _=some NameKind.free from hx) with e | e <;> exact e
    obtain⟨c,hc⟩:=all (x,.free) (PySem.mem_of_lookup e) rfl
    exact⟨c,BK hx0 hc⟩
  ·have hx:(x == x0)=true:=hx
   rcases lkK e with⟨_,f2⟩ | ⟨f1,_⟩
   ·rw[f2]
    exact Nat.le_succ _
   ·exact absurd (eq_of_beq hx) f1
  ·rcases lkK e with⟨_,f2⟩ | ⟨_,f2⟩
   ·rw[f2]
    exact Nat.ne_of_gt (Nat.lt_succ_of_lt (hfp b hb).2)
   ·exact (hfp b hb).1.2.2.2.2.1 x c (sub x c f2)
  ·obtain⟨_,_,_,f3,_⟩:=(hfp b hb).1
   rcases f3 with z | z
   ·exact I.ok.noex b o e z
   ·exact absurd (Nat.lt_of_lt_of_le (Heap.lt_size e) (Nat.le_trans I.ok.bsz z)) (Nat.lt_irrefl _)
  ·obtain⟨_,f1,f2,_⟩:=(hfp b hb).1
   exact sE I f1 f2
 refine⟨okX,rfl,I.bare,Un.kept kp,⟨_,ns,fun i x v e1 e2 e3=>?_⟩,fun x c e=>?_,I.hok.fresh (Nat.le_refl _),fun x c e=>?_,fun p hp=>absurd (show p∈([]:List (Addr × Obj)) from hp) (by simp),I.hok.kept kp,?_⟩
 ·have e1:(L++F)[i]? = some x:=e1
  have e2:(List.replicate L.length none++cap.map fun i=>(σ[i]?).join)[i]? = some (some v):=e2
  have hL:¬ i < L.length:=fun hi=>by
   rw[List.getElem?_append_left (by simpa using hi),List.getElem?_replicate] at e2
   split at e2 <;> cases e2
  have hi:L.length<=i:=Nat.le_of_not_lt hL
  rw[List.getElem?_append_right hi] at e1
  rw[List.getElem?_append_right (by simpa using hi),List.length_replicate,List.getElem?_map] at e2
  obtain⟨j,hj,hN,hk⟩:=ok.at' _ _ e1
  rw[hj] at e2
  have e4:(σ[j]?).join=some v:=by simpa using e2
  have e5:σ[j]? = some (some v):=by
   cases q:σ[j]? with
   | none=>rw[q] at e4; cases e4
   | some a=>rw[q] at e4; exact congrArg some e4
  obtain⟨m,hn,hl⟩:=I.loc
  have kd:=frk x hk
  have hx0:x≠x0:=fun z=>by rw[z,ok.own0] at hk; cases hk
  obtain⟨u,r,lk⟩:=hl j x v hN e5 (kd.elim (fun z=>.inr (.inl z)) fun z=>.inr (.inr z))
  obtain⟨c,hc,hcell⟩:∃ c,X.env.cells.lookup x=some c/\s.heap.IsCell c (some u):=by
   rcases lk with⟨z,_⟩ | ⟨_,c,z1,z2⟩
   ·rcases kd with y | y <;> (rw[y] at z; cases z)
   ·exact⟨c,z1,z2⟩
  obtain⟨c',hc'⟩:=all (x,.free) (PySem.mem_of_lookup hk) rfl
  have ec:c'=c:=by
   have:=sub x c' hc'
   rw[hc] at this
   exact (Option.some.inj this).symm
  subst ec
  obtain⟨o,ho,hd⟩:=hcell
  exact⟨u,r,.inr ⟨(wj (env:=X.env) hk),c',BK hx0 hc',o,kp _ _ ho,hd⟩⟩
 ·rcases lkK e with⟨_,f2⟩ | ⟨_,f2⟩
  ·rw[f2]
   exact⟨none,nc⟩
  ·obtain⟨v,o,ho,hd⟩:=I.cell x c (sub x c f2)
   exact⟨v,o,kp _ _ ho,hd⟩
 ·rcases lkK e with⟨_,f2⟩ | ⟨_,f2⟩
  ·rw[f2]
   exact I.hok.fresh (Nat.le_succ _)
  ·exact I.freeC x c (sub x c f2)
 ·show (List.replicate L.length (none:Option V)++cap.map fun i=>(σ[i]?).join).length=(L++F).length
  rw[List.length_append,List.length_append,List.length_replicate,List.length_map,ok.len]
theorem zX {cl:List (Str × Addr)} {pins:List (Addr × Obj)} {σ:St} {s2:Shared} {H2:Hp} {it:Addr} {fp:List Addr} {tn:Nat->Heap->Prop} {J:It} {use:Option (Value->Sem Unit)} {QQ:Value->Shared->Prop} {Z:Hp->Prop} {E:Value->Shared->Prop}
  (hc:X.calm=true) (ok:rP X scope x0 F cap)
  (sub:∀ n c,cl.lookup n=some c->X.env.cells.lookup n=some c) (all:∀ y∈scope.names,y.2 = .free->∃ c,cl.lookup y.1=some c)
  (hg:∀ cl C s H fp,PG (cX X scope cl C x0 (L++F) s H fp) tg g) (ht:∀ cl C s H fp,PTs (cX X scope cl C x0 (L++F) s H fp) ifs tt) (he:∀ cl C s H fp,PE (cX X scope cl C x0 (L++F) s H fp) elt te)
  (I2:Inv X pins σ H2 s2) (T:Turn X.prog X.w X.K tg J fp it tn) (st2:tn 0 s2.heap) (f2:∀ b∈fp,sH X pins H2 b)
  (q2:eO s2.heap.objs.size (Ia L.length cap σ) J g tt te H2 Z)
  (fin:∀ (C:Addr) (s':Shared) (H':Hp),Z H'->Inv X pins σ H' s'->(∃ m,s'.heap.Ns C m)->H' C=none->C≠X.env.locals->X.s₀.heap.objs.size<=C->(∀ x c,X.env.cells.lookup x=some c->c≠C)->(∀ p∈X.pn++pins,p.1≠C) →
   compPost (model X.prog X.w) X.A E use QQ (.ref s2.heap.objs.size) C (.ok .next) s') :
  wpAny (model X.prog X.w) X.A (newList []) (fun acc s₃=>wpAny (model X.prog X.w) X.A (newFunctionEnv scope X.env.globals cl [] X.env.qual none .none (some X.env)) (fun cenv s₄ =>
   codeAny (model X.prog X.w) X.A (.compStart (.ListComp elt [⟨tg,iter,ifs,0⟩] scope pos) 0 (.ref it) acc { cenv with scope:=relabel scope X.env }) (compPost (model X.prog X.w) X.A E use QQ acc cenv.locals) s₄) E s₃) E s2:=by
 have hD:H2 s2.heap.objs.size=none:=I2.fresh
 refine wpAny_newObj_type (JX ?_)
 rw[ok.cf,ok.pc]
 have I3:Inv X pins σ (upd H2 s2.heap.objs.size (.lst [])) { s2 with heap:=s2.heap.push { cls:=.type "list",data:=.seq ([]:List Value).toArray } }:=I2.Nm (t':=s2.toks) (ys:=[]) (its:=[]) .nil (Nat.zero_le _)
 have blt:∀ b∈fp,b < s2.heap.objs.size:=fun b hb=>let ⟨_,e,_⟩:=T.obj 0 _ st2 b hb; Heap.lt_size e
 have szC:(s2.heap.push { cls:=.type "list",data:=.seq ([]:List Value).toArray }).objs.size=s2.heap.objs.size+1:=Heap.size_push _ _
 generalize hs3:({ s2 with heap:=s2.heap.push { cls:=.type "list",data:=.seq ([]:List Value).toArray } }:Shared)=s3 at I3
 have es3:s3.heap=s2.heap.push { cls:=.type "list",data:=.seq ([]:List Value).toArray }:=by rw[← hs3]
 have eos:s3.os=s2.os:=by rw[← hs3]
 have fok:∀ b∈fp,sH X pins (upd H2 s2.heap.objs.size (.lst [])) b/\b < s3.heap.objs.size:=fun b hb=>by
  obtain⟨f0,fr⟩:=f2 b hb
  refine⟨⟨by rw[aR (Nat.ne_of_lt (blt b hb))]; exact f0,fr⟩,?_⟩
  rw[es3,szC]
  exact Nat.lt_succ_of_lt (blt b hb)
 obtain⟨h₁,eh₁⟩:∃ h₁:Heap,h₁=(s3.heap.push { cls:=.type "dict",data:=.dict #[] }).push { cls:=.type "cell",data:=.cell none }:=⟨_,rfl⟩
 have hkp:∀ b o,s3.heap.get? b=some o->h₁.get? b=some o:=fun b o e=>by
  rw[eh₁]
  exact Heap.get?_push_of_some _ (Heap.get?_push_of_some _ e)
 have hns:h₁.Ns s3.heap.objs.size fun _=>none:=by
  rw[eh₁]
  exact (Heap.Ns.new s3.heap (.type "dict")).keeps fun b o e=>Heap.get?_push_of_some _ e
 have hnc:h₁.IsCell (s3.heap.objs.size+1) none:=by
  rw[eh₁,← Heap.size_push s3.heap { cls:=.type "dict",data:=.dict #[] }]
  exact⟨_,Heap.get?_push_size _ rfl,rfl⟩
 have I4:∀ tk,Inv (cX X scope cl s3.heap.objs.size x0 (L++F) s3 (upd H2 s2.heap.objs.size (.lst [])) fp) [] (Ia L.length cap σ) (upd H2 s2.heap.objs.size (.lst [])) { s3 with heap:=h₁,toks:=tk }:=fun tk =>
  wu (L:=L) ok I3 fok sub all hns hkp hnc
 have stat:∀ {H':Hp},(∀ b∈fp,H' b=none)->∀ b∈fp,sH (cX X scope cl s3.heap.objs.size x0 (L++F) s3 (upd H2 s2.heap.objs.size (.lst [])) fp) [] H' b:=fun {H'} hn b hb=>by
  obtain⟨⟨_,g1,g2,g3,g4,g5⟩,g6⟩:=fok b hb
  exact⟨hn b hb,Nat.ne_of_lt g6,sE I3 g1 g2,.inl hb,fun x c e=>(lkK e).elim (fun z=>by rw[z.2]; exact Nat.ne_of_gt (Nat.lt_succ_of_lt g6)) (fun z=>g4 x c (sub x c z.2)),fun p hp=>absurd (show p∈([]:List (Addr × Obj)) from hp) (by simp)⟩
 have loop:∀ tk,codeAny (model X.prog X.w) X.A (.compLoop (.ListComp elt [⟨tg,iter,ifs,0⟩] scope pos) 0 (.ref it) (.ref s2.heap.objs.size) (compEnvC scope ((x0,s3.heap.objs.size+1)::cl) s3.heap.objs.size X.env))
   (compPost (model X.prog X.w) X.A E use QQ (.ref s2.heap.objs.size) s3.heap.objs.size) { s3 with heap:=h₁,toks:=tk }:=fun tk=>by
  obtain⟨W,⟨m0,w0⟩,turn⟩:=q2
  have st3:tn 0 h₁:=T.keep 0 _ _ st2 fun b hb o e=>hkp b o (by rw[es3]; exact Heap.get?_push_of_some _ e)
  refine pD (fun n s'=>∃ i ys σ' H',Inv (cX X scope cl s3.heap.objs.size x0 (L++F) s3 (upd H2 s2.heap.objs.size (.lst [])) fp) [] σ' H' s'/\tn i s'.heap/\(∀ b∈fp,H' b=none)/\W i n ys σ' H') ?_ m0
   ⟨0,[],_,_,I4 tk,st3,fun b hb=>(fok b hb).1.1,w0⟩
  rintro n s5 ⟨i,ys,σ5,H5,I5,st5,fr5,w5⟩
  obtain⟨hDl,alt⟩:=turn i n ys σ5 H5 w5
  rcases alt with⟨stop,qz⟩ | ⟨go,N,hN,step⟩
  ·refine thn (T.done (cX X scope cl s3.heap.objs.size x0 (L++F) s3 (upd H2 s2.heap.objs.size (.lst [])) fp) rfl rfl rfl hc i [] s5 σ5 H5 _ I5 (stat fr5) st5 stop) fun r s6 ⟨hr,I6⟩=>?_
   subst hr
   have un:Un (frs X.stack) fp H2 H5 s2.heap s6.heap:=by
    have u1:Un (frs X.stack) fp H2 (upd H2 s2.heap.objs.size (.lst [])) s2.heap s3.heap:=by
     rw[es3]
     exact Un.laid (fun _ _ q=>Heap.get?_push_of_some _ q) (Nat.le_refl _) hD
    exact u1.trans I6.base
   have J1:Inv X pins σ H5 s6:=I2.call' (I6.os.trans eos) un I6.hok I6.bare fun b hb=>by
    obtain⟨_,g1,_,g3,g4,g5⟩:=f2 b hb
    exact⟨g3,g1,g4,g5⟩
   have hC:s2.heap.objs.size<=s3.heap.objs.size:=by rw[es3,szC]; exact Nat.le_succ _
   obtain⟨m,hm,_⟩:=I6.loc
   refine fin s3.heap.objs.size s6 H5 qz J1 ⟨m,hm⟩ I6.free (Nat.ne_of_gt (Nat.lt_of_lt_of_le I2.lt hC)) (Nat.le_trans I2.sz hC) (fun x c e z=>?_) (fun p hp z=>?_)
   ·obtain⟨v,q⟩:=I2.cell x c e
    exact absurd (Nat.lt_of_lt_of_le q.lt (by rw[z]; exact hC)) (Nat.lt_irrefl _)
   ·exact absurd (Nat.lt_of_lt_of_le (Heap.lt_size (I2.pin p hp).1) (by rw[z]; exact hC)) (Nat.lt_irrefl _)
  ·refine thn (T.item (cX X scope cl s3.heap.objs.size x0 (L++F) s3 (upd H2 s2.heap.objs.size (.lst [])) fp) rfl rfl rfl hc i [] s5 σ5 H5 _ I5 (stat fr5) st5 go) fun r s6 ⟨u,hr,h6⟩=>?_
   subst hr
   refine thn h6 fun _ s7 ⟨x,H7,I7,r7,y7,st7,fr7⟩=>?_
   have I7':=I7.pinned (stat fr7) (T.obj _ _ st7)
   refine thn (hg _ _ _ _ _ _ s7 σ5 H7 x u _ I7' r7 (step x H7 y7)) fun _ s8 ⟨σ8,H8,I8,q8⟩=>?_
   have again:∀ {σ9:St} {H9:Hp} {s9:Shared} {zs:List V},Inv (cX X scope cl s3.heap.objs.size x0 (L++F) s3 (upd H2 s2.heap.objs.size (.lst [])) fp) ([]++pA fp s7.heap) σ9 H9 s9->N zs σ9 H9 →
     ∃ m,m < n/\∃ i ys σ' H',Inv (cX X scope cl s3.heap.objs.size x0 (L++F) s3 (upd H2 s2.heap.objs.size (.lst [])) fp) [] σ' H' s9/\tn i s9.heap/\(∀ b∈fp,H' b=none)/\W i m ys σ' H':=fun {σ9 H9 s9 zs} I9 n9=>by
    obtain⟨m',hm,w9⟩:=hN zs σ9 H9 n9
    refine⟨m',hm,i+1,zs,σ9,H9,I9.jG,T.keep _ _ _ st7 fun b hb o e=>(I9.pin (b,o) (List.mem_append_right _ (List.mem_append_right _ (fj hb e)))).1,fun b hb=>?_,w9⟩
    obtain⟨o,e,d⟩:=T.obj _ _ st7 b hb
    exact (I9.pin (b,o) (List.mem_append_right _ (List.mem_append_right _ (fj hb e)))).2.1
   refine thn (ht _ _ _ _ _ _ s8 σ8 H8 _ I8 q8) fun okb s9 ⟨H9,I9,q9⟩=>?_
   cases okb with
   | false =>
    rw[if_neg Bool.false_ne_true] at q9 ⊢
    exact again I9 q9
   | true =>
    rw[if_pos rfl] at q9 ⊢
    refine thn (he _ _ _ _ _ _ s9 σ8 H9 _ I9 q9) fun y s10 ⟨yv,H10,I10,r10,e10,z10,n10⟩=>?_
    refine thn (dB _ s10 σ8 H10 (.ref s2.heap.objs.size) [yv] (.ref s2.heap.objs.size) [y] (fun _ H'=>N (ys++[yv]) σ8 H') I10 rfl (.cons r10 .nil) ⟨_,ys,yv,rfl,rfl,e10,z10,n10⟩) fun _ s11 ⟨_,H11,I11,_,n11⟩=>?_
    exact again I11 n11
 have eC:(s2.heap.push { cls:=.type "list",data:=.seq ([]:List Value).toArray }).objs.size=s3.heap.objs.size:=by rw[es3]
 have goal:∀ tk,codeAny (model X.prog X.w) X.A (.compStart (.ListComp elt [⟨tg,iter,ifs,0⟩] scope pos) 0 (.ref it) (.ref s2.heap.objs.size) (compEnvC scope ((x0,s3.heap.objs.size+1)::cl) s3.heap.objs.size X.env))
   (compPost (model X.prog X.w) X.A E use QQ (.ref s2.heap.objs.size) s3.heap.objs.size) { s3 with heap:=h₁,toks:=tk }:=fun tk =>
  codeAny_compStart_list (loop tk) (T.self _ 0 _ _ _ (T.keep 0 _ _ st2 fun b hb o e=>hkp b o (by rw[es3]; exact Heap.get?_push_of_some _ e)) (loop tk))
 have g0:=goal s2.toks
 subst hs3
 rw[eh₁] at g0
 exact g0
theorem xY {j:Nat} {y:Str} {py spos:Pos} (hN:X.N.Nodup) (hj:X.N[j]? = some y) (hy:Loc X.env.scope y) (hc:X.calm=true) (ok:rP X scope x0 F cap) (hi:PI X tg iter wi)
  (hg:∀ cl C s H fp,PG (cX X scope cl C x0 (L++F) s H fp) tg g) (ht:∀ cl C s H fp,PTs (cX X scope cl C x0 (L++F) s H fp) ifs tt) (he:∀ cl C s H fp,PE (cX X scope cl C x0 (L++F) s H fp) elt te)
  (hsw : autoParam (swapsWith (.ListComp elt [⟨tg,iter,ifs,0⟩] scope pos) (some (.Name y py)) spos.line X.env=pure true) L2.az5._auto_1)
  (hs : autoParam (∀ x,foldedSetIterable iter X.env x=pure x) L2.az4._auto_1) (hf : autoParam (X.fn y=true∨X.env.scope.names.lookup y=some .local) L2.az1._auto_1) :
  PS X (.Assign [.Name y py] (.ListComp elt [⟨tg,iter,ifs,0⟩] scope pos) spos) (GK L.length cap wi g tt te j):=by
 intro pins s σ H D I h
 obtain⟨cl,e1,e2,e3⟩:=rO (scope:=scope) (env:=X.env) (fun y hy hf=>I.ok.has _ (ok.fr y hy hf))
 rw[exec_Assign_Name_used _ _ _ _ hsw]
 refine wpAny_bind (wpAny_standAt (wpAny_bind ?_))
 show wpAny (model X.prog X.w) X.A (do let _ ← comprehension (.ListComp elt [⟨tg,iter,ifs,0⟩] scope pos) scope X.env _ (newList []) false (eval iter X.env) (some (assign (.Name y py) X.env))) _ _ s
 refine wpAny_bind (wpAny_mono (wpAny_comprehension_free (use:=some (assign (.Name y py) X.env)) (Q:=fun _ s'=>SP X pins D .next s') rfl hs e1 ok.kind ok.nms
  (thn (hi pins s σ H _ I h) fun v s1 h1=>thn h1 fun itv s2 h2=>?_)) (fun _ s' hq=>wpAny_pure (wpAny_pure hq)) fun _ _ e=>e)
 obtain⟨it,fp,tn,J,H2,e,I2,T,st2,f2,q2⟩:=h2
 subst e
 refine zX (Z:=fun H'=>D.nx (σ.set j (some (.ref s2.heap.objs.size))) H') hc ok e2 e3 hg ht he I2 T st2 f2 (q2 _ I2.fresh) fun C s' H' z J m hCf hCl hCs hCc hCp=>?_
 obtain⟨m,hm⟩:=m
 refine wpAny_assign_Name (nU J hN hj hy (v:=.ref s2.heap.objs.size) rfl (fun s5 I5 hs5=>?_) hf)
 obtain⟨a,sb,ha⟩:=hs5
 have hne:C≠a:=by
  rcases ha with rfl | ha
  ·exact hCl
  ·exact Ne.symm (hCc y a ha)
 exact⟨m,hm.sameBut sb hne,fun h' hs'=>⟨_,H',I5.turned (t':=s5.toks) (fun b o hb e=>(hs'.2 b hb).trans e) hCf hCl (.inr hCs) hCc hCp,z⟩⟩
end
end L2
namespace L2
open PySem PySem.Spec PyProof.Rows
noncomputable def xV (osc:Scope) (oN:List Str) (sc:Scope) (x0:Str) (F:List Str) (cap:List Nat):Bool :=
 decide (sc.kind = .function) && sc.names.all (fun y=>!decide (y.2 = .cell) || decide (y.1=x0)) && decide (sc.names.lookup x0=some .cell) && sc.names.all (fun y=>!decide (y.2 = .local) || decide (sc.names.lookup y.1=some .local)) &&
 sc.names.all (fun y=>!decide (y.2 = .free) || decide (osc.names.lookup y.1=some .cell) || decide (osc.names.lookup y.1=some .free)) && decide (cap.length=F.length) &&
 (List.range F.length).all fun k=>(decide (F[k]? = none) || decide ((cap[k]?.bind fun i=>oN[i]?)=F[k]?)) && decide ((F[k]?.bind fun x=>sc.names.lookup x)=some .free)
theorem yI {X:Cx} {osc sc:Scope} {x0:Str} {oN F:List Str} {cap:List Nat} (ho:X.env.scope=osc) (hN:X.N=oN) (h:xV osc oN sc x0 F cap=true)
  (cf:∀ (n:Nat) (acc:List (Str × Addr)),cellsFrom n sc.names acc=(x0,n)::acc) (pc:∀ h:Heap,pushCells h sc.names=h.push { cls:=.type "cell",data:=.cell none }):rP X sc x0 F cap:=by
 unfold xV at h
 simp only[Bool.and_eq_true] at h
 obtain⟨⟨⟨⟨⟨⟨h1,h2⟩,h0⟩,h3⟩,h4⟩,h5⟩,h6⟩:=h
 refine⟨of_decide_eq_true h1,cf,pc,fun x e=>?_,of_decide_eq_true h0,fun y hy e=>?_,fun y hy e=>?_,of_decide_eq_true h5,fun k x e=>?_⟩
 ·have:=List.all_eq_true.mp h2 _ (PySem.mem_of_lookup e)
  exact of_decide_eq_true (by simpa using this)
 ·have:=List.all_eq_true.mp h3 y hy
  rw[decide_eq_true e] at this
  exact of_decide_eq_true (by simpa using this)
 ·have:=List.all_eq_true.mp h4 y hy
  rw[decide_eq_true e] at this
  have z:decide (osc.names.lookup y.1=some .cell)=true∨decide (osc.names.lookup y.1=some .free)=true:=by
   rw[Bool.not_true,Bool.false_or,Bool.or_eq_true] at this
   exact this
  show X.env.scope.names.lookup y.1=_∨X.env.scope.names.lookup y.1=_
  rw[ho]
  exact z.elim (fun q=>.inl (of_decide_eq_true q)) fun q=>.inr (of_decide_eq_true q)
 ·have hk:k < F.length:=(List.getElem?_eq_some_iff.mp e).1
  have q:=List.all_eq_true.mp h6 k (List.mem_range.mpr hk)
  rw[e,Bool.and_eq_true] at q
  obtain⟨q1,q2⟩:=q
  have q1:(cap[k]?.bind fun i=>oN[i]?)=some x:=by
   rw[Bool.or_eq_true] at q1
   rcases q1 with z | z
   ·exact absurd (of_decide_eq_true z) (by simp)
   ·exact of_decide_eq_true z
  have q2:sc.names.lookup x=some .free:=of_decide_eq_true q2
  cases hc:cap[k]? with
  | none=>rw[hc] at q1; cases q1
  | some i =>
   rw[hc] at q1
   exact⟨i,rfl,by rw[hN]; exact q1,q2⟩
theorem xG {X:Cx} {scope:Scope} {cl:List (Str × Addr)} {C:Addr} {x0:Str} {N:List Str} {s:Shared} {H:Hp} {fp:List Addr} (h:N.Nodup):(cX X scope cl C x0 N s H fp).N.Nodup:=h
end L2
namespace L2
open PySem PySem.Spec PyProof.Rows
section
variable {X:Cx} {CX:CXT} {k:Nat} {f C:Addr} {fd:FuncData} {ps:List Str} {sp:Sp} {dvs:List V} {ds:List Value} {E:XK} {c m:Str} {p pos apos:Pos} {e:Expr} {es:List Expr} {t:TA} {mc:Value}
structure Bg (K:PySem.W.Frag) (C:Addr) (mc:Value) (m:Str) (f:Addr):Prop where
 ga:PySem.W.specialIn K (.ref C) "__getattribute__" = some (some (.builtin "type.__getattribute__"))
 rd:PySem.W.readsIn K C mc=true
 fd:PySem.W.findCls K (.ref C) mc m=some (.val (.ref f))
 kp:PySem.W.keepIn K (.ref f)=true
 hd:PySem.W.handedIn (.ref f)=true
theorem jY {pl:Sem Bool} (hg:Gl X c) (hm:X.mg c=some (.ref C)) (O:Bg X.K C mc m f) (F:cu X.prog X.w X.K X.mg X.base CX k f fd ps sp) (hr:gB k X.A) (hb:Binds X.K fd ps ds) (hd:Vals dvs ds) (hx:Passes CX X E) (ha:PA X (e::es) t)
  (hdb : autoParam ((c == ("__debug__" : Str))=false) L2.az2._auto_1) (hst : autoParam (starEach (e::es) X.env=(false,eval e X.env)::starEach es X.env) L2.az5._auto_1) (hpl : autoParam ((backTo pos (starEach es X.env)).any (·.1)=false) L2.az5._auto_1)
  (ht:eval (.Call (.Attribute (.Name c p) m apos) (e::es) [] pos) X.env=(do
   let ov ← eval (.Name c p) X.env
   standAt apos.atName
   let (g,first) ← holding [ov] (getMethod ov m pl)
   callWith pos g first (backTo pos (starEach (e::es) X.env)) (backToKw pos (keywordEach [] X.env))):=by rfl) :
  PE X (.Call (.Attribute (.Name c p) m apos) (e::es) [] pos) (Gw sp dvs E t):=by
 intro pins s σ H Q I h
 refine PySem.W.methodCall_KW (pl:=pl) (nj I hg hm ?_ hdb) ht
 refine PySem.W.method_cls I.kIn O.ga (PySem.W.cls_value I.kIn O.rd O.fd O.hd ?_)
 have I1:=I.tok (s.toks+1)
 refine PySem.W.callWith_K (first:=[]) (h₀:=X.base) I.ok.mod.kin O.kp (thn (ha pos pins _ σ H _ I1 h) fun us s1 ⟨vs,H1,I2,r,q⟩=>⟨I2.kIn,?_⟩) hst hpl
 exact HF F hr hb hd hx I2 r q
end
end L2
namespace L2
open PySem PySem.Spec PyProof.Rows
section
variable {P:Program} {w:World} {A:Around} {E:Value->Shared->Prop} {hp:Heap} {g:Array GenState} {d:Drawn} {tk:Nat} {os:OsState}
variable {nm q:Str} {C N:Addr} {bs bm:List Value} {hdct:Bool} {sn:List Str} {sub:List Value} {ab:Bool} {col:Option Bool} {dd:Option Addr} {k0 k1 k2 k3 k5:Option Value} {newId:String}
noncomputable abbrev lR (C t:Addr) (D:Option Addr):Obj:={ cls:=.ref C,dict:=D,data:=.fields #[.ref t,.none,.none,.none,.bool false,.none] }
theorem Ai {M:Model} {x t:Addr} {D:Option Addr} {ys:List Value} {Q:Unit->Shared->Prop} (hC:hp.get? C=some (excClassObj nm q C N bs bm hdct sn sub ab col dd k0 k1 k2 k3 k5 newId)) (hv:bm.contains (.type "ValueError")=true)
  (hx:hp.get? x=some (lR C t D)) (hq:Q () ⟨hp,g,d,tk,os⟩):wpAny M A (checkBuiltinCall "ValueError.__init__" ⟨.ref x::ys,[]⟩) Q E ⟨hp,g,d,tk,os⟩:=by
 have hv':(Value.ref C::bm).contains (.type "ValueError")=true:=by rw[List.contains_cons,hv,Bool.or_true]
 have F:=PySem.F.excCall_ValueError
 have hns:=F.noStar
 simp only[checkBuiltinCall,F.initSplit,F.initKind,F.initRow]
 repeat (first | (with_reducible refine wpAny_loadPart_at hx ?_) | (with_reducible refine wpAny_loadPart_at hC ?_) | (with_reducible refine wpAny_isSubtype_exc hC ?_; rw[hv']) | wp_step)
 refine wpAny_onRaise ?_
 rw[show ∀ (a b:String) (n:Nat),Bind.check ⟨.positional,"*","ValueError",.self,[⟨"args",.varPos,false⟩]⟩ a b n (List.map (fun z=>z.fst) ({ pos:=Value.ref x::ys }:Args).kw)=pure () from fun a b n=>check_star_args _ _ _ _ _ _]
 exact wpAny_pure hq
theorem zg {x t:Addr} {D:Option Addr} {y:Value} {Q:Value->Shared->Prop} (hC:hp.get? C=some (excClassObj nm q C N bs bm hdct sn sub ab col dd k0 k1 k2 k3 k5 newId)) (hv:bm.contains (.type "ValueError")=true)
  (hx:hp.get? x=some (lR C t D)) (h:∀ h',(∀ b o,b≠x->hp.get? b=some o->h'.get? b=some o)->h'.get? x=some (lR C hp.objs.size D)->Q .none ⟨h',g,d,tk,os⟩) :
  wpAny (model P w) A (call (.builtin "ValueError.__init__") [.ref x,y]) Q E ⟨hp,g,d,tk,os⟩:=by
 have F:=PySem.F.excCall_ValueError
 refine wpAny_call (codeAny_call_builtin F.init.plain F.initEntry (Ai hC hv hx ?_))
 have hx1:=Heap.get?_push_of_some { cls:=.type "tuple",data:=.seq #[y] } hx
 wp_walk
 refine h _ (fun b o hb e=>?_) ?_
 ·rw[Heap.get?_update_other _ _ (Ne.symm hb)]
  exact Heap.get?_push_of_some _ e
 ·rw[Heap.get?_update_self _ hx1 rfl]
  rfl
end
end L2
namespace L2
open PySem PySem.Spec PyProof.Rows
section
variable {P:Program} {w:World} {A:Around} {hp:Heap} {g:Array GenState} {d:Drawn} {tk:Nat} {os:OsState}
variable {nm q:Str} {C N:Addr} {bs bm:List Value} {hdct:Bool} {sn:List Str} {sub:List Value} {ab:Bool} {col:Option Bool} {dd:Option Addr} {k0 k1 k2 k3 k5:Option Value}
structure GX (bm:List Value):Prop where
 v:bm.contains (.type "ValueError")=true
 b:bm.contains (.type "BaseException")=true
 a:bm.contains (.type "AttributeError")=false
 n:bm.contains (.type "NameError")=false
theorem new_exc {R:Result->Shared->Prop} (V:GX bm) (hC:hp.get? C=some (excClassObj nm q C N bs bm hdct sn sub ab col dd k0 k1 k2 k3 k5 "ValueError.__new__"))
  (hq:R (.ok (.ret (.ref (hp.objs.size+1)))) ⟨(hp.push { cls:=.type "tuple",data:=.seq #[] }).push (lR C hp.objs.size none),g,d,tk,os⟩) :
  codeAny (model P w) A (.builtin "ValueError.__new__" ⟨[.ref C],[]⟩) R ⟨hp,g,d,tk,os⟩:=by
 have F:=PySem.F.excBase_ValueError
 have he:=F.ends
 have c1:(Value.ref C::bm).contains (.type "ValueError")=true:=by rw[List.contains_cons,V.v,Bool.or_true]
 have c2:(Value.ref C::bm).contains (.type "AttributeError")=false:=by rw[List.contains_cons,V.a]; rfl
 have c3:(Value.ref C::bm).contains (.type "NameError")=false:=by rw[List.contains_cons,V.n]; rfl
 refine codeAny_builtinAt F.entry ?_
 unfold Builtin.«BaseException.__new__»
 refine PySem.wpAt_bind ?_
 show PySem.wpAt _ _ _ (stack >>= _) _ _ _
 refine PySem.wpAt_bind (PySem.wpAt_stack fun p below=>PySem.wpAt_of_wpAny ?_)
 wp_walk
 refine PySem.wpAt_of_wpAny ?_
 rw[F.owner]
 repeat (first | with_reducible refine wpAny_madeHere_exc F.canon hC ?_ | with_reducible refine wpAny_loadPart_at hC ?_ | (with_reducible refine wpAny_isSubtype_exc hC ?_; first | rw[c1] | rw[c2] | rw[c3]) | wp_step)
 show R _ _
 rw[Heap.size_push]
 exact hq
theorem Iw {M:Model} {E:Value->Shared->Prop} {Q:Unit->Shared->Prop} (V:GX bm) (hC:hp.get? C=some (excClassObj nm q C N bs bm hdct sn sub ab col dd k0 k1 k2 k3 k5 "ValueError.__new__")) (hq:Q () ⟨hp,g,d,tk,os⟩) :
  wpAny M A (checkBuiltinCall "ValueError.__new__" ⟨[.ref C],[]⟩) Q E ⟨hp,g,d,tk,os⟩:=by
 have F:=PySem.F.excBase_ValueError
 have c1:(Value.ref C::bm).contains (.type "ValueError")=true:=by rw[List.contains_cons,V.v,Bool.or_true]
 have hs:=F.noStar
 simp only[checkBuiltinCall,F.newSplit,F.newKind,F.newRow]
 repeat (first | (refine wpAny_isSubtype_exc hC ?_; rw[c1]) | refine wpAny_loadPart_at hC ?_ | refine wpAny_madeBy_exc hC ?_ | refine wpAny_staticBase_exc hC ?_ | simp only[bne_self_eq_false,Bool.false_eq_true,if_false] | wp_step)
 exact hq
theorem Gg {f:Addr} {R:Result->Shared->Prop} (V:GX bm) (hC:hp.get? C=some (excClassObj nm q C N bs bm hdct sn sub ab col dd k0 k1 k2 k3 k5 "ValueError.__new__"))
  (hl:∀ h',(∀ b o,hp.get? b=some o->h'.get? b=some o)->W.Looks (model P w) h' (typeLookup (.ref C) "__init__") (some (.ref f))) (hb:∀ h' self,(∀ b o,hp.get? b=some o->h'.get? b=some o)->W.Looks (model P w) h' (bindSpecial (.ref f) self) (.ref f,[self]))
  (hq:codeAny (model P w) (A.under (.builtin "type.__call__" ⟨[.ref C],[]⟩)) (.call (.ref f) ⟨[.ref (hp.objs.size+1)],[]⟩) (W.InitBack (hp.objs.size+1) R) ⟨(hp.push { cls:=.type "tuple",data:=.seq #[] }).push (lR C hp.objs.size none),g,d,tk,os⟩) :
  codeAny (model P w) A (.call (.ref C) ⟨[],[]⟩) R ⟨hp,g,d,tk,os⟩:=by
 have f1:=tc_lookup
 have f2:=tc_bind (.ref C)
 have hT:(⟨hp,g,d,tk,os⟩:Shared).TypeIs (.ref C) "type":=⟨_,hC,rfl⟩
 refine codeAny_of_tree ?_
 show wpAny _ _ (callAny (.ref C) _) _ _ _
 repeat (any_goals (first | assumption | with_reducible refine wpAny_loadPart_at hC ?_ | wp_step))
 refine⟨rfl,?_⟩
 refine codeAny_call_builtin_at (Code.quiet_builtin _ (by decide+kernel)) entry_typeCall (wpAny_check_type_call_sub hC ?_)
 repeat (first | with_reducible refine wpAny_loadPart_at hC ?_ | with_reducible refine wpAny_madeBy_exc hC ?_ | wp_step)
 refine codeAny_call_builtin_code (Code.quiet_builtin _ PySem.F.excBase_ValueError.quiet) (Iw V hC ?_)
 refine new_exc V hC ?_
 show wpAny _ _ _ _ _ _
 have k1:∀ b o,hp.get? b=some o->((hp.push { cls:=.type "tuple",data:=.seq #[] }).push (lR C hp.objs.size none)).get? b=some o:=fun b o e=>Heap.get?_push_of_some _ (Heap.get?_push_of_some _ e)
 have hC1:=k1 _ _ hC
 have hx:((hp.push { cls:=.type "tuple",data:=.seq #[] }).push (lR C hp.objs.size none)).get? (hp.objs.size+1)=some (lR C hp.objs.size none):=by heap_get
 have cC:(Value.ref C::bm).contains (.ref C)=true:=by simp
 unfold isInstance
 repeat (first | with_reducible refine wpAny_loadPart_at hx ?_ | (with_reducible refine wpAny_isSubtype_exc hC1 ?_; rw[cC]) | wp_step)
 show wpAny _ _ (typeLookup (.ref C) _) _ _ _
 refine PySem.W.Looks.here (hl _ k1) ?_
 refine wpAny_holding (wpAny_bind ((hb _ _ k1).here ?_))
 refine wpAny_bind (wpAny_call (codeAny_mono hq fun r s' z=>?_))
 cases r with
 | error e=>exact z
 | ok fl =>
  cases fl with
  | ret v =>
   obtain⟨ev,z⟩:=z
   subst ev
   exact wpAny_pure (wpAny_pure z)
  | next=>exact False.elim z
  | brk=>exact False.elim z
  | cont=>exact False.elim z
end
end L2
namespace L2
open PySem PySem.Spec PyProof.Rows
theorem Fi (self:Value):PySem.refuseLoop self "__setattr__" [.type "ValueError",.type "Exception",.type "BaseException",.type "object"]=pure ():=by kernel_rfl
section
variable {P:Program} {w:World} {A:Around} {E:Value->Shared->Prop} {K:W.Frag} {s:Shared}
variable {nm q:Str} {C N x t:Addr} {bs bm:List Value} {hdct:Bool} {sn:List Str} {sub:List Value} {ab:Bool} {col:Option Bool} {dd:Option Addr} {k0 k1 k2 k3 k5:Option Value} {newId:String}
noncomputable def kW:List Value->Bool
 | []=>false
 | a::r=>match a with
  | .ref _=>kW r
  | _=>a::r == [.type "ValueError",.type "Exception",.type "BaseException",.type "object"]
theorem jw {a:Value} {r:List Value} (h:kW (a::r)=true):(∃ c,a = .ref c/\kW r=true)∨a::r=[.type "ValueError",.type "Exception",.type "BaseException",.type "object"]:=by
 cases a <;> first | exact .inl ⟨_,rfl,h⟩ | exact .inr (eq_of_beq h)
theorem lC (self:Value):∀ {l:List Value},kW l=true->PySem.refuseLoop self "__setattr__" l=pure ()
 | [],h=>by cases h
 | a::r,h=>by
  rcases jw h with⟨c,rfl,h'⟩ | e
  ·rw[refuseLoop_ref]
   exact lC self h'
  ·rw[e]
   exact Fi self
theorem vq:∀ {l:List Value},kW l=true->l.contains (.type "object")=true
 | [],h=>by cases h
 | a::r,h=>by
  rcases jw h with⟨c,rfl,h'⟩ | e
  ·rw[List.contains_cons,vq h',Bool.or_true]
  ·rw[e]
   rfl
theorem Iz {name:Str} {v:Value} {cd:ClassData} {Q:Unit->Shared->Prop} (X:K.In s.heap) (hx:s.heap.get? x=some (lR C t none)) (hs:W.findIn K (.ref C) "__setattr__" = some (some (.builtin "object.__setattr__")))
  (hc:W.clsIn K C=some cd) (hu:kW cd.mro=true) (hdc:cd.hasDict=true) (hf:W.takerIn K C name=some none)
  (h:∀ h',(∀ b o,b≠x->s.heap.get? b=some o->h'.get? b=some o)->h'.get? x=some (lR C t (some s.heap.objs.size))->(∃ o,h'.get? s.heap.objs.size=some o)->h'.Ns1 s.heap.objs.size (fun y=>if y=name then some v else none)->∀ tk,Q () { s with heap:=h',toks:=tk }) :
  wpAny (model P w) A (setAttr (.ref x) name v) Q E s:=by
 have J:PySem.W.InstAt s.heap x (lR C t none) C none:=⟨hx,rfl,rfl,trivial⟩
 have SF:=PySem.F.store_object
 have ne:cd.mro.isEmpty=false:=by cases q:cd.mro with | nil=>rw[q] at hu; cases hu | cons _ _=>rfl
 refine PySem.W.set_plain X J hs ?_
 have sub:PySem.W.Looks (model P w) s.heap (isInstance (.ref x) (.type "object")) true:=J.type.andThen (PySem.W.looks_mroIn X (by unfold PySem.W.mroIn; rw[hc,Option.bind_some,if_neg (by rw[ne]; decide),vq hu]))
 refine codeAny_call_builtin SF.slot.plain SF.entry (@PySem.W.check_slot (model P w) _ _ { s with toks:=s.toks+1 } "object.__setattr__" "object" "__setattr__" (.ref x) [.str name s.toks,v] [] _ SF.kind SF.split sub (SF.args (.ref x) (.str name s.toks) v) ?_)
 obtain⟨attr,ha,hr⟩:=Option.bind_eq_some_iff.mp hf
 have hm:PySem.W.Looks (model P w) s.heap (mroOf (.ref C)) cd.mro:=(PySem.W.looks_clsIn X hc).andThen .now
 have L3:PySem.W.Looks (model P w) s.heap (Builtin.ObjectAttr.storeTaker? attr) none:=by
  cases attr with
  | none=>exact .now
  | some a =>
   obtain⟨b,hb,e⟩:=Option.map_eq_some_iff.mp hr
   refine (PySem.W.looks_takesIn X hb).andThen ?_
   cases b
   ·exact .now
   ·cases e
 rw[PySem.W.osa_eq,refuse_eq]
 obtain⟨hp,g,d,tk,os⟩:=s
 refine wpAny_bind (wpAny_bind (PySem.W.Looks.here (s:=⟨hp,g,d,tk+1,os⟩) J.type (wpAny_bind (PySem.W.Looks.here (s:=⟨hp,g,d,tk+1,os⟩) hm ?_))))
 rw[lC _ hu]
 refine wpAny_pure (wpAny_bind (PySem.W.Looks.here (s:=⟨hp,g,d,tk+1,os⟩) J.type (wpAny_bind (PySem.W.Looks.here (s:=⟨hp,g,d,tk+1,os⟩) (PySem.W.looks_findIn X ha) (wpAny_bind (PySem.W.Looks.here (s:=⟨hp,g,d,tk+1,os⟩) L3 ?_))))))
 dsimp only
 unfold Builtin.ObjectAttr.storeInOwnDict
 refine wpAny_bind (wpAny_pure ?_)
 unfold Builtin.ObjectAttr.ownDictForStores instanceDict
 refine wpAny_bind (wpAny_bind (wpAny_loadPart hx (wpAny_bind (PySem.W.Looks.here (s:=⟨hp,g,d,tk+1,os⟩) (PySem.W.looks_clsIn X hc) ?_))))
 rw[hdc,if_neg (by decide)]
 have hx1:(hp.push { cls:=.type "dict",data:=.dict #[] }).get? x=some (lR C t none):=Heap.get?_push_of_some _ hx
 have hne:x≠hp.objs.size:=Nat.ne_of_lt (Heap.lt_size hx)
 show wpAny _ _ (do let d ← alloc { cls:=.type "dict",data:=.dict #[] }; update x fun o=>{ o with dict:=some d }; dictMade (.ref C) x d) _ _ _
 refine wpAny_bind (wpAny_alloc (wpAny_bind (wpAny_update hx1 ?_)))
 wp_step
 refine wpAny_pure ?_
 dsimp only
 generalize eh:(hp.push { cls:=.type "dict",data:=.dict #[] }).update x (fun o=>{ o with dict:=some hp.objs.size })=h2
 have n2:h2.Ns1 hp.objs.size (fun _=>none):=by
  refine Heap.Ns1.at (Heap.Ns1.of_empty (Heap.Ns.new hp (.type "dict"))) fun o e=>?_
  rw[← eh,Heap.get?_update_other _ _ hne]
  exact e
 have k2:∀ b o,b≠x->hp.get? b=some o->h2.get? b=some o:=fun b o hb e=>by
  rw[← eh,Heap.get?_update_other _ _ (Ne.symm hb)]
  exact Heap.get?_push_of_some _ e
 have x2:h2.get? x=some (lR C t (some hp.objs.size)):=by
  rw[← eh,Heap.get?_update_self _ hx1 rfl]
 unfold Builtin.ObjectAttr.storeInDict
 refine wpAny_bind (wpAny_pure ?_)
 refine wpAny_bind (wpAny_nsSet1 (s:=⟨h2,g,d,tk+1,os⟩) n2 fun h' hn2 hs2=>?_)
 obtain⟨oD,esD,epD,hoD,hdD,hcD⟩:=hn2.count (PySem.Within.cons name v PySem.Within.nil)
 refine wpAny_bind (wpAny_lookBehind hoD (by rw[hdD]; exact pastItsLine_dict (Nat.le_trans hcD (by show 1<=sizeLine+1; lia))) ?_)
 refine wpAny_pure (h _ (fun b o hb e=>?_) ((hs2.2 _ hne).trans x2) ⟨oD,hoD⟩ hn2 _)
 have hbn:b≠hp.objs.size:=Nat.ne_of_lt (Heap.lt_size e)
 exact (hs2.2 _ hbn).trans (k2 b o hb e)
end
end L2
namespace L2
open PySem PySem.Spec PyProof.Rows
theorem Jw (K:W.Frag):W.findCls K (.type "ValueError") (.type "type") "__init__" = some (.val (.builtin "ValueError.__init__")):=by kernel_rfl
theorem JW:bootBuiltins "ValueError" = some (.type "ValueError"):=by decide+kernel
theorem Jl:typeOf (.type "ValueError")=pure (.type "type"):=by kernel_rfl
theorem Kp:Manifest.isStub "ValueError" = false:=by decide+kernel
theorem Jf:W.handedIn (.builtin "ValueError.__init__")=true:=by decide+kernel
noncomputable def xO (x C:Addr) (D:Option Addr):HO:=.ext fun h=>∃ t,h.get? x=some (lR C t D)
theorem Kr {P:Program} {w:World} {H:Hp} {h:Heap} {x C t:Addr} {D:Option Addr} (e:h.get? x=some (lR C t D)):fV P w H h x (xO x C D) :=
 ⟨⟨t,e⟩,⟨_,e⟩,fun h1 h2 ⟨t',e'⟩ k=>⟨t',k _ e'⟩⟩
structure zR (K:PySem.W.Frag) (C f:Addr) (name:Str):Prop where
 obj:∃ nm q N bs bm hdct sn sub ab col dd k0 k1 k2 k3 k5,K.lookup C=some (excClassObj nm q C N bs bm hdct sn sub ab col dd k0 k1 k2 k3 k5 "ValueError.__new__")/\GX bm
 init:PySem.W.findIn K (.ref C) "__init__" = some (some (.ref f))
 fn:PySem.W.typeIn K (.ref f)=some (.type "function")
 kp:PySem.W.keepIn K (.ref C)=true
 set:PySem.W.findIn K (.ref C) "__setattr__" = some (some (.builtin "object.__setattr__"))
 cls:∃ cd,PySem.W.clsIn K C=some cd/\kW cd.mro=true/\cd.hasDict=true
 tak:PySem.W.takerIn K C name=some none
section
variable {X:Cx} {p pos apos:Pos} {e:Expr} {es:List Expr} {t:TA} {f C:Addr}
noncomputable def Ly (K:W.Frag) (t:TA):TE:=fun σ H Q=>t σ H fun vs H1=>∃ (x C f:Addr) (n:Str) (D:Option Addr) (y:V),vs=[.ref x,y]/\H1 x=some (xO x C D)/\zR K C f n/\Q .non (upd H1 x (xO x C D))
theorem Gn {pl:Sem Bool} (hg:Gl X "ValueError") (hm:X.mg "ValueError" = none) (ha:PA X (e::es) t)
  (hst : autoParam (starEach (e::es) X.env=(false,eval e X.env)::starEach es X.env) L2.az5._auto_1) (hpl : autoParam ((backTo pos (starEach es X.env)).any (·.1)=false) L2.az5._auto_1)
  (ht:eval (.Call (.Attribute (.Name "ValueError" p) "__init__" apos) (e::es) [] pos) X.env=(do
   let ov ← eval (.Name "ValueError" p) X.env
   standAt apos.atName
   let (g,first) ← holding [ov] (getMethod ov "__init__" pl)
   callWith pos g first (backTo pos (starEach (e::es) X.env)) (backToKw pos (keywordEach [] X.env))):=by rfl) :
  PE X (.Call (.Attribute (.Name "ValueError" p) "__init__" apos) (e::es) [] pos) (Ly X.K t):=by
 intro pins s σ H Q I h
 refine PySem.W.methodCall_KW (pl:=pl) (iC I hg hm JW ?_) ht
 obtain⟨m,F⟩:=I.fr
 refine PySem.W.method_type F I.ok.mod.kin Jl Kp (Jw X.K) Jf ?_
 have I1:=I.tok (s.toks+1)
 refine callWith_builtin1 (thn (ha pos pins _ σ H _ I1 h) fun us s1 ⟨vs,H1,I2,r,x,C,f,n,D,y,ev,hx,XC,q⟩=>?_) hst hpl
 subst ev
 obtain⟨u,v,rfl,ru,rv⟩:=r.two
 obtain rfl:u=Value.ref x:=ru
 obtain⟨⟨t0,e0⟩,_⟩:=I2.hok x _ hx
 obtain⟨nm,q1,N,bs,bm,hdct,sn,sub,ab,col,dd,k0,k1,k2,k3,k5,lk,V⟩:=XC.obj
 obtain⟨hp,g,d,tk,os⟩:=s1
 refine zg (I2.kIn _ _ lk) V.v e0 fun h' k' e'=>?_
 exact⟨.non,_,I2.write (x:=x) (e:=x) (by rw[hx]; trivial) (.inl rfl) k' ⟨_,e'⟩ (Kr e'),rfl,q⟩
end
end L2
namespace L2
open PySem PySem.Spec PyProof.Rows
section
variable {X:Cx} {pos pos':Pos} {o value:Expr} {ta tv:TE} {f:Str}
noncomputable def Nv (K:W.Frag) (ta tv:TE) (f:Str):TS:=fun D σ H=>tv σ H fun y H1=>ta σ H1 fun x H2=>∃ (a C fI:Addr),x = .ref a/\H2 a=some (xO a C none)/\zR K C fI f/\∀ dx,H2 dx=none->D.nx σ (upd (upd H2 dx (.xd [(f,y)])) a (xO a C (some dx)))
theorem J8 (ha:PE X o ta) (hv:PE X value tv) (hs:swapsWith value (some (.Attribute o f pos')) pos.line X.env=pure false):PS X (.Assign [.Attribute o f pos'] value pos) (Nv X.K ta tv f):=by
 intro pins s σ H D I h
 refine plainObj_wpAny_Assign_Attribute (thn (hv pins s σ H _ I h) fun u s1 ⟨y,H1,I1,ry,q⟩=>thn (ha pins s1 σ H1 _ I1 q) fun ov s2 ⟨x,H2,I2,rx,a,C,fI,ex,ea,XC,q2⟩=>?_) hs
 subst ex
 obtain rfl:ov=Value.ref a:=rx
 obtain⟨⟨t0,e0⟩,_⟩:=I2.hok a _ ea
 obtain⟨cd,hc,hu,hd⟩:=XC.cls
 refine Iz I2.kIn e0 XC.set hc hu hd XC.tak fun h' k' e' ho hn tk=>?_
 have fr:=I2.fresh
 have hne:a≠s2.heap.objs.size:=Nat.ne_of_lt (Heap.lt_size e0)
 have e1:(h'.update a fun _=>lR C t0 none).get? a=some (lR C t0 none):=Heap.get?_update_self _ e' rfl
 have o1:∀ b,b≠a->(h'.update a fun _=>lR C t0 none).get? b=h'.get? b:=fun b hb=>Heap.get?_update_other _ _ (Ne.symm hb)
 have I3:=I2.laid (a:=s2.heap.objs.size) (o:=.xd [(f,y)]) (h':=h'.update a fun _=>lR C t0 none) (t':=tk) (fun b u' q'=>by
  by_cases hb:b=a
  ·subst hb
   rw[e0] at q'
   rw[e1]
   exact q'
  ·rw[o1 b hb]
   exact k' b u' hb q') (Nat.le_refl _) ⟨_,hn.at (fun o z=>by rw[o1 _ (Ne.symm hne)]; exact z),fun g=>by
    by_cases hg:g=f
    ·subst hg
     simp [List.lookup,Ig]
     exact ry
    ·have:(g == f)=false:=beq_false_of_ne hg
     simp [List.lookup,this,hg,Ig]⟩
 have I4:=I3.write (x:=a) (e:=a) (h':=h') (o:=xO a C (some s2.heap.objs.size)) (t':=tk) (by rw[aR hne,ea]; trivial) (.inl rfl) (fun b u' hb q'=>by rw[o1 b hb] at q'; exact q') ⟨_,e'⟩ (Kr e')
 exact⟨σ,_,I4,q2 _ fr⟩
end
end L2
namespace L2
open PySem PySem.Spec PyProof.Rows
section
variable {M:Model} {A:Around} {E:Value->Shared->Prop} {env:Env}
theorem Ao {s:Shared} {z:Sem Value} {Q:Flow->Shared->Prop} (hh:A.handled=none)
  (h:wpAny M A z (fun v s1=>∃ (e t C:Addr) (D:Option Addr) (nm q:Str) (N:Addr) (bs bm:List Value) (hdct:Bool) (sn:List Str) (sub:List Value) (ab:Bool) (col:Option Bool) (dd:Option Addr) (k0 k1 k2 k3 k5:Option Value) (newId:String),v = .ref e/\s1.heap.get? C=some (excClassObj nm q C N bs bm hdct sn sub ab col dd k0 k1 k2 k3 k5 newId)/\bm.contains (.type "BaseException")=true/\s1.heap.get? e=some (lR C t D)/\E (.ref e) s1) E s):wpAny M A (raiseStmt env (some z) none) Q E s:=by
 unfold raiseStmt
 refine wpAny_bind (wpAny_mono h (fun v s1 h1=>?_) fun _ _ y=>y)
 obtain⟨e,t,C,D,nm,q,N,bs,bm,hdct,sn,sub,ab,col,dd,k0,k1,k2,k3,k5,newId,rfl,hC,hb,he,hE⟩:=h1
 have c1:(Value.ref C::bm).contains (.type "BaseException")=true:=by rw[List.contains_cons,hb,Bool.or_true]
 obtain⟨hp,g,d,tk,os⟩:=s1
 repeat (first | with_reducible refine wpAny_loadPart_at he ?_ | with_reducible refine wpAny_loadPart_at hC ?_ | (with_reducible refine wpAny_isSubtype_exc hC ?_; rw[c1]) | wp_step)
 exact wpAny_raiseNew_none hh hE
end
section
variable {X:Cx} {CX:CXT} {k:Nat} {f C:Addr} {fd:FuncData} {ps:List Str} {sp:Sp} {c n:Str} {p pos:Pos} {e:Expr} {te:TE} {E:XK}
noncomputable def Mm (C:Addr) (sp:Sp) (E:XK):TE:=fun _ H Q=>∀ x,H x=none->sp [.ref x] (upd H x (xO x C none)) (fun v H2=>v = .non/\Q (.ref x) H2) E
theorem Ge (XC:zR X.K C f n) (F:cu X.prog X.w X.K X.mg X.base CX k f fd ps sp) (hr:gB (k+1) X.A) (hg:Gl X c) (hm:X.mg c=some (.ref C)) (hb:Binds X.K fd ps []) (hx:Passes CX X E)
  (hdb : autoParam ((c == ("__debug__" : Str))=false) L2.az2._auto_1):PE X (.Call (.Name c p) [] [] pos) (Mm C sp E):=by
 intro pins s σ H Q I h
 refine wpAny_Call_Name_kw (nj I hg hm ?_ hdb)
 refine PySem.W.callWith_K0 I.kIn XC.kp ?_
 obtain⟨nm,q1,N,bs,bm,hdct,sn,sub,ab,col,dd,k0,k1,k2,k3,k5,lk,VE⟩:=XC.obj
 have hq:=h (s.heap.objs.size+1) (I.hok.fresh (Nat.le_succ _))
 have kk:∀ b o,s.heap.get? b=some o->((s.heap.push { cls:=.type "tuple",data:=.seq #[] }).push (lR C s.heap.objs.size none)).get? b=some o:=fun b o z=>Heap.get?_push_of_some _ (Heap.get?_push_of_some _ z)
 have ex:((s.heap.push { cls:=.type "tuple",data:=.seq #[] }).push (lR C s.heap.objs.size none)).get? (s.heap.objs.size+1)=some (lR C s.heap.objs.size none):=by
  have:=Heap.get?_push_size (s.heap.push { cls:=.type "tuple",data:=.seq #[] }) (o:=lR C s.heap.objs.size none) rfl
  rwa [Heap.size_push] at this
 have I2:=I.laid (a:=s.heap.objs.size+1) (o:=xO (s.heap.objs.size+1) C none) (t':=s.toks) kk (Nat.le_succ _) (Kr ex)
 have r2:Vals [V.ref (s.heap.objs.size+1)] [Value.ref (s.heap.objs.size+1)]:=.cons rfl .nil
 have hl:([Value.ref (s.heap.objs.size+1)]++[]).length=ps.length:=by
  have z:=r2.length
  rw[F.len _ _ _ _ hq] at z
  exact z.symm
 have hk:=I.kIn
 refine wpAny_call ?_
 have mk:=Gg (P:=X.prog) (w:=X.w) (A:=X.A) (hp:=s.heap) (g:=s.gens) (d:=s.drawn) (tk:=s.toks) (os:=s.os) (f:=f) (R:=fun r s'=>match r with | .ok (.ret v)=>EP X pins σ Q v s' | .ok _=>False | .error e=>X.xe e s') VE (hk _ _ lk) (fun h' k'=>PySem.W.looks_findIn (hk.keeps k') XC.init) (fun h' self k'=>PySem.W.bind_fn (hk.keeps k') self XC.fn)
 refine mk (codeAny_mono (F.run _ X.stack _ _ ⟨[Value.ref (s.heap.objs.size+1)],[]⟩ [Value.ref (s.heap.objs.size+1)] _ _ E (hr.make C [] []) (I2.env0.make C [] []) (hb _ [Value.ref (s.heap.objs.size+1)] I2.kIn hl) r2 hq) fun r s' hq'=>?_)
 cases r with
 | error e=>exact hx pins σ _ _ e s' I2 hq'
 | ok fl =>
  cases fl with
  | ret u =>
   obtain⟨v,H',I3,rv,ev,q3⟩:=I2.after hq'
   subst ev
   exact⟨rv,⟨V.ref (s.heap.objs.size+1),H',I3,rfl,q3⟩⟩
  | next=>exact False.elim hq'
  | brk=>exact False.elim hq'
  | cont=>exact False.elim hq'
noncomputable def Throws (X:Cx) (W:Addr->Addr->Addr->Hp->Prop):Prop:=∀ (pins:List (Addr × Obj)) (σ:St) (H:Hp) (s:Shared) (x C dx:Addr),Inv X pins σ H s->H x=some (xO x C (some dx))->W x C dx H->X.xe (.ref x) s
noncomputable def KN (K:W.Frag) (W:Addr->Addr->Addr->Hp->Prop) (te:TE):TS:=fun _ σ H=>te σ H fun v H1=>∃ (x C f dx:Addr) (n:Str),v = .ref x/\H1 x=some (xO x C (some dx))/\zR K C f n/\W x C dx H1
theorem Gj {W:Addr->Addr->Addr->Hp->Prop} (hc:X.calm=true) (he:PE X e te) (hw:Throws X W):PS X (.Raise (some e) none pos) (KN X.K W te):=by
 intro pins s σ H D I h
 rw[arm_exec_Raise]
 refine wpAny_bind (wpAny_standAt ?_)
 have go:wpAny (model X.prog X.w) X.A (eval e X.env) (fun v s1=>∃ x C f dx n H1,v=Value.ref x/\Inv X pins σ H1 s1/\H1 x=some (xO x C (some dx))/\zR X.K C f n/\W x C dx H1) X.xe s:=thn (he pins s σ H _ I h) fun u s1 ⟨v,H1,I1,r,x,C,f,dx,n,ev,hx,XC,hW⟩=>by
  subst ev
  exact⟨x,C,f,dx,n,H1,r,I1,hx,XC,hW⟩
 show wpAny _ _ (raiseStmt X.env (some (do let v ← eval e X.env; standAt pos; pure v)) none) _ _ _
 refine Ao (I.ok.hd hc) (wpAny_bind (thn go fun v s1 ⟨x,C,f,dx,n,H1,ev,I1,hx,XC,hW⟩=>wpAny_bind (wpAny_standAt (wpAny_pure ?_))))
 obtain⟨⟨t0,e0⟩,_⟩:=I1.hok x _ hx
 obtain⟨nm,q1,N,bs,bm,hdct,sn,sub,ab,col,dd,k0,k1,k2,k3,k5,lk,VE⟩:=XC.obj
 exact⟨x,t0,C,some dx,nm,q1,N,bs,bm,hdct,sn,sub,ab,col,dd,k0,k1,k2,k3,k5,_,ev,I1.kIn _ _ lk,VE.b,e0,hw pins σ H1 s1 x C dx I1 hx hW⟩
end
end L2
namespace L2
open PySem PySem.Spec PyProof.Rows
structure Fly (B:Heap) (l:List Env) (x C dx:Addr) (fl:Value) (h:Heap):Prop where
 stay:B.StaysIn h
 bx:B.get? x=none
 frs:h.FunFrames B l
 tr:∃ vs T oT ts sl,h.get? x=some { cls:=.ref C,dict:=some dx,data:=.fields vs,slots:=sl }/\vs[1]? = some (.ref T)/\B.get? T=none/\T≠x/\h.get? T=some oT/\oT.data = .fields ts/\ts[3]? = some fl
structure Up (h h':Heap):Prop where
 sl:h.UpToSlots h'
 th:∀ b o,h.get? b=some o->∃ o',h'.get? b=some o'
theorem Up.trans {h h1 h2:Heap} (a:Up h h1) (b:Up h1 h2):Up h h2:=⟨a.sl.trans b.sl,fun c o e=>let ⟨o1,e1⟩:=a.th c o e; b.th c o1 e1⟩
section
variable {M:Model} {A:Around} {E:Value->Shared->Prop} {s:Shared} {B:Heap} {env:Env} {outer:List Env} {L x C dx:Addr} {Q:Unit->Shared->Prop}
theorem um {vs:Array Value} {sl:Array (Option Value)} {head:Value} {hadNext:Bool} (hfr:A.frames=some (env::outer)) (hl:s.heap.FunFrames B (env::outer)) (hf:env.frame=some L)
  (ex:s.heap.get? x=some { cls:=.ref C,dict:=some dx,data:=.fields vs,slots:=sl }) (st:B.StaysIn s.heap) (bx:B.get? x=none) (sz:1 < vs.size)
  (h:∀ h',Fly B (env::outer) x C dx (rawInt L) h'->Up s.heap h'->Q () { s with heap:=h' }) :
  wpAny M A (do let a ← frameOf env; let pl ← entryPlaceOf L hadNext; let b ← EntryCells.newEntry head a .none (rawInt L) .none pl; setField (.ref x) 1 b) Q E s:=by
 have nx:x ∉ (env::outer).filterMap (·.frame):=fun hm=>by
  obtain⟨_,o,ho,nf⟩:=hl.mem hm
  rw[ex] at ho
  cases ho
  exact nf vs rfl
 refine wpAny_bind (wpAny_frameOf_fun hfr hl hf fun h1 s1=>wpAny_bind (wpAny_entryPlaceOf fun pl hpl=>?_))
 unfold EntryCells.newEntry newFields
 refine wpAny_bind (wpAny_newObj_type ?_ (hpl.sizeOk5 _ _ _ _ _))
 have e1:h1.get? x=_:=(s1.2.1 x nx).trans ex
 have st1:B.StaysIn h1:=fun b o z=>(s1.2.1 b fun hm=>by rw[(hl.mem hm).1] at z; cases z).trans (st b o z)
 generalize eo:({ cls:=.type "traceback",dict:=none,data:=.fields ([head,.ref L,.none,rawInt L,.none]++(if pl.isEmpty then List.replicate 6 Value.none else pl)).toArray }:Obj)=oT
 have dT:oT.data = .fields ([head,.ref L,.none,rawInt L,.none]++(if pl.isEmpty then List.replicate 6 Value.none else pl)).toArray:=by rw[← eo]
 have e2:=Heap.get?_push_of_some oT e1
 refine wpAny_setField e2 rfl sz (h _ ?_ ?_)
 all_goals
  have hTx:h1.objs.size≠x:=Nat.ne_of_gt (Heap.lt_size e1)
  have keep:∀ b o,b≠x->h1.get? b=some o->((h1.push oT).update x (Obj.mapFields (·.setIfInBounds 1 (Value.ref h1.objs.size)))).get? b=some o:=fun b o hb z=>by
   rw[Heap.get?_update_other _ _ (Ne.symm hb)]
   exact Heap.get?_push_of_some _ z
  have nrec:∀ b o,s.heap.get? b=some o->(∀ vs,o.data≠.fields vs)->b≠x:=fun b o z nf q=>by
   rw[q,ex] at z
   cases z
   exact nf vs rfl
 ·refine⟨fun b o z=>keep b o (fun q=>by rw[q,bx] at z; cases z) (st1 b o z),bx,hl.of_keeps fun b o z nf=>?_,?_⟩
  ·obtain⟨sl',hs⟩:=s1.2.2 b o z
   exact⟨_,keep b _ (nrec b o z nf) hs,rfl⟩
  ·have e3:=Heap.get?_update_self (Obj.mapFields (·.setIfInBounds 1 (Value.ref h1.objs.size))) e2 rfl
   have hT:((h1.push oT).update x (Obj.mapFields (·.setIfInBounds 1 (Value.ref h1.objs.size)))).get? h1.objs.size=some oT:=by
    rw[Heap.get?_update_other _ _ (Ne.symm hTx)]
    exact Heap.get?_push_size h1 (by rw[← eo]; rfl)
   refine⟨vs.setIfInBounds 1 (.ref h1.objs.size),h1.objs.size,oT,_,sl,e3,by simp [sz],st1.fresh,hTx,hT,dT,?_⟩
   rcases hpl with rfl | ⟨_,_,_,_,_,_,_,rfl⟩ <;> simp
 ·refine⟨fun b o z nf=>?_,fun b o z=>?_⟩
  ·obtain⟨sl',hs⟩:=s1.2.2 b o z
   exact⟨sl',keep b _ (nrec b o z nf) hs⟩
  ·by_cases hb:b=x
   ·subst hb
    exact⟨_,Heap.get?_update_self (Obj.mapFields (·.setIfInBounds 1 (Value.ref h1.objs.size))) e2 rfl⟩
   ·obtain⟨sl',hs⟩:=s1.2.2 b o z
    exact⟨_,keep b _ hb hs⟩
theorem mF {fl:Value} {l:List Env} (F:Fly B l x C dx fl s.heap) (h:∀ h',Fly B l x C dx .none h'->Up s.heap h'->Q () { s with heap:=h' }):wpAny M A (setFlight (.ref x) none) Q E s:=by
 obtain⟨st,bx,fr,vs,T,oT,ts,sl,ex,v1,bT,hTx,hT,dT,t3⟩:=F
 unfold setFlight
 refine wpAny_bind (wpAny_field ex rfl v1 ?_)
 rw[if_pos (show (Value.ref T != Value.none)=true by simp)]
 have s3:3 < ts.size:=(Array.getElem?_eq_some_iff.mp t3).1
 refine wpAny_setField hT dT s3 (h _ ?_ ?_)
 all_goals
  have keep:∀ b o,b≠T->s.heap.get? b=some o->(s.heap.update T (Obj.mapFields (·.setIfInBounds 3 ((none:Option Addr).elim Value.none fun f=>rawInt f)))).get? b=some o:=fun b o hb z=>(Heap.get?_update_other _ _ (Ne.symm hb)).trans z
  have nrec:∀ b o,s.heap.get? b=some o->(∀ vs,o.data≠.fields vs)->b≠T:=fun b o z nf q=>by
   rw[q,hT] at z
   cases z
   exact nf ts dT
 ·refine⟨fun b o z=>keep b o (fun q=>by rw[q,bT] at z; cases z) (st b o z),bx,fr.of_keeps fun b o z nf=>⟨o,keep b o (nrec b o z nf) z,rfl⟩,vs,T,_,ts.setIfInBounds 3 .none,sl,keep x _ (Ne.symm hTx) ex,v1,bT,hTx,Heap.get?_update_self _ hT (Obj.isFreed_of_fields (Obj.data_mapFields dT _)),Obj.data_mapFields dT _,by simp [s3]⟩
 ·refine⟨fun b o z nf=>⟨o.slots,keep b o (nrec b o z nf) z⟩,fun b o z=>?_⟩
  by_cases hb:b=T
  ·subst hb
   exact⟨_,Heap.get?_update_self _ hT (Obj.isFreed_of_fields (Obj.data_mapFields dT _))⟩
  ·exact⟨o,keep b o hb z⟩
theorem Ck {t:Addr} (hfr:A.frames=some (env::outer)) (hl:s.heap.FunFrames B (env::outer)) (hf:env.frame=some L) (ex:s.heap.get? x=some (lR C t (some dx))) (st:B.StaysIn s.heap) (bx:B.get? x=none)
  (h:∀ h',Fly B (env::outer) x C dx .none h'->Up s.heap h'->Q () { s with heap:=h' }):wpAny M A (leaving env (.ref x)) Q E s:=by
 unfold leaving noteFrame
 simp only[hf]
 refine wpAny_bind (wpAny_bind (wpAny_field ex rfl (x:=.none) rfl ?_))
 rw[if_neg (by decide)]
 refine um hfr hl hf ex st bx (by show 1 < 6; decide) fun h1 F1 u1=>?_
 exact mF (s:={ s with heap:=h1 }) F1 fun h2 F2 u2=>h h2 F2 (u1.trans u2)
theorem ye (hfr:A.frames=some (env::outer)) (hf:env.frame=some L) (F:Fly B (env::outer) x C dx .none s.heap)
  (h:∀ h',Fly B (env::outer) x C dx (rawInt L) h'->Up s.heap h'->Q () { s with heap:=h' }):wpAny M A (noteFrame (.ref x) env) Q E s:=by
 obtain⟨st,bx,fr,vs,T,oT,ts,sl,ex,v1,bT,hTx,hT,dT,t3⟩:=F
 unfold noteFrame
 simp only[hf]
 refine wpAny_bind (wpAny_field ex rfl v1 ?_)
 rw[if_pos (show (Value.ref T != Value.none)=true by simp)]
 refine wpAny_bind (wpAny_field hT dT t3 ?_)
 rw[if_neg (show ¬ ((Value.none == rawInt L)=true) by simp [rawInt])]
 refine wpAny_bind (wpAny_setField hT dT (Array.getElem?_eq_some_iff.mp t3).1 ?_)
 have keep:∀ b o,b≠T->s.heap.get? b=some o->(s.heap.update T (Obj.mapFields (·.setIfInBounds 3 Value.none))).get? b=some o:=fun b o hb z=>(Heap.get?_update_other _ _ (Ne.symm hb)).trans z
 have nrec:∀ b o,s.heap.get? b=some o->(∀ vs,o.data≠.fields vs)->b≠T:=fun b o z nf q=>by
  rw[q,hT] at z
  cases z
  exact nf ts dT
 refine um (s:={ s with heap:=s.heap.update T (Obj.mapFields (·.setIfInBounds 3 Value.none)) }) hfr (fr.of_keeps fun b o z nf=>⟨o,keep b o (nrec b o z nf) z,rfl⟩) hf (keep x _ (Ne.symm hTx) ex) (fun b o z=>keep b o (fun q=>by rw[q,bT] at z; cases z) (st b o z)) bx (Array.getElem?_eq_some_iff.mp v1).1 fun h1 F1 u1=>h h1 F1 ?_
 refine Up.trans ⟨fun b o z nf=>⟨o.slots,keep b o (nrec b o z nf) z⟩,fun b o z=>?_⟩ u1
 by_cases hb:b=T
 ·subst hb
  exact⟨_,Heap.get?_update_self _ hT (Obj.isFreed_of_fields (Obj.data_mapFields dT _))⟩
 ·exact⟨o,keep b o hb z⟩
theorem yr (hfr:A.frames=some (env::outer)) (hf:env.frame=some L) (F:Fly B (env::outer) x C dx .none s.heap)
  (h:∀ h',Fly B (env::outer) x C dx .none h'->Up s.heap h'->Q () { s with heap:=h' }):wpAny M A (leaving env (.ref x)) Q E s:=by
 unfold leaving
 refine wpAny_bind (ye hfr hf F fun h1 F1 u1=>?_)
 exact mF (s:={ s with heap:=h1 }) F1 fun h2 F2 u2=>h h2 F2 (u1.trans u2)
end
end L2
namespace L2
open PySem PySem.Spec PyProof.Rows
structure Lie (P:Program) (w:World) (outer:List Env) (H:Hp) (s:Shared) (x C dx:Addr) (H':Hp) (B:Heap) (s':Shared):Prop where
 os:s'.os=s.os
 bare:AllBare s'.gens
 fly:Fly B outer x C dx .none s'.heap
 un:Un (frs outer) [] H H' s.heap s'.heap
 hok:HOk P w H' s'.heap
 kb:∀ b o,s.heap.get? b=some o->H b=none->b ∉ frs outer->B.get? b=some o
 hb:∀ b u,H' b=some u->∃ o,s'.heap.get? b=some o/\B.get? b=some o
 xn:H' x=none
noncomputable def XL (P:Program) (w:World):CXT:=fun outer H s E e s'=>∃ (x C dx:Addr) (H':Hp) (B:Heap),e = .ref x/\Lie P w outer H s x C dx H' B s'/\E (.ref C) (some dx) H'
noncomputable def off (H:Hp) (x:Addr):Hp:=fun b=>if b=x then none else H b
theorem off_ne {H:Hp} {x b:Addr} (h:b≠x):off H x b=H b:=if_neg h
theorem qw {H:Hp} {x b:Addr} {u:HO} (h:off H x b=some u):b≠x/\H b=some u:=by
 unfold off at h
 split at h
 ·cases h
 ·rename_i z
  exact⟨z,h⟩
theorem mH {P:Program} {w:World} {H H':Hp} {h h':Heap} (k:HOk P w H h) (sub:∀ b u,H' b=some u->H b=some u) (ow:∀ b a,H b=some (.own a)->H' b=some (.own a)) (tp:∀ b xs,H b=some (.tup xs)->H' b=some (.tup xs)) (keep:∀ b u o,H' b=some u->h.get? b=some o->h'.get? b=some o):HOk P w H' h':=fun b u e =>
 (k b u (sub b u e)).stay (fun c o hc q=>by
  rcases hc with rfl | hc
  ·exact keep c u o e q
  ·exact keep c _ o (ow c b hc) q) (fun c q=>ow c b q) tp
theorem FW {P:Program} {w:World} {H:Hp} {h:Heap} {a:Addr} {u:HO} (x:fV P w H h a u):∃ o,h.get? a=some o:=by
 cases u with
 | lst xs=>obtain⟨_,_,_,_,e⟩:=x; exact⟨_,e⟩
 | tup xs=>obtain⟨_,_,_,ob,e,_⟩:=x; exact⟨_,e⟩
 | dK kvs=>obtain⟨_,_,_,_,ob,_,_,e,_⟩:=x; exact⟨_,e⟩
 | dT kvs=>obtain⟨_,_,_,_,ob,_,_,e,_⟩:=x; exact⟨_,e⟩
 | set S n=>obtain⟨ob,_,_,_,e,_⟩:=x; exact⟨_,e⟩
 | ins C dx fs=>obtain⟨_,_,_,e,_⟩:=x; exact⟨_,e⟩
 | own y=>exact x
 | xd fs=>obtain⟨_,⟨od,_,_,e,_⟩,_⟩:=x; exact⟨_,e⟩
 | rng lo hi=>obtain⟨_,_,_,e⟩:=x; exact⟨_,e⟩
 | frz ob u=>exact⟨_,x.1⟩
 | tbl ps=>exact⟨_,x⟩
 | met f y=>exact⟨_,x⟩
 | ext φ=>exact x.2.1
section
variable {P:Program} {w:World} {K:W.Frag} {mg:Str->Option Value} {base:Heap} {N:List Str} {qual:Str} {scope:Scope} {f:Addr} {cd:Value} {A:Around} {outer:List Env} {s₀:Shared} {H₀:Hp} {E:XK}
theorem nO:Throws (vz (XL P w) P w K mg base N qual scope f cd A outer s₀ H₀ E) fun x C dx H=>E (.ref C) (some dx) (off H x):=by
 intro pins σ H s x C dx I hx hE
 obtain⟨⟨t,ex⟩,_⟩:=I.hok x _ hx
 have stk:=I.stack
 have fre:=I.qK
 have xs:x ∉ frs (envOfC qual scope s₀.heap.objs.size f cd::outer):=fun z=>by rw[fre x z] at hx; cases hx
 have hin:∀ env∈(envOfC qual scope s₀.heap.objs.size f cd::outer),∀ b,env.frame=some b->b∈x::frs (envOfC qual scope s₀.heap.objs.size f cd::outer):=fun env he b hb=>List.mem_cons_of_mem _ (List.mem_filterMap.mpr ⟨env,he,hb⟩)
 have F:=PySem.W.funFrames_hide stk hin
 show wpAny (model P w) _ (leaving _ (.ref x)) _ _ s
 refine Ck (B:=PySem.W.hideAll s.heap (x::frs (envOfC qual scope s₀.heap.objs.size f cd::outer))) (outer:=outer) (L:=s₀.heap.objs.size) I.ok.frames F rfl ex (fun b o e=>PySem.W.of_hideAll _ e) (PySem.W.hideAll_none _ List.mem_cons_self) fun h' F' u'=>?_
 have inB:∀ b o,s.heap.get? b=some o->b≠x->b ∉ frs (envOfC qual scope s₀.heap.objs.size f cd::outer)->(PySem.W.hideAll s.heap (x::frs (envOfC qual scope s₀.heap.objs.size f cd::outer))).get? b=some o:=fun b o e h1 h2=>PySem.W.hideAll_get _ e fun z=>(List.mem_cons.mp z).elim h1 h2
 have tk:∀ b u,H b=some u->b ∉ frs (envOfC qual scope s₀.heap.objs.size f cd::outer):=fun b u e z=>by rw[fre b z] at e; cases e
 have old:∀ b o,s₀.heap.get? b=some o->H₀ b=none->b ∉ frs outer->s.heap.get? b=some o/\H b=none/\b ∉ frs (envOfC qual scope s₀.heap.objs.size f cd::outer):=fun b o e n hb=>by
  refine⟨I.base.keep b o e n hb (fun z=>nomatch z),I.base.free b o e n (fun z=>nomatch z),fun z=>?_⟩
  rcases List.mem_cons.mp (I.pI b z) with z | z
  ·have:=Nat.lt_of_lt_of_le (Heap.lt_size e) I.ok.above
   rw[z] at this
   exact Nat.lt_irrefl _ this
  ·exact hb z
 have nx:∀ b u,H b=some u->u≠xO x C (some dx)->b≠x:=fun b u e ne z=>by
  subst z
  rw[hx] at e
  exact ne (Option.some.inj e).symm
 refine⟨x,C,dx,off H x,_,rfl,⟨I.os,I.bare,⟨F'.stay,F'.bx,F'.frs.2.2,F'.tr⟩,⟨fun b o e n hb _=>?_,fun b o e n hb _=>?_,fun b o e n _=>?_,fun b o e _=>?_,fun b xs' e=>?_,fun b o u e=>?_,fun b ps e=>?_⟩,?_,fun b o e n hb=>?_,fun b u e=>?_,if_pos rfl⟩,hE⟩
 ·obtain⟨e1,e2,e3⟩:=old b o e n hb
  exact F'.stay b o (inB b o e1 (fun z=>by rw[z,hx] at e2; cases e2) e3)
 ·obtain⟨sl,e1⟩:=I.base.slot b o e n hb (fun z=>nomatch z)
  obtain⟨_,o',ho',nf⟩:=I.ok.o4.mem hb
  have z:some o=some o':=e.symm.trans ho'
  cases z
  obtain⟨sl',e2⟩:=u'.sl b _ e1 nf
  exact⟨sl',e2⟩
 ·have z:=I.base.free b o e n (fun z=>nomatch z)
  unfold off
  split
  ·rfl
  ·exact z
 ·obtain⟨o1,e1⟩:=I.base.there b o e (fun z=>nomatch z)
  exact u'.th b o1 e1
 ·have z:=I.base.tups b xs' e
  rw[off_ne (nx b _ z (fun q=>nomatch q))]
  exact z
 ·have z:=I.base.frzs b o u e
  rw[off_ne (nx b _ z (fun q=>nomatch q))]
  exact z
 ·obtain⟨more,z⟩:=I.base.tbls b ps e
  exact⟨more,by rw[off_ne (nx b _ z (fun q=>nomatch q))]; exact z⟩
 ·refine mH I.hok (fun b u e=>(qw e).2) (fun b a e=>by rw[off_ne (nx b _ e (fun q=>nomatch q))]; exact e) (fun b xs' e=>by rw[off_ne (nx b _ e (fun q=>nomatch q))]; exact e) fun b u o e q=>?_
  obtain⟨h1,h2⟩:=qw e
  exact F'.stay b o (inB b o q h1 (tk b u h2))
 ·obtain⟨e1,e2,e3⟩:=old b o e n hb
  exact inB b o e1 (fun z=>by rw[z,hx] at e2; cases e2) e3
 ·obtain⟨h1,h2⟩:=qw e
  obtain⟨o,e1⟩:=FW (I.hok b u h2)
  have e2:=inB b o e1 h1 (tk b u h2)
  exact⟨o,F'.stay b o e2,e2⟩
end
end L2
namespace L2
open PySem PySem.Spec PyProof.Rows
section
variable {P:Program} {w:World} {K:W.Frag} {mg:Str->Option Value} {base:Heap} {N:List Str} {qual:Str} {scope:Scope} {f:Addr} {cd:Value} {A:Around} {outer:List Env} {s₀:Shared} {H₀:Hp} {E:XK}
theorem ig:Passes (XL P w) (vz (XL P w) P w K mg base N qual scope f cd A outer s₀ H₀ E) E:=by
 intro pins σ H s e s' I hl
 obtain⟨x,C,dx,H',B,rfl,Li,hE⟩:=hl
 show wpAny (model P w) _ (leaving _ (.ref x)) _ _ s'
 refine yr (outer:=outer) (L:=s₀.heap.objs.size) I.ok.frames rfl Li.fly fun h' F' u'=>?_
 have old:∀ b o,s₀.heap.get? b=some o->H₀ b=none->b ∉ frs outer->s.heap.get? b=some o/\H b=none/\b ∉ frs (envOfC qual scope s₀.heap.objs.size f cd::outer):=fun b o e n hb=>by
  refine⟨I.base.keep b o e n hb (fun z=>nomatch z),I.base.free b o e n (fun z=>nomatch z),fun z=>?_⟩
  rcases List.mem_cons.mp (I.pI b z) with z | z
  ·have:=Nat.lt_of_lt_of_le (Heap.lt_size e) I.ok.above
   rw[z] at this
   exact Nat.lt_irrefl _ this
  ·exact hb z
 have inS:∀ b,b∈frs outer->b∈frs (envOfC qual scope s₀.heap.objs.size f cd::outer):=fun b hb=>by
  obtain⟨en,h1,h2⟩:=List.mem_filterMap.mp hb
  exact List.mem_filterMap.mpr ⟨en,List.mem_cons_of_mem _ h1,h2⟩
 refine⟨x,C,dx,H',B,rfl,⟨Li.os.trans I.os,Li.bare,⟨F'.stay,F'.bx,F'.frs.2.2,F'.tr⟩,⟨fun b o e n hb _=>?_,fun b o e n hb _=>?_,fun b o e n _=>?_,fun b o e _=>?_,fun b xs' e=>Li.un.tups b xs' (I.base.tups b xs' e),fun b o u e=>Li.un.frzs b o u (I.base.frzs b o u e),fun b ps e=>?_⟩,?_,fun b o e n hb=>?_,fun b u e=>?_,Li.xn⟩,hE⟩
 ·obtain⟨e1,e2,e3⟩:=old b o e n hb
  exact F'.stay b o (Li.kb b o e1 e2 e3)
 ·obtain⟨sl,e1⟩:=I.base.slot b o e n hb (fun z=>nomatch z)
  have n1:=I.base.free b o e n (fun z=>nomatch z)
  obtain⟨_,o',ho',nf⟩:=I.ok.o4.mem hb
  have z:some o=some o':=e.symm.trans ho'
  cases z
  obtain⟨sl1,e2⟩:=Li.un.slot b _ e1 n1 (inS b hb) (fun z=>nomatch z)
  obtain⟨sl2,e3⟩:=u'.sl b _ e2 nf
  exact⟨sl2,e3⟩
 ·have n1:=I.base.free b o e n (fun z=>nomatch z)
  obtain⟨o1,e1⟩:=I.base.there b o e (fun z=>nomatch z)
  exact Li.un.free b o1 e1 n1 (fun z=>nomatch z)
 ·obtain⟨o1,e1⟩:=I.base.there b o e (fun z=>nomatch z)
  obtain⟨o2,e2⟩:=Li.un.there b o1 e1 (fun z=>nomatch z)
  exact u'.th b o2 e2
 ·obtain⟨m1,z⟩:=I.base.tbls b ps e
  obtain⟨m2,z2⟩:=Li.un.tbls b _ z
  exact⟨m1++m2,by rw[z2,Array.append_assoc]⟩
 ·refine mH Li.hok (fun _ _ e=>e) (fun _ _ e=>e) (fun _ _ e=>e) fun b u o e q=>?_
  obtain⟨o',e1,e2⟩:=Li.hb b u e
  rw[e1] at q
  cases q
  exact F'.stay b _ e2
 ·obtain⟨e1,e2,e3⟩:=old b o e n hb
  exact Li.kb b o e1 e2 e3
 ·obtain⟨o',e1,e2⟩:=Li.hb b u e
  exact⟨o',F'.stay b _ e2,e2⟩
end
end L2
namespace L2
open PySem PySem.Spec PyProof.Rows
theorem Lie.on {P:Program} {w:World} {l:List Env} {H H':Hp} {s s':Shared} {x C dx:Addr} {B B0 h':Heap} (Li:Lie P w l H s x C dx H' B s') (F':Fly B l x C dx .none h') (u':Up s'.heap h') (ff:s.heap.FunFrames B0 l) :
  Lie P w l H s x C dx H' B { s' with heap:=h' }:=by
 refine⟨Li.os,Li.bare,F',⟨fun b o e n hb _=>F'.stay b o (Li.kb b o e n hb),fun b o e n hb _=>?_,fun b o e n _=>Li.un.free b o e n (fun z=>nomatch z),fun b o e _=>?_,Li.un.tups,Li.un.frzs,Li.un.tbls⟩,?_,Li.kb,fun b u e=>?_,Li.xn⟩
 ·obtain⟨sl,e2⟩:=Li.un.slot b o e n hb (fun z=>nomatch z)
  obtain⟨_,o',ho',nf⟩:=ff.mem hb
  have z:some o=some o':=e.symm.trans ho'
  cases z
  obtain⟨sl2,e3⟩:=u'.sl b _ e2 nf
  exact⟨sl2,e3⟩
 ·obtain⟨o2,e2⟩:=Li.un.there b o e (fun z=>nomatch z)
  exact u'.th b o2 e2
 ·refine mH Li.hok (fun _ _ e=>e) (fun _ _ e=>e) (fun _ _ e=>e) fun b u o e q=>?_
  obtain⟨o',e1,e2⟩:=Li.hb b u e
  rw[e1] at q
  cases q
  exact F'.stay b _ e2
 ·obtain⟨o',e1,e2⟩:=Li.hb b u e
  exact⟨o',F'.stay b _ e2,e2⟩
noncomputable def cO (x C dx:Addr):HO:=.ext fun h=>∃ vs sl,h.get? x=some { cls:=.ref C,dict:=some dx,data:=.fields vs,slots:=sl }
theorem Nu {P:Program} {w:World} {H:Hp} {h:Heap} {x C dx:Addr} {vs:Array Value} {sl:Array (Option Value)} (e:h.get? x=some { cls:=.ref C,dict:=some dx,data:=.fields vs,slots:=sl }):fV P w H h x (cO x C dx) :=
 ⟨⟨vs,sl,e⟩,⟨_,e⟩,fun h1 h2 ⟨vs',sl',e'⟩ k=>⟨vs',sl',k _ e'⟩⟩
noncomputable abbrev Cx.marked (X:Cx) (x:Addr):Cx:={ X with A:=X.A.mark (some (.ref x)),calm:=false,xe:=fun _ _=>False }
theorem Cx.Ok.marked {X:Cx} (ok:X.Ok) (x:Addr):(X.marked x).Ok :=
 ⟨ok.mod,ok.kind,ok.glob,ok.blt,ok.above,ok.inj,ok.has,ok.cab,(fun z=>nomatch z),ok.frames,ok.stk,ok.exf,ok.bs,ok.bsz,ok.noex,ok.exfs,ok.o4,ok.frf⟩
theorem Cx.Ok.unmarked {X:Cx} {x:Addr} (hd:X.calm=true->X.A.handled=none) (ok:(X.marked x).Ok):X.Ok :=
 ⟨ok.mod,ok.kind,ok.glob,ok.blt,ok.above,ok.inj,ok.has,ok.cab,hd,ok.frames,ok.stk,ok.exf,ok.bs,ok.bsz,ok.noex,ok.exfs,ok.o4,ok.frf⟩
section
variable {X:Cx} {pins:List (Addr × Obj)} {σ:St} {H H':Hp} {s s':Shared} {x C dx:Addr} {B:Heap}
theorem Inv.marked (I:Inv X pins σ H s) (x:Addr):Inv (X.marked x) pins σ H s:=⟨I.ok.marked x,I.os,I.bare,I.base,I.loc,I.cell,I.free,I.freeC,I.pin,I.hok,I.len⟩
theorem Inv.unmarked (I:Inv (X.marked x) pins σ H s) (hd:X.calm=true->X.A.handled=none):Inv X pins σ H s:=⟨I.ok.unmarked hd,I.os,I.bare,I.base,I.loc,I.cell,I.free,I.freeC,I.pin,I.hok,I.len⟩
theorem Lie.back (I:Inv X pins σ H s) (Li:Lie X.prog X.w X.stack H s x C dx H' B s'):Inv X pins σ (upd H' x (cO x C dx)) s':=by
 have J:=I.call' (s':=s') (ch:=[]) Li.os Li.un Li.hok Li.bare (fun b z=>nomatch z)
 obtain⟨vs,T,oT,ts,sl,ex,_⟩:=Li.fly.tr
 have xs:x ∉ frs X.stack:=fun z=>by
  obtain⟨_,o,ho,nf⟩:=Li.fly.frs.mem z
  rw[ex] at ho
  cases ho
  exact nf vs rfl
 have xl:x≠X.env.locals:=fun z=>by
  obtain⟨m,⟨o,es,ep,e,d,_⟩,_⟩:=J.loc
  rw[← z,ex] at e
  cases e
  cases d
 have out:∀ b o,s.heap.get? b=some o->H b=none->b≠x:=fun b o e n z=>by
  subst z
  have:=Li.kb b o e n xs
  rw[Li.fly.bx] at this
  cases this
 have hne:∀ b u,H' b=some u->b≠x:=fun b u e z=>by
  rw[z,Li.xn] at e
  cases e
 refine⟨J.ok,J.os,J.bare,⟨J.base.keep,J.base.slot,fun b o e n he=>?_,J.base.there,fun b xs' e=>?_,fun b o u e=>?_,fun b ps e=>?_⟩,J.loc,J.cell,?_,fun y c e=>?_,fun p hp=>?_,?_,J.len⟩
 ·have n1:=I.base.free b o e n he
  obtain⟨o1,e1⟩:=I.base.there b o e he
  rw[aR (out b o1 e1 n1)]
  exact J.base.free b o e n he
 ·have z:=J.base.tups b xs' e
  rw[aR (hne b _ z)]
  exact z
 ·have z:=J.base.frzs b o u e
  rw[aR (hne b _ z)]
  exact z
 ·obtain⟨m,z⟩:=J.base.tbls b ps e
  exact⟨m,by rw[aR (hne b _ z)]; exact z⟩
 ·rw[aR (Ne.symm xl)]
  exact J.free
 ·obtain⟨v,o,ho,hd⟩:=J.cell y c e
  have:c≠x:=fun z=>by
   rw[z,ex] at ho
   cases ho
   cases hd
  rw[aR this]
  exact J.freeC y c e
 ·obtain⟨e1,e2,e3⟩:=J.pin p hp
  obtain⟨i1,i2,i3⟩:=I.pin p hp
  refine⟨e1,?_,e3⟩
  rw[aR (out _ _ i1 i2)]
  exact e2
 ·intro b u e
  by_cases hb:b=x
  ·subst hb
   rw[ao] at e
   cases e
   exact Nu ex
  ·rw[aR hb] at e
   refine (J.hok b u e).stay (fun _ _ _ q=>q) (fun c q=>?_) fun c xs' q=>?_
   ·rw[aR (hne c _ q)]
    exact q
   ·rw[aR (hne c _ q)]
    exact q
end
end L2
namespace L2
open PySem PySem.Spec PyProof.Rows
structure XRd (K:PySem.W.Frag) (C G:Addr) (f:Str):Prop where
 obj:∃ nm q N bs bm hdct sn sub ab col dd k0 k1 k2 k3 k5 id,K.lookup C=some (excClassObj nm q C N bs bm hdct sn sub ab col dd k0 k1 k2 k3 k5 id)/\(Value.ref C::bm).contains (.ref G)=true
 top:∃ nm q N bs bm hdct sn sub ab col dd k0 k1 k2 k3 k5 id,K.lookup G=some (excClassObj nm q G N bs bm hdct sn sub ab col dd k0 k1 k2 k3 k5 id)/\bm.contains (.type "BaseException")=true
 ga:PySem.W.findIn K (.ref C) "__getattribute__" = some (some (.builtin "BaseException.__getattribute__"))
 gh:PySem.W.findIn K (.ref C) "__getattr__" = some none
 up:∃ cd,PySem.W.clsIn K C=some cd/\kW cd.mro=true
 hd:PySem.W.hasDictIn K C=true
 no:PySem.W.findIn K (.ref C) f=some none
section
variable {M:Model} {A:Around} {E:Value->Shared->Prop} {K:W.Frag} {s:Shared} {C G x dx:Addr} {f:Str} {vs:Array Value} {sl:Array (Option Value)}
theorem Ci {Q:Bool->Shared->Prop} (X:K.In s.heap) (R:XRd K C G f) (he:s.heap.get? x=some { cls:=.ref C,dict:=some dx,data:=.fields vs,slots:=sl }) (hq:Q true s):wpAny M A (excMatches (.ref x) (.ref G)) Q E s:=by
 obtain⟨n1,q1,N1,bs1,bm1,hd1,sn1,sub1,ab1,col1,dd1,a0,a1,a2,a3,a5,id1,l1,c1⟩:=R.obj
 obtain⟨n2,q2,N2,bs2,bm2,hd2,sn2,sub2,ab2,col2,dd2,b0,b1,b2,b3,b5,id2,l2,c2⟩:=R.top
 have h1:=X _ _ l1
 have h2:=X _ _ l2
 have cB:(Value.ref G::bm2).contains (.type "BaseException")=true:=by rw[List.contains_cons,c2,Bool.or_true]
 have nt:=tc_notTuple
 obtain⟨hp,g,d,tk,os⟩:=s
 unfold excMatches
 repeat (first | with_reducible refine wpAny_loadPart_at he ?_ | with_reducible refine wpAny_loadPart_at h2 ?_ | (with_reducible refine wpAny_isSubtype_exc h2 ?_; rw[cB]) | (with_reducible refine wpAny_isSubtype_exc h1 ?_; rw[c1]) | wp_step)
 exact hq
end
theorem uy:∀ {l:List Value},kW l=true->l.contains (.type "BaseException")=true
 | [],h=>by cases h
 | a::r,h=>by
  rcases jw h with⟨c,rfl,h'⟩ | e
  ·rw[List.contains_cons,uy h',Bool.or_true]
  ·rw[e]
   rfl
section
variable {prog:Program} {w:World} {A:Around} {E:Value->Shared->Prop} {K:W.Frag} {s:Shared} {C G x:Addr} {ox:Obj} {od:Option Obj} {f:Str} {expr:Bool} {v:Value}
theorem J3 {Q:Value->Shared->Prop} (X:K.In s.heap) (R:XRd K C G f) (I:W.InstAt s.heap x ox C od) (hf:W.findObj K C od f=some (.value v)) (hh:W.handedIn v=true) (h:Q v { s with toks:=s.toks+1 }) :
  wpAny (model prog w) A (getAttr (.ref x) f expr) Q E s:=by
 obtain⟨cd,hc,hu⟩:=R.up
 have ne:cd.mro.isEmpty=false:=by cases q:cd.mro with | nil=>rw[q] at hu; cases hu | cons _ _=>rfl
 have sub:PySem.W.Looks (model prog w) s.heap (isInstance (.ref x) (.type "BaseException")) true:=I.type.andThen (PySem.W.looks_mroIn X (by unfold PySem.W.mroIn; rw[hc,Option.bind_some,if_neg (by rw[ne]; decide),uy hu]))
 have L0:=I.type (M:=model prog w)
 have L1:=PySem.W.looks_findIn (M:=model prog w) X R.ga
 have L2:=PySem.W.looks_findIn (M:=model prog w) X R.gh
 have L3:=PySem.W.looks_find (M:=model prog w) X I hf
 obtain⟨hp,g,d,t,os⟩:=s
 unfold getAttr getAttrBy
 refine wpAny_bind (wpAny_mkText (wpAny_holding (wpAny_bind (L0.at (wpAny_bind (L1.at ?_))))))
 show wpAny _ _ (if (onTheHeap (Value.ref C) && (Value.builtin "BaseException.__getattribute__" == Value.builtin "object.__getattribute__"))=true then _ else getAttrByItsOwn (.ref x) (.str f t) (.ref C) (.builtin "BaseException.__getattribute__") true expr) _ _ _
 have nb:(Value.builtin "BaseException.__getattribute__" == Value.builtin "object.__getattribute__")=false:=by decide+kernel
 rw[nb,Bool.and_false,if_neg Bool.false_ne_true]
 unfold getAttrByItsOwn
 refine wpAny_bind (m:=hookBefore (.ref C)) (show wpAny _ _ (typeLookup (.ref C) "__getattr__") _ _ _ from L2.at ?_)
 refine wpAny_bind (wpAny_attempt (wpAny_holding ?_))
 have ec:callGetattribute (.ref x) (.str f t) (.builtin "BaseException.__getattribute__") expr=boundAndCalled (.builtin "BaseException.__getattribute__") (.ref x) (.str f t):=by
  unfold callGetattribute
  rw[if_neg (by cases expr <;> decide)]
 rw[ec]
 unfold boundAndCalled
 rw[PySem.F.attr_ValueError.ga.bind (.ref x)]
 refine wpAny_bind (wpAny_pure (wpAny_call (codeAny_call_builtin PySem.F.attr_ValueError.ga.plain PySem.F.entry_bexc_ga (@PySem.W.check_slot (model prog w) _ _ ⟨hp,g,d,t+1,os⟩ "BaseException.__getattribute__" "BaseException" "__getattribute__" (.ref x) [.str f t] [] _ (by decide+kernel) (by decide+kernel) sub (PySem.F.args_bexc_ga _ _) ?_))))
 unfold Builtin.«object.__getattribute__»
 refine wpAny_bind (wpAny_pure (wpAny_bind (wpAny_pure (wpAny_bind (L0.at (wpAny_bind (L3.at ?_)))))))
 refine wpAny_pure ?_
 show wpAny _ _ (handedOut v) _ _ _
 rw[PySem.W.handedOut_of hh]
 exact wpAny_pure h
end
section
variable {X:Cx} {e:Expr} {f:Str} {pos:Pos} {ta:TE}
noncomputable def LC (K:W.Frag) (ta:TE) (f:Str):TE:=fun σ H Q=>ta σ H fun x H1=>∃ a C G dx fs v,x = .ref a/\H1 a=some (cO a C dx)/\H1 dx=some (.xd fs)/\XRd K C G f/\fs.lookup f=some v/\Q v H1
theorem Iv (he:PE X e ta) (hb:attributeBase e f X.env (eval e X.env)=eval e X.env):PE X (.Attribute e f pos) (LC X.K ta f):=by
 intro pins s σ H Q I h
 refine Jm hb (thn (he pins s σ H _ I h) fun u s1 ⟨x,H1,I1,rx,a,C,G,dx,fs,v,ex,ea,ed,R,l,q⟩=>?_)
 subst ex
 obtain rfl:u=Value.ref a:=rx
 obtain⟨⟨vs,sl,e0⟩,_⟩:=I1.hok a _ ea
 obtain⟨mA,N,r⟩:=I1.hok dx _ ed
 obtain⟨u,hu,ru⟩:=Ig.some_of (v:=v) (o:=mA f) (by rw[← l]; exact r f)
 obtain⟨od,ho,hl⟩:=uY N
 have J:PySem.W.InstAt s1.heap a { cls:=.ref C,dict:=some dx,data:=.fields vs,slots:=sl } C (some od):=⟨e0,rfl,rfl,ho⟩
 exact J3 I1.kIn R J (PySem.W.findObj_own R.hd R.no rfl (by rw[hl,hu])) (BW ru) ⟨v,H1,I1.tok _,ru,q⟩
end
theorem Inv.forget {X:Cx} {pins:List (Addr × Obj)} {σ:St} {H:Hp} {s:Shared} {h':Heap} {m':Str->Option Value} {tk:Nat} (I:Inv X pins σ H s) (hn:h'.Ns X.env.locals m') (hs:Heap.SameBut X.env.locals s.heap h') :
  Inv X pins (List.replicate X.N.length none) H { s with heap:=h',toks:=tk }:=by
 have old:∀ b o,X.s₀.heap.get? b=some o->b≠X.env.locals:=fun b o e=>Nat.ne_of_lt (Nat.lt_of_lt_of_le (Heap.lt_size e) I.ok.above)
 refine⟨I.ok,I.os,I.bare,⟨fun b o e n hb hx=>(hs.2 b (old b o e)).trans (I.base.keep b o e n hb hx),fun b o e n hb hx=>?_,I.base.free,fun b o e hx=>?_,I.base.tups,I.base.frzs,I.base.tbls⟩,⟨m',hn,fun j y v e1 e2=>?_⟩,fun y c e=>?_,I.free,I.freeC,fun p hp=>?_,fun b ob e=>?_,by simp⟩
 ·obtain⟨sl,e1⟩:=I.base.slot b o e n hb hx
  exact⟨sl,(hs.2 b (old b o e)).trans e1⟩
 ·obtain⟨o',e1⟩:=I.base.there b o e hx
  exact⟨o',(hs.2 b (old b o e)).trans e1⟩
 ·rw[List.getElem?_replicate] at e2
  split at e2 <;> cases e2
 ·obtain⟨v,z⟩:=I.cell y c e
  exact⟨v,z.sameBut hs (I.cne y c e)⟩
 ·obtain⟨e1,e2,e3,e4⟩:=I.pin p hp
  exact⟨(hs.2 _ e3).trans e1,e2,e3,e4⟩
 ·refine (I.hok b ob e).stay (fun c o hc q=>(hs.2 c ?_).trans q) (fun _ q=>q) fun _ _ q=>q
  rintro rfl
  rcases hc with rfl | hc
  ·rw[I.free] at e; cases e
  ·rw[I.free] at hc; cases hc
section
variable {X:Cx} {pins:List (Addr × Obj)} {σ:St} {H H':Hp} {s s':Shared} {x C G dx:Addr} {B:Heap} {c n f:Str} {p p1 p2 p3 p4 pos:Pos} {k:Nat} {i:Nat} {D:Ends} {fs:List (Str × V)} {v:V}
theorem Dr (I:Inv X pins σ H s) (Li:Lie X.prog X.w X.stack H s x C dx H' B s') (stk:X.stack=X.env::X.outer/\X.env.frame=some X.env.locals) (R:XRd X.K C G f) (hg:Gl X c) (hm:X.mg c=some (.ref G)) (hN:X.N.Nodup) (hi:X.N[i]? = some n)
  (hl:X.env.scope.names.lookup n=some .local) (ed:H' dx=some (.xd fs)) (l:fs.lookup f=some v) (q:∀ (u:HO) (a:Addr),upd H' x u a=none->D.rt (.ref a) (upd (upd H' x u) a (.tup [v])))
  (hd : autoParam ((c == ("__debug__" : Str))=false) L2.az2._auto_1) (hd1 : autoParam ((n == ("__debug__" : Str))=false) L2.az2._auto_1) (hd2 : autoParam ((n == ("__classdict__" : Str))=false) L2.az2._auto_1) :
  wpAny (model X.prog X.w) X.A (noteFrame (.ref x) X.env) (fun _ s2=>wpAny (model X.prog X.w) X.A (setFlight (.ref x) none) (fun _ s3 =>
   wpAny (model X.prog X.w) X.A (handleBy (.ref x) X.env [.ExceptHandler (some (.Name c p)) (some n) [.Return (some (.Tuple [.Attribute (.Name n p1) f p2] k p3)) p4] pos]) (SP X pins D) X.xe s3) X.xe s2) X.xe s':=by
 have fr:X.A.frames=some (X.env::X.outer):=by rw[I.ok.frames,stk.1]
 have fl0:Fly B (X.env::X.outer) x C dx .none s'.heap:=stk.1▸Li.fly
 refine ye fr stk.2 fl0 fun h1 F1 u1=>?_
 refine mF (s:={ s' with heap:=h1 }) F1 fun h2 F2 u2=>?_
 have fl2:Fly B X.stack x C dx .none h2:=stk.1.symm▸F2
 have L2:=Li.on fl2 (u1.trans u2) I.stack
 have I2:=(L2.back I).marked x
 obtain⟨vs,T,oT,ts,sl,ex2,_⟩:=F2.tr
 refine wpAny_handleBy_cons (codeAny_handlers_test ?_) (by intro q; cases q)
 refine nj I2 hg hm ?_ hd
 refine Ci I2.kIn R ex2 ?_
 rw[if_pos rfl]
 refine codeAny_handlers_suite_as ?_
 refine mF (s:={ s' with heap:=h2 }) F2 fun h3 F3 u3=>?_
 have fl3:Fly B X.stack x C dx .none h3:=stk.1.symm▸F3
 have L3:=Li.on fl3 ((u1.trans u2).trans u3) I.stack
 have I3:=(L3.back I).marked x
 refine rM (X:=X.marked x) (v:=.ref x) I3 hN hi (.inl hl) rfl (fun s4 I4=>?_) (.inr hl)
 have hiσ:i < σ.length:=by
  have:=I.len
  rw[this]
  exact (List.getElem?_eq_some_iff.mp hi).1
 have dxx:dx≠x:=fun z=>by
  rw[z,Li.xn] at ed
  cases ed
 have P:PSs (X.marked x) [.Return (some (.Tuple [.Attribute (.Name n p1) f p2] k p3)) p4] (O3 (Ni (Ay (LC X.K (Ka i) f) Nh))) :=
  aC (aJ (bI (aa (Iv (HJ (X:=X.marked x) hi (.inl hl) hd1 hd2) rfl) aj)))
 refine wpAny_mono (P pins s4 (σ.set i (some (.ref x))) _ { nx:=fun _ _=>False,rt:=D.rt } I4 ?_) (fun fl s5 h5=>?_) fun _ _ z=>z.elim
 ·refine⟨.ref x,List.getElem?_set_self hiσ,⟨x,C,G,dx,fs,v,rfl,ao,(aR dxx).trans ed,R,l,?_⟩⟩
  exact⟨by rw[sizeLine_eq]; show 1<=_; lia,fun a ha=>q _ a ha⟩
 ·cases fl with
  | next=>obtain⟨_,_,_,z⟩:=h5; exact False.elim z
  | brk=>obtain⟨_,_,_,z⟩:=h5; exact False.elim z
  | cont=>obtain⟨_,_,_,z⟩:=h5; exact False.elim z
  | ret u =>
   obtain⟨v5,σ5,H5,I5,r5,q5⟩:=h5
   have J5:Inv X pins σ5 H5 s5:=I5.unmarked I.ok.hd
   obtain⟨m,hn,_⟩:=id J5.loc
   exact wpAny_nameGoes hl hn (by rw[I.ok.kind]; rfl) fun h6 m6 hn6 hs6=>⟨v5,_,H5,J5.forget hn6 hs6,r5,q5⟩
end
end L2
namespace L2
open PySem PySem.Spec PyProof.Rows
noncomputable abbrev Cx.held (X:Cx) (pn:List (Addr × Obj)) (E:Value->Shared->Prop):Cx:={ X with pn:=pn,xe:=E }
section
variable {X:Cx} {pins ps qs:List (Addr × Obj)} {σ:St} {H:Hp} {s:Shared} {E:Value->Shared->Prop}
theorem Inv.hold (I:Inv X pins σ H s):Inv (X.held (X.pn++pins) E) [] σ H s :=
 ⟨⟨I.ok.mod,I.ok.kind,I.ok.glob,I.ok.blt,I.ok.above,I.ok.inj,I.ok.has,I.ok.cab,I.ok.hd,I.ok.frames,I.ok.stk,I.ok.exf,I.ok.bs,I.ok.bsz,I.ok.noex,I.ok.exfs,I.ok.o4,I.ok.frf⟩,I.os,I.bare,I.base,I.loc,I.cell,I.free,I.freeC,fun p hp=>I.pin p (by simpa using hp),I.hok,I.len⟩
theorem Inv.nq (I:Inv (X.held (X.pn++pins) E) qs σ H s):Inv X pins σ H s :=
 ⟨⟨I.ok.mod,I.ok.kind,I.ok.glob,I.ok.blt,I.ok.above,I.ok.inj,I.ok.has,I.ok.cab,I.ok.hd,I.ok.frames,I.ok.stk,I.ok.exf,I.ok.bs,I.ok.bsz,I.ok.noex,I.ok.exfs,I.ok.o4,I.ok.frf⟩,I.os,I.bare,I.base,I.loc,I.cell,I.free,I.freeC,fun p hp=>I.pin p (List.mem_append_left _ hp),I.hok,I.len⟩
theorem SP.nq {D:Ends} {f:Flow} (h:SP (X.held (X.pn++pins) E) qs D f s):SP X pins D f s:=by
 cases f with
 | next=>obtain⟨a,b,I,q⟩:=h; exact⟨a,b,I.nq,q⟩
 | brk=>obtain⟨a,b,I,q⟩:=h; exact⟨a,b,I.nq,q⟩
 | cont=>obtain⟨a,b,I,q⟩:=h; exact⟨a,b,I.nq,q⟩
 | ret u=>obtain⟨v,a,b,I,r,q⟩:=h; exact⟨v,a,b,I.nq,r,q⟩
end
noncomputable def XW (K:W.Frag) (G:Addr) (f:Str) (R:VK):XK:=fun Cv dx' H=>∃ C dx fs v,Cv = .ref C/\dx'=some dx/\XRd K C G f/\H dx=some (.xd fs)/\fs.lookup f=some v/\∀ (x:Addr) (u:HO) (a:Addr),H x=none->upd H x u a=none->R (.ref a) (upd (upd H x u) a (.tup [v]))
noncomputable def PN (K:W.Frag) (G:Addr) (f:Str) (t:XK->TS):TS:=fun D σ H=>t (XW K G f D.rt) D σ H
section
variable {X:Cx} {G:Addr} {c n f:Str} {p p1 p2 p3 p4 pos pos':Pos} {k:Nat} {body:List Stmt} {t:XK->TS}
theorem Lk (i:Nat) (stk:X.stack=X.env::X.outer/\X.env.frame=some X.env.locals) (hg:Gl X c) (hm:X.mg c=some (.ref G)) (hN:X.N.Nodup) (hi:X.N[i]? = some n) (hl:X.env.scope.names.lookup n=some .local)
  (hb:∀ (pn:List (Addr × Obj)) (E:Value->Shared->Prop) (W:XK),Passes (XL X.prog X.w) (X.held pn E) W->PSs (X.held pn E) body (t W))
  (hd : autoParam ((c == ("__debug__" : Str))=false) L2.az2._auto_1) (hd1 : autoParam ((n == ("__debug__" : Str))=false) L2.az2._auto_1) (hd2 : autoParam ((n == ("__classdict__" : Str))=false) L2.az2._auto_1) :
  PS X (.Try body [.ExceptHandler (some (.Name c p)) (some n) [.Return (some (.Tuple [.Attribute (.Name n p1) f p2] k p3)) p4] pos] [] [] pos') (PN X.K G f t):=by
 intro pins s σ H D I h
 refine wpAny_Try_except ?_
 let E:Value->Shared->Prop:=fun e s'=>∃ (pins':List (Addr × Obj)) (σ':St) (H1:Hp) (s1:Shared),Inv X pins σ' H1 s1/\XL X.prog X.w X.stack H1 s1 (XW X.K G f D.rt) e s'
 have P:Passes (XL X.prog X.w) (X.held (X.pn++pins) E) (XW X.K G f D.rt):=fun pins' σ' H1 s1 e s' J q=>⟨pins',σ',H1,s1,J.nq,q⟩
 refine wpAny_mono (hb _ E _ P [] s σ H D I.hold h) (fun fl s1 q=>?_) fun e s1 q=>?_
 ·have q':=q.nq
  cases fl with
  | next=>exact wpAny_execs_nil q'
  | brk=>exact q'
  | cont=>exact q'
  | ret u=>exact q'
 ·obtain⟨_,σ',H1,s0,J,x,C,dx,H',B,rfl,Li,C',dx',fs,v,e1,e2,R,ed,l,w⟩:=q
  cases e1
  cases e2
  exact Dr J Li stk R hg hm hN hi hl ed l (fun u a ha=>w x u a Li.xn ha) hd hd1 hd2
end
end L2
namespace L2
open PySem PySem.Spec PyProof.Rows
theorem FZ {X:Cx} {E:XK} (st:X.stack=X.env::X.outer/\X.env.frame=some X.env.locals) (hex:X.ex=[])
  (hxe:∀ e s',wpAny (model X.prog X.w) X.A (leaving X.env e) (fun _ s2=>XL X.prog X.w X.outer X.H₀ X.s₀ E e s2) (fun e2 s2=>XL X.prog X.w X.outer X.H₀ X.s₀ E e2 s2) s'->X.xe e s'):Passes (XL X.prog X.w) X E:=by
 intro pins σ H s e s' I hl
 obtain⟨x,C,dx,H',B,rfl,Li,hE⟩:=hl
 have nex:∀ b,b ∉ X.ex:=fun b z=>by
  rw[hex] at z
  cases z
 have fl0:Fly B (X.env::X.outer) x C dx .none s'.heap:=st.1▸Li.fly
 refine hxe _ _ (yr (outer:=X.outer) (by rw[I.ok.frames,st.1]) st.2 fl0 fun h' F' u'=>?_)
 have old:∀ b o,X.s₀.heap.get? b=some o->X.H₀ b=none->b ∉ X.fs->s.heap.get? b=some o/\H b=none/\b ∉ frs X.stack:=fun b o e n hb=>by
  refine⟨I.base.keep b o e n hb (nex b),I.base.free b o e n (nex b),fun z=>?_⟩
  rcases List.mem_cons.mp (I.pI b z) with z | z
  ·have:=Nat.lt_of_lt_of_le (Heap.lt_size e) I.ok.above
   rw[z] at this
   exact Nat.lt_irrefl _ this
  ·exact hb z
 have inS:∀ b,b∈X.fs->b∈frs X.stack:=fun b hb=>by
  obtain⟨en,h1,h2⟩:=List.mem_filterMap.mp hb
  rw[st.1]
  exact List.mem_filterMap.mpr ⟨en,List.mem_cons_of_mem _ h1,h2⟩
 refine⟨x,C,dx,H',B,rfl,⟨Li.os.trans I.os,Li.bare,⟨F'.stay,F'.bx,F'.frs.2.2,F'.tr⟩,⟨fun b o e n hb _=>?_,fun b o e n hb _=>?_,fun b o e n _=>?_,fun b o e _=>?_,fun b l e=>Li.un.tups b l (I.base.tups b l e),fun b o u e=>Li.un.frzs b o u (I.base.frzs b o u e),fun b ps e=>?_⟩,?_,fun b o e n hb=>?_,fun b u e=>?_,Li.xn⟩,hE⟩
 ·obtain⟨e1,e2,e3⟩:=old b o e n hb
  exact F'.stay b o (Li.kb b o e1 e2 e3)
 ·obtain⟨sl,e1⟩:=I.base.slot b o e n hb (nex b)
  have n1:=I.base.free b o e n (nex b)
  obtain⟨_,o',ho',nf⟩:=I.ok.o4.mem hb
  have z:some o=some o':=e.symm.trans ho'
  cases z
  obtain⟨sl1,e2⟩:=Li.un.slot b _ e1 n1 (inS b hb) (fun z=>nomatch z)
  obtain⟨sl2,e3⟩:=u'.sl b _ e2 nf
  exact⟨sl2,e3⟩
 ·obtain⟨o1,e1⟩:=I.base.there b o e (nex b)
  exact Li.un.free b o1 e1 (I.base.free b o e n (nex b)) (fun z=>nomatch z)
 ·obtain⟨o1,e1⟩:=I.base.there b o e (nex b)
  obtain⟨o2,e2⟩:=Li.un.there b o1 e1 (fun z=>nomatch z)
  exact u'.th b o2 e2
 ·obtain⟨m1,z⟩:=I.base.tbls b ps e
  obtain⟨m2,z2⟩:=Li.un.tbls b _ z
  exact⟨m1++m2,by rw[z2,Array.append_assoc]⟩
 ·refine mH Li.hok (fun _ _ e=>e) (fun _ _ e=>e) (fun _ _ e=>e) fun b u o e q=>?_
  obtain⟨o',e1,e2⟩:=Li.hb b u e
  rw[e1] at q
  cases q
  exact F'.stay b _ e2
 ·obtain⟨e1,e2,e3⟩:=old b o e n hb
  exact Li.kb b o e1 e2 e3
 ·obtain⟨o',e1,e2⟩:=Li.hb b u e
  exact⟨o',F'.stay b _ e2,e2⟩
noncomputable def wJ (CX:CXT) (P:Program) (w:World) (K:W.Frag) (mg:Str->Option Value) (base:Heap) (N:List Str) (qual:Str) (scope:Scope) (f:Addr) (cd:Value) (cl:List (Str × Addr)) (A:Around) (outer:List Env) (s:Shared) (H:Hp) (E:XK):Cx :=
 let env:=PySem.W.envX qual scope s.heap.objs.size f cd cl
 {prog:=P,w:=w,K:=K,mg:=mg,base:=base,A:=A.deeper env,N:=N,s₀:=s,H₀:=H,env:=env,outer:=outer,stack:=env::outer,ex:=[],calm:=true,fn:=fun _=>false,pn:=[],
  xe:=fun e s'=>wpAny (model P w) (A.deeper env) (leaving env e) (fun _ s2=>CX outer H s E e s2) (fun e2 s2=>CX outer H s E e2 s2) s' }
theorem pP {P:Program} {w:World} {K:W.Frag} {mg:Str->Option Value} {base:Heap} {N:List Str} {qual:Str} {scope:Scope} {f:Addr} {cd:Value} {cl:List (Str × Addr)} {A:Around} {outer:List Env} {s:Shared} {H:Hp} {E:XK} :
  Passes (XL P w) (wJ (XL P w) P w K mg base N qual scope f cd cl A outer s H E) E :=
 FZ (X:=wJ (XL P w) P w K mg base N qual scope f cd cl A outer s H E) ⟨rfl,rfl⟩ rfl fun _ _ z=>z
structure M6 (N:List Str) (sc:Scope):Prop where
 kind:sc.kind = .function
 co:sc.isCoroutine=false
 gen:sc.isGenerator=false
 cell:∀ y∈sc.names,y.2≠.cell
 fr:∀ x∈N,sc.names.lookup x=some .free
structure PQ (N:List Str) (sc:Scope) (cl:List (Str × Addr)) (σ:St) (H:Hp) (h:Heap):Prop where
 inj:∀ x y c,cl.lookup x=some c->cl.lookup y=some c->x=y
 has:∀ y∈sc.names,y.2 = .free->∃ c,cl.lookup y.1=some c
 cells:∀ x c,cl.lookup x=some c->(∃ v,h.IsCell c v)/\H c=none
 vals:∀ (i:Nat) (x:Str) (v:V),N[i]? = some x->σ[i]? = some (some v)->∃ c u,cl.lookup x=some c/\h.IsCell c (some u)/\RelV v u
 len:σ.length=N.length
theorem Ji {CX:CXT} {P:Program} {w:World} {K:W.Frag} {mg:Str->Option Value} {base:Heap} {k:Nat} {N:List Str} {name qual:Str} {params:Arguments} {body:Expr} {scope:Scope} {cl:List (Str × Addr)} {pm ctv:Value} {c' f:Addr} {A:Around} {outer:List Env} {s:Shared} {σ:St} {H:Hp} {Q:VK} {E:XK} {te:TE}
  (hr:gB (k+1) A) (e0:zz P w K mg base A outer s H) (ho:s.heap.get? f=some (W.kla_obj name qual params body scope cl pm c' ctv)) (hcd:s.heap.CodeRec (.ref c') qual)
  (hb:bindArgs (W.kla_fn name qual params body scope cl pm (.ref c') ctv) ⟨[],[]⟩=pure []) (S:M6 N scope) (C:PQ N scope cl σ H s.heap)
  (hp:PE (wJ CX P w K mg base N qual scope f (.ref c') cl A outer s H E) body te) (h:te σ H Q):codeAny (model P w) A (.call (.ref f) ⟨[],[]⟩) (CR CX outer P w H s Q E) s:=by
 have lim:s.heap.NoLimit:=e0.mod.nolimit.keeps fun b o e=>(e0.bs b o e).1
 refine PySem.W.kla_callFunE hr.depth ho rfl S.co S.gen rfl hcd ?_
 rw[hb]
 refine wpAny_pure (wpAny_newFunctionEnv S.cell (fun y hy=>nomatch hy) (fun h1 ns sb=>⟨lim.fresh _ sb,?_⟩) S.kind)
 have kp:∀ b o,s.heap.get? b=some o->h1.get? b=some o:=fun b o e=>sb.extBut b o (Nat.ne_of_lt (Heap.lt_size e)) (Heap.get?_push_of_some _ e)
 have noA:∀ b:Addr,b ∉ (wJ CX P w K mg base N qual scope f (.ref c') cl A outer s H E).ex:=fun b z=>nomatch z
 have I:Inv (wJ CX P w K mg base N qual scope f (.ref c') cl A outer s H E) [] σ H { s with heap:=h1,toks:=s.toks+0 }:=by
  refine⟨⟨e0.mod,S.kind,rfl,rfl,Nat.le_refl _,C.inj,fun y hy=>?_,fun y c z=>absurd (show false=true from z) Bool.false_ne_true,fun _=>hr.hd,Around.frames_deeper e0.frames,.inr ⟨rfl,rfl⟩,fun b z=>absurd z (noA b),e0.bs,e0.bsz,fun b _ _=>noA b,fun b z=>absurd z (noA b),e0.o4,e0.frf⟩,
   rfl,e0.bare,Un.kept kp,⟨_,ns,fun i y v q1 q2 _=>?_⟩,fun y c e=>?_,e0.hok.fresh (Nat.le_refl _),fun y c e=>(C.cells y c e).2,(fun p z=>nomatch z),e0.hok.kept kp,C.len⟩
  ·rcases hy with hy | hy
   ·exact absurd rfl (S.cell _ (PySem.mem_of_lookup (show scope.names.lookup y=some .cell from hy)))
   ·exact C.has _ (PySem.mem_of_lookup (show scope.names.lookup y=some .free from hy)) rfl
  ·obtain⟨c,u,e1,⟨o,e2,e3⟩,r⟩:=C.vals i y v q1 q2
   exact⟨u,r,.inr ⟨.inr (S.fr y (List.mem_of_getElem? q1)),c,e1,o,kp _ _ e2,e3⟩⟩
  ·obtain⟨⟨v,o,e1,e2⟩,_⟩:=C.cells y c e
   exact⟨v,o,kp _ _ e1,e2⟩
 refine PySem.W.kla_codeExpr (wpAny_mono (hp [] _ σ H Q I h) (fun u s2 z=>?_) fun e s2 z=>z)
 obtain⟨v,H',J,r,q⟩:=z
 exact⟨v,H',J.os,J.bare,J.base,J.hok,r,q⟩
end L2
namespace L2
open PySem PySem.Spec PyProof.Rows
section
variable {CX:CXT} {P:Program} {w:World} {K:W.Frag} {mg:Str->Option Value} {base:Heap} {k:Nat}
theorem Lj {x qual:Str} {st:Stmt} {f:Addr} {fd:FuncData} {N ps:List Str} {A:Around} {outer:List Env} {s:Shared} {H:Hp} {us:List Value} {vs:List V} {Q:VK} {E:XK} (F:Fun K x qual st f fd) (S:aL N ps (aq st)) (hr:gB (k+1) A) (e0:zz P w K mg base A outer s H)
  (hb:∀ (kV doc pm:Value) (an:Option Addr) (cdv ct:Value),bindArgs (W.fnOf x qual (aK st) (aF st) (aq st) .none kV doc pm an cdv ct) ⟨us,[]⟩=pure (ps.zip us)) (r:Vals vs us) (hl:vs.length=ps.length)
  (ht:∀ cdv,∃ t,PSs (vz CX P w K mg base N qual (aq st) f cdv A outer s H E) (aF st) t/\t { nx:=fun _ H'=>Q .non H',rt:=Q } (start N vs) H) :
  codeAny (model P w) A (.call (.ref f) ⟨us,[]⟩) (CR CX outer P w H s Q E) s:=by
 obtain⟨oc,od,kV,doc,pm,an,cdv,ct,osl,rfl,lk,hc⟩:=F.ex
 have KX:K.In s.heap:=e0.mod.kin.keeps fun b o e=>(e0.bs b o e).1
 have lim:s.heap.NoLimit:=e0.mod.nolimit.keeps fun b o e=>(e0.bs b o e).1
 have hkind:((ps.zip us).all fun y=>(aq st).names.lookup y.1 == some .local || (aq st).names.lookup y.1 == some .cell)=true:=List.all_eq_true.mpr fun⟨n,v⟩ hy=>by
  rcases S.par n (List.of_mem_zip hy).1 with q | q <;> simp [q]
 refine Att.KC KX lim lk hc hr.depth (.of_eq (hb kV doc pm an cdv ct)) hkind (fun s1 x=>?_) S.co S.gen S.kind
 obtain⟨t,h1,h2⟩:=ht cdv
 have I:Inv (vz CX P w K mg base N qual (aq st) f cdv A outer s H E) [] (start N vs) H s1:=uU S hr.hd e0 hl r x
 refine wpAny_mono (h1 [] s1 (start N vs) H _ I h2) (fun fl s2 z=>?_) fun e s2 z=>z
 cases fl with
 | ret u =>
  obtain⟨v,σ',H',J,rv,q⟩:=z
  exact⟨v,H',J.os,J.bare,J.base,J.hok,rv,q⟩
 | next =>
  obtain⟨σ',H',J,q⟩:=z
  exact⟨.non,H',J.os,J.bare,J.base,J.hok,rfl,q⟩
 | brk=>obtain⟨_,_,_,q⟩:=z; exact False.elim q
 | cont=>obtain⟨_,_,_,q⟩:=z; exact False.elim q
structure Le (CX:CXT) (P:Program) (w:World) (K:PySem.W.Frag) (mg:Str->Option Value) (base:Heap) (k:Nat) (s₀:Shared) (H₀:Hp) (fs:List Addr) (f:Addr) (sp:Hp->VK->XK->Prop):Prop where
 at_:∃ o fd,s₀.heap.get? f=some o/\o.data = .func fd/\H₀ f=none/\f ∉ fs
 run:∀ (A:Around) (outer:List Env) (s:Shared) (H:Hp) (Q:VK) (E:XK),gB k A->zz P w K mg base A outer s H->(∀ b o,s₀.heap.get? b=some o->H₀ b=none->b ∉ fs->s.heap.get? b=some o)->(∀ b o,s₀.heap.get? b=some o->H₀ b=none->(∃ sl,s.heap.get? b=some { o with slots:=sl })/\H b=none)->(∀ b o u,H₀ b=some (.frz o u)->H b=some (.frz o u))->sp H Q E →
  codeAny (model P w) A (.call (.ref f) ⟨[],[]⟩) (CR CX outer P w H s Q E) s
end
section
variable {X:Cx} {CX:CXT} {k:Nat} {f:Addr} {sp:Hp->VK->XK->Prop} {E:XK} {x:Str} {p pos:Pos} {te:TE}
noncomputable def Qa (f:Addr) (sp:Hp->VK->XK->Prop) (E:XK) (te:TE):TE:=fun σ H Q=>te σ H fun v H1=>v = .ref f/\sp H1 Q E
theorem Mx (L:Le CX X.prog X.w X.K X.mg X.base k X.s₀ X.H₀ X.fs f sp) (hex:X.ex=[]) (hr:gB k X.A) (hx:Passes CX X E) (he:PE X (.Name x p) te):PE X (.Call (.Name x p) [] [] pos) (Qa f sp E te):=by
 intro pins s σ H Q I h
 refine wpAny_Call_Name_kw (thn (he pins s σ H _ I h) fun u s1 ⟨v,H1,I1,r,ev,q⟩=>?_)
 subst ev
 obtain rfl:u=Value.ref f:=r
 have nex:∀ b,b ∉ X.ex:=fun b z=>by
  rw[hex] at z
  cases z
 obtain⟨o,fd,e1,e2,e3,e4⟩:=L.at_
 have e5:=I1.base.keep f o e1 e3 e4 (nex f)
 refine callWith_function_kw (o:=o) (fd:=fd) (evalArgs_kw_nil rfl (wpAny_evalAll_nil ⟨⟨e5,e2⟩,?_⟩))
 refine wpAny_call (codeAny_mono (L.run X.A X.stack s1 H1 Q E hr I1.env0 (fun b o e n hb=>I1.base.keep b o e n hb (nex b)) (fun b o e n=>⟨I1.base.any e n (nex b),I1.base.free b o e n (nex b)⟩) I1.base.frzs q) fun r2 s2 hq=>?_)
 cases r2 with
 | error e=>exact hx pins σ H1 s1 e s2 I1 hq
 | ok fl =>
  cases fl with
  | ret u=>exact I1.after hq
  | next=>exact False.elim hq
  | brk=>exact False.elim hq
  | cont=>exact False.elim hq
end
end L2
namespace L2
open PySem PySem.Spec PyProof.Rows
noncomputable def TabOk (H:Hp) (P:Addr) (q:Str):Prop:=∃ ps,H P=some (.tbl ps)/\TriplesOk ps.toList/\∀ pos cv,codeAmong pos ps.toList=some cv->∃ c oc u vs t,cv = .ref c/\H c=some (.frz oc u)/\oc.data = .fields vs/\vs[1]? = some (.str q t)
noncomputable def gn (H H1:Hp):Prop:=∀ b o,(∀ ps,o≠.tbl ps)->H b=some o->H1 b=some o
noncomputable def Gk (P:Addr) (H H1:Hp):Prop:=∀ b o,b≠P->H b=some o->H1 b=some o
theorem Gk.t {P:Addr} {q:Str} {H H1:Hp} (h:TabOk H P q) (a:Gk P H H1):gn H H1:=fun b o n e=>a b o (fun z=>by
 obtain⟨ps,e1,_⟩:=h
 rw[z,e1] at e
 exact n ps (Option.some.inj e).symm) e
theorem gn.refl (H:Hp):gn H H:=fun _ _ _ e=>e
theorem gn.trans {H H1 H2:Hp} (a:gn H H1) (b:gn H1 H2):gn H H2:=fun c o n e=>b c o n (a c o n e)
theorem aU.t {H H1:Hp} (a:aU H H1):gn H H1:=fun c o _ e=>a c o e
theorem TabOk.same {H H1:Hp} {P:Addr} {q:Str} (a:aU H H1) (h:TabOk H P q):TabOk H1 P q:=by
 obtain⟨ps,e,t,f⟩:=h
 refine⟨ps,a _ _ e,t,fun pos cv z=>?_⟩
 obtain⟨c,oc,u,vs,tk,e1,e2,e3⟩:=f pos cv z
 exact⟨c,oc,u,vs,tk,e1,a _ _ e2,e3⟩
theorem Dq {l:List Value} (h:TriplesOk l):l=[]∨∃ i t j u d r,l = .int i t::.int j u::d::r/\TriplesOk r:=by
 unfold TriplesOk at h
 split at h
 ·exact .inl rfl
 ·exact .inr ⟨_,_,_,_,_,_,rfl,h⟩
 ·exact h.elim
theorem mC {pos pos':Pos} {c cv:Value}:∀ (n:Nat) (l:List Value),l.length<=n->TriplesOk l->(codeAmong pos' (l++[rawInt pos.line,rawInt pos.col,c])=some cv->codeAmong pos' l=some cv∨cv=c)/\TriplesOk (l++[rawInt pos.line,rawInt pos.col,c])
 | 0,l,hn,h=>by
  cases List.eq_nil_of_length_eq_zero (Nat.le_zero.mp hn)
  refine⟨fun e=>?_,trivial⟩
  simp only[List.nil_append,rawInt,codeAmong] at e
  split at e
  ·exact .inr (Option.some.inj e).symm
  ·cases e
 | n+1,l,hn,h=>by
  rcases Dq h with rfl | ⟨i,t,j,u,d,r,rfl,hr⟩
  ·exact mC n [] (Nat.zero_le _) h
  ·obtain⟨h1,h2⟩:=mC (pos:=pos) (pos':=pos') (c:=c) (cv:=cv) n r (by simp only[List.length_cons] at hn; lia) hr
   refine⟨fun e=>?_,h2⟩
   simp only[List.cons_append,codeAmong] at e ⊢
   split at e
   ·rename_i z
    rw[if_pos z]
    exact .inl e
   ·rename_i z
    rw[if_neg z]
    exact h1 e
theorem yW {pos pos':Pos} {c cv:Value} (l:List Value) (h:TriplesOk l) (e:codeAmong pos' (l++[rawInt pos.line,rawInt pos.col,c])=some cv):codeAmong pos' l=some cv∨cv=c:=(mC l.length l (Nat.le_refl _) h).1 e
theorem uG {pos:Pos} {c:Value} (l:List Value) (h:TriplesOk l):TriplesOk (l++[rawInt pos.line,rawInt pos.col,c]):=(mC (pos':=pos) (cv:=c) l.length l (Nat.le_refl _) h).2
section
variable {X:Cx} {pins:List (Addr × Obj)} {σ:St} {H:Hp} {s:Shared} {c P:Addr} {params:Arguments} {body:Expr} {scope:Scope} {lpos:Pos} {E:Value->Shared->Prop} {Q:Value->Shared->Prop}
theorem Gr (I:Inv X pins σ H s) (hT:TabOk H P (X.env.qual++"<lambda>")) (hcode:X.env.code = .ref c) (C:W.CodeHd X.base c P) (hB:X.base.BuiltinsAt X.mg P) (hdef:defaultsOf params X.env=([],[]))
  (hfr:∀ y∈scope.names,y.2 = .free->X.env.kindOf y.1=some .cell∨X.env.kindOf y.1=some .free)
  (h:∀ (f c':Addr) (ctv pm:Value) (cl:List (Str × Addr)) (H1:Hp) (s1:Shared),Inv X pins σ H1 s1->Gk P H H1->TabOk H1 P (X.env.qual++"<lambda>")->(∀ b,H b=none->b < s.heap.objs.size->H1 b=none)->(∀ b o,s.heap.get? b=some o->H b=none->s1.heap.get? b=some o) →
   s1.heap.get? f=some (PySem.W.kla_obj "<lambda>" (X.env.qual++"<lambda>") params body scope cl pm c' ctv)->H1 f=none->s.heap.objs.size<=f->(∃ oc u vs t,H1 c'=some (.frz oc u)/\oc.data = .fields vs/\vs[1]? = some (.str (X.env.qual++"<lambda>") t)) →
   (∀ n a,cl.lookup n=some a->X.env.cells.lookup n=some a)->(∀ y∈scope.names,y.2 = .free->∃ a,cl.lookup y.1=some a)->Q (.ref f) s1) :
  wpAny (model X.prog X.w) X.A (eval (.Lambda params body scope lpos) X.env) Q E s:=by
 obtain⟨ps,eP,tr,am⟩:=hT
 obtain⟨cl,hcl,sub,all⟩:=rO (scope:=scope) (env:=X.env) fun y hy z=>I.ok.has _ (hfr y hy z)
 have hP:s.heap.get? P=some (PySem.W.tabObj ps):=I.hok P _ eP
 have hns:s.heap.Ns mainGlobals X.mg:=I.mod.glob.keeps I.bk
 have hgP:mainGlobals≠P:=fun z=>by
  obtain⟨o,es,ep,e,d,_⟩:=hns
  rw[z,hP] at e
  cases e
  cases d
 refine PySem.W.kla_eval hdef ?_
 cases hit:codeAmong lpos ps.toList with
 | some cv =>
  obtain⟨c',oc,u,vs,t,rfl,e1,e2,e3⟩:=am _ _ hit
  refine PySem.W.kla_makeFunctionHit hcl I.ok.glob hns hcode (C.keeps I.bk) hP tr hit (hB.keeps I.bk) fun ctv h' tk kp sz=>?_
  have kp':∀ b o,s.heap.get? b=some o->(h'.push (PySem.W.kla_obj "<lambda>" (X.env.qual++"<lambda>") params body scope cl ((X.mg "__name__").getD .none) c' ctv)).get? b=some o:=fun b o e=>Heap.get?_push_of_some _ (kp b o e)
  refine h h'.objs.size c' ctv ((X.mg "__name__").getD .none) cl H _ (I.un (h':=h'.push (PySem.W.kla_obj "<lambda>" (X.env.qual++"<lambda>") params body scope cl ((X.mg "__name__").getD .none) c' ctv)) (t':=tk) (Un.kept kp') (I.hok.kept kp')) (fun _ _ _ e=>e) ⟨ps,eP,tr,am⟩ (fun _ n _=>n) (fun b o e _=>kp' b o e) ?_ (I.hok.fresh sz) sz ⟨oc,u,vs,t,e1,e2,e3⟩ sub all
  exact Heap.get?_push_size h' rfl
 | none =>
  refine PySem.W.kla_makeFunction hcl I.ok.glob hns hcode (C.keeps I.bk) hP tr hit hgP (hB.keeps I.bk) fun c' ctv h' tk kp l1 l2 cr hP'=>?_
  obtain⟨c2,oc,vs,t,ec,e1,e2,e3⟩:=cr
  cases ec
  have nP:c'≠P:=fun z=>by
   have:=Heap.lt_size hP
   rw[← z] at this
   exact Nat.lt_irrefl _ (Nat.lt_of_lt_of_le this l1)
  have fr:=I.hok.fresh l1
  have lt:∀ b u,H b=some u->b < s.heap.objs.size:=fun b u e=>(I.hok b u e).lt
  have nb:∀ b o,s.heap.get? b=some o->b≠c':=fun b o e z=>by
   have:=Heap.lt_size e
   rw[z] at this
   exact Nat.lt_irrefl _ (Nat.lt_of_lt_of_le this l1)
  have sz:s.heap.objs.size<=h'.objs.size:=Nat.le_trans l1 (Nat.le_of_lt l2)
  generalize ho:PySem.W.kla_obj "<lambda>" (X.env.qual++"<lambda>") params body scope cl ((X.mg "__name__").getD .none) c' ctv=fo
  have kq:∀ b o,h'.get? b=some o->(h'.push fo).get? b=some o:=fun b o e=>Heap.get?_push_of_some _ e
  have same:∀ b u,H b=some u->b≠P->upd (upd H P (.tbl (ps++#[rawInt lpos.line,rawInt lpos.col,.ref c']))) c' (.frz oc (.ext fun _=>True)) b=some u:=fun b u e n=>by
   rw[aR (fun z=>by rw[z,fr] at e; cases e),aR n]
   exact e
  have nt:∀ b u,H b=some u->(∀ ps,u≠.tbl ps)->b≠P:=fun b u e n z=>by
   rw[z,eP] at e
   exact n ps (Option.some.inj e).symm
  have un:Un X.fs [] H (upd (upd H P (.tbl (ps++#[rawInt lpos.line,rawInt lpos.col,.ref c']))) c' (.frz oc (.ext fun _=>True))) s.heap (h'.push fo):=by
   refine⟨fun b o e n _ _=>?_,fun b o e n _ _=>⟨o.slots,?_⟩,fun b o e n _=>?_,fun b o e _=>?_,fun b xs e=>same b _ e (nt b _ e (fun _ z=>nomatch z)),fun b o u e=>same b _ e (nt b _ e (fun _ z=>nomatch z)),fun b qs e=>?_⟩
   ·exact kq b o (kp b o (fun z=>by rw[z,eP] at n; cases n) e)
   ·exact kq b o (kp b o (fun z=>by rw[z,eP] at n; cases n) e)
   ·rw[aR (nb b o e),aR (fun z=>by rw[z,eP] at n; cases n)]
    exact n
   ·by_cases hb:b=P
    ·subst hb
     exact⟨_,kq _ _ hP'⟩
    ·exact⟨o,kq b o (kp b o hb e)⟩
   ·by_cases hb:b=P
    ·subst hb
     rw[eP] at e
     cases e
     exact⟨_,by rw[aR (Ne.symm nP),ao]⟩
    ·exact⟨#[],by rw[same b _ e hb,Array.append_empty]⟩
  have hok:HOk X.prog X.w (upd (upd H P (.tbl (ps++#[rawInt lpos.line,rawInt lpos.col,.ref c']))) c' (.frz oc (.ext fun _=>True))) (h'.push fo):=fun b u e=>by
   by_cases hb:b=c'
   ·subst hb
    rw[ao] at e
    cases e
    exact⟨kq _ _ e1,trivial,⟨_,kq _ _ e1⟩,fun _ _ _ _=>trivial⟩
   ·rw[aR hb] at e
    by_cases hp:b=P
    ·subst hp
     rw[ao] at e
     cases e
     exact kq _ _ hP'
    ·rw[aR hp] at e
     refine (I.hok b u e).stay (fun d o hd q=>kq _ _ (kp d o (fun z=>?_) q)) (fun d q=>same d _ q (nt d _ q (fun _ z=>nomatch z))) fun d xs q=>same d _ q (nt d _ q (fun _ z=>nomatch z))
     rcases hd with rfl | hd
     ·exact hp z
     ·rw[z,eP] at hd
      cases hd
  have I1:=I.un (t':=tk) un hok
  have f0:upd (upd H P (.tbl (ps++#[rawInt lpos.line,rawInt lpos.col,.ref c']))) c' (.frz oc (.ext fun _=>True)) h'.objs.size=none:=by
   rw[aR (Ne.symm (Nat.ne_of_lt l2)),aR (Ne.symm (Nat.ne_of_lt (Nat.lt_of_lt_of_le (Heap.lt_size hP) sz)))]
   exact I.hok.fresh sz
  refine h h'.objs.size c' ctv ((X.mg "__name__").getD .none) cl _ _ I1 (fun b o n e=>same b o e n) ⟨_,by rw[aR (Ne.symm nP),ao],?_,fun pos cv z=>?_⟩ (fun b n l=>?_) (fun b o e n=>kq b o (kp b o (fun z=>by rw[z,eP] at n; cases n) e)) ?_ f0 sz ⟨oc,_,vs,t,ao,e2,e3⟩ sub all
  ·rw[Array.toList_append]
   exact uG _ tr
  ·rw[Array.toList_append] at z
   rcases yW _ tr z with z | z
   ·obtain⟨c1,oc1,u1,vs1,t1,a1,a2,a3⟩:=am pos cv z
    exact⟨c1,oc1,u1,vs1,t1,a1,same _ _ a2 (nt _ _ a2 (fun _ z=>nomatch z)),a3⟩
   ·exact⟨c',oc,_,vs,t,z,ao,e2,e3⟩
  ·have n1:b≠c':=fun z=>Nat.lt_irrefl _ (Nat.lt_of_lt_of_le (show c' < s.heap.objs.size from z▸l) l1)
   have n2:b≠P:=fun z=>by rw[z,eP] at n; cases n
   rw[aR n1,aR n2]
   exact n
  ·rw[← ho]
   exact Heap.get?_push_size h' rfl
end
end L2
namespace L2
open PySem PySem.Spec PyProof.Rows
structure JC (X:Cx) (scope:Scope) (N:List Str) (cap:List Nat):Prop where
 sc:M6 N scope
 fr:∀ y∈scope.names,y.2 = .free->X.env.kindOf y.1=some .cell∨X.env.kindOf y.1=some .free
 len:cap.length=N.length
 at':∀ (k:Nat) (x:Str),N[k]? = some x->∃ i,cap[k]? = some i/\X.N[i]? = some x
noncomputable def KZ (cap:List Nat) (σ:St):St:=cap.map fun i=>(σ[i]?).join
noncomputable def Ph (P:Addr) (q:Str) (cap:List Nat) (tw:Addr->(Hp->VK->XK->Prop)->VK->Hp->Prop) (te:XK->TE):TE:=fun σ H Q=>TabOk H P q/\∀ f H1,gn H H1->TabOk H1 P q->tw f (fun H2 Q2 E2=>te E2 (KZ cap σ) H2 Q2) Q H1
noncomputable def N8 (Rl:Hp->Hp->Prop) (P:Addr) (q:Str) (cap:List Nat) (tw:Addr->(Hp->VK->XK->Prop)->VK->Hp->Prop) (te:XK->TE):TE:=fun σ H Q=>TabOk H P q/\∀ f H1,Rl H H1->TabOk H1 P q->tw f (fun H2 Q2 E2=>te E2 (KZ cap σ) H2 Q2) Q H1
section
variable {X:Cx} {c P fW:Addr} {x qual n:Str} {st:Stmt} {fd:FuncData} {N NL:List Str} {cap:List Nat} {k:Nat} {params:Arguments} {body:Expr} {scope:Scope} {lpos p pos:Pos} {te:XK->TE} {tw:Addr->(Hp->VK->XK->Prop)->VK->Hp->Prop}
theorem Js {Rl:Hp->Hp->Prop} (hR:∀ {H H1:Hp},TabOk H P (X.env.qual++"<lambda>")->Gk P H H1->Rl H H1) (F:Fun X.K x qual st fW fd) (S:aL N [n] (aq st)) (hr:gB (k+1) X.A) (hg:Gl X x) (hm:X.mg x=some (.ref fW)) (L:JC X scope NL cap)
  (hcode:X.env.code = .ref c) (C:W.CodeHd X.base c P) (hB:X.base.BuiltinsAt X.mg P)
  (hp:∀ (f:Addr) (cd:Value) (cl:List (Str × Addr)) (A:Around) (outer:List Env) (s:Shared) (H:Hp) (E:XK) (j:Nat),k=j+2->gB j (A.deeper (W.envX (X.env.qual++"<lambda>") scope s.heap.objs.size f cd cl))->PE (wJ (XL X.prog X.w) X.prog X.w X.K X.mg X.base NL (X.env.qual++"<lambda>") scope f cd cl A outer s H E) body (te E))
  (ht:∀ (f:Addr) (cdv:Value) (A:Around) (outer:List Env) (s:Shared) (H:Hp) (Q:VK) (j:Nat) (sp:Hp->VK->XK->Prop),k=j+1->gB k (A.deeper (envOfC qual (aq st) s.heap.objs.size fW cdv))->Le (XL X.prog X.w) X.prog X.w X.K X.mg X.base k s H (frs outer) f sp->tw f sp Q H →
   ∃ t,PSs (vz CX0 X.prog X.w X.K X.mg X.base N qual (aq st) fW cdv A outer s H E0) (aF st) t/\t { nx:=fun _ H'=>Q .non H',rt:=Q } (start N [.ref f]) H)
  (hdef : autoParam (defaultsOf params X.env=([],[])) L2.az5._auto_1) (hla : autoParam (∀ (pm cd ctv:Value) (cl:List (Str × Addr)),bindArgs (W.kla_fn "<lambda>" (X.env.qual++"<lambda>") params body scope cl pm cd ctv) ⟨[],[]⟩=pure []) L2.az9._auto_1)
  (hb : autoParam (∀ (kV doc pm:Value) (an:Option Addr) (cdv ct:Value) (u:Value),bindArgs (W.fnOf x qual (aK st) (aF st) (aq st) .none kV doc pm an cdv ct) ⟨[u],[]⟩=pure [(n,u)]) L2.az9._auto_1) (hk : autoParam (k=(k - 2)+2) L2.az5._auto_1)
  (hdb : autoParam ((x == ("__debug__" : Str))=false) L2.az2._auto_1):PE X (.Call (.Name x p) [.Lambda params body scope lpos] [] pos) (N8 Rl P (X.env.qual++"<lambda>") cap tw te):=by
 intro pins s σ H Q I ⟨hT,h⟩
 refine wpAny_Call_Name_kw (nj I hg hm ?_ hdb)
 refine PySem.W.callWith_K (h₀:=X.base) I.ok.mod.kin F.kp ?_
 refine Calls.spliced_cons (Gr I hT hcode C hB hdef L.fr fun f c' ctv pm cl H1 s1 I1 sm tb fre kp ef nf lf cr sub all=>Calls.spliced_nil ⟨I1.kIn,?_⟩)
 have nfs:f ∉ frs X.stack:=fun z=>by
  obtain⟨_,o,ho,_⟩:=I.stack.mem z
  exact Nat.lt_irrefl _ (Nat.lt_of_lt_of_le (Heap.lt_size ho) lf)
 have LB:Le (XL X.prog X.w) X.prog X.w X.K X.mg X.base k s1 H1 (frs X.stack) f fun H2 Q2 E2=>te E2 (KZ cap σ) H2 Q2:=by
  refine⟨⟨_,_,ef,rfl,nf,nfs⟩,fun A outer s3 H3 Q3 E3 room e3 k1 k2 k3 sp=>?_⟩
  obtain⟨oc,u,vs,t,f1,f2,f3⟩:=cr
  have cr3:s3.heap.CodeRec (.ref c') (X.env.qual++"<lambda>"):=⟨c',oc,vs,t,rfl,(e3.hok c' _ (k3 _ _ _ f1)).1,f2,f3⟩
  have room':gB ((k - 2)+1+1) A:=by rw[hk] at room; exact room
  have cel:∀ y a v,cl.lookup y=some a->s1.heap.IsCell a v->s3.heap.IsCell a v/\H3 a=none:=fun y a v e ⟨o,ho,hd⟩=>by
   obtain⟨⟨sl,e1⟩,e2⟩:=k2 a o ho (I1.freeC y a (sub y a e))
   exact⟨⟨_,e1,hd⟩,e2⟩
  refine Ji (N:=NL) room' e3 (k1 f _ ef nf nfs) cr3 (hla _ _ _ _) L.sc ⟨fun y z a e1 e2=>I.ok.inj y z a (sub y a e1) (sub z a e2),all,fun y a e=>?_,fun i y v e1 e2=>?_,?_⟩ (hp f (.ref c') cl A outer s3 H3 E3 (k - 2) hk ((room'.mono (Nat.le_succ _)).deeper _)) sp
  ·obtain⟨v,z⟩:=I1.cell y a (sub y a e)
   obtain⟨z1,z2⟩:=cel y a v e z
   exact⟨⟨v,z1⟩,z2⟩
  ·unfold KZ at e2
   rw[List.getElem?_map] at e2
   obtain⟨j,hj,hN⟩:=L.at' i y e1
   rw[hj] at e2
   have e4:(σ[j]?).join=some v:=by simpa using e2
   have e5:σ[j]? = some (some v):=by
    cases q:σ[j]? with
    | none=>rw[q] at e4; cases e4
    | some a=>rw[q] at e4; exact congrArg some e4
   have yf:=L.sc.fr y (List.mem_of_getElem? e1)
   have kd:=L.fr (y,.free) (PySem.mem_of_lookup yf) rfl
   obtain⟨m,hn,hl⟩:=I1.loc
   obtain⟨u,r,lk⟩:=hl j y v hN e5 (kd.elim (fun z=>.inr (.inl z)) fun z=>.inr (.inr z))
   obtain⟨a,ha⟩:=all (y,.free) (PySem.mem_of_lookup yf) rfl
   rcases lk with⟨z,_⟩ | ⟨_,a',z1,z2⟩
   ·rcases kd with w | w <;> (rw[w] at z; cases z)
   ·have:=sub y a ha
    rw[z1] at this
    cases this
    exact⟨a,u,ha,(cel y a _ ha z2).1,r⟩
  ·unfold KZ
   rw[List.length_map,L.len]
 have hq:=h f H1 (hR hT sm) tb
 refine wpAny_call (codeAny_mono (Lj (CX:=CX0) (k:=k) (Q:=Q) (E:=E0) F S hr I1.env0 (hb · · · · · · (.ref f)) (vs:=[.ref f]) (us:=[.ref f]) (.cons rfl .nil) rfl fun cdv=>ht f cdv X.A X.stack s1 H1 Q (k - 2+1) _ hk (hr.deeper _) LB hq) fun r s2 z=>?_)
 cases r with
 | error e=>exact False.elim z
 | ok fl =>
  cases fl with
  | ret u=>exact I1.after z
  | next=>exact False.elim z
  | brk=>exact False.elim z
  | cont=>exact False.elim z
theorem G8 (F:Fun X.K x qual st fW fd) (S:aL N [n] (aq st)) (hr:gB (k+1) X.A) (hg:Gl X x) (hm:X.mg x=some (.ref fW)) (L:JC X scope NL cap)
  (hcode:X.env.code = .ref c) (C:W.CodeHd X.base c P) (hB:X.base.BuiltinsAt X.mg P)
  (hp:∀ (f:Addr) (cd:Value) (cl:List (Str × Addr)) (A:Around) (outer:List Env) (s:Shared) (H:Hp) (E:XK) (j:Nat),k=j+2->gB j (A.deeper (W.envX (X.env.qual++"<lambda>") scope s.heap.objs.size f cd cl))->PE (wJ (XL X.prog X.w) X.prog X.w X.K X.mg X.base NL (X.env.qual++"<lambda>") scope f cd cl A outer s H E) body (te E))
  (ht:∀ (f:Addr) (cdv:Value) (A:Around) (outer:List Env) (s:Shared) (H:Hp) (Q:VK) (j:Nat) (sp:Hp->VK->XK->Prop),k=j+1->gB k (A.deeper (envOfC qual (aq st) s.heap.objs.size fW cdv))->Le (XL X.prog X.w) X.prog X.w X.K X.mg X.base k s H (frs outer) f sp->tw f sp Q H →
   ∃ t,PSs (vz CX0 X.prog X.w X.K X.mg X.base N qual (aq st) fW cdv A outer s H E0) (aF st) t/\t { nx:=fun _ H'=>Q .non H',rt:=Q } (start N [.ref f]) H)
  (hdef : autoParam (defaultsOf params X.env=([],[])) L2.az5._auto_1) (hla : autoParam (∀ (pm cd ctv:Value) (cl:List (Str × Addr)),bindArgs (W.kla_fn "<lambda>" (X.env.qual++"<lambda>") params body scope cl pm cd ctv) ⟨[],[]⟩=pure []) L2.az9._auto_1)
  (hb : autoParam (∀ (kV doc pm:Value) (an:Option Addr) (cdv ct:Value) (u:Value),bindArgs (W.fnOf x qual (aK st) (aF st) (aq st) .none kV doc pm an cdv ct) ⟨[u],[]⟩=pure [(n,u)]) L2.az9._auto_1) (hk : autoParam (k=(k - 2)+2) L2.az5._auto_1)
  (hdb : autoParam ((x == ("__debug__" : Str))=false) L2.az2._auto_1):PE X (.Call (.Name x p) [.Lambda params body scope lpos] [] pos) (Ph P (X.env.qual++"<lambda>") cap tw te):=Js (fun h s=>s.t h) F S hr hg hm L hcode C hB hp ht hdef hla hb hk hdb
end
end L2
namespace L2
open PySem PySem.Spec PyProof.Rows
structure yS (mg:Str->Option Value) (c T:Addr) (base:Heap):Prop where
 code:PySem.W.CodeHd base c T
 blt:base.BuiltinsAt mg T
theorem zY {P:Program} {w:World} {K:W.Frag} {mg mb:Str->Option Value} {k:Nat} {fa a c T:Addr} {fd:FuncData} {x q:Str} {sp:Sp} {s1:Shared} {vs:List Value} {ns:List Int}
  (KX:K.In s1.heap) (hG:s1.heap.Ns mainGlobals mg) (hB:s1.heap.Ns builtinsNs mb) (hbb:∀ x:Str,x≠"__name__"->mb x=bootBuiltins x) (hlim:s1.heap.NoLimit) (hg:s1.gens = #[])
  (ha:s1.heap.get? a=some { cls:=.type "list",data:=.seq vs.toArray }) (hi:IntsAre vs ns) (hl:ns.length<=sizeLine) (hr:gB k callerA)
  (hT:s1.heap.get? T=some (W.tabObj #[])) (hC:W.CodeHd s1.heap c T) (hbm:s1.heap.BuiltinsAt mg T) (hno:W.noTabs K=true)
  (F:∀ base:Heap,K.In base->base.Ns mainGlobals mg->yS mg c T base->cu P w K mg base CX0 k fa fd [x] sp) (hbind:∀ (s:Shared) (u:Value),BindsTo s fd ⟨[u],[]⟩ [(x,u)])
  (hsp:∀ H:Hp,TabOk H T q->SqL K H a (ns.map V.int)->sp [.ref a] H (fun v _=>v = .bl true) fun _ _ _=>False) :
  codeAny (model P w) callerA (.call (.ref fa) ⟨[.ref a],[]⟩) (fun r s2=>r = .ok (.ret (.bool true))/\OldK s1.heap s2.heap/\s2.os=s1.os/\AllBare s2.gens) s1:=by
 have aT:a≠T:=fun z=>by
  rw[z,hT] at ha
  cases ha
 have rv:=jL hi
 have nl:=hi.length
 have key:∀ Z:Hp,(∀ b u,Z b=some u->b=a/\u = .frz { cls:=.type "list",data:=.seq vs.toArray } (.lst (ns.map V.int)))->SqL K Z a (ns.map V.int)->(Z a≠none->K.lookup a=none) →
   codeAny (model P w) callerA (.call (.ref fa) ⟨[.ref a],[]⟩) (fun r s2=>r = .ok (.ret (.bool true))/\OldK s1.heap s2.heap/\s2.os=s1.os/\AllBare s2.gens) s1:=by
  intro Z hZ hS hK
  have H1:∀ b,b≠T->upd Z T (.tbl #[]) b=Z b:=fun b n=>aR n
  have hin:∀ {b:Addr} {o:Obj},s1.heap.get? b=some o->b≠T->(Z b=none)->(Fw s1.heap (upd Z T (.tbl #[]))).get? b=some o:=fun e n z=>Gv e ((H1 _ n).trans z)
  have seqOnly:∀ {b:Addr} {o:Obj},s1.heap.get? b=some o->(∀ its n,o.data≠.seq its n)->Z b=none:=fun {b o} e d=>by
   cases z:Z b with
   | none=>rfl
   | some u =>
    obtain⟨rfl,_⟩:=hZ b u z
    rw[ha] at e
    cases e
    exact absurd rfl (d _ _)
  have notT:∀ {b:Addr} {o:Obj},s1.heap.get? b=some o->(∀ vs,o.data≠.fields vs)->b≠T:=fun {b o} e d z=>by
   rw[z,hT] at e
   cases e
   exact d _ rfl
  have nsK:∀ {b:Addr} {m:Str->Option Value},s1.heap.Ns b m->(Fw s1.heap (upd Z T (.tbl #[]))).Ns b m:=fun {b m} ⟨o,es,ep,e,d,r⟩ =>
   ⟨o,es,ep,hin e (notT e fun _ z=>by rw[d] at z; cases z) (seqOnly e fun _ _ z=>by rw[d] at z; cases z),d,r⟩
  have kb:K.In (Fw s1.heap (upd Z T (.tbl #[]))):=fun b o e=>hin (KX b o e) (fun z=>by
   subst z
   have e2:=KX _ _ e
   rw[hT] at e2
   cases e2
   have:=List.all_eq_true.mp hno (_,PySem.W.tabObj #[]) (PySem.W.mem_of_lookupK e)
   exact absurd (show false=true from this) Bool.false_ne_true) (by
   cases z:Z b with
   | none=>rfl
   | some u =>
    obtain⟨rfl,_⟩:=hZ b u z
    rw[hK (by rw[z]; simp)] at e
    cases e)
  have hd:yS mg c T (Fw s1.heap (upd Z T (.tbl #[]))):=by
   obtain⟨o,ws,file,tf,flags,tg,inF,text,tt,e1,e2,e3,e4,r⟩:=hC
   obtain⟨bm,ob,b1,b2,b3,b4,b5,b6,b7,b8⟩:=hbm
   refine⟨⟨o,ws,file,tf,flags,tg,inF,text,tt,hin e1 (fun z=>?_) (seqOnly e1 fun _ _ z=>by rw[e3] at z; cases z),e2,e3,e4,r⟩,⟨bm,ob,b1,b2,b3,b4,hin b5 b4 (seqOnly b5 fun _ _ z=>by rw[b8] at z; cases z),b6,b7,b8⟩⟩
   rw[z,hT] at e1
   cases e1
   cases e2
  have hok:HOk P w (upd Z T (.tbl #[])) s1.heap:=fun b u e=>by
   by_cases hb:b=T
   ·subst hb
    rw[ao] at e
    cases e
    exact hT
   ·rw[aR hb] at e
    obtain⟨rfl,rfl⟩:=hZ b u e
    exact⟨ha,by rw[List.length_map]; exact hl,vs,_,rv,ha⟩
  have e0:zz P w K mg (Fw s1.heap (upd Z T (.tbl #[]))) callerA [] s1 (upd Z T (.tbl #[])) :=
   ⟨rfl,⟨kb,nsK hG,⟨mb,nsK hB,hbb⟩,let ⟨mc,m1,m2⟩:=hlim; ⟨mc,nsK m1,m2⟩⟩,fun b o e=>JS e,Nat.le_of_eq (CV _ _),trivial,(fun b hb=>absurd (show b∈([]:List Addr) from hb) List.not_mem_nil),hok,.of_eq hg⟩
  have hS1:SqL K (upd Z T (.tbl #[])) a (ns.map V.int):=by
   rcases hS with (h | ⟨o,h⟩) | h
   ·exact .inl (.inl ((H1 a aT).trans h))
   ·exact .inl (.inr ⟨o,(H1 a aT).trans h⟩)
   ·exact .inr h
  refine codeAny_mono ((F _ kb (nsK hG) hd).run callerA [] s1 _ ⟨[.ref a],[]⟩ [.ref a] [.ref a] _ _ hr e0 (hbind s1 (.ref a)) (.cons rfl .nil) (hsp _ ⟨#[],ao,trivial,fun pos cv z=>by cases z⟩ hS1)) fun r s2 z=>?_
  cases r with
  | error e=>exact False.elim z
  | ok fl =>
   cases fl with
   | next=>exact False.elim z
   | brk=>exact False.elim z
   | cont=>exact False.elim z
   | ret u =>
    obtain⟨v,H2,os,bare,un,hok2,r2,rfl⟩:=z
    obtain rfl:u=Value.bool true:=r2
    have kept:∀ b o,s1.heap.get? b=some o->b≠T->s2.heap.get? b=some o:=fun b o e n=>by
     cases z:Z b with
     | none=>exact un.keep b o e ((H1 b n).trans z) (fun y=>nomatch y) fun y=>nomatch y
     | some u =>
      have z1:=(H1 b n).trans z
      obtain⟨rfl,rfl⟩:=hZ b u z
      obtain⟨e2,_⟩:=hok2 _ _ (un.frzs _ _ _ z1)
      rw[ha] at e
      cases e
      exact e2
    obtain⟨more,et⟩:=un.tbls T #[] ao
    have gT:s2.heap.get? T=some (PySem.W.tabObj (#[]++more)):=hok2 T _ et
    refine⟨rfl,⟨fun b o e=>?_,fun b o e=>?_⟩,os,bare⟩
    ·by_cases hb:b=T
     ·subst hb
      rw[hT] at e
      cases e
      exact .inr (.inl ⟨(hC.tab hT).isCodeTable,rfl,#[],more,rfl,gT⟩)
     ·exact .inl (kept b o e hb)
    ·by_cases hb:b=T
     ·subst hb
      exact⟨_,gT⟩
     ·exact⟨o,kept b o e hb⟩
 cases hk:K.lookup a with
 | some o =>
  have e:=KX a o hk
  rw[ha] at e
  cases e
  exact key (fun _=>none) (fun b u z=>by cases z) (.inr ⟨_,vs.toArray,_,hk,rfl,rfl,rfl,by rw[List.size_toArray,nl]; exact hl,by simpa using rv⟩) fun z=>absurd rfl z
 | none =>
  exact key (upd (fun _=>none) a (.frz { cls:=.type "list",data:=.seq vs.toArray } (.lst (ns.map V.int)))) (fun b u z=>by
   by_cases hb:b=a
   ·subst hb
    rw[ao] at z
    exact⟨rfl,(Option.some.inj z).symm⟩
   ·rw[aR hb] at z
    cases z) (.inl (.inr ⟨{ cls:=.type "list",data:=.seq vs.toArray },ao⟩)) fun _=>hk
theorem Ek {l:W.OpenLaw} {n k:Nat} {qp:Program} {loose:List Str} {XP:(Str->Option Value)->Heap->Prop} {YP:World->Heap->Prop} {d:DefRec} {K:Params->W.Frag} {sp:World->Sp} {x q:Str} {T:Addr}
  (hn:l.most=some n) (hn2:n<=sizeLine) (hdf:d.params.defaults=[]) (hr:gB k callerA)
  (hY:∀ (w:World) (h:Heap),YP w h->(K w.params).In h/\h.get? T=some (W.tabObj #[])) (hno:∀ w:World,W.noTabs (K w.params)=true)
  (F:∀ (w:World) (mg:Str->Option Value) (fa:Addr) (h:Heap),(K w.params).In h->h.Ns mainGlobals mg->mg d.name=some (.ref fa) →
   ∃ (fd:FuncData) (c:Addr),PySem.W.codeHdIn (K w.params) c T=true/\(∀ (s:Shared) (u:Value),BindsTo s fd ⟨[u],[]⟩ [(x,u)]) ∧
    ∀ base:Heap,(K w.params).In base->base.Ns mainGlobals mg->yS mg c T base->cu l.prog w (K w.params) mg base CX0 k fa fd [x] (sp w))
  (hsp:∀ (w:World) (H:Hp) (a:Addr) (ns:List Int),ns.length<=n->TabOk H T q->SqL (K w.params) H a (ns.map V.int)->sp w [.ref a] H (fun v _=>v = .bl true) fun _ _ _=>False) :
  PySem.W.WalkO qp loose XP YP l.row.toRowW d [] (fun f vs=>PySem.call f vs):=by
 refine Att.vU hn hdf fun w s₀ s₁ mg mb fa o pm cd doc a vs ns G Y ho hd hcd hmg hobj hints hlen hg=>?_
 obtain⟨KX,hT⟩:=hY w _ Y
 obtain⟨fd,c,hc,hb,hF⟩:=F w mg fa _ KX G.T.g hmg
 have hC:=PySem.W.codeHd_of_K KX hc
 have hbm:s₁.heap.BuiltinsAt mg T:=by
  obtain⟨bm,ob,b1,b2,b3,b4,b5,b6⟩:=G.T.bmain
  refine⟨bm,ob,b1,b2,fun z=>?_,fun z=>?_,b3,b4,b5,b6⟩
  ·obtain⟨og,es,ep,e,d,_⟩:=G.T.g
   rw[z,e] at b3
   cases b3
   rw[d] at b6
   cases b6
  ·rw[z,hT] at b3
   cases b3
   cases b4
 exact zY KX G.T.g G.T.b G.T.builtins G.T.nolimit hg hobj hints (Nat.le_trans hlen hn2) hr hT hC hbm (hno w) hF hb fun H h1 h2=>hsp w H a ns hlen h1 h2
end L2
namespace L2
open PySem PySem.Spec PyProof.Rows
structure Dx (P:Program) (w:World) (K:PySem.W.Frag) (mg:Str->Option Value) (base:Heap) (x:Str) (k:Nat) (ps:List Str) (sp:Sp):Prop where
 ex:∃ (f:Addr) (fd:FuncData),cu P w K mg base (XL P w) k f fd ps sp/\mg x=some (.ref f)/\PySem.W.keepIn K (.ref f)=true/\Binds K fd ps []
theorem vp {P:Program} {w:World} {X:Cx}:Passes (XL P w) X E0:=fun _ _ _ _ _ _ _ ⟨_,_,_,_,_,_,_,z⟩=>z.elim
section
variable {X:Cx} {k j:Nat} {x:Str} {ps:List Str} {sp:Sp} {p pos:Pos} {e:Expr} {es:List Expr} {t:TA} {E:XK}
theorem oW (D:Dx X.prog X.w X.K X.mg X.base x k ps sp) (hr:gB j X.A) (hx:Passes (XL X.prog X.w) X E) (ha:PA X (e::es) t) (hk : autoParam (k<=j) L2.az7._auto_1) (hg : autoParam (Gl X x) L2.az5._auto_1)
  (hdb : autoParam ((x == ("__debug__" : Str))=false) L2.az2._auto_1) (he : autoParam (starEach (e::es) X.env=(false,eval e X.env)::starEach es X.env) L2.az5._auto_1) (hpl : autoParam ((backTo pos (starEach es X.env)).any (·.1)=false) L2.az5._auto_1) :
  PE X (.Call (.Name x p) (e::es) [] pos) (Gw sp [] E t):=by
 obtain⟨f,fd,F,hm,hkp,hb⟩:=D.ex
 exact Dl F (hr.mono hk) hg hm hkp hb .nil hx ha hdb he hpl
end
section
variable {P:Program} {w:World} {K:W.Frag} {mg:Str->Option Value} {base:Heap}
theorem Fun.okX {x qual:Str} {st:Stmt} {f:Addr} {fd:FuncData} {N ps:List Str} {k:Nat} {sp:Sp} (F:Fun K x qual st f fd) (S:aL N ps (aq st)) (len:∀ vs H Q E,sp vs H Q E->vs.length=ps.length)
  (hb:∀ (cdv:Value) (A:Around) (outer:List Env) (s:Shared) (H:Hp) (vs:List V) (Q:VK) (E:XK),gB k (A.deeper (envOfC qual (aq st) s.heap.objs.size f cdv))->sp vs H Q E →
   ∃ t,PSs (vz (XL P w) P w K mg base N qual (aq st) f cdv A outer s H E) (aF st) t/\t { nx:=fun _ H2=>Q .non H2,rt:=Q } (start N vs) H):cu P w K mg base (XL P w) (k+1) f fd ps sp:=by
 obtain⟨oc,od,kV,doc,pm,an,cdv,ct,osl,rfl,lk,hc⟩:=F.ex
 exact JF lk hc S len fun A outer s H vs Q E hr hs=>hb cdv A outer s H vs Q E hr hs
end
theorem GF {X:Cx} {scope:Scope} {NL:List Str} {cap:List Nat} (c:pY X scope NL cap) (co : autoParam (scope.isCoroutine=false) L2.az5._auto_1) (gen : autoParam (scope.isGenerator=false) L2.az5._auto_1):JC X scope NL cap :=
 ⟨⟨c.kind,co,gen,c.cell,fun x hx=>let ⟨_,hi⟩:=List.getElem?_of_mem hx; let ⟨_,_,_,z⟩:=c.at' _ x hi; z⟩,c.fr,c.len,fun k x e=>let ⟨i,a,b,_⟩:=c.at' k x e; ⟨i,a,b⟩⟩
structure Nk (K:PySem.W.Frag) (x qual:Str) (st:Stmt) (f:Addr) (fd:FuncData) (c:Addr):Prop where
 ex:∃ (oc:Value) (od:Option Addr) (kV doc pm:Value) (an:Option Addr) (ct:Value) (osl:Array (Option Value)),
  fd=PySem.W.fnOf x qual (aK st) (aF st) (aq st) .none kV doc pm an (.ref c) ct/\K.lookup f=some ⟨oc,od,.func fd,osl⟩/\PySem.W.codeIn K (.ref c) qual=true
theorem Nk.ok {P:Program} {w:World} {K:W.Frag} {mg:Str->Option Value} {base:Heap} {x qual:Str} {st:Stmt} {f c:Addr} {fd:FuncData} {N ps:List Str} {k:Nat} {sp:Sp} (F:Nk K x qual st f fd c) (S:aL N ps (aq st)) (len:∀ vs H Q E,sp vs H Q E->vs.length=ps.length)
  (hb:∀ (A:Around) (outer:List Env) (s:Shared) (H:Hp) (vs:List V) (Q:VK) (E:XK),gB k (A.deeper (envOfC qual (aq st) s.heap.objs.size f (.ref c)))->sp vs H Q E →
   ∃ t,PSs (vz CX0 P w K mg base N qual (aq st) f (.ref c) A outer s H E).nox (aF st) t/\t { nx:=fun _ H2=>Q .non H2,rt:=Q } (start N vs) H):cu P w K mg base CX0 (k+1) f fd ps sp:=by
 obtain⟨oc,od,kV,doc,pm,an,ct,osl,rfl,lk,hc⟩:=F.ex
 refine JF lk hc S len fun A outer s H vs Q E hr hs=>?_
 obtain⟨t,h1,h2⟩:=hb A outer s H vs Q E hr hs
 exact⟨t,h1.nox,h2⟩
end L2
namespace L2
open PySem PySem.Spec PyProof.Rows
end L2
namespace L2
open PySem PySem.Spec PyProof.Rows
noncomputable def TupAt (h:Heap) (p:Addr × List Int):Prop:=∃ its:List Value,IsTup h p.1 its.toArray/\IntsAre its p.2
theorem TupAt.at {h h':Heap} {p:Addr × List Int} (x:TupAt h p) (e:∀ o,h.get? p.1=some o->h'.get? p.1=some o):TupAt h' p :=
 let ⟨its,⟨o,ho,r⟩,i⟩:=x
 ⟨its,⟨o,e o ho,r⟩,i⟩
section
variable {prog:Program} {w:World} {A:Around} {R:Result->Shared->Prop} {E:Value->Shared->Prop} {s:Shared}
end
section
variable {X:Cx} {k:Nat}
end
end L2
namespace L2
open PySem PySem.Spec PyProof.Rows PySem.W
section
variable {prog:Program} {w:World} {A:Around} {E:Value->Shared->Prop} {κ:SortKind} {it:Array Keyed} {s:Shared}
end
section
variable {X:Cx}
end
end L2
namespace L2
open PySem PySem.Spec PyProof.Rows
section
variable {X:Cx} {k:Nat}
end
end L2
namespace L2
open PySem PySem.Spec PyProof.Rows
end L2
namespace L2
open PySem PySem.Spec PyProof.Rows
section
variable {prog:Program} {w:World} {A:Around} {R:Result->Shared->Prop} {E:Value->Shared->Prop} {s:Shared}
end
section
variable {X:Cx}
end
end L2
namespace My
open PySem L2
variable {P:Program} {w:World} {K:W.Frag} {mg:Str->Option Value} {base:Heap} {f:Addr} {fd:FuncData}
noncomputable def top (i:Nat):Stmt:=PySem.Challenge.pw_loveboon_k26_whole_even_givings_joined_a.main.body.getD i (.Pass ⟨0,0,0,0⟩)
theorem aB {H:Hp} {p:Addr} (h:H p=none) (o:HO):aU H (upd H p o):=fun b u q=>by rw[aR (cH q h)]; exact q
theorem aP {H H':Hp} {p:Addr} (s:aU H H') (h:H p=none) (o:HO):aU H (upd H' p o):=fun b u q=>by rw[aR (cH q h)]; exact s b u q
theorem cI {K:W.Frag} {H H':Hp} {a:Addr} {xs:List V} (e:aU H H') (h:SqT K H a xs):SqT K H' a xs:=by
 rcases h with (h | ⟨o,h⟩) | h
 ·exact .inl (.inl (e _ _ h))
 ·exact .inl (.inr ⟨o,e _ _ h⟩)
 ·exact .inr h
theorem Bk {H:Hp} {p:Addr} {o o':HO}:upd (upd H p o) p o'=upd H p o':=by
 funext b
 unfold upd
 by_cases e:b=p
 ·rw[if_pos e,if_pos e]
 ·rw[if_neg e,if_neg e,if_neg e]
theorem small {n:Nat} (h:n<=1000):n<=sizeLine:=Nat.le_of_lt (aN h)
theorem int_at {ns:List Int} {i:Nat} {x:V} (h:(ns.map V.int)[i]? = some x):∃ n,ns[i]? = some n/\x = .int n:=by
 rw[List.getElem?_map] at h
 cases e:ns[i]? with
 | none=>rw[e] at h; cases h
 | some n=>rw[e] at h; exact⟨n,rfl,(Option.some.inj h).symm⟩
theorem qR {α β:Type} (f:α->β) {xs:List α} {i:Nat} {x:α} (h:xs[i]? = some x):(xs.take i).map f++[f x]=(xs.take (i+1)).map f:=by
 rw[List.take_add_one,h,List.map_append]
 rfl
theorem nM {ns:List Int} {i:Nat} (h:i < ns.length):atI (ns.map V.int) (i:Int)=some (.int ns[i]):=iY (by rw[List.getElem?_map,List.getElem?_eq_getElem h]; rfl)
theorem gT {i:Nat} {x:V} {σ:St} {H:Hp} {A B:St->Hp->Prop} (h:A (σ.set i (some x)) H):vW i x σ H (fun σ3 H3=>Dt σ3 H3 (fun b H4=>if b=true then A σ3 H4 else B σ3 H4)):=by
 show if true=true then A (σ.set i (some x)) H else B (σ.set i (some x)) H
 rw[if_pos rfl]
 exact h
theorem aG {H H1:Hp} {p:Addr} {o:HO} (e:upd H p o=H1) (h:H p=none):aU H H1/\H1 p=some o:=by
 subst e
 exact⟨aB h _,ao⟩
theorem aD {xs:List V} {k:Nat} {v:V} (h:xs[k]? = some v):atI xs (k:Int)=some v:=iY h
theorem dI {ns:List Int} {k:Nat} {n:Int} (h:ns[k]? = some n):(ns.map V.int)[k]? = some (.int n):=by rw[List.getElem?_map,h]; rfl
theorem tT {σ:St} {H:Hp} {A B:Hp->Prop} (h:A H):Dt σ H (fun b H4=>if b=true then A H4 else B H4):=by
 show if true=true then A H else B H
 rw[if_pos rfl]
 exact h
theorem tL:∀ ns:List Int,lE (ns.map Dm.int)=0
 | []=>by simp [lE]
 | n::r=>by simp [lE,Dm.dep,tL r]
theorem lX {H:Hp} {a:Addr} {ns:List Int} (h:H a=some (.tup (ns.map V.int))) (l:ns.length<=1000):Rep H (.ref a) (.tup (ns.map Dm.int)):=.tup h (by rw[List.length_map]; lia) (vd ns)
theorem vB (ns:List Int):(Dm.tup (ns.map Dm.int)).dep=1:=by rw[Dm.dep,tL]
noncomputable def vN (i:Nat):V:=.int (i:Int)
theorem nC (c:List Nat):c.map vN=(c.map fun i:Nat=>(i:Int)).map V.int:=by rw[List.map_map]; rfl
theorem sI {c:List Nat} {j:Nat} {x:V} (h:(c.map vN)[j]? = some x):∃ i,c[j]? = some i/\x=vN i:=by
 rw[List.getElem?_map] at h
 cases e:c[j]? with
 | none=>rw[e] at h; cases h
 | some i=>rw[e] at h; exact⟨i,rfl,(Option.some.inj h).symm⟩
theorem cZ {H:Hp} {D:Addr} {zs zs':List V} (h:H D=some (.lst zs)):∀ a xs,H a=some (HO.tup xs)->upd H D (.lst zs') a=some (HO.tup xs):=fun a xs q=>by
 rw[aR (fun z=>by rw[z,h] at q; cases q)]
 exact q
theorem Mq {α:Type} {xs:List α} {v:α} (h:xs[xs.length - 1]? = some v):atI xs (-1)=some v:=by
 have hl:xs.length - 1 < xs.length:=(List.getElem?_eq_some_iff.mp h).1
 have hne:xs≠[]:=fun z=>by rw[z] at hl; exact absurd hl (Nat.lt_irrefl _)
 have e:xs=xs.dropLast++[v]:=by
  rw[← List.getLast?_eq_getElem?,List.getLast?_eq_some_getLast hne] at h
  rw[← Option.some.inj h]
  exact (List.dropLast_concat_getLast hne).symm
 rw[e]
 exact Gi _ _
noncomputable abbrev dM:Stmt:=top 35
theorem bZ:aL ["_law_cell_here","_law_parts","_law_one","_law_two","_law_six","_law_found","_law_part"] ["_law_cell_here","_law_parts"] (aq dM):=⟨rfl,rfl,rfl,by decide+kernel,rfl,by decide+kernel,by decide+kernel⟩
noncomputable def qH (c:Int):Int:=(c * 48271+11) % 2147483647
noncomputable def Ed (c:Int):Int:=(qH c * qH c+40692 * qH c+c) % 2147483399
noncomputable def NB (c:Int):Int:=(Ed c * 16807+qH c) % 1000000007
noncomputable def jW (c:Int):Int:=if decide ((if c < 0 then -c else c) < 10 ^ (18:Int).toNat)=true then Ed c+2147483399 * (NB c+1000000007 * qH c) else (if c < 0 then -c else c) - 10 ^ (18:Int).toNat
noncomputable def vy:Int->List Int->List Int
 | _,[]=>[]
 | c,p::ps=>c % p::vy (c / p) ps
noncomputable def divC:Int->List Int->Int
 | c,[]=>c
 | c,p::ps=>divC (c / p) ps
theorem nG (p:Int):∀ (ps:List Int) (c:Int),vy c (ps++[p])=vy c ps++[divC c ps % p]
 | [],_=>rfl
 | q::ps,c=>by
  show c % q::vy (c / q) (ps++[p])=c % q::(vy (c / q) ps++[divC (c / q) ps % p])
  rw[nG p ps]
theorem jQ (p:Int):∀ (ps:List Int) (c:Int),divC c (ps++[p])=divC c ps / p
 | [],_=>rfl
 | q::ps,c=>jQ p ps (c / q)
theorem dJ:∀ (ps:List Int) (c:Int),(vy c ps).length=ps.length
 | [],_=>rfl
 | _::ps,_=>congrArg Nat.succ (dJ ps _)
theorem bU:∀ {ps:List Int} {c:Int} {i:Nat} {p:Int},(∀ q∈ps,0 < q)->ps[i]? = some p->∃ v,(vy c ps)[i]? = some v/\0<=v/\v < p
 | [],_,_,_,_,h=>by simp at h
 | q::ps,c,0,p,hp,h=>by
  cases (show some q=some p from h)
  exact⟨c % q,rfl,Int.emod_nonneg _ (by have:=hp q List.mem_cons_self; lia),Int.emod_lt_of_pos _ (hp q List.mem_cons_self)⟩
 | q::ps,c,i+1,p,hp,h=>by
  obtain⟨v,e,r⟩:=bU (ps:=ps) (c:=c / q) (i:=i) (fun z hz=>hp z (List.mem_cons_of_mem _ hz)) (by simpa using h)
  exact⟨v,by simpa [vy] using e,r⟩
noncomputable def tO (c:Int) (ps:List Int):List Int:=vy (jW c) ps
theorem Jg (c:Int):0<=qH c/\qH c < 2147483647:=⟨Int.emod_nonneg _ (by decide),Int.emod_lt_of_pos _ (by decide)⟩
theorem Kv (c:Int):0<=Ed c/\Ed c < 2147483399:=⟨Int.emod_nonneg _ (by decide),Int.emod_lt_of_pos _ (by decide)⟩
inductive xm (K:W.Frag) (vs:List V) (H:Hp) (Q:VK):Prop where
 | mk (c:Int) (p:Addr) (ps:List Int) (z0:vs=[.int c,.ref p]) (z1:SqL K H p (ps.map V.int)) (z2:(∀ q∈ps,0 < q/\q < 1073741824)) (z3:ps.length<=1000) (z4:∀ r,H r=none->Q (.ref r) (upd H r (.lst ((tO c ps).map V.int)))):xm K vs H Q
noncomputable def jc (K:W.Frag):Sp:=fun vs H Q _=>xm K vs H Q
theorem uP (F:Fun K "_law_draws" "_law_draws" dM f fd) (B:Bt mg) :
  cu P w K mg base CX0 1 f fd ["_law_cell_here","_law_parts"] (jc K):=by
 refine F.ok bZ (fun vs H Q E h=>?_) (fun cdv A outer s H vs Q E hr h=>?_)
 ·obtain⟨c,p,ps,rfl,_⟩:=h
  rfl
 ·obtain⟨c,p,ps,rfl,hS,hp,hl,q⟩:=h
  refine⟨_,(aA (bV (aX Ba (aM jF rfl B.abs_ uW (aa (pv 0) aj)) (aQ m5 au au) (aZ _)) (aA (bu (i:=2) bZ.nd rfl (Or.inl rfl) (aQ cN (aQ bL (aQ iG (pv 0) au) au) au))
 (aA (bu (i:=3) bZ.nd rfl (Or.inl rfl) (aQ cN (aQ bL (aQ bL (aQ iG (pv 2) (pv 2)) (aQ iG au (pv 2))) (pv 0)) au))
 (aA (bu (i:=4) bZ.nd rfl (Or.inl rfl) (aQ cN (aQ bL (aQ iG (pv 3) au) (pv 2)) au))
 (aC (bu (i:=0) bZ.nd rfl (Or.inl rfl) (aQ bL (pv 3) (aQ iG au (aQ bL (pv 4) (aQ iG au (pv 2)))))))))) (aC (bu (i:=0) bZ.nd rfl (Or.inl rfl) (aQ nW (aM jF rfl B.abs_ uW (aa (pv 0) aj)) (aQ m5 au au)))))
 (aA (bu (i:=5) bZ.nd rfl (Or.inl rfl) (bQ aj))
 (aA (gG PassesOwn.never rfl (eN (pv 1)) (aH (i:=6) bZ.nd rfl (Or.inl rfl)) (aA (cW (uR PySem.F.plainAttrs_list PySem.F.slot_list_append PySem.F.type_list_append dB (pv 5) (aa (aQ cN (pv 0) (pv 6)) aj)))
 (aC (bu (i:=0) bZ.nd rfl (Or.inl rfl) (aQ rF (pv 0) (pv 6))))))
 (aC (aJ (pv 5)))))),?_⟩
  have b1:=Jg c
  have b2:=Kv c
  refine⟨_,rfl,_,rfl,_,_,rfl,rfl,⟨by decide,by decide,by decide⟩,_,_,rfl,rfl,_,rfl,?_⟩
  refine vg (fun h=>?_) (fun h=>?_)
  ·refine⟨_,rfl,_,_,rfl,rfl,.inr ⟨by decide,by decide⟩,_,_,rfl,rfl,_,_,rfl,rfl,(by show (0:Int) < 2147483647; decide),?_⟩
   refine⟨_,rfl,_,rfl,_,_,rfl,rfl,.inl (show -(2 ^ 64) < qH c/\qH c < 2 ^ 64 from ⟨by lia,by lia⟩),_,rfl,_,_,rfl,rfl,.inl ⟨by decide,by decide⟩,_,_,rfl,rfl,_,rfl,_,_,rfl,rfl,_,_,rfl,rfl,(by show (0:Int) < 2147483399; decide),?_⟩
   refine⟨_,rfl,_,_,rfl,rfl,.inr ⟨by decide,by decide⟩,_,rfl,_,_,rfl,rfl,_,_,rfl,rfl,(by show (0:Int) < 1000000007; decide),?_⟩
   refine⟨_,rfl,_,rfl,_,rfl,_,_,rfl,rfl,.inl ⟨by decide,by decide⟩,_,_,rfl,rfl,_,_,rfl,rfl,.inl ⟨by decide,by decide⟩,_,_,rfl,rfl,?_⟩
   refine⟨small (Nat.zero_le _),fun r hr0=>?_⟩
   refine⟨_,rfl,p,rfl,⟨_,(aB hr0 _).seq hS⟩,rA (K:=K) (a:=p) (xs:=ps.map V.int) (fun i σ H2=>∃ (z:Int) (o t u v:Option V),z=divC (jW c) (ps.take i)/\σ=[some (.int z),some (.ref p),o,t,u,some (.ref r),v] ∧
    H2=upd H r (.lst ((vy (jW c) (ps.take i)).map V.int))) ⟨_,_,_,_,_,(if_pos h).symm,rfl,rfl⟩ ?_ ?_ ?_⟩
   ·rintro i σ H2 hi ⟨z,o,t,u,v,_,_,e⟩
    subst e
    exact (aB hr0 _).seq hS
   ·rintro i x σ H2 hx ⟨z,o,t,u,v,ez,rfl,rfl⟩
    obtain⟨d,hd,rfl⟩:=int_at hx
    obtain⟨h1,h2⟩:=hp d (List.mem_of_getElem? hd)
    have et:ps.take (i+1)=ps.take i++[d]:=by rw[List.take_add_one,hd]; rfl
    refine⟨_,rfl,.inl ⟨rfl,_,SqL.of ao⟩,_,rfl,_,rfl,_,_,rfl,rfl,h1,r,_,_,rfl,rfl,ao,?_,_,rfl,_,rfl,_,_,rfl,rfl,⟨h1,h2⟩,_,_,_,_,_,?_,rfl,?_⟩
    ·rw[List.length_map,dJ,List.length_take]
     exact aN (by lia)
    ·rw[et,jQ,ez]
    ·rw[Bk,et,nG,List.map_append,ez]
     rfl
   ·rintro σ H2 ⟨z,o,t,u,v,_,rfl,rfl⟩
    refine⟨_,rfl,?_⟩
    have q':=q r hr0
    rw[List.length_map,List.take_length]
    exact q'
  ·refine⟨_,rfl,_,rfl,_,_,rfl,rfl,⟨by decide,by decide,by decide⟩,_,_,rfl,rfl,?_⟩
   refine⟨small (Nat.zero_le _),fun r hr0=>?_⟩
   refine⟨_,rfl,p,rfl,⟨_,(aB hr0 _).seq hS⟩,rA (K:=K) (a:=p) (xs:=ps.map V.int) (fun i σ H2=>∃ (z:Int) (o t u v:Option V),z=divC (jW c) (ps.take i)/\σ=[some (.int z),some (.ref p),o,t,u,some (.ref r),v] ∧
    H2=upd H r (.lst ((vy (jW c) (ps.take i)).map V.int))) ⟨_,_,_,_,_,(if_neg h).symm,rfl,rfl⟩ ?_ ?_ ?_⟩
   ·rintro i σ H2 hi ⟨z,o,t,u,v,_,_,e⟩
    subst e
    exact (aB hr0 _).seq hS
   ·rintro i x σ H2 hx ⟨z,o,t,u,v,ez,rfl,rfl⟩
    obtain⟨d,hd,rfl⟩:=int_at hx
    obtain⟨h1,h2⟩:=hp d (List.mem_of_getElem? hd)
    have et:ps.take (i+1)=ps.take i++[d]:=by rw[List.take_add_one,hd]; rfl
    refine⟨_,rfl,.inl ⟨rfl,_,SqL.of ao⟩,_,rfl,_,rfl,_,_,rfl,rfl,h1,r,_,_,rfl,rfl,ao,?_,_,rfl,_,rfl,_,_,rfl,rfl,⟨h1,h2⟩,_,_,_,_,_,?_,rfl,?_⟩
    ·rw[List.length_map,dJ,List.length_take]
     exact aN (by lia)
    ·rw[et,jQ,ez]
    ·rw[Bk,et,nG,List.map_append,ez]
     rfl
   ·rintro σ H2 ⟨z,o,t,u,v,_,rfl,rfl⟩
    refine⟨_,rfl,?_⟩
    have q':=q r hr0
    rw[List.length_map,List.take_length]
    exact q'
noncomputable abbrev fH:Stmt:=top 34
theorem wg:aL ["_law_script","_law_k"] ["_law_script","_law_k"] (aq fH):=⟨rfl,rfl,rfl,by decide+kernel,rfl,by decide+kernel,by decide+kernel⟩
inductive BX (K:W.Frag) (vs:List V) (H:Hp) (Q:VK):Prop where
 | mk (a:Addr) (ns:List Int) (k:Nat) (z0:vs=[.ref a,.int (k:Int)]) (z1:SqL K H a (ns.map V.int)) (z2:Q (.int (ns.getD k 0)) H):BX K vs H Q
noncomputable def uA (K:W.Frag):Sp:=fun vs H Q _=>BX K vs H Q
theorem vP (F:Fun K "_law_cell" "_law_cell" fH f fd) (B:Bt mg) :
  cu P w K mg base CX0 1 f fd ["_law_script","_law_k"] (uA K):=by
 refine F.ok wg (fun vs H Q E h=>?_) (fun cdv A outer s H vs Q E hr h=>?_)
 ·obtain⟨a,ns,k,rfl,_⟩:=h
  rfl
 ·obtain⟨a,ns,k,rfl,hS,q⟩:=h
  refine⟨_,(aA (bV (aX Ba (pv 1) (aM (r:=yx K) cj rfl B.len_ ie (aa (pv 0) aj)) (aZ _)) (aC (aJ (aV (r:=eU K) aO (pv 0) (pv 1) (fun _ _=>rfl)))) aW)
 (aC (aJ au))),?_⟩
  refine⟨_,rfl,_,rfl,a,_,rfl,.inl hS,_,_,rfl,rfl,_,rfl,?_⟩
  have el:(((ns.map V.int).length:Nat):Int)=(ns.length:Int):=by rw[List.length_map]
  rw[el]
  refine vg (fun c=>?_) (fun c=>?_)
  ·have c':(k:Int) < (ns.length:Int):=of_decide_eq_true c
   have hk:k < ns.length:=by lia
   refine⟨_,rfl,_,rfl,a,_,_,_,rfl,rfl,hS,nM hk,?_⟩
   rw[List.getD_eq_getElem?_getD,List.getElem?_eq_getElem hk] at q
   exact q
  ·have c':¬ (k:Int) < (ns.length:Int):=fun z=>c (decide_eq_true z)
   have hk:ns.length<=k:=by lia
   rw[List.getD_eq_getElem?_getD,List.getElem?_eq_none hk] at q
   exact q
noncomputable abbrev dm:Stmt:=top 44
theorem qU:aL ["_law_cell_here","_law_n","_law_most"] ["_law_cell_here","_law_n","_law_most"] (aq dm):=⟨rfl,rfl,rfl,by decide+kernel,rfl,by decide+kernel,by decide+kernel⟩
noncomputable def MJ (c:Int) (n:Nat) (m:Int):List Int:=tO c (List.replicate n (m+1))
theorem jA (c:Int) (n:Nat) (m:Int):(MJ c n m).length=n:=by
 unfold MJ tO
 rw[dJ,List.length_replicate]
theorem Ea {c:Int} {n:Nat} {m:Int} (hm:0<=m) {i:Nat} (hi:i < n):∃ v,(MJ c n m)[i]? = some v/\0<=v/\v<=m:=by
 obtain⟨v,e,b1,b2⟩:=bU (ps:=List.replicate n (m+1)) (c:=jW c) (i:=i) (p:=m+1) (fun q hq=>by rw[List.mem_replicate] at hq; lia) (by rw[List.getElem?_replicate,if_pos hi])
 exact⟨v,e,b1,by lia⟩
inductive uI (vs:List V) (H:Hp) (Q:VK):Prop where
 | mk (c:Int) (n:Nat) (m:Int) (z0:vs=[.int c,.int (n:Int),.int m]) (z1:n<=1000) (z2:0<=m) (z3:m<=1000000) (z4:∀ (r:Addr) (H':Hp),aU H H'->H r=none->H' r=some (.tup ((MJ c n m).map V.int))->Q (.ref r) H'):uI  vs H Q
noncomputable def rZ:Sp:=fun vs H Q _=>uI  vs H Q
theorem lV (z:Int) (n:Nat):(List.replicate n [V.int z]).flatten=(List.replicate n z).map V.int:=by
 induction n with
 | zero=>rfl
 | succ n ih=>rw[List.replicate_succ,List.flatten_cons,ih,List.replicate_succ]; rfl
theorem qy (F:Fun K "_law_giving" "_law_giving" dm f fd) (B:Bt mg)
  (D_law_draws:Df P w K mg base "_law_draws" 1 ["_law_cell_here","_law_parts"] (jc K)):cu P w K mg base CX0 2 f fd ["_law_cell_here","_law_n","_law_most"] rZ:=by
 refine F.ok qU (fun vs H Q E h=>?_) (fun cdv A outer s H vs Q E hr h=>?_)
 ·obtain⟨c,n,m,rfl,_⟩:=h
  rfl
 ·obtain⟨c,n,m,rfl,hn,h0,h1,q⟩:=h
  refine⟨_,(aC (aJ (bM (r:=gJ K) bH rfl B.tuple_ cA (aa (aY D_law_draws hr (aa (pv 0) (aa (aQ HQ (bQ (aa (aQ bL (pv 2) au) aj)) (pv 1)) aj))) aj)))),?_⟩
  refine⟨_,rfl,_,rfl,_,_,rfl,rfl,small (by show 1<=1000; decide),fun p1 h1'=>?_⟩
  generalize eH1:upd H p1 _=H1
  obtain⟨g1,e1⟩:=aG eH1 h1'
  have et:((n:Int)).toNat=n:=Int.toNat_natCast n
  refine⟨_,rfl,p1,_,_,rfl,rfl,e1,by lia,by lia,?_,fun p2 h2=>?_⟩
  ·rw[et]
   show 1 * n<=sizeLine
   exact small (by lia)
  rw[et,lV]
  generalize eH2:upd H1 p2 _=H2
  obtain⟨g2,e2⟩:=aG eH2 h2
  refine⟨c,p2,List.replicate n (m+1),rfl,SqL.of e2,fun z hz=>?_,?_,fun p3 h3=>?_⟩
  ·rw[List.mem_replicate] at hz
   lia
  ·rw[List.length_replicate]
   exact hn
  generalize eH3:upd H2 p3 _=H3
  obtain⟨g3,e3⟩:=aG eH3 h3
  refine⟨p3,_,rfl,.inl ⟨SqL.of e3,fun p4 h4=>?_⟩⟩
  exact q p4 _ (g1.trans (g2.trans (g3.trans (aB h4 _)))) ((g1.trans (g2.trans g3)).free h4) ao
noncomputable abbrev fJ:Stmt:=top 36
theorem vG:aL ["_law_found","_law_due_here"] ["_law_found","_law_due_here"] (aq fJ):=⟨rfl,rfl,rfl,by decide+kernel,rfl,by decide+kernel,by decide+kernel⟩
inductive Ab (n:Nat) (vs:List V) (H:Hp) (Q:VK):Prop where
 | mk (x y:V) (d:Dm) (z0:vs=[x,y]) (z1:Rep H x d) (z2:Rep H y d) (z3:d.dep < n) (z4:∀ H',aU H H'->Q (.bl true) H'):Ab n vs H Q
noncomputable def jq (n:Nat):Sp:=fun vs H Q _=>Ab n vs H Q
theorem Oa {x:V}:decide (x=x)=true:=decide_eq_true rfl
theorem yh (n:Nat):(List.replicate n true).all (fun b=>b)=true:=by
 induction n with
 | zero=>rfl
 | succ n ih=>rw[List.replicate_succ,List.all_cons,ih]; rfl
theorem yC (n:Nat):(List.replicate n true).map V.bl=List.replicate n (V.bl true):=List.map_replicate
theorem iI {n:Nat} (F:Fun K "_law_same" "_law_same" fJ f fd) (B:Bt mg)
  (D_law_same:Df P w K mg base "_law_same" n ["_law_found","_law_due_here"] (jq n)):cu P w K mg base CX0 (n+1) f fd ["_law_found","_law_due_here"] (jq (n+1)):=by
 refine F.ok vG (fun vs H Q E h=>?_) (fun cdv A outer s H vs Q E hr h=>?_)
 ·obtain⟨x,y,d,rfl,_⟩:=h
  rfl
 ·obtain⟨x,y,d,rfl,rx,ry,hd,q⟩:=h
  refine⟨_,(aA (bV (Lh (Ib (pv 1))) (aC (aJ (Mi (Ib (pv 0))))) aW)
 (aA (bV (dG (aM (r:=Av K) eE rfl B.isinstance_ bJ (aa (pv 1) (aa (oV B.str_ GJ) aj)))) (aC (aJ (ux (aM (r:=Av K) eE rfl B.isinstance_ bJ (aa (pv 0) (aa (oV B.str_ GJ) aj))) (tW (cM fc (pv 0) (pv 1) (aZ _)))))) aW)
 (aA (bV (dG (aM (r:=Av K) eE rfl B.isinstance_ bJ (aa (pv 1) (aa (oV B.int_ xR) aj)))) (aC (aJ (ux (aM (r:=Av K) eE rfl B.isinstance_ bJ (aa (pv 0) (aa (oV B.int_ xR) aj))) (ux (cM fc (aM (r:=Av K) eE rfl B.isinstance_ bJ (aa (pv 0) (aa (oV B.bool_ Ds) aj))) (aM (r:=Av K) eE rfl B.isinstance_ bJ (aa (pv 1) (aa (oV B.bool_ Ds) aj))) (aZ _)) (tW (cM fc (pv 0) (pv 1) (aZ _))))))) aW)
 (aA (bV (PW.pt (N7 (aX KY (aM (r:=Av K) eE rfl B.isinstance_ bJ (aa (pv 1) (aa (oV B.list_ wG) aj))) (aM (r:=Av K) eE rfl B.isinstance_ bJ (aa (pv 0) (aa (oV B.list_ wG) aj))) (aZ _)) (Mh (aX KY (aM (r:=Av K) eE rfl B.isinstance_ bJ (aa (pv 1) (aa (oV B.tuple_ cA) aj))) (aM (r:=Av K) eE rfl B.isinstance_ bJ (aa (pv 0) (aa (oV B.tuple_ cA) aj))) (aZ _))))) (aC (aJ j5)) aW)
 (aC (aJ (ux (cM fc (aM (r:=yx K) cj rfl B.len_ ie (aa (pv 0) aj)) (aM (r:=yx K) cj rfl B.len_ ie (aa (pv 1) aj)) (aZ _)) (tW (aM (r:=zc K) (iU rfl) rfl B.all_ uJ (aa (bD (L:=["_law_k"]) (F:=["_law_found","_law_due_here"]) (cap:=[0,1]) rfl (bh rfl rfl (by kernel_rfl)) (cD rfl B.range_ (aa (aM (r:=yx K) cj rfl B.len_ ie (aa (pv 1) aj)) aj)) (fun _ _ _ _ _=>(aH (i:=0) (bc (by decide+kernel)) rfl (Or.inl rfl))) (fun _ _ _ _ _=>bC) (fun _ _ _ _ _=>(aY D_law_same hr (aa (aV (r:=rIx K) Ie (pv 1) (pv 0) (fun _ _=>rfl)) (aa (aV (r:=rIx K) Ie (pv 2) (pv 0) (fun _ _=>rfl)) aj))))) aj)))))))))),?_⟩
  cases rx with
  | non =>
   cases ry
   refine⟨_,rfl,_,rfl,oZ ?_⟩
   exact⟨_,rfl,q H (aU.refl H)⟩
  | bl b =>
   cases ry
   refine⟨_,rfl,_,rfl,jx ?_⟩
   refine⟨_,rfl,_,_,_,_,rfl,.bl b,wk _,_,rfl,jx ?_⟩
   refine⟨_,rfl,_,_,_,_,rfl,.bl b,mY _,_,rfl,oZ ?_⟩
   refine⟨_,rfl,_,_,_,_,rfl,.bl b,mY _,_,rfl,oZ ?_⟩
   refine⟨_,rfl,_,_,_,_,rfl,.bl b,oM _ _,_,rfl,_,_,_,_,rfl,.bl b,oM _ _,rfl,_,rfl,oZ ?_⟩
   refine⟨_,rfl,_,rfl,rfl,?_⟩
   have q':=q H (aU.refl H)
   rw[← Oa (x:=V.bl b)] at q'
   exact q'
  | int i =>
   cases ry
   refine⟨_,rfl,_,rfl,jx ?_⟩
   refine⟨_,rfl,_,_,_,_,rfl,.int i,za _,_,rfl,jx ?_⟩
   refine⟨_,rfl,_,_,_,_,rfl,.int i,oM _ _,_,rfl,oZ ?_⟩
   refine⟨_,rfl,_,_,_,_,rfl,.int i,oM _ _,_,rfl,oZ ?_⟩
   refine⟨_,rfl,_,_,_,_,rfl,.int i,nu _,_,rfl,_,_,_,_,rfl,.int i,nu _,rfl,_,rfl,oZ ?_⟩
   refine⟨_,rfl,_,rfl,rfl,?_⟩
   have q':=q H (aU.refl H)
   rw[← Oa (x:=V.int i)] at q'
   exact q'
  | str z =>
   cases ry
   refine⟨_,rfl,_,rfl,jx ?_⟩
   refine⟨_,rfl,_,_,_,_,rfl,.str z,oM _ _,_,rfl,oZ ?_⟩
   refine⟨_,rfl,_,_,_,_,rfl,.str z,oM _ _,_,rfl,oZ ?_⟩
   refine⟨_,rfl,_,rfl,rfl,?_⟩
   have q':=q H (aU.refl H)
   rw[← Oa (x:=V.str z)] at q'
   exact q'
  | @tup a xs ds ha la ra =>
   cases ry with
   | @tup b ys _ hb lb rb =>
    have ex:=ra.length
    have ey:=rb.length
    have hdl:lE ds < n:=by
     have hd':lE ds+1 < n+1:=by rw[Dm.dep] at hd; exact hd
     lia
    refine⟨_,rfl,_,rfl,jx ?_⟩
    refine⟨_,rfl,_,_,_,_,rfl,.tup hb,sY _,_,rfl,jx ?_⟩
    refine⟨_,rfl,_,_,_,_,rfl,.tup hb,tD _,_,rfl,jx ?_⟩
    refine⟨_,rfl,_,_,_,_,rfl,.tup hb,jT _,_,rfl,_,_,_,_,rfl,.tup ha,jT _,rfl,_,rfl,jx ?_⟩
    refine⟨_,rfl,_,_,_,_,rfl,.tup hb,oM _ _,_,rfl,_,_,_,_,rfl,.tup ha,oM _ _,rfl,_,rfl,jx ?_⟩
    refine⟨_,rfl,a,_,rfl,.inr (SqT.of ha),_,rfl,b,_,rfl,.inr (SqT.of hb),rfl,_,rfl,?_⟩
    have ec:decide (V.int (xs.length:Int)=V.int (ys.length:Int))=true:=decide_eq_true (by rw[ex,ey])
    rw[ec]
    refine oZ ?_
    refine⟨_,rfl,b,_,rfl,.inr (SqT.of hb),_,rfl,by lia,by lia,fun D hD=>cF (lo:=0) (n:=ys.length) (fun i zs σ' H2=>(∃ v,σ'=[v,some (.ref a),some (.ref b)])/\zs=List.replicate i (V.bl true)/\aU H H2/\H2 D=some (.lst zs))
     ⟨⟨_,rfl⟩,rfl,aB hD _,ao⟩ (fun i zs σ' H2 _ h=>h.2.2.2) ?_ ?_⟩
    ·rintro i zs σ' H2 hi ⟨⟨v,rfl⟩,rfl,sm,hDl⟩
     obtain⟨v1,d1,e1,e2,r1⟩:=ra.get (i:=i) (by lia)
     obtain⟨v2,d2,e3,e4,r2⟩:=rb.get (i:=i) hi
     rw[e2] at e4
     cases e4
     have at1:atI xs (0+(i:Int))=some v1:=by rw[Int.zero_add]; exact iY e1
     have at2:atI ys (0+(i:Int))=some v2:=by rw[Int.zero_add]; exact iY e3
     refine gT ?_
     refine⟨_,rfl,_,rfl,.inr (.inl ⟨a,xs,_,v1,rfl,rfl,SqT.of (sm _ _ ha),at1,_,rfl,_,rfl,.inr (.inl ⟨b,ys,_,v2,rfl,rfl,SqT.of (sm _ _ hb),at2,v1,v2,d1,rfl,r1.mono sm,r2.mono sm,?_,fun H3 s3=>⟨s3 _ _ hDl,?_,⟨_,rfl⟩,?_,aP (sm.trans s3) hD _,ao⟩⟩)⟩)⟩
     ·exact Nat.lt_of_le_of_lt (lW e2) hdl
     ·rw[List.length_replicate]
      exact Nat.lt_of_lt_of_le (show i < 100000 by lia) (by decide)
     ·rw[List.replicate_succ']
    ·rintro zs σ' H2 ⟨_,rfl,sm,hDl⟩
     refine⟨D,List.replicate ys.length true,rfl,SqL.of (by rw[hDl,yC]),?_⟩
     rw[yh]
     exact q _ sm
  | @lst a xs ds ha la ra =>
   cases ry with
   | @lst b ys _ hb lb rb =>
    have ex:=ra.length
    have ey:=rb.length
    have hdl:lE ds < n:=by
     have hd':lE ds+1 < n+1:=by rw[Dm.dep] at hd; exact hd
     lia
    refine⟨_,rfl,_,rfl,jx ?_⟩
    refine⟨_,rfl,_,_,_,_,rfl,.lst hb,wL _,_,rfl,jx ?_⟩
    refine⟨_,rfl,_,_,_,_,rfl,.lst hb,vX _,_,rfl,jx ?_⟩
    refine⟨_,rfl,_,_,_,_,rfl,.lst hb,oM _ _,_,rfl,_,_,_,_,rfl,.lst ha,oM _ _,rfl,_,rfl,jx ?_⟩
    refine⟨_,rfl,_,_,_,_,rfl,.lst hb,jE _,_,rfl,_,_,_,_,rfl,.lst ha,jE _,rfl,_,rfl,jx ?_⟩
    refine⟨_,rfl,a,_,rfl,.inl (SqL.of ha),_,rfl,b,_,rfl,.inl (SqL.of hb),rfl,_,rfl,?_⟩
    have ec:decide (V.int (xs.length:Int)=V.int (ys.length:Int))=true:=decide_eq_true (by rw[ex,ey])
    rw[ec]
    refine oZ ?_
    refine⟨_,rfl,b,_,rfl,.inl (SqL.of hb),_,rfl,by lia,by lia,fun D hD=>cF (lo:=0) (n:=ys.length) (fun i zs σ' H2=>(∃ v,σ'=[v,some (.ref a),some (.ref b)])/\zs=List.replicate i (V.bl true)/\aU H H2/\H2 D=some (.lst zs))
     ⟨⟨_,rfl⟩,rfl,aB hD _,ao⟩ (fun i zs σ' H2 _ h=>h.2.2.2) ?_ ?_⟩
    ·rintro i zs σ' H2 hi ⟨⟨v,rfl⟩,rfl,sm,hDl⟩
     obtain⟨v1,d1,e1,e2,r1⟩:=ra.get (i:=i) (by lia)
     obtain⟨v2,d2,e3,e4,r2⟩:=rb.get (i:=i) hi
     rw[e2] at e4
     cases e4
     have at1:atI xs (0+(i:Int))=some v1:=by rw[Int.zero_add]; exact iY e1
     have at2:atI ys (0+(i:Int))=some v2:=by rw[Int.zero_add]; exact iY e3
     refine gT ?_
     refine⟨_,rfl,_,rfl,.inl ( ⟨a,xs,_,v1,rfl,rfl,SqL.of (sm _ _ ha),at1,_,rfl,_,rfl,.inl ( ⟨b,ys,_,v2,rfl,rfl,SqL.of (sm _ _ hb),at2,v1,v2,d1,rfl,r1.mono sm,r2.mono sm,?_,fun H3 s3=>⟨s3 _ _ hDl,?_,⟨_,rfl⟩,?_,aP (sm.trans s3) hD _,ao⟩⟩)⟩)⟩
     ·exact Nat.lt_of_le_of_lt (lW e2) hdl
     ·rw[List.length_replicate]
      exact Nat.lt_of_lt_of_le (show i < 100000 by lia) (by decide)
     ·rw[List.replicate_succ']
    ·rintro zs σ' H2 ⟨_,rfl,sm,hDl⟩
     refine⟨D,List.replicate ys.length true,rfl,SqL.of (by rw[hDl,yC]),?_⟩
     rw[yh]
     exact q _ sm
theorem same_none:cu P w K mg base CX0 0 f fd ["_law_found","_law_due_here"] (jq 0):=by
 have no:∀ vs H Q E,¬ jq 0 vs H Q E:=fun vs H Q E h=>by
  obtain⟨x,y,d,_,_,_,h1,_⟩:=h
  lia
 exact⟨fun vs H Q E h=>absurd h (no vs H Q E),fun A outer s H args us vs Q E _ _ _ _ h=>absurd h (no vs H Q E)⟩
noncomputable abbrev dR:Stmt:=top 37
theorem gO:aL ["_law_cell_here","_law_k","_law_rest","_law_turn"] ["_law_cell_here","_law_k"] (aq dR):=⟨rfl,rfl,rfl,by decide+kernel,rfl,by decide+kernel,by decide+kernel⟩
noncomputable def JQ (c:Int) (k:Nat):Int:=if decide ((if c < 0 then -c else c) < 10 ^ (18:Int).toNat)=true then (c * 48271+7919 * (k:Int)+13) % 2147483647 else 10 ^ (18:Int).toNat+divC ((if c < 0 then -c else c) - 10 ^ (18:Int).toNat) (List.replicate (k+1) (10 ^ (9:Int).toNat))
inductive xT (vs:List V) (H:Hp) (Q:VK):Prop where
 | mk (c:Int) (k:Nat) (z0:vs=[.int c,.int (k:Int)]) (z1:k<=1000) (z2:Q (.int (JQ c k)) H):xT  vs H Q
noncomputable def mR:Sp:=fun vs H Q _=>xT  vs H Q
theorem tH (F:Fun K "_law_under" "_law_under" dR f fd) (B:Bt mg) :
  cu P w K mg base CX0 1 f fd ["_law_cell_here","_law_k"] mR:=by
 refine F.ok gO (fun vs H Q E h=>?_) (fun cdv A outer s H vs Q E hr h=>?_)
 ·obtain⟨c,k,rfl,_⟩:=h
  rfl
 ·obtain⟨c,k,rfl,hk,q⟩:=h
  refine⟨_,(aA (bV (aX Ba (aM jF rfl B.abs_ uW (aa (pv 0) aj)) (aQ m5 au au) (aZ _)) (aC (aJ (aQ cN (aQ bL (aQ bL (aQ iG (pv 0) au) (aQ iG au (pv 1))) au) au))) aW)
 (aA (bu (i:=2) gO.nd rfl (Or.inl rfl) (aQ nW (aM jF rfl B.abs_ uW (aa (pv 0) aj)) (aQ m5 au au)))
 (aA (gG PassesOwn.never rfl (cD rfl B.range_ (aa (aQ bL (pv 1) au) aj)) (aH (i:=3) gO.nd rfl (Or.inl rfl)) (aC (bu (i:=2) gO.nd rfl (Or.inl rfl) (aQ rF (pv 2) (aQ m5 au au)))))
 (aC (aJ (aQ bL (aQ m5 au au) (pv 2))))))),?_⟩
  refine⟨_,rfl,_,rfl,_,_,rfl,rfl,⟨by decide,by decide,by decide⟩,_,_,rfl,rfl,_,rfl,?_⟩
  refine vg (fun h=>?_) (fun h=>?_)
  ·refine⟨_,rfl,_,_,rfl,rfl,.inr ⟨by decide,by decide⟩,_,rfl,_,_,rfl,rfl,.inl ⟨by decide,by decide⟩,_,_,rfl,rfl,_,_,rfl,rfl,_,_,rfl,rfl,(by show (0:Int) < 2147483647; decide),?_⟩
   unfold JQ at q
   rw[if_pos h] at q
   exact q
  ·unfold JQ at q
   rw[if_neg h] at q
   refine⟨_,rfl,_,rfl,_,_,rfl,rfl,⟨by decide,by decide,by decide⟩,_,_,rfl,rfl,?_⟩
   have ek:((k:Int)+1).toNat=k+1:=by lia
   refine⟨_,rfl,_,_,rfl,rfl,_,rfl,by lia,by lia,mO (lo:=0) (n:=((k:Int)+1).toNat) (fun i σ H2=>(∃ t:Option V,σ=[some (.int c),some (.int (k:Int)),some (.int (divC ((if c < 0 then -c else c) - 10 ^ (18:Int).toNat) (List.replicate i (10 ^ (9:Int).toNat)))),t])/\H2=H) ⟨⟨_,rfl⟩,rfl⟩ ?_ ?_⟩
   ·rintro i σ H2 hi ⟨⟨t,rfl⟩,rfl⟩
    refine⟨_,rfl,_,_,rfl,rfl,⟨by decide,by decide,by decide⟩,_,_,rfl,rfl,⟨by show (0:Int) < 10 ^ 9; decide,by show (10 ^ 9:Int) < 1073741824; decide⟩,⟨some (.int (0+(i:Int))),?_⟩,rfl⟩
    rw[List.replicate_succ',jQ]
    rfl
   ·rintro σ H2 ⟨⟨t,rfl⟩,rfl⟩
    refine⟨_,_,rfl,rfl,⟨by decide,by decide,by decide⟩,_,rfl,_,_,rfl,rfl,?_⟩
    rw[ek]
    exact q
noncomputable abbrev dX:Stmt:=top 38
theorem gK:aL ["_law_number","_law_n","_law_found","_law_one"] ["_law_number","_law_n"] (aq dX):=⟨rfl,rfl,rfl,by decide+kernel,rfl,by decide+kernel,by decide+kernel⟩
inductive wU (vs:List V) (H:Hp) (Q:VK):Prop where
 | mk (m:Int) (n:Nat) (z0:vs=[.int m,.int (n:Int)]) (z1:n<=100) (z2:∀ (c:List Nat) (r:Addr) (H':Hp),(∀ i∈c,i < n)->c.Pairwise (· < ·)->c.length<=n->aU H H'->H r=none->H' r=some (.tup (c.map vN))->Q (.ref r) H'):wU  vs H Q
noncomputable def qF:Sp:=fun vs H Q _=>wU  vs H Q
theorem uN (F:Fun K "_law_crowd" "_law_crowd" dX f fd) (B:Bt mg) :
  cu P w K mg base CX0 1 f fd ["_law_number","_law_n"] qF:=by
 refine F.ok gK (fun vs H Q E h=>?_) (fun cdv A outer s H vs Q E hr h=>?_)
 ·obtain⟨m,n,rfl,_⟩:=h
  rfl
 ·obtain⟨m,n,rfl,hn,q⟩:=h
  refine⟨_,(aA (bu (i:=2) gK.nd rfl (Or.inl rfl) (bQ aj))
 (aA (gG PassesOwn.never rfl (cD rfl B.range_ (aa (pv 1) aj)) (aH (i:=3) gK.nd rfl (Or.inl rfl)) (aA (bV (aX fc (aQ cN (pv 0) au) au (aZ _)) (aC (cW (uR PySem.F.plainAttrs_list PySem.F.slot_list_append PySem.F.type_list_append dB (pv 2) (aa (pv 3) aj)))) aW)
 (aC (bu (i:=0) gK.nd rfl (Or.inl rfl) (aQ rF (pv 0) au)))))
 (aC (aJ (bM (r:=gJ K) bH rfl B.tuple_ cA (aa (pv 2) aj)))))),?_⟩
  refine⟨small (by show 0<=1000; decide),fun r hr0=>?_⟩
  have en:((n:Int)).toNat=n:=Int.toNat_natCast n
  refine⟨_,rfl,_,rfl,by lia,by lia,mO (lo:=0) (n:=((n:Int)).toNat) (fun i σ H2=>∃ (z:Int) (t:Option V) (c:List Nat),σ=[some (.int z),some (.int (n:Int)),some (.ref r),t]/\H2=upd H r (.lst (c.map vN))/\(∀ j∈c,j < i)/\c.Pairwise (· < ·)/\c.length<=i)
   ⟨_,_,[],rfl,rfl,by simp,by simp,Nat.le_refl _⟩ ?_ ?_⟩
  ·rintro i σ H2 hi ⟨z,t,c,rfl,rfl,hc,hp,hl⟩
   refine⟨_,rfl,_,_,rfl,rfl,(by show (0:Int) < 2; decide),rfl,_,rfl,?_⟩
   refine vg (fun _=>?_) (fun _=>?_)
   ·refine⟨_,rfl,.inl ⟨rfl,_,SqL.of ao⟩,_,rfl,r,_,_,rfl,rfl,ao,?_,_,rfl,_,_,rfl,rfl,⟨by decide,by decide⟩,_,_,c++[i],rfl,?_,?_,?_,?_⟩
    ·rw[List.length_map]
     exact aN (by lia)
    ·rw[Bk,List.map_append,Int.zero_add]
     rfl
    ·intro j hj
     rcases List.mem_append.mp hj with h | h
     ·have:=hc j h
      lia
     ·have:=List.mem_singleton.mp h
      lia
    ·rw[List.pairwise_append]
     refine⟨hp,by simp,fun a ha b hb=>?_⟩
     rw[List.mem_singleton.mp hb]
     exact hc a ha
    ·rw[List.length_append]
     show c.length+1<=i+1
     lia
   ·refine⟨_,rfl,_,_,rfl,rfl,⟨by decide,by decide⟩,_,_,c,rfl,rfl,fun j hj=>Nat.lt_succ_of_lt (hc j hj),hp,by lia⟩
  ·rintro σ H2 ⟨z,t,c,rfl,rfl,hc,hp,hl⟩
   refine⟨_,rfl,r,_,rfl,.inl ⟨SqL.of ao,fun l hl'=>?_⟩⟩
   rw[en] at hc hl
   exact q c l _ hc hp hl ((aB hr0 _).trans (aB hl' _)) ((aB hr0 _).free hl') ao
inductive Tm where
 | free | never | gives (i:Nat) (k:Int) | sum (c:List Nat) (k:Int) | crowd (c:List Nat) (k m:Int) | all (ts:List Tm) | any (ts:List Tm)
mutual
noncomputable def Tm.dep:Tm->Nat
 | .all ts=>tdL ts+1
 | .any ts=>tdL ts+1
 | _=>1
noncomputable def tdL:List Tm->Nat
 | []=>0
 | t::r=>max t.dep (tdL r)
end
mutual
noncomputable def hF (g:List Int):Tm->Bool
 | .free=>true
 | .never=>false
 | .gives i k=>decide (k<=g.getD i 0)
 | .sum c k=>decide (k<=(c.map fun i=>g.getD i 0).sum)
 | .crowd c k m=>decide (m<=((c.filter fun i=>decide (k<=g.getD i 0)).length:Int))
 | .all ts=>oH g ts
 | .any ts=>oG g ts
noncomputable def oH (g:List Int):List Tm->Bool
 | []=>true
 | t::r=>hF g t && oH g r
noncomputable def oG (g:List Int):List Tm->Bool
 | []=>false
 | t::r=>hF g t || oG g r
end
mutual
inductive lD (n:Nat) (H:Hp):V->Tm->Prop where
 | free {a:Addr}:H a=some (.tup [.str "free"])->lD n H (.ref a) .free
 | never {a:Addr}:H a=some (.tup [.str "never"])->lD n H (.ref a) .never
 | gives {a:Addr} {i:Nat} {k:Int}:H a=some (.tup [.str "gives",vN i,.int k])->i < n->1<=k->k<=9->lD n H (.ref a) (.gives i k)
 | sum {a b:Addr} {c:List Nat} {k:Int}:H a=some (.tup [.str "sum",.ref b,.int k])->H b=some (.tup (c.map vN))->(∀ i∈c,i < n)->c.Pairwise (· < ·)->c.length<=20->2<=c.length->1<=k->k<=99->lD n H (.ref a) (.sum c k)
 | crowd {a b:Addr} {c:List Nat} {k m:Int}:H a=some (.tup [.str "crowd",.ref b,.int k,.int m])->H b=some (.tup (c.map vN))->(∀ i∈c,i < n)->c.Pairwise (· < ·)->c.length<=20->1<=c.length->1<=k->k<=9->1<=m->m<=12->lD n H (.ref a) (.crowd c k m)
 | all {a b:Addr} {vs:List V} {ts:List Tm}:H a=some (.tup [.str "all",.ref b])->H b=some (.tup vs)->2<=vs.length->vs.length<=6->dz n H vs ts->lD n H (.ref a) (.all ts)
 | any {a b:Addr} {vs:List V} {ts:List Tm}:H a=some (.tup [.str "any",.ref b])->H b=some (.tup vs)->2<=vs.length->vs.length<=6->dz n H vs ts->lD n H (.ref a) (.any ts)
inductive dz (n:Nat) (H:Hp):List V->List Tm->Prop where
 | nil:dz n H [] []
 | cons {v:V} {t:Tm} {vs:List V} {ts:List Tm}:lD n H v t->dz n H vs ts->dz n H (v::vs) (t::ts)
end
mutual
theorem lD.bR {n:Nat} {H H':Hp} (e:∀ a xs,H a=some (HO.tup xs)->H' a=some (HO.tup xs)):∀ {v:V} {t:Tm},lD n H v t->lD n H' v t
 | _,_,.free h=>.free (e _ _ h)
 | _,_,.never h=>.never (e _ _ h)
 | _,_,.gives h a b c=>.gives (e _ _ h) a b c
 | _,_,.sum h h2 a b c d f g=>.sum (e _ _ h) (e _ _ h2) a b c d f g
 | _,_,.crowd h h2 a b c d f g i j=>.crowd (e _ _ h) (e _ _ h2) a b c d f g i j
 | _,_,.all h h2 a b r=>.all (e _ _ h) (e _ _ h2) a b (dz.bR e r)
 | _,_,.any h h2 a b r=>.any (e _ _ h) (e _ _ h2) a b (dz.bR e r)
theorem dz.bR {n:Nat} {H H':Hp} (e:∀ a xs,H a=some (HO.tup xs)->H' a=some (HO.tup xs)):∀ {vs:List V} {ts:List Tm},dz n H vs ts->dz n H' vs ts
 | _,_,.nil=>.nil
 | _,_,.cons h r=>.cons (lD.bR e h) (dz.bR e r)
end
theorem lD.mono {n:Nat} {H H':Hp} (e:aU H H') {v:V} {t:Tm} (h:lD n H v t):lD n H' v t:=h.bR fun a xs q=>e a _ q
theorem dz.mono {n:Nat} {H H':Hp} (e:aU H H') {vs:List V} {ts:List Tm} (h:dz n H vs ts):dz n H' vs ts:=h.bR fun a xs q=>e a _ q
theorem dz.length {n:Nat} {H:Hp}:∀ {vs:List V} {ts:List Tm},dz n H vs ts->vs.length=ts.length
 | _,_,.nil=>rfl
 | _,_,.cons _ r=>by rw[List.length_cons,List.length_cons,dz.length r]
theorem dz.get {n:Nat} {H:Hp}:∀ {vs:List V} {ts:List Tm} {i:Nat} {v:V},dz n H vs ts->vs[i]? = some v->∃ t,ts[i]? = some t/\lD n H v t
 | _,_,_,_,.nil,h=>by simp at h
 | _,_,0,_,.cons h _,e=>by
  cases (show some _=some _ from e)
  exact⟨_,rfl,h⟩
 | _,_,i+1,_,.cons _ r,e=>by
  obtain⟨t,e1,e2⟩:=dz.get (i:=i) r (by simpa using e)
  exact⟨t,by simpa using e1,e2⟩
theorem dz.snoc {n:Nat} {H:Hp}:∀ {vs:List V} {ts:List Tm} {v:V} {t:Tm},dz n H vs ts->lD n H v t->dz n H (vs++[v]) (ts++[t])
 | _,_,_,_,.nil,h=>.cons h .nil
 | _,_,_,_,.cons a r,h=>.cons a (dz.snoc r h)
theorem kE:∀ {ts:List Tm} {i:Nat} {t:Tm},ts[i]? = some t->t.dep<=tdL ts
 | [],_,_,h=>by simp at h
 | d::r,0,_,h=>by
  cases (show some d=some _ from h)
  rw[tdL]
  exact Nat.le_max_left _ _
 | d::r,i+1,_,h=>by
  rw[tdL]
  exact Nat.le_trans (kE (i:=i) (ts:=r) (by simpa using h)) (Nat.le_max_right _ _)
theorem wY {m:Nat} {t:Tm} (h:t.dep<=m):∀ {ts:List Tm},tdL ts<=m->tdL (ts++[t])<=m
 | [],_=>by simp only[List.nil_append,tdL]; lia
 | d::r,h2=>by
  rw[tdL] at h2
  rw[List.cons_append,tdL]
  have:=wY (m:=m) h (ts:=r) (by lia)
  lia
theorem Tm.wI:∀ t:Tm,1<=t.dep
 | .free | .never | .gives .. | .sum .. | .crowd ..=>Nat.le_refl 1
 | .all ts=>by rw[Tm.dep]; lia
 | .any ts=>by rw[Tm.dep]; lia
theorem vo:∀ {g:List Int} {ts:List Tm} {i:Nat} {t:Tm},ts[i]? = some t->oH g (ts.take (i+1))=(oH g (ts.take i) && hF g t)
 | _,[],_,_,h=>by simp at h
 | g,d::r,0,t,h=>by
  cases (show some d=some _ from h)
  rw[List.take_succ_cons,oH,List.take_zero,List.take_zero,oH,Bool.and_true,Bool.true_and]
 | g,d::r,i+1,t,h=>by
  rw[List.take_succ_cons,oH,vo (i:=i) (ts:=r) (by simpa using h),List.take_succ_cons,oH,Bool.and_assoc]
theorem sU:∀ {g:List Int} {ts:List Tm} {i:Nat} {t:Tm},ts[i]? = some t->oG g (ts.take (i+1))=(oG g (ts.take i) || hF g t)
 | _,[],_,_,h=>by simp at h
 | g,d::r,0,t,h=>by
  cases (show some d=some _ from h)
  rw[List.take_succ_cons,oG,List.take_zero,List.take_zero,oG,Bool.or_false,Bool.false_or]
 | g,d::r,i+1,t,h=>by
  rw[List.take_succ_cons,oG,sU (i:=i) (ts:=r) (by simpa using h),List.take_succ_cons,oG,Bool.or_assoc]
theorem o7:∀ {g:List Int} {ts:List Tm} {i:Nat} {t:Tm},ts[i]? = some t->hF g t=false->oH g ts=false
 | _,[],_,_,h,_=>by simp at h
 | g,d::r,0,t,h,e=>by
  cases (show some d=some _ from h)
  rw[oH,e,Bool.false_and]
 | g,d::r,i+1,t,h,e=>by rw[oH,o7 (i:=i) (ts:=r) (by simpa using h) e,Bool.and_false]
theorem tQ:∀ {g:List Int} {ts:List Tm} {i:Nat} {t:Tm},ts[i]? = some t->hF g t=true->oG g ts=true
 | _,[],_,_,h,_=>by simp at h
 | g,d::r,0,t,h,e=>by
  cases (show some d=some _ from h)
  rw[oG,e,Bool.true_or]
 | g,d::r,i+1,t,h,e=>by rw[oG,tQ (i:=i) (ts:=r) (by simpa using h) e,Bool.or_true]
noncomputable def LeG (g g':List Int):Prop:=∀ i,g.getD i 0<=g'.getD i 0
theorem pZ (f f':Nat->Int) (h:∀ i,f i<=f' i):∀ c:List Nat,(c.map f).sum<=(c.map f').sum
 | []=>Int.le_refl _
 | i::c=>by
  have:=pZ f f' h c
  have:=h i
  simp only[List.map_cons,List.sum_cons]
  lia
theorem filter_le (f f':Nat->Bool) (h:∀ i,f i=true->f' i=true):∀ c:List Nat,(c.filter f).length<=(c.filter f').length
 | []=>Nat.le_refl _
 | i::c=>by
  have ih:=filter_le f f' h c
  rw[List.filter_cons,List.filter_cons]
  by_cases e:f i=true
  ·rw[if_pos e,if_pos (h i e),List.length_cons,List.length_cons]
   lia
  ·rw[if_neg e]
   split
   ·rw[List.length_cons]
    lia
   ·exact ih
mutual
theorem v9 {g g':List Int} (l:LeG g g'):∀ t:Tm,hF g t=true->hF g' t=true
 | .free,_=>by rw[hF]
 | .never,h=>by rw[hF] at h; cases h
 | .gives i k,h=>by
  rw[hF] at h ⊢
  have:=of_decide_eq_true h
  have:=l i
  exact decide_eq_true (by lia)
 | .sum c k,h=>by
  rw[hF] at h ⊢
  have:=of_decide_eq_true h
  have:=pZ _ _ l c
  exact decide_eq_true (by lia)
 | .crowd c k m,h=>by
  rw[hF] at h ⊢
  have:=of_decide_eq_true h
  have:=filter_le (fun i=>decide (k<=g.getD i 0)) (fun i=>decide (k<=g'.getD i 0)) (fun i e=>decide_eq_true (Int.le_trans (of_decide_eq_true e) (l i))) c
  exact decide_eq_true (by lia)
 | .all ts,h=>by
  rw[hF] at h ⊢
  exact uH l ts h
 | .any ts,h=>by
  rw[hF] at h ⊢
  exact vh l ts h
theorem uH {g g':List Int} (l:LeG g g'):∀ ts:List Tm,oH g ts=true->oH g' ts=true
 | [],_=>by rw[oH]
 | t::r,h=>by
  rw[oH,Bool.and_eq_true] at h
  rw[oH,v9 l t h.1,uH l r h.2]
  rfl
theorem vh {g g':List Int} (l:LeG g g'):∀ ts:List Tm,oG g ts=true->oG g' ts=true
 | [],h=>by rw[oG] at h; cases h
 | t::r,h=>by
  rw[oG,Bool.or_eq_true] at h
  rw[oG]
  rcases h with h | h
  ·rw[v9 l t h,Bool.true_or]
  ·rw[vh l r h,Bool.or_true]
end
theorem gq {c A B:Prop} [Decidable c] (hc:¬ c) (h:B):if decide c=true then A else B:=by
 rw[decide_eq_false hc]
 exact jx h
theorem zT {c A B:Prop} [Decidable c] (hc:c) (h:A):if decide c=true then A else B:=by
 rw[decide_eq_true hc]
 exact oZ h
theorem bj {a b:Str} (h:a≠b):¬ V.str a=V.str b:=fun z=>h (by cases z; rfl)
theorem atD {g:List Int} {i:Nat} (h:i < g.length):atI (g.map V.int) (i:Int)=some (.int (g.getD i 0)):=by
 rw[nM h,List.getD_eq_getElem?_getD,List.getElem?_eq_getElem h]
 rfl
noncomputable abbrev fQ:Stmt:=top 10
noncomputable abbrev dW:Stmt:=top 11
noncomputable abbrev j8:Stmt:=top 12
theorem mU:aL ["parts","giving","part"] ["parts","giving"] (aq fQ):=⟨rfl,rfl,rfl,by decide+kernel,rfl,by decide+kernel,by decide+kernel⟩
theorem lq:aL ["parts","giving","part"] ["parts","giving"] (aq dW):=⟨rfl,rfl,rfl,by decide+kernel,rfl,by decide+kernel,by decide+kernel⟩
theorem wX:aL ["term","giving","kind"] ["term","giving"] (aq j8):=⟨rfl,rfl,rfl,by decide+kernel,rfl,by decide+kernel,by decide+kernel⟩
inductive wO (K:W.Frag) (d:Nat) (vs:List V) (H:Hp) (Q:VK):Prop where
 | mk (v:V) (g:Addr) (n:Nat) (t:Tm) (ns:List Int) (z0:vs=[v,.ref g]) (z1:lD n H v t) (z2:t.dep<=d) (z3:SqT K H g (ns.map V.int)) (z4:n<=ns.length) (z5:∀ H',aU H H'->Q (.bl (hF ns t)) H'):wO K d vs H Q
noncomputable def cg (K:W.Frag) (d:Nat):Sp:=fun vs H Q _=>wO K d vs H Q
inductive Dj (K:W.Frag) (d:Nat) (vs:List V) (H:Hp) (Q:VK):Prop where
 | mk (b g:Addr) (n:Nat) (us:List V) (ts:List Tm) (ns:List Int) (z0:vs=[.ref b,.ref g]) (z1:H b=some (.tup us)) (z2:dz n H us ts) (z3:tdL ts<=d) (z4:SqT K H g (ns.map V.int)) (z5:n<=ns.length) (z6:∀ H',aU H H'->Q (.bl (oH ns ts)) H'):Dj K d vs H Q
noncomputable def pR (K:W.Frag) (d:Nat):Sp:=fun vs H Q _=>Dj K d vs H Q
inductive Dy (K:W.Frag) (d:Nat) (vs:List V) (H:Hp) (Q:VK):Prop where
 | mk (b g:Addr) (n:Nat) (us:List V) (ts:List Tm) (ns:List Int) (z0:vs=[.ref b,.ref g]) (z1:H b=some (.tup us)) (z2:dz n H us ts) (z3:tdL ts<=d) (z4:SqT K H g (ns.map V.int)) (z5:n<=ns.length) (z6:∀ H',aU H H'->Q (.bl (oG ns ts)) H'):Dy K d vs H Q
noncomputable def pC (K:W.Frag) (d:Nat):Sp:=fun vs H Q _=>Dy K d vs H Q
theorem zL:cu P w K mg base CX0 0 f fd ["term","giving"] (cg K 0):=by
 have no:∀ vs H Q E,¬ cg K 0 vs H Q E:=fun vs H Q E h=>by
  obtain⟨v,g,n,t,ns,_,_,h1,_⟩:=h
  have:=t.wI
  lia
 exact⟨fun vs H Q E h=>absurd h (no vs H Q E),fun A outer s H args us vs Q E _ _ _ _ h=>absurd h (no vs H Q E)⟩
theorem iJ {d k:Nat} (F:Fun K "all_hold" "all_hold" fQ f fd) (B:Bt mg)
  (D_holds:Df P w K mg base "holds" k ["term","giving"] (cg K d)):cu P w K mg base CX0 (k+1) f fd ["parts","giving"] (pR K d):=by
 refine F.ok mU (fun vs H Q E h=>?_) (fun cdv A outer s H vs Q E hr h=>?_)
 ·obtain⟨b,g,n,us,ts,ns,rfl,_⟩:=h
  rfl
 ·obtain⟨b,g,n,us,ts,ns,rfl,hb,rp,hd,hg,hn,q⟩:=h
  refine⟨_,(aA (gG PassesOwn.never rfl (f9 (pv 0)) (aH (i:=2) mU.nd rfl (Or.inl rfl)) (aC (bV (lG (dG (aY D_holds hr (aa (pv 2) (aa (pv 1) aj))))) (aC (aJ j5)) aW)))
 (aC (aJ j5))),?_⟩
  have el:=rp.length
  refine⟨_,rfl,b,rfl,⟨_,SqT.of hb⟩,oA (K:=K) (a:=b) (xs:=us) (fun i σ H2=>(∃ u,σ=[some (.ref b),some (.ref g),u])/\aU H H2/\oH ns (ts.take i)=true) ⟨⟨_,rfl⟩,aU.refl H,by rw[List.take_zero,oH]⟩ (fun i σ H2 _ h=>cI h.2.1 (SqT.of hb)) ?_ ?_⟩
  ·rintro i x σ H2 hx ⟨⟨u,rfl⟩,sm,ab⟩
   obtain⟨t,ht,rt⟩:=rp.get hx
   refine⟨_,rfl,_,rfl,x,g,n,t,ns,rfl,rt.mono sm,Nat.le_trans (kE ht) hd,cI sm hg,hn,fun H3 s3=>⟨_,rfl,?_⟩⟩
   cases e:hF ns t with
   | false =>
    have q':=q H3 (sm.trans s3)
    rw[o7 ht e] at q'
    exact oZ q'
   | true=>exact jx ⟨⟨_,rfl⟩,sm.trans s3,by rw[vo ht,ab,e]; rfl⟩
  ·rintro σ H2 ⟨⟨u,rfl⟩,sm,ab⟩
   have q':=q H2 sm
   rw[el,List.take_length] at ab
   rw[ab] at q'
   exact q'
theorem gU {d k:Nat} (F:Fun K "any_holds" "any_holds" dW f fd) (B:Bt mg)
  (D_holds:Df P w K mg base "holds" k ["term","giving"] (cg K d)):cu P w K mg base CX0 (k+1) f fd ["parts","giving"] (pC K d):=by
 refine F.ok lq (fun vs H Q E h=>?_) (fun cdv A outer s H vs Q E hr h=>?_)
 ·obtain⟨b,g,n,us,ts,ns,rfl,_⟩:=h
  rfl
 ·obtain⟨b,g,n,us,ts,ns,rfl,hb,rp,hd,hg,hn,q⟩:=h
  refine⟨_,(aA (gG PassesOwn.never rfl (f9 (pv 0)) (aH (i:=2) lq.nd rfl (Or.inl rfl)) (aC (bV (dG (aY D_holds hr (aa (pv 2) (aa (pv 1) aj)))) (aC (aJ j5)) aW)))
 (aC (aJ j5))),?_⟩
  have el:=rp.length
  refine⟨_,rfl,b,rfl,⟨_,SqT.of hb⟩,oA (K:=K) (a:=b) (xs:=us) (fun i σ H2=>(∃ u,σ=[some (.ref b),some (.ref g),u])/\aU H H2/\oG ns (ts.take i)=false) ⟨⟨_,rfl⟩,aU.refl H,by rw[List.take_zero,oG]⟩ (fun i σ H2 _ h=>cI h.2.1 (SqT.of hb)) ?_ ?_⟩
  ·rintro i x σ H2 hx ⟨⟨u,rfl⟩,sm,ab⟩
   obtain⟨t,ht,rt⟩:=rp.get hx
   refine⟨_,rfl,_,rfl,x,g,n,t,ns,rfl,rt.mono sm,Nat.le_trans (kE ht) hd,cI sm hg,hn,fun H3 s3=>⟨_,rfl,?_⟩⟩
   cases e:hF ns t with
   | true =>
    have q':=q H3 (sm.trans s3)
    rw[tQ ht e] at q'
    exact oZ q'
   | false=>exact jx ⟨⟨_,rfl⟩,sm.trans s3,by rw[sU ht,ab,e]; rfl⟩
  ·rintro σ H2 ⟨⟨u,rfl⟩,sm,ab⟩
   have q':=q H2 sm
   rw[el,List.take_length] at ab
   rw[ab] at q'
   exact q'
theorem mD {d k:Nat} (F:Fun K "holds" "holds" j8 f fd) (B:Bt mg)
  (D_all_hold:Df P w K mg base "all_hold" k ["parts","giving"] (pR K d)) (D_any_holds:Df P w K mg base "any_holds" k ["parts","giving"] (pC K d)):cu P w K mg base CX0 (k+1) f fd ["term","giving"] (cg K (d+1)):=by
 refine F.ok wX (fun vs H Q E h=>?_) (fun cdv A outer s H vs Q E hr h=>?_)
 ·obtain⟨v,g,n,t,ns,rfl,_⟩:=h
  rfl
 ·obtain⟨v,g,n,t,ns,rfl,rt,hd,hg,hn,q⟩:=h
  refine⟨_,(aA (bu (i:=2) wX.nd rfl (Or.inl rfl) (aV (r:=gC K) bw (pv 0) au (fun _ _=>rfl)))
 (aA (bV (aX fc (pv 2) bG (aZ _)) (aC (aJ (cM nD (aV (r:=gC K) bw (pv 1) (aV (r:=gC K) bw (pv 0) au (fun _ _=>rfl)) (fun _ _=>rfl)) (aV (r:=gC K) bw (pv 0) au (fun _ _=>rfl)) (aZ _)))) aW)
 (aA (bV (aX fc (pv 2) bG (aZ _)) (aC (aJ (cM nD (aM (r:=Ff K) (mZ rfl) rfl B.sum_ Dw (aa (bD (L:=["one"]) (F:=["giving"]) (cap:=[1]) rfl (bh rfl rfl (by kernel_rfl)) (f9 (aV (r:=gC K) bw (pv 0) au (fun _ _=>rfl))) (fun _ _ _ _ _=>(aH (i:=0) (bc (by decide+kernel)) rfl (Or.inl rfl))) (fun _ _ _ _ _=>bC) (fun _ _ _ _ _=>(aV (r:=gC K) bw (pv 1) (pv 0) (fun _ _=>rfl)))) aj)) (aV (r:=gC K) bw (pv 0) au (fun _ _=>rfl)) (aZ _)))) aW)
 (aA (bV (aX fc (pv 2) bG (aZ _)) (aC (aJ (cM nD (aM (r:=yx K) cj rfl B.len_ ie (aa (bD (L:=["one"]) (F:=["giving","term"]) (cap:=[1,0]) rfl (bh rfl rfl (by kernel_rfl)) (f9 (aV (r:=gC K) bw (pv 0) au (fun _ _=>rfl))) (fun _ _ _ _ _=>(aH (i:=0) (bc (by decide+kernel)) rfl (Or.inl rfl))) (fun _ _ _ _ _=>(kj (aX nD (aV (r:=gC K) bw (pv 1) (pv 0) (fun _ _=>rfl)) (aV (r:=gC K) bw (pv 2) au (fun _ _=>rfl)) (aZ _)))) (fun _ _ _ _ _=>(pv 0))) aj)) (aV (r:=gC K) bw (pv 0) au (fun _ _=>rfl)) (aZ _)))) aW)
 (aA (bV (aX fc (pv 2) bG (aZ _)) (aC (aJ (aY D_all_hold hr (aa (aV (r:=gC K) bw (pv 0) au (fun _ _=>rfl)) (aa (pv 1) aj))))) aW)
 (aA (bV (aX fc (pv 2) bG (aZ _)) (aC (aJ (aY D_any_holds hr (aa (aV (r:=gC K) bw (pv 0) au (fun _ _=>rfl)) (aa (pv 1) aj))))) aW)
 (aC (aJ (cM fc (pv 2) bG (aZ _)))))))))),?_⟩
  cases rt with
  | @free a ha =>
   refine⟨_,rfl,a,_,_,_,rfl,rfl,SqT.of ha,aD (k:=0) rfl,?_⟩
   refine⟨_,rfl,rfl,_,rfl,gq (bj (by decide)) ?_⟩
   refine⟨_,rfl,rfl,_,rfl,gq (bj (by decide)) ?_⟩
   refine⟨_,rfl,rfl,_,rfl,gq (bj (by decide)) ?_⟩
   refine⟨_,rfl,rfl,_,rfl,gq (bj (by decide)) ?_⟩
   refine⟨_,rfl,rfl,_,rfl,gq (bj (by decide)) ?_⟩
   refine⟨_,rfl,rfl,?_⟩
   have q':=q H (aU.refl H)
   rw[hF] at q'
   rw[decide_eq_true rfl]
   exact q'
  | @never a ha =>
   refine⟨_,rfl,a,_,_,_,rfl,rfl,SqT.of ha,aD (k:=0) rfl,?_⟩
   refine⟨_,rfl,rfl,_,rfl,gq (bj (by decide)) ?_⟩
   refine⟨_,rfl,rfl,_,rfl,gq (bj (by decide)) ?_⟩
   refine⟨_,rfl,rfl,_,rfl,gq (bj (by decide)) ?_⟩
   refine⟨_,rfl,rfl,_,rfl,gq (bj (by decide)) ?_⟩
   refine⟨_,rfl,rfl,_,rfl,gq (bj (by decide)) ?_⟩
   refine⟨_,rfl,rfl,?_⟩
   have q':=q H (aU.refl H)
   rw[hF] at q'
   rw[decide_eq_false (bj (by decide))]
   exact q'
  | @gives a i k ha hi _ _ =>
   refine⟨_,rfl,a,_,_,_,rfl,rfl,SqT.of ha,aD (k:=0) rfl,?_⟩
   refine⟨_,rfl,rfl,_,rfl,zT rfl ?_⟩
   refine⟨_,rfl,_,rfl,a,_,_,_,rfl,rfl,SqT.of ha,aD (k:=1) rfl,g,_,_,_,rfl,rfl,hg,atD (by lia),_,rfl,a,_,_,_,rfl,rfl,SqT.of ha,aD (k:=2) rfl,_,_,rfl,rfl,?_⟩
   have q':=q H (aU.refl H)
   rw[hF] at q'
   exact q'
  | @sum a b c k ha hb hc _ hl _ _ _ =>
   refine⟨_,rfl,a,_,_,_,rfl,rfl,SqT.of ha,aD (k:=0) rfl,?_⟩
   refine⟨_,rfl,rfl,_,rfl,gq (bj (by decide)) ?_⟩
   refine⟨_,rfl,rfl,_,rfl,zT rfl ?_⟩
   refine⟨_,rfl,a,_,_,_,rfl,rfl,SqT.of ha,aD (k:=1) rfl,b,rfl,⟨_,SqT.of hb⟩,fun D hD=>dH (K:=K) (a:=b) (xs:=c.map vN) (fun i zs σ' H2=>(∃ u,σ'=[u,some (.ref g)])/\zs=((c.take i).map fun i=>ns.getD i 0).map V.int/\aU H H2/\H2 D=some (.lst zs))
    ⟨⟨_,rfl⟩,rfl,aB hD _,ao⟩ (fun i zs σ' H2 _ h=>⟨cI h.2.2.1 (SqT.of hb),h.2.2.2⟩) ?_ ?_⟩
   ·rintro j zs x σ' H2 hx ⟨⟨u,rfl⟩,e1,sm,hDl⟩
    obtain⟨i,hi,rfl⟩:=sI hx
    have hin:i < n:=hc i (List.mem_of_getElem? hi)
    refine gT ?_
    refine⟨_,rfl,_,rfl,g,_,_,_,rfl,rfl,cI sm hg,atD (by lia),hDl,?_,⟨_,rfl⟩,?_,aP sm hD _,ao⟩
    ·rw[e1,List.length_map,List.length_map,List.length_take]
     exact aN (by lia)
    ·rw[e1,List.take_add_one,hi,List.map_append,List.map_append]
     rfl
   ·rintro zs σ' H2 ⟨⟨u,rfl⟩,e1,sm,hDl⟩
    rw[List.length_map,List.take_length] at e1
    refine⟨D,_,rfl,SqL.of (by rw[hDl,e1]),_,rfl,a,_,_,_,rfl,rfl,SqT.of (sm _ _ ha),aD (k:=2) rfl,_,_,rfl,rfl,?_⟩
    have q':=q H2 sm
    rw[hF] at q'
    exact q'
  | @crowd a b c k m ha hb hc _ hl _ _ _ _ _ =>
   refine⟨_,rfl,a,_,_,_,rfl,rfl,SqT.of ha,aD (k:=0) rfl,?_⟩
   refine⟨_,rfl,rfl,_,rfl,gq (bj (by decide)) ?_⟩
   refine⟨_,rfl,rfl,_,rfl,gq (bj (by decide)) ?_⟩
   refine⟨_,rfl,rfl,_,rfl,zT rfl ?_⟩
   refine⟨_,rfl,a,_,_,_,rfl,rfl,SqT.of ha,aD (k:=1) rfl,b,rfl,⟨_,SqT.of hb⟩,fun D hD=>dH (K:=K) (a:=b) (xs:=c.map vN) (fun i zs σ' H2=>(∃ u,σ'=[u,some (.ref g),some (.ref a)])/\zs=((c.take i).filter fun i=>decide (k<=ns.getD i 0)).map vN/\aU H H2/\H2 D=some (.lst zs))
    ⟨⟨_,rfl⟩,rfl,aB hD _,ao⟩ (fun i zs σ' H2 _ h=>⟨cI h.2.2.1 (SqT.of hb),h.2.2.2⟩) ?_ ?_⟩
   ·rintro j zs x σ' H2 hx ⟨⟨u,rfl⟩,e1,sm,hDl⟩
    obtain⟨i,hi,rfl⟩:=sI hx
    have hin:i < n:=hc i (List.mem_of_getElem? hi)
    have et:c.take (j+1)=c.take j++[i]:=by rw[List.take_add_one,hi]; rfl
    refine⟨_,rfl,_,rfl,g,_,_,_,rfl,rfl,cI sm hg,atD (by lia),_,rfl,a,_,_,_,rfl,rfl,SqT.of (sm _ _ ha),aD (k:=2) rfl,_,_,rfl,rfl,_,rfl,?_⟩
    refine vg (fun cc=>?_) (fun cc=>?_)
    ·refine⟨_,rfl,hDl,?_,⟨_,rfl⟩,?_,aP sm hD _,ao⟩
     ·rw[e1,List.length_map]
      have:=List.length_filter_le (fun i=>decide (k<=ns.getD i 0)) (c.take j)
      rw[List.length_take] at this
      exact aN (by lia)
     ·rw[e1,et,List.filter_append,List.map_append,List.filter_cons,if_pos cc]
      rfl
    ·refine⟨⟨_,rfl⟩,?_,sm,hDl⟩
     rw[e1,et,List.filter_append,List.filter_cons,if_neg cc]
     simp
   ·rintro zs σ' H2 ⟨⟨u,rfl⟩,e1,sm,hDl⟩
    rw[List.length_map,List.take_length] at e1
    refine⟨D,_,rfl,.inl (SqL.of (by rw[hDl,e1])),_,rfl,a,_,_,_,rfl,rfl,SqT.of (sm _ _ ha),aD (k:=3) rfl,_,_,rfl,rfl,?_⟩
    have q':=q H2 sm
    rw[hF] at q'
    rw[List.length_map]
    exact q'
  | @all a b us ts ha hb _ _ rl =>
   refine⟨_,rfl,a,_,_,_,rfl,rfl,SqT.of ha,aD (k:=0) rfl,?_⟩
   refine⟨_,rfl,rfl,_,rfl,gq (bj (by decide)) ?_⟩
   refine⟨_,rfl,rfl,_,rfl,gq (bj (by decide)) ?_⟩
   refine⟨_,rfl,rfl,_,rfl,gq (bj (by decide)) ?_⟩
   refine⟨_,rfl,rfl,_,rfl,zT rfl ?_⟩
   refine⟨_,rfl,a,_,_,_,rfl,rfl,SqT.of ha,aD (k:=1) rfl,_,rfl,b,g,n,us,ts,ns,rfl,hb,rl,?_,hg,hn,fun H' s'=>?_⟩
   ·rw[Tm.dep] at hd
    lia
   ·have q':=q H' s'
    rw[hF] at q'
    exact q'
  | @any a b us ts ha hb _ _ rl =>
   refine⟨_,rfl,a,_,_,_,rfl,rfl,SqT.of ha,aD (k:=0) rfl,?_⟩
   refine⟨_,rfl,rfl,_,rfl,gq (bj (by decide)) ?_⟩
   refine⟨_,rfl,rfl,_,rfl,gq (bj (by decide)) ?_⟩
   refine⟨_,rfl,rfl,_,rfl,gq (bj (by decide)) ?_⟩
   refine⟨_,rfl,rfl,_,rfl,gq (bj (by decide)) ?_⟩
   refine⟨_,rfl,rfl,_,rfl,zT rfl ?_⟩
   refine⟨_,rfl,a,_,_,_,rfl,rfl,SqT.of ha,aD (k:=1) rfl,_,rfl,b,g,n,us,ts,ns,rfl,hb,rl,?_,hg,hn,fun H' s'=>?_⟩
   ·rw[Tm.dep] at hd
    lia
   ·have q':=q H' s'
    rw[hF] at q'
    exact q'
theorem jC {t u:TS} {D:Ends} {σ:St} {H:Hp} (P:St->Hp->Prop) (h2:∀ σ H,P σ H->u D σ H) (h1:∀ N:St->Hp->Prop,(∀ σ H,P σ H->N σ H)->t { D with nx:=N } σ H):Fl t u D σ H:=h1 (u D) h2
theorem rH {A B:TT} {t u:TS} {D:Ends} {σ:St} {H:Hp} (b1 b2:Bool) (R:Hp->Prop) (hA:∀ Q:Bool->Hp->Prop,(∀ H1,R H1->Q b1 H1)->A σ H Q) (hB:∀ H1,R H1->∀ Q:Bool->Hp->Prop,Q b2 H1->B σ H1 Q)
  (ht:∀ H1,R H1->b1=true->b2=true->t D σ H1) (hu:∀ H1,R H1->(b1=true->b2=false)->u D σ H1):Ga (Oz A B) t u D σ H:=by
 refine hA _ fun H1 r1=>?_
 show if b1=true then B σ H1 (fun b H2=>if b=true then t D σ H2 else u D σ H2) else (if false=true then t D σ H1 else u D σ H1)
 cases b1 with
 | false=>exact jx (jx (hu H1 r1 fun z=>by cases z))
 | true =>
  refine oZ (hB H1 r1 _ ?_)
  cases b2 with
  | false=>exact jx (hu H1 r1 fun _=>rfl)
  | true=>exact oZ (ht H1 r1 rfl rfl)
theorem gN {i:Nat} {x:V} {σ:St} {H:Hp} {P:St->Hp->Prop} (h:P (σ.set i (some x)) H):vW i x σ H P:=h
theorem nN {D:Ends} {σ:St} {H:Hp} (h:D.nx σ H):K5 D σ H:=h
noncomputable abbrev fL:Stmt:=top 39
theorem gk:aL ["_law_cell_here","_law_n","_law_deep","_law_most","_law_drawn","_law_parts","_law_crowd_here"] ["_law_cell_here","_law_n","_law_deep","_law_most"] (aq fL):=⟨rfl,rfl,rfl,by decide+kernel,rfl,by decide+kernel,by decide+kernel⟩
inductive Az (d:Nat) (vs:List V) (H:Hp) (Q:VK):Prop where
 | mk (c:Int) (n:Nat) (deep most:Int) (z0:vs=[.int c,.int (n:Int),.int deep,.int most]) (z1:1<=n) (z2:n<=12) (z3:1<=deep) (z4:deep<=(d:Int)) (z5:1<=most) (z6:most<=9) (z7:∀ (v:V) (t:Tm) (H':Hp),aU H H'->lD n H' v t->(t.dep:Int)<=deep->Q v H'):Az d vs H Q
noncomputable def jP (d:Nat):Sp:=fun vs H Q _=>Az d vs H Q
theorem term_none:cu P w K mg base CX0 1 f fd ["_law_cell_here","_law_n","_law_deep","_law_most"] (jP 0):=by
 have no:∀ vs H Q E,¬ jP 0 vs H Q E:=fun vs H Q E h=>by
  obtain⟨c,n,deep,most,_,_,_,h1,h2,_⟩:=h
  lia
 exact⟨fun vs H Q E h=>absurd h (no vs H Q E),fun A outer s H args us vs Q E _ _ _ _ h=>absurd h (no vs H Q E)⟩
theorem jy {d:Nat} (F:Fun K "_law_term" "_law_term" fL f fd) (B:Bt mg)
  (D_law_draws:Df P w K mg base "_law_draws" 1 ["_law_cell_here","_law_parts"] (jc K)) (D_law_under:Df P w K mg base "_law_under" 1 ["_law_cell_here","_law_k"] mR) (D_law_crowd:Df P w K mg base "_law_crowd" 1 ["_law_number","_law_n"] qF)
  (D_law_term:Df P w K mg base "_law_term" (d+1) ["_law_cell_here","_law_n","_law_deep","_law_most"] (jP d)):cu P w K mg base CX0 (d+2) f fd ["_law_cell_here","_law_n","_law_deep","_law_most"] (jP (d+1)):=by
 refine F.ok gk (fun vs H Q E h=>?_) (fun cdv A outer s H vs Q E hr h=>?_)
 ·obtain⟨c,n,deep,most,rfl,_⟩:=h
  rfl
 ·obtain⟨c,n,deep,most,rfl,n1,n12,de1,ded,m1,m9,q⟩:=h
  refine⟨_,(aA (bu (i:=4) gk.nd rfl (Or.inl rfl) (aY D_law_draws hr (aa (pv 0) (aa (bQ (aa au (aa au (aa au (aa au (aa au aj)))))) aj))))
 (aA (bV (PW.pt (pQ (aX Ba (aV (r:=eU K) aO (pv 4) au (fun _ _=>rfl)) au (aZ _)) (kO (aX DN (pv 2) au (aZ _))))) (aA (rQ (L:=["_law_k"]) (F:=["_law_n","_law_most","_law_cell_here","_law_deep"]) (cap:=[1,3,0,2]) (j:=5) gk.nd rfl (Or.inl rfl) rfl (bh rfl rfl (by kernel_rfl)) (cD rfl B.range_ (aa (aQ bL au (aQ cN (aV (r:=eU K) aO (pv 4) au (fun _ _=>rfl)) au)) aj)) (fun _ _ _ _ _=>(aH (i:=0) (bc (by decide+kernel)) rfl (Or.inl rfl))) (fun _ _ _ _ _=>bC) (fun _ _ _ _ _=>(aY D_law_term hr (aa (aY D_law_under hr (aa (pv 3) (aa (pv 0) aj))) (aa (pv 1) (aa (aQ nW (pv 4) au) (aa (pv 2) aj)))))))
 (aC (aJ (bI (aa (aV (r:=eU K) aO (bQ (aa bG (aa bG aj))) (aV (r:=eU K) aO (pv 4) au (fun _ _=>rfl)) (fun _ _=>rfl)) (aa (bM (r:=gJ K) bH rfl B.tuple_ cA (aa (pv 5) aj)) aj)))))) aW)
 (aA (bu (i:=6) gk.nd rfl (Or.inl rfl) (aY D_law_crowd hr (aa (aV (r:=eU K) aO (pv 4) au (fun _ _=>rfl)) (aa (pv 1) aj))))
 (aA (bV (aX (r:=Gs K) (vV hr.ql) (pv 6) (bI aj) (aZ _)) (aC (bu (i:=6) gk.nd rfl (Or.inl rfl) (bI (aa (aQ cN (aV (r:=eU K) aO (pv 4) au (fun _ _=>rfl)) (pv 1)) aj)))) aW)
 (aA (bV (PW.pt (pQ (aX (r:=rIn K false) oh (aV (r:=eU K) aO (pv 4) au (fun _ _=>rfl)) (bI (aa au (aa au aj))) rfl) (kO (aX DN (aM (r:=yx K) cj rfl B.len_ ie (aa (pv 6) aj)) au (aZ _))))) (aC (aJ (bI (aa bG (aa (pv 6) (aa (aQ bL au (aQ cN (aQ bL (aQ iG au (aV (r:=eU K) aO (pv 4) au (fun _ _=>rfl))) (aV (r:=eU K) aO (pv 4) au (fun _ _=>rfl))) (aM (ue rfl) rfl B.min_ Ii (aa au (aa (aQ iG (pv 3) (aM (r:=yx K) cj rfl B.len_ ie (aa (pv 6) aj))) aj))))) aj)))))) aW)
 (aA (bV (aX fc (aV (r:=eU K) aO (pv 4) au (fun _ _=>rfl)) au (aZ _)) (aC (aJ (bI (aa bG (aa (pv 6) (aa (aQ bL au (aQ cN (aV (r:=eU K) aO (pv 4) au (fun _ _=>rfl)) (pv 3))) (aa (aQ bL au (aQ cN (aV (r:=eU K) aO (pv 4) au (fun _ _=>rfl)) (aM (r:=yx K) cj rfl B.len_ ie (aa (pv 6) aj)))) aj))))))) aW)
 (aA (bV (aX fc (aV (r:=eU K) aO (pv 4) au (fun _ _=>rfl)) au (aZ _)) (aC (aJ (bI (aa (aV (r:=eU K) aO (bQ (aa bG (aa bG (aa bG aj)))) (aQ cN (aV (r:=eU K) aO (pv 4) au (fun _ _=>rfl)) au) (fun _ _=>rfl)) aj)))) aW)
 (aC (aJ (bI (aa bG (aa (aQ cN (aV (r:=eU K) aO (pv 4) au (fun _ _=>rfl)) (pv 1)) (aa (aQ bL au (aQ cN (aV (r:=eU K) aO (pv 4) au (fun _ _=>rfl)) (pv 3))) aj))))))))))))),?_⟩
  refine⟨_,rfl,small (by show 5<=1000; decide),fun p1 h1=>?_⟩
  generalize eH1:upd H p1 _=H1
  obtain⟨g1,e1⟩:=aG eH1 h1
  refine⟨c,p1,[9,12,9,4096,12],rfl,SqL.of e1,by decide,by decide,fun p2 h2=>?_⟩
  generalize eH2:upd H1 p2 _=H2
  obtain⟨g2,e2⟩:=aG eH2 h2
  have hps:∀ q∈([9,12,9,4096,12]:List Int),0 < q:=by decide
  obtain⟨d0,k0,b0⟩:=bU (c:=jW c) (i:=0) hps rfl
  obtain⟨d1,k1,b1⟩:=bU (c:=jW c) (i:=1) hps rfl
  obtain⟨d2,k2,b2⟩:=bU (c:=jW c) (i:=2) hps rfl
  obtain⟨d3,k3,b3⟩:=bU (c:=jW c) (i:=3) hps rfl
  obtain⟨d4,k4,b4⟩:=bU (c:=jW c) (i:=4) hps rfl
  have a0:=aD (dI k0)
  have a1:=aD (dI k1)
  have a2:=aD (dI k2)
  have a3:=aD (dI k3)
  have a4:=aD (dI k4)
  change _=some (HO.lst ((vy (jW c) [9,12,9,4096,12]).map V.int)) at e2
  generalize vy (jW c) [9,12,9,4096,12]=ds at *
  have gH:aU H H2:=g1.trans g2
  refine gN ?_
  dsimp only
  show Fl (Ga _ _ _) _ _ _ _
  refine jC (fun σ H3=>σ=[some (.int c),some (.int (n:Int)),some (.int deep),some (.int most),some (.ref p2),none,none]/\H2=H3) ?rest (fun _ R=>?_)
  case rest =>
   rintro σ H3 ⟨rfl,rfl⟩
   refine⟨_,rfl,p2,_,_,_,rfl,rfl,SqL.of e2,a3,_,rfl,d3,n,rfl,by lia,fun cs r3 H3 hc hp hl s3 f3 e3=>?_⟩
   refine gN ?_
   dsimp only
   show Fl (Ga _ _ _) _ _ _ _
   refine jC (fun σ H5=>∃ (rc:Addr) (cs:List Nat),σ=[some (.int c),some (.int (n:Int)),some (.int deep),some (.int most),some (.ref p2),none,some (.ref rc)]/\aU H2 H5/\H5 rc=some (.tup (cs.map vN))/\(∀ i∈cs,i < n)/\cs.Pairwise (· < ·)/\cs.length<=n/\1<=cs.length) ?rest2 (fun _ R=>?_)
   case rest2 =>
    rintro σ H5 ⟨rc,cs,rfl,s5,e5,hc,hp,hl,h1l⟩
    have e2':=s5 _ _ e2
    have lenr:((cs.map vN).length:Int)=(cs.length:Int):=by rw[List.length_map]
    show Fl (Ga _ _ _) _ _ _ _
    refine jC (fun σ H6=>σ=[some (.int c),some (.int (n:Int)),some (.int deep),some (.int most),some (.ref p2),none,some (.ref rc)]/\aU H5 H6) ?rest3 (fun _ R=>?_)
    case rest3 =>
     rintro σ H6 ⟨rfl,s6⟩
     have e2':=s6 _ _ e2'
     have e5:=s6 _ _ e5
     have s56:aU H H6:=gH.trans (s5.trans s6)
     refine⟨_,rfl,p2,_,_,_,rfl,rfl,SqL.of e2',a0,rfl,_,rfl,?_⟩
     refine vg (fun _=>?_) (fun _=>?_)
     ·refine⟨_,rfl,_,rfl,p2,_,_,_,rfl,rfl,SqL.of e2',a2,_,rfl,_,_,rfl,rfl,(by show (0:Int) < most; lia),_,_,rfl,rfl,?_⟩
      refine⟨_,rfl,p2,_,_,_,rfl,rfl,SqL.of e2',a4,_,rfl,rc,_,rfl,.inr (SqT.of e5),_,_,rfl,rfl,?_,_,_,rfl,rfl,small (by show 4<=1000; decide),fun p7 h7=>?_⟩
      ·rw[lenr]
       lia
      ·have u1:0<=d2 % most:=Int.emod_nonneg _ (by lia)
       have u2:d2 % most < most:=Int.emod_lt_of_pos _ (by lia)
       have u3:0<=d4 % ((cs.map vN).length:Int):=Int.emod_nonneg _ (by rw[lenr]; lia)
       have u4:d4 % ((cs.map vN).length:Int) < (cs.length:Int):=by
        have:=Int.emod_lt_of_pos d4 (b:=((cs.map vN).length:Int)) (by rw[lenr]; lia)
        rw[lenr] at this ⊢
        exact this
       refine q (.ref p7) (.crowd cs (1+d2 % most) (1+d4 % ((cs.map vN).length:Int))) _ (s56.trans (aB h7 _)) (.crowd ao (aB h7 _ _ _ e5) hc hp (by lia) h1l (by lia) (by lia) (by lia) (by lia)) ?_
       exact de1
     ·refine⟨_,rfl,p2,_,_,_,rfl,rfl,SqL.of e2',a0,rfl,_,rfl,?_⟩
      refine vg (fun _=>?_) (fun _=>?_)
      ·refine⟨small (by show 3<=1000; decide),fun p7 h7=>?_⟩
       generalize eH7:upd H6 p7 _=H7
       obtain⟨g7,e7⟩:=aG eH7 h7
       have u1:0<=d1 % 3:=Int.emod_nonneg _ (by lia)
       have u2:d1 % 3 < 3:=Int.emod_lt_of_pos _ (by lia)
       have fin:∀ p8 (x:Str),H7 p8=none->(x = "free"∨x = "never")->Q (.ref p8) (upd H7 p8 (.tup [.str x])):=fun p8 x h8 hx=>by
        rcases hx with rfl | rfl
        ·refine q (.ref p8) .free _ (s56.trans (g7.trans (aB h8 _))) (.free ao) ?_
         exact de1
        ·refine q (.ref p8) .never _ (s56.trans (g7.trans (aB h8 _))) (.never ao) ?_
         exact de1
       refine⟨_,rfl,p2,_,_,_,rfl,rfl,SqL.of (g7 _ _ e2'),a1,_,_,rfl,rfl,(by show (0:Int) < 3; decide),?_⟩
       rcases (show d1 % 3=0∨d1 % 3=1∨d1 % 3=2 by lia) with z | z | z
       ·exact⟨p7,_,_,_,rfl,rfl,SqL.of e7,by rw[z]; rfl,small (by show 1<=1000; decide),fun p8 h8=>fin p8 _ h8 (.inl rfl)⟩
       ·exact⟨p7,_,_,_,rfl,rfl,SqL.of e7,by rw[z]; rfl,small (by show 1<=1000; decide),fun p8 h8=>fin p8 _ h8 (.inl rfl)⟩
       ·exact⟨p7,_,_,_,rfl,rfl,SqL.of e7,by rw[z]; rfl,small (by show 1<=1000; decide),fun p8 h8=>fin p8 _ h8 (.inr rfl)⟩
      ·have u1:0<=d1 % (n:Int):=Int.emod_nonneg _ (by lia)
       have u2:d1 % (n:Int) < (n:Int):=Int.emod_lt_of_pos _ (by lia)
       have u3:0<=d2 % most:=Int.emod_nonneg _ (by lia)
       have u4:d2 % most < most:=Int.emod_lt_of_pos _ (by lia)
       refine⟨_,rfl,p2,_,_,_,rfl,rfl,SqL.of e2',a1,_,rfl,_,_,rfl,rfl,(by show (0:Int) < (n:Int); lia),?_⟩
       refine⟨_,rfl,p2,_,_,_,rfl,rfl,SqL.of e2',a2,_,rfl,_,_,rfl,rfl,(by show (0:Int) < most; lia),_,_,rfl,rfl,small (by show 3<=1000; decide),fun p7 h7=>?_⟩
       obtain⟨i,hi⟩:=Int.eq_ofNat_of_zero_le u1
       rw[hi] at u2
       refine q (.ref p7) (.gives i (1+d2 % most)) _ (s56.trans (aB h7 _)) (.gives (ao.trans (by show some (HO.tup [V.str "gives",V.int (d1 % (n:Int)),V.int (1+d2 % most)])=some (HO.tup [V.str "gives",V.int (i:Int),V.int (1+d2 % most)]); rw[hi])) (by lia) (by lia) (by lia)) ?_
       exact de1
    ·refine rH (inV (.int d0) [.int 3,.int 4]) (decide (1 < (cs.length:Int))) (fun H6=>aU H5 H6) (fun Q' hQ=>?_) (fun H6 s6 Q' hQ=>?_) (fun H6 s6 _ hl2=>?_) (fun H6 s6 _=>R _ _ ⟨rfl,s6⟩)
     ·refine⟨_,rfl,p2,_,_,_,rfl,rfl,SqL.of e2',a0,small (by show 2<=1000; decide),fun p6 h6=>⟨p6,_,rfl,.inr (SqT.of ao),rfl,rfl,_,rfl,hQ _ (aB h6 _)⟩⟩
     ·refine⟨_,rfl,rc,_,rfl,.inr (SqT.of (s6 _ _ e5)),_,_,rfl,rfl,_,rfl,?_⟩
      rw[lenr]
      exact hQ
     ·have e2':=s6 _ _ e2'
      have e5:=s6 _ _ e5
      have s56:aU H H6:=gH.trans (s5.trans s6)
      have hl3:(1:Int) < (cs.length:Int):=of_decide_eq_true hl2
      refine⟨_,rfl,_,rfl,p2,_,_,_,rfl,rfl,SqL.of e2',a1,_,_,rfl,rfl,.inl ⟨by decide,by decide⟩,_,rfl,p2,_,_,_,rfl,rfl,SqL.of e2',a2,_,_,rfl,rfl,?_⟩
      refine⟨_,rfl,_,rfl,rc,_,rfl,.inr (SqT.of e5),_,_,rfl,rfl,.inl ⟨by lia,by lia⟩,_,_,rfl,?_⟩
      have pz:0 < most * ((cs.map vN).length:Int):=by
       rw[lenr]
       exact Int.mul_pos (by lia) (by lia)
      generalize hz:(if most * ((cs.map vN).length:Int) < 99 then most * ((cs.map vN).length:Int) else 99)=z
      have z1:0 < z:=by
       rw[← hz]
       split <;> lia
      have z2:z<=99:=by
       rw[← hz]
       split <;> lia
      have u3:0<=(9 * d1+d2) % z:=Int.emod_nonneg _ (by lia)
      have u4:(9 * d1+d2) % z < z:=Int.emod_lt_of_pos _ z1
      refine⟨_,_,rfl,rfl,z1,_,_,rfl,rfl,small (by show 3<=1000; decide),fun p7 h7=>?_⟩
      refine q (.ref p7) (.sum cs (1+(9 * d1+d2) % z)) _ (s56.trans (aB h7 _)) (.sum ao (aB h7 _ _ _ e5) hc hp (by lia) (by lia) (by lia) (by lia)) ?_
      exact de1
   ·refine⟨_,rfl,small (by show 0<=1000; decide),fun p4 h4=>?_⟩
    have e3':SqT K H3 r3 ((cs.map fun i:Nat=>(i:Int)).map V.int):=by rw[← nC]; exact SqT.of e3
    have g4:aU H3 (upd H3 p4 (.tup [])):=aB h4 _
    refine⟨r3,p4,cs.map (fun i:Nat=>(i:Int)),[],rfl,rfl,cI g4 e3',SqT.of ao,_,rfl,?_⟩
    refine vg (fun ce=>?_) (fun ce=>?_)
    ·have u1:0<=d4 % (n:Int):=Int.emod_nonneg _ (by lia)
     have u2:d4 % (n:Int) < (n:Int):=Int.emod_lt_of_pos _ (by lia)
     refine⟨_,rfl,p2,_,_,_,rfl,rfl,SqL.of (g4 _ _ (s3 _ _ e2)),a4,_,rfl,_,_,rfl,rfl,(by show (0:Int) < (n:Int); lia),small (by show 1<=1000; decide),fun p5 h5=>?_⟩
     obtain⟨i,hi⟩:=Int.eq_ofNat_of_zero_le u1
     rw[hi] at u2
     refine R _ _ ⟨p5,[i],rfl,s3.trans (g4.trans (aB h5 _)),ao.trans (by show some (HO.tup [V.int (d4 % (n:Int))])=some (HO.tup [V.int (i:Int)]); rw[hi]),?_,by simp,n1,Nat.le_refl _⟩
     intro j hj
     rw[List.mem_singleton] at hj
     lia
    ·refine R _ _ ⟨r3,cs,rfl,s3.trans g4,g4 _ _ e3,hc,hp,hl,?_⟩
     cases cs with
     | nil=>exact absurd (decide_eq_true rfl) ce
     | cons x xs=>rw[List.length_cons]; lia
  ·refine rH (decide (d0 < 2)) (decide (1 < deep)) (fun H3=>H2=H3) (fun Q' hQ=>?_) (fun H3 e Q' hQ=>?_) (fun H3 e c1 c2=>?_) (fun H3 e _=>R _ _ ⟨rfl,e⟩)
   ·exact⟨_,rfl,p2,_,_,_,rfl,rfl,SqL.of e2,a0,_,_,rfl,rfl,_,rfl,hQ _ rfl⟩
   ·exact⟨_,rfl,_,_,rfl,rfl,_,rfl,hQ⟩
   ·subst e
    have c1:d0 < 2:=of_decide_eq_true c1
    have c2:1 < deep:=of_decide_eq_true c2
    have u1:0<=d4 % 5:=Int.emod_nonneg _ (by lia)
    have u2:d4 % 5 < 5:=Int.emod_lt_of_pos _ (by lia)
    refine⟨_,rfl,p2,_,_,_,rfl,rfl,SqL.of e2,a4,_,_,rfl,rfl,(by show (0:Int) < 5; decide),_,_,rfl,rfl,_,rfl,by lia,by lia,fun D hD=>cF (lo:=0) (n:=(2+d4 % 5).toNat)
     (fun i zs σ' H5=>(∃ u,σ'=[u,some (.int (n:Int)),some (.int most),some (.int c),some (.int deep)])/\aU H2 H5/\H5 D=some (.lst zs)/\zs.length=i/\∃ ts,dz n H5 zs ts/\(tdL ts:Int)<=deep - 1)
     ⟨⟨_,rfl⟩,aB hD _,ao,rfl,[],.nil,by rw[tdL]; lia⟩ (fun i zs σ' H5 _ h=>h.2.2.1) ?_ ?_⟩
    ·rintro i zs σ' H5 hi ⟨⟨u,rfl⟩,s5,eD,lz,ts,rt,td⟩
     refine gT ?_
     refine⟨_,rfl,_,rfl,c,i,by rw[Int.zero_add]; rfl,by lia,_,rfl,_,rfl,_,_,rfl,rfl,_,rfl,JQ c i,n,deep - 1,most,rfl,n1,n12,by lia,by lia,m1,m9,fun v t H6 s6 r6 d6=>?_⟩
     refine⟨s6 _ _ eD,?_,⟨_,rfl⟩,aP (s5.trans s6) hD _,ao,?_,ts++[t],?_,?_⟩
     ·exact aN (by lia)
     ·rw[List.length_append,lz]
      rfl
     ·have s7:=cZ (zs':=zs++[v]) (s6 _ _ eD)
      exact ((rt.mono s6).bR s7).snoc (r6.bR s7)
     ·have:=wY (m:=(deep - 1).toNat) (t:=t) (by lia) (ts:=ts) (by lia)
      lia
    ·rintro zs σ' H5 ⟨⟨u,rfl⟩,s5,eD,lz,ts,rt,td⟩
     refine⟨small (by show 2<=1000; decide),fun p6 h6=>?_⟩
     generalize eH6:upd H5 p6 _=H6
     obtain⟨g6,e6⟩:=aG eH6 h6
     refine⟨_,rfl,p2,_,_,_,rfl,rfl,SqL.of (g6 _ _ (s5 _ _ e2)),a0,?_⟩
     rcases (show d0=0∨d0=1 by lia) with z | z
     ·subst z
      refine⟨p6,_,_,_,rfl,rfl,SqL.of e6,rfl,_,rfl,D,_,rfl,.inl ⟨SqL.of (g6 _ _ eD),fun p7 h7=>?_⟩⟩
      generalize eH7:upd H6 p7 _=H7
      obtain⟨g7,e7⟩:=aG eH7 h7
      refine⟨small (by show 2<=1000; decide),fun p8 h8=>?_⟩
      refine q (.ref p8) (.all ts) _ (gH.trans (s5.trans (g6.trans (g7.trans (aB h8 _))))) (.all ao (aB h8 _ _ _ e7) (by lia) (by lia) (rt.mono (g6.trans (g7.trans (aB h8 _))))) ?_
      rw[Tm.dep]
      lia
     ·subst z
      refine⟨p6,_,_,_,rfl,rfl,SqL.of e6,rfl,_,rfl,D,_,rfl,.inl ⟨SqL.of (g6 _ _ eD),fun p7 h7=>?_⟩⟩
      generalize eH7:upd H6 p7 _=H7
      obtain⟨g7,e7⟩:=aG eH7 h7
      refine⟨small (by show 2<=1000; decide),fun p8 h8=>?_⟩
      refine q (.ref p8) (.any ts) _ (gH.trans (s5.trans (g6.trans (g7.trans (aB h8 _))))) (.any ao (aB h8 _ _ _ e7) (by lia) (by lia) (rt.mono (g6.trans (g7.trans (aB h8 _))))) ?_
      rw[Tm.dep]
      lia
noncomputable abbrev d7:Stmt:=top 46
theorem tM:aL ["_law_term_here","_law_giving_here"] ["_law_term_here","_law_giving_here"] (aq d7):=⟨rfl,rfl,rfl,by decide+kernel,rfl,by decide+kernel,by decide+kernel⟩
theorem BR (g:List Int):∀ ts:List Tm,(ts.map (hF g)).all (fun b=>b)=oH g ts
 | []=>by rw[oH]; rfl
 | t::r=>by rw[oH,← BR g r]; rfl
theorem Bo (g:List Int):∀ ts:List Tm,(ts.map (hF g)).any (fun b=>b)=oG g ts
 | []=>by rw[oG]; rfl
 | t::r=>by rw[oG,← Bo g r]; rfl
theorem yw (f:Nat->Bool):∀ c:List Nat,(c.map fun i=>if f i=true then (1:Int) else 0).sum=((c.filter f).length:Int)
 | []=>rfl
 | i::c=>by
  have ih:=yw f c
  rw[List.map_cons,List.sum_cons,ih,List.filter_cons]
  split
  ·rw[List.length_cons]
   lia
  ·lia
theorem vZ:cu P w K mg base CX0 0 f fd ["_law_term_here","_law_giving_here"] (cg K 0):=by
 have no:∀ vs H Q E,¬ cg K 0 vs H Q E:=fun vs H Q E h=>by
  obtain⟨v,g,n,t,ns,_,_,h1,_⟩:=h
  have:=t.wI
  lia
 exact⟨fun vs H Q E h=>absurd h (no vs H Q E),fun A outer s H args us vs Q E _ _ _ _ h=>absurd h (no vs H Q E)⟩
theorem gR {d:Nat} (F:Fun K "_law_holds" "_law_holds" d7 f fd) (B:Bt mg)
  (D_law_holds:Df P w K mg base "_law_holds" d ["_law_term_here","_law_giving_here"] (cg K d)):cu P w K mg base CX0 (d+1) f fd ["_law_term_here","_law_giving_here"] (cg K (d+1)):=by
 refine F.ok tM (fun vs H Q E h=>?_) (fun cdv A outer s H vs Q E hr h=>?_)
 ·obtain⟨v,g,n,t,ns,rfl,_⟩:=h
  rfl
 ·obtain⟨v,g,n,t,ns,rfl,rt,hd,hg,hn,q⟩:=h
  refine⟨_,(aA (bV (aX fc (aV (r:=gC K) bw (pv 0) au (fun _ _=>rfl)) bG (aZ _)) (aC (aJ (cM nD (aV (r:=gC K) bw (pv 1) (aV (r:=gC K) bw (pv 0) au (fun _ _=>rfl)) (fun _ _=>rfl)) (aV (r:=gC K) bw (pv 0) au (fun _ _=>rfl)) (aZ _)))) aW)
 (aA (bV (aX fc (aV (r:=gC K) bw (pv 0) au (fun _ _=>rfl)) bG (aZ _)) (aC (aJ (cM nD (aM (r:=Ff K) (mZ rfl) rfl B.sum_ Dw (aa (bD (L:=["_law_one"]) (F:=["_law_giving_here"]) (cap:=[1]) rfl (bh rfl rfl (by kernel_rfl)) (f9 (aV (r:=gC K) bw (pv 0) au (fun _ _=>rfl))) (fun _ _ _ _ _=>(aH (i:=0) (bc (by decide+kernel)) rfl (Or.inl rfl))) (fun _ _ _ _ _=>bC) (fun _ _ _ _ _=>(aV (r:=gC K) bw (pv 1) (pv 0) (fun _ _=>rfl)))) aj)) (aV (r:=gC K) bw (pv 0) au (fun _ _=>rfl)) (aZ _)))) aW)
 (aA (bV (aX fc (aV (r:=gC K) bw (pv 0) au (fun _ _=>rfl)) bG (aZ _)) (aC (aJ (cM nD (aM (r:=Ff K) (mZ rfl) rfl B.sum_ Dw (aa (bD (L:=["_law_one"]) (F:=["_law_giving_here","_law_term_here"]) (cap:=[1,0]) rfl (bh rfl rfl (by kernel_rfl)) (f9 (aV (r:=gC K) bw (pv 0) au (fun _ _=>rfl))) (fun _ _ _ _ _=>(aH (i:=0) (bc (by decide+kernel)) rfl (Or.inl rfl))) (fun _ _ _ _ _=>bC) (fun _ _ _ _ _=>(bM (r:=Nf) vf rfl B.int_ xR (aa (cM nD (aV (r:=gC K) bw (pv 1) (pv 0) (fun _ _=>rfl)) (aV (r:=gC K) bw (pv 2) au (fun _ _=>rfl)) (aZ _)) aj)))) aj)) (aV (r:=gC K) bw (pv 0) au (fun _ _=>rfl)) (aZ _)))) aW)
 (aA (bV (aX fc (aV (r:=gC K) bw (pv 0) au (fun _ _=>rfl)) bG (aZ _)) (aC (aJ (aM (r:=zc K) (iU rfl) rfl B.all_ uJ (aa (bD (L:=["_law_part"]) (F:=["_law_giving_here"]) (cap:=[1]) rfl (bh rfl rfl (by kernel_rfl)) (f9 (aV (r:=gC K) bw (pv 0) au (fun _ _=>rfl))) (fun _ _ _ _ _=>(aH (i:=0) (bc (by decide+kernel)) rfl (Or.inl rfl))) (fun _ _ _ _ _=>bC) (fun _ _ _ _ _=>(aY D_law_holds hr (aa (pv 0) (aa (pv 1) aj))))) aj)))) aW)
 (aC (aJ (Nt (cM fc (aV (r:=gC K) bw (pv 0) au (fun _ _=>rfl)) bG (aZ _)) (tW (ux (cM fc (aV (r:=gC K) bw (pv 0) au (fun _ _=>rfl)) bG (aZ _)) (tW (aM (r:=K4 K) (Dn rfl) rfl B.any_ K7 (aa (bD (L:=["_law_part"]) (F:=["_law_giving_here"]) (cap:=[1]) rfl (bh rfl rfl (by kernel_rfl)) (f9 (aV (r:=gC K) bw (pv 0) au (fun _ _=>rfl))) (fun _ _ _ _ _=>(aH (i:=0) (bc (by decide+kernel)) rfl (Or.inl rfl))) (fun _ _ _ _ _=>bC) (fun _ _ _ _ _=>(aY D_law_holds hr (aa (pv 0) (aa (pv 1) aj))))) aj)))))))))))),?_⟩
  have parts:∀ (D:Addr),H D=none->∀ (b:Addr) (us:List V) (ts:List Tm) (Z:Hp->Prop) (te:TE),us.length<=6->H b=some (.tup us)->dz n H us ts->tdL ts<=d →
    (∀ (x:V) (t:Tm) (σ':St) (H2:Hp) (R:V->Hp->Prop),lD n H2 x t->aU H H2->t.dep<=d->σ'=[some x,some (.ref g)]->(∀ H3,aU H2 H3->R (.bl (hF ns t)) H3)->te σ' H2 R) →
    (∀ H2:Hp,aU H H2->H2 D=some (.lst ((ts.map (hF ns)).map V.bl))->Z H2)->eO D [none,some (.ref g)] (Itt K b) (vW 0) Dt te H Z:=fun D hD b us ts Z te lu hb rl td hte hQ=>by
   have el:=rl.length
   refine dH (K:=K) (a:=b) (xs:=us) (fun i zs σ' H2=>(∃ u,σ'=[u,some (.ref g)])/\zs=((ts.take i).map (hF ns)).map V.bl/\aU H H2/\H2 D=some (.lst zs))
    ⟨⟨_,rfl⟩,rfl,aB hD _,ao⟩ (fun i zs σ' H2 _ h=>⟨cI h.2.2.1 (SqT.of hb),h.2.2.2⟩) ?_ ?_
   ·rintro j zs x σ' H2 hx ⟨⟨u,rfl⟩,e1,sm,hDl⟩
    obtain⟨t,ht,rt⟩:=rl.get hx
    have hj:j < us.length:=(List.getElem?_eq_some_iff.mp hx).1
    refine gT ?_
    refine hte x t _ H2 _ (rt.mono sm) sm (Nat.le_trans (kE ht) td) rfl fun H3 s3=>⟨s3 _ _ hDl,?_,⟨_,rfl⟩,?_,aP (sm.trans s3) hD _,ao⟩
    ·rw[e1,List.length_map,List.length_map,List.length_take]
     exact aN (by lia)
    ·rw[e1,List.take_add_one,ht,List.map_append,List.map_append]
     rfl
   ·rintro zs σ' H2 ⟨⟨u,rfl⟩,e1,sm,hDl⟩
    rw[el,List.take_length] at e1
    exact hQ H2 sm (by rw[hDl,e1])
  cases rt with
  | @free a ha =>
   refine⟨_,rfl,a,_,_,_,rfl,rfl,SqT.of ha,aD (k:=0) rfl,rfl,_,rfl,gq (bj (by decide)) ?_⟩
   refine⟨_,rfl,a,_,_,_,rfl,rfl,SqT.of ha,aD (k:=0) rfl,rfl,_,rfl,gq (bj (by decide)) ?_⟩
   refine⟨_,rfl,a,_,_,_,rfl,rfl,SqT.of ha,aD (k:=0) rfl,rfl,_,rfl,gq (bj (by decide)) ?_⟩
   refine⟨_,rfl,a,_,_,_,rfl,rfl,SqT.of ha,aD (k:=0) rfl,rfl,_,rfl,gq (bj (by decide)) ?_⟩
   refine⟨_,rfl,a,_,_,_,rfl,rfl,SqT.of ha,aD (k:=0) rfl,rfl,_,rfl,zT rfl ?_⟩
   have q':=q H (aU.refl H)
   rw[hF] at q'
   exact q'
  | @never a ha =>
   refine⟨_,rfl,a,_,_,_,rfl,rfl,SqT.of ha,aD (k:=0) rfl,rfl,_,rfl,gq (bj (by decide)) ?_⟩
   refine⟨_,rfl,a,_,_,_,rfl,rfl,SqT.of ha,aD (k:=0) rfl,rfl,_,rfl,gq (bj (by decide)) ?_⟩
   refine⟨_,rfl,a,_,_,_,rfl,rfl,SqT.of ha,aD (k:=0) rfl,rfl,_,rfl,gq (bj (by decide)) ?_⟩
   refine⟨_,rfl,a,_,_,_,rfl,rfl,SqT.of ha,aD (k:=0) rfl,rfl,_,rfl,gq (bj (by decide)) ?_⟩
   refine⟨_,rfl,a,_,_,_,rfl,rfl,SqT.of ha,aD (k:=0) rfl,rfl,_,rfl,gq (bj (by decide)) ?_⟩
   refine⟨_,rfl,a,_,_,_,rfl,rfl,SqT.of ha,aD (k:=0) rfl,rfl,_,rfl,gq (bj (by decide)) ?_⟩
   have q':=q H (aU.refl H)
   rw[hF] at q'
   exact q'
  | @gives a i k ha hi _ _ =>
   refine⟨_,rfl,a,_,_,_,rfl,rfl,SqT.of ha,aD (k:=0) rfl,rfl,_,rfl,zT rfl ?_⟩
   refine⟨_,rfl,_,rfl,a,_,_,_,rfl,rfl,SqT.of ha,aD (k:=1) rfl,g,_,_,_,rfl,rfl,hg,atD (by lia),_,rfl,a,_,_,_,rfl,rfl,SqT.of ha,aD (k:=2) rfl,_,_,rfl,rfl,?_⟩
   have q':=q H (aU.refl H)
   rw[hF] at q'
   exact q'
  | @sum a b c k ha hb hc _ hl _ _ _ =>
   refine⟨_,rfl,a,_,_,_,rfl,rfl,SqT.of ha,aD (k:=0) rfl,rfl,_,rfl,gq (bj (by decide)) ?_⟩
   refine⟨_,rfl,a,_,_,_,rfl,rfl,SqT.of ha,aD (k:=0) rfl,rfl,_,rfl,zT rfl ?_⟩
   refine⟨_,rfl,a,_,_,_,rfl,rfl,SqT.of ha,aD (k:=1) rfl,b,rfl,⟨_,SqT.of hb⟩,fun D hD=>dH (K:=K) (a:=b) (xs:=c.map vN) (fun i zs σ' H2=>(∃ u,σ'=[u,some (.ref g)])/\zs=((c.take i).map fun i=>ns.getD i 0).map V.int/\aU H H2/\H2 D=some (.lst zs))
    ⟨⟨_,rfl⟩,rfl,aB hD _,ao⟩ (fun i zs σ' H2 _ h=>⟨cI h.2.2.1 (SqT.of hb),h.2.2.2⟩) ?_ ?_⟩
   ·rintro j zs x σ' H2 hx ⟨⟨u,rfl⟩,e1,sm,hDl⟩
    obtain⟨i,hi,rfl⟩:=sI hx
    have hin:i < n:=hc i (List.mem_of_getElem? hi)
    refine gT ?_
    refine⟨_,rfl,_,rfl,g,_,_,_,rfl,rfl,cI sm hg,atD (by lia),hDl,?_,⟨_,rfl⟩,?_,aP sm hD _,ao⟩
    ·rw[e1,List.length_map,List.length_map,List.length_take]
     exact aN (by lia)
    ·rw[e1,List.take_add_one,hi,List.map_append,List.map_append]
     rfl
   ·rintro zs σ' H2 ⟨⟨u,rfl⟩,e1,sm,hDl⟩
    rw[List.length_map,List.take_length] at e1
    refine⟨D,_,rfl,SqL.of (by rw[hDl,e1]),_,rfl,a,_,_,_,rfl,rfl,SqT.of (sm _ _ ha),aD (k:=2) rfl,_,_,rfl,rfl,?_⟩
    have q':=q H2 sm
    rw[hF] at q'
    exact q'
  | @crowd a b c k m ha hb hc _ hl _ _ _ _ _ =>
   refine⟨_,rfl,a,_,_,_,rfl,rfl,SqT.of ha,aD (k:=0) rfl,rfl,_,rfl,gq (bj (by decide)) ?_⟩
   refine⟨_,rfl,a,_,_,_,rfl,rfl,SqT.of ha,aD (k:=0) rfl,rfl,_,rfl,gq (bj (by decide)) ?_⟩
   refine⟨_,rfl,a,_,_,_,rfl,rfl,SqT.of ha,aD (k:=0) rfl,rfl,_,rfl,zT rfl ?_⟩
   refine⟨_,rfl,a,_,_,_,rfl,rfl,SqT.of ha,aD (k:=1) rfl,b,rfl,⟨_,SqT.of hb⟩,fun D hD=>dH (K:=K) (a:=b) (xs:=c.map vN) (fun i zs σ' H2=>(∃ u,σ'=[u,some (.ref g),some (.ref a)])/\zs=((c.take i).map fun i=>if decide (k<=ns.getD i 0)=true then (1:Int) else 0).map V.int/\aU H H2/\H2 D=some (.lst zs))
    ⟨⟨_,rfl⟩,rfl,aB hD _,ao⟩ (fun i zs σ' H2 _ h=>⟨cI h.2.2.1 (SqT.of hb),h.2.2.2⟩) ?_ ?_⟩
   ·rintro j zs x σ' H2 hx ⟨⟨u,rfl⟩,e1,sm,hDl⟩
    obtain⟨i,hi,rfl⟩:=sI hx
    have hin:i < n:=hc i (List.mem_of_getElem? hi)
    refine gT ?_
    refine⟨_,rfl,_,rfl,g,_,_,_,rfl,rfl,cI sm hg,atD (by lia),_,rfl,a,_,_,_,rfl,rfl,SqT.of (sm _ _ ha),aD (k:=2) rfl,_,_,rfl,rfl,.inr ⟨_,rfl,hDl,?_,⟨_,rfl⟩,?_,aP sm hD _,ao⟩⟩
    ·rw[e1,List.length_map,List.length_map,List.length_take]
     exact aN (by lia)
    ·rw[e1,List.take_add_one,hi,List.map_append,List.map_append]
     rfl
   ·rintro zs σ' H2 ⟨⟨u,rfl⟩,e1,sm,hDl⟩
    rw[List.length_map,List.take_length] at e1
    refine⟨D,_,rfl,SqL.of (by rw[hDl,e1]),_,rfl,a,_,_,_,rfl,rfl,SqT.of (sm _ _ ha),aD (k:=3) rfl,_,_,rfl,rfl,?_⟩
    have q':=q H2 sm
    rw[hF] at q'
    rw[yw]
    exact q'
  | @all a b us ts ha hb _ lu rl =>
   refine⟨_,rfl,a,_,_,_,rfl,rfl,SqT.of ha,aD (k:=0) rfl,rfl,_,rfl,gq (bj (by decide)) ?_⟩
   refine⟨_,rfl,a,_,_,_,rfl,rfl,SqT.of ha,aD (k:=0) rfl,rfl,_,rfl,gq (bj (by decide)) ?_⟩
   refine⟨_,rfl,a,_,_,_,rfl,rfl,SqT.of ha,aD (k:=0) rfl,rfl,_,rfl,gq (bj (by decide)) ?_⟩
   refine⟨_,rfl,a,_,_,_,rfl,rfl,SqT.of ha,aD (k:=0) rfl,rfl,_,rfl,zT rfl ?_⟩
   refine⟨_,rfl,a,_,_,_,rfl,rfl,SqT.of ha,aD (k:=1) rfl,b,rfl,⟨_,SqT.of hb⟩,fun D hD=>parts D hD b us ts _ _ lu hb rl (by rw[Tm.dep] at hd; lia) (fun x t σ' H2 R rt sm dt eσ hR=>?_) fun H2 sm hDl=>?_⟩
   ·subst eσ
    exact⟨_,rfl,_,rfl,x,g,n,t,ns,rfl,rt,dt,cI sm hg,hn,hR⟩
   ·refine⟨D,_,rfl,SqL.of hDl,?_⟩
    rw[BR]
    have q':=q H2 sm
    rw[hF] at q'
    exact q'
  | @any a b us ts ha hb _ lu rl =>
   refine⟨_,rfl,a,_,_,_,rfl,rfl,SqT.of ha,aD (k:=0) rfl,rfl,_,rfl,gq (bj (by decide)) ?_⟩
   refine⟨_,rfl,a,_,_,_,rfl,rfl,SqT.of ha,aD (k:=0) rfl,rfl,_,rfl,gq (bj (by decide)) ?_⟩
   refine⟨_,rfl,a,_,_,_,rfl,rfl,SqT.of ha,aD (k:=0) rfl,rfl,_,rfl,gq (bj (by decide)) ?_⟩
   refine⟨_,rfl,a,_,_,_,rfl,rfl,SqT.of ha,aD (k:=0) rfl,rfl,_,rfl,gq (bj (by decide)) ?_⟩
   refine⟨_,rfl,a,_,_,_,rfl,rfl,SqT.of ha,aD (k:=0) rfl,rfl,_,rfl,gq (bj (by decide)) ?_⟩
   refine⟨_,rfl,a,_,_,_,rfl,rfl,SqT.of ha,aD (k:=0) rfl,rfl,_,rfl,zT rfl ?_⟩
   refine⟨_,rfl,a,_,_,_,rfl,rfl,SqT.of ha,aD (k:=1) rfl,b,rfl,⟨_,SqT.of hb⟩,fun D hD=>parts D hD b us ts _ _ lu hb rl (by rw[Tm.dep] at hd; lia) (fun x t σ' H2 R rt sm dt eσ hR=>?_) fun H2 sm hDl=>?_⟩
   ·subst eσ
    exact⟨_,rfl,_,rfl,x,g,n,t,ns,rfl,rt,dt,cI sm hg,hn,hR⟩
   ·refine⟨D,_,rfl,SqL.of hDl,?_⟩
    rw[Bo]
    have q':=q H2 sm
    rw[hF] at q'
    exact q'
theorem JH {e:Expr} {es:List Expr} {env:Env} (h:∀ x p,e≠.Starred x p):starEach (e::es) env=(false,eval e env)::starEach es env:=by
 rw[starEach]
 intro x p z
 exact h x p z
theorem cJ {X:Cx} {e:Expr} {es:List Expr} {te:TE} {t:TA} (ha:PE X e te) (hr:PA X es t) (h : autoParam (∀ x p,e≠.Starred x p) L2.Pg._auto_1):PA X (e::es) (Ay te t):=aa ha hr (JH h)
theorem yg (ns:List Int) (lo hi:Option Int):∃ ks:List Int,Bs (ns.map V.int) lo hi=ks.map V.int/\ks.length<=ns.length:=by
 unfold Bs
 generalize HT.sIx _ _ lo=x
 generalize HT.sIx _ _ hi=y
 refine⟨(ns.drop x).take (y - x),by rw[List.map_take,List.map_drop],?_⟩
 rw[List.length_take,List.length_drop]
 lia
theorem yH:∀ (ns acc:List Int),acc.Nodup->(ns.foldl PyProof.Rows.step_dedup acc).Nodup
 | [],acc,h=>h
 | n::r,acc,h=>by
  rw[List.foldl_cons]
  refine yH r _ ?_
  unfold PyProof.Rows.step_dedup
  split
  ·exact h
  ·rename_i z
   rw[List.nodup_append]
   refine⟨h,by simp,fun a ha b hb e=>?_⟩
   rw[List.mem_singleton] at hb
   subst hb
   subst e
   exact z (List.any_eq_true.mpr ⟨a,ha,beq_self_eq_true a⟩)
theorem Cq:∀ (ns acc:List Int),(ns.foldl PyProof.Rows.step_dedup acc).length<=acc.length+ns.length
 | [],acc=>by simp
 | n::r,acc=>by
  rw[List.foldl_cons]
  refine Nat.le_trans (Cq r _) ?_
  unfold PyProof.Rows.step_dedup
  split
  ·rw[List.length_cons]; lia
  ·simp only[List.length_append,List.length_cons,List.length_nil]; lia
theorem Dv (ns:List Int):ddI ns=ns.foldl PyProof.Rows.step_dedup []:=by
 unfold ddI PyProof.Rows.firstMet
 congr 1
 apply List.ext_getElem?
 intro i
 rw[List.getElem?_map]
 by_cases h:i < ns.length
 ·rw[List.getElem?_range h,List.getElem?_eq_getElem h]
  simp [List.getD_eq_getElem?_getD,List.getElem?_eq_getElem h]
 ·have e1:(List.range ns.length)[i]? = none:=List.getElem?_eq_none (by rw[List.length_range]; lia)
  rw[e1,List.getElem?_eq_none (by lia)]
  rfl
theorem qg:∀ {a b:List Int},a.Perm b->a.Pairwise (·<=·)->b.Pairwise (·<=·)->a=b
 | [],b,p,_,_=>(List.Perm.nil_eq p)
 | x::a,[],p,_,_=>absurd p.length_eq (by simp)
 | x::a,y::b,p,ha,hb=>by
  rw[List.pairwise_cons] at ha hb
  have h1:x<=y:=by
   rcases List.mem_cons.mp (p.mem_iff.mpr List.mem_cons_self) with h | h
   ·lia
   ·exact ha.1 y h
  have h2:y<=x:=by
   rcases List.mem_cons.mp (p.mem_iff.mp List.mem_cons_self) with h | h
   ·lia
   ·exact hb.1 x h
  have e:x=y:=by lia
  subst e
  rw[qg (List.Perm.cons_inv p) ha.2 hb.2]
noncomputable abbrev Pl:=List (Int × Tm)
inductive eZ (n:Nat) (H:Hp):List V->Pl->Prop where
 | nil:eZ n H [] []
 | cons {r:Addr} {k:Int} {v:V} {t:Tm} {vs:List V} {ps:Pl}:H r=some (.tup [.int k,v])->lD n H v t->eZ n H vs ps->eZ n H (.ref r::vs) ((k,t)::ps)
theorem eZ.bR {n:Nat} {H H':Hp} (e:∀ a xs,H a=some (HO.tup xs)->H' a=some (HO.tup xs)):∀ {vs:List V} {ps:Pl},eZ n H vs ps->eZ n H' vs ps
 | _,_,.nil=>.nil
 | _,_,.cons h t r=>.cons (e _ _ h) (t.bR e) (eZ.bR e r)
theorem eZ.length {n:Nat} {H:Hp}:∀ {vs:List V} {ps:Pl},eZ n H vs ps->vs.length=ps.length
 | _,_,.nil=>rfl
 | _,_,.cons _ _ r=>by rw[List.length_cons,List.length_cons,eZ.length r]
theorem eZ.get {n:Nat} {H:Hp}:∀ {vs:List V} {ps:Pl} {i:Nat} {v:V},eZ n H vs ps->vs[i]? = some v->∃ r k u t,v = .ref r/\H r=some (.tup [.int k,u])/\lD n H u t/\ps[i]? = some (k,t)
 | _,_,_,_,.nil,h=>by simp at h
 | _,_,0,_,.cons h t _,e=>by
  cases (show some _=some _ from e)
  exact⟨_,_,_,_,rfl,h,t,rfl⟩
 | _,_,i+1,_,.cons _ _ r,e=>by
  obtain⟨a,k,u,t,h1,h2,h3,h4⟩:=eZ.get (i:=i) r (by simpa using e)
  exact⟨a,k,u,t,h1,h2,h3,by simpa using h4⟩
theorem eZ.snoc {n:Nat} {H:Hp} {r:Addr} {k:Int} {v:V} {t:Tm} (h:H r=some (.tup [.int k,v])) (ht:lD n H v t):∀ {vs:List V} {ps:Pl},eZ n H vs ps->eZ n H (vs++[.ref r]) (ps++[(k,t)])
 | _,_,.nil=>.cons h ht .nil
 | _,_,.cons a b c=>.cons a b (eZ.snoc h ht c)
noncomputable def okP (p:Pl):Prop:=p≠[]/\p.length<=9/\(p.map (·.1)).Pairwise (· < ·)/\∀ x∈p,1<=x.1/\x.1<=9/\x.2.dep<=4
noncomputable def zU (n:Nat) (H:Hp) (a:Addr) (p:Pl):Prop:=okP p/\∃ vs,H a=some (.tup vs)/\eZ n H vs p
theorem zU.bR {n:Nat} {H H':Hp} {a:Addr} {p:Pl} (e:∀ a xs,H a=some (HO.tup xs)->H' a=some (HO.tup xs)) (h:zU n H a p):zU n H' a p:=by
 obtain⟨ok,vs,h1,h2⟩:=h
 exact⟨ok,vs,e _ _ h1,h2.bR e⟩
theorem zU.mono {n:Nat} {H H':Hp} {a:Addr} {p:Pl} (e:aU H H') (h:zU n H a p):zU n H' a p:=h.bR fun a xs q=>e a _ q
inductive gm (n:Nat) (H:Hp):List Addr->List Pl->Prop where
 | nil:gm n H [] []
 | cons {a:Addr} {p:Pl} {as:List Addr} {ps:List Pl}:zU n H a p->gm n H as ps->gm n H (a::as) (p::ps)
theorem gm.bR {n:Nat} {H H':Hp} (e:∀ a xs,H a=some (HO.tup xs)->H' a=some (HO.tup xs)):∀ {as:List Addr} {ps:List Pl},gm n H as ps->gm n H' as ps
 | _,_,.nil=>.nil
 | _,_,.cons h r=>.cons (h.bR e) (gm.bR e r)
theorem gm.length {n:Nat} {H:Hp}:∀ {as:List Addr} {ps:List Pl},gm n H as ps->as.length=ps.length
 | _,_,.nil=>rfl
 | _,_,.cons _ r=>by rw[List.length_cons,List.length_cons,gm.length r]
theorem gm.get {n:Nat} {H:Hp}:∀ {as:List Addr} {ps:List Pl} {i:Nat} {a:Addr},gm n H as ps->as[i]? = some a->∃ p,ps[i]? = some p/\zU n H a p
 | _,_,_,_,.nil,h=>by simp at h
 | _,_,0,_,.cons h _,e=>by
  cases (show some _=some _ from e)
  exact⟨_,rfl,h⟩
 | _,_,i+1,_,.cons _ r,e=>by
  obtain⟨p,h1,h2⟩:=gm.get (i:=i) r (by simpa using e)
  exact⟨p,by simpa using h1,h2⟩
theorem gm.snoc {n:Nat} {H:Hp} {a:Addr} {p:Pl} (h:zU n H a p):∀ {as:List Addr} {ps:List Pl},gm n H as ps->gm n H (as++[a]) (ps++[p])
 | _,_,.nil=>.cons h .nil
 | _,_,.cons x r=>.cons x (gm.snoc h r)
inductive dF (n:Nat) (H:Hp):List V->List (List Pl)->Prop where
 | nil:dF n H [] []
 | cons {c:Addr} {as:List Addr} {ps:List Pl} {us:List V} {bs:List (List Pl)}:H c=some (.lst (as.map V.ref))->as.length<=100->gm n H as ps->dF n H us bs->dF n H (.ref c::us) (ps::bs)
theorem dF.mono {n:Nat} {H H':Hp} (e:aU H H'):∀ {us:List V} {bs:List (List Pl)},dF n H us bs->dF n H' us bs
 | _,_,.nil=>.nil
 | _,_,.cons h l p r=>.cons (e _ _ h) l (p.bR fun a xs q=>e a _ q) (dF.mono e r)
theorem dF.length {n:Nat} {H:Hp}:∀ {us:List V} {bs:List (List Pl)},dF n H us bs->us.length=bs.length
 | _,_,.nil=>rfl
 | _,_,.cons _ _ _ r=>by rw[List.length_cons,List.length_cons,dF.length r]
theorem dF.get {n:Nat} {H:Hp}:∀ {us:List V} {bs:List (List Pl)} {i:Nat} {u:V},dF n H us bs->us[i]? = some u->∃ c as ps,u = .ref c/\bs[i]? = some ps/\H c=some (.lst (as.map V.ref))/\as.length<=100/\gm n H as ps
 | _,_,_,_,.nil,h=>by simp at h
 | _,_,0,_,.cons h l p _,e=>by
  cases (show some _=some _ from e)
  exact⟨_,_,_,rfl,rfl,h,l,p⟩
 | _,_,i+1,_,.cons _ _ _ r,e=>by
  obtain⟨c,as,ps,h1,h2,h3⟩:=dF.get (i:=i) r (by simpa using e)
  exact⟨c,as,ps,h1,by simpa using h2,h3⟩
theorem dF.snoc {n:Nat} {H:Hp} {c:Addr} {as:List Addr} {ps:List Pl} (h:H c=some (.lst (as.map V.ref))) (hl:as.length<=100) (hp:gm n H as ps):∀ {us:List V} {bs:List (List Pl)},dF n H us bs->dF n H (us++[.ref c]) (bs++[ps])
 | _,_,.nil=>.cons h hl hp .nil
 | _,_,.cons x y z r=>.cons x y z (dF.snoc h hl hp r)
noncomputable def pK (n:Nat) (H:Hp) (b:Addr) (bk:List (List Pl)):Prop:=∃ us,H b=some (.lst us)/\dF n H us bk/\bk.length<=12
theorem pK.mono {n:Nat} {H H':Hp} {b:Addr} {bk:List (List Pl)} (e:aU H H') (h:pK n H b bk):pK n H' b bk:=by
 obtain⟨us,h1,h2,h3⟩:=h
 exact⟨us,e _ _ h1,h2.mono e,h3⟩
noncomputable def owS (g:List Int) (f:Int) (x:Int × Tm):Int:=if hF g x.2=true then x.1 else f
noncomputable def owF (g:List Int) (p:Pl):Int:=p.foldl (owS g) 0
theorem xZ {g:List Int} {p:Pl} {i:Nat} {x:Int × Tm} (h:p[i]? = some x):owF g (p.take (i+1))=if hF g x.2=true then x.1 else owF g (p.take i):=by
 unfold owF
 rw[List.take_add_one,h]
 show ((p.take i)++[x]).foldl (owS g) 0=_
 rw[List.foldl_append]
 rfl
noncomputable def lsF (p:Pl):Int:=mxD 0 (p.map (·.1))
theorem jR:∀ (l:List Int) (a b:Int),l.foldl max (max a b)=max a (l.foldl max b)
 | [],a,b=>rfl
 | y::l,a,b=>by
  rw[List.foldl_cons,List.foldl_cons,show max (max a b) y=max a (max b y) by lia]
  exact jR l a (max b y)
noncomputable def duF (g:List Int) (f:Int) (ps:List Pl):Int:=(ps.map (owF g)).foldl max f
theorem Gu (g:List Int) {f:Int} (hf:0<=f) (ps:List Pl):duF g f ps=max f (duF g 0 ps):=by
 unfold duF
 rw[← jR,show max f 0=f by lia]
noncomputable def cL (g:List Int) (fl:List Int) (bk:List (List Pl)):List Int:=List.zipWith (duF g) fl bk
noncomputable def rfS (f:Int) (ps:List Pl):Int:=(ps.map lsF).foldl max f
noncomputable def rfF (fl:List Int) (bk:List (List Pl)):List Int:=List.zipWith rfS fl bk
theorem mG {α β γ:Type} (f:α->β->γ) {xs:List α} {ys:List β} {i:Nat} {x:α} {y:β} (h1:xs[i]? = some x) (h2:ys[i]? = some y):List.zipWith f (xs.take (i+1)) (ys.take (i+1))=List.zipWith f (xs.take i) (ys.take i)++[f x y]:=by
 have l1:i < xs.length:=(List.getElem?_eq_some_iff.mp h1).1
 have l2:i < ys.length:=(List.getElem?_eq_some_iff.mp h2).1
 rw[List.take_add_one,List.take_add_one,h1,h2]
 show List.zipWith f (xs.take i++[x]) (ys.take i++[y])=_
 rw[List.zipWith_append (by rw[List.length_take,List.length_take]; lia)]
 rfl
theorem Cg {as:List Addr} {i:Nat} {x:V} (h:(as.map V.ref)[i]? = some x):∃ a,as[i]? = some a/\x = .ref a:=by
 rw[List.getElem?_map] at h
 cases e:as[i]? with
 | none=>rw[e] at h; cases h
 | some a=>rw[e] at h; exact⟨a,rfl,(Option.some.inj h).symm⟩
theorem take_snoc {α β:Type} (f:α->β) {xs:List α} {i:Nat} {x:α} (h:xs[i]? = some x):(xs.take (i+1)).map f=(xs.take i).map f++[f x]:=(qR f h).symm
noncomputable abbrev qi:Stmt:=top 14
theorem vQ:aL ["pledge","giving","step","term"] ["pledge","giving"] (aq qi):=⟨rfl,rfl,rfl,by decide+kernel,rfl,by decide+kernel,by decide+kernel⟩
inductive zW (K:W.Frag) (vs:List V) (H:Hp) (Q:VK):Prop where
 | mk (a g:Addr) (n:Nat) (p:Pl) (ns:List Int) (z0:vs=[.ref a,.ref g]) (z1:zU n H a p) (z2:SqT K H g (ns.map V.int)) (z3:n<=ns.length) (z4:∀ H',aU H H'->Q (.int (owF ns p)) H'):zW K vs H Q
noncomputable def qj (K:W.Frag):Sp:=fun vs H Q _=>zW K vs H Q
theorem JG {k:Nat} (F:Fun K "owes" "owes" qi f fd) (B:Bt mg)
  (D_holds:Df P w K mg base "holds" k ["term","giving"] (cg K 4)):cu P w K mg base CX0 (k+1) f fd ["pledge","giving"] (qj K):=by
 refine F.ok vQ (fun vs H Q E h=>?_) (fun cdv A outer s H vs Q E hr h=>?_)
 ·obtain⟨a,g,n,p,ns,rfl,_⟩:=h
  rfl
 ·obtain⟨a,g,n,p,ns,rfl,⟨ok,vs,ha,rp⟩,hg,hn,q⟩:=h
  refine⟨_,(aA (gG PassesOwn.never rfl (Lq rfl B.reversed_ (aa (pv 0) aj)) (fZ (K:=K) 2 rfl rfl (bA (aH (i:=2) vQ.nd rfl (Or.inl rfl)) (bA (aH (i:=3) vQ.nd rfl (Or.inl rfl)) gf))) (aC (bV (dG (aY D_holds hr (aa (pv 3) (aa (pv 1) aj)))) (aC (aJ (pv 2))) aW)))
 (aC (aJ au))),?_⟩
  have el:=rp.length
  refine⟨_,rfl,a,vs,rfl,SqT.of ha,Jp (K:=K) (a:=a) (xs:=vs) (fun i σ H2=>(∃ u v,σ=[some (.ref a),some (.ref g),u,v])/\aU H H2/\owF ns p=owF ns (p.take (p.length - i)))
   ⟨⟨_,_,rfl⟩,aU.refl H,by rw[Nat.sub_zero,List.take_length]⟩ (fun i σ H2 _ h=>SqT.of (h.2.1 _ _ ha)) ?_ ?_⟩
  ·rintro i x σ H2 hi hx ⟨⟨u,v,rfl⟩,sm,ow⟩
   obtain⟨r,k0,y,t,rfl,hr0,rt,hp⟩:=rp.get hx
   have hm:=List.mem_of_getElem? hp
   have e1:p.length - i=vs.length - 1 - i+1:=by lia
   have e2:p.length - (i+1)=vs.length - 1 - i:=by lia
   rw[e1,xZ hp] at ow
   refine⟨r,_,rfl,SqT.of (sm _ _ hr0),rfl,_,_,rfl,_,_,rfl,rfl,?_⟩
   refine⟨_,rfl,_,rfl,y,g,n,t,ns,rfl,rt.mono sm,(ok.2.2.2 _ hm).2.2,cI sm hg,hn,fun H3 s3=>⟨_,rfl,?_⟩⟩
   cases e:hF ns t with
   | true =>
    refine oZ ⟨_,rfl,?_⟩
    rw[if_pos e] at ow
    have q':=q H3 (sm.trans s3)
    rw[ow] at q'
    exact q'
   | false =>
    refine jx ⟨⟨_,_,rfl⟩,sm.trans s3,?_⟩
    rw[if_neg (by rw[e]; exact Bool.false_ne_true)] at ow
    rw[e2]
    exact ow
  ·rintro σ H2 ⟨⟨u,v,rfl⟩,sm,ow⟩
   rw[el,Nat.sub_self,List.take_zero] at ow
   have q':=q H2 sm
   rw[ow] at q'
   exact q'
noncomputable abbrev dU:Stmt:=top 15
theorem ud:aL ["pledge"] ["pledge"] (aq dU):=⟨rfl,rfl,rfl,by decide+kernel,rfl,by decide+kernel,by decide+kernel⟩
inductive CK (vs:List V) (H:Hp) (Q:VK):Prop where
 | mk (a:Addr) (n:Nat) (p:Pl) (z0:vs=[.ref a]) (z1:zU n H a p) (z2:∀ H',aU H H'->Q (.int (lsF p)) H'):CK  vs H Q
noncomputable def Cy:Sp:=fun vs H Q _=>CK  vs H Q
theorem tE (F:Fun K "last_step" "last_step" dU f fd) (B:Bt mg) :
  cu P w K mg base CX0 1 f fd ["pledge"] Cy:=by
 refine F.ok ud (fun vs H Q E h=>?_) (fun cdv A outer s H vs Q E hr h=>?_)
 ·obtain⟨a,n,p,rfl,_⟩:=h
  rfl
 ·obtain⟨a,n,p,rfl,⟨ok,vs,ha,rp⟩,q⟩:=h
  refine⟨_,(aC (aJ (Kz rfl rfl B.max_ (aa (bD (L:=["step","term"]) (F:=[]) (cap:=[]) rfl (bh rfl rfl (by kernel_rfl)) (f9 (pv 0)) (fun _ _ _ _ _=>(fZ (K:=K) 2 rfl rfl (bA (aH (i:=0) (bc (by decide+kernel)) rfl (Or.inl rfl)) (bA (aH (i:=1) (bc (by decide+kernel)) rfl (Or.inl rfl)) gf)))) (fun _ _ _ _ _=>bC) (fun _ _ _ _ _=>(pv 0))) aj)))),?_⟩
  have el:=rp.length
  have l9:=ok.2.1
  refine⟨_,rfl,a,rfl,⟨_,SqT.of ha⟩,fun D hD=>dH (K:=K) (a:=a) (xs:=vs) (fun i zs σ' H2=>(∃ u v,σ'=[u,v])/\zs=((p.take i).map (·.1)).map V.int/\aU H H2/\H2 D=some (.lst zs))
   ⟨⟨_,_,rfl⟩,rfl,aB hD _,ao⟩ (fun i zs σ' H2 _ h=>⟨SqT.of (h.2.2.1 _ _ ha),h.2.2.2⟩) ?_ ?_⟩
  ·rintro j zs x σ' H2 hx ⟨⟨u,v,rfl⟩,e1,sm,hDl⟩
   obtain⟨r,k0,y,t,rfl,hr0,rt,hp⟩:=rp.get hx
   refine⟨r,_,rfl,SqT.of (sm _ _ hr0),rfl,_,_,rfl,_,_,rfl,rfl,?_⟩
   refine tT ?_
   refine⟨_,rfl,hDl,?_,⟨_,_,rfl⟩,?_,aP sm hD _,ao⟩
   ·rw[e1,List.length_map,List.length_map,List.length_take]
    exact aN (by lia)
   ·rw[e1,take_snoc (·.1) hp,List.map_append]
    rfl
  ·rintro zs σ' H2 ⟨_,e1,sm,hDl⟩
   rw[el,List.take_length] at e1
   refine⟨D,p.map (·.1),rfl,SqL.of (by rw[hDl,e1]),?_⟩
   exact q H2 sm
noncomputable abbrev cU:Stmt:=top 17
theorem oK:aL ["book","floor","giving"] ["book","floor","giving"] (aq cU):=⟨rfl,rfl,rfl,by decide+kernel,rfl,by decide+kernel,by decide+kernel⟩
inductive GZ (K:W.Frag) (vs:List V) (H:Hp) (Q:VK):Prop where
 | mk (b f g:Addr) (n:Nat) (bk:List (List Pl)) (fl ns:List Int) (z0:vs=[.ref b,.ref f,.ref g]) (z1:pK n H b bk) (z2:SqT K H f (fl.map V.int)) (z3:SqT K H g (ns.map V.int)) (z4:fl.length=bk.length) (z5:n<=ns.length) (z6:(∀ x∈fl,0<=x)) (z7:∀ (r:Addr) (H':Hp),aU H H'->H' r=some (.tup ((cL ns fl bk).map V.int))->Q (.ref r) H'):GZ K vs H Q
noncomputable def qO (K:W.Frag):Sp:=fun vs H Q _=>GZ K vs H Q
theorem oU {k:Nat} (F:Fun K "what_is_due" "what_is_due" cU f fd) (B:Bt mg)
  (D_owes:Df P w K mg base "owes" k ["pledge","giving"] (qj K)):cu P w K mg base CX0 (k+1) f fd ["book","floor","giving"] (qO K):=by
 refine F.ok oK (fun vs H Q E h=>?_) (fun cdv A outer s H vs Q E hr h=>?_)
 ·obtain⟨b,f,g,n,bk,fl,ns,rfl,_⟩:=h
  rfl
 ·obtain⟨b,f,g,n,bk,fl,ns,rfl,⟨us,hb,rb,l12⟩,hf,hg,hl,hn,h0,q⟩:=h
  refine⟨_,(aC (aJ (bM (r:=gJ K) bH rfl B.tuple_ cA (aa (bD (L:=["step","pledges"]) (F:=["giving"]) (cap:=[2]) rfl (bh rfl rfl (by kernel_rfl)) (HD rfl B.zip_ (aa (pv 1) (aa (pv 0) aj))) (fun _ _ _ _ _=>(fZ (K:=K) 2 rfl rfl (bA (aH (i:=0) (bc (by decide+kernel)) rfl (Or.inl rfl)) (bA (aH (i:=1) (bc (by decide+kernel)) rfl (Or.inl rfl)) gf)))) (fun _ _ _ _ _=>bC) (fun _ _ _ _ _=>(aM (r:=Fe K) (n8 rfl) rfl B.max_ pL (aa (aQ CN (bQ (aa (pv 0) aj)) (bD (L:=["pledge"]) (F:=["giving"]) (cap:=[2]) rfl (bh rfl rfl (by kernel_rfl)) (lY K rfl (pv 1)) (fun _ _ _ _ _=>(aH (i:=0) (bc (by decide+kernel)) rfl (Or.inl rfl))) (fun _ _ _ _ _=>bC) (fun _ _ _ _ _=>(aY D_owes hr (aa (pv 0) (aa (pv 1) aj)))))) aj)))) aj)))),?_⟩
  have el:=rb.length
  refine⟨_,rfl,_,rfl,f,b,_,_,rfl,hf,SqL.of hb,fun D hD=>xW (K:=K) (a:=f) (b:=b) (xs:=fl.map V.int) (ys:=us) (by rw[List.length_map]; lia)
   (fun i zs σ H2=>(∃ u v,σ=[u,v,some (.ref g)])/\zs=(List.zipWith (duF ns) (fl.take i) (bk.take i)).map V.int/\aU H H2/\H2 D=some (.lst zs)) ⟨⟨_,_,rfl⟩,rfl,aB hD _,ao⟩ (fun i zs σ H2 _ h=>⟨cI h.2.2.1 hf,SqL.of (h.2.2.1 _ _ hb),h.2.2.2⟩) ?_ ?_⟩
  ·rintro i zs x y p σ H2 hx hy hp ⟨⟨u,v,rfl⟩,e1,sm,hDl⟩
   obtain⟨m,hm,rfl⟩:=int_at hx
   obtain⟨c,as,ps,rfl,hps,hc,l100,rps⟩:=rb.get hy
   have ell:=rps.length
   generalize eH3:upd H2 p _=H3
   obtain⟨g3,e3⟩:=aG eH3 hp
   refine⟨p,_,rfl,SqT.of e3,rfl,_,_,rfl,_,_,rfl,rfl,?_⟩
   refine tT ?_
   refine⟨_,rfl,small (by show 1<=1000; decide),fun p4 h4=>?_⟩
   generalize eH4:upd H3 p4 _=H4
   obtain⟨g4,e4⟩:=aG eH4 h4
   have s4:aU H H4:=sm.trans (g3.trans g4)
   refine⟨_,rfl,c,rfl,⟨_,SqL.of (s4 _ _ hc)⟩,fun D2 hD2=>eG (K:=K) (a:=c) (xs:=as.map V.ref) (fun j ws σ' H5=>(∃ u,σ'=[u,some (.ref g)])/\ws=((ps.take j).map (owF ns)).map V.int/\aU H4 H5/\H5 D2=some (.lst ws))
    ⟨⟨_,rfl⟩,rfl,aB hD2 _,ao⟩ (fun j ws σ' H5 _ h=>⟨SqL.of (h.2.2.1 _ _ (s4 _ _ hc)),h.2.2.2⟩) ?_ ?_⟩
   ·rintro j ws x σ' H5 hx ⟨⟨u,rfl⟩,e5,s5,hD5⟩
    obtain⟨a,ha,rfl⟩:=Cg hx
    obtain⟨pl,hpl,rpl⟩:=rps.get ha
    refine gT ?_
    refine⟨_,rfl,_,rfl,a,g,n,pl,ns,rfl,rpl.mono (s4.trans s5),cI (s4.trans s5) hg,hn,fun H6 s6=>?_⟩
    refine⟨s6 _ _ hD5,?_,⟨_,rfl⟩,?_,aP (s5.trans s6) hD2 _,ao⟩
    ·rw[e5,List.length_map,List.length_map,List.length_take]
     exact aN (by lia)
    ·rw[e5,take_snoc (owF ns) hpl,List.map_append]
     rfl
   ·rintro ws σ' H5 ⟨_,e5,s5,hD5⟩
    rw[List.length_map,ell,List.take_length] at e5
    subst e5
    refine⟨p4,D2,_,_,rfl,rfl,s5 _ _ e4,hD5,small ?_,fun p6 h6=>?_⟩
    ·rw[List.length_map,List.length_map]
     show 1+ps.length<=1000
     lia
    generalize eH6:upd H5 p6 _=H6
    obtain⟨g6,e6⟩:=aG eH6 h6
    have sall:aU H2 H6:=g3.trans (g4.trans (s5.trans g6))
    refine⟨p6,m::ps.map (owF ns),rfl,SqL.of e6,by simp,sall _ _ hDl,?_,⟨_,_,rfl⟩,?_,aP (sm.trans sall) hD _,ao⟩
    ·rw[e1,List.length_map,List.length_zipWith,List.length_take]
     exact aN (by lia)
    ·rw[e1,mG (duF ns) hm hps,List.map_append]
     rfl
  ·rintro zs σ H2 ⟨_,e1,sm,hDl⟩
   refine⟨D,_,rfl,.inl ⟨SqL.of hDl,fun l hl'=>?_⟩⟩
   refine q l _ (sm.trans (aB hl' _)) ?_
   rw[ao,e1,List.length_map,List.take_length,hl,List.take_length]
   rfl
theorem dh {g fl:List Int} {bk:List (List Pl)} (h:fl.length=bk.length):(cL g fl bk).length=bk.length:=by
 unfold cL
 rw[List.length_zipWith]
 lia
noncomputable abbrev o6:Stmt:=top 21
theorem Ir:aL ["book","floor"] ["book","floor"] (aq o6):=⟨rfl,rfl,rfl,by decide+kernel,rfl,by decide+kernel,by decide+kernel⟩
inductive Bd (K:W.Frag) (vs:List V) (H:Hp) (Q:VK):Prop where
 | mk (b f:Addr) (n:Nat) (bk:List (List Pl)) (fl:List Int) (z0:vs=[.ref b,.ref f]) (z1:pK n H b bk) (z2:SqT K H f (fl.map V.int)) (z3:fl.length=bk.length) (z4:∀ (r:Addr) (H':Hp),aU H H'->H' r=some (.tup ((rfF fl bk).map V.int))->Q (.ref r) H'):Bd K vs H Q
noncomputable def Ax (K:W.Frag):Sp:=fun vs H Q _=>Bd K vs H Q
theorem Kd (F:Fun K "roof" "roof" o6 f fd) (B:Bt mg)
  (D_last_step:Df P w K mg base "last_step" 1 ["pledge"] Cy):cu P w K mg base CX0 2 f fd ["book","floor"] (Ax K):=by
 refine F.ok Ir (fun vs H Q E h=>?_) (fun cdv A outer s H vs Q E hr h=>?_)
 ·obtain⟨b,f,n,bk,fl,rfl,_⟩:=h
  rfl
 ·obtain⟨b,f,n,bk,fl,rfl,⟨us,hb,rb,l12⟩,hf,hl,q⟩:=h
  refine⟨_,(aC (aJ (bM (r:=gJ K) bH rfl B.tuple_ cA (aa (bD (L:=["step","pledges"]) (F:=[]) (cap:=[]) rfl (bh rfl rfl (by kernel_rfl)) (HD rfl B.zip_ (aa (pv 1) (aa (pv 0) aj))) (fun _ _ _ _ _=>(fZ (K:=K) 2 rfl rfl (bA (aH (i:=0) (bc (by decide+kernel)) rfl (Or.inl rfl)) (bA (aH (i:=1) (bc (by decide+kernel)) rfl (Or.inl rfl)) gf)))) (fun _ _ _ _ _=>bC) (fun _ _ _ _ _=>(aM (r:=Fe K) (n8 rfl) rfl B.max_ pL (aa (aQ CN (bQ (aa (pv 0) aj)) (bD (L:=["pledge"]) (F:=[]) (cap:=[]) rfl (bh rfl rfl (by kernel_rfl)) (lY K rfl (pv 1)) (fun _ _ _ _ _=>(aH (i:=0) (bc (by decide+kernel)) rfl (Or.inl rfl))) (fun _ _ _ _ _=>bC) (fun _ _ _ _ _=>(aY D_last_step hr (aa (pv 0) aj))))) aj)))) aj)))),?_⟩
  have el:=rb.length
  refine⟨_,rfl,_,rfl,f,b,_,_,rfl,hf,SqL.of hb,fun D hD=>xW (K:=K) (a:=f) (b:=b) (xs:=fl.map V.int) (ys:=us) (by rw[List.length_map]; lia)
   (fun i zs σ H2=>(∃ u v,σ=[u,v])/\zs=(List.zipWith rfS (fl.take i) (bk.take i)).map V.int/\aU H H2/\H2 D=some (.lst zs)) ⟨⟨_,_,rfl⟩,rfl,aB hD _,ao⟩ (fun i zs σ H2 _ h=>⟨cI h.2.2.1 hf,SqL.of (h.2.2.1 _ _ hb),h.2.2.2⟩) ?_ ?_⟩
  ·rintro i zs x y p σ H2 hx hy hp ⟨⟨u,v,rfl⟩,e1,sm,hDl⟩
   obtain⟨m,hm,rfl⟩:=int_at hx
   obtain⟨c,as,ps,rfl,hps,hc,l100,rps⟩:=rb.get hy
   have ell:=rps.length
   generalize eH3:upd H2 p _=H3
   obtain⟨g3,e3⟩:=aG eH3 hp
   refine⟨p,_,rfl,SqT.of e3,rfl,_,_,rfl,_,_,rfl,rfl,?_⟩
   refine tT ?_
   refine⟨_,rfl,small (by show 1<=1000; decide),fun p4 h4=>?_⟩
   generalize eH4:upd H3 p4 _=H4
   obtain⟨g4,e4⟩:=aG eH4 h4
   have s4:aU H H4:=sm.trans (g3.trans g4)
   refine⟨_,rfl,c,rfl,⟨_,SqL.of (s4 _ _ hc)⟩,fun D2 hD2=>eG (K:=K) (a:=c) (xs:=as.map V.ref) (fun j ws σ' H5=>(∃ u,σ'=[u])/\ws=((ps.take j).map lsF).map V.int/\aU H4 H5/\H5 D2=some (.lst ws))
    ⟨⟨_,rfl⟩,rfl,aB hD2 _,ao⟩ (fun j ws σ' H5 _ h=>⟨SqL.of (h.2.2.1 _ _ (s4 _ _ hc)),h.2.2.2⟩) ?_ ?_⟩
   ·rintro j ws x σ' H5 hx ⟨⟨u,rfl⟩,e5,s5,hD5⟩
    obtain⟨a,ha,rfl⟩:=Cg hx
    obtain⟨pl,hpl,rpl⟩:=rps.get ha
    refine gT ?_
    refine⟨_,rfl,a,n,pl,rfl,rpl.mono (s4.trans s5),fun H6 s6=>?_⟩
    refine⟨s6 _ _ hD5,?_,⟨_,rfl⟩,?_,aP (s5.trans s6) hD2 _,ao⟩
    ·rw[e5,List.length_map,List.length_map,List.length_take]
     exact aN (by lia)
    ·rw[e5,take_snoc lsF hpl,List.map_append]
     rfl
   ·rintro ws σ' H5 ⟨_,e5,s5,hD5⟩
    rw[List.length_map,ell,List.take_length] at e5
    subst e5
    refine⟨p4,D2,_,_,rfl,rfl,s5 _ _ e4,hD5,small ?_,fun p6 h6=>?_⟩
    ·rw[List.length_map,List.length_map]
     show 1+ps.length<=1000
     lia
    generalize eH6:upd H5 p6 _=H6
    obtain⟨g6,e6⟩:=aG eH6 h6
    have sall:aU H2 H6:=g3.trans (g4.trans (s5.trans g6))
    refine⟨p6,m::ps.map lsF,rfl,SqL.of e6,by simp,sall _ _ hDl,?_,⟨_,_,rfl⟩,?_,aP (sm.trans sall) hD _,ao⟩
    ·rw[e1,List.length_map,List.length_zipWith,List.length_take]
     exact aN (by lia)
    ·rw[e1,mG rfS hm hps,List.map_append]
     rfl
  ·rintro zs σ H2 ⟨_,e1,sm,hDl⟩
   refine⟨D,_,rfl,.inl ⟨SqL.of hDl,fun l hl'=>?_⟩⟩
   refine q l _ (sm.trans (aB hl' _)) ?_
   rw[ao,e1,List.length_map,List.take_length,hl,List.take_length]
   rfl
noncomputable def abv:List Int->List Int->Bool
 | n::ns,m::ms=>decide (m<=n) && abv ns ms
 | _,_=>true
theorem xg:∀ {ns ms:List Int} {i:Nat} {n m:Int},ns[i]? = some n->ms[i]? = some m->abv (ns.take (i+1)) (ms.take (i+1))=(abv (ns.take i) (ms.take i) && decide (m<=n))
 | [],_,_,_,_,h,_=>by simp at h
 | _::_,[],_,_,_,_,h=>by simp at h
 | a::ns,b::ms,0,n,m,h1,h2=>by
  cases (show some a=some n from h1)
  cases (show some b=some m from h2)
  rw[List.take_succ_cons,List.take_succ_cons,abv,List.take_zero,List.take_zero,List.take_zero,abv]
  ·rw[Bool.and_true]
   rfl
  ·simp
 | a::ns,b::ms,i+1,n,m,h1,h2=>by
  have ih:=xg (ns:=ns) (ms:=ms) (i:=i) (n:=n) (m:=m) (by simpa using h1) (by simpa using h2)
  rw[List.take_succ_cons,List.take_succ_cons,abv,ih,List.take_succ_cons,List.take_succ_cons,abv,Bool.and_assoc]
theorem uK:∀ {ns ms:List Int} {i:Nat} {n m:Int},ns[i]? = some n->ms[i]? = some m->n < m->abv ns ms=false
 | [],_,_,_,_,h,_,_=>by simp at h
 | _::_,[],_,_,_,_,h,_=>by simp at h
 | a::ns,b::ms,0,n,m,h1,h2,h=>by
  cases (show some a=some n from h1)
  cases (show some b=some m from h2)
  rw[abv,decide_eq_false (by lia),Bool.false_and]
 | a::ns,b::ms,i+1,n,m,h1,h2,h=>by
  rw[abv,uK (ns:=ns) (ms:=ms) (i:=i) (by simpa using h1) (by simpa using h2) h,Bool.and_false]
inductive ym (K:W.Frag) (vs:List V) (H:Hp) (Q:VK):Prop where
 | mk (a b:Addr) (ns ms:List Int) (z0:vs=[.ref a,.ref b]) (z1:SqT K H a (ns.map V.int)) (z2:SqT K H b (ms.map V.int)) (z3:ns.length=ms.length) (z4:∀ H',aU H H'->Q (.bl (abv ns ms)) H'):ym K vs H Q
noncomputable def qm (K:W.Frag):Sp:=fun vs H Q _=>ym K vs H Q
noncomputable abbrev kY:Stmt:=top 6
theorem rJ:aL ["one","other","step","least"] ["one","other"] (aq kY):=⟨rfl,rfl,rfl,by decide+kernel,rfl,by decide+kernel,by decide+kernel⟩
theorem Eu (F:Fun K "above" "above" kY f fd) (B:Bt mg) :
  cu P w K mg base CX0 1 f fd ["one","other"] (qm K):=by
 refine F.ok rJ (fun vs H Q E h=>?_) (fun cdv A outer s H vs Q E hr h=>?_)
 ·obtain⟨a,b,ns,ms,rfl,_⟩:=h
  rfl
 ·obtain⟨a,b,ns,ms,rfl,hA,hB,hl,q⟩:=h
  refine⟨_,(aA (gG PassesOwn.never rfl (CP rfl B.zip_ (aa (pv 0) (aa (pv 1) aj))) (fZ (K:=K) 2 rfl rfl (bA (aH (i:=2) rJ.nd rfl (Or.inl rfl)) (bA (aH (i:=3) rJ.nd rfl (Or.inl rfl)) gf))) (aC (bV (aX Ba (pv 2) (pv 3) (aZ _)) (aC (aJ j5)) aW)))
 (aC (aJ j5))),?_⟩
  refine⟨_,rfl,_,rfl,a,b,_,_,rfl,hA,hB,Jy (K:=K) (a:=a) (b:=b) (xs:=ns.map V.int) (ys:=ms.map V.int) (by rw[List.length_map,List.length_map]; exact hl)
   (fun i σ H2=>(∃ u v,σ=[some (.ref a),some (.ref b),u,v])/\aU H H2/\abv (ns.take i) (ms.take i)=true) ⟨⟨_,_,rfl⟩,aU.refl H,?_⟩ (fun i σ H2 _ h=>⟨cI h.2.1 hA,cI h.2.1 hB⟩) ?_ ?_⟩
  ·rw[List.take_zero,List.take_zero,abv]
   simp
  ·rintro i x y p σ H2 hx hy hp ⟨⟨u,v,rfl⟩,sm,ab⟩
   obtain⟨n,hn,rfl⟩:=int_at hx
   obtain⟨m,hm,rfl⟩:=int_at hy
   refine⟨p,_,rfl,SqT.of ao,rfl,_,_,rfl,_,_,rfl,rfl,?_⟩
   refine⟨_,rfl,_,rfl,_,_,rfl,rfl,_,rfl,?_⟩
   have sm2:=sm.trans (aB hp (.tup [.int n,.int m]))
   refine vg (fun c=>?_) (fun c=>?_)
   ·have q':=q _ sm2
    rw[uK hn hm (of_decide_eq_true c)] at q'
    exact q'
   ·refine⟨⟨_,_,rfl⟩,sm2,?_⟩
    have c':¬ n < m:=fun z=>c (decide_eq_true z)
    rw[xg hn hm,ab,decide_eq_true (by lia)]
    rfl
  ·rintro σ H2 ⟨⟨u,v,rfl⟩,sm,ab⟩
   have q':=q _ sm
   rw[List.length_map,List.take_length,hl,List.take_length] at ab
   rw[ab] at q'
   exact q'
inductive yp (K:W.Frag) (Φ:List Int->List Int->Bool) (vs:List V) (H:Hp) (Q:VK):Prop where
 | mk (b f g:Addr) (n:Nat) (bk:List (List Pl)) (fl ns:List Int) (z0:vs=[.ref b,.ref f,.ref g]) (z1:pK n H b bk) (z2:SqT K H f (fl.map V.int)) (z3:SqT K H g (ns.map V.int)) (z4:fl.length=bk.length) (z5:ns.length=bk.length) (z6:n<=ns.length) (z7:(∀ x∈fl,0<=x)) (z8:∀ (H':Hp),aU H H'->Q (.bl (Φ (cL ns fl bk) ns)) H'):yp K Φ vs H Q
noncomputable def iH (K:W.Frag) (Φ:List Int->List Int->Bool):Sp:=fun vs H Q _=>yp K Φ vs H Q
noncomputable abbrev pG:Stmt:=top 18
noncomputable abbrev j0:Stmt:=top 19
theorem Ko:aL ["book","floor","giving"] ["book","floor","giving"] (aq pG):=⟨rfl,rfl,rfl,by decide+kernel,rfl,by decide+kernel,by decide+kernel⟩
theorem EY:aL ["book","floor","giving"] ["book","floor","giving"] (aq j0):=⟨rfl,rfl,rfl,by decide+kernel,rfl,by decide+kernel,by decide+kernel⟩
theorem J0 {k:Nat} (hk1:1<=k) (F:Fun K "kept" "kept" pG f fd) (B:Bt mg)
  (D_what_is_due:Df P w K mg base "what_is_due" k ["book","floor","giving"] (qO K)) (D_above:Df P w K mg base "above" 1 ["one","other"] (qm K)):cu P w K mg base CX0 (k+1) f fd ["book","floor","giving"] (iH K abv):=by
 refine F.ok Ko (fun vs H Q E h=>?_) (fun cdv A outer s H vs Q E hr h=>?_)
 ·obtain⟨b,f,g,n,bk,fl,ns,rfl,_⟩:=h
  rfl
 ·obtain⟨b,f,g,n,bk,fl,ns,rfl,hb,hf,hg,hl,hm,hn,h0,q⟩:=h
  refine⟨_,(aC (aJ (aY D_above hr (aa (aY D_what_is_due hr (aa (pv 0) (aa (pv 1) (aa (pv 2) aj)))) (aa (pv 2) aj))))),?_⟩
  exact⟨_,rfl,_,rfl,_,rfl,b,f,g,n,bk,fl,ns,rfl,hb,hf,hg,hl,hn,h0,fun r H1 s1 e1=>⟨_,rfl,r,g,_,_,rfl,SqT.of e1,cI s1 hg,by rw[dh hl]; lia,fun H2 s2=>q H2 (s1.trans s2)⟩⟩
theorem DY {k:Nat} (hk1:1<=k) (F:Fun K "clear" "clear" j0 f fd) (B:Bt mg)
  (D_what_is_due:Df P w K mg base "what_is_due" k ["book","floor","giving"] (qO K)) (D_above:Df P w K mg base "above" 1 ["one","other"] (qm K)):cu P w K mg base CX0 (k+1) f fd ["book","floor","giving"] (iH K fun d g=>abv g d):=by
 refine F.ok EY (fun vs H Q E h=>?_) (fun cdv A outer s H vs Q E hr h=>?_)
 ·obtain⟨b,f,g,n,bk,fl,ns,rfl,_⟩:=h
  rfl
 ·obtain⟨b,f,g,n,bk,fl,ns,rfl,hb,hf,hg,hl,hm,hn,h0,q⟩:=h
  refine⟨_,(aC (aJ (aY D_above hr (aa (pv 2) (aa (aY D_what_is_due hr (aa (pv 0) (aa (pv 1) (aa (pv 2) aj)))) aj))))),?_⟩
  exact⟨_,rfl,_,rfl,_,rfl,_,rfl,b,f,g,n,bk,fl,ns,rfl,hb,hf,hg,hl,hn,h0,fun r H1 s1 e1=>⟨g,r,_,_,rfl,cI s1 hg,SqT.of e1,by rw[dh hl]; lia,fun H2 s2=>q H2 (s1.trans s2)⟩⟩
noncomputable abbrev pU:Stmt:=top 20
theorem Jr:aL ["book","floor","giving"] ["book","floor","giving"] (aq pU):=⟨rfl,rfl,rfl,by decide+kernel,rfl,by decide+kernel,by decide+kernel⟩
theorem Kf {k:Nat} (F:Fun K "even" "even" pU f fd) (B:Bt mg)
  (D_what_is_due:Df P w K mg base "what_is_due" k ["book","floor","giving"] (qO K)):cu P w K mg base CX0 (k+1) f fd ["book","floor","giving"] (iH K fun d g=>decide (d=g)):=by
 refine F.ok Jr (fun vs H Q E h=>?_) (fun cdv A outer s H vs Q E hr h=>?_)
 ·obtain⟨b,f,g,n,bk,fl,ns,rfl,_⟩:=h
  rfl
 ·obtain⟨b,f,g,n,bk,fl,ns,rfl,hb,hf,hg,hl,hm,hn,h0,q⟩:=h
  refine⟨_,(aC (aJ (cM (r:=Gs K) (vV hr.ql) (aY D_what_is_due hr (aa (pv 0) (aa (pv 1) (aa (pv 2) aj)))) (pv 2) (aZ _)))),?_⟩
  exact⟨_,rfl,_,rfl,_,rfl,b,f,g,n,bk,fl,ns,rfl,hb,hf,hg,hl,hn,h0,fun r H1 s1 e1=>⟨_,rfl,r,g,_,_,rfl,rfl,SqT.of e1,cI s1 hg,q H1 s1⟩⟩
noncomputable abbrev fU:Stmt:=top 47
theorem gA:aL ["_law_pledge_here","_law_giving_here","_law_found","_law_step","_law_term_here"] ["_law_pledge_here","_law_giving_here"] (aq fU):=⟨rfl,rfl,rfl,by decide+kernel,rfl,by decide+kernel,by decide+kernel⟩
theorem wy {k:Nat} (F:Fun K "_law_owes" "_law_owes" fU f fd) (B:Bt mg)
  (D_law_holds:Df P w K mg base "_law_holds" k ["_law_term_here","_law_giving_here"] (cg K 4)):cu P w K mg base CX0 (k+1) f fd ["_law_pledge_here","_law_giving_here"] (qj K):=by
 refine F.ok gA (fun vs H Q E h=>?_) (fun cdv A outer s H vs Q E hr h=>?_)
 ·obtain⟨a,g,n,p,ns,rfl,_⟩:=h
  rfl
 ·obtain⟨a,g,n,p,ns,rfl,⟨ok,vs,ha,rp⟩,hg,hn,q⟩:=h
  refine⟨_,(aA (bu (i:=2) gA.nd rfl (Or.inl rfl) au)
 (aA (gG PassesOwn.never rfl (f9 (pv 0)) (fZ (K:=K) 2 rfl rfl (bA (aH (i:=3) gA.nd rfl (Or.inl rfl)) (bA (aH (i:=4) gA.nd rfl (Or.inl rfl)) gf))) (aC (bV (dG (aY D_law_holds hr (aa (pv 4) (aa (pv 1) aj)))) (aC (bu (i:=2) gA.nd rfl (Or.inl rfl) (pv 3))) aW)))
 (aC (aJ (pv 2))))),?_⟩
  have el:=rp.length
  refine⟨_,rfl,a,rfl,⟨_,SqT.of ha⟩,oA (K:=K) (a:=a) (xs:=vs) (fun i σ H2=>(∃ u v,σ=[some (.ref a),some (.ref g),some (.int (owF ns (p.take i))),u,v])/\aU H H2)
   ⟨⟨_,_,rfl⟩,aU.refl H⟩ (fun i σ H2 _ h=>SqT.of (h.2 _ _ ha)) ?_ ?_⟩
  ·rintro i x σ H2 hx ⟨⟨u,v,rfl⟩,sm⟩
   obtain⟨r,k0,y,t,rfl,hr0,rt,hp⟩:=rp.get hx
   have hm:=List.mem_of_getElem? hp
   have ow:=xZ (g:=ns) hp
   refine⟨r,_,rfl,SqT.of (sm _ _ hr0),rfl,_,_,rfl,_,_,rfl,rfl,?_⟩
   refine⟨_,rfl,_,rfl,y,g,n,t,ns,rfl,rt.mono sm,(ok.2.2.2 _ hm).2.2,cI sm hg,hn,fun H3 s3=>⟨_,rfl,?_⟩⟩
   cases e:hF ns t with
   | true =>
    rw[if_pos e] at ow
    refine oZ ⟨_,rfl,⟨some (.int k0),some y,?_⟩,sm.trans s3⟩
    rw[ow]
    rfl
   | false =>
    rw[if_neg (by rw[e]; exact Bool.false_ne_true)] at ow
    refine jx ⟨⟨some (.int k0),some y,?_⟩,sm.trans s3⟩
    rw[ow]
    rfl
  ·rintro σ H2 ⟨⟨u,v,rfl⟩,sm⟩
   have q':=q H2 sm
   refine⟨_,rfl,?_⟩
   rw[el,List.take_length]
   exact q'
noncomputable abbrev fP:Stmt:=top 48
theorem vR:aL ["_law_some","_law_giving_here"] ["_law_some","_law_giving_here"] (aq fP):=⟨rfl,rfl,rfl,by decide+kernel,rfl,by decide+kernel,by decide+kernel⟩
inductive Dg (K:W.Frag) (vs:List V) (H:Hp) (Q:VK):Prop where
 | mk (c g:Addr) (n:Nat) (as:List Addr) (ps:List Pl) (ns:List Int) (z0:vs=[.ref c,.ref g]) (z1:H c=some (.lst (as.map V.ref))) (z2:as.length<=100) (z3:gm n H as ps) (z4:SqT K H g (ns.map V.int)) (z5:n<=ns.length) (z6:∀ H',aU H H'->Q (.int (duF ns 0 ps)) H'):Dg K vs H Q
noncomputable def DQ (K:W.Frag):Sp:=fun vs H Q _=>Dg K vs H Q
theorem wC {k:Nat} (F:Fun K "_law_owed" "_law_owed" fP f fd) (B:Bt mg)
  (D_law_owes:Df P w K mg base "_law_owes" k ["_law_pledge_here","_law_giving_here"] (qj K)):cu P w K mg base CX0 (k+1) f fd ["_law_some","_law_giving_here"] (DQ K):=by
 refine F.ok vR (fun vs H Q E h=>?_) (fun cdv A outer s H vs Q E hr h=>?_)
 ·obtain⟨c,g,n,as,ps,ns,rfl,_⟩:=h
  rfl
 ·obtain⟨c,g,n,as,ps,ns,rfl,hc,l100,rps,hg,hn,q⟩:=h
  refine⟨_,(aC (aJ (aM (r:=Fe K) (n8 rfl) rfl B.max_ pL (aa (aQ CN (bQ (aa au aj)) (bD (L:=["_law_pledge_here"]) (F:=["_law_giving_here"]) (cap:=[1]) rfl (bh rfl rfl (by kernel_rfl)) (eN (pv 0)) (fun _ _ _ _ _=>(aH (i:=0) (bc (by decide+kernel)) rfl (Or.inl rfl))) (fun _ _ _ _ _=>bC) (fun _ _ _ _ _=>(aY D_law_owes hr (aa (pv 0) (aa (pv 1) aj)))))) aj)))),?_⟩
  have ell:=rps.length
  refine⟨small (by show 1<=1000; decide),fun p4 h4=>?_⟩
  generalize eH4:upd H p4 _=H4
  obtain⟨g4,e4⟩:=aG eH4 h4
  refine⟨_,rfl,c,rfl,⟨_,SqL.of (g4 _ _ hc)⟩,fun D2 hD2=>eG (K:=K) (a:=c) (xs:=as.map V.ref) (fun j ws σ' H5=>(∃ u,σ'=[u,some (.ref g)])/\ws=((ps.take j).map (owF ns)).map V.int/\aU H4 H5/\H5 D2=some (.lst ws))
   ⟨⟨_,rfl⟩,rfl,aB hD2 _,ao⟩ (fun j ws σ' H5 _ h=>⟨SqL.of (h.2.2.1 _ _ (g4 _ _ hc)),h.2.2.2⟩) ?_ ?_⟩
  ·rintro j ws x σ' H5 hx ⟨⟨u,rfl⟩,e5,s5,hD5⟩
   obtain⟨a,ha,rfl⟩:=Cg hx
   obtain⟨pl,hpl,rpl⟩:=rps.get ha
   refine gT ?_
   refine⟨_,rfl,_,rfl,a,g,n,pl,ns,rfl,rpl.mono (g4.trans s5),cI (g4.trans s5) hg,hn,fun H6 s6=>?_⟩
   refine⟨s6 _ _ hD5,?_,⟨_,rfl⟩,?_,aP (s5.trans s6) hD2 _,ao⟩
   ·rw[e5,List.length_map,List.length_map,List.length_take]
    exact aN (by lia)
   ·rw[e5,take_snoc (owF ns) hpl,List.map_append]
    rfl
  ·rintro ws σ' H5 ⟨_,e5,s5,hD5⟩
   rw[List.length_map,ell,List.take_length] at e5
   subst e5
   refine⟨p4,D2,_,_,rfl,rfl,s5 _ _ e4,hD5,small ?_,fun p6 h6=>?_⟩
   ·rw[List.length_map,List.length_map]
    show 1+ps.length<=1000
    lia
   generalize eH6:upd H5 p6 _=H6
   obtain⟨g6,e6⟩:=aG eH6 h6
   refine⟨p6,0::ps.map (owF ns),rfl,SqL.of e6,by simp,?_⟩
   exact q H6 (g4.trans (s5.trans g6))
noncomputable abbrev iD:Stmt:=top 49
theorem zp:aL ["_law_book_here","_law_floor","_law_giving_here"] ["_law_book_here","_law_floor","_law_giving_here"] (aq iD):=⟨rfl,rfl,rfl,by decide+kernel,rfl,by decide+kernel,by decide+kernel⟩
theorem yV {k:Nat} (F:Fun K "_law_due" "_law_due" iD f fd) (B:Bt mg)
  (D_law_owed:Df P w K mg base "_law_owed" k ["_law_some","_law_giving_here"] (DQ K)):cu P w K mg base CX0 (k+1) f fd ["_law_book_here","_law_floor","_law_giving_here"] (qO K):=by
 refine F.ok zp (fun vs H Q E h=>?_) (fun cdv A outer s H vs Q E hr h=>?_)
 ·obtain⟨b,f,g,n,bk,fl,ns,rfl,_⟩:=h
  rfl
 ·obtain⟨b,f,g,n,bk,fl,ns,rfl,⟨us,hb,rb,l12⟩,hf,hg,hl,hn,h0,q⟩:=h
  refine⟨_,(aC (aJ (bM (r:=gJ K) bH rfl B.tuple_ cA (aa (bD (L:=["_law_at"]) (F:=["_law_floor","_law_giving_here","_law_book_here"]) (cap:=[1,2,0]) rfl (bh rfl rfl (by kernel_rfl)) (cD rfl B.range_ (aa (aM (r:=yx K) cj rfl B.len_ ie (aa (pv 0) aj)) aj)) (fun _ _ _ _ _=>(aH (i:=0) (bc (by decide+kernel)) rfl (Or.inl rfl))) (fun _ _ _ _ _=>bC) (fun _ _ _ _ _=>(aM (nA rfl) rfl B.max_ pL (aa (aV (r:=gC K) bw (pv 1) (pv 0) (fun _ _=>rfl)) (aa (aY D_law_owed hr (aa (aV (r:=eU K) aO (pv 3) (pv 0) (fun _ _=>rfl)) (aa (pv 2) aj))) aj))))) aj)))),?_⟩
  have el:=rb.length
  refine⟨_,rfl,b,_,rfl,.inl (SqL.of hb),_,rfl,by lia,by lia,fun D hD=>cF (lo:=0) (n:=us.length) (fun i zs σ' H2=>(∃ u,σ'=[u,some (.ref f),some (.ref g),some (.ref b)])/\zs=(List.zipWith (duF ns) (fl.take i) (bk.take i)).map V.int/\aU H H2/\H2 D=some (.lst zs))
   ⟨⟨_,rfl⟩,rfl,aB hD _,ao⟩ (fun i zs σ' H2 _ h=>h.2.2.2) ?_ ?_⟩
  ·rintro i zs σ' H2 hi ⟨⟨u,rfl⟩,e1,sm,hDl⟩
   have jn:i < fl.length:=by lia
   have at1:atI (fl.map V.int) (0+(i:Int))=some (.int fl[i]):=by rw[Int.zero_add]; exact nM jn
   have hy:us[i]? = some us[i]:=List.getElem?_eq_getElem hi
   obtain⟨c,as,ps,ec,hps,hc,l100,rps⟩:=rb.get hy
   have at2:atI us (0+(i:Int))=some (.ref c):=by rw[Int.zero_add,← ec]; exact iY hy
   have hf0:=h0 fl[i] (List.getElem_mem jn)
   refine gT ?_
   refine⟨_,rfl,_,rfl,f,_,_,_,rfl,rfl,cI sm hf,at1,_,rfl,_,rfl,b,_,_,_,rfl,rfl,SqL.of (sm _ _ hb),at2,_,rfl,c,g,n,as,ps,ns,rfl,sm _ _ hc,l100,rps.bR (fun a xs q=>sm a _ q),cI sm hg,hn,fun H3 s3=>?_⟩
   refine⟨_,_,rfl,s3 _ _ hDl,?_,⟨_,rfl⟩,?_,aP (sm.trans s3) hD _,ao⟩
   ·rw[e1,List.length_map,List.length_zipWith,List.length_take]
    exact aN (by lia)
   ·have ez:(if duF ns 0 ps > fl[i] then duF ns 0 ps else fl[i])=duF ns fl[i] ps:=by
     rw[Gu ns hf0 ps]
     split <;> lia
    rw[ez,e1,mG (duF ns) (List.getElem?_eq_getElem jn) hps,List.map_append]
    rfl
  ·rintro zs σ' H2 ⟨_,e1,sm,hDl⟩
   refine⟨D,_,rfl,.inl ⟨SqL.of hDl,fun l hl'=>?_⟩⟩
   refine q l _ (sm.trans (aB hl' _)) ?_
   rw[ao,e1,el,List.take_length,← hl,List.take_length]
   rfl
noncomputable abbrev d9:Stmt:=top 51
theorem ug:aL ["_law_one","_law_other"] ["_law_one","_law_other"] (aq d9):=⟨rfl,rfl,rfl,by decide+kernel,rfl,by decide+kernel,by decide+kernel⟩
noncomputable def geB (n m:Int):Bool:=decide (m<=n)
theorem Bf : ∀ {ns ms : List Int}, ns.length = ms.length → (List.zipWith geB ns ms).all (fun b => b) = abv ns ms
  | [], [], _ => by rw [abv]; · rfl
                    all_goals simp
  | n :: ns, m :: ms, h => by
    rw [List.zipWith_cons_cons, List.all_cons, abv, Bf (by simpa using h)]
    rfl
inductive tZ (K:W.Frag) (vs:List V) (H:Hp) (Q:VK):Prop where
 | mk (a b:Addr) (ns ms:List Int) (z0:vs=[.ref a,.ref b]) (z1:SqT K H a (ns.map V.int)) (z2:SqT K H b (ms.map V.int)) (z3:ns.length=ms.length) (z4:ns.length<=1000) (z5:∀ H',aU H H'->Q (.bl (abv ns ms)) H'):tZ K vs H Q
noncomputable def rG (K:W.Frag):Sp:=fun vs H Q _=>tZ K vs H Q
theorem uq (F:Fun K "_law_above" "_law_above" d9 f fd) (B:Bt mg) :
  cu P w K mg base CX0 1 f fd ["_law_one","_law_other"] (rG K):=by
 refine F.ok ug (fun vs H Q E h=>?_) (fun cdv A outer s H vs Q E hr h=>?_)
 ·obtain⟨a,b,ns,ms,rfl,_⟩:=h
  rfl
 ·obtain⟨a,b,ns,ms,rfl,hA,hB,hl,hk,q⟩:=h
  refine⟨_,(aC (aJ (aM (r:=zc K) (iU rfl) rfl B.all_ uJ (aa (bD (L:=["_law_at"]) (F:=["_law_one","_law_other"]) (cap:=[0,1]) rfl (bh rfl rfl (by kernel_rfl)) (cD rfl B.range_ (aa (aM (r:=yx K) cj rfl B.len_ ie (aa (pv 0) aj)) aj)) (fun _ _ _ _ _=>(aH (i:=0) (bc (by decide+kernel)) rfl (Or.inl rfl))) (fun _ _ _ _ _=>bC) (fun _ _ _ _ _=>(cM nD (aV (r:=gC K) bw (pv 1) (pv 0) (fun _ _=>rfl)) (aV (r:=gC K) bw (pv 2) (pv 0) (fun _ _=>rfl)) (aZ _)))) aj)))),?_⟩
  have ll:(ns.map V.int).length=ns.length:=List.length_map _
  refine⟨_,rfl,a,_,rfl,.inr hA,_,rfl,by lia,by lia,fun D hD=>cF (lo:=0) (n:=(ns.map V.int).length) (fun i zs σ' H2=>(∃ v,σ'=[v,some (.ref a),some (.ref b)])/\zs=(List.zipWith geB (ns.take i) (ms.take i)).map V.bl/\aU H H2/\H2 D=some (.lst zs))
   ⟨⟨_,rfl⟩,rfl,aB hD _,ao⟩ (fun i zs σ' H2 _ h=>h.2.2.2) ?_ ?_⟩
  ·rintro i zs σ' H2 hi ⟨⟨v,rfl⟩,e1,sm,hDl⟩
   have jn:i < ns.length:=by lia
   have jm:i < ms.length:=by lia
   have at1:atI (ns.map V.int) (0+(i:Int))=some (.int ns[i]):=by rw[Int.zero_add]; exact nM jn
   have at2:atI (ms.map V.int) (0+(i:Int))=some (.int ms[i]):=by rw[Int.zero_add]; exact nM jm
   refine gT ?_
   refine⟨_,rfl,_,rfl,a,_,_,_,rfl,rfl,cI sm hA,at1,_,rfl,_,rfl,b,_,_,_,rfl,rfl,cI sm hB,at2,_,_,rfl,rfl,hDl,?_,⟨_,rfl⟩,?_,aP sm hD _,ao⟩
   ·rw[e1,List.length_map,List.length_zipWith,List.length_take]
    exact aN (by lia)
   ·rw[e1,mG geB (List.getElem?_eq_getElem jn) (List.getElem?_eq_getElem jm),List.map_append]
    rfl
  ·rintro zs σ' H2 ⟨_,e1,sm,hDl⟩
   refine⟨D,List.zipWith geB ns ms,rfl,SqL.of (by rw[hDl,e1,ll,List.take_length,hl,List.take_length]),?_⟩
   rw[Bf hl]
   exact q H2 sm
noncomputable abbrev jg:Stmt:=top 7
theorem Cw:aL ["one","other"] ["one","other"] (aq jg):=⟨rfl,rfl,rfl,by decide+kernel,rfl,by decide+kernel,by decide+kernel⟩
noncomputable def mxI (i j:Int):Int:=if j > i then j else i
theorem DX {ns ms:List Int} {i:Nat} {n m:Int} (h1:ns[i]? = some n) (h2:ms[i]? = some m):List.zipWith mxI (ns.take (i+1)) (ms.take (i+1))=List.zipWith mxI (ns.take i) (ms.take i)++[mxI n m]:=by
 have l1:i < ns.length:=(List.getElem?_eq_some_iff.mp h1).1
 have l2:i < ms.length:=(List.getElem?_eq_some_iff.mp h2).1
 rw[List.take_add_one,List.take_add_one,h1,h2]
 show List.zipWith mxI (ns.take i++[n]) (ms.take i++[m])=_
 rw[List.zipWith_append (by rw[List.length_take,List.length_take]; lia)]
 rfl
inductive sZ (K:W.Frag) (vs:List V) (H:Hp) (Q:VK):Prop where
 | mk (a b:Addr) (ns ms:List Int) (z0:vs=[.ref a,.ref b]) (z1:SqT K H a (ns.map V.int)) (z2:SqT K H b (ms.map V.int)) (z3:ns.length=ms.length) (z4:ns.length<=1000) (z5:∀ (r:Addr) (H':Hp),aU H H'->H r=none->H' r=some (.tup ((List.zipWith mxI ns ms).map V.int))->Q (.ref r) H'):sZ K vs H Q
noncomputable def qQ (K:W.Frag):Sp:=fun vs H Q _=>sZ K vs H Q
theorem Am (F:Fun K "joined" "joined" jg f fd) (B:Bt mg) :
  cu P w K mg base CX0 1 f fd ["one","other"] (qQ K):=by
 refine F.ok Cw (fun vs H Q E h=>?_) (fun cdv A outer s H vs Q E hr h=>?_)
 ·obtain⟨a,b,ns,ms,rfl,_⟩:=h
  rfl
 ·obtain⟨a,b,ns,ms,rfl,hA,hB,hl,hk,q⟩:=h
  refine⟨_,(aC (aJ (bM (r:=gJ K) bH rfl B.tuple_ cA (aa (bD (L:=["step","beside"]) (F:=[]) (cap:=[]) rfl (bh rfl rfl (by kernel_rfl)) (CP rfl B.zip_ (aa (pv 0) (aa (pv 1) aj))) (fun _ _ _ _ _=>(fZ (K:=K) 2 rfl rfl (bA (aH (i:=0) (bc (by decide+kernel)) rfl (Or.inl rfl)) (bA (aH (i:=1) (bc (by decide+kernel)) rfl (Or.inl rfl)) gf)))) (fun _ _ _ _ _=>bC) (fun _ _ _ _ _=>(aM (nA rfl) rfl B.max_ pL (aa (pv 0) (aa (pv 1) aj))))) aj)))),?_⟩
  refine⟨_,rfl,_,rfl,a,b,_,_,rfl,hA,hB,fun D hD=>yl (K:=K) (a:=a) (b:=b) (xs:=ns.map V.int) (ys:=ms.map V.int) (by rw[List.length_map,List.length_map]; exact hl)
   (fun i zs σ H2=>(∃ u v,σ=[u,v])/\zs=(List.zipWith mxI (ns.take i) (ms.take i)).map V.int/\aU H H2/\H2 D=some (.lst zs)) ⟨⟨_,_,rfl⟩,rfl,aB hD _,ao⟩ (fun i zs σ H2 _ h=>⟨cI h.2.2.1 hA,cI h.2.2.1 hB,h.2.2.2⟩) ?_ ?_⟩
  ·rintro i zs x y p σ H2 hx hy hp ⟨⟨u,v,rfl⟩,e1,sm,hDl⟩
   obtain⟨n,hn,rfl⟩:=int_at hx
   obtain⟨m,hm,rfl⟩:=int_at hy
   have g2:aU H2 (upd H2 p (.tup [.int n,.int m])):=aB hp _
   refine⟨p,_,rfl,SqT.of ao,rfl,_,_,rfl,_,_,rfl,rfl,?_⟩
   refine tT ?_
   refine⟨_,rfl,_,rfl,_,_,rfl,g2 _ _ hDl,?_,⟨_,_,rfl⟩,?_,aP (sm.trans g2) hD _,ao⟩
   ·rw[e1,List.length_map,List.length_zipWith,List.length_take]
    exact aN (by lia)
   ·rw[e1,DX hn hm,List.map_append]
    rfl
  ·rintro zs σ H2 ⟨_,e1,sm,hDl⟩
   refine⟨D,_,rfl,.inl ⟨SqL.of hDl,fun l hl'=>?_⟩⟩
   refine q l _ (sm.trans (aB hl' _)) (sm.free hl') ?_
   rw[ao,e1,List.length_map,List.take_length,hl,List.take_length]
noncomputable abbrev zP:Stmt:=top 8
theorem Mg:aL ["one","other"] ["one","other"] (aq zP):=⟨rfl,rfl,rfl,by decide+kernel,rfl,by decide+kernel,by decide+kernel⟩
noncomputable def mnI (i j:Int):Int:=if j < i then j else i
theorem Fz {ns ms:List Int} {i:Nat} {n m:Int} (h1:ns[i]? = some n) (h2:ms[i]? = some m):List.zipWith mnI (ns.take (i+1)) (ms.take (i+1))=List.zipWith mnI (ns.take i) (ms.take i)++[mnI n m]:=by
 have l1:i < ns.length:=(List.getElem?_eq_some_iff.mp h1).1
 have l2:i < ms.length:=(List.getElem?_eq_some_iff.mp h2).1
 rw[List.take_add_one,List.take_add_one,h1,h2]
 show List.zipWith mnI (ns.take i++[n]) (ms.take i++[m])=_
 rw[List.zipWith_append (by rw[List.length_take,List.length_take]; lia)]
 rfl
inductive G6 (K:W.Frag) (vs:List V) (H:Hp) (Q:VK):Prop where
 | mk (a b:Addr) (ns ms:List Int) (z0:vs=[.ref a,.ref b]) (z1:SqT K H a (ns.map V.int)) (z2:SqT K H b (ms.map V.int)) (z3:ns.length=ms.length) (z4:ns.length<=1000) (z5:∀ (r:Addr) (H':Hp),aU H H'->H r=none->H' r=some (.tup ((List.zipWith mnI ns ms).map V.int))->Q (.ref r) H'):G6 K vs H Q
noncomputable def Ky (K:W.Frag):Sp:=fun vs H Q _=>G6 K vs H Q
theorem M4 (F:Fun K "met" "met" zP f fd) (B:Bt mg) :
  cu P w K mg base CX0 1 f fd ["one","other"] (Ky K):=by
 refine F.ok Mg (fun vs H Q E h=>?_) (fun cdv A outer s H vs Q E hr h=>?_)
 ·obtain⟨a,b,ns,ms,rfl,_⟩:=h
  rfl
 ·obtain⟨a,b,ns,ms,rfl,hA,hB,hl,hk,q⟩:=h
  refine⟨_,(aC (aJ (bM (r:=gJ K) bH rfl B.tuple_ cA (aa (bD (L:=["step","beside"]) (F:=[]) (cap:=[]) rfl (bh rfl rfl (by kernel_rfl)) (CP rfl B.zip_ (aa (pv 0) (aa (pv 1) aj))) (fun _ _ _ _ _=>(fZ (K:=K) 2 rfl rfl (bA (aH (i:=0) (bc (by decide+kernel)) rfl (Or.inl rfl)) (bA (aH (i:=1) (bc (by decide+kernel)) rfl (Or.inl rfl)) gf)))) (fun _ _ _ _ _=>bC) (fun _ _ _ _ _=>(aM (ue rfl) rfl B.min_ Ii (aa (pv 0) (aa (pv 1) aj))))) aj)))),?_⟩
  refine⟨_,rfl,_,rfl,a,b,_,_,rfl,hA,hB,fun D hD=>yl (K:=K) (a:=a) (b:=b) (xs:=ns.map V.int) (ys:=ms.map V.int) (by rw[List.length_map,List.length_map]; exact hl)
   (fun i zs σ H2=>(∃ u v,σ=[u,v])/\zs=(List.zipWith mnI (ns.take i) (ms.take i)).map V.int/\aU H H2/\H2 D=some (.lst zs)) ⟨⟨_,_,rfl⟩,rfl,aB hD _,ao⟩ (fun i zs σ H2 _ h=>⟨cI h.2.2.1 hA,cI h.2.2.1 hB,h.2.2.2⟩) ?_ ?_⟩
  ·rintro i zs x y p σ H2 hx hy hp ⟨⟨u,v,rfl⟩,e1,sm,hDl⟩
   obtain⟨n,hn,rfl⟩:=int_at hx
   obtain⟨m,hm,rfl⟩:=int_at hy
   have g2:aU H2 (upd H2 p (.tup [.int n,.int m])):=aB hp _
   refine⟨p,_,rfl,SqT.of ao,rfl,_,_,rfl,_,_,rfl,rfl,?_⟩
   refine tT ?_
   refine⟨_,rfl,_,rfl,_,_,rfl,g2 _ _ hDl,?_,⟨_,_,rfl⟩,?_,aP (sm.trans g2) hD _,ao⟩
   ·rw[e1,List.length_map,List.length_zipWith,List.length_take]
    exact aN (by lia)
   ·rw[e1,Fz hn hm,List.map_append]
    rfl
  ·rintro zs σ H2 ⟨_,e1,sm,hDl⟩
   refine⟨D,_,rfl,.inl ⟨SqL.of hDl,fun l hl'=>?_⟩⟩
   refine q l _ (sm.trans (aB hl' _)) (sm.free hl') ?_
   rw[ao,e1,List.length_map,List.take_length,hl,List.take_length]
noncomputable abbrev dY:Stmt:=top 54
theorem uF:aL ["_law_cell_here","_law_many"] ["_law_cell_here","_law_many"] (aq dY):=⟨rfl,rfl,rfl,by decide+kernel,rfl,by decide+kernel,by decide+kernel⟩
inductive wR (vs:List V) (H:Hp) (Q:VK):Prop where
 | mk (c:Int) (m:Nat) (z0:vs=[.int c,.int (m:Int)]) (z1:m<=100) (z2:∀ (r:Addr) (ns:List Int) (H':Hp),aU H H'->H r=none->ns.length=m->(∀ x∈ns,0<=x)->H' r=some (.lst (ns.map V.int))->Q (.ref r) H'):wR  vs H Q
noncomputable def vI:Sp:=fun vs H Q _=>wR  vs H Q
theorem uZ (F:Fun K "_law_picks" "_law_picks" dY f fd) (B:Bt mg)
  (D_law_draws:Df P w K mg base "_law_draws" 1 ["_law_cell_here","_law_parts"] (jc K)):cu P w K mg base CX0 2 f fd ["_law_cell_here","_law_many"] vI:=by
 refine F.ok uF (fun vs H Q E h=>?_) (fun cdv A outer s H vs Q E hr h=>?_)
 ·obtain⟨c,m,rfl,_⟩:=h
  rfl
 ·obtain⟨c,m,rfl,hm,q⟩:=h
  refine⟨_,(aA (bV (aX nD (aM jF rfl B.abs_ uW (aa (pv 0) aj)) (aQ m5 au au) (aZ _)) (aC (aJ (aY D_law_draws hr (aa (pv 0) (aa (aQ HQ (bQ (aa au aj)) (pv 1)) aj))))) aW)
 (aC (aJ (bD (L:=["_law_k"]) (F:=["_law_cell_here"]) (cap:=[0]) rfl (bh rfl rfl (by kernel_rfl)) (cD rfl B.range_ (aa (pv 1) aj)) (fun _ _ _ _ _=>(aH (i:=0) (bc (by decide+kernel)) rfl (Or.inl rfl))) (fun _ _ _ _ _=>bC) (fun _ _ _ _ _=>(aV (r:=eU K) aO (aY D_law_draws hr (aa (aQ bL (pv 1) (aQ iG au (pv 0))) (aa (bQ (aa au aj)) aj))) au (fun _ _=>rfl))))))),?_⟩
  have em:((m:Int)).toNat=m:=Int.toNat_natCast m
  refine⟨_,rfl,_,rfl,_,_,rfl,rfl,⟨by decide,by decide,by decide⟩,_,_,rfl,rfl,_,rfl,?_⟩
  refine vg (fun h=>?_) (fun h=>?_)
  ·refine⟨_,rfl,small (by show 1<=1000; decide),fun p1 h1=>?_⟩
   generalize eH1:upd H p1 _=H1
   obtain⟨g1,e1⟩:=aG eH1 h1
   refine⟨_,rfl,p1,_,_,rfl,rfl,e1,by lia,by lia,small (by show 1 * ((m:Int)).toNat<=1000; lia),fun p2 h2=>?_⟩
   rw[lV,em]
   generalize eH2:upd H1 p2 _=H2
   obtain⟨g2,e2⟩:=aG eH2 h2
   refine⟨c,p2,List.replicate m 27720,rfl,SqL.of e2,fun x hx=>by rw[(List.mem_replicate.mp hx).2]; decide,by rw[List.length_replicate]; lia,fun r h3=>?_⟩
   have s12:aU H H2:=g1.trans g2
   refine q r _ _ (s12.trans (aB h3 _)) (s12.free h3) ?_ ?_ ao
   ·unfold tO
    rw[dJ,List.length_replicate]
   ·intro x hx
    obtain⟨i,hi,rfl⟩:=List.getElem_of_mem hx
    unfold tO at hi ⊢
    have hi':i < m:=by rw[dJ,List.length_replicate] at hi; exact hi
    obtain⟨v,e,b0,_⟩:=bU (c:=jW c) (i:=i) (ps:=List.replicate m 27720) (p:=27720) (fun x hx=>by rw[(List.mem_replicate.mp hx).2]; decide) (by rw[List.getElem?_replicate,if_pos hi'])
    rw[List.getElem?_eq_getElem hi] at e
    rw[Option.some.inj e]
    exact b0
  ·refine nN ?_
   dsimp only
   refine⟨_,rfl,_,rfl,by lia,by lia,fun D hD=>cF (lo:=0) (n:=((m:Int)).toNat) (fun i zs σ' H2=>(∃ u,σ'=[u,some (.int c)])/\aU H H2/\H2 D=some (.lst zs)/\∃ ns:List Int,zs=ns.map V.int/\ns.length=i/\∀ x∈ns,0<=x)
    ⟨⟨_,rfl⟩,aB hD _,ao,[],rfl,rfl,by simp⟩ (fun i zs σ' H2 _ h=>h.2.2.1) ?_ ?_⟩
   ·rintro i zs σ' H2 hi ⟨⟨u,rfl⟩,sm,eD,ns,ez,ln,hns⟩
    refine gT ?_
    refine⟨_,rfl,_,rfl,_,_,rfl,rfl,.inl ⟨by decide,by decide⟩,_,_,rfl,rfl,small (by show 1<=1000; decide),fun p1 h1=>?_⟩
    generalize eH3:upd H2 p1 _=H3
    obtain⟨g3,e3⟩:=aG eH3 h1
    refine⟨_,p1,[27720],rfl,SqL.of e3,by decide,by decide,fun r h4=>?_⟩
    generalize eH4:upd H3 r _=H4
    obtain⟨g4,e4⟩:=aG eH4 h4
    obtain⟨d0,k0,b0⟩:=bU (c:=jW (c+101 * (0+(i:Int)))) (i:=0) (ps:=[27720]) (by decide) rfl
    have a0:=aD (dI k0)
    have s24:aU H2 H4:=g3.trans g4
    refine⟨r,_,_,_,rfl,rfl,SqL.of e4,a0,s24 _ _ eD,aN (by rw[ez,List.length_map]; lia),⟨_,rfl⟩,aP (sm.trans s24) hD _,ao,ns++[d0],?_,?_,?_⟩
    ·rw[ez,List.map_append]
     rfl
    ·rw[List.length_append,ln]
     rfl
    ·intro x hx
     rcases List.mem_append.mp hx with z | z
     ·exact hns x z
     ·rw[List.mem_singleton.mp z]
      exact b0.1
   ·rintro zs σ' H2 ⟨_,sm,eD,ns,ez,ln,hns⟩
    exact q D ns H2 sm hD (by lia) hns (by rw[eD,ez])
noncomputable def itF (f:List Int->List Int) (x:List Int):Nat->List Int
 | 0=>x
 | k+1=>f (itF f x k)
noncomputable def Stops (f:List Int->List Int) (x:List Int) (m:Nat):Prop:=f (itF f x m)=itF f x m/\∀ j < m,f (itF f x j)≠itF f x j
noncomputable def lJ (f:List Int->List Int) (x:List Int) (m:Nat):List (List Int):=(List.range (m+1)).map (itF f x)
theorem lH (f:List Int->List Int) (x:List Int) (m:Nat):(lJ f x m).length=m+1:=by
 unfold lJ
 rw[List.length_map,List.length_range]
theorem zx (f:List Int->List Int) (x:List Int) (m:Nat):lJ f x (m+1)=lJ f x m++[itF f x (m+1)]:=by
 unfold lJ
 rw[List.range_succ,List.map_append]
 rfl
theorem zQ (f:List Int->List Int) (x:List Int) (m:Nat):(lJ f x m)[(lJ f x m).length - 1]? = some (itF f x m):=by
 rw[lH,Nat.add_sub_cancel]
 unfold lJ
 rw[List.getElem?_map,List.getElem?_range (Nat.lt_succ_self m)]
 rfl
theorem dN {f:List Int->List Int} {x:List Int} {m m':Nat} (h:Stops f x m) (h':Stops f x m'):m=m':=by
 rcases Nat.lt_trichotomy m m' with z | z | z
 ·exact absurd h.1 (h'.2 m z)
 ·exact z
 ·exact absurd h'.1 (h.2 m' z)
theorem xN {f:List Int->List Int} {x:List Int} (φ:List Int->Int) (N:Nat) (b0:∀ k,0<=φ (itF f x k)) (bN:∀ k,φ (itF f x k)<=(N:Int)) (up:∀ k,f (itF f x k)≠itF f x k->φ (itF f x k) < φ (itF f x (k+1))):∃ m,m<=N/\Stops f x m:=by
 have key:∀ k,(∃ m,m < k/\Stops f x m)∨((∀ j < k,f (itF f x j)≠itF f x j)/\(k:Int)<=φ (itF f x k)):=by
  intro k
  induction k with
  | zero=>exact .inr ⟨fun j h=>absurd h (Nat.not_lt_zero _),by simpa using b0 0⟩
  | succ k ih =>
   rcases ih with⟨m,h1,h2⟩ | ⟨h1,h2⟩
   ·exact .inl ⟨m,by lia,h2⟩
   ·by_cases e:f (itF f x k)=itF f x k
    ·exact .inl ⟨k,Nat.lt_succ_self k,e,h1⟩
    ·refine .inr ⟨fun j hj=>?_,by have:=up k e; lia⟩
     rcases Nat.lt_or_ge j k with z | z
     ·exact h1 j z
     ·have:j=k:=by lia
      subst this
      exact e
 rcases key (N+1) with⟨m,h1,h2⟩ | ⟨_,h2⟩
 ·exact⟨m,by lia,h2⟩
 ·have:=bN (N+1)
  lia
theorem Cm {g g':List Int} (hl:g.length=g'.length) (h:∀ i,i < g.length->g.getD i 0<=g'.getD i 0):LeG g g':=fun i=>by
 by_cases hi:i < g.length
 ·exact h i hi
 ·rw[List.getD_eq_getElem?_getD,List.getElem?_eq_none (by lia),List.getD_eq_getElem?_getD,List.getElem?_eq_none (by lia)]
  exact Int.le_refl _
theorem Io {g:List Int} {p:Pl} {b:Int} (h0:0<=b) (h:∀ x∈p,x.1<=b):owF g p<=b:=by
 have key:∀ (p:Pl) (f:Int),f<=b->(∀ x∈p,x.1<=b)->p.foldl (owS g) f<=b:=by
  intro p
  induction p with
  | nil=>intro f hf _; exact hf
  | cons x r ih =>
   intro f hf hx
   rw[List.foldl_cons]
   refine ih _ ?_ fun y hy=>hx y (List.mem_cons_of_mem _ hy)
   unfold owS
   split
   ·exact hx x List.mem_cons_self
   ·exact hf
 exact key p 0 h0 h
theorem Er {g g':List Int} (l:LeG g g') {p:Pl} (ok:okP p):owF g p<=owF g' p:=by
 have key:∀ (p:Pl) (f f':Int),f<=f'->(∀ x∈p,f' < x.1)->(p.map (·.1)).Pairwise (· < ·)->p.foldl (owS g) f<=p.foldl (owS g') f':=by
  intro p
  induction p with
  | nil=>intro f f' hf _ _; exact hf
  | cons x r ih =>
   intro f f' hf hx hp
   rw[List.map_cons,List.pairwise_cons] at hp
   rw[List.foldl_cons,List.foldl_cons]
   have hr:∀ y∈r,x.1 < y.1:=fun y hy=>hp.1 y.1 (List.mem_map.mpr ⟨y,hy,rfl⟩)
   have hx0:=hx x List.mem_cons_self
   have hfr:∀ y∈r,f' < y.1:=fun y hy=>by have:=hr y hy; lia
   unfold owS
   by_cases c:hF g x.2=true
   ·rw[if_pos c,if_pos (v9 l _ c)]
    exact ih _ _ (Int.le_refl _) hr hp.2
   ·rw[if_neg c]
    by_cases c':hF g' x.2=true
    ·rw[if_pos c']
     exact ih _ _ (by lia) hr hp.2
    ·rw[if_neg c']
     exact ih _ _ hf hfr hp.2
 exact key p 0 0 (Int.le_refl _) (fun x hx=>by have:=(ok.2.2.2 x hx).1; lia) ok.2.2.1
theorem di {b:Int}:∀ (l:List Int) (a:Int),a<=b->(∀ x∈l,x<=b)->l.foldl max a<=b
 | [],a,h,_=>h
 | y::l,a,h,hl=>by
  rw[List.foldl_cons]
  exact di l _ (by have:=hl y List.mem_cons_self; lia) fun x hx=>hl x (List.mem_cons_of_mem _ hx)
theorem gZ {α:Type} (u v:α->Int):∀ (l:List α) (a b:Int),a<=b->(∀ x∈l,u x<=v x)->(l.map u).foldl max a<=(l.map v).foldl max b
 | [],a,b,h,_=>h
 | y::l,a,b,h,hl=>by
  rw[List.map_cons,List.map_cons,List.foldl_cons,List.foldl_cons]
  exact gZ u v l _ _ (by have:=hl y List.mem_cons_self; lia) fun x hx=>hl x (List.mem_cons_of_mem _ hx)
noncomputable def okB (bk:List (List Pl)):Prop:=∀ ps∈bk,∀ p∈ps,okP p
theorem En {g g':List Int} (l:LeG g g') {ps:List Pl} (ok:∀ p∈ps,okP p) {f f':Int} (h:f<=f'):duF g f ps<=duF g' f' ps:=gZ _ _ ps f f' h fun p hp=>Er l (ok p hp)
theorem GD (g:List Int) (f:Int) (ps:List Pl):f<=duF g f ps:=(gP _ f).1
theorem Kg (g:List Int) {f:Int} (h:f<=9) {ps:List Pl} (ok:∀ p∈ps,okP p):duF g f ps<=9:=by
 refine di _ f h fun x hx=>?_
 obtain⟨p,hp,rfl⟩:=List.mem_map.mp hx
 exact Io (by decide) fun y hy=>((ok p hp).2.2.2 y hy).2.1
theorem HS {p:Pl} {x:Int × Tm} (h:x∈p):x.1<=lsF p:=by
 unfold lsF
 cases p with
 | nil=>cases h
 | cons y r =>
  show x.1<=(r.map (·.1)).foldl max y.1
  obtain⟨h1,h2⟩:=gP (r.map (·.1)) y.1
  rcases List.mem_cons.mp h with rfl | h
  ·exact h1
  ·exact h2 x.1 (List.mem_map.mpr ⟨x,h,rfl⟩)
theorem Je {g:List Int} {p:Pl} (ok:okP p):owF g p<=lsF p:=by
 have hne:=ok.1
 refine Io ?_ fun x hx=>HS hx
 cases p with
 | nil=>exact absurd rfl hne
 | cons y r =>
  have:=HS (p:=y::r) (x:=y) List.mem_cons_self
  have:=(ok.2.2.2 y List.mem_cons_self).1
  lia
theorem Jo (g:List Int) (f:Int) {ps:List Pl} (ok:∀ p∈ps,okP p):duF g f ps<=rfS f ps:=gZ _ _ ps f f (Int.le_refl _) fun p hp=>Je (ok p hp)
theorem Kc {p:Pl} (ok:okP p):lsF p<=9:=by
 cases p with
 | nil=>exact absurd rfl ok.1
 | cons y r =>
  show (r.map (·.1)).foldl max y.1<=9
  refine di _ _ (ok.2.2.2 y List.mem_cons_self).2.1 fun x hx=>?_
  obtain⟨z,hz,rfl⟩:=List.mem_map.mp hx
  exact (ok.2.2.2 z (List.mem_cons_of_mem _ hz)).2.1
theorem J6 {f:Int} (h:f<=9) {ps:List Pl} (ok:∀ p∈ps,okP p):rfS f ps<=9:=by
 refine di _ f h fun x hx=>?_
 obtain⟨p,hp,rfl⟩:=List.mem_map.mp hx
 exact Kc (ok p hp)
theorem MT (f:Int) (ps:List Pl):f<=rfS f ps:=(gP _ f).1
theorem eY {α:Type} (f:Int->α->Int) {xs:List Int} {ys:List α} {i:Nat} (h1:i < xs.length) (h2:i < ys.length):(List.zipWith f xs ys).getD i 0=f (xs.getD i 0) ys[i]:=by
 rw[List.getD_eq_getElem?_getD,List.getElem?_zipWith,List.getElem?_eq_getElem h1,List.getElem?_eq_getElem h2,List.getD_eq_getElem?_getD,List.getElem?_eq_getElem h1]
 rfl
theorem nH:∀ {g g':List Int},g.length=g'.length->(∀ i,i < g.length->g.getD i 0<=g'.getD i 0)->g.sum<=g'.sum/\(g.sum=g'.sum->g=g')
 | [],[],_,_=>⟨Int.le_refl _,fun _=>rfl⟩
 | a::g,b::g',hl,h=>by
  have h0:a<=b:=h 0 (Nat.succ_pos _)
  obtain⟨h1,h2⟩:=nH (g:=g) (g':=g') (by simpa using hl) fun i hi=>by
   have:=h (i+1) (by rw[List.length_cons]; lia)
   simpa using this
  rw[List.sum_cons,List.sum_cons]
  refine⟨by lia,fun e=>?_⟩
  have e1:a=b:=by lia
  have e2:g.sum=g'.sum:=by lia
  rw[e1,h2 e2]
theorem sum_bound {g:List Int} (h:∀ x∈g,0<=x/\x<=9):0<=g.sum/\g.sum<=9 * (g.length:Int):=by
 induction g with
 | nil=>exact⟨Int.le_refl _,by simp⟩
 | cons a g ih =>
  have:=h a List.mem_cons_self
  have:=ih fun x hx=>h x (List.mem_cons_of_mem _ hx)
  rw[List.sum_cons,List.length_cons]
  lia
noncomputable def okG (n:Nat) (g:List Int):Prop:=g.length=n/\∀ x∈g,0<=x/\x<=9
theorem gW {n:Nat} {g:List Int} (h:okG n g) {i:Nat} (hi:i < n):0<=g.getD i 0/\g.getD i 0<=9:=by
 have hi':i < g.length:=by rw[h.1]; exact hi
 rw[List.getD_eq_getElem?_getD,List.getElem?_eq_getElem hi']
 exact h.2 _ (List.getElem_mem hi')
theorem xf {n:Nat} {g:List Int} (hl:g.length=n) (h:∀ i,i < n->0<=g.getD i 0/\g.getD i 0<=9):okG n g:=by
 refine⟨hl,fun x hx=>?_⟩
 obtain⟨i,hi,e⟩:=List.getElem_of_mem hx
 have:=h i (by lia)
 rw[List.getD_eq_getElem?_getD,List.getElem?_eq_getElem hi,e] at this
 exact this
section
variable {n:Nat} {fl:List Int} {bk:List (List Pl)}
theorem jz (hb:bk.length=n) (ok:okB bk) (hf:okG n fl) (g:List Int):okG n (cL g fl bk):=by
 refine xf (by rw[dh (by rw[hf.1,hb])]; exact hb) fun i hi=>?_
 have h1:i < fl.length:=by rw[hf.1]; exact hi
 have h2:i < bk.length:=by lia
 unfold cL
 rw[eY (duF g) h1 h2]
 have:=gW hf hi
 have:=GD g (fl.getD i 0) bk[i]
 have:=Kg g (f:=fl.getD i 0) (by lia) (ok bk[i] (List.getElem_mem h2))
 lia
theorem c7 (hb:bk.length=n) (ok:okB bk) (hf:okG n fl) {g g':List Int} (l:LeG g g'):LeG (cL g fl bk) (cL g' fl bk):=by
 have l1:=(jz hb ok hf g).1
 have l2:=(jz hb ok hf g').1
 refine Cm (by lia) fun i hi=>?_
 have h1:i < fl.length:=by rw[hf.1]; lia
 have h2:i < bk.length:=by lia
 unfold cL
 rw[eY (duF g) h1 h2,eY (duF g') h1 h2]
 exact En l (ok bk[i] (List.getElem_mem h2)) (Int.le_refl _)
theorem sW (hb:bk.length=n) (ok:okB bk) (hf:okG n fl) (g:List Int):LeG fl (cL g fl bk):=by
 have l1:=(jz hb ok hf g).1
 refine Cm (by rw[hf.1]; lia) fun i hi=>?_
 have h2:i < bk.length:=by rw[hf.1] at hi; lia
 unfold cL
 rw[eY (duF g) hi h2]
 exact GD _ _ _
theorem iK (hb:bk.length=n) (ok:okB bk) (hf:okG n fl):okG n (rfF fl bk):=by
 have hl:(rfF fl bk).length=n:=by
  unfold rfF
  rw[List.length_zipWith,hf.1,hb,Nat.min_self]
 refine xf hl fun i hi=>?_
 have h1:i < fl.length:=by rw[hf.1]; exact hi
 have h2:i < bk.length:=by lia
 unfold rfF
 rw[eY rfS h1 h2]
 have:=gW hf hi
 have:=MT (fl.getD i 0) bk[i]
 have:=J6 (f:=fl.getD i 0) (by lia) (ok bk[i] (List.getElem_mem h2))
 lia
theorem jM (hb:bk.length=n) (ok:okB bk) (hf:okG n fl) (g:List Int):LeG (cL g fl bk) (rfF fl bk):=by
 have l1:=(jz hb ok hf g).1
 have l2:=(iK hb ok hf).1
 refine Cm (by lia) fun i hi=>?_
 have h1:i < fl.length:=by rw[hf.1]; lia
 have h2:i < bk.length:=by lia
 unfold cL rfF
 rw[eY (duF g) h1 h2,eY rfS h1 h2]
 exact Jo g _ (ok bk[i] (List.getElem_mem h2))
theorem eX (hb:bk.length=n) (ok:okB bk) (hf:okG n fl) {x:List Int} (hx:okG n x):∀ k,okG n (itF (fun g=>cL g fl bk) x k)
 | 0=>hx
 | k+1=>jz hb ok hf _
theorem M8 (hb:bk.length=n) (ok:okB bk) (hf:okG n fl) {x:List Int} (h:LeG x (cL x fl bk)):∀ k,LeG (itF (fun g=>cL g fl bk) x k) (itF (fun g=>cL g fl bk) x (k+1))
 | 0=>h
 | k+1=>c7 hb ok hf (M8 hb ok hf h k)
theorem Bv (hb:bk.length=n) (ok:okB bk) (hf:okG n fl) {x:List Int} (h:LeG (cL x fl bk) x):∀ k,LeG (itF (fun g=>cL g fl bk) x (k+1)) (itF (fun g=>cL g fl bk) x k)
 | 0=>h
 | k+1=>c7 hb ok hf (Bv hb ok hf h k)
theorem qW (hb:bk.length=n) (ok:okB bk) (hf:okG n fl) {x:List Int} (hx:okG n x) (h:LeG x (cL x fl bk)):∃ m,m<=9 * n/\Stops (fun g=>cL g fl bk) x m:=by
 refine xN List.sum (9 * n) (fun k=>(sum_bound (eX hb ok hf hx k).2).1) (fun k=>?_) (fun k ne=>?_)
 ·have:=(sum_bound (eX hb ok hf hx k).2).2
  rw[(eX hb ok hf hx k).1] at this
  lia
 ·obtain⟨h1,h2⟩:=nH ((eX hb ok hf hx k).1.trans (eX hb ok hf hx (k+1)).1.symm) fun i _=>M8 hb ok hf h k i
  have:List.sum (itF (fun g=>cL g fl bk) x k)≠List.sum (itF (fun g=>cL g fl bk) x (k+1)):=fun e=>ne (h2 e).symm
  lia
theorem jX (hb:bk.length=n) (ok:okB bk) (hf:okG n fl) {x:List Int} (hx:okG n x) (h:LeG (cL x fl bk) x):∃ m,m<=9 * n/\Stops (fun g=>cL g fl bk) x m:=by
 refine xN (fun g=>9 * (n:Int) - g.sum) (9 * n) (fun k=>?_) (fun k=>?_) (fun k ne=>?_)
 ·have:=(sum_bound (eX hb ok hf hx k).2).2
  rw[(eX hb ok hf hx k).1] at this
  show 0<=9 * (n:Int) - List.sum _
  lia
 ·have:=(sum_bound (eX hb ok hf hx k).2).1
  show 9 * (n:Int) - List.sum _<=_
  lia
 ·obtain⟨h1,h2⟩:=nH ((eX hb ok hf hx (k+1)).1.trans (eX hb ok hf hx k).1.symm) fun i _=>Bv hb ok hf h k i
  have:List.sum (itF (fun g=>cL g fl bk) x (k+1))≠List.sum (itF (fun g=>cL g fl bk) x k):=fun e=>ne (h2 e)
  show 9 * (n:Int) - List.sum _ < 9 * (n:Int) - List.sum _
  lia
end
inductive eV (H:Hp):List V->List (List Int)->Prop where
 | nil:eV H [] []
 | cons {a:Addr} {g:List Int} {us:List V} {gs:List (List Int)}:H a=some (.tup (g.map V.int))->g.length<=1000->eV H us gs->eV H (.ref a::us) (g::gs)
theorem eV.bR {H H':Hp} (e:∀ a xs,H a=some (HO.tup xs)->H' a=some (HO.tup xs)):∀ {us:List V} {gs:List (List Int)},eV H us gs->eV H' us gs
 | _,_,.nil=>.nil
 | _,_,.cons h l r=>.cons (e _ _ h) l (eV.bR e r)
theorem eV.mono {H H':Hp} (e:aU H H') {us:List V} {gs:List (List Int)} (h:eV H us gs):eV H' us gs:=h.bR fun a xs q=>e a _ q
theorem eV.length {H:Hp}:∀ {us:List V} {gs:List (List Int)},eV H us gs->us.length=gs.length
 | _,_,.nil=>rfl
 | _,_,.cons _ _ r=>by rw[List.length_cons,List.length_cons,eV.length r]
theorem eV.get {H:Hp}:∀ {us:List V} {gs:List (List Int)} {i:Nat} {g:List Int},eV H us gs->gs[i]? = some g->∃ a,us[i]? = some (.ref a)/\H a=some (.tup (g.map V.int))
 | _,_,_,_,.nil,h=>by simp at h
 | _,_,0,_,.cons h _ _,e=>by
  cases (show some _=some _ from e)
  exact⟨_,rfl,h⟩
 | _,_,i+1,_,.cons _ _ r,e=>by
  obtain⟨a,h1,h2⟩:=eV.get (i:=i) r (by simpa using e)
  exact⟨a,by simpa using h1,h2⟩
theorem eV.snoc {H:Hp} {a:Addr} {g:List Int} (h:H a=some (.tup (g.map V.int))) (hl:g.length<=1000):∀ {us:List V} {gs:List (List Int)},eV H us gs->eV H (us++[.ref a]) (gs++[g])
 | _,_,.nil=>.cons h hl .nil
 | _,_,.cons x y r=>.cons x y (eV.snoc h hl r)
noncomputable def gD (g:List Int):Dm:=.tup (g.map Dm.int)
theorem eV.Ov {H:Hp}:∀ {us:List V} {gs:List (List Int)},eV H us gs->lZ H us (gs.map gD)
 | _,_,.nil=>.nil
 | _,_,.cons h l r=>.cons (lX h l) (eV.Ov r)
theorem Bc:∀ gs:List (List Int),lE (gs.map gD)<=1
 | []=>by rw[List.map_nil,lE]; decide
 | g::gs=>by
  have:=Bc gs
  rw[List.map_cons,lE]
  have:(gD g).dep=1:=vB g
  lia
theorem dF.okB {n:Nat} {H:Hp}:∀ {us:List V} {bk:List (List Pl)},dF n H us bk->okB bk
 | _,_,.nil=>fun ps h=>by cases h
 | _,_,.cons _ _ p r=>fun ps h q hq=>by
  rcases List.mem_cons.mp h with rfl | h
  ·obtain⟨i,hi,e⟩:=List.getElem_of_mem hq
   have hlen:=p.length
   obtain⟨q',e1,e2⟩:=p.get (i:=i) (List.getElem?_eq_getElem (by lia))
   rw[List.getElem?_eq_getElem hi,e] at e1
   cases e1
   exact e2.1
  ·exact dF.okB r ps h q hq
theorem pK.okB {n:Nat} {H:Hp} {b:Addr} {bk:List (List Pl)} (h:pK n H b bk):okB bk:=by
 obtain⟨us,_,h2,_⟩:=h
 exact h2.okB
noncomputable abbrev Fd (fl:List Int) (bk:List (List Pl)):List Int->List Int:=fun g=>cL g fl bk
noncomputable abbrev ir:Stmt:=top 22
theorem je:aL ["book","floor","giving","row","due"] ["book","floor","giving"] (aq ir):=⟨rfl,rfl,rfl,by decide+kernel,rfl,by decide+kernel,by decide+kernel⟩
inductive pJ (K:W.Frag) (vs:List V) (H:Hp) (Q:VK):Prop where
 | mk (b f g:Addr) (n:Nat) (bk:List (List Pl)) (fl x:List Int) (m:Nat) (z0:vs=[.ref b,.ref f,.ref g]) (z1:pK n H b bk) (z2:bk.length=n) (z3:H f=some (.tup (fl.map V.int))) (z4:okG n fl) (z5:H g=some (.tup (x.map V.int))) (z6:okG n x) (z7:m<=9 * n) (z8:Stops (Fd fl bk) x m) (z9:∀ (r:Addr) (us:List V) (H':Hp),aU H H'->H r=none->H' r=some (.lst us)->eV H' us (lJ (Fd fl bk) x m)->Q (.ref r) H'):pJ K vs H Q
noncomputable def ik (K:W.Frag):Sp:=fun vs H Q _=>pJ K vs H Q
theorem jH {H:Hp} {us:List V} {F:List Int->List Int} {x:List Int} {j:Nat} (h:eV H us (lJ F x j)):∃ a,atI us (-1)=some (.ref a)/\H a=some (.tup ((itF F x j).map V.int)):=by
 have hl:=h.length
 obtain⟨a,h1,h2⟩:=h.get (zQ F x j)
 rw[← hl] at h1
 exact⟨a,Mq h1,h2⟩
noncomputable def Bx (H:Hp) (r:Addr):Nat:=match H r with
 | some (.lst us)=>us.length
 | _=>0
theorem yc {H:Hp} {r:Addr} {us:List V} (h:H r=some (.lst us)):Bx H r=us.length:=by unfold Bx; rw[h]
theorem zy {k:Nat} (F:Fun K "settled" "settled" ir f fd) (B:Bt mg)
  (D_what_is_due:Df P w K mg base "what_is_due" k ["book","floor","giving"] (qO K)):cu P w K mg base CX0 (k+1) f fd ["book","floor","giving"] (ik K):=by
 refine F.ok je (fun vs H Q E h=>?_) (fun cdv A outer s H vs Q E hr h=>?_)
 ·obtain⟨b,f,g,n,bk,fl,x,m,rfl,_⟩:=h
  rfl
 ·obtain⟨b,f,g,n,bk,fl,x,m,rfl,hb,lb,hf,of,hg,ox,hm,st,q⟩:=h
  refine⟨_,(aA (bu (i:=3) je.nd rfl (Or.inl rfl) (bQ (aa (pv 2) aj)))
 (aA (bu (i:=4) je.nd rfl (Or.inl rfl) (aY D_what_is_due hr (aa (pv 0) (aa (pv 1) (aa (pv 2) aj)))))
 (aA (FT PassesOwn.never (aX (r:=K6 K) (Iu hr.ql) (pv 4) (aV (r:=eU K) aO (pv 3) (Ah sS au) (fun _ _=>rfl)) (aZ _)) (aA (cW (uR PySem.F.plainAttrs_list PySem.F.slot_list_append PySem.F.type_list_append dB (pv 3) (aa (pv 4) aj)))
 (aC (bu (i:=4) je.nd rfl (Or.inl rfl) (aY D_what_is_due hr (aa (pv 0) (aa (pv 1) (aa (pv 4) aj))))))))
 (aC (aJ (pv 3)))))),?_⟩
  have okb:=hb.okB
  have b12:n<=12:=by obtain⟨_,_,_,h⟩:=hb; lia
  have og:∀ j,okG n (itF (Fd fl bk) x j):=eX lb okb of ox
  have f0:∀ y∈fl,0<=y:=fun y hy=>(of.2 y hy).1
  have hlb:fl.length=bk.length:=by rw[of.1,lb]
  refine⟨_,rfl,small (by show 1<=1000; decide),fun r hr0=>?_⟩
  generalize eH1:upd H r _=H1
  obtain⟨g1,e1⟩:=aG eH1 hr0
  refine⟨_,rfl,_,rfl,_,rfl,b,f,g,n,bk,fl,x,rfl,hb.mono g1,SqT.of (g1 _ _ hf),SqT.of (g1 _ _ hg),hlb,by rw[ox.1]; lia,f0,fun r1 H2 s2 er1=>?_⟩
  refine gN ?_
  refine Gx (fun σ H3=>∃ (j:Nat) (us:List V) (d:Addr),j<=m/\σ=[some (.ref b),some (.ref f),some (.ref g),some (.ref r),some (.ref d)]/\aU H H3/\H3 r=some (.lst us)/\eV H3 us (lJ (Fd fl bk) x j)/\H3 d=some (.tup ((itF (Fd fl bk) x (j+1)).map V.int)))
   (fun _ H3=>m+2 - Bx H3 r) ⟨0,[.ref g],r1,Nat.zero_le _,rfl,g1.trans s2,s2 _ _ e1,.cons (s2 _ _ (g1 _ _ hg)) (by rw[(og 0).1]; lia) .nil,er1⟩ ?_ ?_
  ·rintro σ H3 ⟨j,us,d,hj,rfl,s3,er,gr,ed⟩
   obtain⟨a,ha,ea⟩:=jH gr
   have lu:=gr.length
   rw[lH] at lu
   refine⟨_,rfl,_,rfl,_,rfl,r,_,_,_,rfl,rfl,SqL.of er,ha,d,a,_,_,rfl,rfl,SqT.of ed,SqT.of ea,_,rfl,?_⟩
   by_cases e:itF (Fd fl bk) x (j+1)=itF (Fd fl bk) x j
   ·rw[decide_eq_true e]
    refine jx ?_
    have ej:j=m:=by
     rcases Nat.lt_or_ge j m with z | z
     ·exact absurd e (st.2 j z)
     ·lia
    subst ej
    exact⟨_,rfl,q r us H3 s3 hr0 er gr⟩
   ·rw[decide_eq_false e]
    refine oZ ?_
    have hjm:j < m:=by
     rcases Nat.lt_or_ge j m with z | z
     ·exact z
     ·have:j=m:=by lia
      subst this
      exact absurd st.1 e
    refine⟨_,rfl,.inl ⟨rfl,_,SqL.of er⟩,_,rfl,r,_,_,rfl,rfl,er,aN (by lia),?_⟩
    have tk:=cZ (zs':=us++[.ref d]) er
    have s4:aU H (upd H3 r (.lst (us++[.ref d]))):=aP s3 hr0 _
    refine⟨_,rfl,_,rfl,_,rfl,b,f,d,n,bk,fl,_,rfl,hb.mono s4,SqT.of (s4 _ _ hf),SqT.of (tk _ _ ed),hlb,by rw[(og (j+1)).1]; lia,f0,fun r5 H5 s5 er5=>?_⟩
    have er':H5 r=some (.lst (us++[.ref d])):=s5 _ _ ao
    refine⟨⟨j+1,us++[.ref d],r5,hjm,rfl,s4.trans s5,er',?_,er5⟩,?_⟩
    ·rw[zx]
     exact ((gr.bR tk).snoc (tk _ _ ed) (by rw[(og (j+1)).1]; lia)).mono s5
    ·show m+2 - Bx H5 r < m+2 - Bx H3 r
     rw[yc er',yc er,List.length_append]
     show m+2 - (us.length+1) < m+2 - us.length
     lia
  ·rintro σ H3 Q1 Q2 hQ ⟨v1,h1,v2,h2,i0,h3,p,xs,i,z,h4,h5,h6,h7,a1,a2,ns,ms,h8,h9,h10,h11,c,h12,qq⟩
   exact⟨v1,h1,v2,h2,i0,h3,p,xs,i,z,h4,h5,h6,h7,a1,a2,ns,ms,h8,h9,h10,h11,c,h12,hQ _ _ qq⟩
noncomputable def j4 (st:List Int->List (List Pl)->List Int):Sp:=fun vs H Q _=>∃ (b f:Addr) (n:Nat) (bk:List (List Pl)) (fl:List Int),vs=[.ref b,.ref f]/\pK n H b bk/\bk.length=n/\H f=some (.tup (fl.map V.int))/\okG n fl ∧
 ∀ (m:Nat) (r:Addr) (us:List V) (H':Hp),m<=9 * n->Stops (Fd fl bk) (st fl bk) m->aU H H'->H r=none->H' r=some (.lst us)->eV H' us (lJ (Fd fl bk) (st fl bk) m)->Q (.ref r) H'
noncomputable def zG (st:List Int->List (List Pl)->List Int):Sp:=fun vs H Q _=>∃ (b f:Addr) (n:Nat) (bk:List (List Pl)) (fl:List Int),vs=[.ref b,.ref f]/\pK n H b bk/\bk.length=n/\H f=some (.tup (fl.map V.int))/\okG n fl ∧
 ∀ (m:Nat) (a:Addr) (H':Hp),m<=9 * n->Stops (Fd fl bk) (st fl bk) m->aU H H'->H' a=some (.tup ((itF (Fd fl bk) (st fl bk) m).map V.int))->Q (.ref a) H'
noncomputable abbrev KH:List Int->List (List Pl)->List Int:=fun fl _=>fl
theorem pF {n:Nat} {fl:List Int} {bk:List (List Pl)} (hb:bk.length=n) (ok:okB bk) (hf:okG n fl):∃ m,m<=9 * n/\Stops (Fd fl bk) fl m:=qW hb ok hf hf (sW hb ok hf fl)
theorem zu {n:Nat} {fl:List Int} {bk:List (List Pl)} (hb:bk.length=n) (ok:okB bk) (hf:okG n fl):∃ m,m<=9 * n/\Stops (Fd fl bk) (rfF fl bk) m:=jX hb ok hf (iK hb ok hf) (jM hb ok hf _)
noncomputable abbrev pM:Stmt:=top 23
noncomputable abbrev kh:Stmt:=top 25
theorem Jh:aL ["book","floor"] ["book","floor"] (aq pM):=⟨rfl,rfl,rfl,by decide+kernel,rfl,by decide+kernel,by decide+kernel⟩
theorem Fv:aL ["book","floor"] ["book","floor"] (aq kh):=⟨rfl,rfl,rfl,by decide+kernel,rfl,by decide+kernel,by decide+kernel⟩
theorem J2 {k:Nat} (F:Fun K "rise" "rise" pM f fd) (B:Bt mg)
  (D_settled:Df P w K mg base "settled" k ["book","floor","giving"] (ik K)):cu P w K mg base CX0 (k+1) f fd ["book","floor"] (j4 KH):=by
 refine F.ok Jh (fun vs H Q E h=>?_) (fun cdv A outer s H vs Q E hr h=>?_)
 ·obtain⟨b,f,n,bk,fl,rfl,_⟩:=h
  rfl
 ·obtain⟨b,f,n,bk,fl,rfl,hb,lb,hf,of,q⟩:=h
  refine⟨_,(aC (aJ (aY D_settled hr (aa (pv 0) (aa (pv 1) (aa (pv 1) aj)))))),?_⟩
  obtain⟨m,hm,st⟩:=pF lb hb.okB of
  exact⟨_,rfl,_,rfl,_,rfl,b,f,f,n,bk,fl,fl,m,rfl,hb,lb,hf,of,hf,of,hm,st,fun r us H' s1 fr er gr=>q m r us H' hm st s1 fr er gr⟩
theorem Eh {k:Nat} (F:Fun K "least" "least" kh f fd) (B:Bt mg)
  (D_rise:Df P w K mg base "rise" k ["book","floor"] (j4 KH)):cu P w K mg base CX0 (k+1) f fd ["book","floor"] (zG KH):=by
 refine F.ok Fv (fun vs H Q E h=>?_) (fun cdv A outer s H vs Q E hr h=>?_)
 ·obtain⟨b,f,n,bk,fl,rfl,_⟩:=h
  rfl
 ·obtain⟨b,f,n,bk,fl,rfl,hb,lb,hf,of,q⟩:=h
  refine⟨_,(aC (aJ (aV (r:=eU K) aO (aY D_rise hr (aa (pv 0) (aa (pv 1) aj))) (Ah sS au) (fun _ _=>rfl)))),?_⟩
  refine⟨_,rfl,_,rfl,b,f,n,bk,fl,rfl,hb,lb,hf,of,fun m r us H' hm st s1 fr er gr=>?_⟩
  obtain⟨a,ha,ea⟩:=jH gr
  exact⟨_,rfl,r,_,_,_,rfl,rfl,SqL.of er,ha,q m a H' hm st s1 ea⟩
noncomputable abbrev pX:Stmt:=top 24
noncomputable abbrev fD:Stmt:=top 26
theorem JB:aL ["book","floor"] ["book","floor"] (aq pX):=⟨rfl,rfl,rfl,by decide+kernel,rfl,by decide+kernel,by decide+kernel⟩
theorem vA:aL ["book","floor"] ["book","floor"] (aq fD):=⟨rfl,rfl,rfl,by decide+kernel,rfl,by decide+kernel,by decide+kernel⟩
theorem Jd {k:Nat} (hk:2<=k) (F:Fun K "fall" "fall" pX f fd) (B:Bt mg)
  (D_settled:Df P w K mg base "settled" k ["book","floor","giving"] (ik K)) (D_roof:Df P w K mg base "roof" 2 ["book","floor"] (Ax K)):cu P w K mg base CX0 (k+1) f fd ["book","floor"] (j4 rfF):=by
 refine F.ok JB (fun vs H Q E h=>?_) (fun cdv A outer s H vs Q E hr h=>?_)
 ·obtain⟨b,f,n,bk,fl,rfl,_⟩:=h
  rfl
 ·obtain⟨b,f,n,bk,fl,rfl,hb,lb,hf,of,q⟩:=h
  refine⟨_,(aC (aJ (aY D_settled hr (aa (pv 0) (aa (pv 1) (aa (aY D_roof hr (aa (pv 0) (aa (pv 1) aj))) aj)))))),?_⟩
  obtain⟨m,hm,st⟩:=zu lb hb.okB of
  exact⟨_,rfl,_,rfl,_,rfl,_,rfl,b,f,n,bk,fl,rfl,hb,SqT.of hf,by rw[of.1,lb],fun r1 H1 s1 e1=>⟨b,f,r1,n,bk,fl,rfF fl bk,m,rfl,hb.mono s1,lb,s1 _ _ hf,of,e1,iK lb hb.okB of,hm,st,fun r us H' s2 fr er gr=>q m r us H' hm st (s1.trans s2) (s1.free fr) er gr⟩⟩
theorem vY {k:Nat} (F:Fun K "greatest" "greatest" fD f fd) (B:Bt mg)
  (D_fall:Df P w K mg base "fall" k ["book","floor"] (j4 rfF)):cu P w K mg base CX0 (k+1) f fd ["book","floor"] (zG rfF):=by
 refine F.ok vA (fun vs H Q E h=>?_) (fun cdv A outer s H vs Q E hr h=>?_)
 ·obtain⟨b,f,n,bk,fl,rfl,_⟩:=h
  rfl
 ·obtain⟨b,f,n,bk,fl,rfl,hb,lb,hf,of,q⟩:=h
  refine⟨_,(aC (aJ (aV (r:=eU K) aO (aY D_fall hr (aa (pv 0) (aa (pv 1) aj))) (Ah sS au) (fun _ _=>rfl)))),?_⟩
  refine⟨_,rfl,_,rfl,b,f,n,bk,fl,rfl,hb,lb,hf,of,fun m r us H' hm st s1 fr er gr=>?_⟩
  obtain⟨a,ha,ea⟩:=jH gr
  exact⟨_,rfl,r,_,_,_,rfl,rfl,SqL.of er,ha,q m a H' hm st s1 ea⟩
theorem LeG.trans {a b c:List Int} (h:LeG a b) (k:LeG b c):LeG a c:=fun i=>Int.le_trans (h i) (k i)
theorem bK:∀ {ns ms:List Int},ns.length=ms.length->(abv ns ms=true ↔ LeG ms ns)
 | [],[],_=>⟨fun _ i=>Int.le_refl _,fun _=>by rw[abv]; simp⟩
 | n::ns,m::ms,h=>by
  have ih:=bK (ns:=ns) (ms:=ms) (by simpa using h)
  rw[abv,Bool.and_eq_true,decide_eq_true_eq,ih]
  constructor
  ·rintro⟨h1,h2⟩ i
   cases i with
   | zero=>exact h1
   | succ i=>simpa using h2 i
  ·intro h
   exact⟨h 0,fun i=>by simpa using h (i+1)⟩
section
variable {n:Nat} {fl:List Int} {bk:List (List Pl)}
theorem ur (hb:bk.length=n) (ok:okB bk) (hf:okG n fl) {g:List Int} (h:LeG (cL g fl bk) g):∀ k,LeG (itF (Fd fl bk) fl k) g
 | 0=>(sW hb ok hf g).trans h
 | k+1=>(c7 hb ok hf (ur hb ok hf h k)).trans h
theorem sO (hb:bk.length=n) (ok:okB bk) (hf:okG n fl) {g:List Int} (h:LeG g (cL g fl bk)):∀ k,LeG g (itF (Fd fl bk) (rfF fl bk) k)
 | 0=>h.trans (jM hb ok hf g)
 | k+1=>h.trans (c7 hb ok hf (sO hb ok hf h k))
end
theorem big {n:Nat} (h:n<=100000):n<=sizeLine:=Nat.le_trans h (by decide)
noncomputable def bxS (rows:List (List Int)) (top:Nat):List (List Int):=rows.flatMap fun r=>(List.range (top+1)).map fun s:Nat=>r++[(s:Int)]
noncomputable def lO (ts:List Nat):List (List Int):=ts.foldl bxS [[]]
theorem jf (rows:List (List Int)) (top:Nat):(bxS rows top).length=rows.length * (top+1):=by
 unfold bxS
 induction rows with
 | nil=>simp
 | cons r rows ih=>rw[List.flatMap_cons,List.length_append,ih,List.length_map,List.length_range,List.length_cons,Nat.succ_mul]; lia
theorem tu {ts:List Nat} {i top:Nat} (h:ts[i]? = some top):lO (ts.take (i+1))=bxS (lO (ts.take i)) top:=by
 unfold lO
 rw[List.take_add_one,h]
 show ((ts.take i)++[top]).foldl bxS [[]]=_
 rw[List.foldl_append]
 rfl
theorem Gm {rows:List (List Int)} {j top:Nat} {r:List Int} (h:rows[j]? = some r):bxS (rows.take (j+1)) top=bxS (rows.take j) top++(List.range (top+1)).map fun s:Nat=>r++[(s:Int)]:=by
 unfold bxS
 rw[List.take_add_one,h]
 show ((rows.take j)++[r]).flatMap _=_
 rw[List.flatMap_append]
 simp
theorem yG:∀ (ts:List Nat) (rows:List (List Int)) (k:Nat),(∀ r∈rows,r.length=k)->∀ r∈ts.foldl bxS rows,r.length=k+ts.length
 | [],rows,k,h,r,hr=>by simpa using h r hr
 | t::ts,rows,k,h,r,hr=>by
  rw[List.foldl_cons] at hr
  have:=yG ts (bxS rows t) (k+1) (fun r hr=>by
   unfold bxS at hr
   obtain⟨q,hq,hr⟩:=List.mem_flatMap.mp hr
   obtain⟨s,_,rfl⟩:=List.mem_map.mp hr
   rw[List.length_append,h q hq]
   rfl) r hr
  rw[List.length_cons]
  lia
theorem eF {ts:List Nat} {r:List Int} (h:r∈lO ts):r.length=ts.length:=by
 have:=yG ts [[]] 0 (fun r hr=>by rw[List.mem_singleton.mp hr]; rfl) r h
 lia
theorem eV.append {H:Hp}:∀ {us vs:List V} {gs hs:List (List Int)},eV H us gs->eV H vs hs->eV H (us++vs) (gs++hs)
 | _,_,_,_,.nil,s=>s
 | _,_,_,_,.cons a b r,s=>.cons a b (eV.append r s)
theorem eV.at {H:Hp}:∀ {us:List V} {gs:List (List Int)} {i:Nat} {v:V},eV H us gs->us[i]? = some v->∃ a g,v = .ref a/\gs[i]? = some g/\H a=some (.tup (g.map V.int))/\g.length<=1000
 | _,_,_,_,.nil,h=>by simp at h
 | _,_,0,_,.cons h l _,e=>by
  cases (show some _=some _ from e)
  exact⟨_,_,rfl,rfl,h,l⟩
 | _,_,i+1,_,.cons _ _ r,e=>by
  obtain⟨a,g,h1,h2,h3⟩:=eV.at (i:=i) r (by simpa using e)
  exact⟨a,g,h1,by simpa using h2,h3⟩
theorem oF (us:List Nat) (t:Nat):lO (us++[t])=bxS (lO us) t:=by
 unfold lO
 rw[List.foldl_append]
 rfl
noncomputable def leB:List Int->List Nat->Bool
 | [],[]=>true
 | g::gs,u::us=>decide (g<=(u:Int)) && leB gs us
 | _,_=>false
theorem rD {s:Int} {u:Nat}:∀ {r:List Int} {us:List Nat},r.length=us.length->leB (r++[s]) (us++[u])=(leB r us && decide (s<=(u:Int)))
 | [],[],_=>by simp [leB]
 | [],_::_,h=>by cases h
 | _::_,[],h=>by cases h
 | g::r,v::us,h=>by
  rw[List.cons_append,List.cons_append,leB,leB,rD (Nat.succ.inj h),Bool.and_assoc]
theorem Kq {t u:Nat} (h:u<=t):(List.range (t+1)).filter (fun s=>decide (s<=u))=List.range (u+1):=by
 obtain⟨d,rfl⟩:∃ d,t=u+d:=⟨t - u,by lia⟩
 rw[show u+d+1=(u+1)+d by lia,List.range_add,List.filter_append,List.filter_eq_self.mpr (fun a ha=>decide_eq_true (by have:=List.mem_range.mp ha; lia)),List.filter_eq_nil_iff.mpr (fun a ha=>by obtain⟨b,_,rfl⟩:=List.mem_map.mp ha; simp; lia)]
 simp
theorem DG {us:List Nat} {t u:Nat} (h:u<=t):∀ rows:List (List Int),(∀ r∈rows,r.length=us.length)->(bxS rows t).filter (fun g=>leB g (us++[u]))=bxS (rows.filter fun g=>leB g us) u
 | [],_=>rfl
 | r::rows,hl=>by
  have ih:=DG h rows fun q hq=>hl q (List.mem_cons_of_mem _ hq)
  have hr:=hl r List.mem_cons_self
  unfold bxS at ih ⊢
  rw[List.flatMap_cons,List.filter_append,ih]
  have e:(List.map (fun s:Nat=>r++[(s:Int)]) (List.range (t+1))).filter (fun g=>leB g (us++[u]))=if leB r us=true then (List.range (u+1)).map (fun s:Nat=>r++[(s:Int)]) else []:=by
   by_cases hb:leB r us=true
   ·rw[if_pos hb,List.filter_map,← Kq h]
    congr 1
    refine List.filter_congr fun s _=>?_
    show leB (r++[(s:Int)]) (us++[u])=_
    rw[rD hr,hb,Bool.true_and]
    simp
   ·rw[if_neg hb]
    refine List.filter_eq_nil_iff.mpr fun g hg=>?_
    obtain⟨s,_,rfl⟩:=List.mem_map.mp hg
    rw[rD hr]
    simp [hb]
  rw[e]
  by_cases hb:leB r us=true
  ·rw[if_pos hb,List.filter_cons,if_pos hb,List.flatMap_cons]
  ·rw[if_neg hb,List.filter_cons,if_neg hb]
   rfl
theorem Bu:∀ (n:Nat) (ts us:List Nat),ts.length=n->us.length=n->(∀ i:Nat,us.getD i 0<=ts.getD i 0)->(lO ts).filter (fun g=>leB g us)=lO us
 | 0,ts,us,h1,h2,_=>by
  cases List.eq_nil_of_length_eq_zero h1
  cases List.eq_nil_of_length_eq_zero h2
  rfl
 | n+1,ts,us,h1,h2,h=>by
  obtain⟨ts,t,rfl⟩:∃ a b,ts=a++[b]:=⟨ts.dropLast,ts.getLast (fun e=>by rw[e] at h1; cases h1),(List.dropLast_concat_getLast _).symm⟩
  obtain⟨us,u,rfl⟩:∃ a b,us=a++[b]:=⟨us.dropLast,us.getLast (fun e=>by rw[e] at h2; cases h2),(List.dropLast_concat_getLast _).symm⟩
  have l1:ts.length=n:=by rw[List.length_append] at h1; simpa using h1
  have l2:us.length=n:=by rw[List.length_append] at h2; simpa using h2
  have hu:u<=t:=by
   have:=h n
   rw[List.getD_eq_getElem?_getD,List.getD_eq_getElem?_getD,List.getElem?_append_right (by lia),List.getElem?_append_right (by lia),l1,l2] at this
   simpa using this
  rw[oF,oF,DG hu (lO ts) fun r hr=>by rw[eF hr]; lia,Bu n ts us l1 l2 fun i=>?_]
  by_cases hi:i < n
  ·have:=h i
   rw[List.getD_eq_getElem?_getD,List.getD_eq_getElem?_getD,List.getElem?_append_left (by lia),List.getElem?_append_left (by lia)] at this
   rw[List.getD_eq_getElem?_getD,List.getD_eq_getElem?_getD]
   exact this
  ·rw[List.getD_eq_getElem?_getD,List.getElem?_eq_none (by lia)]
   exact Nat.zero_le _
theorem GQ:∀ {g:List Int} {us:List Nat},g.length=us.length->(∀ i:Nat,g.getD i 0<=((us.getD i 0:Nat):Int))->leB g us=true
 | [],[],_,_=>rfl
 | [],_::_,h,_=>by cases h
 | _::_,[],h,_=>by cases h
 | a::g,u::us,h,k=>by
  rw[leB,GQ (Nat.succ.inj h) (fun i=>by have:=k (i+1); simpa using this),Bool.and_true]
  exact decide_eq_true (by have:=k 0; simpa using this)
theorem Jb {α:Type} {p q:α->Bool} {l:List α} (h:∀ a∈l,q a=true->p a=true):(l.filter p).filter q=l.filter q:=by
 rw[List.filter_filter]
 refine List.filter_congr fun a ha=>?_
 cases e:q a with
 | false=>rfl
 | true=>rw[h a ha e]; rfl
theorem yF:∀ (n:Nat) (ts:List Nat) (g:List Int),ts.length=n->g.length=n->(∀ i:Nat,0<=g.getD i 0/\g.getD i 0<=((ts.getD i 0:Nat):Int))->g∈lO ts
 | 0,ts,g,h1,h2,_=>by
  cases List.eq_nil_of_length_eq_zero h1
  cases List.eq_nil_of_length_eq_zero h2
  exact List.mem_singleton.mpr rfl
 | n+1,ts,g,h1,h2,h=>by
  obtain⟨ts,t,rfl⟩:∃ a b,ts=a++[b]:=⟨ts.dropLast,ts.getLast (fun e=>by rw[e] at h1; cases h1),(List.dropLast_concat_getLast _).symm⟩
  obtain⟨g,x,rfl⟩:∃ a b,g=a++[b]:=⟨g.dropLast,g.getLast (fun e=>by rw[e] at h2; cases h2),(List.dropLast_concat_getLast _).symm⟩
  have l1:ts.length=n:=by rw[List.length_append] at h1; simpa using h1
  have l2:g.length=n:=by rw[List.length_append] at h2; simpa using h2
  have hx:=h n
  rw[List.getD_eq_getElem?_getD,List.getD_eq_getElem?_getD,List.getElem?_append_right (by lia),List.getElem?_append_right (by lia),l1,l2,Nat.sub_self] at hx
  have hx:0<=x/\x<=(t:Int):=by simpa using hx
  rw[oF]
  unfold bxS
  refine List.mem_flatMap.mpr ⟨g,yF n ts g l1 l2 fun i=>?_,List.mem_map.mpr ⟨x.toNat,List.mem_range.mpr (by lia),by rw[Int.toNat_of_nonneg hx.1]⟩⟩
  by_cases hi:i < n
  ·have:=h i
   rw[List.getD_eq_getElem?_getD,List.getD_eq_getElem?_getD,List.getElem?_append_left (by lia),List.getElem?_append_left (by lia)] at this
   rw[List.getD_eq_getElem?_getD,List.getD_eq_getElem?_getD]
   exact this
  ·rw[List.getD_eq_getElem?_getD,List.getElem?_eq_none (by lia)]
   exact⟨Int.le_refl _,Int.natCast_nonneg _⟩
theorem GC (ts:List Nat) (g:List Int) (h:g.length=ts.length) (k:∀ i:Nat,0<=g.getD i 0/\g.getD i 0<=((ts.getD i 0:Nat):Int)):g∈lO ts:=yF ts.length ts g rfl h k
theorem LQ {K:W.Frag} {a D:Addr} {us:List V} {gs:List (List Int)} {tt:TT} {H1:Hp} {Q:Hp->Prop} {u0:Option V} {rest:St} (p:List Int->Bool) (hl:H1 a=some (.lst us)) (gr:eV H1 us gs) (lg:gs.length<=5000) (hD:H1 D=none)
  (hs:∀ (r:Addr) (g:List Int) (Hx:Hp) (Q':Bool->Hp->Prop),g∈gs->aU H1 Hx->Hx r=some (.tup (g.map V.int))->(∀ Hy,aU Hx Hy->Q' (p g) Hy)->tt (some (.ref r)::rest) Hx Q')
  (hd:∀ ys Hx,aU H1 Hx->Hx D=some (.lst ys)->eV Hx ys (gs.filter p)->Q Hx):eO D (u0::rest) (Itl K a) (vW 0) tt (Ka 0) H1 Q:=by
 refine eG (K:=K) (a:=a) (xs:=us) (fun i ys σ Hx=>(∃ u,σ=u::rest)/\aU H1 Hx/\Hx D=some (.lst ys)/\eV H1 ys ((gs.take i).filter p)) ⟨⟨_,rfl⟩,aB hD _,ao,by rw[List.take_zero]; exact .nil⟩
  (fun i ys σ Hx _ h=>⟨SqL.of (h.2.1 _ _ hl),h.2.2.1⟩) ?_ ?_
 ·rintro i ys x σ Hx hx ⟨⟨u,rfl⟩,sx,eD,gy⟩
  obtain⟨r,g,rfl,hg,er,l1⟩:=gr.at hx
  have et:gs.take (i+1)=gs.take i++[g]:=by rw[List.take_add_one,hg]; rfl
  have ly:=gy.length
  refine hs r g Hx _ (List.mem_of_getElem? hg) sx (sx _ _ er) fun Hy sy=>?_
  refine vg (fun c=>?_) (fun c=>?_)
  ·refine⟨_,rfl,sy _ _ eD,?_,⟨_,rfl⟩,aP (sx.trans sy) hD _,ao,?_⟩
   ·have h1:=List.length_filter_le p (gs.take i)
    rw[List.length_take] at h1
    exact Nat.lt_of_le_of_lt (show ys.length<=5000 by lia) (by decide)
   ·rw[et,List.filter_append,List.filter_cons,if_pos c]
    exact eV.snoc er l1 gy
  ·refine⟨⟨_,rfl⟩,sx.trans sy,sy _ _ eD,?_⟩
   rw[et,List.filter_append,List.filter_cons,if_neg c,List.filter_nil,List.append_nil]
   exact gy
 ·rintro ys σ Hx ⟨_,sx,eD,gy⟩
  rw[gr.length,List.take_length] at gy
  exact hd ys Hx sx eD (gy.mono sx)
noncomputable def rfN (fl:List Int) (bk:List (List Pl)):List Nat:=(rfF fl bk).map Int.toNat
noncomputable def evF (fl:List Int) (bk:List (List Pl)) (ts:List Nat):List (List Int):=(lO ts).filter fun g=>decide (cL g fl bk=g)
theorem BZ (mo:Nat):∀ (n:Nat) (rows:List (List Int)),((List.replicate n mo).foldl bxS rows).length=rows.length * (mo+1) ^ n
 | 0,rows=>by simp
 | n+1,rows=>by
  rw[List.replicate_succ,List.foldl_cons,BZ mo n,jf,Nat.pow_succ,Nat.mul_assoc,Nat.mul_comm (mo+1)]
theorem yD {mo n:Nat} (h:(mo+1) ^ n<=256) (i:Nat):(lO ((List.replicate n mo).take i)).length<=5000:=by
 unfold lO
 rw[List.take_replicate,BZ]
 have:(mo+1) ^ (min i n)<=(mo+1) ^ n:=Nat.pow_le_pow_right (Nat.succ_pos _) (by lia)
 simp
 lia
noncomputable abbrev dZ:Stmt:=top 1
noncomputable def Lz (H:Hp) (x C dx:Addr) (w:Str):Hp:=upd (upd (upd H x (xO x C none)) dx (.xd [("word",.str w)])) x (xO x C (some dx))
theorem Ld {H:Hp} {x C dx:Addr} {w:Str}:Lz H x C dx w x=some (xO x C (some dx)):=ao
theorem Lb {H:Hp} {x C dx:Addr} {w:Str} (h:dx≠x):Lz H x C dx w dx=some (.xd [("word",.str w)]):=(aR h).trans ao
theorem Ec:aL ["self","word"] ["self","word"] (aq (inClass dZ 0)):=⟨rfl,rfl,rfl,by decide+kernel,rfl,by decide+kernel,by decide+kernel⟩
inductive xF (K:W.Frag) (vs:List V) (H:Hp) (Q:VK):Prop where
 | mk (x C f:Addr) (w:Str) (z0:vs=[.ref x,.str w]) (z1:H x=some (xO x C none)) (z2:zR K C f "word") (z3:∀ dx,dx≠x->H dx=none->Q .non (Lz H x C dx w)):xF K vs H Q
noncomputable def qG (K:W.Frag):Sp:=fun vs H Q _=>xF K vs H Q
theorem Ei (F:Fun K "__init__" "BoonError.__init__" (inClass dZ 0) f fd) (hv:mg "ValueError" = none):cu P w K mg base CX0 1 f fd ["self","word"] (qG K):=by
 refine F.ok Ec (fun vs H Q E h=>?_) (fun cdv A outer s H vs Q E hr h=>?_)
 ·obtain⟨x,C,f,w,rfl,_⟩:=h
  rfl
 ·obtain⟨x,C,f,w,rfl,hx,XC,q⟩:=h
  refine⟨_,aA (cW (Gn rfl hv (aa (pv 0) (aa (pv 1) aj)))) (aC (J8 (pv 0) (pv 1) rfl)),?_⟩
  refine⟨_,rfl,_,rfl,x,C,f,"word",none,_,rfl,hx,XC,?_⟩
  refine⟨_,rfl,_,rfl,x,C,f,rfl,ao,XC,fun dx hd=>?_⟩
  have n:dx≠x:=fun z=>by rw[z,ao] at hd; cases hd
  rw[aR n] at hd
  exact q dx n hd
inductive xP (K:W.Frag) (w:Str) (vs:List V) (H:Hp) (Q:VK):Prop where
 | mk (x C f:Addr) (z0:vs=[.ref x]) (z1:H x=some (xO x C none)) (z2:zR K C f "word") (z3:∀ dx,dx≠x->H dx=none->Q .non (Lz H x C dx w)):xP K w vs H Q
noncomputable def qu (K:W.Frag) (w:Str):Sp:=fun vs H Q _=>xP K w vs H Q
structure Xc (P:Program) (w:World) (K:W.Frag) (mg:Str->Option Value) (base:Heap) (c:Str) (C:Addr) (wd:Str):Prop where
 ex:∃ (f:Addr) (fd:FuncData),cu P w K mg base CX0 2 f fd ["self"] (qu K wd)/\mg c=some (.ref C)/\zR K C f "word"/\Binds K fd ["self"] []
noncomputable def thrown (C:Addr) (w:Str) (H:Hp) (E:XK):Prop:=∀ dx H1,aU H H1->H1 dx=some (.xd [("word",.str w)])->E (.ref C) (some dx) H1
section
variable {X:Cx} {c wd:Str} {C:Addr} {p pos pos':Pos} {E:XK} {j:Nat}
noncomputable def Mj (C:Addr) (w:Str) (E:XK):TS:=fun _ _ H=>thrown C w H E
theorem rC (D:Xc X.prog X.w X.K X.mg X.base c C wd) (hr:gB j X.A) (hc:X.calm=true) (hw:Throws X fun x C dx H=>E (.ref C) (some dx) (off H x)) (hk : autoParam (3<=j) L2.az2._auto_1) (hg : autoParam (Gl X c) L2.az5._auto_1) (hdb : autoParam ((c == ("__debug__" : Str))=false) L2.az2._auto_1) :
  PS X (.Raise (some (.Call (.Name c p) [] [] pos)) none pos') (Mj C wd E):=by
 obtain⟨f,fd,F,hm,XC,hb⟩:=D.ex
 intro pins s σ H De I h
 refine Gj (W:=fun x C dx H=>E (.ref C) (some dx) (off H x)) hc (Ge XC F (hr.mono hk) hg hm hb DK hdb) hw pins s σ H De I fun x hx=>?_
 refine⟨x,C,f,rfl,ao,XC,fun dx n hd=>⟨rfl,x,C,f,dx,"word",rfl,Ld,XC,?_⟩⟩
 rw[aR n] at hd
 refine h dx _ (fun b u e=>?_) ?_
 ·have e1:upd H x (xO x C none) b=some u:=by rw[aR (cH e hx)]; exact e
  have n1:b≠x:=cH e hx
  have n2:b≠dx:=cH e hd
  rw[off_ne n1]
  unfold Lz
  rw[aR n1,aR n2,aR n1]
  exact e1
 ·rw[off_ne n]
  exact Lb n
end
noncomputable abbrev iB:Stmt:=top 2
theorem Fy:aL ["self"] ["self"] (aq (inClass iB 0)):=⟨rfl,rfl,rfl,by decide+kernel,rfl,by decide+kernel,by decide+kernel⟩
theorem Eb {f fB CB:Addr} {mc:Value} {fd fdB:FuncData} (F:Fun K "__init__" "NotKept.__init__" (inClass iB 0) f fd) (hB:mg "BoonError" = some (.ref CB)) (O:Bg K CB mc "__init__" fB)
  (FB:cu P w K mg base CX0 1 fB fdB ["self","word"] (qG K)) (bB:Binds K fdB ["self","word"] []):cu P w K mg base CX0 2 f fd ["self"] (qu K "not kept"):=by
 refine F.ok Fy (fun vs H Q E h=>?_) (fun cdv A outer s H vs Q E hr h=>?_)
 ·obtain⟨x,C,f,rfl,_⟩:=h
  rfl
 ·obtain⟨x,C,f,rfl,hx,XC,q⟩:=h
  refine⟨_,aC (cW (jY rfl hB O FB hr bB .nil DK (aa (pv 0) (aa bG aj)))),?_⟩
  exact⟨_,rfl,x,C,f,_,rfl,hx,XC,fun dx n hd=>q dx n hd⟩
noncomputable abbrev fK:Stmt:=top 3
theorem Eo:aL ["self"] ["self"] (aq (inClass fK 0)):=⟨rfl,rfl,rfl,by decide+kernel,rfl,by decide+kernel,by decide+kernel⟩
theorem Ft {f fB CB:Addr} {mc:Value} {fd fdB:FuncData} (F:Fun K "__init__" "NotClear.__init__" (inClass fK 0) f fd) (hB:mg "BoonError" = some (.ref CB)) (O:Bg K CB mc "__init__" fB)
  (FB:cu P w K mg base CX0 1 fB fdB ["self","word"] (qG K)) (bB:Binds K fdB ["self","word"] []):cu P w K mg base CX0 2 f fd ["self"] (qu K "not clear"):=by
 refine F.ok Eo (fun vs H Q E h=>?_) (fun cdv A outer s H vs Q E hr h=>?_)
 ·obtain⟨x,C,f,rfl,_⟩:=h
  rfl
 ·obtain⟨x,C,f,rfl,hx,XC,q⟩:=h
  refine⟨_,aC (cW (jY rfl hB O FB hr bB .nil DK (aa (pv 0) (aa bG aj)))),?_⟩
  exact⟨_,rfl,x,C,f,_,rfl,hx,XC,fun dx n hd=>q dx n hd⟩
noncomputable abbrev iw:Stmt:=top 4
theorem Gp:aL ["self"] ["self"] (aq (inClass iw 0)):=⟨rfl,rfl,rfl,by decide+kernel,rfl,by decide+kernel,by decide+kernel⟩
theorem Gb {f fB CB:Addr} {mc:Value} {fd fdB:FuncData} (F:Fun K "__init__" "NotEven.__init__" (inClass iw 0) f fd) (hB:mg "BoonError" = some (.ref CB)) (O:Bg K CB mc "__init__" fB)
  (FB:cu P w K mg base CX0 1 fB fdB ["self","word"] (qG K)) (bB:Binds K fdB ["self","word"] []):cu P w K mg base CX0 2 f fd ["self"] (qu K "not even"):=by
 refine F.ok Gp (fun vs H Q E h=>?_) (fun cdv A outer s H vs Q E hr h=>?_)
 ·obtain⟨x,C,f,rfl,_⟩:=h
  rfl
 ·obtain⟨x,C,f,rfl,hx,XC,q⟩:=h
  refine⟨_,aC (cW (jY rfl hB O FB hr bB .nil DK (aa (pv 0) (aa bG aj)))),?_⟩
  exact⟨_,rfl,x,C,f,_,rfl,hx,XC,fun dx n hd=>q dx n hd⟩
noncomputable abbrev j6:Stmt:=top 28
noncomputable abbrev o8:Stmt:=top 29
theorem Gd:aL ["book","floor","giving"] ["book","floor","giving"] (aq j6):=⟨rfl,rfl,rfl,by decide+kernel,rfl,by decide+kernel,by decide+kernel⟩
theorem JR:aL ["book","floor","giving"] ["book","floor","giving"] (aq o8):=⟨rfl,rfl,rfl,by decide+kernel,rfl,by decide+kernel,by decide+kernel⟩
inductive xr (C:Addr) (wd:Str) (Φ:List Int->List Int->Bool) (vs:List V) (H:Hp) (Q:VK) (E:XK):Prop where
 | mk (b f g:Addr) (n:Nat) (bk:List (List Pl)) (fl x:List Int) (z0:vs=[.ref b,.ref f,.ref g]) (z1:pK n H b bk) (z2:bk.length=n) (z3:H f=some (.tup (fl.map V.int))) (z4:okG n fl) (z5:H g=some (.tup (x.map V.int))) (z6:okG n x) (z7:(Φ (cL x fl bk) x=false->thrown C wd H E)) (z8:(Φ (cL x fl bk) x=true->∀ (m:Nat) (a:Addr) (H':Hp),Stops (Fd fl bk) x m->aU H H'->H' a=some (.tup ((itF (Fd fl bk) x m).map V.int))->Q (.ref a) H')):xr C wd Φ vs H Q E
noncomputable def kJ (C:Addr) (wd:Str) (Φ:List Int->List Int->Bool):Sp:=fun vs H Q E=>xr C wd Φ vs H Q E
theorem FP {f C:Addr} {fd:FuncData} (F:Fun K "risen" "risen" j6 f fd) (B:Bt mg)
  (D_kept:Df P w K mg base "kept" 11 ["book","floor","giving"] (iH K abv)) (D_settled:Df P w K mg base "settled" 11 ["book","floor","giving"] (ik K)) (X_NotKept:Xc P w K mg base "NotKept" C "not kept"):cu P w K mg base (XL P w) 12 f fd ["book","floor","giving"] (kJ C "not kept" abv):=by
 refine F.okX Gd (fun vs H Q E h=>?_) (fun cdv A outer s H vs Q E hr h=>?_)
 ·obtain⟨b,f,g,n,bk,fl,x,rfl,_⟩:=h
  rfl
 ·obtain⟨b,f,g,n,bk,fl,x,rfl,hb,lb,hf,of,hg,ox,hbad,q⟩:=h
  refine⟨_,(aA (bV (lG (dG (aY D_kept hr (aa (pv 0) (aa (pv 1) (aa (pv 2) aj)))))) (aC (rC X_NotKept hr rfl nO)) aW)
 (aC (aJ (aV (r:=eU K) aO (aY D_settled hr (aa (pv 0) (aa (pv 1) (aa (pv 2) aj)))) (Ah sS au) (fun _ _=>rfl))))),?_⟩
  have okb:=hb.okB
  have hlb:fl.length=bk.length:=by rw[of.1,lb]
  have lx:x.length=bk.length:=by rw[ox.1,lb]
  have f0:∀ y∈fl,0<=y:=fun y hy=>(of.2 y hy).1
  refine⟨_,rfl,_,rfl,_,rfl,b,f,g,n,bk,fl,x,rfl,hb,SqT.of hf,SqT.of hg,hlb,lx,by lia,f0,fun H1 s1=>⟨_,rfl,?_⟩⟩
  cases e:abv (cL x fl bk) x with
  | false =>
   refine oZ ?_
   exact fun dx Hd sd ed=>hbad e dx Hd (s1.trans sd) ed
  | true =>
   refine jx ?_
   have up:LeG x (cL x fl bk):=(bK (by rw[dh hlb]; lia)).mp e
   obtain⟨m,hm,st⟩:=qW lb okb of ox up
   refine⟨_,rfl,_,rfl,_,rfl,b,f,g,n,bk,fl,x,m,rfl,hb.mono s1,lb,s1 _ _ hf,of,s1 _ _ hg,ox,hm,st,fun r us H' s2 _ er gr=>?_⟩
   obtain⟨a,ha,ea⟩:=jH gr
   exact⟨_,rfl,r,_,_,_,rfl,rfl,SqL.of er,ha,q e m a H' st (s1.trans s2) ea⟩
theorem Jc {f C:Addr} {fd:FuncData} (F:Fun K "sunk" "sunk" o8 f fd) (B:Bt mg)
  (D_clear:Df P w K mg base "clear" 11 ["book","floor","giving"] (iH K fun d g=>abv g d)) (D_settled:Df P w K mg base "settled" 11 ["book","floor","giving"] (ik K)) (X_NotClear:Xc P w K mg base "NotClear" C "not clear"):cu P w K mg base (XL P w) 12 f fd ["book","floor","giving"] (kJ C "not clear" fun d g=>abv g d):=by
 refine F.okX JR (fun vs H Q E h=>?_) (fun cdv A outer s H vs Q E hr h=>?_)
 ·obtain⟨b,f,g,n,bk,fl,x,rfl,_⟩:=h
  rfl
 ·obtain⟨b,f,g,n,bk,fl,x,rfl,hb,lb,hf,of,hg,ox,hbad,q⟩:=h
  refine⟨_,(aA (bV (lG (dG (aY D_clear hr (aa (pv 0) (aa (pv 1) (aa (pv 2) aj)))))) (aC (rC X_NotClear hr rfl nO)) aW)
 (aC (aJ (aV (r:=eU K) aO (aY D_settled hr (aa (pv 0) (aa (pv 1) (aa (pv 2) aj)))) (Ah sS au) (fun _ _=>rfl))))),?_⟩
  have okb:=hb.okB
  have hlb:fl.length=bk.length:=by rw[of.1,lb]
  have lx:x.length=bk.length:=by rw[ox.1,lb]
  have f0:∀ y∈fl,0<=y:=fun y hy=>(of.2 y hy).1
  refine⟨_,rfl,_,rfl,_,rfl,b,f,g,n,bk,fl,x,rfl,hb,SqT.of hf,SqT.of hg,hlb,lx,by lia,f0,fun H1 s1=>⟨_,rfl,?_⟩⟩
  refine vg (fun c=>?_) (fun c=>?_)
  ·have e:abv x (cL x fl bk)=false:=by simpa using c
   exact fun dx Hd sd ed=>hbad e dx Hd (s1.trans sd) ed
  ·have e:abv x (cL x fl bk)=true:=by simpa using c
   have dn:LeG (cL x fl bk) x:=(bK (by rw[dh hlb]; lia)).mp e
   obtain⟨m,hm,st⟩:=jX lb okb of ox dn
   refine⟨_,rfl,_,rfl,_,rfl,b,f,g,n,bk,fl,x,m,rfl,hb.mono s1,lb,s1 _ _ hf,of,s1 _ _ hg,ox,hm,st,fun r us H' s2 _ er gr=>?_⟩
   obtain⟨a,ha,ea⟩:=jH gr
   exact⟨_,rfl,r,_,_,_,rfl,rfl,SqL.of er,ha,q e m a H' st (s1.trans s2) ea⟩
noncomputable def jnF (x y:List Int):List Int:=List.zipWith mxI x y
noncomputable def mtF (x y:List Int):List Int:=List.zipWith mnI x y
theorem tR (f:Int->Int->Int) (h0:f 0 0=0) {x y:List Int} (h:x.length=y.length) (i:Nat):(List.zipWith f x y).getD i 0=f (x.getD i 0) (y.getD i 0):=by
 by_cases hi:i < x.length
 ·have hj:i < y.length:=by lia
  rw[eY f hi hj,List.getD_eq_getElem?_getD (l:=y),List.getElem?_eq_getElem hj]
  rfl
 ·rw[List.getD_eq_getElem?_getD,List.getElem?_eq_none (by rw[List.length_zipWith]; lia),List.getD_eq_getElem?_getD,List.getElem?_eq_none (by lia),List.getD_eq_getElem?_getD,List.getElem?_eq_none (by lia)]
  exact h0.symm
theorem qT {x y:List Int} (h:x.length=y.length) (i:Nat):(jnF x y).getD i 0=mxI (x.getD i 0) (y.getD i 0):=tR mxI (by decide) h i
theorem su {x y:List Int} (h:x.length=y.length) (i:Nat):(mtF x y).getD i 0=mnI (x.getD i 0) (y.getD i 0):=tR mnI (by decide) h i
theorem ph (a b:Int):a<=mxI a b/\b<=mxI a b/\(mxI a b=a∨mxI a b=b):=by unfold mxI; split <;> lia
theorem pO (a b:Int):mnI a b<=a/\mnI a b<=b/\(mnI a b=a∨mnI a b=b):=by unfold mnI; split <;> lia
section
variable {n:Nat} {fl x y:List Int} {bk:List (List Pl)}
theorem vm (hx:okG n x) (hy:okG n y):okG n (jnF x y):=by
 have hl:x.length=y.length:=by rw[hx.1,hy.1]
 refine xf (by unfold jnF; rw[List.length_zipWith,hx.1,hy.1,Nat.min_self]) fun i hi=>?_
 rw[qT hl]
 have:=ph (x.getD i 0) (y.getD i 0)
 have:=gW hx hi
 have:=gW hy hi
 lia
theorem uv (hx:okG n x) (hy:okG n y):okG n (mtF x y):=by
 have hl:x.length=y.length:=by rw[hx.1,hy.1]
 refine xf (by unfold mtF; rw[List.length_zipWith,hx.1,hy.1,Nat.min_self]) fun i hi=>?_
 rw[su hl]
 have:=pO (x.getD i 0) (y.getD i 0)
 have:=gW hx hi
 have:=gW hy hi
 lia
theorem Od (h:x.length=y.length):LeG x (jnF x y):=fun i=>by rw[qT h]; exact (ph _ _).1
theorem Oh (h:x.length=y.length):LeG y (jnF x y):=fun i=>by rw[qT h]; exact (ph _ _).2.1
theorem FQ (h:x.length=y.length) {g:List Int} (h1:LeG x g) (h2:LeG y g):LeG (jnF x y) g:=fun i=>by
 rw[qT h]
 have:=ph (x.getD i 0) (y.getD i 0)
 have:=h1 i
 have:=h2 i
 lia
theorem Nq (h:x.length=y.length):LeG (mtF x y) x:=fun i=>by rw[su h]; exact (pO _ _).1
theorem Oj (h:x.length=y.length):LeG (mtF x y) y:=fun i=>by rw[su h]; exact (pO _ _).2.1
theorem Ej (h:x.length=y.length) {g:List Int} (h1:LeG g x) (h2:LeG g y):LeG g (mtF x y):=fun i=>by
 rw[su h]
 have:=pO (x.getD i 0) (y.getD i 0)
 have:=h1 i
 have:=h2 i
 lia
theorem gM (g:List Int):LeG g g:=fun _=>Int.le_refl _
theorem dq {g g':List Int} (hl:g.length=g'.length) (h1:LeG g g') (h2:LeG g' g):g=g':=by
 refine List.ext_getElem hl fun i hi hj=>?_
 have a:=h1 i
 have b:=h2 i
 rw[List.getD_eq_getElem?_getD,List.getElem?_eq_getElem hi,List.getD_eq_getElem?_getD,List.getElem?_eq_getElem hj] at a
 rw[List.getD_eq_getElem?_getD,List.getElem?_eq_getElem hj,List.getD_eq_getElem?_getD,List.getElem?_eq_getElem hi] at b
 have a:g[i]<=g'[i]:=a
 have b:g'[i]<=g[i]:=b
 lia
theorem wD (hb:bk.length=n) (ok:okB bk) (hf:okG n fl) (hx:okG n x) (hy:okG n y) (ex:cL x fl bk=x) (ey:cL y fl bk=y):LeG (jnF x y) (cL (jnF x y) fl bk):=by
 have hl:x.length=y.length:=by rw[hx.1,hy.1]
 refine FQ hl ?_ ?_
 ·have:=c7 hb ok hf (Od hl)
  rw[ex] at this
  exact this
 ·have:=c7 hb ok hf (Oh hl)
  rw[ey] at this
  exact this
theorem mV (hb:bk.length=n) (ok:okB bk) (hf:okG n fl) (hx:okG n x) (hy:okG n y) (ex:cL x fl bk=x) (ey:cL y fl bk=y):LeG (cL (mtF x y) fl bk) (mtF x y):=by
 have hl:x.length=y.length:=by rw[hx.1,hy.1]
 refine Ej hl ?_ ?_
 ·have:=c7 hb ok hf (Nq hl)
  rw[ex] at this
  exact this
 ·have:=c7 hb ok hf (Oj hl)
  rw[ey] at this
  exact this
theorem yt (hb:bk.length=n) (ok:okB bk) (hf:okG n fl) {g s:List Int} (h:LeG s g) (eg:cL g fl bk=g):∀ k,LeG (itF (Fd fl bk) s k) g
 | 0=>h
 | k+1=>by
  have:=c7 hb ok hf (yt hb ok hf h eg k)
  rw[eg] at this
  exact this
theorem xQ (hb:bk.length=n) (ok:okB bk) (hf:okG n fl) {g s:List Int} (h:LeG g s) (eg:cL g fl bk=g):∀ k,LeG g (itF (Fd fl bk) s k)
 | 0=>h
 | k+1=>by
  have:=c7 hb ok hf (xQ hb ok hf h eg k)
  rw[eg] at this
  exact this
theorem wW (hb:bk.length=n) (ok:okB bk) (hf:okG n fl) {s:List Int} (h:LeG s (cL s fl bk)):∀ k,LeG s (itF (Fd fl bk) s k)/\LeG (itF (Fd fl bk) s k) (itF (Fd fl bk) s (k+1))
 | 0=>⟨gM s,h⟩
 | k+1=>by
  obtain⟨h1,h2⟩:=wW hb ok hf h k
  exact⟨h1.trans h2,c7 hb ok hf h2⟩
theorem wQ (hb:bk.length=n) (ok:okB bk) (hf:okG n fl) {s:List Int} (h:LeG (cL s fl bk) s):∀ k,LeG (itF (Fd fl bk) s k) s/\LeG (itF (Fd fl bk) s (k+1)) (itF (Fd fl bk) s k)
 | 0=>⟨gM s,h⟩
 | k+1=>by
  obtain⟨h1,h2⟩:=wQ hb ok hf h k
  exact⟨h2.trans h1,c7 hb ok hf h2⟩
end
noncomputable abbrev dj:Stmt:=top 30
noncomputable abbrev cT:Stmt:=top 31
noncomputable abbrev fu:Stmt:=top 32
theorem rT:aL ["book","floor","giving"] ["book","floor","giving"] (aq dj):=⟨rfl,rfl,rfl,by decide+kernel,rfl,by decide+kernel,by decide+kernel⟩
theorem oO:aL ["book","floor","one","other"] ["book","floor","one","other"] (aq cT):=⟨rfl,rfl,rfl,by decide+kernel,rfl,by decide+kernel,by decide+kernel⟩
theorem vM:aL ["book","floor","one","other"] ["book","floor","one","other"] (aq fu):=⟨rfl,rfl,rfl,by decide+kernel,rfl,by decide+kernel,by decide+kernel⟩
inductive xK (C:Addr) (vs:List V) (H:Hp) (Q:VK) (E:XK):Prop where
 | mk (b f g:Addr) (n:Nat) (bk:List (List Pl)) (fl x:List Int) (z0:vs=[.ref b,.ref f,.ref g]) (z1:pK n H b bk) (z2:bk.length=n) (z3:H f=some (.tup (fl.map V.int))) (z4:okG n fl) (z5:H g=some (.tup (x.map V.int))) (z6:okG n x) (z7:(cL x fl bk≠x->thrown C "not even" H E)) (z8:(cL x fl bk=x->∀ H',aU H H'->Q .non H')):xK C vs H Q E
noncomputable def qJ (C:Addr):Sp:=fun vs H Q E=>xK C vs H Q E
theorem qX {f C:Addr} {fd:FuncData} (F:Fun K "check_even" "check_even" dj f fd) (B:Bt mg)
  (D_even:Df P w K mg base "even" 11 ["book","floor","giving"] (iH K fun d g=>decide (d=g))) (X_NotEven:Xc P w K mg base "NotEven" C "not even"):cu P w K mg base (XL P w) 12 f fd ["book","floor","giving"] (qJ C):=by
 refine F.okX rT (fun vs H Q E h=>?_) (fun cdv A outer s H vs Q E hr h=>?_)
 ·obtain⟨b,f,g,n,bk,fl,x,rfl,_⟩:=h
  rfl
 ·obtain⟨b,f,g,n,bk,fl,x,rfl,hb,lb,hf,of,hg,ox,hbad,q⟩:=h
  refine⟨_,(aC (bV (lG (dG (aY D_even hr (aa (pv 0) (aa (pv 1) (aa (pv 2) aj)))))) (aC (rC X_NotEven hr rfl nO)) aW)),?_⟩
  have hlb:fl.length=bk.length:=by rw[of.1,lb]
  have lx:x.length=bk.length:=by rw[ox.1,lb]
  refine⟨_,rfl,_,rfl,_,rfl,b,f,g,n,bk,fl,x,rfl,hb,SqT.of hf,SqT.of hg,hlb,lx,by lia,fun y hy=>(of.2 y hy).1,fun H1 s1=>⟨_,rfl,?_⟩⟩
  refine vg (fun c=>?_) (fun c=>?_)
  ·have e:cL x fl bk≠x:=by simpa using c
   exact fun dx Hd sd ed=>hbad e dx Hd (s1.trans sd) ed
  ·have e:cL x fl bk=x:=by simpa using c
   exact q e H1 s1
inductive wV (C:Addr) (st:List Int->List Int->List Int) (vs:List V) (H:Hp) (Q:VK) (E:XK):Prop where
 | mk (b f g h:Addr) (n:Nat) (bk:List (List Pl)) (fl x y:List Int) (z0:vs=[.ref b,.ref f,.ref g,.ref h]) (z1:pK n H b bk) (z2:bk.length=n) (z3:H f=some (.tup (fl.map V.int))) (z4:okG n fl) (z5:H g=some (.tup (x.map V.int))) (z6:okG n x) (z7:H h=some (.tup (y.map V.int))) (z8:okG n y) (z9:((cL x fl bk≠x∨cL y fl bk≠y)->thrown C "not even" H E)) (z10:(cL x fl bk=x->cL y fl bk=y->∀ (m:Nat) (a:Addr) (H':Hp),Stops (Fd fl bk) (st x y) m->aU H H'->H' a=some (.tup ((itF (Fd fl bk) (st x y) m).map V.int))->Q (.ref a) H')):wV C st vs H Q E
noncomputable def iV (C:Addr) (st:List Int->List Int->List Int):Sp:=fun vs H Q E=>wV C st vs H Q E
theorem oJ {f C C2:Addr} {fd:FuncData} (F:Fun K "joined_even" "joined_even" cT f fd) (B:Bt mg)
  (D_check_even:Dx P w K mg base "check_even" 12 ["book","floor","giving"] (qJ C)) (D_risen:Dx P w K mg base "risen" 12 ["book","floor","giving"] (kJ C2 "not kept" abv)) (D_joined:Df P w K mg base "joined" 1 ["one","other"] (qQ K)):cu P w K mg base (XL P w) 13 f fd ["book","floor","one","other"] (iV C jnF):=by
 refine F.okX oO (fun vs H Q E h=>?_) (fun cdv A outer s H vs Q E hr h=>?_)
 ·obtain⟨b,f,g,h',n,bk,fl,x,y,rfl,_⟩:=h
  rfl
 ·obtain⟨b,f,g,h',n,bk,fl,x,y,rfl,hb,lb,hf,of,hg,ox,hh,oy,hbad,q⟩:=h
  refine⟨_,(aA (cW (oW D_check_even hr ig (aa (pv 0) (aa (pv 1) (aa (pv 2) aj)))))
 (aA (cW (oW D_check_even hr ig (aa (pv 0) (aa (pv 1) (aa (pv 3) aj)))))
 (aC (aJ (oW D_risen hr ig (aa (pv 0) (aa (pv 1) (aa (aY D_joined hr (aa (pv 2) (aa (pv 3) aj))) aj)))))))),?_⟩
  have okb:=hb.okB
  have n12:n<=12:=by obtain⟨_,_,_,z⟩:=hb; lia
  refine⟨_,rfl,_,rfl,_,rfl,b,f,g,n,bk,fl,x,rfl,hb,lb,hf,of,hg,ox,fun e=>hbad (.inl e),fun ex H1 s1=>?_⟩
  refine⟨_,rfl,_,rfl,_,rfl,b,f,h',n,bk,fl,y,rfl,hb.mono s1,lb,s1 _ _ hf,of,s1 _ _ hh,oy,fun e dx Hd sd ed=>hbad (.inr e) dx Hd (s1.trans sd) ed,fun ey H2 s2=>?_⟩
  have s12:=s1.trans s2
  refine⟨_,rfl,_,rfl,_,rfl,_,rfl,g,h',x,y,rfl,SqT.of (s12 _ _ hg),SqT.of (s12 _ _ hh),by rw[ox.1,oy.1],by rw[ox.1]; lia,fun r H3 s3 _ er=>?_⟩
  have s13:=s12.trans s3
  have oj:=vm ox oy
  have kp:=wD lb okb of ox oy ex ey
  have ab:abv (cL (jnF x y) fl bk) (jnF x y)=true:=(bK (by rw[dh (by rw[of.1,lb]),oj.1,lb])).mpr kp
  exact⟨b,f,r,n,bk,fl,jnF x y,rfl,hb.mono s13,lb,s13 _ _ hf,of,er,oj,fun z=>absurd (ab.symm.trans z) (by decide),fun _ m a H' st s4 ea=>q ex ey m a H' st (s13.trans s4) ea⟩
theorem wz {f C C2:Addr} {fd:FuncData} (F:Fun K "met_even" "met_even" fu f fd) (B:Bt mg)
  (D_check_even:Dx P w K mg base "check_even" 12 ["book","floor","giving"] (qJ C)) (D_sunk:Dx P w K mg base "sunk" 12 ["book","floor","giving"] (kJ C2 "not clear" fun d g=>abv g d)) (D_met:Df P w K mg base "met" 1 ["one","other"] (Ky K)):cu P w K mg base (XL P w) 13 f fd ["book","floor","one","other"] (iV C mtF):=by
 refine F.okX vM (fun vs H Q E h=>?_) (fun cdv A outer s H vs Q E hr h=>?_)
 ·obtain⟨b,f,g,h',n,bk,fl,x,y,rfl,_⟩:=h
  rfl
 ·obtain⟨b,f,g,h',n,bk,fl,x,y,rfl,hb,lb,hf,of,hg,ox,hh,oy,hbad,q⟩:=h
  refine⟨_,(aA (cW (oW D_check_even hr ig (aa (pv 0) (aa (pv 1) (aa (pv 2) aj)))))
 (aA (cW (oW D_check_even hr ig (aa (pv 0) (aa (pv 1) (aa (pv 3) aj)))))
 (aC (aJ (oW D_sunk hr ig (aa (pv 0) (aa (pv 1) (aa (aY D_met hr (aa (pv 2) (aa (pv 3) aj))) aj)))))))),?_⟩
  have okb:=hb.okB
  have n12:n<=12:=by obtain⟨_,_,_,z⟩:=hb; lia
  refine⟨_,rfl,_,rfl,_,rfl,b,f,g,n,bk,fl,x,rfl,hb,lb,hf,of,hg,ox,fun e=>hbad (.inl e),fun ex H1 s1=>?_⟩
  refine⟨_,rfl,_,rfl,_,rfl,b,f,h',n,bk,fl,y,rfl,hb.mono s1,lb,s1 _ _ hf,of,s1 _ _ hh,oy,fun e dx Hd sd ed=>hbad (.inr e) dx Hd (s1.trans sd) ed,fun ey H2 s2=>?_⟩
  have s12:=s1.trans s2
  refine⟨_,rfl,_,rfl,_,rfl,_,rfl,g,h',x,y,rfl,SqT.of (s12 _ _ hg),SqT.of (s12 _ _ hh),by rw[ox.1,oy.1],by rw[ox.1]; lia,fun r H3 s3 _ er=>?_⟩
  have s13:=s12.trans s3
  have oj:=uv ox oy
  have kp:=mV lb okb of ox oy ex ey
  have ab:abv (mtF x y) (cL (mtF x y) fl bk)=true:=(bK (by rw[dh (by rw[of.1,lb]),oj.1,lb])).mpr kp
  exact⟨b,f,r,n,bk,fl,mtF x y,rfl,hb.mono s13,lb,s13 _ _ hf,of,er,oj,fun z=>absurd (ab.symm.trans z) (by decide),fun _ m a H' st s4 ea=>q ex ey m a H' st (s13.trans s4) ea⟩
noncomputable abbrev fO:Stmt:=top 56
theorem vJ:aL ["_law_book_here","_law_floor","_law_one","_law_other"] ["_law_book_here","_law_floor","_law_one","_law_other"] (aq fO):=⟨rfl,rfl,rfl,by decide+kernel,rfl,by decide+kernel,by decide+kernel⟩
inductive Bb (vs:List V) (H:Hp) (Q:VK):Prop where
 | mk (b f g h:Addr) (n:Nat) (bk:List (List Pl)) (fl x y:List Int) (z0:vs=[.ref b,.ref f,.ref g,.ref h]) (z1:pK n H b bk) (z2:bk.length=n) (z3:H f=some (.tup (fl.map V.int))) (z4:okG n fl) (z5:H g=some (.tup (x.map V.int))) (z6:okG n x) (z7:H h=some (.tup (y.map V.int))) (z8:okG n y) (z9:cL x fl bk=x) (z10:cL y fl bk=y) (z11:∀ (m1 m2:Nat) (a1 a2 r:Addr) (H':Hp),Stops (Fd fl bk) (jnF x y) m1->Stops (Fd fl bk) (mtF x y) m2->aU H H'->H' a1=some (.tup ((itF (Fd fl bk) (jnF x y) m1).map V.int))->H' a2=some (.tup ((itF (Fd fl bk) (mtF x y) m2).map V.int))->H' r=some (.lst [.ref a1,.ref a2])->Q (.ref r) H'):Bb  vs H Q
noncomputable def Bw:Sp:=fun vs H Q _=>Bb  vs H Q
theorem vK {f C:Addr} {fd:FuncData} (F:Fun K "_law_told" "_law_told" fO f fd) (B:Bt mg)
  (D_joined_even:Dx P w K mg base "joined_even" 13 ["book","floor","one","other"] (iV C jnF)) (D_met_even:Dx P w K mg base "met_even" 13 ["book","floor","one","other"] (iV C mtF)):cu P w K mg base CX0 14 f fd ["_law_book_here","_law_floor","_law_one","_law_other"] Bw:=by
 refine F.ok vJ (fun vs H Q E h=>?_) (fun cdv A outer s H vs Q E hr h=>?_)
 ·obtain⟨b,f,g,h',n,bk,fl,x,y,rfl,_⟩:=h
  rfl
 ·obtain⟨b,f,g,h',n,bk,fl,x,y,rfl,hb,lb,hf,of,hg,ox,hh,oy,ex,ey,q⟩:=h
  refine⟨_,(aC (aJ (bQ (aa (oW D_joined_even hr vp (aa (pv 0) (aa (pv 1) (aa (pv 2) (aa (pv 3) aj))))) (aa (oW D_met_even hr vp (aa (pv 0) (aa (pv 1) (aa (pv 2) (aa (pv 3) aj))))) aj))))),?_⟩
  refine⟨_,rfl,_,rfl,_,rfl,_,rfl,b,f,g,h',n,bk,fl,x,y,rfl,hb,lb,hf,of,hg,ox,hh,oy,fun z=>(z.elim (absurd ex) (absurd ey)),fun _ _ m1 a1 H1 st1 s1 e1=>?_⟩
  refine⟨_,rfl,_,rfl,_,rfl,_,rfl,b,f,g,h',n,bk,fl,x,y,rfl,hb.mono s1,lb,s1 _ _ hf,of,s1 _ _ hg,ox,s1 _ _ hh,oy,fun z=>(z.elim (absurd ex) (absurd ey)),fun _ _ m2 a2 H2 st2 s2 e2=>?_⟩
  refine⟨small (by show 2<=1000; decide),fun r hr=>?_⟩
  generalize eH3:upd H2 r _=H3
  obtain⟨g3,e3⟩:=aG eH3 hr
  exact q m1 m2 a1 a2 r H3 st1 st2 (s1.trans (s2.trans g3)) (g3 _ _ (s2 _ _ e1)) (g3 _ _ e2) e3
noncomputable def Jv (x:Nat):List Nat->List Nat
 | []=>[x]
 | y::r=>if x<=y then x::y::r else y::Jv x r
noncomputable def Aj:List Nat->List Nat
 | []=>[]
 | x::r=>Jv x (Aj r)
theorem mQ (x:Nat):∀ l:List Nat,(Jv x l).Perm (x::l)
 | []=>.refl _
 | y::r=>by
  rw[Jv]
  split
  ·exact .refl _
  ·exact ((mQ x r).cons y).trans (.swap x y r)
theorem mW:∀ l:List Nat,(Aj l).Perm l
 | []=>.refl _
 | x::r=>(mQ x _).trans ((mW r).cons x)
theorem n6 (x:Nat):∀ {l:List Nat},l.Pairwise (·<=·)->(Jv x l).Pairwise (·<=·)
 | [],_=>by rw[Jv]; simp
 | y::r,h=>by
  rw[Jv]
  rw[List.pairwise_cons] at h
  split
  ·rw[List.pairwise_cons,List.pairwise_cons]
   refine⟨fun z hz=>?_,h⟩
   rcases List.mem_cons.mp hz with rfl | hz
   ·assumption
   ·have:=h.1 z hz
    lia
  ·rw[List.pairwise_cons]
   refine⟨fun z hz=>?_,n6 x h.2⟩
   rcases List.mem_cons.mp ((mQ x r).mem_iff.mp hz) with rfl | hz
   ·lia
   ·exact h.1 z hz
theorem jD:∀ l:List Nat,(Aj l).Pairwise (·<=·)
 | []=>by rw[Aj]; simp
 | x::r=>n6 x (jD r)
theorem CZ {l:List Nat} {ms:List Int} (p:ms.Perm (l.map fun i:Nat=>(i:Int))) (h:ms.Pairwise (·<=·)):ms=(Aj l).map fun i:Nat=>(i:Int):=by
 refine qg (p.trans ((mW l).map _).symm) h ?_
 rw[List.pairwise_map]
 exact (jD l).imp fun h=>by lia
mutual
noncomputable def ren (f:Nat->Nat):Tm->Tm
 | .free=>.free
 | .never=>.never
 | .gives i k=>.gives (f i) k
 | .sum c k=>.sum (Aj (c.map f)) k
 | .crowd c k m=>.crowd (Aj (c.map f)) k m
 | .all ts=>.all (zO f ts)
 | .any ts=>.any (zO f ts)
noncomputable def zO (f:Nat->Nat):List Tm->List Tm
 | []=>[]
 | t::r=>ren f t::zO f r
end
theorem jN (f:Nat->Nat):∀ ts:List Tm,zO f ts=ts.map (ren f)
 | []=>by rw[zO]; rfl
 | t::r=>by rw[zO,jN f r]; rfl
mutual
theorem Ca (f:Nat->Nat):∀ t:Tm,(ren f t).dep=t.dep
 | .free=>by rw[ren]
 | .never=>by rw[ren]
 | .gives i k=>by rw[ren,Tm.dep,Tm.dep] <;> simp
 | .sum c k=>by rw[ren,Tm.dep,Tm.dep] <;> simp
 | .crowd c k m=>by rw[ren,Tm.dep,Tm.dep] <;> simp
 | .all ts=>by rw[ren,Tm.dep,Tm.dep,rB f ts]
 | .any ts=>by rw[ren,Tm.dep,Tm.dep,rB f ts]
theorem rB (f:Nat->Nat):∀ ts:List Tm,tdL (zO f ts)=tdL ts
 | []=>by rw[zO]
 | t::r=>by rw[zO,tdL,tdL,Ca f t,rB f r]
end
noncomputable def lQ (rs:List Nat) (i:Nat):Nat:=rs.getD i 0
theorem yE {rs:List Nat} {i:Nat} (h:i < rs.length):lQ rs i∈rs:=by
 unfold lQ
 rw[List.getD_eq_getElem?_getD,List.getElem?_eq_getElem h]
 exact List.getElem_mem h
theorem Fj {rs:List Nat} (nd:rs.Nodup) {i j:Nat} (hi:i < rs.length) (hj:j < rs.length) (hij:i < j):lQ rs i≠lQ rs j:=by
 unfold lQ
 rw[List.getD_eq_getElem?_getD,List.getElem?_eq_getElem hi,List.getD_eq_getElem?_getD,List.getElem?_eq_getElem hj]
 exact List.pairwise_iff_getElem.mp nd i j hi hj hij
theorem sV {rs c:List Nat} {m n:Nat} (nd:rs.Nodup) (hm:m<=rs.length) (hv:∀ x∈rs,x < n) (hc:∀ i∈c,i < m) (hp:c.Pairwise (· < ·)) :
  (∀ i∈Aj (c.map (lQ rs)),i < n)/\(Aj (c.map (lQ rs))).Pairwise (· < ·)/\(Aj (c.map (lQ rs))).length=c.length:=by
 have pm:=mW (c.map (lQ rs))
 refine⟨fun i hi=>?_,?_,by rw[pm.length_eq,List.length_map]⟩
 ·obtain⟨j,hj,rfl⟩:=List.mem_map.mp (pm.mem_iff.mp hi)
  exact hv _ (yE (Nat.lt_of_lt_of_le (hc j hj) hm))
 ·have nd2:(c.map (lQ rs)).Nodup:=by
   show (c.map (lQ rs)).Pairwise (·≠·)
   rw[List.pairwise_map]
   exact List.Pairwise.imp_of_mem (fun {a b} ha hb h=>Fj nd (Nat.lt_of_lt_of_le (hc a ha) hm) (Nat.lt_of_lt_of_le (hc b hb) hm) h) hp
  have nd3:(Aj (c.map (lQ rs))).Nodup:=pm.nodup_iff.mpr nd2
  exact ((jD _).and nd3).imp fun h=>by lia
theorem BV {rs:List Nat} {i:Nat} (h:i < rs.length):atI (rs.map vN) (i:Int)=some (vN (lQ rs i)):=by
 refine iY ?_
 unfold lQ
 rw[List.getElem?_map,List.getD_eq_getElem?_getD,List.getElem?_eq_getElem h]
 rfl
theorem Nj {b:Bool} {A B:Prop} (h:b=true) (a:A):if b=true then A else B:=by rw[if_pos h]; exact a
theorem yX {b:Bool} {A B:Prop} (h:b=false) (a:B):if b=true then A else B:=by rw[if_neg (by rw[h]; exact Bool.false_ne_true)]; exact a
noncomputable abbrev cR:Stmt:=top 40
theorem o5:aL ["_law_term_here","_law_row"] ["_law_term_here","_law_row"] (aq cR):=⟨rfl,rfl,rfl,by decide+kernel,rfl,by decide+kernel,by decide+kernel⟩
inductive HH (K:W.Frag) (d:Nat) (vs:List V) (H:Hp) (Q:VK):Prop where
 | mk (v:V) (row:Addr) (m n:Nat) (t:Tm) (rs:List Nat) (z0:vs=[v,.ref row]) (z1:lD m H v t) (z2:t.dep<=d) (z3:SqL K H row (rs.map vN)) (z4:m<=rs.length) (z5:rs.Nodup) (z6:(∀ x∈rs,x < n)) (z7:∀ (v':V) (H':Hp),aU H H'->lD n H' v' (ren (lQ rs) t)->Q v' H'):HH K d vs H Q
noncomputable def qI (K:W.Frag) (d:Nat):Sp:=fun vs H Q _=>HH K d vs H Q
theorem Ex:cu P w K mg base CX0 0 f fd ["_law_term_here","_law_row"] (qI K 0):=by
 have no:∀ vs H Q E,¬ qI K 0 vs H Q E:=fun vs H Q E h=>by
  obtain⟨v,row,m,n,t,rs,_,_,h1,_⟩:=h
  have:=t.wI
  lia
 exact⟨fun vs H Q E h=>absurd h (no vs H Q E),fun A outer s H args us vs Q E _ _ _ _ h=>absurd h (no vs H Q E)⟩
theorem wK {K:W.Frag} {H H':Hp} {a:Addr} {xs:List V} (e:aU H H') (h:SqL K H a xs):SqL K H' a xs:=e.seq h
theorem gY {d:Nat} (F:Fun K "_law_renamed" "_law_renamed" cR f fd) (B:Bt mg)
  (D_law_renamed:Df P w K mg base "_law_renamed" d ["_law_term_here","_law_row"] (qI K d)):cu P w K mg base CX0 (d+1) f fd ["_law_term_here","_law_row"] (qI K (d+1)):=by
 refine F.ok o5 (fun vs H Q E h=>?_) (fun cdv A outer s H vs Q E hr h=>?_)
 ·obtain⟨v,row,m,n,t,rs,rfl,_⟩:=h
  rfl
 ·obtain⟨v,row,m,n,t,rs,rfl,rt,hd,hR,hm,nd,hv,q⟩:=h
  refine⟨_,(aA (bV (aX fc (aV (r:=gC K) bw (pv 0) au (fun _ _=>rfl)) bG (aZ _)) (aC (aJ (bI (aa bG (aa (aV (r:=eU K) aO (pv 1) (aV (r:=gC K) bw (pv 0) au (fun _ _=>rfl)) (fun _ _=>rfl)) (aa (aV (r:=gC K) bw (pv 0) au (fun _ _=>rfl)) aj)))))) aW)
 (aA (bV (aX (r:=rIn K false) oh (aV (r:=gC K) bw (pv 0) au (fun _ _=>rfl)) (bI (aa bG (aa bG aj))) rfl) (aC (aJ (aQ (r:=Ag K) xJ (bI (aa (aV (r:=gC K) bw (pv 0) au (fun _ _=>rfl)) (aa (bM (r:=gJ K) bH rfl B.tuple_ cA (aa (aM (r:=GR K) yN rfl B.sorted_ (by decide+kernel) (aa (bD (L:=["_law_one"]) (F:=["_law_row"]) (cap:=[1]) rfl (bh rfl rfl (by kernel_rfl)) (f9 (aV (r:=gC K) bw (pv 0) au (fun _ _=>rfl))) (fun _ _ _ _ _=>(aH (i:=0) (bc (by decide+kernel)) rfl (Or.inl rfl))) (fun _ _ _ _ _=>bC) (fun _ _ _ _ _=>(aV (r:=eU K) aO (pv 1) (pv 0) (fun _ _=>rfl)))) aj)) aj)) aj))) (qY (r:=O6 K) Ln (pv 0) (rK au) Af)))) aW)
 (aA (bV (aX (r:=rIn K false) oh (aV (r:=gC K) bw (pv 0) au (fun _ _=>rfl)) (bI (aa bG (aa bG aj))) rfl) (aC (aJ (bI (aa (aV (r:=gC K) bw (pv 0) au (fun _ _=>rfl)) (aa (bM (r:=gJ K) bH rfl B.tuple_ cA (aa (bD (L:=["_law_part"]) (F:=["_law_row"]) (cap:=[1]) rfl (bh rfl rfl (by kernel_rfl)) (f9 (aV (r:=gC K) bw (pv 0) au (fun _ _=>rfl))) (fun _ _ _ _ _=>(aH (i:=0) (bc (by decide+kernel)) rfl (Or.inl rfl))) (fun _ _ _ _ _=>bC) (fun _ _ _ _ _=>(aY D_law_renamed hr (aa (pv 0) (aa (pv 1) aj))))) aj)) aj))))) aW)
 (aC (aJ (pv 0)))))),?_⟩
  cases rt with
  | @free a ha =>
   refine⟨_,rfl,a,_,_,_,rfl,rfl,SqT.of ha,aD (k:=0) rfl,rfl,_,rfl,gq (bj (by decide)) ?_⟩
   refine⟨_,rfl,a,_,_,_,rfl,rfl,SqT.of ha,aD (k:=0) rfl,small (by show 2<=1000; decide),fun p1 h1=>⟨p1,_,rfl,.inr (SqT.of ao),rfl,rfl,_,rfl,yX (by decide+kernel) ?_⟩⟩
   generalize eH1:upd H p1 _=H1
   obtain⟨g1,_⟩:=aG eH1 h1
   refine⟨_,rfl,a,_,_,_,rfl,rfl,SqT.of (g1 _ _ ha),aD (k:=0) rfl,small (by show 2<=1000; decide),fun p2 h2=>⟨p2,_,rfl,.inr (SqT.of ao),rfl,rfl,_,rfl,yX (by decide+kernel) ?_⟩⟩
   generalize eH2:upd H1 p2 _=H2
   obtain⟨g2,_⟩:=aG eH2 h2
   refine⟨_,rfl,?_⟩
   have q':=q (.ref a) H2 (g1.trans g2) (by rw[ren]; exact .free (g2 _ _ (g1 _ _ ha)))
   exact q'
  | @never a ha =>
   refine⟨_,rfl,a,_,_,_,rfl,rfl,SqT.of ha,aD (k:=0) rfl,rfl,_,rfl,gq (bj (by decide)) ?_⟩
   refine⟨_,rfl,a,_,_,_,rfl,rfl,SqT.of ha,aD (k:=0) rfl,small (by show 2<=1000; decide),fun p1 h1=>⟨p1,_,rfl,.inr (SqT.of ao),rfl,rfl,_,rfl,yX (by decide+kernel) ?_⟩⟩
   generalize eH1:upd H p1 _=H1
   obtain⟨g1,_⟩:=aG eH1 h1
   refine⟨_,rfl,a,_,_,_,rfl,rfl,SqT.of (g1 _ _ ha),aD (k:=0) rfl,small (by show 2<=1000; decide),fun p2 h2=>⟨p2,_,rfl,.inr (SqT.of ao),rfl,rfl,_,rfl,yX (by decide+kernel) ?_⟩⟩
   generalize eH2:upd H1 p2 _=H2
   obtain⟨g2,_⟩:=aG eH2 h2
   refine⟨_,rfl,?_⟩
   have q':=q (.ref a) H2 (g1.trans g2) (by rw[ren]; exact .never (g2 _ _ (g1 _ _ ha)))
   exact q'
  | @gives a i k ha hi k1 k9 =>
   refine⟨_,rfl,a,_,_,_,rfl,rfl,SqT.of ha,aD (k:=0) rfl,rfl,_,rfl,zT rfl ?_⟩
   refine⟨_,rfl,_,rfl,a,_,_,_,rfl,rfl,SqT.of ha,aD (k:=1) rfl,row,_,_,_,rfl,rfl,hR,BV (by lia),_,rfl,a,_,_,_,rfl,rfl,SqT.of ha,aD (k:=2) rfl,small (by show 3<=1000; decide),fun p1 h1=>?_⟩
   refine q (.ref p1) _ (aB h1 _) ?_
   rw[ren]
   exact .gives ao (hv _ (yE (by lia))) k1 k9
  | @sum a b c k ha hb hc hp l20 l2 k1 k99 =>
   obtain⟨x1,x2,x3⟩:=sV nd hm hv hc hp
   refine⟨_,rfl,a,_,_,_,rfl,rfl,SqT.of ha,aD (k:=0) rfl,rfl,_,rfl,gq (bj (by decide)) ?_⟩
   refine⟨_,rfl,a,_,_,_,rfl,rfl,SqT.of ha,aD (k:=0) rfl,small (by show 2<=1000; decide),fun p1 h1=>⟨p1,_,rfl,.inr (SqT.of ao),rfl,rfl,_,rfl,Nj (by decide+kernel) ?_⟩⟩
   generalize eH1:upd H p1 _=H1
   obtain⟨g1,_⟩:=aG eH1 h1
   refine⟨_,rfl,a,_,_,_,rfl,rfl,SqT.of (g1 _ _ ha),aD (k:=0) rfl,?_⟩
   refine⟨_,rfl,a,_,_,_,rfl,rfl,SqT.of (g1 _ _ ha),aD (k:=1) rfl,b,rfl,⟨_,SqT.of (g1 _ _ hb)⟩,fun D hD=>dH (K:=K) (a:=b) (xs:=c.map vN) (fun i zs σ' H2=>(∃ u,σ'=[u,some (.ref row)])/\zs=((c.take i).map (lQ rs)).map vN/\aU H1 H2/\H2 D=some (.lst zs))
    ⟨⟨_,rfl⟩,rfl,aB hD _,ao⟩ (fun i zs σ' H2 _ h=>⟨SqT.of (h.2.2.1 _ _ (g1 _ _ hb)),h.2.2.2⟩) ?_ ?_⟩
   ·rintro j zs x σ' H2 hx ⟨⟨u,rfl⟩,e1,sm,hDl⟩
    obtain⟨i,hi,rfl⟩:=sI hx
    have him:=hc i (List.mem_of_getElem? hi)
    refine gT ?_
    refine⟨_,rfl,_,rfl,row,_,_,_,rfl,rfl,wK (g1.trans sm) hR,BV (by lia),hDl,?_,⟨_,rfl⟩,?_,aP sm hD _,ao⟩
    ·rw[e1,List.length_map,List.length_map,List.length_take]
     exact aN (by lia)
    ·rw[e1,take_snoc (lQ rs) hi,List.map_append]
     rfl
   ·rintro zs σ' H2 ⟨_,e1,sm,hDl⟩
    rw[List.length_map,List.take_length] at e1
    refine⟨D,(c.map (lQ rs)).map fun i:Nat=>(i:Int),rfl,SqL.of (by rw[hDl,e1,nC]),by rw[List.length_map,List.length_map]; lia,fun ms pm so l hl=>?_⟩
    rw[CZ pm so,← nC]
    generalize eH3:upd H2 l _=H3
    obtain⟨g3,e3⟩:=aG eH3 hl
    refine⟨l,_,rfl,.inl ⟨SqL.of e3,fun p4 h4=>?_⟩⟩
    generalize eH4:upd H3 p4 _=H4
    obtain⟨g4,e4⟩:=aG eH4 h4
    refine⟨small (by show 2<=1000; decide),fun p5 h5=>?_⟩
    generalize eH5:upd H4 p5 _=H5
    obtain⟨g5,e5⟩:=aG eH5 h5
    have s5:aU H H5:=g1.trans (sm.trans (g3.trans (g4.trans g5)))
    refine⟨_,rfl,_,rfl,a,_,rfl,SqT.of (s5 _ _ ha),(by show ¬ (HT.sIx 3 0 (some 2)=0/\HT.sIx 3 3 none=3); decide),fun p6 h6=>?_⟩
    have ec:Bs [V.str "sum",.ref b,.int k] (some 2) none=[.int k]:=rfl
    rw[ec]
    generalize eH6:upd H5 p6 _=H6
    obtain⟨g6,e6⟩:=aG eH6 h6
    refine⟨p5,p6,_,_,rfl,rfl,SqT.of (g6 _ _ e5),SqT.of e6,small (by show 3<=1000; decide),fun z=>(by cases z),fun _ z=>(by cases z),fun _ _ p7 h7=>?_⟩
    refine q (.ref p7) _ (s5.trans (g6.trans (aB h7 _))) ?_
    rw[ren]
    exact .sum ao (aB h7 _ _ _ (g6 _ _ (g5 _ _ e4))) x1 x2 (by lia) (by lia) k1 k99
  | @crowd a b c k mm ha hb hc hp l20 l1 k1 k9 m1 m12 =>
   obtain⟨x1,x2,x3⟩:=sV nd hm hv hc hp
   refine⟨_,rfl,a,_,_,_,rfl,rfl,SqT.of ha,aD (k:=0) rfl,rfl,_,rfl,gq (bj (by decide)) ?_⟩
   refine⟨_,rfl,a,_,_,_,rfl,rfl,SqT.of ha,aD (k:=0) rfl,small (by show 2<=1000; decide),fun p1 h1=>⟨p1,_,rfl,.inr (SqT.of ao),rfl,rfl,_,rfl,Nj (by decide+kernel) ?_⟩⟩
   generalize eH1:upd H p1 _=H1
   obtain⟨g1,_⟩:=aG eH1 h1
   refine⟨_,rfl,a,_,_,_,rfl,rfl,SqT.of (g1 _ _ ha),aD (k:=0) rfl,?_⟩
   refine⟨_,rfl,a,_,_,_,rfl,rfl,SqT.of (g1 _ _ ha),aD (k:=1) rfl,b,rfl,⟨_,SqT.of (g1 _ _ hb)⟩,fun D hD=>dH (K:=K) (a:=b) (xs:=c.map vN) (fun i zs σ' H2=>(∃ u,σ'=[u,some (.ref row)])/\zs=((c.take i).map (lQ rs)).map vN/\aU H1 H2/\H2 D=some (.lst zs))
    ⟨⟨_,rfl⟩,rfl,aB hD _,ao⟩ (fun i zs σ' H2 _ h=>⟨SqT.of (h.2.2.1 _ _ (g1 _ _ hb)),h.2.2.2⟩) ?_ ?_⟩
   ·rintro j zs x σ' H2 hx ⟨⟨u,rfl⟩,e1,sm,hDl⟩
    obtain⟨i,hi,rfl⟩:=sI hx
    have him:=hc i (List.mem_of_getElem? hi)
    refine gT ?_
    refine⟨_,rfl,_,rfl,row,_,_,_,rfl,rfl,wK (g1.trans sm) hR,BV (by lia),hDl,?_,⟨_,rfl⟩,?_,aP sm hD _,ao⟩
    ·rw[e1,List.length_map,List.length_map,List.length_take]
     exact aN (by lia)
    ·rw[e1,take_snoc (lQ rs) hi,List.map_append]
     rfl
   ·rintro zs σ' H2 ⟨_,e1,sm,hDl⟩
    rw[List.length_map,List.take_length] at e1
    refine⟨D,(c.map (lQ rs)).map fun i:Nat=>(i:Int),rfl,SqL.of (by rw[hDl,e1,nC]),by rw[List.length_map,List.length_map]; lia,fun ms pm so l hl=>?_⟩
    rw[CZ pm so,← nC]
    generalize eH3:upd H2 l _=H3
    obtain⟨g3,e3⟩:=aG eH3 hl
    refine⟨l,_,rfl,.inl ⟨SqL.of e3,fun p4 h4=>?_⟩⟩
    generalize eH4:upd H3 p4 _=H4
    obtain⟨g4,e4⟩:=aG eH4 h4
    refine⟨small (by show 2<=1000; decide),fun p5 h5=>?_⟩
    generalize eH5:upd H4 p5 _=H5
    obtain⟨g5,e5⟩:=aG eH5 h5
    have s5:aU H H5:=g1.trans (sm.trans (g3.trans (g4.trans g5)))
    refine⟨_,rfl,_,rfl,a,_,rfl,SqT.of (s5 _ _ ha),(by show ¬ (HT.sIx 4 0 (some 2)=0/\HT.sIx 4 4 none=4); decide),fun p6 h6=>?_⟩
    have ec:Bs [V.str "crowd",.ref b,.int k,.int mm] (some 2) none=[.int k,.int mm]:=rfl
    rw[ec]
    generalize eH6:upd H5 p6 _=H6
    obtain⟨g6,e6⟩:=aG eH6 h6
    refine⟨p5,p6,_,_,rfl,rfl,SqT.of (g6 _ _ e5),SqT.of e6,small (by show 4<=1000; decide),fun z=>(by cases z),fun _ z=>(by cases z),fun _ _ p7 h7=>?_⟩
    refine q (.ref p7) _ (s5.trans (g6.trans (aB h7 _))) ?_
    rw[ren]
    exact .crowd ao (aB h7 _ _ _ (g6 _ _ (g5 _ _ e4))) x1 x2 (by lia) (by lia) k1 k9 m1 m12
  | @all a b us ts ha hb l2 l6 rl =>
   have hdl:tdL ts<=d:=by rw[Tm.dep] at hd; lia
   have el:=rl.length
   refine⟨_,rfl,a,_,_,_,rfl,rfl,SqT.of ha,aD (k:=0) rfl,rfl,_,rfl,gq (bj (by decide)) ?_⟩
   refine⟨_,rfl,a,_,_,_,rfl,rfl,SqT.of ha,aD (k:=0) rfl,small (by show 2<=1000; decide),fun p1 h1=>⟨p1,_,rfl,.inr (SqT.of ao),rfl,rfl,_,rfl,yX (by decide+kernel) ?_⟩⟩
   generalize eH1:upd H p1 _=H1
   obtain⟨g1,_⟩:=aG eH1 h1
   refine⟨_,rfl,a,_,_,_,rfl,rfl,SqT.of (g1 _ _ ha),aD (k:=0) rfl,small (by show 2<=1000; decide),fun p2 h2=>⟨p2,_,rfl,.inr (SqT.of ao),rfl,rfl,_,rfl,Nj (by decide+kernel) ?_⟩⟩
   generalize eH2:upd H1 p2 _=H2
   obtain⟨g2,_⟩:=aG eH2 h2
   have s2:aU H H2:=g1.trans g2
   refine⟨_,rfl,a,_,_,_,rfl,rfl,SqT.of (s2 _ _ ha),aD (k:=0) rfl,?_⟩
   refine⟨_,rfl,a,_,_,_,rfl,rfl,SqT.of (s2 _ _ ha),aD (k:=1) rfl,b,rfl,⟨_,SqT.of (s2 _ _ hb)⟩,fun D hD=>dH (K:=K) (a:=b) (xs:=us) (fun i zs σ' H3=>(∃ u,σ'=[u,some (.ref row)])/\zs.length=i/\aU H2 H3/\H3 D=some (.lst zs)/\dz n H3 zs (zO (lQ rs) (ts.take i)))
    ⟨⟨_,rfl⟩,rfl,aB hD _,ao,by rw[List.take_zero,zO]; exact .nil⟩ (fun i zs σ' H3 _ h=>⟨SqT.of (h.2.2.1 _ _ (s2 _ _ hb)),h.2.2.2.1⟩) ?_ ?_⟩
   ·rintro j zs x σ' H3 hx ⟨⟨u,rfl⟩,lz,sm,hDl,rz⟩
    obtain⟨t,ht,rt⟩:=rl.get hx
    have hj:=(List.getElem?_eq_some_iff.mp hx).1
    refine gT ?_
    refine⟨_,rfl,_,rfl,x,row,m,n,t,rs,rfl,rt.mono (s2.trans sm),Nat.le_trans (kE ht) hdl,wK (s2.trans sm) hR,hm,nd,hv,fun v' H4 s4 r4=>?_⟩
    have s7:=cZ (zs':=zs++[v']) (s4 _ _ hDl)
    refine⟨s4 _ _ hDl,aN (by lia),⟨_,rfl⟩,by rw[List.length_append,lz]; rfl,aP (sm.trans s4) hD _,ao,?_⟩
    rw[jN,take_snoc (ren (lQ rs)) ht,← jN]
    exact ((rz.mono s4).bR s7).snoc (r4.bR s7)
   ·rintro zs σ' H3 ⟨_,lz,sm,hDl,rz⟩
    rw[el,List.take_length] at rz
    refine⟨D,_,rfl,.inl ⟨SqL.of hDl,fun p4 h4=>?_⟩⟩
    generalize eH4:upd H3 p4 _=H4
    obtain⟨g4,e4⟩:=aG eH4 h4
    refine⟨small (by show 2<=1000; decide),fun p5 h5=>?_⟩
    refine q (.ref p5) _ (s2.trans (sm.trans (g4.trans (aB h5 _)))) ?_
    rw[ren]
    exact .all ao (aB h5 _ _ _ e4) (by lia) (by lia) (rz.mono (g4.trans (aB h5 _)))
  | @any a b us ts ha hb l2 l6 rl =>
   have hdl:tdL ts<=d:=by rw[Tm.dep] at hd; lia
   have el:=rl.length
   refine⟨_,rfl,a,_,_,_,rfl,rfl,SqT.of ha,aD (k:=0) rfl,rfl,_,rfl,gq (bj (by decide)) ?_⟩
   refine⟨_,rfl,a,_,_,_,rfl,rfl,SqT.of ha,aD (k:=0) rfl,small (by show 2<=1000; decide),fun p1 h1=>⟨p1,_,rfl,.inr (SqT.of ao),rfl,rfl,_,rfl,yX (by decide+kernel) ?_⟩⟩
   generalize eH1:upd H p1 _=H1
   obtain⟨g1,_⟩:=aG eH1 h1
   refine⟨_,rfl,a,_,_,_,rfl,rfl,SqT.of (g1 _ _ ha),aD (k:=0) rfl,small (by show 2<=1000; decide),fun p2 h2=>⟨p2,_,rfl,.inr (SqT.of ao),rfl,rfl,_,rfl,Nj (by decide+kernel) ?_⟩⟩
   generalize eH2:upd H1 p2 _=H2
   obtain⟨g2,_⟩:=aG eH2 h2
   have s2:aU H H2:=g1.trans g2
   refine⟨_,rfl,a,_,_,_,rfl,rfl,SqT.of (s2 _ _ ha),aD (k:=0) rfl,?_⟩
   refine⟨_,rfl,a,_,_,_,rfl,rfl,SqT.of (s2 _ _ ha),aD (k:=1) rfl,b,rfl,⟨_,SqT.of (s2 _ _ hb)⟩,fun D hD=>dH (K:=K) (a:=b) (xs:=us) (fun i zs σ' H3=>(∃ u,σ'=[u,some (.ref row)])/\zs.length=i/\aU H2 H3/\H3 D=some (.lst zs)/\dz n H3 zs (zO (lQ rs) (ts.take i)))
    ⟨⟨_,rfl⟩,rfl,aB hD _,ao,by rw[List.take_zero,zO]; exact .nil⟩ (fun i zs σ' H3 _ h=>⟨SqT.of (h.2.2.1 _ _ (s2 _ _ hb)),h.2.2.2.1⟩) ?_ ?_⟩
   ·rintro j zs x σ' H3 hx ⟨⟨u,rfl⟩,lz,sm,hDl,rz⟩
    obtain⟨t,ht,rt⟩:=rl.get hx
    have hj:=(List.getElem?_eq_some_iff.mp hx).1
    refine gT ?_
    refine⟨_,rfl,_,rfl,x,row,m,n,t,rs,rfl,rt.mono (s2.trans sm),Nat.le_trans (kE ht) hdl,wK (s2.trans sm) hR,hm,nd,hv,fun v' H4 s4 r4=>?_⟩
    have s7:=cZ (zs':=zs++[v']) (s4 _ _ hDl)
    refine⟨s4 _ _ hDl,aN (by lia),⟨_,rfl⟩,by rw[List.length_append,lz]; rfl,aP (sm.trans s4) hD _,ao,?_⟩
    rw[jN,take_snoc (ren (lQ rs)) ht,← jN]
    exact ((rz.mono s4).bR s7).snoc (r4.bR s7)
   ·rintro zs σ' H3 ⟨_,lz,sm,hDl,rz⟩
    rw[el,List.take_length] at rz
    refine⟨D,_,rfl,.inl ⟨SqL.of hDl,fun p4 h4=>?_⟩⟩
    generalize eH4:upd H3 p4 _=H4
    obtain⟨g4,e4⟩:=aG eH4 h4
    refine⟨small (by show 2<=1000; decide),fun p5 h5=>?_⟩
    refine q (.ref p5) _ (s2.trans (sm.trans (g4.trans (aB h5 _)))) ?_
    rw[ren]
    exact .any ao (aB h5 _ _ _ e4) (by lia) (by lia) (rz.mono (g4.trans (aB h5 _)))
noncomputable def shN (one k:Nat):Nat:=k+if one<=k then 1 else 0
noncomputable def shR (one m:Nat):List Nat:=(List.range m).map (shN one)
theorem Be (one m:Nat):(shR one m).Nodup:=by
 unfold shR
 show ((List.range m).map (shN one)).Pairwise (·≠·)
 rw[List.pairwise_map]
 refine List.pairwise_lt_range.imp fun {a b} h=>?_
 unfold shN
 split <;> split <;> lia
theorem Mz {one m:Nat}:∀ x∈shR one m,x < m+1:=fun x hx=>by
 unfold shR at hx
 obtain⟨k,hk,rfl⟩:=List.mem_map.mp hx
 have:=List.mem_range.mp hk
 unfold shN
 split <;> lia
noncomputable abbrev fG:Stmt:=top 41
theorem v8:aL ["_law_cell_here","_law_n","_law_one","_law_deep","_law_most"] ["_law_cell_here","_law_n","_law_one","_law_deep","_law_most"] (aq fG):=⟨rfl,rfl,rfl,by decide+kernel,rfl,by decide+kernel,by decide+kernel⟩
inductive Dh (vs:List V) (H:Hp) (Q:VK):Prop where
 | mk (c:Int) (n one:Nat) (deep:Int) (mo:Nat) (z0:vs=[.int c,.int (n:Int),.int (one:Int),.int deep,.int (mo:Int)]) (z1:1<=n) (z2:n<=12) (z3:one < n) (z4:1<=deep) (z5:deep<=3) (z6:1<=mo) (z7:mo<=9) (z8:∀ (v:V) (t:Tm) (H':Hp),aU H H'->lD n H' v t->t.dep<=3->Q v H'):Dh  vs H Q
noncomputable def Ce:Sp:=fun vs H Q _=>Dh  vs H Q
theorem wH (F:Fun K "_law_mine" "_law_mine" fG f fd) (B:Bt mg)
  (D_law_term:Df P w K mg base "_law_term" 4 ["_law_cell_here","_law_n","_law_deep","_law_most"] (jP 3)) (D_law_renamed:Df P w K mg base "_law_renamed" 3 ["_law_term_here","_law_row"] (qI K 3)):cu P w K mg base CX0 5 f fd ["_law_cell_here","_law_n","_law_one","_law_deep","_law_most"] Ce:=by
 refine F.ok v8 (fun vs H Q E h=>?_) (fun cdv A outer s H vs Q E hr h=>?_)
 ·obtain⟨c,n,one,deep,mo,rfl,_⟩:=h
  rfl
 ·obtain⟨c,n,one,deep,mo,rfl,n1,n12,hone,de1,de3,m1,m9,q⟩:=h
  refine⟨_,(aA (bV (aX fc (pv 1) au (aZ _)) (aC (aJ (bI (aa (aV (r:=eU K) aO (bQ (aa bG (aa bG (aa bG aj)))) (aQ cN (pv 0) au) (fun _ _=>rfl)) aj)))) aW)
 (aC (aJ (aY D_law_renamed hr (aa (aY D_law_term hr (aa (pv 0) (aa (aQ nW (pv 1) au) (aa (pv 3) (aa (pv 4) aj))))) (aa (bD (L:=["_law_k"]) (F:=["_law_one"]) (cap:=[2]) rfl (bh rfl rfl (by kernel_rfl)) (cD rfl B.range_ (aa (aQ nW (pv 1) au) aj)) (fun _ _ _ _ _=>(aH (i:=0) (bc (by decide+kernel)) rfl (Or.inl rfl))) (fun _ _ _ _ _=>bC) (fun _ _ _ _ _=>(aQ bL (pv 0) (bM (r:=Nf) vf rfl B.int_ xR (aa (cM nD (pv 0) (pv 1) (aZ _)) aj))))) aj)))))),?_⟩
  refine⟨_,rfl,rfl,_,rfl,?_⟩
  refine vg (fun c1=>?_) (fun c1=>?_)
  ·have en:n=1:=by
    have:=of_decide_eq_true c1
    cases n with
    | zero=>lia
    | succ n=>injection this with z; lia
   subst en
   refine⟨small (by show 3<=1000; decide),fun p7 h7=>?_⟩
   generalize eH7:upd H p7 _=H7
   obtain⟨g7,e7⟩:=aG eH7 h7
   have fin:∀ p8 (x:Str),H7 p8=none->(x = "free"∨x = "never")->Q (.ref p8) (upd H7 p8 (.tup [.str x])):=fun p8 x h8 hx=>by
    rcases hx with rfl | rfl
    ·exact q (.ref p8) .free _ (g7.trans (aB h8 _)) (.free ao) (by decide)
    ·exact q (.ref p8) .never _ (g7.trans (aB h8 _)) (.never ao) (by decide)
   refine⟨_,rfl,_,_,rfl,rfl,(by show (0:Int) < 3; decide),?_⟩
   have u1:0<=c % 3:=Int.emod_nonneg _ (by lia)
   have u2:c % 3 < 3:=Int.emod_lt_of_pos _ (by lia)
   rcases (show c % 3=0∨c % 3=1∨c % 3=2 by lia) with z | z | z
   ·exact⟨p7,_,_,_,rfl,rfl,SqL.of e7,by rw[z]; rfl,small (by show 1<=1000; decide),fun p8 h8=>fin p8 _ h8 (.inl rfl)⟩
   ·exact⟨p7,_,_,_,rfl,rfl,SqL.of e7,by rw[z]; rfl,small (by show 1<=1000; decide),fun p8 h8=>fin p8 _ h8 (.inr rfl)⟩
   ·exact⟨p7,_,_,_,rfl,rfl,SqL.of e7,by rw[z]; rfl,small (by show 1<=1000; decide),fun p8 h8=>fin p8 _ h8 (.inl rfl)⟩
  ·have en:n≠1:=fun z=>c1 (decide_eq_true (by rw[z]; rfl))
   obtain⟨m,rfl⟩:∃ m,n=m+1:=⟨n - 1,by lia⟩
   have em:((m+1:Nat):Int) - 1=(m:Int):=by lia
   have et:(((m+1:Nat):Int) - 1).toNat=m:=by lia
   refine⟨_,rfl,_,rfl,_,_,rfl,rfl,_,rfl,_,rfl,c,m,deep,(mo:Int),(by show[V.int c,V.int (((m+1:Nat):Int) - 1),V.int deep,V.int (mo:Int)]=_; rw[em]),by lia,by lia,de1,by lia,by lia,by lia,fun v t H1 s1 rt td=>?_⟩
   refine⟨_,rfl,_,_,rfl,rfl,_,rfl,by lia,by lia,fun D hD=>cF (lo:=0) (n:=(((m+1:Nat):Int) - 1).toNat) (fun i zs σ' H2=>(∃ u,σ'=[u,some (.int (one:Int))])/\zs=((List.range i).map (shN one)).map vN/\aU H1 H2/\H2 D=some (.lst zs))
    ⟨⟨_,rfl⟩,rfl,aB hD _,ao⟩ (fun i zs σ' H2 _ h=>h.2.2.2) ?_ ?_⟩
   ·rintro i zs σ' H2 hi ⟨⟨u,rfl⟩,e1,sm,hDl⟩
    refine gT ?_
    refine⟨_,rfl,_,rfl,_,rfl,_,_,rfl,rfl,.inr ⟨_,rfl,_,_,rfl,rfl,hDl,?_,⟨_,rfl⟩,?_,aP sm hD _,ao⟩⟩
    ·rw[e1,List.length_map,List.length_map,List.length_range]
     exact aN (by lia)
    ·rw[e1,List.range_succ,List.map_append,List.map_append]
     congr 1
     show[V.int (0+(i:Int)+_)]=[V.int ((shN one i:Nat):Int)]
     congr 2
     unfold shN
     by_cases hc:one<=i
     ·rw[decide_eq_true (by lia),if_pos hc]
      simp
     ·rw[decide_eq_false (by lia),if_neg hc]
      simp
   ·rintro zs σ' H2 ⟨_,e1,sm,hDl⟩
    rw[et] at e1
    refine⟨v,D,m,m+1,t,shR one m,rfl,rt.mono sm,by lia,SqL.of (by rw[hDl,e1]; rfl),by unfold shR; rw[List.length_map,List.length_range]; lia,Be one m,Mz,fun v' H3 s3 r3=>?_⟩
    exact q v' _ H3 (s1.trans (sm.trans s3)) r3 (by rw[Ca]; lia)
theorem Bm {x:Int}:∀ (ns acc:List Int),x∈ns.foldl PyProof.Rows.step_dedup acc ↔ x∈acc∨x∈ns
 | [],acc=>by simp
 | n::r,acc=>by
  rw[List.foldl_cons,Bm r _]
  unfold PyProof.Rows.step_dedup
  split
  ·rename_i h
   obtain⟨y,hy,ey⟩:=List.any_eq_true.mp h
   have e:=eq_of_beq ey
   constructor
   ·rintro (h | h)
    ·exact .inl h
    ·exact .inr (List.mem_cons_of_mem _ h)
   ·rintro (h | h)
    ·exact .inl h
    ·rcases List.mem_cons.mp h with rfl | h
     ·exact .inl (by rw[← e]; exact hy)
     ·exact .inr h
  ·constructor
   ·rintro (h | h)
    ·rcases List.mem_append.mp h with h | h
     ·exact .inl h
     ·exact .inr (by rw[List.mem_singleton.mp h]; exact List.mem_cons_self)
    ·exact .inr (List.mem_cons_of_mem _ h)
   ·rintro (h | h)
    ·exact .inl (List.mem_append_left _ h)
    ·rcases List.mem_cons.mp h with rfl | h
     ·exact .inl (List.mem_append_right _ List.mem_cons_self)
     ·exact .inr h
noncomputable def okS (ms:List Int):Prop:=ms≠[]/\ms.length<=9/\ms.Pairwise (· < ·)/\∀ x∈ms,1<=x/\x<=9
theorem KQ {ns ms:List Int} (p:ms.Perm (ddI ns)) (so:ms.Pairwise (·<=·)) (h0:ns≠[]) (h9:ns.length<=9) (hb:∀ x∈ns,1<=x/\x<=9):okS ms:=by
 rw[Dv] at p
 have mem:∀ x,x∈ms ↔ x∈ns:=fun x=>by rw[p.mem_iff,Bm]; simp
 refine⟨fun z=>?_,?_,?_,fun x hx=>hb x ((mem x).mp hx)⟩
 ·cases ns with
  | nil=>exact h0 rfl
  | cons a r =>
   have:=(mem a).mpr List.mem_cons_self
   rw[z] at this
   cases this
 ·have:=Cq ns []
  rw[p.length_eq]
  simp at this
  lia
 ·have nd:ms.Nodup:=p.nodup_iff.mpr (yH ns [] (by simp))
  exact (so.and nd).imp fun h=>by lia
theorem M5 {ns ms:List Int} (p:ms.Perm (ddI ns)) {x:Int} (h:x∈ms):x∈ns:=by
 rw[Dv] at p
 have:=p.mem_iff.mp h
 rw[Bm] at this
 simpa using this
theorem Cd {ms:List Int} (h:okS ms) {p:Pl} (e:p.map (·.1)=ms) (hd:∀ x∈p,x.2.dep<=4):okP p:=by
 refine⟨fun z=>?_,?_,by rw[e]; exact h.2.2.1,fun x hx=>?_⟩
 ·subst z
  exact h.1 e.symm
 ·have:=congrArg List.length e
  rw[List.length_map] at this
  have:=h.2.1
  lia
 ·have hm:x.1∈ms:=by rw[← e]; exact List.mem_map.mpr ⟨x,hx,rfl⟩
  exact⟨(h.2.2.2 _ hm).1,(h.2.2.2 _ hm).2,hd x hx⟩
noncomputable abbrev dw:Stmt:=top 42
theorem bO:aL ["_law_cell_here","_law_n","_law_one","_law_deep","_law_most","_law_drawn","_law_steps","_law_other_one","_law_found","_law_k","_law_step"] ["_law_cell_here","_law_n","_law_one","_law_deep","_law_most"] (aq dw):=⟨rfl,rfl,rfl,by decide+kernel,rfl,by decide+kernel,by decide+kernel⟩
inductive tU (vs:List V) (H:Hp) (Q:VK):Prop where
 | mk (c:Int) (n one:Nat) (deep:Int) (mo:Nat) (z0:vs=[.int c,.int (n:Int),.int (one:Int),.int deep,.int (mo:Int)]) (z1:1<=n) (z2:n<=12) (z3:one < n) (z4:1<=deep) (z5:deep<=3) (z6:1<=mo) (z7:mo<=9) (z8:∀ (a:Addr) (p:Pl) (H':Hp),aU H H'->zU n H' a p->(∀ x∈p,x.1<=(mo:Int))->Q (.ref a) H'):tU  vs H Q
noncomputable def sG:Sp:=fun vs H Q _=>tU  vs H Q
theorem rm (F:Fun K "_law_pledge" "_law_pledge" dw f fd) (B:Bt mg)
  (D_law_draws:Df P w K mg base "_law_draws" 1 ["_law_cell_here","_law_parts"] (jc K)) (D_law_under:Df P w K mg base "_law_under" 1 ["_law_cell_here","_law_k"] mR) (D_law_crowd:Df P w K mg base "_law_crowd" 1 ["_law_number","_law_n"] qF)
  (D_law_mine:Df P w K mg base "_law_mine" 5 ["_law_cell_here","_law_n","_law_one","_law_deep","_law_most"] Ce):cu P w K mg base CX0 6 f fd ["_law_cell_here","_law_n","_law_one","_law_deep","_law_most"] sG:=by
 refine F.ok bO (fun vs H Q E h=>?_) (fun cdv A outer s H vs Q E hr h=>?_)
 ·obtain⟨c,n,one,deep,mo,rfl,_⟩:=h
  rfl
 ·obtain⟨c,n,one,deep,mo,rfl,n1,n12,hone,de1,de3,m1,m9,q⟩:=h
  refine⟨_,(aA (bu (i:=5) bO.nd rfl (Or.inr rfl) (aY D_law_draws hr (aa (pv 0) (aa (bQ (aa au (aa au (aa au (aa au (aa au (aa au aj))))))) aj))))
 (aA (bu (i:=6) bO.nd rfl (Or.inl rfl) (tG rfl rfl B.sorted_ rfl B.set_ (aa (bD (L:=["_law_k"]) (F:=["_law_most","_law_drawn"]) (cap:=[4,5]) rfl (bh rfl rfl (by kernel_rfl)) (cD rfl B.range_ (aa (aQ bL au (aQ cN (aV (r:=eU K) aO (pv 5) au (fun _ _=>rfl)) au)) aj)) (fun _ _ _ _ _=>(aH (i:=0) (bc (by decide+kernel)) rfl (Or.inl rfl))) (fun _ _ _ _ _=>bC) (fun _ _ _ _ _=>(aQ bL au (aQ cN (aV (r:=eU K) aO (pv 2) (aQ bL au (pv 0)) (fun _ _=>rfl)) (pv 1))))) aj)))
 (aA (bV (aX fc (aV (r:=eU K) aO (pv 5) au (fun _ _=>rfl)) au (aZ _)) (aA (rQ (L:=["_law_step"]) (F:=[]) (cap:=[]) (j:=6) bO.nd rfl (Or.inl rfl) rfl (bh rfl rfl (by kernel_rfl)) (f9 (aY D_law_crowd hr (aa (aV (r:=eU K) aO (pv 5) au (fun _ _=>rfl)) (aa (pv 4) aj)))) (fun _ _ _ _ _=>(aH (i:=0) (bc (by decide+kernel)) rfl (Or.inl rfl))) (fun _ _ _ _ _=>bC) (fun _ _ _ _ _=>(aQ bL au (pv 0))))
 (aC (bV (aX (r:=O1 K) (Ms hr.ql) (pv 6) (bQ aj) (aZ _)) (aC (bu (i:=6) bO.nd rfl (Or.inl rfl) (bQ (aa (pv 4) aj)))) aW))) aW)
 (aA (bV (PW.pt (pQ (aX fc (aV (r:=eU K) aO (pv 5) au (fun _ _=>rfl)) au (aZ _)) (kO (aX DN (pv 1) au (aZ _))))) (aC (aJ (bM (r:=gJ K) bH rfl B.tuple_ cA (aa (bD (L:=["_law_step"]) (F:=["_law_n","_law_one"]) (cap:=[1,2]) rfl (bh rfl rfl (by kernel_rfl)) (eN (pv 6)) (fun _ _ _ _ _=>(aH (i:=0) (bc (by decide+kernel)) rfl (Or.inl rfl))) (fun _ _ _ _ _=>bC) (fun _ _ _ _ _=>(bI (aa (pv 0) (aa (bI (aa bG (aa (aQ cN (aQ bL (pv 2) au) (pv 1)) (aa (pv 0) aj)))) aj))))) aj)))) aW)
 (aA (bV (PW.pt (pQ (aX fc (aV (r:=eU K) aO (pv 5) au (fun _ _=>rfl)) au (aZ _)) (kO (aX DN (pv 1) au (aZ _))))) (aA (bu (i:=7) bO.nd rfl (Or.inr rfl) (aQ cN (aQ bL (aQ bL (pv 2) au) (aQ cN (aV (r:=eU K) aO (pv 5) au (fun _ _=>rfl)) (aQ nW (pv 1) au))) (pv 1)))
 (aC (aJ (bM (r:=gJ K) bH rfl B.tuple_ cA (aa (bD (L:=["_law_step"]) (F:=["_law_other_one"]) (cap:=[7]) rfl (bh rfl rfl (by kernel_rfl)) (eN (pv 6)) (fun _ _ _ _ _=>(aH (i:=0) (bc (by decide+kernel)) rfl (Or.inl rfl))) (fun _ _ _ _ _=>bC) (fun _ _ _ _ _=>(bI (aa (pv 0) (aa (bI (aa bG (aa (pv 1) (aa (aM (nA rfl) rfl B.max_ pL (aa au (aa (aQ nW (pv 0) au) aj))) aj)))) aj))))) aj))))) aW)
 (aA (bu (i:=8) bO.nd rfl (Or.inl rfl) (bQ aj))
 (aA (gG PassesOwn.never rfl (JV rfl B.enumerate_ (aa (pv 6) aj)) (fZ (K:=K) 2 rfl rfl (bA (aH (i:=9) bO.nd rfl (Or.inl rfl)) (bA (aH (i:=10) bO.nd rfl (Or.inl rfl)) gf))) (aC (cW (uR PySem.F.plainAttrs_list PySem.F.slot_list_append PySem.F.type_list_append dB (pv 8) (aa (bI (aa (pv 10) (aa (aY D_law_mine hr (aa (aY D_law_under hr (aa (pv 0) (aa (pv 9) aj))) (aa (pv 1) (aa (pv 2) (aa (pv 3) (aa (pv 4) aj)))))) aj))) aj)))))
 (aC (aJ (bM (r:=gJ K) bH rfl B.tuple_ cA (aa (pv 8) aj))))))))))),?_⟩
  refine⟨_,rfl,small (by show 6<=1000; decide),fun p1 h1=>?_⟩
  generalize eH1:upd H p1 _=H1
  obtain⟨g1,e1⟩:=aG eH1 h1
  refine⟨c,p1,[7,9,9,9,12,512],rfl,SqL.of e1,by decide,by decide,fun p2 h2=>?_⟩
  generalize eH2:upd H1 p2 _=H2
  obtain⟨g2,e2⟩:=aG eH2 h2
  have hps:∀ q∈([7,9,9,9,12,512]:List Int),0 < q:=by decide
  obtain⟨d0,k0,b0⟩:=bU (c:=jW c) (i:=0) hps rfl
  obtain⟨d1,k1,b1⟩:=bU (c:=jW c) (i:=1) hps rfl
  obtain⟨d2,k2,b2⟩:=bU (c:=jW c) (i:=2) hps rfl
  obtain⟨d3,k3,b3⟩:=bU (c:=jW c) (i:=3) hps rfl
  obtain⟨d4,k4,b4⟩:=bU (c:=jW c) (i:=4) hps rfl
  obtain⟨d5,k5,b5⟩:=bU (c:=jW c) (i:=5) hps rfl
  have a0:=aD (dI k0)
  have a4:=aD (dI k4)
  have a5:=aD (dI k5)
  have kk:∀ k:Nat,k < 3->∃ d,(vy (jW c) [7,9,9,9,12,512])[1+k]? = some d:=fun k hk=>by
   match k,hk with
   | 0,_=>exact⟨_,k1⟩
   | 1,_=>exact⟨_,k2⟩
   | 2,_=>exact⟨_,k3⟩
  change _=some (HO.lst ((vy (jW c) [7,9,9,9,12,512]).map V.int)) at e2
  generalize vy (jW c) [7,9,9,9,12,512]=ds at *
  have gH:aU H H2:=g1.trans g2
  have u1:0<=d0 % 3:=Int.emod_nonneg _ (by lia)
  have u2:d0 % 3 < 3:=Int.emod_lt_of_pos _ (by lia)
  refine⟨_,rfl,p2,_,_,_,rfl,rfl,SqL.of e2,a0,_,_,rfl,rfl,(by show (0:Int) < 3; decide),_,_,rfl,rfl,_,rfl,by lia,by lia,fun D hD=>cF (lo:=0) (n:=(1+d0 % 3).toNat)
   (fun i zs σ' H3=>(∃ u,σ'=[u,some (.int (mo:Int)),some (.ref p2)])/\aU H2 H3/\H3 D=some (.lst zs)/\∃ ns:List Int,zs=ns.map V.int/\ns.length=i/\∀ x∈ns,1<=x/\x<=(mo:Int))
   ⟨⟨_,rfl⟩,aB hD _,ao,[],rfl,rfl,by simp⟩ (fun i zs σ' H3 _ h=>h.2.2.1) ?_ ?_⟩
  ·rintro i zs σ' H3 hi ⟨⟨u,rfl⟩,s3,eD,ns,e3,ln,hb⟩
   obtain⟨dk,hk⟩:=kk i (by lia)
   have ak:atI (ds.map V.int) (1+(0+(i:Int)))=some (.int dk):=by
    rw[show (1:Int)+(0+(i:Int))=((1+i:Nat):Int) by lia]
    exact aD (dI hk)
   have v1:0<=dk % (mo:Int):=Int.emod_nonneg _ (by lia)
   have v2:dk % (mo:Int) < (mo:Int):=Int.emod_lt_of_pos _ (by lia)
   refine gT ?_
   refine⟨_,rfl,_,rfl,_,_,rfl,rfl,p2,_,_,_,rfl,rfl,SqL.of (s3 _ _ e2),ak,_,rfl,_,_,rfl,rfl,(by show (0:Int) < (mo:Int); lia),_,_,rfl,rfl,eD,?_,⟨_,rfl⟩,aP s3 hD _,ao,ns++[1+dk % (mo:Int)],?_,?_,?_⟩
   ·rw[e3,List.length_map]
    exact aN (by lia)
   ·rw[e3,List.map_append]
    rfl
   ·rw[List.length_append,ln]
    rfl
   ·intro x hx
    rcases List.mem_append.mp hx with h | h
    ·exact hb x h
    ·rw[List.mem_singleton.mp h]
     lia
  ·rintro zs σ' H3 ⟨_,s3,eD,ns,e3,ln,hb⟩
   have ln3:1<=ns.length/\ns.length<=3:=by lia
   have dl:(ddI ns).length<=ns.length:=by
    have:=Cq ns []
    rw[Dv]
    simpa using this
   refine⟨D,ns,rfl,SqL.of (by rw[eD,e3]),by lia,by lia,fun ms pm so l hl=>?_⟩
   have okm:okS ms:=KQ pm so (fun z=>by rw[z] at ln3; simp at ln3) (by lia) fun x hx=>⟨(hb x hx).1,by have:=(hb x hx).2; lia⟩
   have okM:∀ x∈ms,x<=(mo:Int):=fun x hx=>(hb x (M5 pm hx)).2
   generalize eH4:upd H3 l _=H4
   obtain⟨g4,e4⟩:=aG eH4 hl
   have s4:aU H2 H4:=s3.trans g4
   refine gN ?_
   dsimp only
   show Fl (Ga _ _ _) _ _ _ _
   refine jC (fun σ H5=>∃ (l:Addr) (ms:List Int),σ=[some (.int c),some (.int (n:Int)),some (.int (one:Int)),some (.int deep),some (.int (mo:Int)),some (.ref p2),some (.ref l),none,none,none,none]/\aU H2 H5/\H5 l=some (.lst (ms.map V.int))/\okS ms/\∀ x∈ms,x<=(mo:Int)) ?rest (fun _ R=>?_)
   case rest =>
    clear e4 hl so pm okm okM eH4 g4 s4 H4 l ms
    rintro σ H5 ⟨l,ms,rfl,s5,e5,okm,okM⟩
    have l9:=okm.2.1
    have e2':=s5 _ _ e2
    have sH5:aU H H5:=gH.trans s5
    show Fl (Ga _ _ _) _ _ _ _
    refine jC (fun σ H6=>σ=[some (.int c),some (.int (n:Int)),some (.int (one:Int)),some (.int deep),some (.int (mo:Int)),some (.ref p2),some (.ref l),none,none,none,none]/\H5=H6) ?rest2 (fun _ R=>?_)
    case rest2 =>
     rintro σ H6 ⟨rfl,rfl⟩
     show Fl (Ga _ _ _) _ _ _ _
     refine jC (fun σ H6=>σ=[some (.int c),some (.int (n:Int)),some (.int (one:Int)),some (.int deep),some (.int (mo:Int)),some (.ref p2),some (.ref l),none,none,none,none]/\H5=H6) ?rest3 (fun _ R=>?_)
     case rest3 =>
      rintro σ H6 ⟨rfl,rfl⟩
      refine⟨small (Nat.zero_le _),fun r hr0=>?_⟩
      generalize eH6:upd H5 r _=H6
      obtain⟨g6,e6⟩:=aG eH6 hr0
      refine⟨_,rfl,l,_,rfl,g6 _ _ e5,Gq (K:=K) (a:=l) (xs:=ms.map V.int) (fun i σ H7=>(∃ u v,σ=[some (.int c),some (.int (n:Int)),some (.int (one:Int)),some (.int deep),some (.int (mo:Int)),some (.ref p2),some (.ref l),none,some (.ref r),u,v])/\aU H5 H7 ∧
       ∃ (vs:List V) (p:Pl),H7 r=some (.lst vs)/\eZ n H7 vs p/\p.map (·.1)=ms.take i/\∀ x∈p,x.2.dep<=4) ⟨⟨_,_,rfl⟩,g6,[],[],e6,.nil,rfl,by simp⟩ (fun i σ H7 _ h=>SqL.of (h.2.1 _ _ e5)) ?_ ?_⟩
      ·rintro i x pp σ H7 hx hpp ⟨⟨u,v,rfl⟩,s7,vs,p,er,rp,ep,hd⟩
       obtain⟨st,hst,rfl⟩:=int_at hx
       have hi:i < ms.length:=(List.getElem?_eq_some_iff.mp hst).1
       generalize eH8:upd H7 pp _=H8
       obtain⟨g8,e8⟩:=aG eH8 hpp
       refine⟨pp,_,rfl,SqT.of e8,rfl,_,_,rfl,_,_,rfl,rfl,?_⟩
       refine⟨_,rfl,.inl ⟨rfl,_,SqL.of (g8 _ _ er)⟩,_,rfl,_,rfl,_,rfl,c,i,rfl,by lia,_,rfl,_,rfl,_,rfl,_,rfl,JQ c i,n,one,deep,mo,rfl,n1,n12,hone,de1,de3,m1,m9,fun v' t H9 s9 rt td=>?_⟩
       refine⟨small (by show 2<=1000; decide),fun pa ha=>?_⟩
       generalize eHa:upd H9 pa _=Ha
       obtain⟨ga,ea⟩:=aG eHa ha
       have s8a:aU H7 Ha:=g8.trans (s9.trans ga)
       have lv:=rp.length
       have lp:p.length<=ms.length:=by
        have:=congrArg List.length ep
        rw[List.length_map,List.length_take] at this
        lia
       have tk:=cZ (zs':=vs++[.ref pa]) (s8a _ _ er)
       refine⟨r,_,_,rfl,rfl,s8a _ _ er,aN (by lia),⟨_,_,rfl⟩,aP (s7.trans s8a) hr0 _,vs++[.ref pa],p++[(st,t)],ao,?_,?_,?_⟩
       ·exact eZ.snoc (tk _ _ ea) ((rt.mono ga).bR tk) ((rp.bR fun a xs q=>s8a a _ q).bR tk)
       ·rw[List.map_append,ep,List.take_add_one,hst]
        rfl
       ·intro x hx
        rcases List.mem_append.mp hx with h | h
        ·exact hd x h
        ·rw[List.mem_singleton.mp h]
         show t.dep<=4
         lia
      ·rintro σ H7 ⟨⟨u,v,rfl⟩,s7,vs,p,er,rp,ep,hd⟩
       rw[List.length_map,List.take_length] at ep
       refine⟨_,rfl,r,_,rfl,.inl ⟨SqL.of er,fun pa ha=>?_⟩⟩
       have sn:=aB ha (.tup vs)
       exact q pa p _ (sH5.trans (s7.trans sn)) ⟨Cd okm ep hd,vs,ao,rp.bR fun a xs q=>sn a _ q⟩ fun x hx=>okM _ (ep▸List.mem_map_of_mem hx)
     ·refine rH (decide (V.int d0=V.int 5)) (decide (1 < (n:Int))) (fun H6=>H5=H6) (fun Q' hQ=>?_) (fun H6 e Q' hQ=>?_) (fun H6 e c1 c2=>?_) (fun H6 e _=>R _ _ ⟨rfl,e⟩)
      ·exact⟨_,rfl,p2,_,_,_,rfl,rfl,SqL.of e2',a0,rfl,_,rfl,hQ _ rfl⟩
      ·subst e
       exact⟨_,rfl,_,_,rfl,rfl,_,rfl,hQ⟩
      ·subst e
       have c2:1 < (n:Int):=of_decide_eq_true c2
       have w1:0<=((one:Int)+1+d4 % ((n:Int) - 1)) % (n:Int):=Int.emod_nonneg _ (by lia)
       have w2:((one:Int)+1+d4 % ((n:Int) - 1)) % (n:Int) < (n:Int):=Int.emod_lt_of_pos _ (by lia)
       obtain⟨j,hj⟩:=Int.eq_ofNat_of_zero_le w1
       refine⟨_,rfl,_,_,rfl,rfl,_,rfl,p2,_,_,_,rfl,rfl,SqL.of e2',a4,_,rfl,_,_,rfl,rfl,_,_,rfl,rfl,(by show (0:Int) < (n:Int) - 1; lia),_,_,rfl,rfl,_,rfl,_,_,rfl,rfl,(by show (0:Int) < (n:Int); lia),?_⟩
       refine gN ?_
       have es:(fun i j:Int=>V.int (i % j)) ((one:Int)+1+d4 % ((n:Int) - 1)) (n:Int)=V.int (j:Int):=by
        show V.int (((one:Int)+1+d4 % ((n:Int) - 1)) % (n:Int))=_
        rw[hj]
       refine⟨_,rfl,l,rfl,⟨_,SqL.of e5⟩,fun D hD=>eG (K:=K) (a:=l) (xs:=ms.map V.int) (fun i zs σ' H7=>(∃ u,σ'=[u,some (.int (j:Int))])/\aU H5 H7/\H7 D=some (.lst zs) ∧
        eZ n H7 zs ((ms.take i).map fun st=>(st,Tm.gives j (if st - 1 > 1 then st - 1 else 1)))) ⟨⟨none,?_⟩,aB hD _,ao,.nil⟩ (fun i zs σ' H7 _ h=>⟨SqL.of (h.2.1 _ _ e5),h.2.2.1⟩) ?_ ?_⟩
       ·rw[← es]
        rfl
       ·rintro i zs x σ' H7 hx ⟨⟨u,rfl⟩,s7,er,rp⟩
        obtain⟨st,hst,rfl⟩:=int_at hx
        have hb:=okm.2.2.2 st (List.mem_of_getElem? hst)
        have lv:=rp.length
        rw[List.length_map,List.length_take] at lv
        refine gT ?_
        refine⟨_,rfl,_,rfl,_,rfl,_,_,rfl,rfl,_,_,rfl,small (by show 3<=1000; decide),fun pa ha=>?_⟩
        generalize eHa:upd H7 pa _=Ha
        obtain⟨ga,ea⟩:=aG eHa ha
        refine⟨small (by show 2<=1000; decide),fun pb hb'=>?_⟩
        generalize eHb:upd Ha pb _=Hb
        obtain⟨gb,eb⟩:=aG eHb hb'
        have s7b:aU H7 Hb:=ga.trans gb
        have tk:=cZ (zs':=zs++[.ref pb]) (s7b _ _ er)
        refine⟨s7b _ _ er,aN (by lia),⟨_,rfl⟩,aP (s7.trans s7b) hD _,ao,?_⟩
        rw[take_snoc (fun st=>(st,Tm.gives j (if st - 1 > 1 then st - 1 else 1))) hst]
        exact eZ.snoc (tk _ _ eb) (.gives (tk _ _ (gb _ _ ea)) (by lia) (by split <;> lia) (by split <;> lia)) ((rp.bR fun a xs q=>s7b a _ q).bR tk)
       ·rintro zs σ' H7 ⟨_,s7,er,rp⟩
        rw[List.length_map,List.take_length] at rp
        refine⟨D,_,rfl,.inl ⟨SqL.of er,fun pa ha=>?_⟩⟩
        have sn:=aB ha (.tup zs)
        refine q pa _ _ (sH5.trans (s7.trans sn)) ⟨Cd okm ?_ ?_,zs,ao,rp.bR fun a xs q=>sn a _ q⟩ fun x hx=>by obtain⟨st,hs,rfl⟩:=List.mem_map.mp hx; exact okM st hs
        ·rw[List.map_map]
         exact List.map_id' ms
        ·intro x hx
         obtain⟨st,_,rfl⟩:=List.mem_map.mp hx
         show (1:Nat)<=4
         decide
    ·refine rH (decide (V.int d0=V.int 6)) (decide (1 < (n:Int))) (fun H6=>H5=H6) (fun Q' hQ=>?_) (fun H6 e Q' hQ=>?_) (fun H6 e c1 c2=>?_) (fun H6 e _=>R _ _ ⟨rfl,e⟩)
     ·exact⟨_,rfl,p2,_,_,_,rfl,rfl,SqL.of e2',a0,rfl,_,rfl,hQ _ rfl⟩
     ·subst e
      exact⟨_,rfl,_,_,rfl,rfl,_,rfl,hQ⟩
     ·subst e
      have w1:0<=((one:Int)+1) % (n:Int):=Int.emod_nonneg _ (by lia)
      have w2:((one:Int)+1) % (n:Int) < (n:Int):=Int.emod_lt_of_pos _ (by lia)
      obtain⟨j,hj⟩:=Int.eq_ofNat_of_zero_le w1
      refine⟨_,rfl,l,rfl,⟨_,SqL.of e5⟩,fun D hD=>eG (K:=K) (a:=l) (xs:=ms.map V.int) (fun i zs σ' H7=>(∃ u,σ'=[u,some (.int (n:Int)),some (.int (one:Int))])/\aU H5 H7/\H7 D=some (.lst zs) ∧
       eZ n H7 zs ((ms.take i).map fun st=>(st,Tm.gives j st))) ⟨⟨_,rfl⟩,aB hD _,ao,.nil⟩ (fun i zs σ' H7 _ h=>⟨SqL.of (h.2.1 _ _ e5),h.2.2.1⟩) ?_ ?_⟩
      ·rintro i zs x σ' H7 hx ⟨⟨u,rfl⟩,s7,er,rp⟩
       obtain⟨st,hst,rfl⟩:=int_at hx
       have hb:=okm.2.2.2 st (List.mem_of_getElem? hst)
       have lv:=rp.length
       rw[List.length_map,List.length_take] at lv
       refine gT ?_
       refine⟨_,rfl,_,rfl,_,_,rfl,rfl,_,rfl,_,_,rfl,rfl,(by show (0:Int) < (n:Int); lia),_,rfl,small (by show 3<=1000; decide),fun pa ha=>?_⟩
       generalize eHa:upd H7 pa _=Ha
       obtain⟨ga,ea⟩:=aG eHa ha
       have ea:Ha pa=some (.tup [.str "gives",vN j,.int st]):=by
        rw[ea]
        show some (HO.tup [V.str "gives",V.int (((one:Int)+1) % (n:Int)),V.int st])=some (HO.tup [V.str "gives",V.int (j:Int),V.int st])
        rw[hj]
       refine⟨small (by show 2<=1000; decide),fun pb hb'=>?_⟩
       generalize eHb:upd Ha pb _=Hb
       obtain⟨gb,eb⟩:=aG eHb hb'
       have s7b:aU H7 Hb:=ga.trans gb
       have tk:=cZ (zs':=zs++[.ref pb]) (s7b _ _ er)
       refine⟨s7b _ _ er,aN (by lia),⟨_,rfl⟩,aP (s7.trans s7b) hD _,ao,?_⟩
       rw[take_snoc (fun st=>(st,Tm.gives j st)) hst]
       exact eZ.snoc (tk _ _ eb) (.gives (tk _ _ (gb _ _ ea)) (by lia) (by lia) (by lia)) ((rp.bR fun a xs q=>s7b a _ q).bR tk)
      ·rintro zs σ' H7 ⟨_,s7,er,rp⟩
       rw[List.length_map,List.take_length] at rp
       refine⟨D,_,rfl,.inl ⟨SqL.of er,fun pa ha=>?_⟩⟩
       have sn:=aB ha (.tup zs)
       refine q pa _ _ (sH5.trans (s7.trans sn)) ⟨Cd okm ?_ ?_,zs,ao,rp.bR fun a xs q=>sn a _ q⟩ fun x hx=>by obtain⟨st,hs,rfl⟩:=List.mem_map.mp hx; exact okM st hs
       ·rw[List.map_map]
        exact List.map_id' ms
       ·intro x hx
        obtain⟨st,_,rfl⟩:=List.mem_map.mp hx
        show (1:Nat)<=4
        decide
   ·refine⟨_,rfl,p2,_,_,_,rfl,rfl,SqL.of (s4 _ _ e2),a0,rfl,_,rfl,?_⟩
    refine vg (fun _=>?_) (fun _=>R _ _ ⟨l,ms,rfl,s4,e4,okm,okM⟩)
    refine⟨_,rfl,p2,_,_,_,rfl,rfl,SqL.of (s4 _ _ e2),a5,_,rfl,d5,mo,rfl,by lia,fun cs r3 H5 hc hp hl5 s5 f5 e5=>?_⟩
    refine⟨r3,rfl,⟨_,SqT.of e5⟩,fun D5 hD5=>dH (K:=K) (a:=r3) (xs:=cs.map vN) (fun i zs σ' H6=>(∃ u,σ'=[u])/\zs=((cs.take i).map fun j:Nat=>(1:Int)+(j:Int)).map V.int/\aU H5 H6/\H6 D5=some (.lst zs))
     ⟨⟨_,rfl⟩,rfl,aB hD5 _,ao⟩ (fun i zs σ' H6 _ h=>⟨SqT.of (h.2.2.1 _ _ e5),h.2.2.2⟩) ?_ ?_⟩
    ·rintro i zs x σ' H6 hx ⟨⟨u,rfl⟩,e6,s6,eD6⟩
     obtain⟨j,hj,rfl⟩:=sI hx
     refine gT ?_
     refine⟨_,rfl,_,_,rfl,rfl,eD6,?_,⟨_,rfl⟩,?_,aP s6 hD5 _,ao⟩
     ·rw[e6,List.length_map,List.length_map,List.length_take]
      exact aN (by lia)
     ·rw[e6,take_snoc (fun j:Nat=>(1:Int)+(j:Int)) hj,List.map_append]
      rfl
    ·rintro zs σ' H6 ⟨_,e6,s6,eD6⟩
     rw[List.length_map,List.take_length] at e6
     rw[e6] at eD6
     have s46:aU H2 H6:=s4.trans (s5.trans s6)
     refine⟨_,rfl,small (by show 0<=1000; decide),fun p7 h7=>?_⟩
     have g7:aU H6 (upd H6 p7 (.lst [])):=aB h7 _
     refine⟨D5,p7,_,rfl,rfl,SqL.of (g7 _ _ eD6),SqL.of ao,_,rfl,?_⟩
     refine vg (fun ce=>?_) (fun ce=>?_)
     ·refine⟨_,rfl,small (by show 1<=1000; decide),fun p8 h8=>?_⟩
      refine R _ _ ⟨p8,[(mo:Int)],rfl,s46.trans (g7.trans (aB h8 _)),ao,⟨by simp,by show 1<=9; decide,by simp,?_⟩,fun x hx=>by rw[List.mem_singleton.mp hx]; exact Int.le_refl _⟩
      intro x hx
      rw[List.mem_singleton.mp hx]
      lia
     ·refine R _ _ ⟨D5,cs.map fun j:Nat=>(1:Int)+(j:Int),rfl,s46.trans g7,g7 _ _ eD6,⟨?_,?_,?_,?_⟩,fun x hx=>by obtain⟨j,hj,rfl⟩:=List.mem_map.mp hx; have:=hc j hj; lia⟩
      ·intro z
       apply ce
       rw[z]
       rfl
      ·rw[List.length_map]
       lia
      ·rw[List.pairwise_map]
       exact hp.imp fun h=>by lia
      ·intro x hx
       obtain⟨j,hj,rfl⟩:=List.mem_map.mp hx
       have:=hc j hj
       lia
noncomputable abbrev fM:Stmt:=top 43
theorem fX:aL ["_law_script","_law_start","_law_n","_law_most","_law_book_here","_law_one","_law_cell_here","_law_many"] ["_law_script","_law_start","_law_n","_law_most"] (aq fM):=⟨rfl,rfl,rfl,by decide+kernel,rfl,by decide+kernel,by decide+kernel⟩
noncomputable def okM (mo:Nat) (bk:List (List Pl)):Prop:=∀ ps∈bk,∀ p∈ps,∀ x∈p,x.1<=(mo:Int)
inductive Ad (K:W.Frag) (vs:List V) (H:Hp) (Q:VK):Prop where
 | mk (a:Addr) (ss:List Int) (st n mo:Nat) (z0:vs=[.ref a,.int (st:Int),.int (n:Int),.int (mo:Int)]) (z1:SqL K H a (ss.map V.int)) (z2:st<=100) (z3:1<=n) (z4:n<=12) (z5:1<=mo) (z6:mo<=9) (z7:∀ (b:Addr) (bk:List (List Pl)) (H':Hp),aU H H'->pK n H' b bk->bk.length=n->okM mo bk->Q (.ref b) H'):Ad K vs H Q
noncomputable def BL (K:W.Frag):Sp:=fun vs H Q _=>Ad K vs H Q
theorem vC (F:Fun K "_law_book" "_law_book" fM f fd) (B:Bt mg)
  (D_law_cell:Df P w K mg base "_law_cell" 1 ["_law_script","_law_k"] (uA K)) (D_law_draws:Df P w K mg base "_law_draws" 1 ["_law_cell_here","_law_parts"] (jc K)) (D_law_under:Df P w K mg base "_law_under" 1 ["_law_cell_here","_law_k"] mR)
  (D_law_pledge:Df P w K mg base "_law_pledge" 6 ["_law_cell_here","_law_n","_law_one","_law_deep","_law_most"] sG):cu P w K mg base CX0 7 f fd ["_law_script","_law_start","_law_n","_law_most"] (BL K):=by
 refine F.ok fX (fun vs H Q E h=>?_) (fun cdv A outer s H vs Q E hr h=>?_)
 ·obtain⟨a,ss,st,n,mo,rfl,_⟩:=h
  rfl
 ·obtain⟨a,ss,st,n,mo,rfl,hS,hst,n1,n12,m1,m9,q⟩:=h
  refine⟨_,(aA (bu (i:=4) fX.nd rfl (Or.inl rfl) (bQ aj))
 (aA (gG PassesOwn.never rfl (cD rfl B.range_ (aa (pv 2) aj)) (aH (i:=5) fX.nd rfl (Or.inr rfl)) (aA (bu (i:=6) fX.nd rfl (Or.inr rfl) (aQ bL (aY D_law_cell hr (aa (pv 0) (aa (aQ bL (pv 1) (pv 5)) aj))) (aQ iG au (pv 5))))
 (aA (bu (i:=7) fX.nd rfl (Or.inl rfl) (aV (r:=eU K) aO (bQ (cJ au (cJ au (cJ au (cJ au (cJ au (cJ au (cJ au aj)))))))) (aV (r:=eU K) aO (aY D_law_draws hr (aa (aQ bL (pv 6) au) (aa (bQ (aa au aj)) aj))) au (fun _ _=>rfl)) (fun _ _=>rfl)))
 (aC (cW (uR PySem.F.plainAttrs_list PySem.F.slot_list_append PySem.F.type_list_append dB (pv 4) (aa (bD (L:=["_law_k"]) (F:=["_law_n","_law_one","_law_most","_law_cell_here"]) (cap:=[2,5,3,6]) rfl (bh rfl rfl (by kernel_rfl)) (cD rfl B.range_ (aa (pv 7) aj)) (fun _ _ _ _ _=>(aH (i:=0) (bc (by decide+kernel)) rfl (Or.inl rfl))) (fun _ _ _ _ _=>bC) (fun _ _ _ _ _=>(aY D_law_pledge hr (aa (aY D_law_under hr (aa (pv 4) (aa (aQ iG au (pv 0)) aj))) (aa (pv 1) (aa (pv 2) (aa au (aa (pv 3) aj)))))))) aj)))))))
 (aC (aJ (pv 4))))),?_⟩
  refine⟨small (Nat.zero_le _),fun r hr0=>?_⟩
  generalize eH1:upd H r _=H1
  obtain⟨g1,e1⟩:=aG eH1 hr0
  have en:((n:Int)).toNat=n:=Int.toNat_natCast n
  refine⟨_,rfl,_,rfl,by lia,by lia,mO (lo:=0) (n:=((n:Int)).toNat) (fun i σ H2=>(∃ u v x,σ=[some (.ref a),some (.int (st:Int)),some (.int (n:Int)),some (.int (mo:Int)),some (.ref r),u,v,x])/\aU H H2/\∃ (us:List V) (bk:List (List Pl)),H2 r=some (.lst us)/\dF n H2 us bk/\us.length=i/\(∀ u∈us,u≠.ref r)/\okM mo bk)
   ⟨⟨_,_,_,rfl⟩,g1,[],[],e1,.nil,rfl,by simp,fun _ z=>(by cases z)⟩ ?_ ?_⟩
  ·rintro i σ H2 hi ⟨⟨u,v,x,rfl⟩,sm,us,bk,er,rb,lu,hur,few⟩
   have hi12:i < n:=by lia
   have e1':(st:Int)+(0+(i:Int))=((st+i:Nat):Int):=by lia
   refine⟨_,rfl,_,rfl,_,rfl,_,_,rfl,rfl,a,ss,st+i,?_,wK sm hS,_,rfl,_,_,rfl,rfl,.inl ⟨by decide,by decide⟩,_,_,rfl,rfl,?_⟩
   ·show[V.ref a,V.int ((st:Int)+(0+(i:Int)))]=_
    rw[e1']
   refine gN ?_
   dsimp only
   generalize (ss.getD (st+i) 0+31 * (0+(i:Int)))=c
   refine⟨small (by show 7<=1000; decide),fun p3 h3=>?_⟩
   generalize eH3:upd H2 p3 _=H3
   obtain⟨g3,e3⟩:=aG eH3 h3
   refine⟨_,rfl,_,_,rfl,rfl,small (by show 1<=1000; decide),fun p4 h4=>?_⟩
   generalize eH4:upd H3 p4 _=H4
   obtain⟨g4,e4⟩:=aG eH4 h4
   refine⟨c+5,p4,[7],rfl,SqL.of e4,by decide,by decide,fun p5 h5=>?_⟩
   generalize eH5:upd H4 p5 _=H5
   obtain⟨g5,e5⟩:=aG eH5 h5
   obtain⟨d0,k0,b0⟩:=bU (c:=jW (c+5)) (i:=0) (ps:=[7]) (by decide) rfl
   have a0:=aD (dI k0)
   obtain⟨many,hmany,hm2⟩:∃ many:Nat,atI ([1,1,2,1,0,1,2].map V.int) d0=some (.int (many:Int))/\many<=2:=by
    rcases (show d0=0∨d0=1∨d0=2∨d0=3∨d0=4∨d0=5∨d0=6 by lia) with z | z | z | z | z | z | z
    ·exact⟨1,by rw[z]; rfl,by decide⟩
    ·exact⟨1,by rw[z]; rfl,by decide⟩
    ·exact⟨2,by rw[z]; rfl,by decide⟩
    ·exact⟨1,by rw[z]; rfl,by decide⟩
    ·exact⟨0,by rw[z]; rfl,by decide⟩
    ·exact⟨1,by rw[z]; rfl,by decide⟩
    ·exact⟨2,by rw[z]; rfl,by decide⟩
   refine⟨p5,_,_,_,rfl,rfl,SqL.of e5,a0,p3,_,_,_,rfl,rfl,SqL.of (g5 _ _ (g4 _ _ e3)),hmany,?_⟩
   have s5:aU H2 H5:=g3.trans (g4.trans g5)
   have emn:((many:Int)).toNat=many:=Int.toNat_natCast many
   refine⟨_,rfl,.inl ⟨rfl,_,SqL.of (s5 _ _ er)⟩,?_⟩
   refine⟨_,rfl,_,rfl,by lia,by lia,fun D hD=>cF (lo:=0) (n:=((many:Int)).toNat) (fun j zs σ' H6=>(∃ u,σ'=[u,some (.int (n:Int)),some (.int (0+(i:Int))),some (.int (mo:Int)),some (.int c)])/\aU H5 H6/\H6 D=some (.lst zs)/\∃ (as:List Addr) (ps:List Pl),zs=as.map V.ref/\as.length=j/\gm n H6 as ps/\(∀ p∈ps,∀ x∈p,x.1<=(mo:Int)))
    ⟨⟨_,rfl⟩,aB hD _,ao,[],[],rfl,rfl,.nil,fun _ z=>(by cases z)⟩ (fun j zs σ' H6 _ h=>h.2.2.1) ?_ ?_⟩
   ·rintro j zs σ' H6 hj ⟨⟨u,rfl⟩,s6,eD,as,ps,ez,la,rp,pm⟩
    have e7:(7:Int) * (0+(j:Int))=((7 * j:Nat):Int):=by lia
    refine gT ?_
    refine⟨_,rfl,_,rfl,_,_,rfl,rfl,.inl ⟨by decide,by decide⟩,c,7 * j,?_,by lia,_,rfl,_,rfl,_,rfl,JQ c (7 * j),n,i,3,mo,?_,n1,n12,hi12,by decide,by decide,m1,m9,fun pa p H7 s7 rpl rpm=>?_⟩
    ·show[V.int c,V.int (7 * (0+(j:Int)))]=_
     rw[e7]
    ·show[V.int (JQ c (7 * j)),V.int (n:Int),V.int (0+(i:Int)),V.int 3,V.int (mo:Int)]=_
     rw[Int.zero_add]
    ·have tk:=cZ (zs':=zs++[.ref pa]) (s7 _ _ eD)
     refine⟨s7 _ _ eD,?_,⟨_,rfl⟩,aP (s6.trans s7) hD _,ao,as++[pa],ps++[p],?_,?_,?_,fun p' hp=>?_⟩
     ·rw[ez,List.length_map]
      exact aN (by lia)
     ·rw[ez,List.map_append]
      rfl
     ·rw[List.length_append,la]
      rfl
     ·exact gm.snoc (rpl.bR tk) ((rp.bR fun a xs q=>s7 a _ q).bR tk)
     ·rcases List.mem_append.mp hp with h | h
      ·exact pm p' h
      ·rw[List.mem_singleton.mp h]
       exact rpm
   ·rintro zs σ' H6 ⟨_,s6,eD,as,ps,ez,la,rp,pm⟩
    rw[emn] at la
    rw[ez] at eD
    have s26:aU H2 H6:=s5.trans s6
    have er6:=s26 _ _ er
    have hDr:D≠r:=fun z=>by
     rw[z] at hD
     have:=s5 _ _ er
     rw[this] at hD
     cases hD
    refine⟨r,_,_,rfl,rfl,er6,aN (by lia),⟨_,_,_,rfl⟩,aP (sm.trans s26) hr0 _,us++[.ref D],bk++[ps],ao,?_,?_,?_,?_⟩
    ·have keepL:∀ {vs:List V} {bs:List (List Pl)},(∀ u∈vs,u≠.ref r)->dF n H6 vs bs->dF n (upd H6 r (.lst (us++[.ref D]))) vs bs:=by
      intro vs bs hne hb
      induction hb with
      | nil=>exact .nil
      | cons h l p _ ih =>
       refine .cons ?_ l (p.bR (cZ er6)) (ih fun u hu=>hne u (List.mem_cons_of_mem _ hu))
       rw[aR (fun z=>hne _ List.mem_cons_self (by rw[z]))]
       exact h
     have b6:=dF.snoc eD (by lia) rp (rb.mono s26)
     refine keepL (fun u hu=>?_) b6
     rcases List.mem_append.mp hu with h | h
     ·exact hur u h
     ·rw[List.mem_singleton.mp h]
      exact fun z=>hDr (by cases z; rfl)
    ·rw[List.length_append,lu]
     rfl
    ·intro u hu
     rcases List.mem_append.mp hu with h | h
     ·exact hur u h
     ·rw[List.mem_singleton.mp h]
      exact fun z=>hDr (by cases z; rfl)
    ·intro qs hq
     rcases List.mem_append.mp hq with h | h
     ·exact few qs h
     ·rw[List.mem_singleton.mp h]
      exact pm
  ·rintro σ H2 ⟨⟨u,v,x,rfl⟩,sm,us,bk,er,rb,lu,hur,few⟩
   rw[en] at lu
   have lb:=rb.length
   exact⟨_,rfl,q r bk H2 sm ⟨us,er,rb,by lia⟩ (by lia) few⟩
theorem Nx {K:W.Frag} {m z:Int} {n i:Nat} {σ:St} {H:Hp} {Q:V->Hp->Prop} (hz:z=(n:Int)) (n1:1<=n) (n2:n<=1000) (hσ:σ[i]? = some (some (.int z))) (hQ:∀ r H',aU H H'->H' r=some (.tup ((List.replicate n m).map V.int))->Q (.ref r) H') :
  tOp (BJ K) (Ni (Ay (tC (.int m)) Nh)) (Ka i) σ H Q:=by
 refine⟨small (by show 1<=1000; decide),fun pa ha=>?_⟩
 generalize eHa:upd H pa _=Ha
 obtain⟨ga,ea⟩:=aG eHa ha
 have hN:z.toNat=n:=by lia
 refine⟨_,hσ,pa,_,_,rfl,rfl,SqT.of ea,by simp,by lia,by lia,?_,fun h1=>?_,fun _ pb hb=>?_⟩
 ·show 1 * z.toNat<=sizeLine
  exact small (by lia)
 ·refine hQ pa Ha ga ?_
  rw[ea,show n=1 by lia]
  rfl
 ·refine hQ pb _ (ga.trans (aB hb _)) ?_
  rw[ao,hN,lV]
noncomputable def Dp (n:Nat) (H:Hp) (b f:Addr) (bk:List (List Pl)) (fl:List Int):Prop:=1<=n/\n<=12/\pK n H b bk/\bk.length=n/\H f=some (.tup (fl.map V.int))/\fl.length=n/\∀ x∈fl,0<=x/\x<=9
theorem Dp.mono {n:Nat} {H H':Hp} {b f:Addr} {bk:List (List Pl)} {fl:List Int} (e:aU H H') (h:Dp n H b f bk fl):Dp n H' b f bk fl:=by
 obtain⟨h1,h2,h3,h4,h5,h6,h7⟩:=h
 exact⟨h1,h2,h3.mono e,h4,e _ _ h5,h6,h7⟩
theorem IV {c:Int} {n:Nat} {m:Int} (hm:0<=m):∀ x∈MJ c n m,0<=x/\x<=m:=fun x hx=>by
 obtain⟨i,hi,e⟩:=List.getElem_of_mem hx
 rw[jA] at hi
 obtain⟨v,hv,b1,b2⟩:=Ea (c:=c) hm hi
 rw[List.getElem?_eq_getElem (by rw[jA]; exact hi),e] at hv
 cases hv
 exact⟨b1,b2⟩
noncomputable abbrev d8:Stmt:=top 45
theorem du:aL ["_law_script","_law_drawn","_law_n","_law_most","_law_floor"] ["_law_script"] (aq d8):=⟨rfl,rfl,rfl,by decide+kernel,rfl,by decide+kernel,by decide+kernel⟩
inductive wZ (K:W.Frag) (vs:List V) (H:Hp) (Q:VK):Prop where
 | mk (a:Addr) (ss:List Int) (z0:vs=[.ref a]) (z1:SqL K H a (ss.map V.int)) (z2:∀ (r:Addr) (n mo:Nat) (b f:Addr) (bk:List (List Pl)) (fl:List Int) (H':Hp),aU H H'->H' r=some (.tup [.int (n:Int),.int (mo:Int),.ref b,.ref f])->1<=mo->mo<=9->(mo+1) ^ n<=256->(∀ x∈fl,x<=(mo:Int))->Dp n H' b f bk fl->okM mo bk->Q (.ref r) H'):wZ K vs H Q
noncomputable def vD (K:W.Frag):Sp:=fun vs H Q _=>wZ K vs H Q
theorem uf (F : Fun K "_law_scene" "_law_scene" d8 f fd) (B : Bt mg)
    (D_law_cell : Df P w K mg base "_law_cell" 1 ["_law_script", "_law_k"] (uA K)) (D_law_draws : Df P w K mg base "_law_draws" 1 ["_law_cell_here", "_law_parts"] (jc K)) (D_law_giving : Df P w K mg base "_law_giving" 2 ["_law_cell_here", "_law_n", "_law_most"] rZ)
    (D_law_book : Df P w K mg base "_law_book" 7 ["_law_script", "_law_start", "_law_n", "_law_most"] (BL K)) : cu P w K mg base CX0 8 f fd ["_law_script"] (vD K) := by
  refine F.ok du (fun vs H Q E h => ?_) (fun cdv A outer s H vs Q E hr h => ?_)
  · obtain ⟨a, ss, rfl, _⟩ := h
    rfl
  · obtain ⟨a, ss, rfl, hS, q⟩ := h
    refine' ⟨_, ?hp, ?hz⟩
    case hp =>
     refine' aA ?s0 ?r0
     case s0 => exact (bu (i := 1) du.nd rfl (Or.inl rfl) (aY D_law_draws hr (aa (aY D_law_cell hr (aa (pv 0) (aa au aj))) (aa (bQ (aa au (aa au (aa au aj)))) aj))))
     case r0 =>
      refine' aA ?s1 ?r1
      case s1 =>
       refine' HR ?e ?t ?hs ?hw
       case hs => rfl
       case hw => rfl
       case t => exact (fZ (K := K) 2 rfl rfl (bA (aH (i := 2) du.nd rfl (Or.inl rfl)) (bA (aH (i := 3) du.nd rfl (Or.inl rfl)) gf)))
       case e =>
        refine' aV (r := eU K) ?h1 ?l ?ix ?h2
        case h1 => exact aO
        case h2 => exact fun _ _ => rfl
        case ix => exact (aV (r := eU K) aO (pv 1) au (fun _ _ => rfl))
        case l =>
         refine' bQ ?l0
         case l0 =>
          refine' cJ ?a0 ?l1 ?hh
          case hh => intro x p z; cases z
          case a0 => exact (bI (aa au (aa au aj)))
          case l1 =>
           refine' cJ ?a1 ?l2 ?hh
           case hh => intro x p z; cases z
           case a1 => exact (bI (aa au (aa au aj)))
           case l2 =>
            refine' cJ ?a2 ?l3 ?hh
            case hh => intro x p z; cases z
            case a2 => exact (bI (aa au (aa au aj)))
            case l3 =>
             refine' cJ ?a3 ?l4 ?hh
             case hh => intro x p z; cases z
             case a3 => exact (bI (aa au (aa au aj)))
             case l4 =>
              refine' cJ ?a4 ?l5 ?hh
              case hh => intro x p z; cases z
              case a4 => exact (bI (aa au (aa au aj)))
              case l5 =>
               refine' cJ ?a5 ?l6 ?hh
               case hh => intro x p z; cases z
               case a5 => exact (bI (aa au (aa au aj)))
               case l6 =>
                refine' cJ ?a6 ?l7 ?hh
                case hh => intro x p z; cases z
                case a6 => exact (bI (aa au (aa au aj)))
                case l7 => exact aj
      case r1 =>
       refine' aA ?s2 ?r2
       case s2 => exact (bu (i := 4) du.nd rfl (Or.inl rfl) (aY D_law_giving hr (aa (aY D_law_cell hr (aa (pv 0) (aa au aj))) (aa (pv 2) (aa (pv 3) aj)))))
       case r2 =>
        refine' aA ?s3 ?r3
        case s3 => exact (bV (aX DN (aV (r := eU K) aO (pv 1) au (fun _ _ => rfl)) au (aZ _)) (aC (bu (i := 4) du.nd rfl (Or.inl rfl) (aQ (r := BJ K) CJ (bI (aa au aj)) (pv 2)))) aW)
        case r3 =>
         refine' aC ?s4
         case s4 => exact (aJ (bI (aa (pv 2) (aa (pv 3) (aa (aY D_law_book hr (aa (pv 0) (aa au (aa (pv 2) (aa (pv 3) aj))))) (aa (pv 4) aj))))))
    refine ⟨_, rfl, a, ss, 0, rfl, hS, small (by show 3 ≤ 1000; decide), fun p2 h2 => ?_⟩
    generalize eH2 : upd H p2 _ = H2
    obtain ⟨g2, e2⟩ := aG eH2 h2
    refine ⟨_, p2, [7, 3, 12], rfl, SqL.of e2, by decide, by decide, fun p3 h3 => ?_⟩
    generalize eH3 : upd H2 p3 _ = H3
    obtain ⟨g3, e3⟩ := aG eH3 h3
    have hps : ∀ q ∈ ([7, 3, 12] : List Int), 0 < q := by decide
    obtain ⟨d0, k0, b0⟩ := bU (c := jW (ss.getD 0 0)) (i := 0) hps rfl
    obtain ⟨d1, k1, b1⟩ := bU (c := jW (ss.getD 0 0)) (i := 1) hps rfl
    have a0 := aD (dI k0)
    have a1 := aD (dI k1)
    have s3 : aU H H3 := g2.trans g3
    refine ⟨small (by show 2 ≤ 1000; decide), fun t1 u1 => ?_⟩
    generalize eT1 : upd H3 t1 _ = T1
    obtain ⟨gt1, et1⟩ := aG eT1 u1
    refine ⟨small (by show 2 ≤ 1000; decide), fun t2 u2 => ?_⟩
    generalize eT2 : upd T1 t2 _ = T2
    obtain ⟨gt2, et2⟩ := aG eT2 u2
    refine ⟨small (by show 2 ≤ 1000; decide), fun t3 u3 => ?_⟩
    generalize eT3 : upd T2 t3 _ = T3
    obtain ⟨gt3, et3⟩ := aG eT3 u3
    refine ⟨small (by show 2 ≤ 1000; decide), fun t4 u4 => ?_⟩
    generalize eT4 : upd T3 t4 _ = T4
    obtain ⟨gt4, et4⟩ := aG eT4 u4
    refine ⟨small (by show 2 ≤ 1000; decide), fun t5 u5 => ?_⟩
    generalize eT5 : upd T4 t5 _ = T5
    obtain ⟨gt5, et5⟩ := aG eT5 u5
    refine ⟨small (by show 2 ≤ 1000; decide), fun t6 u6 => ?_⟩
    generalize eT6 : upd T5 t6 _ = T6
    obtain ⟨gt6, et6⟩ := aG eT6 u6
    refine ⟨small (by show 2 ≤ 1000; decide), fun t7 u7 => ?_⟩
    generalize eT7 : upd T6 t7 _ = T7
    obtain ⟨gt7, et7⟩ := aG eT7 u7
    refine ⟨small (by show 7 ≤ 1000; decide), fun t8 u8 => ?_⟩
    generalize eT8 : upd T7 t8 _ = T8
    obtain ⟨gt8, et8⟩ := aG eT8 u8
    have w7 : aU T7 T8 := gt8
    have w6 : aU T6 T8 := gt7.trans w7
    have w5 : aU T5 T8 := gt6.trans w6
    have w4 : aU T4 T8 := gt5.trans w5
    have w3 : aU T3 T8 := gt4.trans w4
    have w2 : aU T2 T8 := gt3.trans w3
    have w1 : aU T1 T8 := gt2.trans w2
    have w0 : aU H3 T8 := gt1.trans w1
    obtain ⟨tt, n, mo, htt, ett, n1, n12, m1, m9, hpow⟩ : ∃ (tt : Addr) (n mo : Nat), atI [V.ref t1, .ref t2, .ref t3, .ref t4, .ref t5, .ref t6, .ref t7] d0 = some (.ref tt) ∧ T8 tt = some (.tup [.int (n : Int), .int (mo : Int)]) ∧ 1 ≤ n ∧ n ≤ 12 ∧ 1 ≤ mo ∧ mo ≤ 9 ∧ (mo + 1) ^ n ≤ 256 := by
      rcases (show d0 = 0 ∨ d0 = 1 ∨ d0 = 2 ∨ d0 = 3 ∨ d0 = 4 ∨ d0 = 5 ∨ d0 = 6 by lia) with z | z | z | z | z | z | z
      · exact ⟨t1, 3, 3, by rw [z]; rfl, w1 _ _ et1, by decide, by decide, by decide, by decide, by decide⟩
      · exact ⟨t2, 2, 9, by rw [z]; rfl, w2 _ _ et2, by decide, by decide, by decide, by decide, by decide⟩
      · exact ⟨t3, 4, 3, by rw [z]; rfl, w3 _ _ et3, by decide, by decide, by decide, by decide, by decide⟩
      · exact ⟨t4, 1, 9, by rw [z]; rfl, w4 _ _ et4, by decide, by decide, by decide, by decide, by decide⟩
      · exact ⟨t5, 3, 2, by rw [z]; rfl, w5 _ _ et5, by decide, by decide, by decide, by decide, by decide⟩
      · exact ⟨t6, 5, 2, by rw [z]; rfl, w6 _ _ et6, by decide, by decide, by decide, by decide, by decide⟩
      · exact ⟨t7, 6, 1, by rw [z]; rfl, w7 _ _ et7, by decide, by decide, by decide, by decide, by decide⟩
    have s8 : aU H T8 := s3.trans w0
    refine ⟨_, rfl, p3, _, _, _, rfl, rfl, SqL.of (w0 _ _ e3), a0, t8, _, _, _, rfl, rfl, SqL.of et8, htt, tt, _, rfl, SqT.of ett, rfl, _, _, rfl, _, _, rfl, rfl, ?_⟩
    refine ⟨_, rfl, a, ss, 1, rfl, wK s8 hS, _, rfl, _, rfl, ss.getD 1 0, n, (mo : Int), rfl, by lia, by lia, by lia, fun r4 H4 s4 _ e4 => ?_⟩
    refine gN ?_
    dsimp only
    show Fl (Ga _ _ _) _ _ _ _
    have s4' : aU H H4 := s8.trans s4
    refine jC (fun σ H5 => ∃ (f : Addr) (fl : List Int), σ = [some (.ref a), some (.ref p3), some (.int (n : Int)), some (.int (mo : Int)), some (.ref f)] ∧ aU H H5 ∧ H5 f = some (.tup (fl.map V.int)) ∧ fl.length = n ∧ ∀ x ∈ fl, 0 ≤ x ∧ x ≤ (mo : Int)) ?rest (fun _ R => ?_)
    case rest =>
      rintro σ H5 ⟨f, fl, rfl, s5, e5, lf, hf⟩
      refine ⟨_, rfl, _, rfl, _, rfl, _, rfl, _, rfl, a, ss, 2, n, mo, rfl, wK s5 hS, by decide, n1, n12, m1, m9, fun b bk H6 s6 rb lb few => ?_⟩
      refine ⟨_, rfl, small (by show 4 ≤ 1000; decide), fun p7 h7 => ?_⟩
      have sn := aB h7 (.tup [.int (n : Int), .int (mo : Int), .ref b, .ref f])
      exact q p7 n mo b f bk fl _ (s5.trans (s6.trans sn)) ao m1 m9 hpow (fun x hx => (hf x hx).2) ⟨n1, n12, rb.mono sn, lb, sn _ _ (s6 _ _ e5), lf, fun x hx => ⟨(hf x hx).1, by have := (hf x hx).2; lia⟩⟩ few
    · refine ⟨_, rfl, p3, _, _, _, rfl, rfl, SqL.of (s4 _ _ (w0 _ _ e3)), a1, _, _, rfl, rfl, _, rfl, ?_⟩
      refine vg (fun _ => ?_) (fun _ => R _ _ ⟨r4, _, rfl, s4', e4, jA _ _ _, IV (by lia)⟩)
      refine Nx (z := (n : Int)) (n := n) rfl n1 (by lia) rfl fun ra Ha sa ea => ?_
      refine R _ _ ⟨ra, List.replicate n 0, rfl, s4'.trans sa, ea, List.length_replicate, fun x hx => ?_⟩
      rw [(List.mem_replicate.mp hx).2]
      lia
noncomputable abbrev cG:Stmt:=top 53
theorem jb:aL ["_law_script","_law_start","_law_some"] ["_law_script","_law_start"] (aq cG):=⟨rfl,rfl,rfl,by decide+kernel,rfl,by decide+kernel,by decide+kernel⟩
inductive pB (K:W.Frag) (vs:List V) (H:Hp) (Q:VK):Prop where
 | mk (a:Addr) (ss:List Int) (st:Int) (z0:vs=[.ref a,.int st]) (z1:SqL K H a (ss.map V.int)) (z2:ss.length<=63) (z3:∀ (r:Addr) (n mo:Nat) (b f:Addr) (bk:List (List Pl)) (fl:List Int) (H':Hp),aU H H'->H' r=some (.tup [.int (n:Int),.int (mo:Int),.ref b,.ref f])->1<=mo->mo<=9->(mo+1) ^ n<=256->(∀ x∈fl,x<=(mo:Int))->Dp n H' b f bk fl->okM mo bk->Q (.ref r) H'):pB K vs H Q
noncomputable def mX (K:W.Frag):Sp:=fun vs H Q _=>pB K vs H Q
theorem mL (F:Fun K "_law_scene_at" "_law_scene_at" cG f fd) (B:Bt mg)
  (D_law_scene:Df P w K mg base "_law_scene" 8 ["_law_script"] (vD K)):cu P w K mg base CX0 9 f fd ["_law_script","_law_start"] (mX K):=by
 refine F.ok jb (fun vs H Q E h=>?_) (fun cdv A outer s H vs Q E hr h=>?_)
 ·obtain⟨a,ss,st,rfl,_⟩:=h
  rfl
 ·obtain⟨a,ss,st,rfl,hS,ls,q⟩:=h
  refine⟨_,(aA (bu (i:=2) jb.nd rfl (Or.inl rfl) (qY (r:=Oe K) Ac (pv 0) (rK (pv 1)) (rK (aQ bL (pv 1) au))))
 (aA (cW (uR PySem.F.plainAttrs_list PySem.F.slot_list_append PySem.F.type_list_append dB (pv 2) (aa (pv 1) aj)))
 (aC (aJ (aY D_law_scene hr (aa (pv 2) aj)))))),?_⟩
  refine⟨_,rfl,_,rfl,_,rfl,_,rfl,_,_,rfl,rfl,_,rfl,a,_,rfl,hS,fun p1 h1=>?_⟩
  obtain⟨ks,ek,lk⟩:=yg ss (some st) (some (st+9))
  rw[show Bs (ss.map V.int) (some st) (some (st+9))=ks.map V.int from ek]
  generalize eH1:upd H p1 _=H1
  obtain⟨g1,e1⟩:=aG eH1 h1
  refine⟨_,rfl,.inl ⟨rfl,_,SqL.of e1⟩,_,rfl,p1,_,_,rfl,rfl,e1,aN (by rw[List.length_map]; lia),?_⟩
  have ec:ks.map V.int++[V.int st]=(ks++[st]).map V.int:=by rw[List.map_append]; rfl
  rw[ec]
  have s2:aU H (upd H1 p1 (.lst ((ks++[st]).map V.int))):=aP g1 h1 _
  exact⟨_,rfl,p1,ks++[st],rfl,SqL.of ao,fun r n mo b f bk fl H' s' er m1 m9 hp hm sc om=>q r n mo b f bk fl H' (s2.trans s') er m1 m9 hp hm sc om⟩
noncomputable abbrev iu:Stmt:=top 50
theorem fC:aL ["_law_tops","_law_found","_law_top","_law_longer","_law_row"] ["_law_tops"] (aq iu):=⟨rfl,rfl,rfl,by decide+kernel,rfl,by decide+kernel,by decide+kernel⟩
inductive HY (K:W.Frag) (vs:List V) (H:Hp) (Q:VK):Prop where
 | mk (t:Addr) (ts:List Nat) (z0:vs=[.ref t]) (z1:SqT K H t (ts.map vN)) (z2:ts.length<=20) (z3:(∀ x∈ts,x<=100)) (z4:(∀ i,(lO (ts.take i)).length<=5000)) (z5:∀ (r:Addr) (us:List V) (H':Hp),aU H H'->H r=none->H' r=some (.lst us)->eV H' us (lO ts)->Q (.ref r) H'):HY K vs H Q
noncomputable def Km (K:W.Frag):Sp:=fun vs H Q _=>HY K vs H Q
theorem zF (F:Fun K "_law_box" "_law_box" iu f fd) (B:Bt mg) :
  cu P w K mg base CX0 1 f fd ["_law_tops"] (Km K):=by
 refine F.ok fC (fun vs H Q E h=>?_) (fun cdv A outer s H vs Q E hr h=>?_)
 ·obtain⟨t,ts,rfl,_⟩:=h
  rfl
 ·obtain⟨t,ts,rfl,hT,l20,h100,h5,q⟩:=h
  refine⟨_,(aA (bu (i:=1) fC.nd rfl (Or.inl rfl) (bQ (aa (bI aj) aj)))
 (aA (gG PassesOwn.never rfl (f9 (pv 0)) (aH (i:=2) fC.nd rfl (Or.inl rfl)) (aA (bu (i:=3) fC.nd rfl (Or.inl rfl) (bQ aj))
 (aA (gG PassesOwn.never rfl (eN (pv 1)) (aH (i:=4) fC.nd rfl (Or.inr rfl)) (aC (cW (uR PySem.F.plainAttrs_list PySem.F.slot_list_extend PySem.F.type_list_extend Du (pv 3) (aa (bD (L:=["_law_step"]) (F:=["_law_row"]) (cap:=[4]) rfl (bh rfl rfl (by kernel_rfl)) (cD rfl B.range_ (aa (aQ bL (pv 2) au) aj)) (fun _ _ _ _ _=>(aH (i:=0) (bc (by decide+kernel)) rfl (Or.inl rfl))) (fun _ _ _ _ _=>bC) (fun _ _ _ _ _=>(aQ (r:=Ag K) xJ (pv 1) (bI (aa (pv 0) aj))))) aj)))))
 (aC (bu (i:=1) fC.nd rfl (Or.inl rfl) (pv 3))))))
 (aC (aJ (pv 1))))),?_⟩
  refine⟨small (by show 0<=1000; decide),fun p0 h0=>?_⟩
  generalize eH1:upd H p0 _=H1
  obtain⟨g1,e1⟩:=aG eH1 h0
  refine⟨small (by show 1<=1000; decide),fun f0 hf0=>?_⟩
  generalize eH2:upd H1 f0 _=H2
  obtain⟨g2,e2⟩:=aG eH2 hf0
  refine⟨_,rfl,t,rfl,⟨_,cI (g1.trans g2) hT⟩,oA (K:=K) (a:=t) (xs:=ts.map vN) (fun i σ Hx=>∃ (fo:Addr) (us:List V) (u v w:Option V),σ=[some (.ref t),some (.ref fo),u,v,w]/\aU H Hx/\H fo=none/\Hx fo=some (.lst us)/\eV Hx us (lO (ts.take i)))
   ⟨f0,[.ref p0],_,_,_,rfl,g1.trans g2,g1.free hf0,e2,.cons (g2 _ _ e1) (Nat.zero_le _) .nil⟩ (fun i σ Hx _ ⟨_,_,_,_,_,_,h,_⟩=>cI h hT) ?_ ?_⟩
  ·rintro i x σ Hx hx ⟨fo,us,u,v,w,rfl,sx,hfo,efo,gr⟩
   obtain⟨tp,htp,rfl⟩:=sI hx
   have t100:=h100 tp (List.mem_of_getElem? htp)
   have lrow:∀ r∈lO (ts.take i),r.length<=20:=fun r hr=>by
    have:=eF hr
    rw[List.length_take] at this
    lia
   have h5':=h5 (i+1)
   rw[tu htp] at h5'
   generalize erows:lO (ts.take i)=rows at *
   refine⟨small (Nat.zero_le _),fun lo hlo=>?_⟩
   have hlo0:H lo=none:=sx.free hlo
   generalize eH4:upd Hx lo _=H4
   obtain⟨g4,e4⟩:=aG eH4 hlo
   have lus:=gr.length
   refine⟨_,rfl,fo,rfl,⟨_,SqL.of (g4 _ _ efo)⟩,rA (K:=K) (a:=fo) (xs:=us) (fun j σ Hy=>∃ (ws:List V) (u:Option V),σ=[some (.ref t),some (.ref fo),some (vN tp),some (.ref lo),u]/\aU Hx Hy/\Hy lo=some (.lst ws)/\eV Hy ws (bxS (rows.take j) tp))
    ⟨[],_,rfl,g4,e4,by rw[List.take_zero]; exact .nil⟩ (fun j σ Hy _ ⟨_,_,_,h,_⟩=>SqL.of (h _ _ efo)) ?_ ?_⟩
   ·rintro j x σ Hy hx ⟨ws,u,rfl,sy,elo,gw⟩
    obtain⟨ra,row,rfl,hrow,era,_⟩:=gr.at hx
    have lr:=lrow row (List.mem_of_getElem? hrow)
    have lws:=gw.length
    rw[jf] at lws
    have hj:=(List.getElem?_eq_some_iff.mp hx).1
    have lenb:(bxS (rows.take (j+1)) tp).length<=5000:=by
     rw[jf] at h5' ⊢
     refine Nat.le_trans (Nat.mul_le_mul_right _ ?_) h5'
     rw[List.length_take]
     lia
    rw[jf,List.length_take] at lenb
    rw[List.length_take] at lws
    have en:(((tp:Nat):Int)+1).toNat=tp+1:=by lia
    refine⟨_,rfl,.inl ⟨rfl,_,SqL.of elo⟩,_,rfl,_,_,rfl,rfl,_,rfl,by lia,by lia,fun D hD=>cF (lo:=0) (n:=(((tp:Nat):Int)+1).toNat) (fun k zs σ' H6=>(∃ u,σ'=[u,some (.ref ra)])/\aU Hy H6/\H6 D=some (.lst zs)/\eV H6 zs ((List.range k).map fun s:Nat=>row++[(s:Int)]))
     ⟨⟨_,rfl⟩,aB hD _,ao,.nil⟩ (fun k zs σ' H6 _ h=>h.2.2.1) ?_ ?_⟩
    ·rintro k zs σ' H6 hk ⟨⟨u,rfl⟩,s6,eD,gz⟩
     have lz:=gz.length
     rw[List.length_map,List.length_range] at lz
     have era6:=s6 _ _ (sy _ _ era)
     refine gT ?_
     refine⟨_,rfl,_,rfl,small (by show 1<=1000; decide),fun p hp=>?_⟩
     generalize eH7:upd H6 p _=H7
     obtain⟨g7,e7⟩:=aG eH7 hp
     have fin:∀ (pa:Addr) (H8:Hp),aU H7 H8->H8 pa=some (.tup ((row++[(k:Int)]).map V.int))->H8 D=some (.lst zs)/\zs.length < sizeLine/\(∃ u,[some (.int (0+(k:Int))),some (.ref ra)]=[u,some (V.ref ra)])/\aU Hy (upd H8 D (.lst (zs++[.ref pa])))/\upd H8 D (.lst (zs++[.ref pa])) D=some (.lst (zs++[.ref pa]))/\eV (upd H8 D (.lst (zs++[.ref pa]))) (zs++[.ref pa]) ((List.range (k+1)).map fun s:Nat=>row++[(s:Int)]):=fun pa H8 s8 e8=>by
      have s68:=g7.trans s8
      have tk:=cZ (zs':=zs++[.ref pa]) (s68 _ _ eD)
      refine⟨s68 _ _ eD,aN (by lia),⟨_,rfl⟩,aP (s6.trans s68) hD _,ao,?_⟩
      rw[List.range_succ,List.map_append]
      exact eV.snoc (tk _ _ e8) (by rw[List.length_append]; show row.length+1<=1000; lia) ((gz.mono s68).bR tk)
     have ek:V.int (0+(k:Int))=V.int (k:Int):=by rw[Int.zero_add]
     refine⟨ra,p,_,_,rfl,rfl,SqT.of (g7 _ _ era6),SqT.of e7,small (by rw[List.length_map]; show row.length+1<=1000; lia),fun hnil=>?_,fun _ z=>(by cases z),fun hne _ p2 h2=>?_⟩
     ·have er:row=[]:=by simpa using hnil
      refine fin p H7 (aU.refl _) ?_
      rw[e7,er,ek]
      rfl
     ·refine fin p2 _ (aB h2 _) ?_
      rw[ao,List.map_append,ek]
      rfl
    ·rintro zs σ' H6 ⟨_,s6,eD,gz⟩
     rw[en] at gz
     have lz:=gz.length
     rw[List.length_map,List.length_range] at lz
     have elo6:=s6 _ _ elo
     refine⟨lo,D,_,_,rfl,rfl,elo6,eD,big (by rw[lz,lws]; have:min j rows.length * (tp+1)<=min (j+1) rows.length * (tp+1):=Nat.mul_le_mul_right _ (by lia); lia),?_⟩
     have tk:=cZ (zs':=ws++zs) elo6
     refine⟨ws++zs,_,rfl,aP (sy.trans s6) hlo _,ao,?_⟩
     rw[Gm hrow]
     exact eV.append ((gw.mono s6).bR tk) (gz.bR tk)
   ·rintro σ Hy ⟨ws,u,rfl,sy,elo,gw⟩
    rw[lus,List.take_length] at gw
    refine⟨_,rfl,lo,ws,_,_,_,rfl,sx.trans sy,hlo0,elo,?_⟩
    rw[tu htp,erows]
    exact gw
  ·rintro σ Hx ⟨fo,us,u,v,w,rfl,sx,hfo,efo,gr⟩
   rw[List.length_map,List.take_length] at gr
   exact⟨_,rfl,q fo us Hx sx hfo efo gr⟩
theorem NP {K:W.Frag} {m z:Int} {n i j:Nat} {σ:St} {H:Hp} {Q:V->Hp->Prop} (hz:z=(n:Int)) (n1:1<=n) (n2:n<=1000) (hσ:σ[i]? = some (some (.int z))) (hj:σ[j]? = some (some (.int m))) (hQ:∀ r H',aU H H'->H' r=some (.tup ((List.replicate n m).map V.int))->Q (.ref r) H') :
  tOp (BJ K) (Ni (Ay (Ka j) Nh)) (Ka i) σ H Q:=by
 refine⟨_,hj,small (by show 1<=1000; decide),fun pa ha=>?_⟩
 generalize eHa:upd H pa _=Ha
 obtain⟨ga,ea⟩:=aG eHa ha
 have hN:z.toNat=n:=by lia
 refine⟨_,hσ,pa,_,_,rfl,rfl,SqT.of ea,by simp,by lia,by lia,?_,fun h1=>?_,fun _ pb hb=>?_⟩
 ·show 1 * z.toNat<=sizeLine
  exact small (by lia)
 ·refine hQ pa Ha ga ?_
  rw[ea,show n=1 by lia]
  rfl
 ·refine hQ pb _ (ga.trans (aB hb _)) ?_
  rw[ao,hN,lV]
theorem JK {mo:Int} {p:Pl} (h0:0<=mo) (h:∀ x∈p,x.1<=mo):lsF p<=mo:=by
 cases p with
 | nil=>exact h0
 | cons y r =>
  show (r.map (·.1)).foldl max y.1<=mo
  refine di _ _ (h y List.mem_cons_self) fun x hx=>?_
  obtain⟨z,hz,rfl⟩:=List.mem_map.mp hx
  exact h z (List.mem_cons_of_mem _ hz)
theorem JD {mo f:Int} (h0:0<=mo) (h:f<=mo) {ps:List Pl} (ok:∀ p∈ps,∀ x∈p,x.1<=mo):rfS f ps<=mo:=by
 refine di _ f h fun x hx=>?_
 obtain⟨p,hp,rfl⟩:=List.mem_map.mp hx
 exact JK h0 (ok p hp)
theorem mq {n:Nat} {fl:List Int} {bk:List (List Pl)} (hb:bk.length=n) (ok:okB bk) (hf:okG n fl) (i:Nat):(((rfN fl bk).getD i 0:Nat):Int)=(rfF fl bk).getD i 0:=by
 have o:=iK hb ok hf
 unfold rfN
 rw[List.getD_eq_getElem?_getD,List.getElem?_map,List.getD_eq_getElem?_getD]
 cases e:(rfF fl bk)[i]? with
 | none=>rfl
 | some x =>
  have:=o.2 x (List.mem_of_getElem? e)
  show ((x.toNat:Nat):Int)=x
  lia
theorem Fx {n mo i:Nat} (h:i < n):(List.replicate n mo).getD i 0=mo:=by
 rw[List.getD_eq_getElem?_getD,List.getElem?_replicate,if_pos h]
 rfl
theorem G4 {n mo:Nat} {fl:List Int} {bk:List (List Pl)} (hb:bk.length=n) (ok:okB bk) (hf:okG n fl) (hm:okM mo bk) (hmo:∀ x∈fl,x<=(mo:Int)) (i:Nat):(rfN fl bk).getD i 0<=(List.replicate n mo).getD i 0:=by
 have e:=mq hb ok hf i
 have o:=iK hb ok hf
 by_cases hi:i < n
 ·rw[Fx hi]
  have h1:i < fl.length:=by rw[hf.1]; exact hi
  have h2:i < bk.length:=by lia
  have:(rfF fl bk).getD i 0<=(mo:Int):=by
   unfold rfF
   rw[eY rfS h1 h2]
   refine JD (by lia) ?_ (hm bk[i] (List.getElem_mem h2))
   rw[List.getD_eq_getElem?_getD,List.getElem?_eq_getElem h1]
   exact hmo _ (List.getElem_mem h1)
  lia
 ·rw[List.getD_eq_getElem?_getD (l:=rfF fl bk),List.getElem?_eq_none (by rw[o.1]; lia)] at e
  have e:(((rfN fl bk).getD i 0:Nat):Int)=0:=e
  lia
theorem qe {n:Nat} {fl:List Int} {bk:List (List Pl)} (hb:bk.length=n) (ok:okB bk) (hf:okG n fl):(rfN fl bk).length=n:=by
 unfold rfN
 rw[List.length_map,(iK hb ok hf).1]
theorem Oq {n mo:Nat} {fl:List Int} {bk:List (List Pl)} (hb:bk.length=n) (ok:okB bk) (hf:okG n fl) (hm:okM mo bk) (hmo:∀ x∈fl,x<=(mo:Int)):evF fl bk (rfN fl bk)=evF fl bk (List.replicate n mo):=by
 have l2:=qe hb ok hf
 have e:=Bu n (List.replicate n mo) (rfN fl bk) List.length_replicate l2 (G4 hb ok hf hm hmo)
 unfold evF
 rw[← e]
 refine Jb fun g hg z=>?_
 have z:=of_decide_eq_true z
 refine GQ (by rw[eF hg,l2,List.length_replicate]) fun i=>?_
 have k:=jM hb ok hf g i
 rw[z] at k
 rw[mq hb ok hf i]
 exact k
theorem Nz {n:Nat} {fl:List Int} {bk:List (List Pl)} (hb:bk.length=n) (ok:okB bk) (hf:okG n fl):evF fl bk (rfN fl bk)≠[]:=by
 obtain⟨m,_,st⟩:=pF hb ok hf
 have og:=eX hb ok hf hf m
 have fx:cL (itF (Fd fl bk) fl m) fl bk=itF (Fd fl bk) fl m:=st.1
 generalize itF (Fd fl bk) fl m=g at *
 intro z
 have l2:=qe hb ok hf
 have hin:g∈lO (rfN fl bk):=by
  refine GC (rfN fl bk) g (by rw[og.1,l2]) fun i=>?_
  by_cases hi:i < n
  ·refine⟨(gW og hi).1,?_⟩
   have k:=jM hb ok hf g i
   rw[fx] at k
   rw[mq hb ok hf i]
   exact k
  ·rw[List.getD_eq_getElem?_getD,List.getElem?_eq_none (by rw[og.1]; lia)]
   exact⟨Int.le_refl _,Int.natCast_nonneg _⟩
 have:g∈evF fl bk (rfN fl bk):=List.mem_filter.mpr ⟨hin,decide_eq_true fx⟩
 rw[z] at this
 cases this
theorem Mp {n mo:Nat} {fl:List Int} {bk:List (List Pl)} (hb:bk.length=n) (ok:okB bk) (hf:okG n fl) (hm:okM mo bk) (hmo:∀ x∈fl,x<=(mo:Int)) {g:List Int} (e:cL g fl bk=g):g∈evF fl bk (List.replicate n mo):=by
 have og:okG n g:=by
  have:=jz hb ok hf g
  rw[e] at this
  exact this
 refine List.mem_filter.mpr ⟨GC _ g (by rw[og.1,List.length_replicate]) fun i=>?_,decide_eq_true e⟩
 by_cases hi:i < n
 ·refine⟨(gW og hi).1,?_⟩
  have k:=jM hb ok hf g i
  rw[e,← mq hb ok hf i] at k
  have:=G4 hb ok hf hm hmo i
  lia
 ·rw[List.getD_eq_getElem?_getD,List.getElem?_eq_none (by rw[og.1]; lia)]
  exact⟨Int.le_refl _,Int.natCast_nonneg _⟩
theorem M7 {n mo:Nat} {fl:List Int} {bk:List (List Pl)} (hb:bk.length=n) (ok:okB bk) (hf:okG n fl) {g:List Int} (h:g∈evF fl bk (List.replicate n mo)):cL g fl bk=g/\okG n g:=by
 have e:=of_decide_eq_true (List.mem_filter.mp h).2
 refine⟨e,?_⟩
 have:=jz hb ok hf g
 rw[e] at this
 exact this
theorem CW:∀ (ts:List Nat) (rows:List (List Int)),(∀ r∈rows,∀ x∈r,0<=x/\x<=9)->(∀ t∈ts,t<=9)->∀ g∈ts.foldl bxS rows,∀ x∈g,0<=x/\x<=9
 | [],rows,h,_,g,hg=>h g hg
 | t::ts,rows,h,ht,g,hg=>by
  rw[List.foldl_cons] at hg
  refine CW ts (bxS rows t) (fun r hr x hx=>?_) (fun t' ht'=>ht t' (List.mem_cons_of_mem _ ht')) g hg
  unfold bxS at hr
  obtain⟨q,hq,hr⟩:=List.mem_flatMap.mp hr
  obtain⟨s,hs,rfl⟩:=List.mem_map.mp hr
  rcases List.mem_append.mp hx with z | z
  ·exact h q hq x z
  ·rw[List.mem_singleton.mp z]
   have:=List.mem_range.mp hs
   have:=ht t List.mem_cons_self
   lia
theorem Ke {n mo:Nat} (h:mo<=9) {g:List Int} (hg:g∈lO (List.replicate n mo)):okG n g :=
 ⟨(eF hg).trans List.length_replicate,CW _ [[]] (fun r hr x hx=>by rw[List.mem_singleton.mp hr] at hx; cases hx) (fun t ht=>by rw[(List.mem_replicate.mp ht).2]; exact h) g hg⟩
theorem OD {K:W.Frag} {a D:Addr} {us:List V} {gs:List (List Int)} {te:TE} {H1:Hp} {Q:Hp->Prop} {u0:Option V} {rest:St} (p:List Int->Bool) (hl:H1 a=some (.lst us)) (gr:eV H1 us gs) (lg:gs.length<=5000) (hD:H1 D=none)
  (hs:∀ (r:Addr) (g:List Int) (Hx:Hp) (Q':V->Hp->Prop),g∈gs->aU H1 Hx->Hx r=some (.tup (g.map V.int))->(∀ Hy,aU Hx Hy->Q' (.bl (p g)) Hy)->te (some (.ref r)::rest) Hx Q')
  (hd:∀ Hx,aU H1 Hx->Hx D=some (.lst ((gs.map p).map V.bl))->Q Hx):eO D (u0::rest) (Itl K a) (vW 0) Dt te H1 Q:=by
 refine eG (K:=K) (a:=a) (xs:=us) (fun i ys σ Hx=>(∃ u,σ=u::rest)/\aU H1 Hx/\Hx D=some (.lst ys)/\ys=((gs.take i).map p).map V.bl) ⟨⟨_,rfl⟩,aB hD _,ao,by rw[List.take_zero]; rfl⟩
  (fun i ys σ Hx _ h=>⟨SqL.of (h.2.1 _ _ hl),h.2.2.1⟩) ?_ ?_
 ·rintro i ys x σ Hx hx ⟨⟨u,rfl⟩,sx,eD,gy⟩
  obtain⟨r,g,rfl,hg,er,l1⟩:=gr.at hx
  refine gT ?_
  refine hs r g Hx _ (List.mem_of_getElem? hg) sx (sx _ _ er) fun Hy sy=>?_
  refine⟨sy _ _ eD,?_,⟨_,rfl⟩,aP (sx.trans sy) hD _,ao,?_⟩
  ·rw[gy,List.length_map,List.length_map,List.length_take]
   exact Nat.lt_of_le_of_lt (show min i gs.length<=5000 by lia) (by decide)
  ·rw[gy,List.take_add_one,hg,List.map_append,List.map_append]
   rfl
 ·rintro ys σ Hx ⟨_,sx,eD,gy⟩
  rw[gr.length,List.take_length] at gy
  exact hd Hx sx (by rw[eD,gy])
noncomputable abbrev cP:Stmt:=top 55
theorem cY:aL ["_law_rows","_law_one","_law_other","_law_over","_law_under_here","_law_first","_law_last"] ["_law_rows","_law_one","_law_other"] (aq cP):=⟨rfl,rfl,rfl,by decide+kernel,rfl,by decide+kernel,by decide+kernel⟩
theorem yd {gs:List (List Int)} {n:Nat} {p q:List Int->Bool} {f:List Int} (hlen:∀ g∈gs,g.length=n) (hf:f∈gs) (hp:p f=true) (hq:q f=true) (un:∀ g∈gs,p g=true->q g=true->g=f):∃ r,(gs.filter p).filter q=f::r:=by
 have hin:f∈(gs.filter p).filter q:=List.mem_filter.mpr ⟨List.mem_filter.mpr ⟨hf,hp⟩,hq⟩
 cases e:(gs.filter p).filter q with
 | nil=>rw[e] at hin; cases hin
 | cons a r =>
  have ha:a∈(gs.filter p).filter q:=by rw[e]; exact List.mem_cons_self
  obtain⟨h1,h2⟩:=List.mem_filter.mp ha
  obtain⟨h3,h4⟩:=List.mem_filter.mp h1
  rw[un a h3 h4 h2]
  exact⟨r,rfl⟩
inductive o9 (K:W.Frag) (vs:List V) (H:Hp) (Q:VK):Prop where
 | mk (rs o t:Addr) (n:Nat) (us:List V) (gs:List (List Int)) (x y f l:List Int) (z0:vs=[.ref rs,.ref o,.ref t]) (z1:H rs=some (.lst us)) (z2:eV H us gs) (z3:gs.length<=5000) (z4:(∀ g∈gs,g.length=n)) (z5:n<=1000) (z6:H o=some (.tup (x.map V.int))) (z7:x.length=n) (z8:H t=some (.tup (y.map V.int))) (z9:y.length=n) (z10:f∈gs) (z11:LeG x f) (z12:LeG y f) (z13:(∀ g∈gs,LeG x g->LeG y g->LeG f g)) (z14:l∈gs) (z15:LeG l x) (z16:LeG l y) (z17:(∀ g∈gs,LeG g x->LeG g y->LeG g l)) (z18:∀ (r a1 a2:Addr) (H':Hp),aU H H'->H' r=some (.lst [.ref a1,.ref a2])->H' a1=some (.tup (f.map V.int))->H' a2=some (.tup (l.map V.int))->Q (.ref r) H'):o9 K vs H Q
noncomputable def oE (K:W.Frag):Sp:=fun vs H Q _=>o9 K vs H Q
theorem oR (F:Fun K "_law_between" "_law_between" cP f fd) (B:Bt mg)
  (D_law_above:Df P w K mg base "_law_above" 1 ["_law_one","_law_other"] (rG K)):cu P w K mg base CX0 2 f fd ["_law_rows","_law_one","_law_other"] (oE K):=by
 refine F.ok cY (fun vs H Q E h=>?_) (fun cdv A outer s H vs Q E hr h=>?_)
 ·obtain⟨rs,o,t,n,us,gs,x,y,f,l,rfl,_⟩:=h
  rfl
 ·obtain⟨rs,o,t,n,us,gs,x,y,f,l,rfl,hrs,gr,lg,hlen,n1,ho,lx,ht,ly,fin,fx,fy,fl,lin,lx',ly',ll,q⟩:=h
  refine⟨_,(aA (bu (i:=3) cY.nd rfl (Or.inr rfl) (bD (L:=["_law_row"]) (F:=["_law_one","_law_other"]) (cap:=[1,2]) rfl (bh rfl rfl (by kernel_rfl)) (eN (pv 0)) (fun _ _ _ _ _=>(aH (i:=0) (bc (by decide+kernel)) rfl (Or.inl rfl))) (fun _ _ _ _ _=>(kj (PW.pt (pQ (dG (aY D_law_above hr (aa (pv 0) (aa (pv 1) aj)))) (kO (dG (aY D_law_above hr (aa (pv 0) (aa (pv 2) aj))))))))) (fun _ _ _ _ _=>(pv 0))))
 (aA (bu (i:=4) cY.nd rfl (Or.inr rfl) (bD (L:=["_law_row"]) (F:=["_law_one","_law_other"]) (cap:=[1,2]) rfl (bh rfl rfl (by kernel_rfl)) (eN (pv 0)) (fun _ _ _ _ _=>(aH (i:=0) (bc (by decide+kernel)) rfl (Or.inl rfl))) (fun _ _ _ _ _=>(kj (PW.pt (pQ (dG (aY D_law_above hr (aa (pv 1) (aa (pv 0) aj)))) (kO (dG (aY D_law_above hr (aa (pv 2) (aa (pv 0) aj))))))))) (fun _ _ _ _ _=>(pv 0))))
 (aA (xY (x0:="_law_row") (L:=["_law_row"]) (F:=["_law_over"]) (cap:=[3]) (j:=5) cY.nd rfl (Or.inl rfl) rfl (yI rfl rfl (by kernel_rfl) (fun _ _=>rfl) (fun _=>rfl)) (eN (pv 3)) (fun _ _ _ _ _=>(aH (i:=0) (xG (by decide+kernel)) rfl (Or.inr rfl))) (fun _ _ _ _ _=>(kj (dG (aM (r:=zc K) (iU rfl) rfl B.all_ uJ (aa (bD (L:=["_law_more"]) (F:=["_law_row"]) (cap:=[0]) rfl (bh rfl rfl (by kernel_rfl)) (lY K rfl (pv 1)) (fun _ _ _ _ _=>(aH (i:=0) (bc (by decide+kernel)) rfl (Or.inl rfl))) (fun _ _ _ _ _=>bC) (fun _ _ _ _ _=>(aY D_law_above hr (aa (pv 0) (aa (pv 1) aj))))) aj))))) (fun _ _ _ _ _=>(pv 0)))
 (aA (xY (x0:="_law_row") (L:=["_law_row"]) (F:=["_law_under_here"]) (cap:=[4]) (j:=6) cY.nd rfl (Or.inl rfl) rfl (yI rfl rfl (by kernel_rfl) (fun _ _=>rfl) (fun _=>rfl)) (eN (pv 4)) (fun _ _ _ _ _=>(aH (i:=0) (xG (by decide+kernel)) rfl (Or.inr rfl))) (fun _ _ _ _ _=>(kj (dG (aM (r:=zc K) (iU rfl) rfl B.all_ uJ (aa (bD (L:=["_law_less"]) (F:=["_law_row"]) (cap:=[0]) rfl (bh rfl rfl (by kernel_rfl)) (lY K rfl (pv 1)) (fun _ _ _ _ _=>(aH (i:=0) (bc (by decide+kernel)) rfl (Or.inl rfl))) (fun _ _ _ _ _=>bC) (fun _ _ _ _ _=>(aY D_law_above hr (aa (pv 1) (aa (pv 0) aj))))) aj))))) (fun _ _ _ _ _=>(pv 0)))
 (aC (aJ (bQ (aa (aV (r:=eU K) aO (pv 5) au (fun _ _=>rfl)) (aa (aV (r:=eU K) aO (pv 6) au (fun _ _=>rfl)) aj))))))))),?_⟩
  refine⟨_,rfl,rs,rfl,⟨_,SqL.of hrs⟩,fun D1 hD1=>LQ (K:=K) (fun g=>abv g x && abv g y) hrs gr lg hD1 (fun r g Hx Q' hg sx er hQ=>?_) (fun y1 H1 s1 eD1 gy1=>?_)⟩
  ·have l1:=hlen g hg
   refine⟨_,rfl,_,rfl,r,o,g,x,rfl,SqT.of er,SqT.of (sx _ _ ho),by lia,by lia,fun Hy sy=>⟨_,rfl,?_⟩⟩
   cases e1:abv g x with
   | false =>
    have:=hQ Hy sy
    rw[e1] at this
    exact this
   | true =>
    refine⟨_,rfl,_,rfl,r,t,g,y,rfl,SqT.of (sy _ _ er),SqT.of (sy _ _ (sx _ _ ht)),by lia,by lia,fun Hz sz=>⟨_,rfl,?_⟩⟩
    have:=hQ Hz (sy.trans sz)
    rw[e1,Bool.true_and] at this
    exact this
  refine⟨_,rfl,rs,rfl,⟨_,SqL.of (s1 _ _ hrs)⟩,fun D2 hD2=>LQ (K:=K) (fun g=>abv x g && abv y g) (s1 _ _ hrs) (gr.mono s1) lg hD2 (fun r g Hx Q' hg sx er hQ=>?_) (fun y2 H2 s2 eD2 gy2=>?_)⟩
  ·have l1:=hlen g hg
   refine⟨_,rfl,_,rfl,o,r,x,g,rfl,SqT.of (sx _ _ (s1 _ _ ho)),SqT.of er,by lia,by lia,fun Hy sy=>⟨_,rfl,?_⟩⟩
   cases e1:abv x g with
   | false =>
    have:=hQ Hy sy
    rw[e1] at this
    exact this
   | true =>
    refine⟨_,rfl,_,rfl,t,r,y,g,rfl,SqT.of (sy _ _ (sx _ _ (s1 _ _ ht))),SqT.of (sy _ _ er),by lia,by lia,fun Hz sz=>⟨_,rfl,?_⟩⟩
    have:=hQ Hz (sy.trans sz)
    rw[e1,Bool.true_and] at this
    exact this
  have lf1:(gs.filter fun g=>abv g x && abv g y).length<=5000:=Nat.le_trans (List.length_filter_le _ _) lg
  have lf2:(gs.filter fun g=>abv x g && abv y g).length<=5000:=Nat.le_trans (List.length_filter_le _ _) lg
  have m1:∀ g∈gs.filter (fun g=>abv g x && abv g y),g.length=n:=fun g hg=>hlen g (List.mem_filter.mp hg).1
  have m2:∀ g∈gs.filter (fun g=>abv x g && abv y g),g.length=n:=fun g hg=>hlen g (List.mem_filter.mp hg).1
  have lfn:=hlen f fin
  have lln:=hlen l lin
  obtain⟨r1,E1⟩:∃ r,(gs.filter fun g=>abv g x && abv g y).filter (fun g=>((gs.filter fun g=>abv g x && abv g y).map fun m=>abv m g).all fun b=>b)=f::r:=by
   refine yd hlen fin ?_ ?_ fun g hg h1 h2=>?_
   ·rw[(bK (by lia)).mpr fx,(bK (by lia)).mpr fy]
    rfl
   ·rw[List.all_map,List.all_eq_true]
    intro g hg
    obtain⟨h1,h2⟩:=List.mem_filter.mp hg
    have lgn:=hlen g h1
    rw[Bool.and_eq_true,bK (by lia),bK (by lia)] at h2
    exact (bK (by lia)).mpr (fl g h1 h2.1 h2.2)
   ·have lgn:=hlen g hg
    rw[Bool.and_eq_true,bK (by lia),bK (by lia)] at h1
    rw[List.all_map,List.all_eq_true] at h2
    have h3:=h2 f (List.mem_filter.mpr ⟨fin,by rw[(bK (by lia)).mpr fx,(bK (by lia)).mpr fy]; rfl⟩)
    exact dq (by lia) ((bK (by lia)).mp h3) (fl g hg h1.1 h1.2)
  obtain⟨r2,E2⟩:∃ r,(gs.filter fun g=>abv x g && abv y g).filter (fun g=>((gs.filter fun g=>abv x g && abv y g).map fun m=>abv g m).all fun b=>b)=l::r:=by
   refine yd hlen lin ?_ ?_ fun g hg h1 h2=>?_
   ·rw[(bK (by lia)).mpr lx',(bK (by lia)).mpr ly']
    rfl
   ·rw[List.all_map,List.all_eq_true]
    intro g hg
    obtain⟨h1,h2⟩:=List.mem_filter.mp hg
    have lgn:=hlen g h1
    rw[Bool.and_eq_true,bK (by lia),bK (by lia)] at h2
    exact (bK (by lia)).mpr (ll g h1 h2.1 h2.2)
   ·have lgn:=hlen g hg
    rw[Bool.and_eq_true,bK (by lia),bK (by lia)] at h1
    rw[List.all_map,List.all_eq_true] at h2
    have h3:=h2 l (List.mem_filter.mpr ⟨lin,by rw[(bK (by lia)).mpr lx',(bK (by lia)).mpr ly']; rfl⟩)
    exact dq (by lia) (ll g hg h1.1 h1.2) ((bK (by lia)).mp h3)
  generalize (gs.filter fun g=>abv g x && abv g y)=ov at *
  generalize (gs.filter fun g=>abv x g && abv y g)=un at *
  have eD1':=s2 _ _ eD1
  have gy1':=gy1.mono s2
  refine⟨_,rfl,D1,rfl,⟨_,SqL.of eD1'⟩,fun D3 hD3=>LQ (K:=K) (fun g=>(ov.map fun m=>abv m g).all fun b=>b) eD1' gy1' lf1 hD3 (fun r g Hx Q' hg sx er hQ=>?_) (fun y3 H3 s3 eD3 gy3=>?_)⟩
  ·refine⟨_,rfl,D1,rfl,⟨_,SqL.of (sx _ _ eD1')⟩,fun D4 hD4=>OD (K:=K) (fun m=>abv m g) (sx _ _ eD1') (gy1'.mono sx) lf1 hD4 (fun r2 g2 Hy Q2 hg2 sy er2 hQ2=>?_) (fun Hy sy eD4=>?_)⟩
   ·have:=m1 g hg
    have:=m1 g2 hg2
    exact⟨_,rfl,_,rfl,r2,r,g2,g,rfl,SqT.of er2,SqT.of (sy _ _ er),by lia,by lia,fun Hz sz=>hQ2 Hz sz⟩
   ·exact⟨D4,_,rfl,SqL.of eD4,_,rfl,hQ Hy sy⟩
  have eD2':=s3 _ _ eD2
  have gy2':=gy2.mono s3
  refine⟨_,rfl,D2,rfl,⟨_,SqL.of eD2'⟩,fun D5 hD5=>LQ (K:=K) (fun g=>(un.map fun m=>abv g m).all fun b=>b) eD2' gy2' lf2 hD5 (fun r g Hx Q' hg sx er hQ=>?_) (fun y4 H4 s4 eD4 gy4=>?_)⟩
  ·refine⟨_,rfl,D2,rfl,⟨_,SqL.of (sx _ _ eD2')⟩,fun D4 hD4=>OD (K:=K) (fun m=>abv g m) (sx _ _ eD2') (gy2'.mono sx) lf2 hD4 (fun r2 g2 Hy Q2 hg2 sy er2 hQ2=>?_) (fun Hy sy eD4=>?_)⟩
   ·have:=m2 g hg
    have:=m2 g2 hg2
    exact⟨_,rfl,_,rfl,r,r2,g,g2,rfl,SqT.of (sy _ _ er),SqT.of er2,by lia,by lia,fun Hz sz=>hQ2 Hz sz⟩
   ·exact⟨D4,_,rfl,SqL.of eD4,_,rfl,hQ Hy sy⟩
  rw[E1] at gy3
  rw[E2] at gy4
  obtain⟨a1,i1,e1⟩:=gy3.get (i:=0) rfl
  obtain⟨a2,i2,e2⟩:=gy4.get (i:=0) rfl
  have eD3':=s4 _ _ eD3
  refine⟨_,rfl,D3,y3,_,_,rfl,rfl,SqL.of eD3',aD (k:=0) i1,_,rfl,D5,y4,_,_,rfl,rfl,SqL.of eD4,aD (k:=0) i2,small (by show 2<=1000; decide),fun rr hrr=>?_⟩
  generalize eH5:upd H4 rr _=H5
  obtain⟨g5,e5⟩:=aG eH5 hrr
  exact q rr a1 a2 H5 (s1.trans (s2.trans (s3.trans (s4.trans g5)))) e5 (g5 _ _ (s4 _ _ e1)) (g5 _ _ e2)
noncomputable def Copied (H:Hp) (zs us:List V) (Hc:Hp):Prop:=∀ (j:Nat) (u:V),zs[j]? = some u->∃ (c cc:Addr) (as:List Addr),u = .ref c/\H c=some (.lst (as.map V.ref))/\us[j]? = some (.ref cc)/\Hc cc=some (.lst (as.map V.ref))
theorem Copied.step {H2 Hc:Hp} {zs us:List V} {D l cc:Addr} {as:List Addr} {i:Nat} (cp:Copied H2 zs us Hc) (lz:zs.length=i) (hx:us[i]? = some (.ref cc)) (hcc:Hc cc=some (.lst (as.map V.ref))) (hne:∀ u∈zs,u≠.ref D) (hl:H2 l=none) (hlD:l≠D) :
  Copied (upd (upd H2 l (.lst (as.map V.ref))) D (.lst (zs++[.ref l]))) (zs++[.ref l]) us Hc:=fun j u hj=>by
 by_cases hjz:j < zs.length
 ·rw[List.getElem?_append_left hjz] at hj
  obtain⟨c0,cc0,as0,rfl,h2,h3,h4⟩:=cp j u hj
  have hc0:c0≠D:=fun z=>hne _ (List.mem_of_getElem? hj) (by rw[z])
  exact⟨c0,cc0,as0,rfl,by rw[aR hc0]; exact aB hl _ _ _ h2,h3,h4⟩
 ·have hj':=(List.getElem?_eq_some_iff.mp hj).1
  rw[List.length_append] at hj'
  have hj2:j < zs.length+1:=hj'
  have ej:j=zs.length:=by lia
  subst ej
  rw[List.getElem?_append_right (Nat.le_refl _),Nat.sub_self] at hj
  cases (show some (V.ref l)=some u from hj)
  rw[lz]
  exact⟨l,cc,as,rfl,by rw[aR hlD]; exact ao,hx,hcc⟩
theorem stT {H H1:Hp} {a:Addr} {xs:List V} (s:gn H H1) (h:H a=some (.tup xs)):H1 a=some (.tup xs):=s a (.tup xs) (fun _ z=>nomatch z) h
theorem stL {H H1:Hp} {a:Addr} {xs:List V} (s:gn H H1) (h:H a=some (.lst xs)):H1 a=some (.lst xs):=s a (.lst xs) (fun _ z=>nomatch z) h
theorem dF.yL {n:Nat} {H H':Hp} (e:gn H H'):∀ {us:List V} {bs:List (List Pl)},dF n H us bs->dF n H' us bs
 | _,_,.nil=>.nil
 | _,_,.cons h l p r=>.cons (stL e h) l (p.bR fun a xs q=>stT e q) (dF.yL e r)
theorem pK.yL {n:Nat} {H H':Hp} {b:Addr} {bk:List (List Pl)} (e:gn H H') (h:pK n H b bk):pK n H' b bk:=by
 obtain⟨us,h1,h2,h3⟩:=h
 exact⟨us,stL e h1,h2.yL e,h3⟩
noncomputable abbrev cQ:Stmt:=top 52
theorem jB:aL ["_law_asked","e"] ["_law_asked"] (aq cQ):=⟨rfl,rfl,rfl,by decide+kernel,rfl,by decide+kernel,by decide+kernel⟩
noncomputable def twWord (K:W.Frag) (G:Addr):Addr->(Hp->VK->XK->Prop)->VK->Hp->Prop:=fun _ sp Q H=>sp H (fun v H2=>[V.str "told",v].length<=sizeLine/\∀ a,H2 a=none->Q (.ref a) (upd H2 a (.tup [.str "told",v]))) (XW K G "word" Q)
theorem zZ {fW G:Addr} {k:Nat} (m_BoonError:mg "BoonError" = some (.ref G)) (f:Addr) (cdv:Value) (A:Around) (outer:List Env) (s:Shared) (H:Hp) (Q:VK) (j:Nat) (sp:Hp->VK->XK->Prop) (_:k=j+1)
  (hr:gB k (A.deeper (PyProof.Rows.envOfC "_law_word" (aq cQ) s.heap.objs.size fW cdv))) (L:Le (XL P w) P w K mg base k s H (frs outer) f sp) (h:twWord K G f sp Q H) :
  ∃ t,PSs (vz CX0 P w K mg base ["_law_asked","e"] "_law_word" (aq cQ) fW cdv A outer s H E0) (aF cQ) t/\t { nx:=fun _ H'=>Q .non H',rt:=Q } (start ["_law_asked","e"] [.ref f]) H:=by
 refine⟨_,aC (Lk 1 ⟨rfl,rfl⟩ rfl m_BoonError jB.nd rfl rfl fun pn E W hx=>aC (aJ (bI (aa bG (aa (Mx L rfl hr hx (pv 0)) aj))))),?_⟩
 exact⟨_,rfl,rfl,h⟩
theorem wB {H:Hp} {us:List V} {gs:List (List Int)} (gr:eV H us gs) (h0:gs≠[]) (v:Int):∃ (a:Addr) (g:List Int),atI us (v % (us.length:Int))=some (.ref a)/\H a=some (.tup (g.map V.int))/\g∈gs:=by
 have hl:=gr.length
 have hp:0 < us.length:=by
  rw[hl]
  exact List.length_pos_iff.mpr h0
 have b0:=Int.emod_nonneg v (b:=(us.length:Int)) (by lia)
 have b1:=Int.emod_lt_of_pos v (b:=(us.length:Int)) (by lia)
 obtain⟨j,hj⟩:∃ j:Nat,v % (us.length:Int)=(j:Int):=⟨(v % (us.length:Int)).toNat,by lia⟩
 have hj':j < gs.length:=by lia
 obtain⟨a,h1,h2⟩:=gr.get (List.getElem?_eq_getElem hj')
 exact⟨a,gs[j],by rw[hj]; exact aD h1,h2,List.getElem_mem hj'⟩
theorem Jj (x y:List Int):jnF x y=jnF y x:=by
 unfold jnF
 rw[List.zipWith_comm]
 congr 1
 funext a b
 have:=ph a b
 have:=ph b a
 lia
theorem JT (x y:List Int):mtF x y=mtF y x:=by
 unfold mtF
 rw[List.zipWith_comm]
 congr 1
 funext a b
 have:=pO a b
 have:=pO b a
 lia
theorem Mt {gs:List (List Int)} {g:List Int} (h:(gs.map gD).any (fun e=>eqD e (gD g))=false):g ∉ gs:=fun hg=>by
 have:(gs.map gD).any (fun e=>eqD e (gD g))=true:=List.any_eq_true.mpr ⟨gD g,List.mem_map.mpr ⟨g,hg,rfl⟩,mJ _⟩
 rw[h] at this
 cases this
theorem Copied.twinS {H Hc Ht:Hp} {zs us:List V} {D b:Addr} (cp:Copied H zs us Hc) (lz:zs.length=us.length) (s1:gn H Ht) (s2:gn Hc Ht) (eD:Ht D=some (.lst zs)) (eb:Ht b=some (.lst us)):IW Ht D b :=
 ⟨zs,us,eD,eb,lz,fun i u v hu hv=>by
  obtain⟨c0,cc0,as0,rfl,h2,h3,h4⟩:=cp i u hu
  rw[h3] at hv
  cases hv
  exact⟨c0,cc0,as0,rfl,rfl,stL s1 h2,stL s2 h4⟩⟩
theorem rep2 {H:Hp} {r a1 a2:Addr} {f l:List Int} (hr:H r=some (.lst [.ref a1,.ref a2])) (h1:H a1=some (.tup (f.map V.int))) (h2:H a2=some (.tup (l.map V.int))) (l1:f.length<=1000) (l2:l.length<=1000):Rep H (.ref r) (.lst [.tup (f.map Dm.int),.tup (l.map Dm.int)]) :=
 .lst hr (by show 2<=100000; decide) (.cons (lX h1 l1) (.cons (lX h2 l2) .nil))
theorem Np (f l:List Int):(Dm.lst [.tup (f.map Dm.int),.tup (l.map Dm.int)]).dep=2:=by
 rw[Dm.dep,lE,lE,lE,vB,vB]
 decide
theorem Cu {H Hr H':Hp} {p:Addr} (s1:gn H Hr) (hr:Hr p=none) (s2:gn H H') (o:HO):gn H (upd H' p o):=fun b u nt e=>by
 have:b≠p:=fun z=>by
  rw[z] at e
  have:=s1 _ _ nt e
  rw[hr] at this
  cases this
 rw[aR this]
 exact s2 _ _ nt e
theorem JM {H:Hp} {P p:Addr} {q:Str} {xs ys:List V} (h:TabOk H P q) (e:H p=some (.lst xs)):TabOk (upd H p (.lst ys)) P q:=by
 obtain⟨ps,e1,t,f⟩:=h
 have n1:P≠p:=fun z=>by rw[z,e] at e1; cases e1
 refine⟨ps,by rw[aR n1]; exact e1,t,fun pos cv z=>?_⟩
 obtain⟨c,oc,u,vs,tk,z1,z2,z3⟩:=f pos cv z
 have n2:c≠p:=fun z=>by rw[z,e] at z2; cases z2
 exact⟨c,oc,u,vs,tk,z1,by rw[aR n2]; exact z2,z3⟩
theorem rR {fl x:List Int} {bk:List (List Pl)} {m:Nat} (e:cL x fl bk=x) (st:Stops (Fd fl bk) x m):itF (Fd fl bk) x m=x:=by
 have h0:Stops (Fd fl bk) x 0:=⟨e,fun j h=>absurd h (Nat.not_lt_zero _)⟩
 cases dN st h0
 rfl
noncomputable abbrev oX:Stmt:=top 57
theorem eH:aL ["_law_script","_law_start","_law_n","_law_most","_law_book_here","_law_floor","_law_whole","_law_copy","_law_rows","_law_picks_here","_law_at","_law_one","_law_other","_law_want","_law_odd","_law_found"] ["_law_script"] (aq oX):=⟨rfl,rfl,rfl,by decide+kernel,rfl,by decide+kernel,by decide+kernel⟩
noncomputable def KJ:Str:=("law" : Str)++".<locals>."++"<lambda>"
inductive Gz (K:W.Frag) (T:Addr) (vs:List V) (H:Hp) (Q:VK):Prop where
 | mk (a:Addr) (ns:List Int) (z0:vs=[.ref a]) (z1:SqL K H a (ns.map V.int)) (z2:ns.length<=63) (z3:TabOk H T KJ) (z4:∀ H',Q (.bl true) H'):Gz K T vs H Q
noncomputable def Gh (K:W.Frag) (T:Addr):Sp:=fun vs H Q _=>Gz K T vs H Q
theorem K8 {f c T fW G C:Addr} {fd fdW:FuncData} (F:Nk K "law" "law" oX f fd c) (B:Bt mg) (HP:yS mg c T base) (m_BoonError:mg "BoonError" = some (.ref G)) (R:XRd K C G "word")
  (F_law_word:Fun K "_law_word" "_law_word" cQ fW fdW) (m_law_word:mg "_law_word" = some (.ref fW)) (D_joined_even:Dx P w K mg base "joined_even" 13 ["book","floor","one","other"] (iV C jnF)) (D_met_even:Dx P w K mg base "met_even" 13 ["book","floor","one","other"] (iV C mtF))
  (D_law_cell:Df P w K mg base "_law_cell" 1 ["_law_script","_law_k"] (uA K)) (D_law_scene_at:Df P w K mg base "_law_scene_at" 9 ["_law_script","_law_start"] (mX K)) (D_law_box:Df P w K mg base "_law_box" 1 ["_law_tops"] (Km K)) (D_law_due:Df P w K mg base "_law_due" 7 ["_law_book_here","_law_floor","_law_giving_here"] (qO K))
  (D_law_picks:Df P w K mg base "_law_picks" 2 ["_law_cell_here","_law_many"] vI) (D_law_between:Df P w K mg base "_law_between" 2 ["_law_rows","_law_one","_law_other"] (oE K)) (D_law_told:Df P w K mg base "_law_told" 14 ["_law_book_here","_law_floor","_law_one","_law_other"] Bw)
  (D_least:Df P w K mg base "least" 13 ["book","floor"] (zG KH)) (D_greatest:Df P w K mg base "greatest" 13 ["book","floor"] (zG rfF)) (D_law_same:Df P w K mg base "_law_same" 4 ["_law_found","_law_due_here"] (jq 4)):cu P w K mg base CX0 17 f fd ["_law_script"] (Gh K T):=by
 refine F.ok eH (fun vs H Q E h=>?_) (fun A outer s H vs Q E hr h=>?_)
 ·obtain⟨a,ns,rfl,_⟩:=h
  rfl
 ·obtain⟨a,ns0,rfl,hS,lN,hT,q⟩:=h
  refine⟨_,(aA (bu (i:=0) eH.nd rfl (Or.inl rfl) (qY (r:=Oe K) Ac (pv 0) Af (rK au)))
 (aA (gG PassesOwn.never rfl (f9 (bI (aa au (aa au (aa au aj))))) (aH (i:=1) eH.nd rfl (Or.inl rfl)) (aA (HR (aY D_law_scene_at hr (aa (pv 0) (aa (pv 1) aj))) (fZ (K:=K) 4 rfl rfl (bA (aH (i:=2) eH.nd rfl (Or.inl rfl)) (bA (aH (i:=3) eH.nd rfl (Or.inl rfl)) (bA (aH (i:=4) eH.nd rfl (Or.inr rfl)) (bA (aH (i:=5) eH.nd rfl (Or.inr rfl)) gf))))))
 (aA (bu (i:=6) eH.nd rfl (Or.inl rfl) (aY D_law_box hr (aa (aQ (r:=BJ K) CJ (bI (aa (pv 3) aj)) (pv 2)) aj)))
 (aA (rQ (L:=["_law_some"]) (F:=[]) (cap:=[]) (j:=7) eH.nd rfl (Or.inl rfl) rfl (bh rfl rfl (by kernel_rfl)) (eN (pv 4)) (fun _ _ _ _ _=>(aH (i:=0) (bc (by decide+kernel)) rfl (Or.inl rfl))) (fun _ _ _ _ _=>bC) (fun _ _ _ _ _=>(bM (r:=Cp K) yZ rfl B.list_ wG (aa (pv 0) aj))))
 (aA (rQ (L:=["_law_one"]) (F:=["_law_book_here","_law_floor"]) (cap:=[4,5]) (j:=8) eH.nd rfl (Or.inl rfl) rfl (bh rfl rfl (by kernel_rfl)) (eN (pv 6)) (fun _ _ _ _ _=>(aH (i:=0) (bc (by decide+kernel)) rfl (Or.inl rfl))) (fun _ _ _ _ _=>(kj (aX (r:=Gs K) (vV hr.ql) (aY D_law_due hr (aa (pv 1) (aa (pv 2) (aa (pv 0) aj)))) (pv 0) (aZ _)))) (fun _ _ _ _ _=>(pv 0)))
 (aA (bu (i:=9) eH.nd rfl (Or.inl rfl) (aY D_law_picks hr (aa (aY D_law_cell hr (aa (pv 0) (aa (aQ bL au (aQ rF (pv 1) au)) aj))) (aa au aj))))
 (aA (gG PassesOwn.never rfl (Bp rfl B.range_ (aa au (aa au (aa au aj)))) (aH (i:=10) eH.nd rfl (Or.inl rfl)) (aA (bu (i:=11) eH.nd rfl (Or.inr rfl) (aV (r:=eU K) aO (pv 8) (aQ cN (aV (r:=eU K) aO (pv 9) (pv 10) (fun _ _=>rfl)) (aM (r:=yx K) cj rfl B.len_ ie (aa (pv 8) aj))) (fun _ _=>rfl)))
 (aA (bu (i:=12) eH.nd rfl (Or.inl rfl) (aV (r:=eU K) aO (pv 8) (aQ cN (aV (r:=eU K) aO (pv 9) (aQ bL (pv 10) au) (fun _ _=>rfl)) (aM (r:=yx K) cj rfl B.len_ ie (aa (pv 8) aj))) (fun _ _=>rfl)))
 (aA (bu (i:=13) eH.nd rfl (Or.inl rfl) (aY D_law_between hr (aa (pv 8) (aa (pv 11) (aa (pv 12) aj)))))
 (aA (bV (lG (dG (aY D_law_same hr (aa (bQ (aa (aY D_law_told hr (aa (pv 4) (aa (pv 5) (aa (pv 11) (aa (pv 12) aj))))) (aa (aY D_law_told hr (aa (pv 4) (aa (pv 5) (aa (pv 12) (aa (pv 11) aj))))) aj))) (aa (bQ (aa (pv 13) (aa (pv 13) aj))) aj))))) (aC (aJ j5)) aW)
 (aA (bV (lG (dG (aY D_law_same hr (aa (aY D_law_told hr (aa (pv 4) (aa (pv 5) (aa (pv 11) (aa (aY D_least hr (aa (pv 4) (aa (pv 5) aj))) aj))))) (aa (bQ (aa (pv 11) (aa (aY D_least hr (aa (pv 4) (aa (pv 5) aj))) aj))) aj))))) (aC (aJ j5)) aW)
 (aA (bV (lG (dG (aY D_law_same hr (aa (aY D_law_told hr (aa (pv 4) (aa (pv 5) (aa (pv 11) (aa (aY D_greatest hr (aa (pv 4) (aa (pv 5) aj))) aj))))) (aa (bQ (aa (aY D_greatest hr (aa (pv 4) (aa (pv 5) aj))) (aa (pv 11) aj))) aj))))) (aC (aJ j5)) aW)
 (aA (bu (i:=14) eH.nd rfl (Or.inr rfl) (aV (r:=eU K) aO (pv 6) (aQ cN (aV (r:=eU K) aO (pv 9) (pv 10) (fun _ _=>rfl)) (aM (r:=yx K) cj rfl B.len_ ie (aa (pv 6) aj))) (fun _ _=>rfl)))
 (aC (bV (aX (r:=Mr 2 true) (yP hr (by decide)) (pv 14) (pv 8) rfl) (aA (bu (i:=15) eH.nd rfl (Or.inl rfl) (bQ (aa (G8 (k:=15) (NL:=["_law_book_here","_law_floor","_law_odd","_law_one"]) (cap:=[4,5,14,11]) F_law_word jB hr rfl m_law_word (GF (bh rfl rfl (by kernel_rfl))) rfl HP.code HP.blt (fun f cd cl A outer s H E j hj hr=>(oW D_joined_even hr pP (aa (pv 0) (aa (pv 1) (aa (pv 2) (aa (pv 3) aj)))))) (zZ m_BoonError)) aj)))
 (aA (cW (uR PySem.F.plainAttrs_list PySem.F.slot_list_append PySem.F.type_list_append dB (pv 15) (aa (G8 (k:=15) (NL:=["_law_book_here","_law_floor","_law_one","_law_odd"]) (cap:=[4,5,11,14]) F_law_word jB hr rfl m_law_word (GF (bh rfl rfl (by kernel_rfl))) rfl HP.code HP.blt (fun f cd cl A outer s H E j hj hr=>(oW D_met_even hr pP (aa (pv 0) (aa (pv 1) (aa (pv 2) (aa (pv 3) aj)))))) (zZ m_BoonError)) aj)))
 (aC (bV (lG (dG (aY D_law_same hr (aa (pv 15) (aa (bQ (aa (bI (aa bG aj)) (aa (bI (aa bG aj)) aj))) aj))))) (aC (aJ j5)) aW)))) aW))))))))))
 (aC (bV (aX (r:=Nb) (Ks hr) (pv 7) (pv 4) (aZ _)) (aC (aJ j5)) aW)))))))))
 (aC (aJ j5)))),?_⟩
  refine⟨_,rfl,_,rfl,a,_,rfl,hS,fun p1 h1=>?_⟩
  obtain⟨ss,es,ls⟩:=yg ns0 none (some 63)
  rw[es]
  generalize eH1:upd H p1 _=H1
  obtain⟨g1,e1⟩:=aG eH1 h1
  refine⟨small (by show 3<=1000; decide),fun p2 h2=>?_⟩
  generalize eH2:upd H1 p2 _=H2
  obtain⟨g2,e2⟩:=aG eH2 h2
  have e1':=g2 _ _ e1
  refine⟨p2,rfl,⟨_,SqT.of e2⟩,oA (K:=K) (a:=p2) (xs:=[.int 0,.int 9,.int 18]) (fun i σ H3=>(∃ u1 u2 u3 u4 u5 u6 u7 u8 u9 u10 u11 u12 u13 u14 u15:Option V,σ=[some (.ref p1),u1,u2,u3,u4,u5,u6,u7,u8,u9,u10,u11,u12,u13,u14,u15])/\gn H2 H3/\TabOk H3 T KJ) ⟨⟨_,_,_,_,_,_,_,_,_,_,_,_,_,_,_,rfl⟩,gn.refl _,hT.same (g1.trans g2)⟩
   (fun i σ H3 _ h=>SqT.of (stT h.2.1 e2)) ?_ ?_⟩
  ·rintro i x σ H3 hx ⟨⟨u1,u2,u3,u4,u5,u6,u7,u8,u9,u10,u11,u12,u13,u14,u15,rfl⟩,s3,tb3⟩
   obtain⟨ji,rfl,hji⟩:∃ j:Nat,x = .int (9 * (j:Int))/\j<=2:=by
    match i,hx with
    | 0,hx=>exact⟨0,by cases hx; rfl,by decide⟩
    | 1,hx=>exact⟨1,by cases hx; rfl,by decide⟩
    | 2,hx=>exact⟨2,by cases hx; rfl,by decide⟩
    | i+3,hx=>simp at hx
   have e13:=stL s3 e1'
   refine⟨_,rfl,_,rfl,p1,ss,_,rfl,SqL.of e13,by lia,fun r n mo b f bk fl H4 s4 er m1 m9 hpow hmo scn om=>?_⟩
   refine⟨r,_,rfl,SqT.of er,rfl,_,_,rfl,_,_,rfl,_,_,rfl,_,_,rfl,rfl,?_⟩
   obtain⟨n1,n12,hB,lb,hf,lf,hfl⟩:=id scn
   have of:okG n fl:=⟨lf,hfl⟩
   have okb:=hB.okB
   have hlb:fl.length=bk.length:=by lia
   have f0:∀ x∈fl,0<=x:=fun x hx=>(hfl x hx).1
   have en0:=Nz lb okb of
   rw[Oq lb okb of om hmo] at en0
   have bne:lO (List.replicate n mo)≠[]:=fun z=>en0 (by unfold evF; rw[z]; rfl)
   have evm:=fun {g:List Int} (e:cL g fl bk=g)=>Mp lb okb of om hmo e
   have mev:=fun {g:List Int} (h:g∈evF fl bk (List.replicate n mo))=>M7 lb okb of h
   refine NP (z:=(n:Int)) (n:=n) rfl n1 (by lia) rfl rfl fun rt H5 s5 ert=>?_
   have ert':SqT K H5 rt ((List.replicate n mo).map vN):=by
    refine SqT.of (ert.trans ?_)
    rw[List.map_replicate,List.map_replicate]
    rfl
   refine⟨rt,List.replicate n mo,rfl,ert',by rw[List.length_replicate]; lia,fun x hx=>by rw[(List.mem_replicate.mp hx).2]; lia,yD hpow,fun wh uw H6 s6 _ ewh gwh=>?_⟩
   have lb5:(lO (List.replicate n mo)).length<=5000:=by
    have:=yD hpow n
    rw[List.take_replicate,Nat.min_self] at this
    exact this
   have s46:aU H4 H6:=s5.trans s6
   obtain⟨us,hb,rb,l12⟩:=hB.mono s46
   have lu:=rb.length
   refine⟨_,rfl,b,rfl,⟨_,SqL.of hb⟩,fun D hD=>eG (K:=K) (a:=b) (xs:=us) (fun i zs σ' Hy=>(∃ u,σ'=[u])/\aU H6 Hy/\Hy D=some (.lst zs)/\zs.length=i/\(∀ u∈zs,u≠.ref D)/\Copied Hy zs us H6)
    ⟨⟨_,rfl⟩,aB hD _,ao,rfl,by simp,fun j u z=>by simp at z⟩ (fun i zs σ' Hy _ h=>⟨SqL.of (h.2.1 _ _ hb),h.2.2.1⟩) ?_ ?_⟩
   ·rintro i zs x σ' Hy hx ⟨⟨u,rfl⟩,sm,eD,lz,hne,cp⟩
    obtain⟨cc,as,ps,rfl,_,hcc,l100,_⟩:=rb.get hx
    have hi:=(List.getElem?_eq_some_iff.mp hx).1
    refine gT ?_
    refine⟨_,rfl,cc,_,rfl,.inl (SqL.of (sm _ _ hcc)),fun l hl=>?_⟩
    have sn:=aB hl (.lst (as.map V.ref))
    have hlD:l≠D:=fun z=>by rw[z,eD] at hl; cases hl
    refine⟨sn _ _ eD,aN (by lia),⟨_,rfl⟩,aP (sm.trans sn) hD _,ao,by rw[List.length_append,lz]; rfl,fun u hu=>?_,cp.step lz hx hcc hne hl hlD⟩
    rcases List.mem_append.mp hu with h | h
    ·exact hne u h
    ·rw[List.mem_singleton.mp h]
     exact fun z=>hlD (by cases z; rfl)
   ·rintro zs σ' H7 ⟨_,s7,eD,lz,hne,cp⟩
    have s47:=s46.trans s7
    refine⟨_,rfl,wh,rfl,⟨_,SqL.of (s7 _ _ ewh)⟩,fun D2 hD2=>LQ (K:=K) (fun g=>decide (cL g fl bk=g)) (s7 _ _ ewh) (gwh.mono s7) lb5 hD2 (fun r g Hx Q' hg sx er hQ=>?_) (fun ys H8 s8 eD2 gy=>?_)⟩
    ·have lg:g.length=n:=(eF hg).trans List.length_replicate
     have s5':=s47.trans sx
     exact⟨_,rfl,_,rfl,_,rfl,b,f,r,n,bk,fl,g,rfl,hB.mono s5',SqT.of (s5' _ _ hf),SqT.of er,hlb,by lia,f0,fun rw' Hj sj ew=>⟨_,rfl,rw',r,_,_,rfl,rfl,SqT.of ew,SqT.of (sj _ _ er),_,rfl,hQ Hj sj⟩⟩
    have s48:=s47.trans s8
    have s38:=s4.trans s48
    have lev:(evF fl bk (List.replicate n mo)).length<=5000:=Nat.le_trans (List.length_filter_le _ _) lb5
    have gy:eV H8 ys (evF fl bk (List.replicate n mo)):=gy
    generalize evF fl bk (List.replicate n mo)=ev at *
    refine⟨_,rfl,_,rfl,_,_,rfl,rfl,⟨by decide,by decide⟩,_,_,rfl,rfl,p1,ss,27+ji,?_,SqL.of (s38 _ _ e13),_,20,rfl,by decide,fun rp ns H9 s9 _ lns n0 erp=>?_⟩
    ·show[V.ref p1,V.int (27+9 * (ji:Int) / 9)]=_
     rw[show 27+9 * (ji:Int) / 9=((27+ji:Nat):Int) by lia]
    have s49:=s48.trans s9
    have hB9:=hB.mono s49
    have hf9:=s49 _ _ hf
    have ewh9:=(s7.trans (s8.trans s9)) _ _ ewh
    have gwh9:=gwh.mono (s7.trans (s8.trans s9))
    have erw9:=s9 _ _ eD2
    have grw9:=gy.mono s9
    have tb9:TabOk H9 T KJ:=tb3.same (s4.trans s49)
    refine⟨0,20,2,10,rfl,by decide,by decide+kernel,by decide+kernel,by decide+kernel,yU (lo:=0) (st:=2) (n:=10) (fun i σ Hx=>(∃ v10 v11 v12 v13 v14 v15:Option V,σ=[some (.ref p1),some (.int (9 * (ji:Int))),some (.int (n:Int)),some (.int (mo:Int)),some (.ref b),some (.ref f),some (.ref wh),some (.ref D),some (.ref D2),some (.ref rp),v10,v11,v12,v13,v14,v15])/\gn H9 Hx/\TabOk Hx T KJ) ⟨⟨_,_,_,_,_,_,rfl⟩,gn.refl _,tb9⟩ ?_ ?_⟩
    ·rintro i σ Hx hi ⟨⟨v10,v11,v12,v13,v14,v15,rfl⟩,sx,tbx⟩
     have hBx:=hB9.yL sx
     have hfx:=stT sx hf9
     have ewx:=stL sx ewh9
     have gwx:=gwh9.bR fun a xs q=>stT sx q
     have erx:=stL sx erw9
     have grx:=grw9.bR fun a xs q=>stT sx q
     have epx:=stL sx erp
     have lys:=grx.length
     have lus:=gwx.length
     have ev0:0 < ev.length:=List.length_pos_iff.mpr en0
     have bx0:0 < (lO (List.replicate n mo)).length:=List.length_pos_iff.mpr bne
     have at1:atI (ns.map V.int) (0+(i:Int) * 2)=some (.int ns[2 * i]):=by
      rw[show 0+(i:Int) * 2=((2 * i:Nat):Int) by lia]
      exact nM (by lia)
     have at2:atI (ns.map V.int) (0+(i:Int) * 2+1)=some (.int ns[2 * i+1]):=by
      rw[show 0+(i:Int) * 2+1=((2 * i+1:Nat):Int) by lia]
      exact nM (by lia)
     obtain⟨oa,x,ix,exx,mx⟩:=wB grx en0 ns[2 * i]
     obtain⟨ta,y,iy,eyy,my⟩:=wB grx en0 ns[2 * i+1]
     obtain⟨wa,z,iz,ezz,mz⟩:=wB gwx bne ns[2 * i]
     obtain⟨ex,ox⟩:=mev mx
     obtain⟨ey,oy⟩:=mev my
     have oz:=Ke m9 mz
     have hxy:x.length=y.length:=by rw[ox.1,oy.1]
     refine⟨_,rfl,_,rfl,_,rfl,rp,_,_,_,rfl,rfl,SqL.of epx,at1,_,rfl,D2,_,rfl,.inl (SqL.of erx),_,_,rfl,rfl,by lia,D2,ys,_,_,rfl,rfl,SqL.of erx,ix,?_⟩
     refine⟨_,rfl,_,rfl,_,rfl,_,_,rfl,rfl,rp,_,_,_,rfl,rfl,SqL.of epx,at2,_,rfl,D2,_,rfl,.inl (SqL.of erx),_,_,rfl,rfl,by lia,D2,ys,_,_,rfl,rfl,SqL.of erx,iy,?_⟩
     obtain⟨mj,_,stj⟩:=qW lb okb of (vm ox oy) (wD lb okb of ox oy ex ey)
     obtain⟨mm,_,stm⟩:=jX lb okb of (uv ox oy) (mV lb okb of ox oy ex ey)
     have ojf:=eX lb okb of (vm ox oy) mj
     have omf:=eX lb okb of (uv ox oy) mm
     have ejf:cL (itF (Fd fl bk) (jnF x y) mj) fl bk=itF (Fd fl bk) (jnF x y) mj:=stj.1
     have emf:cL (itF (Fd fl bk) (mtF x y) mm) fl bk=itF (Fd fl bk) (mtF x y) mm:=stm.1
     have upj:=(wW lb okb of (wD lb okb of ox oy ex ey) mj).1
     have dnm:=(wQ lb okb of (mV lb okb of ox oy ex ey) mm).1
     have blj:∀ g∈ev,LeG x g->LeG y g->LeG (itF (Fd fl bk) (jnF x y) mj) g:=fun g hg h1 h2=>yt lb okb of (FQ hxy h1 h2) (mev hg).1 mj
     have abm:∀ g∈ev,LeG g x->LeG g y->LeG g (itF (Fd fl bk) (mtF x y) mm):=fun g hg h1 h2=>xQ lb okb of (Ej hxy h1 h2) (mev hg).1 mm
     generalize efF:itF (Fd fl bk) (jnF x y) mj=fF at *
     generalize elL:itF (Fd fl bk) (mtF x y) mm=lL at *
     have lenev:∀ g∈ev,g.length=n:=fun g hg=>(mev hg).2.1
     refine⟨_,rfl,_,rfl,_,rfl,D2,oa,ta,n,ys,ev,x,y,fF,lL,rfl,erx,grx,lev,lenev,by lia,exx,ox.1,eyy,oy.1,evm ejf,(Od hxy).trans upj,(Oh hxy).trans upj,blj,evm emf,dnm.trans (Nq hxy),dnm.trans (Oj hxy),abm,fun wr w1 w2 Ha sa ewr ew1 ew2=>?_⟩
     have lfF:fF.length<=1000:=by rw[ojf.1]; lia
     have llL:lL.length<=1000:=by rw[omf.1]; lia
     have lx:x.length<=1000:=by rw[ox.1]; lia
     refine⟨_,rfl,_,rfl,_,rfl,_,rfl,b,f,oa,ta,n,bk,fl,x,y,rfl,hBx.mono sa,lb,sa _ _ hfx,of,sa _ _ exx,ox,sa _ _ eyy,oy,ex,ey,fun k1 k2 a1 a2 r1 Hb st1 st2 sb ea1 ea2 er1=>?_⟩
     cases dN stj st1
     cases dN stm st2
     rw[efF] at ea1
     rw[elL] at ea2
     have sab:=sa.trans sb
     refine⟨_,rfl,_,rfl,_,rfl,_,rfl,b,f,ta,oa,n,bk,fl,y,x,rfl,hBx.mono sab,lb,sab _ _ hfx,of,sab _ _ eyy,oy,sab _ _ exx,ox,ey,ex,fun k1 k2 a3 a4 r2 Hc st1 st2 sc ea3 ea4 er2=>?_⟩
     rw[Jj y x] at st1 ea3
     rw[JT y x] at st2 ea4
     cases dN stj st1
     cases dN stm st2
     rw[efF] at ea3
     rw[elL] at ea4
     have sac:=sab.trans sc
     refine⟨small (by show 2<=1000; decide),fun q1 w3=>?_⟩
     generalize eHd:upd Hc q1 _=Hd
     obtain⟨gd,ed⟩:=aG eHd w3
     refine⟨_,rfl,_,rfl,small (by show 2<=1000; decide),fun q2 w4=>?_⟩
     generalize eHe:upd Hd q2 _=He
     obtain⟨ge,ee⟩:=aG eHe w4
     have sce:aU Hc He:=gd.trans ge
     have sbe:aU Hb He:=sc.trans sce
     have sae:aU Ha He:=sb.trans sbe
     have sxe:aU Hx He:=sa.trans sae
     have rpw:Rep He (.ref wr) (.lst [.tup (fF.map Dm.int),.tup (lL.map Dm.int)]):=rep2 (sae _ _ ewr) (sae _ _ ew1) (sae _ _ ew2) lfF llL
     refine⟨.ref q1,.ref q2,.lst [.lst [.tup (fF.map Dm.int),.tup (lL.map Dm.int)],.lst [.tup (fF.map Dm.int),.tup (lL.map Dm.int)]],rfl,.lst (ge _ _ ed) (by show 2<=100000; decide) (.cons (rep2 (sbe _ _ er1) (sbe _ _ ea1) (sbe _ _ ea2) lfF llL) (.cons (rep2 (sce _ _ er2) (sce _ _ ea3) (sce _ _ ea4) lfF llL) .nil)),
      .lst ee (by show 2<=100000; decide) (.cons rpw (.cons rpw .nil)),?_,fun Hf sf=>⟨_,rfl,jx ?_⟩⟩
     ·rw[Dm.dep,lE,lE,lE,Np]
      decide
     have sxf:=sxe.trans sf
     refine⟨_,rfl,_,rfl,_,rfl,_,rfl,_,rfl,b,f,n,bk,fl,rfl,hBx.mono sxf,lb,sxf _ _ hfx,of,fun ml al Hg _ stl sg eal=>?_⟩
     have sxg:=sxf.trans sg
     have olow:=eX lb okb of of ml
     have elow:cL (itF (Fd fl bk) fl ml) fl bk=itF (Fd fl bk) fl ml:=stl.1
     have lle:LeG (itF (Fd fl bk) fl ml) x:=ur lb okb of (by rw[ex]; exact gM x) ml
     generalize elw:itF (Fd fl bk) fl ml=low at *
     have hxl:x.length=low.length:=by rw[ox.1,olow.1]
     have jl:jnF x low=x:=dq (by rw[(vm ox olow).1,ox.1]) (FQ hxl (gM x) lle) (Od hxl)
     have tl:mtF x low=low:=dq (by rw[(uv ox olow).1,olow.1]) (Oj hxl) (Ej hxl lle (gM low))
     refine⟨b,f,oa,al,n,bk,fl,x,low,rfl,hBx.mono sxg,lb,sxg _ _ hfx,of,sxg _ _ exx,ox,eal,olow,ex,elow,fun k1 k2 a5 a6 r3 Hh st1 st2 sh ea5 ea6 er3=>?_⟩
     rw[jl] at st1 ea5
     rw[tl] at st2 ea6
     rw[rR ex st1] at ea5
     rw[rR elow st2] at ea6
     have sxh:=sxg.trans sh
     refine⟨_,rfl,_,rfl,_,rfl,b,f,n,bk,fl,rfl,hBx.mono sxh,lb,sxh _ _ hfx,of,fun ml2 al2 Hi _ stl2 si eal2=>?_⟩
     cases dN stl stl2
     rw[elw] at eal2
     refine⟨small (by show 2<=1000; decide),fun q3 w5=>?_⟩
     generalize eHj:upd Hi q3 _=Hj
     obtain⟨gj,ej⟩:=aG eHj w5
     have shj:aU Hh Hj:=si.trans gj
     have llow:low.length<=1000:=by rw[olow.1]; lia
     refine⟨.ref r3,.ref q3,.lst [.tup (x.map Dm.int),.tup (low.map Dm.int)],rfl,rep2 (shj _ _ er3) (shj _ _ ea5) (shj _ _ ea6) lx llow,rep2 ej ((sxh.trans shj) _ _ exx) (gj _ _ eal2) lx llow,by rw[Np]; decide,fun Hk sk=>⟨_,rfl,jx ?_⟩⟩
     have sxk:=sxh.trans (shj.trans sk)
     refine⟨_,rfl,_,rfl,_,rfl,_,rfl,_,rfl,b,f,n,bk,fl,rfl,hBx.mono sxk,lb,sxk _ _ hfx,of,fun mh ah Hl _ sth sl eah=>?_⟩
     have sxl:=sxk.trans sl
     have ohigh:=eX lb okb of (iK lb okb of) mh
     have ehigh:cL (itF (Fd fl bk) (rfF fl bk) mh) fl bk=itF (Fd fl bk) (rfF fl bk) mh:=sth.1
     have hle:LeG x (itF (Fd fl bk) (rfF fl bk) mh):=sO lb okb of (by rw[ex]; exact gM x) mh
     generalize ehg:itF (Fd fl bk) (rfF fl bk) mh=high at *
     have hxh:x.length=high.length:=by rw[ox.1,ohigh.1]
     have jh:jnF x high=high:=dq (by rw[(vm ox ohigh).1,ohigh.1]) (FQ hxh hle (gM high)) (Oh hxh)
     have th:mtF x high=x:=dq (by rw[(uv ox ohigh).1,ox.1]) (Nq hxh) (Ej hxh (gM x) hle)
     refine⟨b,f,oa,ah,n,bk,fl,x,high,rfl,hBx.mono sxl,lb,sxl _ _ hfx,of,sxl _ _ exx,ox,eah,ohigh,ex,ehigh,fun k1 k2 a7 a8 r4 Hm st1 st2 sm ea7 ea8 er4=>?_⟩
     rw[jh] at st1 ea7
     rw[th] at st2 ea8
     rw[rR ehigh st1] at ea7
     rw[rR ex st2] at ea8
     have sxm:=sxl.trans sm
     refine⟨_,rfl,_,rfl,b,f,n,bk,fl,rfl,hBx.mono sxm,lb,sxm _ _ hfx,of,fun mh2 ah2 Hn _ sth2 sn eah2=>?_⟩
     cases dN sth sth2
     rw[ehg] at eah2
     refine⟨_,rfl,small (by show 2<=1000; decide),fun q4 w6=>?_⟩
     generalize eHo:upd Hn q4 _=Ho
     obtain⟨go,eo⟩:=aG eHo w6
     have smo:aU Hm Ho:=sn.trans go
     have lhigh:high.length<=1000:=by rw[ohigh.1]; lia
     refine⟨.ref r4,.ref q4,.lst [.tup (high.map Dm.int),.tup (x.map Dm.int)],rfl,rep2 (smo _ _ er4) (smo _ _ ea7) (smo _ _ ea8) lhigh lx,rep2 eo (go _ _ eah2) ((sxm.trans smo) _ _ exx) lhigh lx,by rw[Np]; decide,fun Hq sq=>⟨_,rfl,jx ?_⟩⟩
     have sxq:=sxm.trans (smo.trans sq)
     refine⟨_,rfl,_,rfl,_,rfl,rp,_,_,_,rfl,rfl,SqL.of (sxq _ _ epx),at1,_,rfl,wh,_,rfl,.inl (SqL.of (sxq _ _ ewx)),_,_,rfl,rfl,by lia,wh,uw,_,_,rfl,rfl,SqL.of (sxq _ _ ewx),iz,?_⟩
     have ezq:=sxq _ _ ezz
     refine⟨_,rfl,_,rfl,gD z,D2,ys,ev.map gD,lX ezq (by rw[oz.1]; lia),rfl,sxq _ _ erx,(grx.mono sxq).Ov,Nat.le_trans (Bc ev) (by decide),?_⟩
     have tbq:=tbx.same sxq
     refine⟨_,rfl,?_⟩
     cases ea:(ev.map gD).any (fun e=>eqD e (gD z)) with
     | true=>exact jx ⟨⟨_,_,_,_,_,_,rfl⟩,sx.trans sxq.t,tbq⟩
     | false =>
      refine oZ ?_
      have zne:cL z fl bk≠z:=fun e=>Mt ea (evm e)
      refine⟨tbq,fun f1 Hr smr tbr=>?_⟩
      have hBr:=(hBx.mono sxq).yL smr
      have hfr:=stT smr (sxq _ _ hfx)
      have ezr:=stT smr ezq
      have exr:=stT smr (sxq _ _ exx)
      refine⟨_,rfl,_,rfl,_,rfl,_,rfl,b,f,wa,oa,n,bk,fl,z,x,rfl,hBr,lb,hfr,of,ezr,oz,exr,ox,fun _ dx Hs ss' ed=>?_,fun e=>absurd e zne⟩
      refine⟨C,dx,_,_,rfl,rfl,R,ed,rfl,fun xa u' b1 hx1 hb1=>?_⟩
      have sxa:=aB hx1 u'
      generalize upd Hs xa u'=Hs1 at *
      generalize eHt:upd Hs1 b1 _=Ht
      obtain⟨gt,et⟩:=aG eHt hb1
      have srt:aU Hr Ht:=ss'.trans (sxa.trans gt)
      refine⟨small (by show 1<=1000; decide),fun q5 w7=>?_⟩
      generalize eHu:upd Ht q5 _=Hu
      obtain⟨gu,eu⟩:=aG eHu w7
      have sru:aU Hr Hu:=srt.trans gu
      refine⟨_,rfl,.inl ⟨rfl,_,SqL.of eu⟩,?_⟩
      refine⟨tbr.same sru,fun f2 Hv smv tbv=>?_⟩
      have hBv:=(hBr.mono sru).yL smv
      have hfv:=stT smv (sru _ _ hfr)
      have ezv:=stT smv (sru _ _ ezr)
      have exv:=stT smv (sru _ _ exr)
      have euv:=stL smv eu
      have etv:=stT smv (gu _ _ et)
      refine⟨_,rfl,_,rfl,_,rfl,_,rfl,b,f,oa,wa,n,bk,fl,x,z,rfl,hBv,lb,hfv,of,exv,ox,ezv,oz,fun _ dx2 Hw sw ed2=>?_,fun _ e=>absurd e zne⟩
      refine⟨C,dx2,_,_,rfl,rfl,R,ed2,rfl,fun xb u2 b2 hx2 hb2=>?_⟩
      have sxb:=aB hx2 u2
      generalize upd Hw xb u2=Hw1 at *
      generalize eHy:upd Hw1 b2 _=Hy
      obtain⟨gy2,ey2⟩:=aG eHy hb2
      have svy:aU Hv Hy:=sw.trans (sxb.trans gy2)
      have euy:=svy _ _ euv
      refine⟨q5,_,_,rfl,rfl,euy,aN (by show 1<=1000; decide),?_⟩
      have tk:=cZ (zs':=[.ref b1]++[.ref b2]) euy
      have s9z:gn H9 (upd Hy q5 (.lst ([.ref b1]++[.ref b2]))):=Cu ((sx.trans sxq.t).trans smr) (srt.free w7) ((sx.trans sxq.t).trans (smr.trans (sru.t.trans (smv.trans svy.t)))) _
      have tbz:TabOk (upd Hy q5 (.lst ([.ref b1]++[.ref b2]))) T KJ:=JM (tbv.same svy) euy
      have e5z:upd Hy q5 (.lst ([.ref b1]++[.ref b2])) q5=some (.lst [.ref b1,.ref b2]):=ao
      have eb1:=tk _ _ (svy _ _ etv)
      have eb2:=tk _ _ ey2
      generalize upd Hy q5 (.lst ([.ref b1]++[.ref b2]))=Hz at *
      refine⟨_,rfl,small (by show 1<=1000; decide),fun t1 y1=>?_⟩
      generalize eZ1:upd Hz t1 _=Z1
      obtain⟨gz1,ez1⟩:=aG eZ1 y1
      refine⟨small (by show 1<=1000; decide),fun t2 y2=>?_⟩
      generalize eZ2:upd Z1 t2 _=Z2
      obtain⟨gz2,ez2⟩:=aG eZ2 y2
      refine⟨small (by show 2<=1000; decide),fun t3 y3=>?_⟩
      generalize eZ3:upd Z2 t3 _=Z3
      obtain⟨gz3,ez3⟩:=aG eZ3 y3
      have sz3:aU Hz Z3:=gz1.trans (gz2.trans gz3)
      refine⟨.ref q5,.ref t3,.lst [.tup [.str "not even"],.tup [.str "not even"]],rfl,.lst (sz3 _ _ e5z) (by show 2<=100000; decide) (.cons (.tup (sz3 _ _ eb1) (by show 1<=100000; decide) (.cons (.str _) .nil)) (.cons (.tup (sz3 _ _ eb2) (by show 1<=100000; decide) (.cons (.str _) .nil)) .nil)),
       .lst ez3 (by show 2<=100000; decide) (.cons (.tup (gz3 _ _ (gz2 _ _ ez1)) (by show 1<=100000; decide) (.cons (.str _) .nil)) (.cons (.tup (gz3 _ _ ez2) (by show 1<=100000; decide) (.cons (.str _) .nil)) .nil)),by simp [Dm.dep,lE],fun Hend se=>⟨_,rfl,jx ?_⟩⟩
      have sze:=sz3.trans se
      exact⟨⟨_,_,_,_,_,_,rfl⟩,s9z.trans sze.t,tbz.same sze⟩
    ·rintro σ Hx ⟨⟨v10,v11,v12,v13,v14,v15,rfl⟩,sx,tbx⟩
     have s79:aU H7 H9:=s8.trans s9
     have s69:aU H6 H9:=s7.trans s79
     refine⟨_,rfl,_,rfl,D,b,rfl,rfl,cp.twinS lz (s79.t.trans sx) (s69.t.trans sx) (stL sx (s79 _ _ eD)) (stL sx (s69 _ _ hb)),_,rfl,jx ?_⟩
     exact⟨⟨_,_,_,_,_,_,_,_,_,_,_,_,_,_,_,rfl⟩,s3.trans ((s4.trans s49).t.trans sx),tbx⟩
  ·rintro σ H3 ⟨⟨u1,u2,u3,u4,u5,u6,u7,u8,u9,u10,u11,u12,u13,u14,u15,rfl⟩,s3,tb3⟩
   exact q _
theorem G7 {α:Type}:∀ {us:List α},us.length=1->∃ x0,us=[x0]
 | [x0],_=>⟨x0,rfl⟩
theorem lU {α:Type}:∀ {us:List α},us.length=2->∃ x0 x1,us=[x0,x1]
 | [x0,x1],_=>⟨x0,x1,rfl⟩
theorem Bl {α:Type}:∀ {us:List α},us.length=3->∃ x0 x1 x2,us=[x0,x1,x2]
 | [x0,x1,x2],_=>⟨x0,x1,x2,rfl⟩
theorem K1 {α:Type}:∀ {us:List α},us.length=4->∃ x0 x1 x2 x3,us=[x0,x1,x2,x3]
 | [x0,x1,x2,x3],_=>⟨x0,x1,x2,x3,rfl⟩
theorem Ou {α:Type}:∀ {us:List α},us.length=5->∃ x0 x1 x2 x3 x4,us=[x0,x1,x2,x3,x4]
 | [x0,x1,x2,x3,x4],_=>⟨x0,x1,x2,x3,x4,rfl⟩
theorem all_mk {l:W.OpenLaw} {w:World} {K:W.Frag} {h:Heap} {mg:Str->Option Value} {fa fq0 fq1 fq2 fq3 fq4 fq5 fq6 fq7 fq8 fq9 fq10 fq11 fq12 fq13 fq14 fq15 fq16 fq17 fq18 fq19 fq20 fq21 fq22 fq23 fq24 fq25 fq26 fq27 fq28 fq29 fq30 fq31 fq32 fq33 fq34 fq35 fq36 fq37 fq38 fq39 fq40 fq41 fq42 fq43 fq44 fq45 fq46:Addr} (X:K.In h) (G:h.Ns mainGlobals mg) (hfa:mg "law" = some (.ref fa))
  {odq0 anq0 odq1 anq1 odq2 anq2 odq3 anq3 odq4 anq4 odq5 anq5 odq6 anq6 odq7 anq7 odq8 anq8 odq9 anq9 odq10 anq10 odq11 anq11 odq12 anq12 odq13 anq13 odq14 anq14 odq15 anq15 odq16 anq16 odq17 anq17 odq18 anq18 odq19 anq19 odq20 anq20 odq21 anq21 odq22 anq22 odq23 anq23 odq24 anq24 odq25 anq25 odq26 anq26 odq27 anq27 odq28 anq28 odq29 anq29 odq30 anq30 odq31 anq31 odq32 anq32 odq33 anq33 odq34 anq34 odq35 anq35 odq36 anq36 odq37 anq37 odq38 anq38 odq39 anq39 odq40 anq40 odq41 anq41 odq42 anq42 odq43 anq43 odq44 anq44 odq45 anq45 odq46 anq46:Option Addr} {slq0 slq1 slq2 slq3 slq4 slq5 slq6 slq7 slq8 slq9 slq10 slq11 slq12 slq13 slq14 slq15 slq16 slq17 slq18 slq19 slq20 slq21 slq22 slq23 slq24 slq25 slq26 slq27 slq28 slq29 slq30 slq31 slq32 slq33 slq34 slq35 slq36 slq37 slq38 slq39 slq40 slq41 slq42 slq43 slq44 slq45 slq46:Array (Option Value)} {ocq0 kVq0 dcq0 pmq0 cdq0 ctq0 ocq1 kVq1 dcq1 pmq1 cdq1 ctq1 ocq2 kVq2 dcq2 pmq2 cdq2 ctq2 ocq3 kVq3 dcq3 pmq3 cdq3 ctq3 ocq4 kVq4 dcq4 pmq4 cdq4 ctq4 ocq5 kVq5 dcq5 pmq5 cdq5 ctq5 ocq6 kVq6 dcq6 pmq6 cdq6 ctq6 ocq7 kVq7 dcq7 pmq7 cdq7 ctq7 ocq8 kVq8 dcq8 pmq8 cdq8 ctq8 ocq9 kVq9 dcq9 pmq9 cdq9 ctq9 ocq10 kVq10 dcq10 pmq10 cdq10 ctq10 ocq11 kVq11 dcq11 pmq11 cdq11 ctq11 ocq12 kVq12 dcq12 pmq12 cdq12 ctq12 ocq13 kVq13 dcq13 pmq13 cdq13 ctq13 ocq14 kVq14 dcq14 pmq14 cdq14 ctq14 ocq15 kVq15 dcq15 pmq15 cdq15 ctq15 ocq16 kVq16 dcq16 pmq16 cdq16 ctq16 ocq17 kVq17 dcq17 pmq17 cdq17 ctq17 ocq18 kVq18 dcq18 pmq18 cdq18 ctq18 ocq19 kVq19 dcq19 pmq19 cdq19 ctq19 ocq20 kVq20 dcq20 pmq20 cdq20 ctq20 ocq21 kVq21 dcq21 pmq21 cdq21 ctq21 ocq22 kVq22 dcq22 pmq22 cdq22 ctq22 ocq23 kVq23 dcq23 pmq23 cdq23 ctq23 ocq24 kVq24 dcq24 pmq24 cdq24 ctq24 ocq25 kVq25 dcq25 pmq25 cdq25 ctq25 ocq26 kVq26 dcq26 pmq26 cdq26 ctq26 ocq27 kVq27 dcq27 pmq27 cdq27 ctq27 ocq28 kVq28 dcq28 pmq28 cdq28 ctq28 ocq29 kVq29 dcq29 pmq29 cdq29 ctq29 ocq30 kVq30 dcq30 pmq30 cdq30 ctq30 ocq31 kVq31 dcq31 pmq31 cdq31 ctq31 ocq32 kVq32 dcq32 pmq32 cdq32 ctq32 ocq33 kVq33 dcq33 pmq33 cdq33 ctq33 ocq34 kVq34 dcq34 pmq34 cdq34 ctq34 ocq35 kVq35 dcq35 pmq35 cdq35 ctq35 ocq36 kVq36 dcq36 pmq36 cdq36 ctq36 ocq37 kVq37 dcq37 pmq37 cdq37 ctq37 ocq38 kVq38 dcq38 pmq38 cdq38 ctq38 ocq39 kVq39 dcq39 pmq39 cdq39 ctq39 ocq40 kVq40 dcq40 pmq40 cdq40 ctq40 ocq41 kVq41 dcq41 pmq41 cdq41 ctq41 ocq42 kVq42 dcq42 pmq42 cdq42 ctq42 ocq43 kVq43 dcq43 pmq43 cdq43 ctq43 ocq44 kVq44 dcq44 pmq44 cdq44 ctq44 ocq45 kVq45 dcq45 pmq45 cdq45 ctq45 ocq46 kVq46 dcq46 pmq46 cdq46 ctq46:Value}
  {Cw0 Nw0 fiw0 Cw1 Nw1 fiw1 Cw2 Nw2 fiw2 Cw3 Nw3 fiw3:Addr} {nmw0 qnw0 nmw1 qnw1 nmw2 qnw2 nmw3 qnw3:Str} {bsw0 bmw0 subw0 bsw1 bmw1 subw1 bsw2 bmw2 subw2 bsw3 bmw3 subw3:List Value}
  {hdctw0 abw0 hdctw1 abw1 hdctw2 abw2 hdctw3 abw3:Bool} {snw0 snw1 snw2 snw3:List Str} {colw0 colw1 colw2 colw3:Option Bool} {ddw0 odiw0 aniw0 ddw1 odiw1 aniw1 ddw2 odiw2 aniw2 ddw3 odiw3 aniw3:Option Addr} {k0w0 k1w0 k2w0 k3w0 k5w0 k0w1 k1w1 k2w1 k3w1 k5w1 k0w2 k1w2 k2w2 k3w2 k5w2 k0w3 k1w3 k2w3 k3w3 k5w3:Option Value} {cdw0 cdw1 cdw2 cdw3:ClassData} {mc:Value}
  {sliw0 sliw1 sliw2 sliw3:Array (Option Value)} {ociw0 kViw0 dciw0 pmiw0 cdiw0 ctiw0 ociw1 kViw1 dciw1 pmiw1 cdiw1 ctiw1 ociw2 kViw2 dciw2 pmiw2 cdiw2 ctiw2 ociw3 kViw3 dciw3 pmiw3 cdiw3 ctiw3:Value}
  {cLaw:Addr}
  (acw0:W.nsIn K mainGlobals "BoonError" = some (some (.ref Cw0)))
  (ocw0:K.lookup Cw0=some (PySem.excClassObj nmw0 qnw0 Cw0 Nw0 bsw0 bmw0 hdctw0 snw0 subw0 abw0 colw0 ddw0 k0w0 k1w0 k2w0 k3w0 k5w0 "ValueError.__new__"))
  (vew0:GX bmw0)
  (icw0:W.findIn K (.ref Cw0) "__init__" = some (some (.ref fiw0)))
  (tcw0:W.typeIn K (.ref fiw0)=some (.type "function"))
  (pcw0:W.keepIn K (.ref Cw0)=true)
  (scw0:W.findIn K (.ref Cw0) "__setattr__" = some (some (.builtin "object.__setattr__")))
  (dcw0:W.clsIn K Cw0=some cdw0)
  (ucw0:kW cdw0.mro=true)
  (hcw0:cdw0.hasDict=true)
  (kcw0:W.takerIn K Cw0 "word" = some none)
  (gcw0:W.findIn K (.ref Cw0) "__getattribute__" = some (some (.builtin "BaseException.__getattribute__")))
  (ghw0:W.findIn K (.ref Cw0) "__getattr__" = some none)
  (ncw0:W.findIn K (.ref Cw0) "word" = some none)
  (liw0:K.lookup fiw0=some ⟨ociw0,odiw0,.func (W.fnOf "__init__" "BoonError.__init__" (aK (inClass dZ 0)) (aF (inClass dZ 0)) (aq (inClass dZ 0)) .none kViw0 dciw0 pmiw0 aniw0 cdiw0 ctiw0),sliw0⟩)
  (ciw0:W.codeIn K cdiw0 "BoonError.__init__" = true)
  (kiw0:W.keepIn K (.ref fiw0)=true)
  (xgaw0:W.specialIn K (.ref Cw0) "__getattribute__" = some (some (.builtin "type.__getattribute__")))
  (xtyw0:W.typeIn K (.ref Cw0)=some mc)
  (xrdw0:W.readsIn K Cw0 mc=true)
  (xfdw0:W.findCls K (.ref Cw0) mc "__init__" = some (.val (.ref fiw0)))
  (acw1:W.nsIn K mainGlobals "NotKept" = some (some (.ref Cw1)))
  (ocw1:K.lookup Cw1=some (PySem.excClassObj nmw1 qnw1 Cw1 Nw1 bsw1 bmw1 hdctw1 snw1 subw1 abw1 colw1 ddw1 k0w1 k1w1 k2w1 k3w1 k5w1 "ValueError.__new__"))
  (vew1:GX bmw1)
  (icw1:W.findIn K (.ref Cw1) "__init__" = some (some (.ref fiw1)))
  (tcw1:W.typeIn K (.ref fiw1)=some (.type "function"))
  (pcw1:W.keepIn K (.ref Cw1)=true)
  (scw1:W.findIn K (.ref Cw1) "__setattr__" = some (some (.builtin "object.__setattr__")))
  (dcw1:W.clsIn K Cw1=some cdw1)
  (ucw1:kW cdw1.mro=true)
  (hcw1:cdw1.hasDict=true)
  (kcw1:W.takerIn K Cw1 "word" = some none)
  (gcw1:W.findIn K (.ref Cw1) "__getattribute__" = some (some (.builtin "BaseException.__getattribute__")))
  (ghw1:W.findIn K (.ref Cw1) "__getattr__" = some none)
  (ncw1:W.findIn K (.ref Cw1) "word" = some none)
  (liw1:K.lookup fiw1=some ⟨ociw1,odiw1,.func (W.fnOf "__init__" "NotKept.__init__" (aK (inClass iB 0)) (aF (inClass iB 0)) (aq (inClass iB 0)) .none kViw1 dciw1 pmiw1 aniw1 cdiw1 ctiw1),sliw1⟩)
  (ciw1:W.codeIn K cdiw1 "NotKept.__init__" = true)
  (kiw1:W.keepIn K (.ref fiw1)=true)
  (mrw1:(Value.ref Cw1::bmw1).contains (.ref Cw0)=true)
  (acw2:W.nsIn K mainGlobals "NotClear" = some (some (.ref Cw2)))
  (ocw2:K.lookup Cw2=some (PySem.excClassObj nmw2 qnw2 Cw2 Nw2 bsw2 bmw2 hdctw2 snw2 subw2 abw2 colw2 ddw2 k0w2 k1w2 k2w2 k3w2 k5w2 "ValueError.__new__"))
  (vew2:GX bmw2)
  (icw2:W.findIn K (.ref Cw2) "__init__" = some (some (.ref fiw2)))
  (tcw2:W.typeIn K (.ref fiw2)=some (.type "function"))
  (pcw2:W.keepIn K (.ref Cw2)=true)
  (scw2:W.findIn K (.ref Cw2) "__setattr__" = some (some (.builtin "object.__setattr__")))
  (dcw2:W.clsIn K Cw2=some cdw2)
  (ucw2:kW cdw2.mro=true)
  (hcw2:cdw2.hasDict=true)
  (kcw2:W.takerIn K Cw2 "word" = some none)
  (gcw2:W.findIn K (.ref Cw2) "__getattribute__" = some (some (.builtin "BaseException.__getattribute__")))
  (ghw2:W.findIn K (.ref Cw2) "__getattr__" = some none)
  (ncw2:W.findIn K (.ref Cw2) "word" = some none)
  (liw2:K.lookup fiw2=some ⟨ociw2,odiw2,.func (W.fnOf "__init__" "NotClear.__init__" (aK (inClass fK 0)) (aF (inClass fK 0)) (aq (inClass fK 0)) .none kViw2 dciw2 pmiw2 aniw2 cdiw2 ctiw2),sliw2⟩)
  (ciw2:W.codeIn K cdiw2 "NotClear.__init__" = true)
  (kiw2:W.keepIn K (.ref fiw2)=true)
  (mrw2:(Value.ref Cw2::bmw2).contains (.ref Cw0)=true)
  (acw3:W.nsIn K mainGlobals "NotEven" = some (some (.ref Cw3)))
  (ocw3:K.lookup Cw3=some (PySem.excClassObj nmw3 qnw3 Cw3 Nw3 bsw3 bmw3 hdctw3 snw3 subw3 abw3 colw3 ddw3 k0w3 k1w3 k2w3 k3w3 k5w3 "ValueError.__new__"))
  (vew3:GX bmw3)
  (icw3:W.findIn K (.ref Cw3) "__init__" = some (some (.ref fiw3)))
  (tcw3:W.typeIn K (.ref fiw3)=some (.type "function"))
  (pcw3:W.keepIn K (.ref Cw3)=true)
  (scw3:W.findIn K (.ref Cw3) "__setattr__" = some (some (.builtin "object.__setattr__")))
  (dcw3:W.clsIn K Cw3=some cdw3)
  (ucw3:kW cdw3.mro=true)
  (hcw3:cdw3.hasDict=true)
  (kcw3:W.takerIn K Cw3 "word" = some none)
  (gcw3:W.findIn K (.ref Cw3) "__getattribute__" = some (some (.builtin "BaseException.__getattribute__")))
  (ghw3:W.findIn K (.ref Cw3) "__getattr__" = some none)
  (ncw3:W.findIn K (.ref Cw3) "word" = some none)
  (liw3:K.lookup fiw3=some ⟨ociw3,odiw3,.func (W.fnOf "__init__" "NotEven.__init__" (aK (inClass iw 0)) (aF (inClass iw 0)) (aq (inClass iw 0)) .none kViw3 dciw3 pmiw3 aniw3 cdiw3 ctiw3),sliw3⟩)
  (ciw3:W.codeIn K cdiw3 "NotEven.__init__" = true)
  (kiw3:W.keepIn K (.ref fiw3)=true)
  (mrw3:(Value.ref Cw3::bmw3).contains (.ref Cw0)=true)
  (aq0:W.nsIn K mainGlobals "above" = some (some (.ref fq0)))
  (lq0:K.lookup fq0=some ⟨ocq0,odq0,.func (W.fnOf "above" "above" (aK kY) (aF kY) (aq kY) .none kVq0 dcq0 pmq0 anq0 cdq0 ctq0),slq0⟩)
  (cq0:W.codeIn K cdq0 "above" = true) (kq0:W.keepIn K (.ref fq0)=true)
  (aq1:W.nsIn K mainGlobals "joined" = some (some (.ref fq1)))
  (lq1:K.lookup fq1=some ⟨ocq1,odq1,.func (W.fnOf "joined" "joined" (aK jg) (aF jg) (aq jg) .none kVq1 dcq1 pmq1 anq1 cdq1 ctq1),slq1⟩)
  (cq1:W.codeIn K cdq1 "joined" = true) (kq1:W.keepIn K (.ref fq1)=true)
  (aq2:W.nsIn K mainGlobals "met" = some (some (.ref fq2)))
  (lq2:K.lookup fq2=some ⟨ocq2,odq2,.func (W.fnOf "met" "met" (aK zP) (aF zP) (aq zP) .none kVq2 dcq2 pmq2 anq2 cdq2 ctq2),slq2⟩)
  (cq2:W.codeIn K cdq2 "met" = true) (kq2:W.keepIn K (.ref fq2)=true)
  (aq3:W.nsIn K mainGlobals "all_hold" = some (some (.ref fq3)))
  (lq3:K.lookup fq3=some ⟨ocq3,odq3,.func (W.fnOf "all_hold" "all_hold" (aK fQ) (aF fQ) (aq fQ) .none kVq3 dcq3 pmq3 anq3 cdq3 ctq3),slq3⟩)
  (cq3:W.codeIn K cdq3 "all_hold" = true) (kq3:W.keepIn K (.ref fq3)=true)
  (aq4:W.nsIn K mainGlobals "any_holds" = some (some (.ref fq4)))
  (lq4:K.lookup fq4=some ⟨ocq4,odq4,.func (W.fnOf "any_holds" "any_holds" (aK dW) (aF dW) (aq dW) .none kVq4 dcq4 pmq4 anq4 cdq4 ctq4),slq4⟩)
  (cq4:W.codeIn K cdq4 "any_holds" = true) (kq4:W.keepIn K (.ref fq4)=true)
  (aq5:W.nsIn K mainGlobals "holds" = some (some (.ref fq5)))
  (lq5:K.lookup fq5=some ⟨ocq5,odq5,.func (W.fnOf "holds" "holds" (aK j8) (aF j8) (aq j8) .none kVq5 dcq5 pmq5 anq5 cdq5 ctq5),slq5⟩)
  (cq5:W.codeIn K cdq5 "holds" = true) (kq5:W.keepIn K (.ref fq5)=true)
  (aq6:W.nsIn K mainGlobals "owes" = some (some (.ref fq6)))
  (lq6:K.lookup fq6=some ⟨ocq6,odq6,.func (W.fnOf "owes" "owes" (aK qi) (aF qi) (aq qi) .none kVq6 dcq6 pmq6 anq6 cdq6 ctq6),slq6⟩)
  (cq6:W.codeIn K cdq6 "owes" = true) (kq6:W.keepIn K (.ref fq6)=true)
  (aq7:W.nsIn K mainGlobals "last_step" = some (some (.ref fq7)))
  (lq7:K.lookup fq7=some ⟨ocq7,odq7,.func (W.fnOf "last_step" "last_step" (aK dU) (aF dU) (aq dU) .none kVq7 dcq7 pmq7 anq7 cdq7 ctq7),slq7⟩)
  (cq7:W.codeIn K cdq7 "last_step" = true) (kq7:W.keepIn K (.ref fq7)=true)
  (aq8:W.nsIn K mainGlobals "what_is_due" = some (some (.ref fq8)))
  (lq8:K.lookup fq8=some ⟨ocq8,odq8,.func (W.fnOf "what_is_due" "what_is_due" (aK cU) (aF cU) (aq cU) .none kVq8 dcq8 pmq8 anq8 cdq8 ctq8),slq8⟩)
  (cq8:W.codeIn K cdq8 "what_is_due" = true) (kq8:W.keepIn K (.ref fq8)=true)
  (aq9:W.nsIn K mainGlobals "kept" = some (some (.ref fq9)))
  (lq9:K.lookup fq9=some ⟨ocq9,odq9,.func (W.fnOf "kept" "kept" (aK pG) (aF pG) (aq pG) .none kVq9 dcq9 pmq9 anq9 cdq9 ctq9),slq9⟩)
  (cq9:W.codeIn K cdq9 "kept" = true) (kq9:W.keepIn K (.ref fq9)=true)
  (aq10:W.nsIn K mainGlobals "clear" = some (some (.ref fq10)))
  (lq10:K.lookup fq10=some ⟨ocq10,odq10,.func (W.fnOf "clear" "clear" (aK j0) (aF j0) (aq j0) .none kVq10 dcq10 pmq10 anq10 cdq10 ctq10),slq10⟩)
  (cq10:W.codeIn K cdq10 "clear" = true) (kq10:W.keepIn K (.ref fq10)=true)
  (aq11:W.nsIn K mainGlobals "even" = some (some (.ref fq11)))
  (lq11:K.lookup fq11=some ⟨ocq11,odq11,.func (W.fnOf "even" "even" (aK pU) (aF pU) (aq pU) .none kVq11 dcq11 pmq11 anq11 cdq11 ctq11),slq11⟩)
  (cq11:W.codeIn K cdq11 "even" = true) (kq11:W.keepIn K (.ref fq11)=true)
  (aq12:W.nsIn K mainGlobals "roof" = some (some (.ref fq12)))
  (lq12:K.lookup fq12=some ⟨ocq12,odq12,.func (W.fnOf "roof" "roof" (aK o6) (aF o6) (aq o6) .none kVq12 dcq12 pmq12 anq12 cdq12 ctq12),slq12⟩)
  (cq12:W.codeIn K cdq12 "roof" = true) (kq12:W.keepIn K (.ref fq12)=true)
  (aq13:W.nsIn K mainGlobals "settled" = some (some (.ref fq13)))
  (lq13:K.lookup fq13=some ⟨ocq13,odq13,.func (W.fnOf "settled" "settled" (aK ir) (aF ir) (aq ir) .none kVq13 dcq13 pmq13 anq13 cdq13 ctq13),slq13⟩)
  (cq13:W.codeIn K cdq13 "settled" = true) (kq13:W.keepIn K (.ref fq13)=true)
  (aq14:W.nsIn K mainGlobals "rise" = some (some (.ref fq14)))
  (lq14:K.lookup fq14=some ⟨ocq14,odq14,.func (W.fnOf "rise" "rise" (aK pM) (aF pM) (aq pM) .none kVq14 dcq14 pmq14 anq14 cdq14 ctq14),slq14⟩)
  (cq14:W.codeIn K cdq14 "rise" = true) (kq14:W.keepIn K (.ref fq14)=true)
  (aq15:W.nsIn K mainGlobals "fall" = some (some (.ref fq15)))
  (lq15:K.lookup fq15=some ⟨ocq15,odq15,.func (W.fnOf "fall" "fall" (aK pX) (aF pX) (aq pX) .none kVq15 dcq15 pmq15 anq15 cdq15 ctq15),slq15⟩)
  (cq15:W.codeIn K cdq15 "fall" = true) (kq15:W.keepIn K (.ref fq15)=true)
  (aq16:W.nsIn K mainGlobals "least" = some (some (.ref fq16)))
  (lq16:K.lookup fq16=some ⟨ocq16,odq16,.func (W.fnOf "least" "least" (aK kh) (aF kh) (aq kh) .none kVq16 dcq16 pmq16 anq16 cdq16 ctq16),slq16⟩)
  (cq16:W.codeIn K cdq16 "least" = true) (kq16:W.keepIn K (.ref fq16)=true)
  (aq17:W.nsIn K mainGlobals "greatest" = some (some (.ref fq17)))
  (lq17:K.lookup fq17=some ⟨ocq17,odq17,.func (W.fnOf "greatest" "greatest" (aK fD) (aF fD) (aq fD) .none kVq17 dcq17 pmq17 anq17 cdq17 ctq17),slq17⟩)
  (cq17:W.codeIn K cdq17 "greatest" = true) (kq17:W.keepIn K (.ref fq17)=true)
  (aq18:W.nsIn K mainGlobals "risen" = some (some (.ref fq18)))
  (lq18:K.lookup fq18=some ⟨ocq18,odq18,.func (W.fnOf "risen" "risen" (aK j6) (aF j6) (aq j6) .none kVq18 dcq18 pmq18 anq18 cdq18 ctq18),slq18⟩)
  (cq18:W.codeIn K cdq18 "risen" = true) (kq18:W.keepIn K (.ref fq18)=true)
  (aq19:W.nsIn K mainGlobals "sunk" = some (some (.ref fq19)))
  (lq19:K.lookup fq19=some ⟨ocq19,odq19,.func (W.fnOf "sunk" "sunk" (aK o8) (aF o8) (aq o8) .none kVq19 dcq19 pmq19 anq19 cdq19 ctq19),slq19⟩)
  (cq19:W.codeIn K cdq19 "sunk" = true) (kq19:W.keepIn K (.ref fq19)=true)
  (aq20:W.nsIn K mainGlobals "check_even" = some (some (.ref fq20)))
  (lq20:K.lookup fq20=some ⟨ocq20,odq20,.func (W.fnOf "check_even" "check_even" (aK dj) (aF dj) (aq dj) .none kVq20 dcq20 pmq20 anq20 cdq20 ctq20),slq20⟩)
  (cq20:W.codeIn K cdq20 "check_even" = true) (kq20:W.keepIn K (.ref fq20)=true)
  (aq21:W.nsIn K mainGlobals "joined_even" = some (some (.ref fq21)))
  (lq21:K.lookup fq21=some ⟨ocq21,odq21,.func (W.fnOf "joined_even" "joined_even" (aK cT) (aF cT) (aq cT) .none kVq21 dcq21 pmq21 anq21 cdq21 ctq21),slq21⟩)
  (cq21:W.codeIn K cdq21 "joined_even" = true) (kq21:W.keepIn K (.ref fq21)=true)
  (aq22:W.nsIn K mainGlobals "met_even" = some (some (.ref fq22)))
  (lq22:K.lookup fq22=some ⟨ocq22,odq22,.func (W.fnOf "met_even" "met_even" (aK fu) (aF fu) (aq fu) .none kVq22 dcq22 pmq22 anq22 cdq22 ctq22),slq22⟩)
  (cq22:W.codeIn K cdq22 "met_even" = true) (kq22:W.keepIn K (.ref fq22)=true)
  (aq23:W.nsIn K mainGlobals "_law_cell" = some (some (.ref fq23)))
  (lq23:K.lookup fq23=some ⟨ocq23,odq23,.func (W.fnOf "_law_cell" "_law_cell" (aK fH) (aF fH) (aq fH) .none kVq23 dcq23 pmq23 anq23 cdq23 ctq23),slq23⟩)
  (cq23:W.codeIn K cdq23 "_law_cell" = true) (kq23:W.keepIn K (.ref fq23)=true)
  (aq24:W.nsIn K mainGlobals "_law_draws" = some (some (.ref fq24)))
  (lq24:K.lookup fq24=some ⟨ocq24,odq24,.func (W.fnOf "_law_draws" "_law_draws" (aK dM) (aF dM) (aq dM) .none kVq24 dcq24 pmq24 anq24 cdq24 ctq24),slq24⟩)
  (cq24:W.codeIn K cdq24 "_law_draws" = true) (kq24:W.keepIn K (.ref fq24)=true)
  (aq25:W.nsIn K mainGlobals "_law_same" = some (some (.ref fq25)))
  (lq25:K.lookup fq25=some ⟨ocq25,odq25,.func (W.fnOf "_law_same" "_law_same" (aK fJ) (aF fJ) (aq fJ) .none kVq25 dcq25 pmq25 anq25 cdq25 ctq25),slq25⟩)
  (cq25:W.codeIn K cdq25 "_law_same" = true) (kq25:W.keepIn K (.ref fq25)=true)
  (aq26:W.nsIn K mainGlobals "_law_under" = some (some (.ref fq26)))
  (lq26:K.lookup fq26=some ⟨ocq26,odq26,.func (W.fnOf "_law_under" "_law_under" (aK dR) (aF dR) (aq dR) .none kVq26 dcq26 pmq26 anq26 cdq26 ctq26),slq26⟩)
  (cq26:W.codeIn K cdq26 "_law_under" = true) (kq26:W.keepIn K (.ref fq26)=true)
  (aq27:W.nsIn K mainGlobals "_law_crowd" = some (some (.ref fq27)))
  (lq27:K.lookup fq27=some ⟨ocq27,odq27,.func (W.fnOf "_law_crowd" "_law_crowd" (aK dX) (aF dX) (aq dX) .none kVq27 dcq27 pmq27 anq27 cdq27 ctq27),slq27⟩)
  (cq27:W.codeIn K cdq27 "_law_crowd" = true) (kq27:W.keepIn K (.ref fq27)=true)
  (aq28:W.nsIn K mainGlobals "_law_term" = some (some (.ref fq28)))
  (lq28:K.lookup fq28=some ⟨ocq28,odq28,.func (W.fnOf "_law_term" "_law_term" (aK fL) (aF fL) (aq fL) .none kVq28 dcq28 pmq28 anq28 cdq28 ctq28),slq28⟩)
  (cq28:W.codeIn K cdq28 "_law_term" = true) (kq28:W.keepIn K (.ref fq28)=true)
  (aq29:W.nsIn K mainGlobals "_law_renamed" = some (some (.ref fq29)))
  (lq29:K.lookup fq29=some ⟨ocq29,odq29,.func (W.fnOf "_law_renamed" "_law_renamed" (aK cR) (aF cR) (aq cR) .none kVq29 dcq29 pmq29 anq29 cdq29 ctq29),slq29⟩)
  (cq29:W.codeIn K cdq29 "_law_renamed" = true) (kq29:W.keepIn K (.ref fq29)=true)
  (aq30:W.nsIn K mainGlobals "_law_mine" = some (some (.ref fq30)))
  (lq30:K.lookup fq30=some ⟨ocq30,odq30,.func (W.fnOf "_law_mine" "_law_mine" (aK fG) (aF fG) (aq fG) .none kVq30 dcq30 pmq30 anq30 cdq30 ctq30),slq30⟩)
  (cq30:W.codeIn K cdq30 "_law_mine" = true) (kq30:W.keepIn K (.ref fq30)=true)
  (aq31:W.nsIn K mainGlobals "_law_pledge" = some (some (.ref fq31)))
  (lq31:K.lookup fq31=some ⟨ocq31,odq31,.func (W.fnOf "_law_pledge" "_law_pledge" (aK dw) (aF dw) (aq dw) .none kVq31 dcq31 pmq31 anq31 cdq31 ctq31),slq31⟩)
  (cq31:W.codeIn K cdq31 "_law_pledge" = true) (kq31:W.keepIn K (.ref fq31)=true)
  (aq32:W.nsIn K mainGlobals "_law_book" = some (some (.ref fq32)))
  (lq32:K.lookup fq32=some ⟨ocq32,odq32,.func (W.fnOf "_law_book" "_law_book" (aK fM) (aF fM) (aq fM) .none kVq32 dcq32 pmq32 anq32 cdq32 ctq32),slq32⟩)
  (cq32:W.codeIn K cdq32 "_law_book" = true) (kq32:W.keepIn K (.ref fq32)=true)
  (aq33:W.nsIn K mainGlobals "_law_giving" = some (some (.ref fq33)))
  (lq33:K.lookup fq33=some ⟨ocq33,odq33,.func (W.fnOf "_law_giving" "_law_giving" (aK dm) (aF dm) (aq dm) .none kVq33 dcq33 pmq33 anq33 cdq33 ctq33),slq33⟩)
  (cq33:W.codeIn K cdq33 "_law_giving" = true) (kq33:W.keepIn K (.ref fq33)=true)
  (aq34:W.nsIn K mainGlobals "_law_scene" = some (some (.ref fq34)))
  (lq34:K.lookup fq34=some ⟨ocq34,odq34,.func (W.fnOf "_law_scene" "_law_scene" (aK d8) (aF d8) (aq d8) .none kVq34 dcq34 pmq34 anq34 cdq34 ctq34),slq34⟩)
  (cq34:W.codeIn K cdq34 "_law_scene" = true) (kq34:W.keepIn K (.ref fq34)=true)
  (aq35:W.nsIn K mainGlobals "_law_holds" = some (some (.ref fq35)))
  (lq35:K.lookup fq35=some ⟨ocq35,odq35,.func (W.fnOf "_law_holds" "_law_holds" (aK d7) (aF d7) (aq d7) .none kVq35 dcq35 pmq35 anq35 cdq35 ctq35),slq35⟩)
  (cq35:W.codeIn K cdq35 "_law_holds" = true) (kq35:W.keepIn K (.ref fq35)=true)
  (aq36:W.nsIn K mainGlobals "_law_owes" = some (some (.ref fq36)))
  (lq36:K.lookup fq36=some ⟨ocq36,odq36,.func (W.fnOf "_law_owes" "_law_owes" (aK fU) (aF fU) (aq fU) .none kVq36 dcq36 pmq36 anq36 cdq36 ctq36),slq36⟩)
  (cq36:W.codeIn K cdq36 "_law_owes" = true) (kq36:W.keepIn K (.ref fq36)=true)
  (aq37:W.nsIn K mainGlobals "_law_owed" = some (some (.ref fq37)))
  (lq37:K.lookup fq37=some ⟨ocq37,odq37,.func (W.fnOf "_law_owed" "_law_owed" (aK fP) (aF fP) (aq fP) .none kVq37 dcq37 pmq37 anq37 cdq37 ctq37),slq37⟩)
  (cq37:W.codeIn K cdq37 "_law_owed" = true) (kq37:W.keepIn K (.ref fq37)=true)
  (aq38:W.nsIn K mainGlobals "_law_due" = some (some (.ref fq38)))
  (lq38:K.lookup fq38=some ⟨ocq38,odq38,.func (W.fnOf "_law_due" "_law_due" (aK iD) (aF iD) (aq iD) .none kVq38 dcq38 pmq38 anq38 cdq38 ctq38),slq38⟩)
  (cq38:W.codeIn K cdq38 "_law_due" = true) (kq38:W.keepIn K (.ref fq38)=true)
  (aq39:W.nsIn K mainGlobals "_law_box" = some (some (.ref fq39)))
  (lq39:K.lookup fq39=some ⟨ocq39,odq39,.func (W.fnOf "_law_box" "_law_box" (aK iu) (aF iu) (aq iu) .none kVq39 dcq39 pmq39 anq39 cdq39 ctq39),slq39⟩)
  (cq39:W.codeIn K cdq39 "_law_box" = true) (kq39:W.keepIn K (.ref fq39)=true)
  (aq40:W.nsIn K mainGlobals "_law_above" = some (some (.ref fq40)))
  (lq40:K.lookup fq40=some ⟨ocq40,odq40,.func (W.fnOf "_law_above" "_law_above" (aK d9) (aF d9) (aq d9) .none kVq40 dcq40 pmq40 anq40 cdq40 ctq40),slq40⟩)
  (cq40:W.codeIn K cdq40 "_law_above" = true) (kq40:W.keepIn K (.ref fq40)=true)
  (aq41:W.nsIn K mainGlobals "_law_word" = some (some (.ref fq41)))
  (lq41:K.lookup fq41=some ⟨ocq41,odq41,.func (W.fnOf "_law_word" "_law_word" (aK cQ) (aF cQ) (aq cQ) .none kVq41 dcq41 pmq41 anq41 cdq41 ctq41),slq41⟩)
  (cq41:W.codeIn K cdq41 "_law_word" = true) (kq41:W.keepIn K (.ref fq41)=true)
  (aq42:W.nsIn K mainGlobals "_law_scene_at" = some (some (.ref fq42)))
  (lq42:K.lookup fq42=some ⟨ocq42,odq42,.func (W.fnOf "_law_scene_at" "_law_scene_at" (aK cG) (aF cG) (aq cG) .none kVq42 dcq42 pmq42 anq42 cdq42 ctq42),slq42⟩)
  (cq42:W.codeIn K cdq42 "_law_scene_at" = true) (kq42:W.keepIn K (.ref fq42)=true)
  (aq43:W.nsIn K mainGlobals "_law_picks" = some (some (.ref fq43)))
  (lq43:K.lookup fq43=some ⟨ocq43,odq43,.func (W.fnOf "_law_picks" "_law_picks" (aK dY) (aF dY) (aq dY) .none kVq43 dcq43 pmq43 anq43 cdq43 ctq43),slq43⟩)
  (cq43:W.codeIn K cdq43 "_law_picks" = true) (kq43:W.keepIn K (.ref fq43)=true)
  (aq44:W.nsIn K mainGlobals "_law_between" = some (some (.ref fq44)))
  (lq44:K.lookup fq44=some ⟨ocq44,odq44,.func (W.fnOf "_law_between" "_law_between" (aK cP) (aF cP) (aq cP) .none kVq44 dcq44 pmq44 anq44 cdq44 ctq44),slq44⟩)
  (cq44:W.codeIn K cdq44 "_law_between" = true) (kq44:W.keepIn K (.ref fq44)=true)
  (aq45:W.nsIn K mainGlobals "_law_told" = some (some (.ref fq45)))
  (lq45:K.lookup fq45=some ⟨ocq45,odq45,.func (W.fnOf "_law_told" "_law_told" (aK fO) (aF fO) (aq fO) .none kVq45 dcq45 pmq45 anq45 cdq45 ctq45),slq45⟩)
  (cq45:W.codeIn K cdq45 "_law_told" = true) (kq45:W.keepIn K (.ref fq45)=true)
  (aq46:W.nsIn K mainGlobals "law" = some (some (.ref fq46)))
  (lq46:K.lookup fq46=some ⟨ocq46,odq46,.func (W.fnOf "law" "law" (aK oX) (aF oX) (aq oX) .none kVq46 dcq46 pmq46 anq46 cdq46 ctq46),slq46⟩)
  (cq46:W.codeIn K cdq46 "law" = true) (kq46:W.keepIn K (.ref fq46)=true)
  (eLaw:cdq46 = .ref cLaw) (hLaw:W.codeHdIn K cLaw 377=true)
  (z_len:W.nsIn K mainGlobals "len" = some none)
  (z_range:W.nsIn K mainGlobals "range" = some none)
  (z_all:W.nsIn K mainGlobals "all" = some none)
  (z_isinstance:W.nsIn K mainGlobals "isinstance" = some none)
  (z_int:W.nsIn K mainGlobals "int" = some none)
  (z_bool:W.nsIn K mainGlobals "bool" = some none)
  (z_str:W.nsIn K mainGlobals "str" = some none)
  (z_list:W.nsIn K mainGlobals "list" = some none)
  (z_tuple:W.nsIn K mainGlobals "tuple" = some none)
  (z_abs:W.nsIn K mainGlobals "abs" = some none)
  (z_max:W.nsIn K mainGlobals "max" = some none)
  (z_min:W.nsIn K mainGlobals "min" = some none)
  (z_sum:W.nsIn K mainGlobals "sum" = some none)
  (z_sorted:W.nsIn K mainGlobals "sorted" = some none)
  (z_zip:W.nsIn K mainGlobals "zip" = some none)
  (z_reversed:W.nsIn K mainGlobals "reversed" = some none)
  (z_divmod:W.nsIn K mainGlobals "divmod" = some none)
  (z_set:W.nsIn K mainGlobals "set" = some none)
  (z_any:W.nsIn K mainGlobals "any" = some none)
  (z_enumerate:W.nsIn K mainGlobals "enumerate" = some none)
  (z_ValueError:W.nsIn K mainGlobals "ValueError" = some none)
  : ∃ (fd:FuncData) (c:Addr),W.codeHdIn K c 377=true/\(∀ (s:Shared) (v:Value),BindsTo s fd ⟨[v],[]⟩ [("_law_script",v)])/\∀ base:Heap,K.In base->base.Ns mainGlobals mg->yS mg c 377 base->cu l.prog w K mg base CX0 17 fa fd ["_law_script"] (Gh K 377):=by
 have e:=hfa.symm.trans (W.mg_of X G aq46)
 cases e
 have B:Bt mg:=⟨W.mg_none_of X G z_len,W.mg_none_of X G z_range,W.mg_none_of X G z_all,W.mg_none_of X G z_isinstance,W.mg_none_of X G z_int,W.mg_none_of X G z_bool,W.mg_none_of X G z_str,W.mg_none_of X G z_list,W.mg_none_of X G z_tuple,W.mg_none_of X G z_abs,W.mg_none_of X G z_max,W.mg_none_of X G z_min,W.mg_none_of X G z_sum,W.mg_none_of X G z_sorted,W.mg_none_of X G z_zip,W.mg_none_of X G z_reversed,W.mg_none_of X G z_divmod,W.mg_none_of X G z_set,W.mg_none_of X G z_any,W.mg_none_of X G z_enumerate⟩
 have Fq0:=bf (st:=kY) lq0 cq0 kq0
 have bq0:=Fq0.binds (ps:=["one","other"]) fun _ _ _ _ _ _ us hl=>by obtain⟨x0,x1,rfl⟩:=lU hl; rfl
 have mq0:=W.mg_of X G aq0
 have Fq1:=bf (st:=jg) lq1 cq1 kq1
 have bq1:=Fq1.binds (ps:=["one","other"]) fun _ _ _ _ _ _ us hl=>by obtain⟨x0,x1,rfl⟩:=lU hl; rfl
 have mq1:=W.mg_of X G aq1
 have Fq2:=bf (st:=zP) lq2 cq2 kq2
 have bq2:=Fq2.binds (ps:=["one","other"]) fun _ _ _ _ _ _ us hl=>by obtain⟨x0,x1,rfl⟩:=lU hl; rfl
 have mq2:=W.mg_of X G aq2
 have Fq3:=bf (st:=fQ) lq3 cq3 kq3
 have bq3:=Fq3.binds (ps:=["parts","giving"]) fun _ _ _ _ _ _ us hl=>by obtain⟨x0,x1,rfl⟩:=lU hl; rfl
 have mq3:=W.mg_of X G aq3
 have Fq4:=bf (st:=dW) lq4 cq4 kq4
 have bq4:=Fq4.binds (ps:=["parts","giving"]) fun _ _ _ _ _ _ us hl=>by obtain⟨x0,x1,rfl⟩:=lU hl; rfl
 have mq4:=W.mg_of X G aq4
 have Fq5:=bf (st:=j8) lq5 cq5 kq5
 have bq5:=Fq5.binds (ps:=["term","giving"]) fun _ _ _ _ _ _ us hl=>by obtain⟨x0,x1,rfl⟩:=lU hl; rfl
 have mq5:=W.mg_of X G aq5
 have Fq6:=bf (st:=qi) lq6 cq6 kq6
 have bq6:=Fq6.binds (ps:=["pledge","giving"]) fun _ _ _ _ _ _ us hl=>by obtain⟨x0,x1,rfl⟩:=lU hl; rfl
 have mq6:=W.mg_of X G aq6
 have Fq7:=bf (st:=dU) lq7 cq7 kq7
 have bq7:=Fq7.binds (ps:=["pledge"]) fun _ _ _ _ _ _ us hl=>by obtain⟨x0,rfl⟩:=G7 hl; rfl
 have mq7:=W.mg_of X G aq7
 have Fq8:=bf (st:=cU) lq8 cq8 kq8
 have bq8:=Fq8.binds (ps:=["book","floor","giving"]) fun _ _ _ _ _ _ us hl=>by obtain⟨x0,x1,x2,rfl⟩:=Bl hl; rfl
 have mq8:=W.mg_of X G aq8
 have Fq9:=bf (st:=pG) lq9 cq9 kq9
 have bq9:=Fq9.binds (ps:=["book","floor","giving"]) fun _ _ _ _ _ _ us hl=>by obtain⟨x0,x1,x2,rfl⟩:=Bl hl; rfl
 have mq9:=W.mg_of X G aq9
 have Fq10:=bf (st:=j0) lq10 cq10 kq10
 have bq10:=Fq10.binds (ps:=["book","floor","giving"]) fun _ _ _ _ _ _ us hl=>by obtain⟨x0,x1,x2,rfl⟩:=Bl hl; rfl
 have mq10:=W.mg_of X G aq10
 have Fq11:=bf (st:=pU) lq11 cq11 kq11
 have bq11:=Fq11.binds (ps:=["book","floor","giving"]) fun _ _ _ _ _ _ us hl=>by obtain⟨x0,x1,x2,rfl⟩:=Bl hl; rfl
 have mq11:=W.mg_of X G aq11
 have Fq12:=bf (st:=o6) lq12 cq12 kq12
 have bq12:=Fq12.binds (ps:=["book","floor"]) fun _ _ _ _ _ _ us hl=>by obtain⟨x0,x1,rfl⟩:=lU hl; rfl
 have mq12:=W.mg_of X G aq12
 have Fq13:=bf (st:=ir) lq13 cq13 kq13
 have bq13:=Fq13.binds (ps:=["book","floor","giving"]) fun _ _ _ _ _ _ us hl=>by obtain⟨x0,x1,x2,rfl⟩:=Bl hl; rfl
 have mq13:=W.mg_of X G aq13
 have Fq14:=bf (st:=pM) lq14 cq14 kq14
 have bq14:=Fq14.binds (ps:=["book","floor"]) fun _ _ _ _ _ _ us hl=>by obtain⟨x0,x1,rfl⟩:=lU hl; rfl
 have mq14:=W.mg_of X G aq14
 have Fq15:=bf (st:=pX) lq15 cq15 kq15
 have bq15:=Fq15.binds (ps:=["book","floor"]) fun _ _ _ _ _ _ us hl=>by obtain⟨x0,x1,rfl⟩:=lU hl; rfl
 have mq15:=W.mg_of X G aq15
 have Fq16:=bf (st:=kh) lq16 cq16 kq16
 have bq16:=Fq16.binds (ps:=["book","floor"]) fun _ _ _ _ _ _ us hl=>by obtain⟨x0,x1,rfl⟩:=lU hl; rfl
 have mq16:=W.mg_of X G aq16
 have Fq17:=bf (st:=fD) lq17 cq17 kq17
 have bq17:=Fq17.binds (ps:=["book","floor"]) fun _ _ _ _ _ _ us hl=>by obtain⟨x0,x1,rfl⟩:=lU hl; rfl
 have mq17:=W.mg_of X G aq17
 have Fq18:=bf (st:=j6) lq18 cq18 kq18
 have bq18:=Fq18.binds (ps:=["book","floor","giving"]) fun _ _ _ _ _ _ us hl=>by obtain⟨x0,x1,x2,rfl⟩:=Bl hl; rfl
 have mq18:=W.mg_of X G aq18
 have Fq19:=bf (st:=o8) lq19 cq19 kq19
 have bq19:=Fq19.binds (ps:=["book","floor","giving"]) fun _ _ _ _ _ _ us hl=>by obtain⟨x0,x1,x2,rfl⟩:=Bl hl; rfl
 have mq19:=W.mg_of X G aq19
 have Fq20:=bf (st:=dj) lq20 cq20 kq20
 have bq20:=Fq20.binds (ps:=["book","floor","giving"]) fun _ _ _ _ _ _ us hl=>by obtain⟨x0,x1,x2,rfl⟩:=Bl hl; rfl
 have mq20:=W.mg_of X G aq20
 have Fq21:=bf (st:=cT) lq21 cq21 kq21
 have bq21:=Fq21.binds (ps:=["book","floor","one","other"]) fun _ _ _ _ _ _ us hl=>by obtain⟨x0,x1,x2,x3,rfl⟩:=K1 hl; rfl
 have mq21:=W.mg_of X G aq21
 have Fq22:=bf (st:=fu) lq22 cq22 kq22
 have bq22:=Fq22.binds (ps:=["book","floor","one","other"]) fun _ _ _ _ _ _ us hl=>by obtain⟨x0,x1,x2,x3,rfl⟩:=K1 hl; rfl
 have mq22:=W.mg_of X G aq22
 have Fq23:=bf (st:=fH) lq23 cq23 kq23
 have bq23:=Fq23.binds (ps:=["_law_script","_law_k"]) fun _ _ _ _ _ _ us hl=>by obtain⟨x0,x1,rfl⟩:=lU hl; rfl
 have mq23:=W.mg_of X G aq23
 have Fq24:=bf (st:=dM) lq24 cq24 kq24
 have bq24:=Fq24.binds (ps:=["_law_cell_here","_law_parts"]) fun _ _ _ _ _ _ us hl=>by obtain⟨x0,x1,rfl⟩:=lU hl; rfl
 have mq24:=W.mg_of X G aq24
 have Fq25:=bf (st:=fJ) lq25 cq25 kq25
 have bq25:=Fq25.binds (ps:=["_law_found","_law_due_here"]) fun _ _ _ _ _ _ us hl=>by obtain⟨x0,x1,rfl⟩:=lU hl; rfl
 have mq25:=W.mg_of X G aq25
 have Fq26:=bf (st:=dR) lq26 cq26 kq26
 have bq26:=Fq26.binds (ps:=["_law_cell_here","_law_k"]) fun _ _ _ _ _ _ us hl=>by obtain⟨x0,x1,rfl⟩:=lU hl; rfl
 have mq26:=W.mg_of X G aq26
 have Fq27:=bf (st:=dX) lq27 cq27 kq27
 have bq27:=Fq27.binds (ps:=["_law_number","_law_n"]) fun _ _ _ _ _ _ us hl=>by obtain⟨x0,x1,rfl⟩:=lU hl; rfl
 have mq27:=W.mg_of X G aq27
 have Fq28:=bf (st:=fL) lq28 cq28 kq28
 have bq28:=Fq28.binds (ps:=["_law_cell_here","_law_n","_law_deep","_law_most"]) fun _ _ _ _ _ _ us hl=>by obtain⟨x0,x1,x2,x3,rfl⟩:=K1 hl; rfl
 have mq28:=W.mg_of X G aq28
 have Fq29:=bf (st:=cR) lq29 cq29 kq29
 have bq29:=Fq29.binds (ps:=["_law_term_here","_law_row"]) fun _ _ _ _ _ _ us hl=>by obtain⟨x0,x1,rfl⟩:=lU hl; rfl
 have mq29:=W.mg_of X G aq29
 have Fq30:=bf (st:=fG) lq30 cq30 kq30
 have bq30:=Fq30.binds (ps:=["_law_cell_here","_law_n","_law_one","_law_deep","_law_most"]) fun _ _ _ _ _ _ us hl=>by obtain⟨x0,x1,x2,x3,x4,rfl⟩:=Ou hl; rfl
 have mq30:=W.mg_of X G aq30
 have Fq31:=bf (st:=dw) lq31 cq31 kq31
 have bq31:=Fq31.binds (ps:=["_law_cell_here","_law_n","_law_one","_law_deep","_law_most"]) fun _ _ _ _ _ _ us hl=>by obtain⟨x0,x1,x2,x3,x4,rfl⟩:=Ou hl; rfl
 have mq31:=W.mg_of X G aq31
 have Fq32:=bf (st:=fM) lq32 cq32 kq32
 have bq32:=Fq32.binds (ps:=["_law_script","_law_start","_law_n","_law_most"]) fun _ _ _ _ _ _ us hl=>by obtain⟨x0,x1,x2,x3,rfl⟩:=K1 hl; rfl
 have mq32:=W.mg_of X G aq32
 have Fq33:=bf (st:=dm) lq33 cq33 kq33
 have bq33:=Fq33.binds (ps:=["_law_cell_here","_law_n","_law_most"]) fun _ _ _ _ _ _ us hl=>by obtain⟨x0,x1,x2,rfl⟩:=Bl hl; rfl
 have mq33:=W.mg_of X G aq33
 have Fq34:=bf (st:=d8) lq34 cq34 kq34
 have bq34:=Fq34.binds (ps:=["_law_script"]) fun _ _ _ _ _ _ us hl=>by obtain⟨x0,rfl⟩:=G7 hl; rfl
 have mq34:=W.mg_of X G aq34
 have Fq35:=bf (st:=d7) lq35 cq35 kq35
 have bq35:=Fq35.binds (ps:=["_law_term_here","_law_giving_here"]) fun _ _ _ _ _ _ us hl=>by obtain⟨x0,x1,rfl⟩:=lU hl; rfl
 have mq35:=W.mg_of X G aq35
 have Fq36:=bf (st:=fU) lq36 cq36 kq36
 have bq36:=Fq36.binds (ps:=["_law_pledge_here","_law_giving_here"]) fun _ _ _ _ _ _ us hl=>by obtain⟨x0,x1,rfl⟩:=lU hl; rfl
 have mq36:=W.mg_of X G aq36
 have Fq37:=bf (st:=fP) lq37 cq37 kq37
 have bq37:=Fq37.binds (ps:=["_law_some","_law_giving_here"]) fun _ _ _ _ _ _ us hl=>by obtain⟨x0,x1,rfl⟩:=lU hl; rfl
 have mq37:=W.mg_of X G aq37
 have Fq38:=bf (st:=iD) lq38 cq38 kq38
 have bq38:=Fq38.binds (ps:=["_law_book_here","_law_floor","_law_giving_here"]) fun _ _ _ _ _ _ us hl=>by obtain⟨x0,x1,x2,rfl⟩:=Bl hl; rfl
 have mq38:=W.mg_of X G aq38
 have Fq39:=bf (st:=iu) lq39 cq39 kq39
 have bq39:=Fq39.binds (ps:=["_law_tops"]) fun _ _ _ _ _ _ us hl=>by obtain⟨x0,rfl⟩:=G7 hl; rfl
 have mq39:=W.mg_of X G aq39
 have Fq40:=bf (st:=d9) lq40 cq40 kq40
 have bq40:=Fq40.binds (ps:=["_law_one","_law_other"]) fun _ _ _ _ _ _ us hl=>by obtain⟨x0,x1,rfl⟩:=lU hl; rfl
 have mq40:=W.mg_of X G aq40
 have Fq41:=bf (st:=cQ) lq41 cq41 kq41
 have bq41:=Fq41.binds (ps:=["_law_asked"]) fun _ _ _ _ _ _ us hl=>by obtain⟨x0,rfl⟩:=G7 hl; rfl
 have mq41:=W.mg_of X G aq41
 have Fq42:=bf (st:=cG) lq42 cq42 kq42
 have bq42:=Fq42.binds (ps:=["_law_script","_law_start"]) fun _ _ _ _ _ _ us hl=>by obtain⟨x0,x1,rfl⟩:=lU hl; rfl
 have mq42:=W.mg_of X G aq42
 have Fq43:=bf (st:=dY) lq43 cq43 kq43
 have bq43:=Fq43.binds (ps:=["_law_cell_here","_law_many"]) fun _ _ _ _ _ _ us hl=>by obtain⟨x0,x1,rfl⟩:=lU hl; rfl
 have mq43:=W.mg_of X G aq43
 have Fq44:=bf (st:=cP) lq44 cq44 kq44
 have bq44:=Fq44.binds (ps:=["_law_rows","_law_one","_law_other"]) fun _ _ _ _ _ _ us hl=>by obtain⟨x0,x1,x2,rfl⟩:=Bl hl; rfl
 have mq44:=W.mg_of X G aq44
 have Fq45:=bf (st:=fO) lq45 cq45 kq45
 have bq45:=Fq45.binds (ps:=["_law_book_here","_law_floor","_law_one","_law_other"]) fun _ _ _ _ _ _ us hl=>by obtain⟨x0,x1,x2,x3,rfl⟩:=K1 hl; rfl
 have mq45:=W.mg_of X G aq45
 have Fq46:=bf (st:=oX) lq46 cq46 kq46
 have bq46:=Fq46.binds (ps:=["_law_script"]) fun _ _ _ _ _ _ us hl=>by obtain⟨x0,rfl⟩:=G7 hl; rfl
 have mq46:=W.mg_of X G aq46
 have mw0:=W.mg_of X G acw0
 have XCw0:zR K Cw0 fiw0 "word":=⟨⟨_,_,_,_,_,_,_,_,_,_,_,_,_,_,_,_,ocw0,vew0⟩,icw0,tcw0,pcw0,scw0,⟨_,dcw0,ucw0,hcw0⟩,kcw0⟩
 have Fiw0:=bf (st:=inClass dZ 0) liw0 ciw0 kiw0
 have biw0:=Fiw0.binds (ps:=["self","word"]) fun _ _ _ _ _ _ us hl=>by obtain⟨x0,x1,rfl⟩:=lU hl; rfl
 have z_V:=W.mg_none_of X G z_ValueError
 have Ow0:Bg K Cw0 mc "__init__" fiw0:=⟨xgaw0,xrdw0,xfdw0,kiw0,rfl⟩
 have mw1:=W.mg_of X G acw1
 have XCw1:zR K Cw1 fiw1 "word":=⟨⟨_,_,_,_,_,_,_,_,_,_,_,_,_,_,_,_,ocw1,vew1⟩,icw1,tcw1,pcw1,scw1,⟨_,dcw1,ucw1,hcw1⟩,kcw1⟩
 have Fiw1:=bf (st:=inClass iB 0) liw1 ciw1 kiw1
 have biw1:=Fiw1.binds (ps:=["self"]) fun _ _ _ _ _ _ us hl=>by obtain⟨x0,rfl⟩:=G7 hl; rfl
 have Rw1:XRd K Cw1 Cw0 "word":=⟨⟨_,_,_,_,_,_,_,_,_,_,_,_,_,_,_,_,_,ocw1,mrw1⟩,⟨_,_,_,_,_,_,_,_,_,_,_,_,_,_,_,_,_,ocw0,vew0.b⟩,gcw1,ghw1,⟨_,dcw1,ucw1⟩,by unfold W.hasDictIn; rw[dcw1]; exact hcw1,ncw1⟩
 have mw2:=W.mg_of X G acw2
 have XCw2:zR K Cw2 fiw2 "word":=⟨⟨_,_,_,_,_,_,_,_,_,_,_,_,_,_,_,_,ocw2,vew2⟩,icw2,tcw2,pcw2,scw2,⟨_,dcw2,ucw2,hcw2⟩,kcw2⟩
 have Fiw2:=bf (st:=inClass fK 0) liw2 ciw2 kiw2
 have biw2:=Fiw2.binds (ps:=["self"]) fun _ _ _ _ _ _ us hl=>by obtain⟨x0,rfl⟩:=G7 hl; rfl
 have Rw2:XRd K Cw2 Cw0 "word":=⟨⟨_,_,_,_,_,_,_,_,_,_,_,_,_,_,_,_,_,ocw2,mrw2⟩,⟨_,_,_,_,_,_,_,_,_,_,_,_,_,_,_,_,_,ocw0,vew0.b⟩,gcw2,ghw2,⟨_,dcw2,ucw2⟩,by unfold W.hasDictIn; rw[dcw2]; exact hcw2,ncw2⟩
 have mw3:=W.mg_of X G acw3
 have XCw3:zR K Cw3 fiw3 "word":=⟨⟨_,_,_,_,_,_,_,_,_,_,_,_,_,_,_,_,ocw3,vew3⟩,icw3,tcw3,pcw3,scw3,⟨_,dcw3,ucw3,hcw3⟩,kcw3⟩
 have Fiw3:=bf (st:=inClass iw 0) liw3 ciw3 kiw3
 have biw3:=Fiw3.binds (ps:=["self"]) fun _ _ _ _ _ _ us hl=>by obtain⟨x0,rfl⟩:=G7 hl; rfl
 have Rw3:XRd K Cw3 Cw0 "word":=⟨⟨_,_,_,_,_,_,_,_,_,_,_,_,_,_,_,_,_,ocw3,mrw3⟩,⟨_,_,_,_,_,_,_,_,_,_,_,_,_,_,_,_,_,ocw0,vew0.b⟩,gcw3,ghw3,⟨_,dcw3,ucw3⟩,by unfold W.hasDictIn; rw[dcw3]; exact hcw3,ncw3⟩
 subst eLaw
 have FC_law:Nk K "law" "law" oX fa _ cLaw:=⟨⟨_,_,_,_,_,_,_,_,rfl,lq46,cq46⟩⟩
 refine⟨W.fnOf "law" "law" (aK oX) (aF oX) (aq oX) .none kVq46 dcq46 pmq46 anq46 (.ref cLaw) ctq46,cLaw,hLaw,fun s v=>.of_eq rfl,fun base _ _ HP=>?_⟩
 have Dq23:Df l.prog w K mg base "_law_cell" 1 ["_law_script","_law_k"] (uA K):=⟨⟨_,_,vP Fq23 B,mq23,kq23,bq23⟩⟩
 have Dq24:Df l.prog w K mg base "_law_draws" 1 ["_law_cell_here","_law_parts"] (jc K):=⟨⟨_,_,uP Fq24 B,mq24,kq24,bq24⟩⟩
 have Dq26:Df l.prog w K mg base "_law_under" 1 ["_law_cell_here","_law_k"] (mR):=⟨⟨_,_,tH Fq26 B,mq26,kq26,bq26⟩⟩
 have Dq27:Df l.prog w K mg base "_law_crowd" 1 ["_law_number","_law_n"] (qF):=⟨⟨_,_,uN Fq27 B,mq27,kq27,bq27⟩⟩
 have Dq33:Df l.prog w K mg base "_law_giving" 2 ["_law_cell_here","_law_n","_law_most"] (rZ):=⟨⟨_,_,qy Fq33 B Dq24,mq33,kq33,bq33⟩⟩
 have S0:Df l.prog w K mg base "_law_same" 0 ["_law_found","_law_due_here"] (jq 0):=⟨⟨_,_,same_none,mq25,kq25,bq25⟩⟩
 have S1:Df l.prog w K mg base "_law_same" 1 ["_law_found","_law_due_here"] (jq 1):=⟨⟨_,_,iI Fq25 B S0,mq25,kq25,bq25⟩⟩
 have S2:Df l.prog w K mg base "_law_same" 2 ["_law_found","_law_due_here"] (jq 2):=⟨⟨_,_,iI Fq25 B S1,mq25,kq25,bq25⟩⟩
 have S3:Df l.prog w K mg base "_law_same" 3 ["_law_found","_law_due_here"] (jq 3):=⟨⟨_,_,iI Fq25 B S2,mq25,kq25,bq25⟩⟩
 have S4:Df l.prog w K mg base "_law_same" 4 ["_law_found","_law_due_here"] (jq 4):=⟨⟨_,_,iI Fq25 B S3,mq25,kq25,bq25⟩⟩
 have T0:Df l.prog w K mg base "_law_term" 1 ["_law_cell_here","_law_n","_law_deep","_law_most"] (jP 0):=⟨⟨_,_,term_none,mq28,kq28,bq28⟩⟩
 have T1:Df l.prog w K mg base "_law_term" 2 ["_law_cell_here","_law_n","_law_deep","_law_most"] (jP 1):=⟨⟨_,_,jy Fq28 B Dq24 Dq26 Dq27 T0,mq28,kq28,bq28⟩⟩
 have T2:Df l.prog w K mg base "_law_term" 3 ["_law_cell_here","_law_n","_law_deep","_law_most"] (jP 2):=⟨⟨_,_,jy Fq28 B Dq24 Dq26 Dq27 T1,mq28,kq28,bq28⟩⟩
 have T3:Df l.prog w K mg base "_law_term" 4 ["_law_cell_here","_law_n","_law_deep","_law_most"] (jP 3):=⟨⟨_,_,jy Fq28 B Dq24 Dq26 Dq27 T2,mq28,kq28,bq28⟩⟩
 have R0:Df l.prog w K mg base "_law_renamed" 0 ["_law_term_here","_law_row"] (qI K 0):=⟨⟨_,_,Ex,mq29,kq29,bq29⟩⟩
 have R1:Df l.prog w K mg base "_law_renamed" 1 ["_law_term_here","_law_row"] (qI K 1):=⟨⟨_,_,gY Fq29 B R0,mq29,kq29,bq29⟩⟩
 have R2:Df l.prog w K mg base "_law_renamed" 2 ["_law_term_here","_law_row"] (qI K 2):=⟨⟨_,_,gY Fq29 B R1,mq29,kq29,bq29⟩⟩
 have R3:Df l.prog w K mg base "_law_renamed" 3 ["_law_term_here","_law_row"] (qI K 3):=⟨⟨_,_,gY Fq29 B R2,mq29,kq29,bq29⟩⟩
 have Dq30:Df l.prog w K mg base "_law_mine" 5 ["_law_cell_here","_law_n","_law_one","_law_deep","_law_most"] (Ce):=⟨⟨_,_,wH Fq30 B T3 R3,mq30,kq30,bq30⟩⟩
 have Dq31:Df l.prog w K mg base "_law_pledge" 6 ["_law_cell_here","_law_n","_law_one","_law_deep","_law_most"] (sG):=⟨⟨_,_,rm Fq31 B Dq24 Dq26 Dq27 Dq30,mq31,kq31,bq31⟩⟩
 have Dq32:Df l.prog w K mg base "_law_book" 7 ["_law_script","_law_start","_law_n","_law_most"] (BL K):=⟨⟨_,_,vC Fq32 B Dq23 Dq24 Dq26 Dq31,mq32,kq32,bq32⟩⟩
 have Dq34:Df l.prog w K mg base "_law_scene" 8 ["_law_script"] (vD K):=⟨⟨_,_,uf Fq34 B Dq23 Dq24 Dq33 Dq32,mq34,kq34,bq34⟩⟩
 have Dq42:Df l.prog w K mg base "_law_scene_at" 9 ["_law_script","_law_start"] (mX K):=⟨⟨_,_,mL Fq42 B Dq34,mq42,kq42,bq42⟩⟩
 have Dq39:Df l.prog w K mg base "_law_box" 1 ["_law_tops"] (Km K):=⟨⟨_,_,zF Fq39 B,mq39,kq39,bq39⟩⟩
 have L0:Df l.prog w K mg base "_law_holds" 0 ["_law_term_here","_law_giving_here"] (cg K 0):=⟨⟨_,_,vZ,mq35,kq35,bq35⟩⟩
 have L1:Df l.prog w K mg base "_law_holds" 1 ["_law_term_here","_law_giving_here"] (cg K 1):=⟨⟨_,_,gR Fq35 B L0,mq35,kq35,bq35⟩⟩
 have L2:Df l.prog w K mg base "_law_holds" 2 ["_law_term_here","_law_giving_here"] (cg K 2):=⟨⟨_,_,gR Fq35 B L1,mq35,kq35,bq35⟩⟩
 have L3:Df l.prog w K mg base "_law_holds" 3 ["_law_term_here","_law_giving_here"] (cg K 3):=⟨⟨_,_,gR Fq35 B L2,mq35,kq35,bq35⟩⟩
 have L4:Df l.prog w K mg base "_law_holds" 4 ["_law_term_here","_law_giving_here"] (cg K 4):=⟨⟨_,_,gR Fq35 B L3,mq35,kq35,bq35⟩⟩
 have Dq36:Df l.prog w K mg base "_law_owes" 5 ["_law_pledge_here","_law_giving_here"] (qj K):=⟨⟨_,_,wy Fq36 B L4,mq36,kq36,bq36⟩⟩
 have Dq37:Df l.prog w K mg base "_law_owed" 6 ["_law_some","_law_giving_here"] (DQ K):=⟨⟨_,_,wC Fq37 B Dq36,mq37,kq37,bq37⟩⟩
 have Dq38:Df l.prog w K mg base "_law_due" 7 ["_law_book_here","_law_floor","_law_giving_here"] (qO K):=⟨⟨_,_,yV Fq38 B Dq37,mq38,kq38,bq38⟩⟩
 have Dq40:Df l.prog w K mg base "_law_above" 1 ["_law_one","_law_other"] (rG K):=⟨⟨_,_,uq Fq40 B,mq40,kq40,bq40⟩⟩
 have H0:Df l.prog w K mg base "holds" 0 ["term","giving"] (cg K 0):=⟨⟨_,_,zL,mq5,kq5,bq5⟩⟩
 have A1:Df l.prog w K mg base "all_hold" 1 ["parts","giving"] (pR K 0):=⟨⟨_,_,iJ Fq3 B H0,mq3,kq3,bq3⟩⟩
 have Y1:Df l.prog w K mg base "any_holds" 1 ["parts","giving"] (pC K 0):=⟨⟨_,_,gU Fq4 B H0,mq4,kq4,bq4⟩⟩
 have H1:Df l.prog w K mg base "holds" 2 ["term","giving"] (cg K 1):=⟨⟨_,_,mD Fq5 B A1 Y1,mq5,kq5,bq5⟩⟩
 have A2:Df l.prog w K mg base "all_hold" 3 ["parts","giving"] (pR K 1):=⟨⟨_,_,iJ Fq3 B H1,mq3,kq3,bq3⟩⟩
 have Y2:Df l.prog w K mg base "any_holds" 3 ["parts","giving"] (pC K 1):=⟨⟨_,_,gU Fq4 B H1,mq4,kq4,bq4⟩⟩
 have H2:Df l.prog w K mg base "holds" 4 ["term","giving"] (cg K 2):=⟨⟨_,_,mD Fq5 B A2 Y2,mq5,kq5,bq5⟩⟩
 have A3:Df l.prog w K mg base "all_hold" 5 ["parts","giving"] (pR K 2):=⟨⟨_,_,iJ Fq3 B H2,mq3,kq3,bq3⟩⟩
 have Y3:Df l.prog w K mg base "any_holds" 5 ["parts","giving"] (pC K 2):=⟨⟨_,_,gU Fq4 B H2,mq4,kq4,bq4⟩⟩
 have H3:Df l.prog w K mg base "holds" 6 ["term","giving"] (cg K 3):=⟨⟨_,_,mD Fq5 B A3 Y3,mq5,kq5,bq5⟩⟩
 have A4:Df l.prog w K mg base "all_hold" 7 ["parts","giving"] (pR K 3):=⟨⟨_,_,iJ Fq3 B H3,mq3,kq3,bq3⟩⟩
 have Y4:Df l.prog w K mg base "any_holds" 7 ["parts","giving"] (pC K 3):=⟨⟨_,_,gU Fq4 B H3,mq4,kq4,bq4⟩⟩
 have H4:Df l.prog w K mg base "holds" 8 ["term","giving"] (cg K 4):=⟨⟨_,_,mD Fq5 B A4 Y4,mq5,kq5,bq5⟩⟩
 have Dq6:Df l.prog w K mg base "owes" 9 ["pledge","giving"] (qj K):=⟨⟨_,_,JG Fq6 B H4,mq6,kq6,bq6⟩⟩
 have Dq7:Df l.prog w K mg base "last_step" 1 ["pledge"] (Cy):=⟨⟨_,_,tE Fq7 B,mq7,kq7,bq7⟩⟩
 have Dq8:Df l.prog w K mg base "what_is_due" 10 ["book","floor","giving"] (qO K):=⟨⟨_,_,oU Fq8 B Dq6,mq8,kq8,bq8⟩⟩
 have Dq12:Df l.prog w K mg base "roof" 2 ["book","floor"] (Ax K):=⟨⟨_,_,Kd Fq12 B Dq7,mq12,kq12,bq12⟩⟩
 have Dq0:Df l.prog w K mg base "above" 1 ["one","other"] (qm K):=⟨⟨_,_,Eu Fq0 B,mq0,kq0,bq0⟩⟩
 have Dq9:Df l.prog w K mg base "kept" 11 ["book","floor","giving"] (iH K abv):=⟨⟨_,_,J0 (by decide) Fq9 B Dq8 Dq0,mq9,kq9,bq9⟩⟩
 have Dq10:Df l.prog w K mg base "clear" 11 ["book","floor","giving"] (iH K fun d g=>abv g d):=⟨⟨_,_,DY (by decide) Fq10 B Dq8 Dq0,mq10,kq10,bq10⟩⟩
 have Dq11:Df l.prog w K mg base "even" 11 ["book","floor","giving"] (iH K fun d g=>decide (d=g)):=⟨⟨_,_,Kf Fq11 B Dq8,mq11,kq11,bq11⟩⟩
 have Dq13:Df l.prog w K mg base "settled" 11 ["book","floor","giving"] (ik K):=⟨⟨_,_,zy Fq13 B Dq8,mq13,kq13,bq13⟩⟩
 have Dq14:Df l.prog w K mg base "rise" 12 ["book","floor"] (j4 KH):=⟨⟨_,_,J2 Fq14 B Dq13,mq14,kq14,bq14⟩⟩
 have Dq15:Df l.prog w K mg base "fall" 12 ["book","floor"] (j4 rfF):=⟨⟨_,_,Jd (by decide) Fq15 B Dq13 Dq12,mq15,kq15,bq15⟩⟩
 have Dq16:Df l.prog w K mg base "least" 13 ["book","floor"] (zG KH):=⟨⟨_,_,Eh Fq16 B Dq14,mq16,kq16,bq16⟩⟩
 have Dq17:Df l.prog w K mg base "greatest" 13 ["book","floor"] (zG rfF):=⟨⟨_,_,vY Fq17 B Dq15,mq17,kq17,bq17⟩⟩
 have Dq43:Df l.prog w K mg base "_law_picks" 2 ["_law_cell_here","_law_many"] (vI):=⟨⟨_,_,uZ Fq43 B Dq24,mq43,kq43,bq43⟩⟩
 have FB:=Ei (P:=l.prog) (w:=w) (mg:=mg) (base:=base) Fiw0 z_V
 have Xw1:Xc l.prog w K mg base "NotKept" Cw1 "not kept":=⟨⟨_,_,Eb Fiw1 mw0 Ow0 FB biw0,mw1,XCw1,biw1⟩⟩
 have Xw2:Xc l.prog w K mg base "NotClear" Cw2 "not clear":=⟨⟨_,_,Ft Fiw2 mw0 Ow0 FB biw0,mw2,XCw2,biw2⟩⟩
 have Xw3:Xc l.prog w K mg base "NotEven" Cw3 "not even":=⟨⟨_,_,Gb Fiw3 mw0 Ow0 FB biw0,mw3,XCw3,biw3⟩⟩
 have Dq1:Df l.prog w K mg base "joined" 1 ["one","other"] (qQ K):=⟨⟨_,_,Am Fq1 B,mq1,kq1,bq1⟩⟩
 have Dq2:Df l.prog w K mg base "met" 1 ["one","other"] (Ky K):=⟨⟨_,_,M4 Fq2 B,mq2,kq2,bq2⟩⟩
 have Dq18:Dx l.prog w K mg base "risen" 12 ["book","floor","giving"] (kJ Cw1 "not kept" abv):=⟨⟨_,_,FP Fq18 B Dq9 Dq13 Xw1,mq18,kq18,bq18⟩⟩
 have Dq19:Dx l.prog w K mg base "sunk" 12 ["book","floor","giving"] (kJ Cw2 "not clear" fun d g=>abv g d):=⟨⟨_,_,Jc Fq19 B Dq10 Dq13 Xw2,mq19,kq19,bq19⟩⟩
 have Dq20:Dx l.prog w K mg base "check_even" 12 ["book","floor","giving"] (qJ Cw3):=⟨⟨_,_,qX Fq20 B Dq11 Xw3,mq20,kq20,bq20⟩⟩
 have Dq21:Dx l.prog w K mg base "joined_even" 13 ["book","floor","one","other"] (iV Cw3 jnF):=⟨⟨_,_,oJ Fq21 B Dq20 Dq18 Dq1,mq21,kq21,bq21⟩⟩
 have Dq22:Dx l.prog w K mg base "met_even" 13 ["book","floor","one","other"] (iV Cw3 mtF):=⟨⟨_,_,wz Fq22 B Dq20 Dq19 Dq2,mq22,kq22,bq22⟩⟩
 have Dq45:Df l.prog w K mg base "_law_told" 14 ["_law_book_here","_law_floor","_law_one","_law_other"] (Bw):=⟨⟨_,_,vK Fq45 B Dq21 Dq22,mq45,kq45,bq45⟩⟩
 have Dq44:Df l.prog w K mg base "_law_between" 2 ["_law_rows","_law_one","_law_other"] (oE K):=⟨⟨_,_,oR Fq44 B Dq40,mq44,kq44,bq44⟩⟩
 exact K8 FC_law B HP mw0 Rw3 Fq41 mq41 Dq21 Dq22 Dq23 Dq42 Dq39 Dq38 Dq43 Dq44 Dq45 Dq16 Dq17 S4
theorem walk {l:W.OpenLaw} {q:Program} {loose:List Str} {XP:(Str->Option Value)->Heap->Prop} {YP:World->Heap->Prop} {d:DefRec} {K:Params->W.Frag} (hn:l.most=some 63) (hdf:d.params.defaults=[])
  (hY:∀ (w:World) (h:Heap),YP w h->(K w.params).In h/\h.get? 377=some (W.tabObj #[])) (hno:∀ w:World,W.noTabs (K w.params)=true)
  (F:∀ (w:World) (mg:Str->Option Value) (fa:Addr) (h:Heap),(K w.params).In h->h.Ns mainGlobals mg->mg d.name=some (.ref fa)->∃ (fd:FuncData) (c:Addr),W.codeHdIn (K w.params) c 377=true/\(∀ (s:Shared) (u:Value),BindsTo s fd ⟨[u],[]⟩ [("_law_script",u)]) ∧
   ∀ base:Heap,(K w.params).In base->base.Ns mainGlobals mg->yS mg c 377 base->cu l.prog w (K w.params) mg base CX0 17 fa fd ["_law_script"] (Gh (K w.params) 377)) :
  W.WalkO q loose XP YP l.row.toRowW d [] (fun f vs=>PySem.call f vs) :=
 L2.Ek (n:=63) (k:=17) (x:="_law_script") (q:=KJ) (T:=377) (sp:=fun w=>Gh (K w.params) 377) hn (by decide) hdf ⟨rfl,by decide,by decide⟩ hY hno F fun _ _ a ns hl hT hS=>⟨a,ns,rfl,hS,hl,hT,fun _=>rfl⟩
end My
end
open PySem PySem.W PyProof.Rows
theorem PySem.Challenge.cw_loveboon_k26_whole_even_givings_joined_a_holds.tw13337632082344326979:True:=trivial
theorem PySem.Challenge.cw_loveboon_k26_whole_even_givings_joined_a_holds.tw8842639213380965685:True:=trivial
theorem PySem.Challenge.cw_loveboon_k26_whole_even_givings_joined_a_holds.tw12617017153915615892:True:=trivial
theorem PySem.Challenge.cw_loveboon_k26_whole_even_givings_joined_a_holds.tw15155062529110957005:True:=trivial
theorem PySem.Challenge.cw_loveboon_k26_whole_even_givings_joined_a_holds.tw10193742465366500758:True:=trivial
theorem PySem.Challenge.cw_loveboon_k26_whole_even_givings_joined_a_holds.tw3580952003045389935:True:=trivial
theorem PySem.Challenge.cw_loveboon_k26_whole_even_givings_joined_a_holds.tw5896046073652162337:True:=trivial
theorem PySem.Challenge.cw_loveboon_k26_whole_even_givings_joined_a_holds.tw4485578979226161187:True:=trivial
theorem PySem.Challenge.cw_loveboon_k26_whole_even_givings_joined_a_holds.tw14390807329124389220:True:=trivial
theorem PySem.Challenge.cw_loveboon_k26_whole_even_givings_joined_a_holds.tw9352366123652262332:True:=trivial
theorem PySem.Challenge.cw_loveboon_k26_whole_even_givings_joined_a_holds.tw4342137000702844200:True:=trivial
theorem PySem.Challenge.cw_loveboon_k26_whole_even_givings_joined_a_holds.tw17856511408687386583:True:=trivial
theorem PySem.Challenge.cw_loveboon_k26_whole_even_givings_joined_a_holds.tw8673538975712872154:True:=trivial
theorem PySem.Challenge.cw_loveboon_k26_whole_even_givings_joined_a_holds.tw11595954524911055711:True:=trivial
theorem PySem.Challenge.cw_loveboon_k26_whole_even_givings_joined_a_holds.tw16359161476578344483:True:=trivial
theorem PySem.Challenge.cw_loveboon_k26_whole_even_givings_joined_a_holds.tw3165861239013951121:True:=trivial
theorem PySem.Challenge.cw_loveboon_k26_whole_even_givings_joined_a_holds.tw1079840554581555510:True:=trivial
theorem PySem.Challenge.cw_loveboon_k26_whole_even_givings_joined_a_holds.tw14195429817531420254:True:=trivial
theorem PySem.Challenge.cw_loveboon_k26_whole_even_givings_joined_a_holds.tw13650059714731715259:True:=trivial
theorem PySem.Challenge.cw_loveboon_k26_whole_even_givings_joined_a_holds.tw16810757268390021267:True:=trivial
theorem PySem.Challenge.cw_loveboon_k26_whole_even_givings_joined_a_holds.tw16647359062183926359:True:=trivial
theorem PySem.Challenge.cw_loveboon_k26_whole_even_givings_joined_a_holds.tw8176893289802298420:True:=trivial
theorem PySem.Challenge.cw_loveboon_k26_whole_even_givings_joined_a_holds.tw4957687464928153638:True:=trivial
theorem PySem.Challenge.cw_loveboon_k26_whole_even_givings_joined_a_holds.tw15602277043279262122:True:=trivial
theorem PySem.Challenge.cw_loveboon_k26_whole_even_givings_joined_a_holds.tw4209166675093582552:True:=trivial
theorem PySem.Challenge.cw_loveboon_k26_whole_even_givings_joined_a_holds.tw10774519310836624347:True:=trivial
theorem PySem.Challenge.cw_loveboon_k26_whole_even_givings_joined_a_holds.tw18409773961326556073:True:=trivial
theorem PySem.Challenge.cw_loveboon_k26_whole_even_givings_joined_a_holds.tw8157650372773459331:True:=trivial
theorem PySem.Challenge.cw_loveboon_k26_whole_even_givings_joined_a_holds.tw14413225171458270632:True:=trivial
theorem PySem.Challenge.cw_loveboon_k26_whole_even_givings_joined_a_holds.tw11839765916693513465:True:=trivial
theorem PySem.Challenge.cw_loveboon_k26_whole_even_givings_joined_a_holds.tw13812424409125101829:True:=trivial
theorem PySem.Challenge.cw_loveboon_k26_whole_even_givings_joined_a_holds.tw6656123380607329328:True:=trivial
theorem PySem.Challenge.cw_loveboon_k26_whole_even_givings_joined_a_holds.tw9720677832523844060:True:=trivial
theorem PySem.Challenge.cw_loveboon_k26_whole_even_givings_joined_a_holds.tw3951568143649690592:True:=trivial
theorem PySem.Challenge.cw_loveboon_k26_whole_even_givings_joined_a_holds.tw14458570823014446910:True:=trivial
theorem PySem.Challenge.cw_loveboon_k26_whole_even_givings_joined_a_holds.tw13302241015184535907:True:=trivial
theorem PySem.Challenge.cw_loveboon_k26_whole_even_givings_joined_a_holds.tw6344268989906913259:True:=trivial
theorem PySem.Challenge.cw_loveboon_k26_whole_even_givings_joined_a_holds.tw12414324910100498165:True:=trivial
theorem PySem.Challenge.cw_loveboon_k26_whole_even_givings_joined_a_holds.tw17077398412822777027:True:=trivial
theorem PySem.Challenge.cw_loveboon_k26_whole_even_givings_joined_a_holds.tw332692821831234667:True:=trivial
theorem PySem.Challenge.cw_loveboon_k26_whole_even_givings_joined_a_holds.tw3429439447367300551:True:=trivial
theorem PySem.Challenge.cw_loveboon_k26_whole_even_givings_joined_a_holds.tw7316114356457082122:True:=trivial
theorem PySem.Challenge.cw_loveboon_k26_whole_even_givings_joined_a_holds.tw13869355996636543536:True:=trivial
set_option maxRecDepth 100000 in
set_option maxHeartbeats 0 in
theorem PySem.Challenge.cw_loveboon_k26_whole_even_givings_joined_a_holds : PySem.Challenge.rw_loveboon_k26_whole_even_givings_joined_a.Holds := by
 w_on; o_law; k_head; (case hw=>w_witness2)
 k_fill
 refine My.walk (l:=PySem.Challenge.rw_loveboon_k26_whole_even_givings_joined_a) rfl rfl (fun w h Y=>⟨W.km_in_of Y,W.km_tabs_of Y 377 (by simp)⟩) (fun w=>by kernel_rfl) ?Fmain
 case Fmain =>
  intro w mg fa h KX G hmg
  refine' My.all_mk KX G hmg ?acw0 ?ocw0 ?vew0 ?icw0 ?tcw0 ?pcw0 ?scw0 ?dcw0 ?ucw0 ?hcw0 ?kcw0 ?gcw0 ?ghw0 ?ncw0 ?liw0 ?ciw0 ?kiw0 ?xgaw0 ?xtyw0 ?xrdw0 ?xfdw0 ?acw1 ?ocw1 ?vew1 ?icw1 ?tcw1 ?pcw1 ?scw1 ?dcw1 ?ucw1 ?hcw1 ?kcw1 ?gcw1 ?ghw1 ?ncw1 ?liw1 ?ciw1 ?kiw1 ?mrw1 ?acw2 ?ocw2 ?vew2 ?icw2 ?tcw2 ?pcw2 ?scw2 ?dcw2 ?ucw2 ?hcw2 ?kcw2 ?gcw2 ?ghw2 ?ncw2 ?liw2 ?ciw2 ?kiw2 ?mrw2 ?acw3 ?ocw3 ?vew3 ?icw3 ?tcw3 ?pcw3 ?scw3 ?dcw3 ?ucw3 ?hcw3 ?kcw3 ?gcw3 ?ghw3 ?ncw3 ?liw3 ?ciw3 ?kiw3 ?mrw3 ?aq0 ?lq0 ?cq0 ?kq0 ?aq1 ?lq1 ?cq1 ?kq1 ?aq2 ?lq2 ?cq2 ?kq2 ?aq3 ?lq3 ?cq3 ?kq3 ?aq4 ?lq4 ?cq4 ?kq4 ?aq5 ?lq5 ?cq5 ?kq5 ?aq6 ?lq6 ?cq6 ?kq6 ?aq7 ?lq7 ?cq7 ?kq7 ?aq8 ?lq8 ?cq8 ?kq8 ?aq9 ?lq9 ?cq9 ?kq9 ?aq10 ?lq10 ?cq10 ?kq10 ?aq11 ?lq11 ?cq11 ?kq11 ?aq12 ?lq12 ?cq12 ?kq12 ?aq13 ?lq13 ?cq13 ?kq13 ?aq14 ?lq14 ?cq14 ?kq14 ?aq15 ?lq15 ?cq15 ?kq15 ?aq16 ?lq16 ?cq16 ?kq16 ?aq17 ?lq17 ?cq17 ?kq17 ?aq18 ?lq18 ?cq18 ?kq18 ?aq19 ?lq19 ?cq19 ?kq19 ?aq20 ?lq20 ?cq20 ?kq20 ?aq21 ?lq21 ?cq21 ?kq21 ?aq22 ?lq22 ?cq22 ?kq22 ?aq23 ?lq23 ?cq23 ?kq23 ?aq24 ?lq24 ?cq24 ?kq24 ?aq25 ?lq25 ?cq25 ?kq25 ?aq26 ?lq26 ?cq26 ?kq26 ?aq27 ?lq27 ?cq27 ?kq27 ?aq28 ?lq28 ?cq28 ?kq28 ?aq29 ?lq29 ?cq29 ?kq29 ?aq30 ?lq30 ?cq30 ?kq30 ?aq31 ?lq31 ?cq31 ?kq31 ?aq32 ?lq32 ?cq32 ?kq32 ?aq33 ?lq33 ?cq33 ?kq33 ?aq34 ?lq34 ?cq34 ?kq34 ?aq35 ?lq35 ?cq35 ?kq35 ?aq36 ?lq36 ?cq36 ?kq36 ?aq37 ?lq37 ?cq37 ?kq37 ?aq38 ?lq38 ?cq38 ?kq38 ?aq39 ?lq39 ?cq39 ?kq39 ?aq40 ?lq40 ?cq40 ?kq40 ?aq41 ?lq41 ?cq41 ?kq41 ?aq42 ?lq42 ?cq42 ?kq42 ?aq43 ?lq43 ?cq43 ?kq43 ?aq44 ?lq44 ?cq44 ?kq44 ?aq45 ?lq45 ?cq45 ?kq45 ?aq46 ?lq46 ?cq46 ?kq46 ?eLaw ?hLaw ?z_len ?z_range ?z_all ?z_isinstance ?z_int ?z_bool ?z_str ?z_list ?z_tuple ?z_abs ?z_max ?z_min ?z_sum ?z_sorted ?z_zip ?z_reversed ?z_divmod ?z_set ?z_any ?z_enumerate ?z_ValueError
  (case acw0=>k_is)
  (case ocw0=>k_is)
  (case vew0=>exact⟨rfl,rfl,rfl,rfl⟩)
  (case icw0=>k_is)
  (case tcw0=>k_is)
  (case pcw0=>k_is)
  (case scw0=>k_is)
  (case dcw0=>k_is)
  (case ucw0=>rfl)
  (case hcw0=>rfl)
  (case kcw0=>k_is)
  (case gcw0=>k_is)
  (case ghw0=>k_is)
  (case ncw0=>k_is)
  (case liw0=>k_is)
  (case ciw0=>k_is)
  (case kiw0=>k_is)
  (case xgaw0=>k_is)
  (case xtyw0=>k_is)
  (case xrdw0=>k_is)
  (case xfdw0=>k_is)
  (case acw1=>k_is)
  (case ocw1=>k_is)
  (case vew1=>exact⟨rfl,rfl,rfl,rfl⟩)
  (case icw1=>k_is)
  (case tcw1=>k_is)
  (case pcw1=>k_is)
  (case scw1=>k_is)
  (case dcw1=>k_is)
  (case ucw1=>rfl)
  (case hcw1=>rfl)
  (case kcw1=>k_is)
  (case gcw1=>k_is)
  (case ghw1=>k_is)
  (case ncw1=>k_is)
  (case liw1=>k_is)
  (case ciw1=>k_is)
  (case kiw1=>k_is)
  (case mrw1=>rfl)
  (case acw2=>k_is)
  (case ocw2=>k_is)
  (case vew2=>exact⟨rfl,rfl,rfl,rfl⟩)
  (case icw2=>k_is)
  (case tcw2=>k_is)
  (case pcw2=>k_is)
  (case scw2=>k_is)
  (case dcw2=>k_is)
  (case ucw2=>rfl)
  (case hcw2=>rfl)
  (case kcw2=>k_is)
  (case gcw2=>k_is)
  (case ghw2=>k_is)
  (case ncw2=>k_is)
  (case liw2=>k_is)
  (case ciw2=>k_is)
  (case kiw2=>k_is)
  (case mrw2=>rfl)
  (case acw3=>k_is)
  (case ocw3=>k_is)
  (case vew3=>exact⟨rfl,rfl,rfl,rfl⟩)
  (case icw3=>k_is)
  (case tcw3=>k_is)
  (case pcw3=>k_is)
  (case scw3=>k_is)
  (case dcw3=>k_is)
  (case ucw3=>rfl)
  (case hcw3=>rfl)
  (case kcw3=>k_is)
  (case gcw3=>k_is)
  (case ghw3=>k_is)
  (case ncw3=>k_is)
  (case liw3=>k_is)
  (case ciw3=>k_is)
  (case kiw3=>k_is)
  (case mrw3=>rfl)
  (case aq0=>k_is)
  (case lq0=>k_is)
  (case cq0=>k_is)
  (case kq0=>k_is)
  (case aq1=>k_is)
  (case lq1=>k_is)
  (case cq1=>k_is)
  (case kq1=>k_is)
  (case aq2=>k_is)
  (case lq2=>k_is)
  (case cq2=>k_is)
  (case kq2=>k_is)
  (case aq3=>k_is)
  (case lq3=>k_is)
  (case cq3=>k_is)
  (case kq3=>k_is)
  (case aq4=>k_is)
  (case lq4=>k_is)
  (case cq4=>k_is)
  (case kq4=>k_is)
  (case aq5=>k_is)
  (case lq5=>k_is)
  (case cq5=>k_is)
  (case kq5=>k_is)
  (case aq6=>k_is)
  (case lq6=>k_is)
  (case cq6=>k_is)
  (case kq6=>k_is)
  (case aq7=>k_is)
  (case lq7=>k_is)
  (case cq7=>k_is)
  (case kq7=>k_is)
  (case aq8=>k_is)
  (case lq8=>k_is)
  (case cq8=>k_is)
  (case kq8=>k_is)
  (case aq9=>k_is)
  (case lq9=>k_is)
  (case cq9=>k_is)
  (case kq9=>k_is)
  (case aq10=>k_is)
  (case lq10=>k_is)
  (case cq10=>k_is)
  (case kq10=>k_is)
  (case aq11=>k_is)
  (case lq11=>k_is)
  (case cq11=>k_is)
  (case kq11=>k_is)
  (case aq12=>k_is)
  (case lq12=>k_is)
  (case cq12=>k_is)
  (case kq12=>k_is)
  (case aq13=>k_is)
  (case lq13=>k_is)
  (case cq13=>k_is)
  (case kq13=>k_is)
  (case aq14=>k_is)
  (case lq14=>k_is)
  (case cq14=>k_is)
  (case kq14=>k_is)
  (case aq15=>k_is)
  (case lq15=>k_is)
  (case cq15=>k_is)
  (case kq15=>k_is)
  (case aq16=>k_is)
  (case lq16=>k_is)
  (case cq16=>k_is)
  (case kq16=>k_is)
  (case aq17=>k_is)
  (case lq17=>k_is)
  (case cq17=>k_is)
  (case kq17=>k_is)
  (case aq18=>k_is)
  (case lq18=>k_is)
  (case cq18=>k_is)
  (case kq18=>k_is)
  (case aq19=>k_is)
  (case lq19=>k_is)
  (case cq19=>k_is)
  (case kq19=>k_is)
  (case aq20=>k_is)
  (case lq20=>k_is)
  (case cq20=>k_is)
  (case kq20=>k_is)
  (case aq21=>k_is)
  (case lq21=>k_is)
  (case cq21=>k_is)
  (case kq21=>k_is)
  (case aq22=>k_is)
  (case lq22=>k_is)
  (case cq22=>k_is)
  (case kq22=>k_is)
  (case aq23=>k_is)
  (case lq23=>k_is)
  (case cq23=>k_is)
  (case kq23=>k_is)
  (case aq24=>k_is)
  (case lq24=>k_is)
  (case cq24=>k_is)
  (case kq24=>k_is)
  (case aq25=>k_is)
  (case lq25=>k_is)
  (case cq25=>k_is)
  (case kq25=>k_is)
  (case aq26=>k_is)
  (case lq26=>k_is)
  (case cq26=>k_is)
  (case kq26=>k_is)
  (case aq27=>k_is)
  (case lq27=>k_is)
  (case cq27=>k_is)
  (case kq27=>k_is)
  (case aq28=>k_is)
  (case lq28=>k_is)
  (case cq28=>k_is)
  (case kq28=>k_is)
  (case aq29=>k_is)
  (case lq29=>k_is)
  (case cq29=>k_is)
  (case kq29=>k_is)
  (case aq30=>k_is)
  (case lq30=>k_is)
  (case cq30=>k_is)
  (case kq30=>k_is)
  (case aq31=>k_is)
  (case lq31=>k_is)
  (case cq31=>k_is)
  (case kq31=>k_is)
  (case aq32=>k_is)
  (case lq32=>k_is)
  (case cq32=>k_is)
  (case kq32=>k_is)
  (case aq33=>k_is)
  (case lq33=>k_is)
  (case cq33=>k_is)
  (case kq33=>k_is)
  (case aq34=>k_is)
  (case lq34=>k_is)
  (case cq34=>k_is)
  (case kq34=>k_is)
  (case aq35=>k_is)
  (case lq35=>k_is)
  (case cq35=>k_is)
  (case kq35=>k_is)
  (case aq36=>k_is)
  (case lq36=>k_is)
  (case cq36=>k_is)
  (case kq36=>k_is)
  (case aq37=>k_is)
  (case lq37=>k_is)
  (case cq37=>k_is)
  (case kq37=>k_is)
  (case aq38=>k_is)
  (case lq38=>k_is)
  (case cq38=>k_is)
  (case kq38=>k_is)
  (case aq39=>k_is)
  (case lq39=>k_is)
  (case cq39=>k_is)
  (case kq39=>k_is)
  (case aq40=>k_is)
  (case lq40=>k_is)
  (case cq40=>k_is)
  (case kq40=>k_is)
  (case aq41=>k_is)
  (case lq41=>k_is)
  (case cq41=>k_is)
  (case kq41=>k_is)
  (case aq42=>k_is)
  (case lq42=>k_is)
  (case cq42=>k_is)
  (case kq42=>k_is)
  (case aq43=>k_is)
  (case lq43=>k_is)
  (case cq43=>k_is)
  (case kq43=>k_is)
  (case aq44=>k_is)
  (case lq44=>k_is)
  (case cq44=>k_is)
  (case kq44=>k_is)
  (case aq45=>k_is)
  (case lq45=>k_is)
  (case cq45=>k_is)
  (case kq45=>k_is)
  (case aq46=>k_is)
  (case lq46=>k_is)
  (case cq46=>k_is)
  (case kq46=>k_is)
  (case eLaw=>exact rfl)
  (case hLaw=>kernel_rfl)
  (case z_len=>k_is)
  (case z_range=>k_is)
  (case z_all=>k_is)
  (case z_isinstance=>k_is)
  (case z_int=>k_is)
  (case z_bool=>k_is)
  (case z_str=>k_is)
  (case z_list=>k_is)
  (case z_tuple=>k_is)
  (case z_abs=>k_is)
  (case z_max=>k_is)
  (case z_min=>k_is)
  (case z_sum=>k_is)
  (case z_sorted=>k_is)
  (case z_zip=>k_is)
  (case z_reversed=>k_is)
  (case z_divmod=>k_is)
  (case z_set=>k_is)
  (case z_any=>k_is)
  (case z_enumerate=>k_is)
  (case z_ValueError=>k_is)
