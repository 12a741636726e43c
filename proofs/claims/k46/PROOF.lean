import PyProof.Rows.All
import Wide.All
import OpenK.AllK
import Wide.FinOn
import Lean
import PyProof.EqAt
import PyProof.EqKinds
import PyProof.TupleCall
import PyProof.NeKinds
import PySem.Challenge.RW_loveboon_k46_terms_and_pledges_written
noncomputable section
open Array renaming getElem?_eq_getElem→Ex,length_toList→FQ,getD_eq_getD_getElem?→Gn,getElem?_toList→Gv,getElem?_eq_none→Hw
open Bool renaming false_ne_true→Et,and_eq_true→Gg,true_and→HB,eq_iff_iff→Jq,false_and→Jz,or_eq_true→Lk
open False renaming elim→HR
open ForInStep renaming yield→Ik
open Int renaming emod_lt_of_pos→Fp,emod_nonneg→Fx,toNat_natCast→Gj,toNat_of_nonneg→Hk,eq_ofNat_of_zero_le→Iw,zero_add→Ju
open List renaming length_map→Eb,length_append→Ec,length_singleton→Ef,mem_cons_self→Ek,length_cons→El,mem_cons_of_mem→En,map_append→Er,mem_append_right→Es,size_toArray→Fb,getElem?_map→Fd,getElem?_eq_getElem→Ff,append_assoc→Fg,length_take→Fi,mem_of_getElem?→Fj,take_length→Fo,take_add_one→Fw,lookup_cons→Fy,replicate→Gf,getElem?_append_right→Gq,getD_eq_getElem?_getD→Gr,range→Gx,pairwise_cons→Gy,cons_append→Gz,mem_cons→GD,length_range→GJ,length_drop→G3,length_replicate→G6,map_cons→Hj,append_nil→Hx,getElem?_eq_none→HD,not_mem_nil→HX,mem_singleton→Ip,take_zero→Jb,take_of_length_le→Jc,all_cons→Jj,replicate_succ'→Jm,filterMap_cons→Js,drop_eq_getElem_cons→JB,pairwise_map→JF,foldl_cons→J3,getElem?_toArray→J4,mem_append_left→J9,map_map→KH,getElem_mem→K5,length→K9,eq_nil_of_length_eq_zero→La,take_left'→Li,of_mem_zip→Lj
open List.Pairwise renaming nil→KJ
open List.cons renaming inj→Ji
open Nat renaming le_refl→Ei,lt_of_lt_of_le→Em,le_trans→Fe,ne_of_lt→Fl,zero_le→Fq,lt_irrefl→GC,mul_le_mul_right→G9,lt_succ_of_lt→Hh,le_succ→Hi,succ_ne_zero→Ho,pow_pos→Hs,lt_of_le_of_lt→Hu,le_of_lt→Hv,ne_of_gt→Ja,lt_succ_self→Jg,lt_of_succ_lt_succ→JX,add_sub_cancel→Kp,pow_succ→KD,not_lt_zero→Lh
open Ne renaming symm→Jh
open Option.some renaming inj→FW
open Or renaming inl→Ez
open PyProof.Rows renaming step_dedup→Gb,IntsAre→Gm,callWith_type1→GR,AllBare→J0,envOfC→Kl,slot_tuple_getitem→KQ,callWith_builtin1→K4
open PyProof.Rows.F renaming plain_set_update_loop→JQ
open PySem renaming wpAny_bind→Ed,Shared→Eg,wpAny_pure→Ej,wpAny→Eu,model→Ey,mainGlobals→EY,Program→Ft,wpAny_newObj_type→Fz,bootBuiltins→FJ,World→FP,starEach→FZ,wpAny_mono→Ga,Around→Gd,Heap→Gh,mem_of_lookup→Gi,foldedSetIterable→GF,rawInt→GP,codeAny→GQ,letOwnedTupleGo→G7,compareOp→G8,wpAny_call_entry→Hl,wpAny_askSetting→Hm,Obj→Hn,FuncData→Hy,behindInMarks→Hz,wpAny_truthy_bool→HF,wpAny_setState_of→HH,SetTable→HQ,intKind→HW,wpAny_standAt→Ia,wpAny_holding→Ib,binaryOp→Ie,codeAny_builtin→Ij,wpAny_Call_Name_kw→Il,eval→Im,wpAny_getItem_str_slice→Ir,wpAny_callSpecial?_slot→Iu,wpAny_setField→Iz,Scope→IV,typeIs_str→Jd,pickOrder→Je,assignEach→Jf,sliceBounds→Jk,wpAny_passesOwn→Jo,wpAny_setEntries_of→Jr,codeAny_mono→Jt,pyNext→Jw,NameKind→Jy,wpAny_pyIter_enum→JD,wpAny_comprehension_free→JG,plainId_quiet→JH,backTo→JK,Pos→JM,compPost→JN,call_meets→JR,wpAny_ite_false→J2,firstArgMember→J5,bindArgs→J6,assign→J7,BindsTo→Ka,again→Kc,Builtin→Kd,wpAny_rule→Kg,pyIter→Kh,wpAny_pyIter_list→Kr,relayAll→Ks,compEnvC→Ku,callerA→Kv,wpAny_isInstance→KR,noFill_tuple_add→KY,inplaceOp→KZ,Tok→K3,IsPart→K6,wpAny_of_eq→K8,wpAny_ite_split→Lb,wpAny_execs_nil→Ld,theTreesLotGoes→Le,codeAny_of_tree→Lf,standAt→Ln,setNext→Lp,Env→Ls
open PySem.Around renaming under_plainId→HS
open PySem.Builtin.List renaming listLengthHint→Lw,listExtendWith→Lx
open PySem.Builtin.Slice renaming slicePlaces→HY,sliceAdjust→JC
open PySem.Builtin.Str renaming occurrences→Hr,strSliceIndices→Jv
open PySem.Builtin.Tuple renaming tupleExact→Ii
open PySem.F renaming plainAttrs_str→Fv,type_str_join→G4,slot_str_join→G5,type_list_append→Ig,slot_list_append→Ih,plainAttrs_list→Iv,args_tuple_add_2→JL,entry_tuple_add→JP,slot_tuple_add→JV,args_str_split_2→Kq,entry_str_split→KN,slot_str_split→K7,type_str_rpartition→Lq,slot_str_rpartition→Lr
open PySem.Heap renaming get?_push_of_some→Eh,lt_size→Ep,get?_push_size→Ew,get?_update_self→Gu,get?_update_other→GX,size_push→Hq,SameBut→JZ
open PySem.Heap.SameBut renaming update→GK
open PySem.NameKind renaming free→Gp,cell→Kf
open PySem.Obj renaming mapSeq→JW,mapFields→Ke,putSet→Ko
open PySem.PassesOwn renaming never→Gs
open PySem.SetTable renaming below→Ge,grown→HN
open PySem.SetTable.below renaming go→IK
open PySem.SetTable.probe renaming go→Kz
open PySem.Str renaming ofString→JT
open PySem.Txt renaming rpartition→Jl,split→Jp
open PySem.Value renaming ref→GZ,none→Ht,type→Io,int→K1
open PySem.W renaming Frag→Eo,mg_none_of→FN,Frag→FT,kia_one→Gk,nsIn→Gw,kitOne→HJ,fnOf→IW,keepIn→Jx,mg_of→JS,codeIn→J8,methodObj→KC,instObj→Lg
open Sum renaming inr→Kw,inl→Ky
open True renaming intro→Km
set_option Elab.async false
set_option linter.all false
set_option maxRecDepth 100000
namespace L2
open PySem PySem.Spec PyProof.Rows
abbrev Key:=Sum Int Str
def Am:Key->Value->Bool
 | .inl k,v=>Value.isInt k v
 | .inr x,v=>Value.isStrOf x v
def Dh (w:FP):Key->Int
 | .inl k=>hashInt k
 | .inr x=>hashStr w x
theorem bZ:∀ {k:Key} {v:Value},Am k v=true->(∃ i t,k=Ky i/\v=K1 i t)∨(∃ x t,k=Kw x/\v=Value.str x t)
 | .inl i,v,h=>by
  obtain⟨t,e⟩:=Value.isInt_shape (k:=i) (v:=v) h
  exact .inl ⟨i,t,rfl,e⟩
 | .inr x,v,h=>by
  obtain⟨t,e⟩:=Value.isStrOf_shape (x:=x) (v:=v) h
  exact .inr ⟨x,t,rfl,e⟩
theorem Ad (a b:Int):decide ((Ky a:Key)=Ky b)=(a == b):=by
 by_cases e:a=b
 ·subst e; simp
 ·have h:¬ (Ky a:Key)=Ky b:=fun q=>e (Sum.inl.inj q)
  rw[decide_eq_false h]
  exact (beq_eq_false_iff_ne.mpr e).symm
theorem zW (a b:Str):decide ((Kw a:Key)=Kw b)=decide (a=b):=by
 by_cases e:a=b
 ·subst e; simp
 ·have h:¬ (Kw a:Key)=Kw b:=fun q=>e (Sum.inr.inj q)
  rw[decide_eq_false h,decide_eq_false e]
theorem Al (a:Int) (b:Str):decide ((Ky a:Key)=Kw b)=false:=decide_eq_false (fun q=>nomatch q)
theorem Aw (a:Str) (b:Int):decide ((Kw a:Key)=Ky b)=false:=decide_eq_false (fun q=>nomatch q)
def vf (prog:Ft) (w:FP):PySem.KeyKind prog w Key where
 is:=Am
 hash:=Dh w
 inj:=fun v a b ha hb=>by
  rcases bZ ha with⟨i,t,rfl,rfl⟩ | ⟨x,t,rfl,rfl⟩
  ·rcases bZ hb with⟨j,u,rfl,e⟩ | ⟨y,u,rfl,e⟩
   ·injection e with e1 _; rw[e1]
   ·exact nomatch e
  ·rcases bZ hb with⟨j,u,rfl,e⟩ | ⟨y,u,rfl,e⟩
   ·exact nomatch e
   ·injection e with e1 _; rw[e1]
 byValue:=fun k v h=>by
  rcases bZ h with⟨i,t,rfl,rfl⟩ | ⟨x,t,rfl,rfl⟩ <;> rfl
 pyHash:=fun hv h=>by
  rcases bZ hv with⟨i,t,rfl,rfl⟩ | ⟨x,t,rfl,rfl⟩
  ·exact wpAny_pyHash_int h
  ·exact wpAny_pyHash_str h
 eqBool:=fun hu hv h=>by
  rcases bZ hu with⟨i,t,rfl,rfl⟩ | ⟨x,t,rfl,rfl⟩
  ·rcases bZ hv with⟨j,u,rfl,rfl⟩ | ⟨y,u,rfl,rfl⟩
   ·rw[Ad] at h; exact wpAny_eqBool_int h
   ·rw[Al] at h; exact SeqAt.EqAt.int_str i t y u _ _ _ _ h
  ·rcases bZ hv with⟨j,u,rfl,rfl⟩ | ⟨y,u,rfl,rfl⟩
   ·rw[Aw] at h; exact SeqAt.EqAt.str_int x t j u _ _ _ _ h
   ·rw[zW] at h; exact wpAny_eqBool_str h
 «strs»:=fun k x t v h=>by
  rcases bZ h with⟨i,u,rfl,e⟩ | ⟨y,u,rfl,e⟩
  ·exact nomatch e
  ·injection e with e1 _
   subst e1
   cases v <;> rfl
end L2
namespace L2
open PySem PySem.Spec PyProof.Rows
inductive V where
 | non | bl (b:Bool) | int (i:Int) | str (x:Str) | byt (b:Array UInt8) | flt (b:UInt64) | ref (a:Addr) | ty (n:String)
 deriving DecidableEq
def RelV:V->Value->Prop
 | .non,u=>u=Ht
 | .bl b,u=>u=Value.bool b
 | .int i,u=>∃ t,u=K1 i t
 | .str x,u=>∃ t,u=Value.str x t
 | .byt b,u=>∃ t,u=Value.bytes b t
 | .flt b,u=>∃ t,u=Value.float b t
 | .ref a,u=>u=GZ a
 | .ty n,u=>u=Io n
abbrev Vals:List V->List Value->Prop:=Paired RelV
theorem Vals.length {xs:List V} {us:List Value} (r:Vals xs us):xs.length=us.length:=Paired.length r
theorem Vals.get:∀ {xs:List V} {us:List Value} {i:Nat} {x:V},Vals xs us->xs[i]? = some x->∃ u,us[i]? = some u/\RelV x u
 | _,_,_,_,.nil,e=>by simp at e
 | _,_,0,_,.cons r _,e=>by simp at e; subst e; exact⟨_,rfl,r⟩
 | _,_,i+1,x,.cons _ t,e=>by
  obtain⟨u,h1,h2⟩:=Vals.get (i:=i) (x:=x) t (by simpa using e)
  exact⟨u,by simpa using h1,h2⟩
theorem Vals.append:∀ {xs ys:List V} {us ws:List Value},Vals xs us->Vals ys ws->Vals (xs++ys) (us++ws)
 | _,_,_,_,.nil,s=>s
 | _,_,_,_,.cons r t,s=>.cons r (Vals.append t s)
theorem Vals.take:∀ {xs:List V} {us:List Value} (n:Nat),Vals xs us->Vals (xs.take n) (us.take n)
 | _,_,0,_=>.nil
 | _,_,_+1,.nil=>.nil
 | _,_,n+1,.cons r t=>.cons r (Vals.take n t)
theorem Vals.drop:∀ {xs:List V} {us:List Value} (n:Nat),Vals xs us->Vals (xs.drop n) (us.drop n)
 | _,_,0,r=>r
 | _,_,_+1,.nil=>.nil
 | _,_,n+1,.cons _ t=>Vals.drop n t
def Ck:Option V->Option Value->Prop
 | some v,some u=>RelV v u
 | none,none=>True
 | _,_=>False
def KV {κ:Type}:List (κ × V)->List (κ × Value)->Prop:=Paired fun (p:κ × V) (q:κ × Value)=>p.1=q.1/\RelV p.2 q.2
def kV:Key->V
 | .inl i=>.int i
 | .inr x=>.str x
inductive HO where
 /-- a list -/
 | lst (xs:List V)
 /-- a tuple (never changes) -/
 | tup (xs:List V)
 /-- a dict whose keys are ints and texts; one whose keys are tuples of ints and texts (the empty one is both) -/
 | dK (kvs:List (Key × V)) | dT (kvs:List (List Key × V))
 /-- a set of ints: its members,its size -/
 | set (S:Int->Bool) (n:Nat)
 /-- an instance of the class at C,its dict at dx,its attributes -/
 | ins (C dx:Addr) (fs:List (Str × V))
 /-- the dict of the instance at x -/
 | own (x:Addr)
 /-- the dict of an exception -/
 | xd (fs:List (Str × V))
 /-- a bound method,f of x -/
 | met (f x:Addr)
 /-- a range object lo,lo+1,.. below hi -/
 | rng (lo hi:Int)
 /-- a thing that is known to the object (the script; a dict while a loop walks it): read,never written while it is so -/
 | frz (o:Hn) (u:HO)
 /-- a code object's table -/
 | tbl (ps:Array Value)
 /-- any other thing,by what is true of its one object (a def of one's own: SetO a S n:=HO.ext fun h=>..) -/
 | ext (φ:Gh->Prop)
abbrev Hp:=Addr->Option HO
def upd (H:Hp) (a:Addr) (o:HO):Hp:=fun b=>if b=a then some o else H b
theorem ao {H:Hp} {a:Addr} {o:HO}:upd H a o a=some o:=by unfold upd; rw[if_pos rfl]
theorem cB {H:Hp} {a b:Addr} {o:HO} (h:b≠a):upd H a o b=H b:=by unfold upd; rw[if_neg h]
theorem cV {H:Hp} {a b:Addr} {o:HO} (h:H a=some o) (h':H b=none):a≠b:=by
 intro e; subst e; rw[h] at h'; cases h'
section
variable (P:Ft) (w:FP)
def eQ (H:Hp) (h:Gh) (a:Addr):HO->Prop
 | .lst xs=>xs.length<=sizeLine/\∃ (its:List Value) (n:Nat),Vals xs its/\h.get? a=some { cls:=.type "list",data:=.seq its.toArray n }
 | .tup xs=>xs.length<=sizeLine/\∃ its:List Value,Vals xs its/\IsTup h a its.toArray
 | .dK kvs=>kvs.length<=sizeLine/\(a == sysModules)=false/\∃ vs,KV kvs vs/\h.DictOf (vf P w) a vs
 | .dT kvs=>kvs.length<=sizeLine/\(a == sysModules)=false/\∃ xs:List (List Key × Addr × Value),
   Paired (fun (p:List Key × V) (q:List Key × Addr × Value)=>p.1=q.1/\H q.2.1=some (.tup (p.1.map kV))/\RelV p.2 q.2.2) kvs xs ∧
   ∃ o es ep,h.get? a=some o/\o.ExactDict/\o.data = .dict es ep/\es.toList=xs.map (entryOfKey (tupleKind (vf P w)))/\(xs.map (·.1)).Nodup
 | .set S n=>h.SetOf (HW P w) a S n
 | .ins C dx fs=>H dx=some (.own a)/\fs.length<=1000/\dx≠a/\h.get? a=some (Lg C dx) ∧
   ∃ mA,h.Ns1 dx mA/\(∀ f,Ck (fs.lookup f) (mA f))/\PySem.Within mA (fs.map (·.1))
 | .own _=>∃ o,h.get? a=some o
 | .xd fs=>∃ mA,h.Ns1 a mA/\∀ f,Ck (fs.lookup f) (mA f)
 | .rng lo hi=>∃ t u v,h.get? a=some { cls:=.type "range",data:=.fields #[.int lo t,.int hi u,.int 1 v] }
 | .frz o u=>h.get? a=some o/\eQ H h a u
 | .tbl ps=>h.get? a=some { cls:=.none,data:=.fields ps }
 | .met f x=>h.get? a=some (KC (.ref f) (.ref x))
 | .ext φ=>φ h/\(∃ o,h.get? a=some o)/\∀ h1 h2:Gh,φ h1->(∀ o,h1.get? a=some o->h2.get? a=some o)->φ h2
def HOk (H:Hp) (h:Gh):Prop:=∀ a o,H a=some o->eQ P w H h a o
end
section
variable {P:Ft} {w:FP} {H H':Hp} {h h':Gh} {a:Addr} {o:HO}
theorem eQ.lt (x:eQ P w H h a o):a < h.objs.size:=by
 cases o with
 | lst xs=>obtain⟨_,_,_,_,e⟩:=x; exact Ep e
 | tup xs=>obtain⟨_,_,_,p⟩:=x; exact p.lt
 | dK kvs=>obtain⟨_,_,_,_,o,_,_,e,_⟩:=x; exact Ep e
 | dT kvs=>obtain⟨_,_,_,_,o,_,_,e,_⟩:=x; exact Ep e
 | set S n=>obtain⟨o,_,_,_,e,_⟩:=x; exact Ep e
 | ins C dx fs=>obtain⟨_,_,_,e,_⟩:=x; exact Ep e
 | own y=>obtain⟨_,e⟩:=x; exact Ep e
 | xd fs=>obtain⟨_,⟨_,_,_,e,_⟩,_⟩:=x; exact Ep e
 | rng lo hi=>obtain⟨_,_,_,e⟩:=x; exact Ep e
 | frz ob u=>obtain⟨e,_⟩:=x; exact Ep e
 | tbl ps=>exact Ep (show h.get? a=some _ from x)
 | met f y=>exact Ep (show h.get? a=some _ from x)
 | ext φ=>obtain⟨_,⟨_,e⟩,_⟩:=x; exact Ep e
theorem Paired.CN {α β:Type} {F G:α->β->Prop}:∀ {l₁:List α} {l₂:List β},Paired F l₁ l₂->(∀ a b,F a b->G a b)->Paired G l₁ l₂
 | _,_,.nil,_=>.nil
 | _,_,.cons r t,f=>.cons (f _ _ r) (Paired.CN t f)
theorem eQ.stay (x:eQ P w H h a o) (k:∀ b u,(b=a∨H b=some (.own a))->h.get? b=some u->h'.get? b=some u)
  (ho:∀ b,H b=some (.own a)->H' b=some (.own a)) (ht:∀ b xs,H b=some (.tup xs)->H' b=some (.tup xs)):eQ P w H' h' a o:=by
 induction o with
 | lst xs=>obtain⟨z,its,n,r,e⟩:=x; exact⟨z,its,n,r,k _ _ (.inl rfl) e⟩
 | tup xs=>obtain⟨z,its,r,ob,e,c⟩:=x; exact⟨z,its,r,ob,k _ _ (.inl rfl) e,c⟩
 | dK kvs=>obtain⟨z,y,vs,r,ob,es,ep,e,c⟩:=x; exact⟨z,y,vs,r,ob,es,ep,k _ _ (.inl rfl) e,c⟩
 | dT kvs =>
  obtain⟨z,y,xs,r,ob,es,ep,e,c⟩:=x
  exact⟨z,y,xs,Paired.CN r fun p q z=>⟨z.1,ht _ _ z.2.1,z.2.2⟩,ob,es,ep,k _ _ (.inl rfl) e,c⟩
 | set S n=>obtain⟨ob,es,ep,t,e,c⟩:=x; exact⟨ob,es,ep,t,k _ _ (.inl rfl) e,c⟩
 | ins C dx fs =>
  obtain⟨d,z,ne,e,mA,⟨od,es,ep,e2,c⟩,r⟩:=x
  exact⟨ho _ d,z,ne,k _ _ (.inl rfl) e,mA,⟨od,es,ep,k _ _ (.inr d) e2,c⟩,r⟩
 | own y=>obtain⟨ob,e⟩:=x; exact⟨ob,k _ _ (.inl rfl) e⟩
 | xd fs=>obtain⟨mA,⟨od,es,ep,e,c⟩,r⟩:=x; exact⟨mA,⟨od,es,ep,k _ _ (.inl rfl) e,c⟩,r⟩
 | rng lo hi=>obtain⟨t,u,v,e⟩:=x; exact⟨t,u,v,k _ _ (.inl rfl) e⟩
 | frz ob u ih=>obtain⟨e,q⟩:=x; exact⟨k _ _ (.inl rfl) e,ih q⟩
 | tbl ps =>
  have e:h.get? a=some { cls:=.none,data:=.fields ps }:=x
  show h'.get? a=some { cls:=.none,data:=.fields ps }
  exact k a _ (.inl rfl) e
 | met f y =>
  have e:h.get? a=some (KC (.ref f) (.ref y)):=x
  show h'.get? a=some (KC (.ref f) (.ref y))
  exact k a _ (.inl rfl) e
 | ext φ=>obtain⟨p,⟨o,e⟩,st⟩:=x; exact⟨st _ _ p fun o q=>k _ _ (.inl rfl) q,⟨o,k _ _ (.inl rfl) e⟩,st⟩
theorem HOk.lt (x:HOk P w H h) (e:H a=some o):a < h.objs.size:=(x a o e).lt
theorem HOk.fresh (x:HOk P w H h) (e:h.objs.size<=a):H a=none:=by
 cases q:H a with
 | none=>rfl
 | some u=>exact absurd (Em (x.lt q) e) (GC _)
theorem HOk.kept (x:HOk P w H h) (k:∀ b u,h.get? b=some u->h'.get? b=some u):HOk P w H h':=fun a o e =>
 (x a o e).stay (fun b u _ q=>k b u q) (fun _ q=>q) fun _ _ q=>q
theorem HOk.laid (x:HOk P w H h) (k:∀ b u,h.get? b=some u->h'.get? b=some u) (hp:h.objs.size<=a) (new:eQ P w (upd H a o) h' a o):HOk P w (upd H a o) h':=fun b u e=>by
 have hn:=x.fresh hp
 by_cases hb:b=a
 ·subst hb; rw[ao] at e; cases e; exact new
 ·rw[cB hb] at e
  exact (x b u e).stay (fun c v _ q=>k c v q) (fun c q=>by rw[cB (cV q hn)]; exact q) fun c xs q=>by rw[cB (cV q hn)]; exact q
end
def Rd (H:Hp) (a:Addr) (u:HO):Prop:=H a=some u∨∃ o,H a=some (.frz o u)
theorem Rd.ok {P:Ft} {w:FP} {H:Hp} {h:Gh} {a:Addr} {u:HO} (r:Rd H a u) (x:HOk P w H h):eQ P w H h a u:=by
 rcases r with r | ⟨o,r⟩
 ·exact x a u r
 ·obtain⟨_,q⟩:=x a _ r
  exact q
def Mut:Option HO->Prop
 | some (.lst _)=>True
 | some (.dK _)=>True
 | some (.dT _)=>True
 | some (.set _ _)=>True
 | some (.ins _ _ _)=>True
 | some (.ext _)=>True
 | _=>False
section
variable {P:Ft} {w:FP} {H:Hp} {h h':Gh} {x e:Addr} {o':HO}
theorem HOk.write (ok:HOk P w H h) (mu:Mut (H x)) (he:e=x∨H e=some (.own x)) (k:∀ b u,b≠e->h.get? b=some u->h'.get? b=some u) (heo:∃ u,h'.get? e=some u)
  (new:eQ P w (upd H x o') h' x o'):HOk P w (upd H x o') h':=fun b u q=>by
 have nown:∀ c y,H c=some (.own y)->c≠x:=fun c y r z=>by subst z; rw[r] at mu; exact mu
 have ntup:∀ c xs,H c=some (.tup xs)->c≠x:=fun c xs r z=>by subst z; rw[r] at mu; exact mu
 by_cases hb:b=x
 ·subst hb; rw[ao] at q; cases q; exact new
 ·rw[cB hb] at q
  by_cases hbe:b=e
  ·have q':H b=some (.own x):=by
    rcases he with z | z
    ·exact absurd (hbe.trans z) hb
    ·rw[hbe]; exact z
   rw[q] at q'; cases q'
   obtain⟨v,hv⟩:=heo
   exact⟨v,by rw[hbe]; exact hv⟩
  ·refine (ok b u q).stay (fun c v hc r=>k c v ?_ r) (fun c r=>by rw[cB (nown c b r)]; exact r) fun c xs r=>by rw[cB (ntup c xs r)]; exact r
   rcases hc with rfl | hc
   ·exact hbe
   ·rintro rfl
    rcases he with z | z
    ·exact nown c b hc z
    ·rw[hc] at z; cases z; exact hb rfl
end
structure Un (fs ex:List Addr) (H H':Hp) (h h':Gh):Prop where
 keep:∀ b o,h.get? b=some o->H b=none->b ∉ fs->b ∉ ex->h'.get? b=some o
 slot:∀ b o,h.get? b=some o->H b=none->b∈fs->b ∉ ex->∃ sl,h'.get? b=some { o with slots:=sl }
 free:∀ b o,h.get? b=some o->H b=none->b ∉ ex->H' b=none
 there:∀ b o,h.get? b=some o->b ∉ ex->∃ o',h'.get? b=some o'
 tups:∀ b xs,H b=some (.tup xs)->H' b=some (.tup xs)
 frzs:∀ b o u,H b=some (.frz o u)->H' b=some (.frz o u)
 tbls:∀ b ps,H b=some (.tbl ps)->∃ more,H' b=some (.tbl (ps++more))
section
variable {fs fs' ex ex':List Addr} {H H1 H2:Hp} {h h1 h2 h':Gh} {a x e:Addr} {o:HO}
theorem Un.any (u:Un fs ex H H1 h h1) {b:Addr} {ob:Hn} (q:h.get? b=some ob) (n:H b=none) (hx:b ∉ ex):∃ sl,h1.get? b=some { ob with slots:=sl }:=by
 by_cases hb:b∈fs
 ·exact u.slot b ob q n hb hx
 ·exact⟨ob.slots,u.keep b ob q n hb hx⟩
theorem Un.trans (a:Un fs ex H H1 h h1) (b:Un fs ex H1 H2 h1 h2):Un fs ex H H2 h h2 where
 keep:=fun c ob q n hc hx=>b.keep c ob (a.keep c ob q n hc hx) (a.free c ob q n hx) hc hx
 slot:=fun c ob q n hc hx=>by
  obtain⟨sl,e1⟩:=a.slot c ob q n hc hx
  obtain⟨sl',e2⟩:=b.slot c _ e1 (a.free c ob q n hx) hc hx
  exact⟨sl',e2⟩
 free:=fun c ob q n hx=>by
  obtain⟨o',e1⟩:=a.there c ob q hx
  exact b.free c o' e1 (a.free c ob q n hx) hx
 there:=fun c ob q hx=>by
  obtain⟨o',e1⟩:=a.there c ob q hx
  exact b.there c o' e1 hx
 tups:=fun c xs q=>b.tups c xs (a.tups c xs q)
 frzs:=fun c ob xs q=>b.frzs c ob xs (a.frzs c ob xs q)
 tbls:=fun c ps q=>by
  obtain⟨m1,e1⟩:=a.tbls c ps q
  obtain⟨m2,e2⟩:=b.tbls c _ e1
  exact⟨m1++m2,by rw[e2,Array.append_assoc]⟩
theorem Un.kept (k:∀ b u,h.get? b=some u->h'.get? b=some u):Un fs ex H H h h' :=
 ⟨fun b ob q _ _ _=>k b ob q,fun b ob q _ _ _=>⟨ob.slots,k b ob q⟩,fun _ _ _ n _=>n,fun b ob q _=>⟨ob,k b ob q⟩,fun _ _ q=>q,fun _ _ _ q=>q,fun _ ps q=>⟨#[],by rw[q]; simp⟩⟩
theorem Un.refl:Un fs ex H H h h:=Un.kept fun _ _ q=>q
theorem Un.laid (k:∀ b u,h.get? b=some u->h'.get? b=some u) (hp:h.objs.size<=a) (hn:H a=none):Un fs ex H (upd H a o) h h' where
 keep:=fun b u q _ _ _=>k b u q
 slot:=fun b u q _ _ _=>⟨u.slots,k b u q⟩
 free:=fun b u q n _=>by rw[cB (Fl (Em (Ep q) hp))]; exact n
 there:=fun b u q _=>⟨u,k b u q⟩
 tups:=fun b xs q=>by rw[cB (cV q hn)]; exact q
 frzs:=fun b u xs q=>by rw[cB (cV q hn)]; exact q
 tbls:=fun b ps q=>⟨#[],by rw[cB (cV q hn),q]; simp⟩
theorem Un.write (mu:Mut (H x)) (he:e=x∨H e=some (.own x)) (k:∀ b u,b≠e->h.get? b=some u->h'.get? b=some u) (heo:∃ u,h'.get? e=some u):Un fs ex H (upd H x o) h h':=by
 have hx:∀ b,H b=none->b≠x:=fun b n z=>by subst z; rw[n] at mu; exact mu
 have hb:∀ b,H b=none->b≠e:=fun b n z=>by
  subst z
  rcases he with r | r
  ·exact hx b n r
  ·rw[n] at r; cases r
 have hm:∀ b u,H b=some u->¬ Mut (some u)->b≠x:=fun b u q nm z=>by subst z; rw[q] at mu; exact nm mu
 refine⟨fun b u q n _ _=>k b u (hb b n) q,fun b u q n _ _=>⟨u.slots,k b u (hb b n) q⟩,fun b u q n _=>by rw[cB (hx b n)]; exact n,fun b u q _=>?_,
  fun b xs q=>by rw[cB (hm b _ q fun z=>z)]; exact q,fun b u xs q=>by rw[cB (hm b _ q fun z=>z)]; exact q,fun b ps q=>⟨#[],by rw[cB (hm b _ q fun z=>z),q]; simp⟩⟩
 by_cases hbe:b=e
 ·subst hbe; exact heo
 ·exact⟨u,k b u hbe q⟩
end
def trk (h:Gh) (H:Hp):List Addr:=(Gx h.objs.size).filter fun a=>(H a).isSome
def xG (h:Gh) (H:Hp):Gh:=PySem.W.hideAll h (trk h H)
theorem v8 (h:Gh) (H:Hp):(xG h H).objs.size=h.objs.size:=PySem.W.hideAll_size _ _
theorem xP {h:Gh} {H:Hp} {b:Addr} {o:Hn} (e:h.get? b=some o) (n:H b=none):(xG h H).get? b=some o :=
 PySem.W.hideAll_get _ e fun hm=>by
  have q:(H b).isSome=true:=(List.mem_filter.mp hm).2
  rw[n] at q; simp at q
theorem zu {h:Gh} {H:Hp} {b:Addr} {o:Hn} (e:(xG h H).get? b=some o):h.get? b=some o/\H b=none:=by
 have e':h.get? b=some o:=PySem.W.of_hideAll (trk h H) e
 refine⟨e',?_⟩
 cases q:H b with
 | none=>rfl
 | some x =>
  have hm:b∈trk h H:=List.mem_filter.mpr ⟨List.mem_range.mpr (Ep e'),by simp [q]⟩
  have z:(xG h H).get? b=none:=PySem.W.hideAll_none (trk h H) hm
  rw[z] at e; cases e
def zg (g h:Gh) (L:Addr):List (Addr × Hn):=(Gx h.objs.size).filterMap fun a=>if a=L∨(g.get? a).isSome=true then none else (h.get? a).map fun o=>(a,o)
def rest (g h:Gh) (L d:Addr):List (Addr × Hn):=(zg g h L).filter fun p=>decide (p.1≠d)
end L2
namespace L2
open PySem PySem.Spec PyProof.Rows
structure Mod (K:Eo) (mg:Str->Option Value) (base:Gh):Prop where
 kin:K.In base
 glob:base.Ns EY mg
 blt:∃ mb,base.Ns builtinsNs mb/\∀ x:Str,x≠"__name__"->mb x=FJ x
 nolimit:base.NoLimit
structure Cx where
 prog:Ft
 w:FP
 K:Eo
 mg:Str->Option Value
 base:Gh
 A:Gd
 N:List Str
 s₀:Eg
 H₀:Hp
 env:Ls
 outer:List Ls
 stack:List Ls
 ex:List Addr
 fn:Str->Bool
 calm:Bool
 pn:List (Addr × Hn)
 xe:Value->Eg->Prop
def frs (l:List Ls):List Addr:=l.filterMap (·.frame)
abbrev Cx.fs (X:Cx):List Addr:=frs X.outer
def Vis (sc:IV) (x:Str):Prop:=sc.names.lookup x=some .local∨sc.names.lookup x=some .cell∨sc.names.lookup x=some .free
def Loc (sc:IV) (x:Str):Prop:=sc.names.lookup x=some .local∨sc.names.lookup x=some .cell
def Look (env:Ls) (h:Gh) (m:Str->Option Value) (x:Str) (u:Value):Prop :=
 (env.kindOf x=some .local/\m x=some u)∨((env.kindOf x=some .cell∨env.kindOf x=some .free)/\∃ c,env.cells.lookup x=some c/\h.IsCell c (some u))
structure Cx.Ok (X:Cx):Prop where
 mod:Mod X.K X.mg X.base
 kind:X.env.scope.kind = .function
 glob:X.env.globals=EY
 blt:X.env.builtins=builtinsNs
 above:X.s₀.heap.objs.size<=X.env.locals
 inj:∀ x y c,X.env.cells.lookup x=some c->X.env.cells.lookup y=some c->x=y
 has:∀ x,(X.env.kindOf x=some .cell∨X.env.kindOf x=some .free)->∃ c,X.env.cells.lookup x=some c
 cab:∀ x c,X.fn x=true->X.env.cells.lookup x=some c->X.s₀.heap.objs.size<=c
 hd:X.calm=true->X.A.handled=none
 frames:X.A.frames=some X.stack
 stk:X.stack=X.outer∨(X.stack=X.env::X.outer/\X.env.frame=some X.env.locals)
 exf:∀ b∈X.ex,b≠X.env.locals/\∀ x c,X.env.cells.lookup x=some c->c≠b
 bs:∀ b o,X.base.get? b=some o->X.s₀.heap.get? b=some o/\X.H₀ b=none
 bsz:X.base.objs.size<=X.s₀.heap.objs.size
 noex:∀ b o,X.base.get? b=some o->b ∉ X.ex
 exfs:∀ b∈X.ex,b ∉ X.fs
 vq:X.s₀.heap.FunFrames X.base X.outer
 frf:∀ b∈X.fs,X.H₀ b=none
structure Inv (X:Cx) (pins:List (Addr × Hn)) (σ:List (Option V)) (H:Hp) (s:Eg):Prop where
 ok:X.Ok
 os:s.os=X.s₀.os
 bare:J0 s.gens
 base:Un X.fs X.ex X.H₀ H X.s₀.heap s.heap
 loc:∃ m,s.heap.Ns X.env.locals m/\∀ (i:Nat) (x:Str) (v:V),X.N[i]? = some x->σ[i]? = some (some v)->Vis X.env.scope x->∃ u,RelV v u/\Look X.env s.heap m x u
 cell:∀ x c,X.env.cells.lookup x=some c->∃ v,s.heap.IsCell c v
 free:H X.env.locals=none
 freeC:∀ x c,X.env.cells.lookup x=some c->H c=none
 pin:∀ p∈X.pn++pins,s.heap.get? p.1=some p.2/\H p.1=none/\p.1≠X.env.locals/\p.1 ∉ X.fs/\∀ v,p.2.data≠.cell v
 hok:HOk X.prog X.w H s.heap
 len:σ.length=X.N.length
section
variable {X:Cx} {pins:List (Addr × Hn)} {σ:List (Option V)} {H H':Hp} {s:Eg} {h':Gh}
theorem Cx.Ok.Dk (ok:X.Ok) {b:Addr} {o:Hn} (e:X.base.get? b=some o):b ∉ X.fs:=fun hb=>by
 have:=(ok.vq.mem hb).1
 rw[e] at this; cases this
theorem Inv.bs (I:Inv X pins σ H s):∀ b o,X.base.get? b=some o->s.heap.get? b=some o/\H b=none:=fun b o e =>
 ⟨I.base.keep b o (I.ok.bs b o e).1 (I.ok.bs b o e).2 (I.ok.Dk e) (I.ok.noex b o e),I.base.free b o (I.ok.bs b o e).1 (I.ok.bs b o e).2 (I.ok.noex b o e)⟩
theorem Inv.bk (I:Inv X pins σ H s):∀ b o,X.base.get? b=some o->s.heap.get? b=some o:=fun b o e=>(I.bs b o e).1
theorem Inv.mod (I:Inv X pins σ H s):Mod X.K X.mg X.base:=I.ok.mod
theorem Inv.kIn (I:Inv X pins σ H s):X.K.In s.heap:=I.ok.mod.kin.keeps I.bk
theorem Inv.lt (I:Inv X pins σ H s):X.env.locals < s.heap.objs.size:=let ⟨_,hn,_⟩:=I.loc; hn.lt
theorem Inv.sz (I:Inv X pins σ H s):X.s₀.heap.objs.size<=s.heap.objs.size:=Fe I.ok.above (Hv I.lt)
theorem Inv.Di (I:Inv X pins σ H s) {a:Addr} (h:s.heap.objs.size<=a):a ∉ X.fs:=fun hb=>by
 obtain⟨_,o,ho,_⟩:=I.ok.vq.mem hb
 exact absurd (Em (Ep ho) (Fe I.sz h)) (GC _)
theorem Inv.cne (I:Inv X pins σ H s):∀ x c,X.env.cells.lookup x=some c->c≠X.env.locals:=fun x c e z=>by
 obtain⟨v,o,ho,hd⟩:=I.cell x c e
 obtain⟨m,⟨o',es,ep,ho',hd',_⟩,_⟩:=I.loc
 rw[z,ho'] at ho; cases ho; rw[hd'] at hd; cases hd
theorem Inv.vq (I:Inv X pins σ H s):s.heap.FunFrames X.base X.outer:=by
 have all:∀ (l:List Ls),(∀ b∈frs l,b∈X.fs)->X.s₀.heap.FunFrames X.base l->s.heap.FunFrames X.base l:=by
  intro l
  induction l with
  | nil=>intro _ _; trivial
  | cons env r ih =>
   intro hs hl
   obtain⟨hk,⟨L,o,hf,hn,ho,hd⟩,hr⟩:=hl
   have hL:L∈X.fs:=hs L (by unfold frs; rw[Js,hf]; exact Ek)
   obtain⟨sl,e⟩:=I.base.slot L o ho (I.ok.frf L hL) hL fun z=>I.ok.exfs L z hL
   exact⟨hk,⟨L,_,hf,hn,e,hd⟩,ih (fun b hb=>hs b (by unfold frs; rw[Js,hf]; exact En _ hb)) hr⟩
 exact all X.outer (fun _ hb=>hb) I.ok.vq
theorem Inv.stack (I:Inv X pins σ H s):s.heap.FunFrames X.base X.stack:=by
 rcases I.ok.stk with e | ⟨e,hf⟩
 ·rw[e]; exact I.vq
 ·rw[e]
  obtain⟨m,hn,_⟩:=I.loc
  refine .cons (by rw[I.ok.kind]; decide) hf hn ?_ I.vq
  exact Heap.get?_none_of_le (Fe I.ok.bsz I.ok.above)
theorem Inv.vA (I:Inv X pins σ H s):∀ b∈frs X.stack,b∈X.env.locals::X.fs:=fun b hb=>by
 rcases I.ok.stk with e | ⟨e,hf⟩
 ·rw[e] at hb; exact En _ hb
 ·rw[e] at hb
  unfold frs at hb
  rw[Js,hf] at hb
  exact hb
theorem Inv.uK (I:Inv X pins σ H s):∀ b∈frs X.stack,H b=none:=fun b hb=>by
 rcases List.mem_cons.mp (I.vA b hb) with e | hb
 ·rw[e]; exact I.free
 ·obtain⟨_,o,ho,_⟩:=I.ok.vq.mem hb
  exact I.base.free b o ho (I.ok.frf b hb) fun z=>I.ok.exfs b z hb
theorem Inv.step {g':Array GenState} {t':Nat} {d':Drawn} {ch:List Addr} (I:Inv X pins σ H s)
  (hch:∀ b∈ch,(b∈X.ex∨X.s₀.heap.objs.size<=b)/\b≠X.env.locals/\(∀ x c,X.env.cells.lookup x=some c->c≠b)/\∀ p∈X.pn++pins,p.1≠b)
  (keep:∀ b o,b≠X.env.locals->b ∉ X.fs->b ∉ ch->s.heap.get? b=some o->H b=none->h'.get? b=some o)
  (slot:∀ b o,b≠X.env.locals->b∈X.fs->b ∉ ch->s.heap.get? b=some o->H b=none->∃ sl,h'.get? b=some { o with slots:=sl }) (free:∀ b o,b ∉ ch->s.heap.get? b=some o->H b=none->H' b=none)
  (there:∀ b o,b ∉ ch->s.heap.get? b=some o->∃ o',h'.get? b=some o')
  (tups:∀ b xs,H b=some (.tup xs)->H' b=some (.tup xs)) (frzs:∀ b o u,H b=some (.frz o u)->H' b=some (.frz o u)) (tbls:∀ b ps,H b=some (.tbl ps)->∃ more,H' b=some (.tbl (ps++more)))
  (ns:∀ m,s.heap.Ns X.env.locals m->h'.Ns X.env.locals m) (hok:HOk X.prog X.w H' h') (hg:J0 g') :
  Inv X pins σ H' { s with heap:=h',gens:=g',drawn:=d',toks:=t' }:=by
 have neL:∀ b o,X.s₀.heap.get? b=some o->b≠X.env.locals:=fun b o e=>Fl (Em (Ep e) I.ok.above)
 have neC:∀ b o,X.s₀.heap.get? b=some o->b ∉ X.ex->b ∉ ch:=fun b o e hx hb=>by
  rcases (hch b hb).1 with z | z
  ·exact hx z
  ·exact absurd (Em (Ep e) z) (GC _)
 have cellK:∀ x c,X.env.cells.lookup x=some c->∀ v,s.heap.IsCell c v->h'.IsCell c v:=fun x c e v ⟨o,ho,hd⟩=>by
  have nch:c ∉ ch:=fun z=>(hch c z).2.2.1 x c e rfl
  by_cases hc:c∈X.fs
  ·obtain⟨sl,q⟩:=slot c o (I.cne x c e) hc nch ho (I.freeC x c e)
   exact⟨_,q,hd⟩
  ·exact⟨o,keep c o (I.cne x c e) hc nch ho (I.freeC x c e),hd⟩
 refine⟨I.ok,I.os,hg,⟨fun b o e n hb hx=>?_,fun b o e n hb hx=>?_,fun b o e n hx=>?_,fun b o e hx=>?_,fun b xs e=>tups b xs (I.base.tups b xs e),fun b o xs e=>frzs b o xs (I.base.frzs b o xs e),fun b ps e=>?_⟩,?_,fun x c e=>?_,?_,fun x c e=>?_,fun p hp=>?_,hok,I.len⟩
 ·exact keep b o (neL b o e) hb (neC b o e hx) (I.base.keep b o e n hb hx) (I.base.free b o e n hx)
 ·obtain⟨sl,e1⟩:=I.base.slot b o e n hb hx
  obtain⟨sl',e2⟩:=slot b _ (neL b o e) hb (neC b o e hx) e1 (I.base.free b o e n hx)
  exact⟨sl',e2⟩
 ·obtain⟨o',e1⟩:=I.base.there b o e hx
  exact free b o' (neC b o e hx) e1 (I.base.free b o e n hx)
 ·obtain⟨o',e1⟩:=I.base.there b o e hx
  exact there b o' (neC b o e hx) e1
 ·obtain⟨m1,e1⟩:=I.base.tbls b ps e
  obtain⟨m2,e2⟩:=tbls b _ e1
  exact⟨m1++m2,by rw[e2,Array.append_assoc]⟩
 ·obtain⟨m,hn,hl⟩:=I.loc
  refine⟨m,ns m hn,fun i x v e1 e2 e3=>?_⟩
  obtain⟨u,r,l⟩:=hl i x v e1 e2 e3
  refine⟨u,r,?_⟩
  rcases l with l | ⟨k,c,e,z⟩
  ·exact .inl l
  ·exact .inr ⟨k,c,e,cellK x c e _ z⟩
 ·obtain⟨v,z⟩:=I.cell x c e
  exact⟨v,cellK x c e v z⟩
 ·obtain⟨m,⟨o,_,_,ho,_⟩,_⟩:=I.loc
  exact free _ o (fun z=>(hch _ z).2.1 rfl) ho I.free
 ·obtain⟨v,o,ho,hd⟩:=I.cell x c e
  exact free c o (fun z=>(hch c z).2.2.1 x c e rfl) ho (I.freeC x c e)
 ·obtain⟨e,n,ne,nf,d⟩:=I.pin p hp
  have nch:p.1 ∉ ch:=fun z=>(hch p.1 z).2.2.2 p hp rfl
  exact⟨keep p.1 p.2 ne nf nch e n,free p.1 p.2 nch e n,ne,nf,d⟩
theorem Inv.un {t':Nat} (I:Inv X pins σ H s) (u:Un X.fs [] H H' s.heap h') (hok:HOk X.prog X.w H' h'):Inv X pins σ H' { s with heap:=h',toks:=t' }:=by
 obtain⟨m,⟨o,es,ep,ho,r⟩,_⟩:=id I.loc
 obtain⟨sl,hL⟩:=u.any ho I.free (by simp)
 exact I.step (g':=s.gens) (d':=s.drawn) (ch:=[]) (fun _ z=>nomatch z) (fun b o _ hb _ e n=>u.keep b o e n hb (by simp)) (fun b o _ hb _ e n=>u.slot b o e n hb (by simp)) (fun b o _ e n=>u.free b o e n (by simp)) (fun b o _ e=>u.there b o e (by simp)) u.tups u.frzs u.tbls (fun m' hm=>by
  obtain⟨o',es',ep',ho',r'⟩:=hm
  rw[ho] at ho'; cases ho'
  exact⟨_,es',ep',hL,r'⟩) hok I.bare
theorem Inv.call {g':Array GenState} {t':Nat} {d':Drawn} {ch:List Addr} (I:Inv X pins σ H s) (u:Un (frs X.stack) ch H H' s.heap h') (hok:HOk X.prog X.w H' h') (hg:J0 g')
  (hch:∀ b∈ch,(b∈X.ex∨X.s₀.heap.objs.size<=b)/\b≠X.env.locals/\(∀ x c,X.env.cells.lookup x=some c->c≠b)/\∀ p∈X.pn++pins,p.1≠b) :
  Inv X pins σ H' { s with heap:=h',gens:=g',drawn:=d',toks:=t' }:=by
 obtain⟨m,⟨o,es,ep,ho,r⟩,_⟩:=id I.loc
 obtain⟨sl,hL⟩:=u.any ho I.free fun z=>(hch _ z).2.1 rfl
 exact I.step (ch:=ch) hch (fun b o hL hb hc e n=>u.keep b o e n (fun z=>(List.mem_cons.mp (I.vA b z)).elim hL hb) hc) (fun b o _ _ hc e n=>u.any e n hc) (fun b o hc e n=>u.free b o e n hc) (fun b o hc e=>u.there b o e hc) u.tups u.frzs u.tbls (fun m' hm=>by
  obtain⟨o',es',ep',ho',r'⟩:=hm
  rw[ho] at ho'; cases ho'
  exact⟨_,es',ep',hL,r'⟩) hok hg
theorem Inv.turned {t':Nat} {it:Addr} (I:Inv X pins σ H s) (k:∀ b o,b≠it->s.heap.get? b=some o->h'.get? b=some o) (hn:H it=none) (hL:it≠X.env.locals)
  (h1:it∈X.ex∨X.s₀.heap.objs.size<=it) (h2:∀ x c,X.env.cells.lookup x=some c->c≠it) (h3:∀ p∈X.pn++pins,p.1≠it):Inv X pins σ H { s with heap:=h',toks:=t' }:=by
 have nit:∀ b u,H b=some u->b≠it:=fun b u e z=>by rw[z,hn] at e; cases e
 refine I.step (g':=s.gens) (d':=s.drawn) (ch:=[it]) (fun b hb=>?_) (fun b o _ _ hc e _=>k b o (fun z=>hc (by simp [z])) e) (fun b o _ _ hc e _=>⟨o.slots,k b o (fun z=>hc (by simp [z])) e⟩) (fun _ _ _ _ n=>n)
  (fun b o hc e=>⟨o,k b o (fun z=>hc (by simp [z])) e⟩) (fun _ _ e=>e) (fun _ _ _ e=>e) (fun b ps e=>⟨#[],by rw[e]; simp⟩) (fun m hm=>?_) (fun b u e=>?_) I.bare
 ·have e:b=it:=by simpa using hb
  subst e
  exact⟨h1,hL,h2,h3⟩
 ·obtain⟨o,es,ep,ho,r⟩:=hm
  exact⟨o,es,ep,k _ o (Jh hL) ho,r⟩
 ·refine (I.hok b u e).stay (fun c v hc q=>k c v ?_ q) (fun _ q=>q) fun _ _ q=>q
  rcases hc with z | z
  ·rw[z]; exact nit b u e
  ·exact nit c _ z
theorem Inv.tok (I:Inv X pins σ H s) (t:Nat):Inv X pins σ H { s with toks:=t }:=I.un (h':=s.heap) (t':=t) Un.refl I.hok
theorem Inv.kept {t':Nat} (I:Inv X pins σ H s) (k:∀ b u,s.heap.get? b=some u->h'.get? b=some u):Inv X pins σ H { s with heap:=h',toks:=t' }:=I.un (Un.kept k) (I.hok.kept k)
theorem Inv.laid {a:Addr} {o:HO} {t':Nat} (I:Inv X pins σ H s) (k:∀ b u,s.heap.get? b=some u->h'.get? b=some u) (hp:s.heap.objs.size<=a) (new:eQ X.prog X.w (upd H a o) h' a o) :
  Inv X pins σ (upd H a o) { s with heap:=h',toks:=t' }:=I.un (Un.laid k hp (I.hok.fresh hp)) (I.hok.laid k hp new)
theorem Inv.write {x e:Addr} {o:HO} {t':Nat} (I:Inv X pins σ H s) (mu:Mut (H x)) (he:e=x∨H e=some (.own x)) (k:∀ b u,b≠e->s.heap.get? b=some u->h'.get? b=some u) (heo:∃ u,h'.get? e=some u)
  (new:eQ X.prog X.w (upd H x o) h' x o):Inv X pins σ (upd H x o) { s with heap:=h',toks:=t' }:=I.un (Un.write mu he k heo) (I.hok.write mu he k heo new)
theorem Inv.uO {pins':List (Addr × Hn)} (I:Inv X pins σ H s) (h:∀ p∈pins',s.heap.get? p.1=some p.2/\H p.1=none/\p.1≠X.env.locals/\p.1 ∉ X.fs/\∀ v,p.2.data≠.cell v):Inv X pins' σ H s :=
 ⟨I.ok,I.os,I.bare,I.base,I.loc,I.cell,I.free,I.freeC,fun p hp=>(List.mem_append.mp hp).elim (fun z=>I.pin p (J9 _ z)) (h p),I.hok,I.len⟩
theorem sy {N:List Str} (hN:N.Nodup) {i j:Nat} {x:Str} (a:N[i]? = some x) (b:N[j]? = some x):i=j:=by
 obtain⟨h1,e1⟩:=List.getElem?_eq_some_iff.mp a
 obtain⟨h2,e2⟩:=List.getElem?_eq_some_iff.mp b
 exact (List.getElem_inj hN).mp (e1.trans e2.symm)
theorem o8 {M:Model} {A:Gd} {E:Value->Eg->Prop} {i:Nat} {x:Str} {v:V} {u:Value} {Q:Unit->Eg->Prop} (I:Inv X pins σ H s) (hN:X.N.Nodup) (hi:X.N[i]? = some x) (hx:Loc X.env.scope x) (r:RelV v u)
  (h:∀ s',Inv X pins (σ.set i (some v)) H s'->(∃ a,JZ a s.heap s'.heap/\(a=X.env.locals∨X.env.cells.lookup x=some a))->Q () s') (hf:X.fn x=true∨X.env.scope.names.lookup x=some .local:=by first | exact .inl rfl | exact .inr rfl | assumption):Eu M A (storeName X.env x u) Q E s:=by
 obtain⟨m,hn,hl⟩:=id I.loc
 have hcls:(X.env.scope.kind == .class || (X.env.scope.kind == .module && X.env.locals != X.env.globals))=false:=by rw[I.ok.kind]; rfl
 have hiσ:i < σ.length:=by rw[I.len]; exact (List.getElem?_eq_some_iff.mp hi).1
 have cne:=I.cne
 have tracked:∀ {a:Addr} {h':Gh},(∃ o,s.heap.get? a=some o/\H a=none)->JZ a s.heap h'->HOk X.prog X.w H h':=fun {a h'} ha hs b ob e=>by
  obtain⟨_,_,hfree⟩:=ha
  refine (I.hok b ob e).stay (fun c w' hc q=>(hs.2 c ?_).trans q) (fun _ q=>q) fun _ _ q=>q
  rintro rfl
  rcases hc with rfl | hc
  ·rw[hfree] at e; cases e
  ·rw[hfree] at hc; cases hc
 rcases hx with hk | hk
 ·refine wpAny_storeName_local hk hn (fun h' hn' hs=>?_) hcls
  obtain⟨oL,_,_,hoL,_⟩:=id hn
  refine h _ ⟨I.ok,I.os,I.bare,⟨fun b o e n hb hx=>?_,fun b o e n hb hx=>?_,I.base.free,fun b o e hx=>?_,I.base.tups,I.base.frzs,I.base.tbls⟩,⟨_,hn',fun j y v' e1 e2 e3=>?_⟩,fun y c e=>?_,I.free,I.freeC,fun p hp=>?_,tracked ⟨oL,hoL,I.free⟩ hs,by simpa using I.len⟩ ⟨_,hs,.inl rfl⟩
  ·exact (hs.2 b (Fl (Em (Ep e) I.ok.above))).trans (I.base.keep b o e n hb hx)
  ·obtain⟨sl,e1⟩:=I.base.slot b o e n hb hx
   exact⟨sl,(hs.2 b (Fl (Em (Ep e) I.ok.above))).trans e1⟩
  ·obtain⟨o',e1⟩:=I.base.there b o e hx
   exact⟨o',(hs.2 b (Fl (Em (Ep e) I.ok.above))).trans e1⟩
  ·by_cases hj:j=i
   ·subst hj
    rw[hi] at e1; cases e1
    rw[List.getElem?_set_self hiσ] at e2
    cases e2
    exact⟨u,r,.inl ⟨hk,by simp⟩⟩
   ·rw[List.getElem?_set_ne (Jh hj)] at e2
    obtain⟨u',r',q⟩:=hl j y v' e1 e2 e3
    refine⟨u',r',?_⟩
    rcases q with⟨k,e⟩ | ⟨k,c,e,z⟩
    ·refine .inl ⟨k,?_⟩
     have:y≠x:=fun e=>hj (sy hN e1 (e▸hi))
     simp [this,e]
    ·exact .inr ⟨k,c,e,z.sameBut hs (cne y c e)⟩
  ·obtain⟨w',z⟩:=I.cell y c e
   exact⟨w',z.sameBut hs (cne y c e)⟩
  ·obtain⟨e,n,ne,nf,d⟩:=I.pin p hp
   exact⟨(hs.2 p.1 ne).trans e,n,ne,nf,d⟩
 ·have hfn:X.fn x=true:=by
   rcases hf with z | z
   ·exact z
   ·rw[z] at hk; cases hk
  obtain⟨c,hc⟩:=I.ok.has x (.inl hk)
  obtain⟨w',z⟩:=I.cell x c hc
  refine wpAny_storeName_cell I.ok.kind hk hc z (fun h' hc' hs=>?_)
  obtain⟨oc,hoc,hocd⟩:=id z
  refine h { s with heap:=h' } ⟨I.ok,I.os,I.bare,⟨fun b o e n hb hx=>?_,fun b o e n hb hx=>?_,I.base.free,fun b o e hx=>?_,I.base.tups,I.base.frzs,I.base.tbls⟩,⟨m,hn.sameBut hs (Jh (cne x c hc)),fun j y v' e1 e2 e3=>?_⟩,fun y c' e=>?_,I.free,I.freeC,fun p hp=>?_,tracked ⟨oc,hoc,I.freeC x c hc⟩ hs,by simpa using I.len⟩ ⟨c,hs,.inr hc⟩
  ·exact (hs.2 b (Fl (Em (Ep e) (I.ok.cab x c hfn hc)))).trans (I.base.keep b o e n hb hx)
  ·obtain⟨sl,e1⟩:=I.base.slot b o e n hb hx
   exact⟨sl,(hs.2 b (Fl (Em (Ep e) (I.ok.cab x c hfn hc)))).trans e1⟩
  ·obtain⟨o',e1⟩:=I.base.there b o e hx
   exact⟨o',(hs.2 b (Fl (Em (Ep e) (I.ok.cab x c hfn hc)))).trans e1⟩
  ·by_cases hj:j=i
   ·subst hj
    rw[hi] at e1; cases e1
    rw[List.getElem?_set_self hiσ] at e2
    cases e2
    exact⟨u,r,.inr ⟨.inl hk,c,hc,hc'⟩⟩
   ·rw[List.getElem?_set_ne (Jh hj)] at e2
    obtain⟨u',r',q⟩:=hl j y v' e1 e2 e3
    refine⟨u',r',?_⟩
    rcases q with q | ⟨k,c',e,z'⟩
    ·exact .inl q
    ·refine .inr ⟨k,c',e,z'.sameBut hs ?_⟩
     rintro rfl
     exact hj (sy hN e1 (I.ok.inj _ _ _ e hc▸hi))
  ·by_cases hcc:c'=c
   ·subst hcc; exact⟨_,hc'⟩
   ·obtain⟨w2,z2⟩:=I.cell y c' e
    exact⟨w2,z2.sameBut hs hcc⟩
  ·obtain⟨e,n,ne,nf,d⟩:=I.pin p hp
   refine⟨(hs.2 p.1 ?_).trans e,n,ne,nf,d⟩
   intro q
   rw[q,hoc] at e
   have q':oc=p.2:=FW e
   exact d w' (by rw[← q']; exact hocd)
theorem mZ {M:Model} {A:Gd} {E:Value->Eg->Prop} {i:Nat} {x:Str} {v:V} {u:Value} {Q:Unit->Eg->Prop} (I:Inv X pins σ H s) (hN:X.N.Nodup) (hi:X.N[i]? = some x) (hx:Loc X.env.scope x) (r:RelV v u)
  (h:∀ s',Inv X pins (σ.set i (some v)) H s'->Q () s') (hf:X.fn x=true∨X.env.scope.names.lookup x=some .local:=by first | exact .inl rfl | exact .inr rfl | assumption):Eu M A (storeName X.env x u) Q E s :=
 o8 I hN hi hx r (fun s' I' _=>h s' I') hf
theorem Inv.call' {s':Eg} {ch:List Addr} (I:Inv X pins σ H s) (ho:s'.os=s.os) (u:Un (frs X.stack) ch H H' s.heap s'.heap) (hok:HOk X.prog X.w H' s'.heap) (hg:J0 s'.gens)
  (hch:∀ b∈ch,(b∈X.ex∨X.s₀.heap.objs.size<=b)/\b≠X.env.locals/\(∀ x c,X.env.cells.lookup x=some c->c≠b)/\∀ p∈X.pn++pins,p.1≠b):Inv X pins σ H' s':=by
 obtain⟨h',g',d',t',o'⟩:=s'
 have e:o'=s.os:=ho
 subst e
 exact I.call (g':=g') (t':=t') (d':=d') u hok hg hch
end
abbrev XK:=Value->Option Addr->Hp->Prop
abbrev St:=List (Option V)
abbrev VK:=V->Hp->Prop
abbrev TE:=St->Hp->VK->Prop
abbrev TT:=St->Hp->(Bool->Hp->Prop)->Prop
abbrev TA:=St->Hp->(List V->Hp->Prop)->Prop
structure Ends where
 nx:St->Hp->Prop
 rt:VK
 bk:St->Hp->Prop:=fun _ _=>False
 ct:St->Hp->Prop:=fun _ _=>False
abbrev TS:=Ends->St->Hp->Prop
def EP (X:Cx) (pins:List (Addr × Hn)) (σ:St) (Q:VK) (u:Value) (s':Eg):Prop:=∃ v H',Inv X pins σ H' s'/\RelV v u/\Q v H'
def TP (X:Cx) (pins:List (Addr × Hn)) (σ:St) (Q:Bool->Hp->Prop) (b:Bool) (s':Eg):Prop:=∃ H',Inv X pins σ H' s'/\Q b H'
def AP (X:Cx) (pins:List (Addr × Hn)) (σ:St) (Q:List V->Hp->Prop) (us:List Value) (s':Eg):Prop:=∃ vs H',Inv X pins σ H' s'/\Vals vs us/\Q vs H'
def SP (X:Cx) (pins:List (Addr × Hn)) (D:Ends) (f:Flow) (s':Eg):Prop :=
 match f with
 | .next=>∃ σ' H',Inv X pins σ' H' s'/\D.nx σ' H'
 | .brk=>∃ σ' H',Inv X pins σ' H' s'/\D.bk σ' H'
 | .cont=>∃ σ' H',Inv X pins σ' H' s'/\D.ct σ' H'
 | .ret u=>∃ v σ' H',Inv X pins σ' H' s'/\RelV v u/\D.rt v H'
def PE (X:Cx) (e:Expr) (t:TE):Prop :=
 ∀ (pins:List (Addr × Hn)) (s:Eg) (σ:St) (H:Hp) (Q:VK),Inv X pins σ H s->t σ H Q->Eu (Ey X.prog X.w) X.A (Im e X.env) (EP X pins σ Q) X.xe s
def PT (X:Cx) (e:Expr) (t:TT):Prop :=
 ∀ (pins:List (Addr × Hn)) (s:Eg) (σ:St) (H:Hp) (Q:Bool->Hp->Prop),Inv X pins σ H s->t σ H Q->Eu (Ey X.prog X.w) X.A (isTrue e X.env (Im e X.env)) (TP X pins σ Q) X.xe s
def PW (X:Cx) (e:Expr) (t:TT):Prop :=
 ∀ (whole:Sem Value) (pins:List (Addr × Hn)) (s:Eg) (σ:St) (H:Hp) (Q:Bool->Hp->Prop),Inv X pins σ H s->t σ H Q->Eu (Ey X.prog X.w) X.A (isTrue e X.env whole) (TP X pins σ Q) X.xe s
theorem PW.pt {X:Cx} {e:Expr} {t:TT} (h:PW X e t):PT X e t:=h _
def PA (X:Cx) (es:List Expr) (t:TA):Prop :=
 ∀ (pos:JM) (pins:List (Addr × Hn)) (s:Eg) (σ:St) (H:Hp) (Q:List V->Hp->Prop),Inv X pins σ H s->t σ H Q->Eu (Ey X.prog X.w) X.A (spliced (JK pos (FZ es X.env))) (AP X pins σ Q) X.xe s
def PS (X:Cx) (st:Stmt) (t:TS):Prop :=
 ∀ (pins:List (Addr × Hn)) (s:Eg) (σ:St) (H:Hp) (D:Ends),Inv X pins σ H s->t D σ H->Eu (Ey X.prog X.w) X.A (exec st X.env) (SP X pins D) X.xe s
def PSs (X:Cx) (st:List Stmt) (t:TS):Prop :=
 ∀ (pins:List (Addr × Hn)) (s:Eg) (σ:St) (H:Hp) (D:Ends),Inv X pins σ H s->t D σ H->Eu (Ey X.prog X.w) X.A (execs st X.env) (SP X pins D) X.xe s
theorem thn {α:Type} {t:Sem α} {Q Q':α->Eg->Prop} {M:Model} {A:Gd} {E:Value->Eg->Prop} {s:Eg} (h:Eu M A t Q E s) (hQ:∀ a s,Q a s->Q' a s):Eu M A t Q' E s:=Ga h hQ fun _ _ x=>x
end L2
namespace L2
open PySem PySem.Spec PyProof.Rows
section
variable {X:Cx}
def xW (i:Nat):TE:=fun σ H Q=>∃ v,σ[i]? = some (some v)/\Q v H
def tC (v:V):TE:=fun _ H Q=>Q v H
theorem Ab {i:Nat} {x:Str} {pos:JM} (hN:X.N[i]? = some x) (hv:Vis X.env.scope x) (hd:(x == ("__debug__" : Str))=false:=by decide) (hcd:(x == ("__classdict__" : Str))=false:=by decide):PE X (.Name x pos) (xW i):=by
 intro pins s σ H Q I h
 obtain⟨v,e,h⟩:=h
 obtain⟨m,hn,hl⟩:=I.loc
 obtain⟨u,r,l⟩:=hl i x v hN e hv
 have fin:EP X pins σ Q u s:=⟨v,H,I,r,h⟩
 rcases l with⟨hk,hm⟩ | ⟨hk,c,hc,hcell⟩
 ·exact wpAny_Name (wpAny_loadName_local I.ok.kind hk hn hm fin) hd
 ·rcases hk with hk | hk
  ·exact wpAny_Name (wpAny_loadName_cell I.ok.kind hk hc hcell fin) hd
  ·exact wpAny_Name (wpAny_loadName_free I.ok.kind hk hc hcell fin hcd) hd
theorem aq {i j pos}:PE X (.Constant (.int i) j pos) (tC (.int i)):=fun _ _ _ H _ I h=>wpAny_Constant_int ⟨.int i,H,I.tok _,⟨_,rfl⟩,h⟩
theorem iu {b j pos}:PE X (.Constant (.bool b) j pos) (tC (.bl b)):=fun _ _ _ H _ I h=>Constant_bool ⟨.bl b,H,I,rfl,h⟩
theorem aC {x j pos}:PE X (.Constant (.str x) j pos) (tC (.str x)):=fun _ _ _ H _ I h=>Calls.Constant_str ⟨.str x,H,I.tok _,⟨_,rfl⟩,h⟩
def Gl (X:Cx) (x:Str):Prop:=X.env.kindOf x=some .globalImplicit
theorem vU {E:Value->Eg->Prop} {pins:List (Addr × Hn)} {s:Eg} {σ:St} {H:Hp} {x:Str} {u:Value} {pos:JM} {Q:Value->Eg->Prop} (I:Inv X pins σ H s) (hg:Gl X x) (hm:X.mg x=some u) (h:Q u s)
  (hd:(x == ("__debug__" : Str))=false:=by decide):Eu (Ey X.prog X.w) X.A (Im (.Name x pos) X.env) Q E s :=
 Calls.Name_function_global I.ok.kind hg (Calls.loadGlobal_global (by rw[I.ok.glob]; exact I.mod.glob.keeps I.bk) hm h) hd
theorem jQ {E:Value->Eg->Prop} {pins:List (Addr × Hn)} {s:Eg} {σ:St} {H:Hp} {x:Str} {u:Value} {pos:JM} {Q:Value->Eg->Prop} (I:Inv X pins σ H s) (hg:Gl X x) (hm:X.mg x=none) (hv:FJ x=some u) (h:Q u s)
  (hn:x≠"__name__":=by decide) (hd:(x == ("__debug__" : Str))=false:=by decide):Eu (Ey X.prog X.w) X.A (Im (.Name x pos) X.env) Q E s:=by
 obtain⟨mb,h1,h2⟩:=I.mod.blt
 exact Calls.Name_function_global I.ok.kind hg (Calls.loadGlobal_builtin (by rw[I.ok.glob]; exact I.mod.glob.keeps I.bk) hm (by rw[I.ok.blt]; exact h1.keeps I.bk) ((h2 x hn).trans hv) h) hd
theorem uM {x:Str} {v:V} {u:Value} {pos:JM} (hg:Gl X x) (hm:X.mg x=some u) (r:RelV v u) (hd:(x == ("__debug__" : Str))=false:=by decide):PE X (.Name x pos) (tC v) :=
 fun _ _ _ H _ I h=>vU I hg hm ⟨v,H,I,r,h⟩ hd
theorem zr {x:Str} {v:V} {u:Value} {pos:JM} (hg:Gl X x) (hm:X.mg x=none) (hv:FJ x=some u) (r:RelV v u) (hn:x≠"__name__":=by decide) (hd:(x == ("__debug__" : Str))=false:=by decide):PE X (.Name x pos) (tC v) :=
 fun _ _ _ H _ I h=>jQ I hg hm hv ⟨v,H,I,r,h⟩ hn hd
variable {a b:Expr} {ta tb:TE} {pos:JM}
def PC (X:Cx) (op:CmpOp) (a b:Expr) (t:TE):Prop :=
 ∀ (pins:List (Addr × Hn)) (s:Eg) (σ:St) (H:Hp) (Q:VK),Inv X pins σ H s->t σ H Q →
  Eu (Ey X.prog X.w) X.A (Im a X.env) (fun v s₁=>Eu (Ey X.prog X.w) X.A (Im b X.env) (fun u s₂=>Eu (Ey X.prog X.w) X.A (G8 op v u) (EP X pins σ Q) X.xe s₂) X.xe s₁) X.xe s
theorem sS (b:Expr) {op:CmpOp} (h:op≠.In) (h2:op≠.NotIn):Hz op b=false:=by
 have e1:(op == CmpOp.In)=false:=by cases op <;> first | rfl | exact absurd rfl h
 have e2:(op == CmpOp.NotIn)=false:=by cases op <;> first | rfl | exact absurd rfl h2
 cases b <;> simp [Hz,e1,e2]
def Dn (ta:TE):TE:=fun σ H Q=>ta σ H fun x H1=>Q (.bl (decide (x = .non))) H1
theorem RelV.w6 {x:V} {v:Value} (r:RelV x v):(v == Ht)=decide (x = .non):=by
 cases x with
 | non=>cases r; rfl
 | bl _=>cases r; rfl
 | int _=>obtain⟨t,rfl⟩:=r; rfl
 | str _=>obtain⟨t,rfl⟩:=r; rfl
 | byt _=>obtain⟨t,rfl⟩:=r; rfl
 | flt _=>obtain⟨t,rfl⟩:=r; rfl
 | ref _=>cases r; rfl
 | ty _=>cases r; rfl
theorem yj {j pos'} (ha:PE X a ta):PC X .Is a (.Constant .none j pos') (Dn ta):=by
 intro pins s σ H Q I h
 refine thn (ha pins s σ H _ I h) fun v s1 ⟨x,H1,I1,r1,q1⟩=>?_
 exact Constant_none (is_none_gen ⟨.bl _,H1,I1,by rw[r1.w6]; rfl,q1⟩)
def tB (t:TE):TT:=fun σ H Q=>t σ H fun x H1=>∃ c,x = .bl c/\Q c H1
theorem Be {op:CmpOp} {t:TE} (h:PC X op a b t) (h1:Hz op b=false:=by first | exact sS _ (by decide) (by decide) | rfl):PE X (.Compare a [op] [b] pos) t:=fun pins s σ H Q I hw=>wpAny_Compare1 (h pins s σ H Q I hw) h1
theorem z8 {op:CmpOp} {t:TE} (h:PC X op a b t) (h1:Hz op b=false:=by first | exact sS _ (by decide) (by decide) | rfl):PT X (.Compare a [op] [b] pos) (tB t):=by
 intro pins s σ H Q I hw
 refine wpAny_isTrue_Compare1 (thn (h pins s σ H _ I hw) fun v s1 h1=>thn h1 fun u s2 h2=>thn h2 fun c s3 ⟨x,H1,I1,r1,q1⟩=>?_) h1
 obtain⟨d,rfl,q⟩:=q1
 cases r1
 exact HF ⟨H1,I1,q⟩
theorem cJ {e:Expr} {t:TE} (h:PE X e t) (he:∀ whole,isTrue e X.env whole=(do let v ← whole; Ln e.pos; holding [v] (truthy v)):=by intro _; rfl):PT X e (tB t):=by
 intro pins s σ H Q I hw
 refine isTrue_plain (thn (h pins s σ H _ I hw) fun v s1 ⟨x,H1,I1,r1,q1⟩=>?_) (he _)
 obtain⟨d,rfl,q⟩:=q1
 cases r1
 exact HF ⟨H1,I1,q⟩
variable {tA tB':TT} {rest:List Expr}
def Dg (t u:TT):TT:=fun σ H Q=>t σ H fun c H1=>if c=true then u σ H1 Q else Q false H1
def tOr (t u:TT):TT:=fun σ H Q=>t σ H fun c H1=>if c=true then Q true H1 else u σ H1 Q
def Dl (t:TT):TT:=fun σ H Q=>t σ H fun c H1=>Q (!c) H1
theorem jC (ha:PT X a tA):PW X (.BoolOp .And [a] pos) tA:=by
 intro wh pins s σ H Q I h
 refine isTrue_and (thn (ha pins s σ H Q I h) fun c s1 e=>?_)
 cases c with
 | true=>exact isTrue_and_nil e
 | false=>exact e
theorem d9 (ha:PT X a tA):PW X (.BoolOp .Or [a] pos) tA:=by
 intro wh pins s σ H Q I h
 refine isTrue_or (thn (ha pins s σ H Q I h) fun c s1 e=>?_)
 cases c with
 | false=>exact isTrue_or_nil e
 | true=>exact e
theorem mz (ha:PT X a tA) (hb:PW X (.BoolOp .And (b::rest) pos) tB'):PW X (.BoolOp .And (a::b::rest) pos) (Dg tA tB'):=by
 intro wh pins s σ H Q I h
 refine isTrue_and (thn (ha pins s σ H _ I h) fun c s1 ⟨H1,I1,q1⟩=>?_)
 cases c with
 | true=>exact hb wh pins s1 σ H1 Q I1 q1
 | false=>exact⟨H1,I1,q1⟩
theorem iK (ha:PT X a tA) (hb:PW X (.BoolOp .Or (b::rest) pos) tB'):PW X (.BoolOp .Or (a::b::rest) pos) (tOr tA tB'):=by
 intro wh pins s σ H Q I h
 refine isTrue_or (thn (ha pins s σ H _ I h) fun c s1 ⟨H1,I1,q1⟩=>?_)
 cases c with
 | true=>exact⟨H1,I1,q1⟩
 | false=>exact hb wh pins s1 σ H1 Q I1 q1
theorem cP (ha:PT X a tA):PT X (.UnaryOp .Not a pos) (Dl tA):=by
 intro pins s σ H Q I h
 exact isTrue_not (ha pins s σ H (fun c H1=>Q (!c) H1) I h)
def Bu (ta tb:TE):TE:=fun σ H Q=>ta σ H fun x H1=>∃ c,x = .bl c/\if c=true then tb σ H1 Q else Q (.bl false) H1
def BX (ta:TE):TE:=fun σ H Q=>ta σ H fun x H1=>∃ c,x = .bl c/\Q (.bl (!c)) H1
theorem jb {op} {t:TE} (h:PE X a t):PE X (.BoolOp op [a] pos) t:=fun pins s σ H Q I hw=>BoolOp_one (h pins s σ H Q I hw)
theorem dz (ha:PE X a ta) (hb:PE X (.BoolOp .And (b::rest) pos) tb):PE X (.BoolOp .And (a::b::rest) pos) (Bu ta tb):=by
 intro pins s σ H Q I h
 refine BoolOp_and (thn (ha pins s σ H _ I h) fun v s1 ⟨x,H1,I1,r1,q1⟩=>?_)
 obtain⟨c,rfl,q1⟩:=q1
 cases r1
 refine HF ?_
 cases c with
 | true=>exact hb pins s1 σ H1 Q I1 q1
 | false=>exact⟨.bl false,H1,I1,rfl,q1⟩
theorem z6 (ha:PE X a ta):PE X (.UnaryOp .Not a pos) (BX ta):=by
 intro pins s σ H Q I h
 refine UnaryOp_ (thn (ha pins s σ H _ I h) fun v s1 ⟨x,H1,I1,r1,q1⟩=>?_)
 obtain⟨c,rfl,q1⟩:=q1
 cases r1
 exact not_of (HF ⟨.bl (!c),H1,I1,rfl,q1⟩)
def tIf (t:TT) (ta tb:TE):TE:=fun σ H Q=>t σ H fun c H1=>if c=true then ta σ H1 Q else tb σ H1 Q
theorem rM {c:Expr} (hc:PT X c tA) (ha:PE X a ta) (hb:PE X b tb):PE X (.IfExp c a b pos) (tIf tA ta tb):=by
 intro pins s σ H Q I h
 refine wpAny_IfExp (thn (hc pins s σ H _ I h) fun d s1 ⟨H1,I1,q1⟩=>?_)
 cases d with
 | true=>exact ha pins s1 σ H1 Q I1 q1
 | false=>exact hb pins s1 σ H1 Q I1 q1
end
end L2
namespace L2
open PySem PySem.Spec PyProof.Rows
def SqL (K:Eo) (H:Hp) (a:Addr) (xs:List V):Prop :=
 Rd H a (.lst xs) ∨
  ∃ (o:Hn) (its:Array Value) (n:Nat),K.lookup a=some o/\o.cls = .type "list"/\o.dict=none/\o.data = .seq its n/\its.size<=sizeLine/\Vals xs its.toList
def SqT (K:Eo) (H:Hp) (a:Addr) (xs:List V):Prop :=
 Rd H a (.tup xs) ∨
  ∃ (o:Hn) (its:Array Value) (n:Nat),K.lookup a=some o/\o.cls = .type "tuple"/\o.data = .seq its n/\its.size<=sizeLine/\Vals xs its.toList
def Dt:Value->Option V
 | .none=>some .non
 | .bool b=>some (.bl b)
 | .int i _=>some (.int i)
 | .str x _=>some (.str x)
 | .bytes b _=>some (.byt b)
 | .float b _=>some (.flt b)
 | .ref a=>some (.ref a)
 | .type n=>some (.ty n)
 | _=>none
theorem RelV.abs {x:V} {u:Value} (r:RelV x u):Dt u=some x:=by
 cases x with
 | non=>cases r; rfl
 | bl _=>cases r; rfl
 | int _=>obtain⟨t,rfl⟩:=r; rfl
 | str _=>obtain⟨t,rfl⟩:=r; rfl
 | byt _=>obtain⟨t,rfl⟩:=r; rfl
 | flt _=>obtain⟨t,rfl⟩:=r; rfl
 | ref _=>cases r; rfl
 | ty _=>cases r; rfl
theorem RelV.inj {x y:V} {u:Value} (r:RelV x u) (q:RelV y u):x=y:=FW (r.abs.symm.trans q.abs)
theorem Vals.inj:∀ {xs ys:List V} {us:List Value},Vals xs us->Vals ys us->xs=ys
 | _,_,_,.nil,.nil=>rfl
 | _,_,_,.cons r t,.cons r' t'=>by rw[r.inj r',Vals.inj t t']
section
variable {X:Cx} {pins:List (Addr × Hn)} {σ:St} {H:Hp} {s:Eg} {a:Addr} {xs ys:List V}
theorem SqL.of {K:Eo} (h:H a=some (.lst xs)):SqL K H a xs:=.inl (.inl h)
theorem SqT.of {K:Eo} (h:H a=some (.tup xs)):SqT K H a xs:=.inl (.inl h)
theorem Inv.list (I:Inv X pins σ H s) (h:SqL X.K H a xs):∃ its:List Value,Vals xs its/\PlainL s.heap a its.toArray/\xs.length<=sizeLine:=by
 rcases h with h | ⟨o,its,n,hk,hc,hd,hs,hz,r⟩
 ·obtain⟨z,its,n,r,e⟩:=h.ok I.hok
  exact⟨its,r,⟨_,n,e,rfl,rfl,rfl⟩,z⟩
 ·refine⟨its.toList,r,⟨o,n,I.kIn a o hk,hc,hd,by simpa using hs⟩,?_⟩
  have e:=r.length
  simp only[FQ] at e
  lia
theorem Inv.tuple (I:Inv X pins σ H s) (h:SqT X.K H a xs):∃ its:List Value,Vals xs its/\IsTup s.heap a its.toArray/\xs.length<=sizeLine:=by
 rcases h with h | ⟨o,its,n,hk,hc,hs,hz,r⟩
 ·obtain⟨z,its,r,p⟩:=h.ok I.hok
  exact⟨its,r,p,z⟩
 ·refine⟨its.toList,r,⟨o,I.kIn a o hk,hc,n,by simpa using hs⟩,?_⟩
  have e:=r.length
  simp only[FQ] at e
  lia
theorem Inv.rY (I:Inv X pins σ H s) (h:SqL X.K H a xs) (h':SqL X.K H a ys):xs=ys:=by
 obtain⟨its,r,⟨o,n,e,_,_,d⟩,_⟩:=I.list h
 obtain⟨its',r',⟨o',n',e',_,_,d'⟩,_⟩:=I.list h'
 rw[e] at e'; cases e'
 rw[d] at d'
 injection d' with d1 _
 have:its=its':=by simpa using congrArg Array.toList d1
 subst this
 exact r.inj r'
theorem Inv.uH (I:Inv X pins σ H s) (h:SqT X.K H a xs) (h':SqT X.K H a ys):xs=ys:=by
 obtain⟨its,r,⟨o,e,_,n,d⟩,_⟩:=I.tuple h
 obtain⟨its',r',⟨o',e',_,n',d'⟩,_⟩:=I.tuple h'
 rw[e] at e'; cases e'
 rw[d] at d'
 injection d' with d1 _
 have:its=its':=by simpa using congrArg Array.toList d1
 subst this
 exact r.inj r'
end
abbrev Cx.wish (X:Cx) (E:Value->Eg->Prop):Cx:={ X with xe:=E }
abbrev Cx.nox (X:Cx):Cx:=X.wish fun _ _=>False
theorem Cx.Ok.wish {X:Cx} (ok:X.Ok) (E:Value->Eg->Prop):(X.wish E).Ok :=
 ⟨ok.mod,ok.kind,ok.glob,ok.blt,ok.above,ok.inj,ok.has,ok.cab,ok.hd,ok.frames,ok.stk,ok.exf,ok.bs,ok.bsz,ok.noex,ok.exfs,ok.vq,ok.frf⟩
theorem Cx.Ok.jM {X:Cx} {E:Value->Eg->Prop} (ok:(X.wish E).Ok):X.Ok :=
 ⟨ok.mod,ok.kind,ok.glob,ok.blt,ok.above,ok.inj,ok.has,ok.cab,ok.hd,ok.frames,ok.stk,ok.exf,ok.bs,ok.bsz,ok.noex,ok.exfs,ok.vq,ok.frf⟩
section
variable {X:Cx} {pins:List (Addr × Hn)} {σ:St} {H:Hp} {s:Eg} {E:Value->Eg->Prop}
theorem Inv.wish (I:Inv X pins σ H s) (E:Value->Eg->Prop):Inv (X.wish E) pins σ H s:=⟨I.ok.wish E,I.os,I.bare,I.base,I.loc,I.cell,I.free,I.freeC,I.pin,I.hok,I.len⟩
theorem Inv.jM (I:Inv (X.wish E) pins σ H s):Inv X pins σ H s:=⟨I.ok.jM,I.os,I.bare,I.base,I.loc,I.cell,I.free,I.freeC,I.pin,I.hok,I.len⟩
theorem SP.jM {D:Ends} {f:Flow} {s':Eg} (h:SP (X.wish E) pins D f s'):SP X pins D f s':=by
 cases f with
 | next=>obtain⟨σ',H',I,q⟩:=h; exact⟨σ',H',I.jM,q⟩
 | brk=>obtain⟨σ',H',I,q⟩:=h; exact⟨σ',H',I.jM,q⟩
 | cont=>obtain⟨σ',H',I,q⟩:=h; exact⟨σ',H',I.jM,q⟩
 | ret u=>obtain⟨v,σ',H',I,r,q⟩:=h; exact⟨v,σ',H',I.jM,r,q⟩
theorem PSs.nox {st:List Stmt} {t:TS} (h:PSs X.nox st t):PSs X st t:=fun pins s σ H D I hw =>
 Ga (h pins s σ H D (I.wish _) hw) (fun _ _ q=>q.jM) fun _ _ z=>HR z
end
section
variable {X:Cx} {st:Stmt} {rest:List Stmt} {t u:TS} {e:Expr} {te:TE} {pos:JM}
def BK:TS:=fun D σ H=>D.nx σ H
def xq (t u:TS):TS:=fun D σ H=>t { D with nx:=u D } σ H
theorem aH:PSs X [] BK:=fun _ _ σ H _ I h=>Ld ⟨σ,H,I,h⟩
theorem au (h1:PS X st t) (h2:PSs X rest u):PSs X (st::rest) (xq t u):=by
 intro pins s σ H D I h
 refine wpAny_execs_cons (thn (h1 pins s σ H { D with nx:=u D } I h) fun f s1 q=>?_)
 cases f with
 | next =>
  obtain⟨σ',H',I',q⟩:=q
  exact h2 pins s1 σ' H' D I' q
 | ret v=>exact q
 | brk=>exact q
 | cont=>exact q
theorem aA (h1:PS X st t):PSs X [st] t:=by
 intro pins s σ H D I h
 refine wpAny_execs_cons (thn (h1 pins s σ H D I h) fun f s1 q=>?_)
 cases f with
 | next=>exact Ld q
 | ret v=>exact q
 | brk=>exact q
 | cont=>exact q
theorem Inv.quiet {pins:List (Addr × Hn)} {σ:St} {H:Hp} {s:Eg} (I:Inv X pins σ H s):interactive X.env=false:=by simp [interactive,I.ok.kind]
def BR (te:TE):TS:=fun D σ H=>te σ H fun _ H1=>D.nx σ H1
theorem m5 (he:PE X e te) (hs:swapsWith e none pos.line X.env=pure false:=by rfl):PS X (.Expr e pos) (BR te):=by
 intro pins s σ H D I h
 exact wpAny_Expr_any (thn (he pins s σ H _ I h) fun v s1 ⟨x,H1,I1,r1,q1⟩=>⟨σ,H1,I1,q1⟩) I.quiet hs
def Ds (te:TE):TS:=fun D σ H=>te σ H D.rt
theorem aJ (he:PE X e te):PS X (.Return (some e) pos) (Ds te):=by
 intro pins s σ H D I h
 exact wpAny_Return_some (thn (he pins s σ H _ I h) fun v s1 ⟨x,H1,I1,r1,q1⟩=>⟨x,σ,H1,I1,r1,q1⟩)
def yz (c:TT) (t u:TS):TS:=fun D σ H=>c σ H fun b H1=>if b=true then t D σ H1 else u D σ H1
theorem bx {c:Expr} {a b:List Stmt} {tc:TT} (hc:PT X c tc) (ha:PSs X a t) (hb:PSs X b u):PS X (.If c a b pos) (yz tc t u):=by
 intro pins s σ H D I h
 refine wpAny_If (thn (hc pins s σ H _ I h) fun d s1 ⟨H1,I1,q1⟩=>?_)
 cases d with
 | true=>exact ha pins s1 σ H1 D I1 q1
 | false=>exact hb pins s1 σ H1 D I1 q1
def Ae:TS:=fun _ _ _=>False
theorem fj:PS X st Ae:=fun _ _ _ _ _ _ h=>h.elim
end
abbrev TG:=V->St->Hp->(St->Hp->Prop)->Prop
abbrev TGs:=List V->St->Hp->(St->Hp->Prop)->Prop
def PG (X:Cx) (target:Expr) (t:TG):Prop :=
 ∀ (pins:List (Addr × Hn)) (s:Eg) (σ:St) (H:Hp) (v:V) (u:Value) (Q:St->Hp->Prop),Inv X pins σ H s->RelV v u->t v σ H Q →
  Eu (Ey X.prog X.w) X.A (J7 target X.env u) (fun _ s'=>∃ σ' H',Inv X pins σ' H' s'/\Q σ' H') X.xe s
def PGs (X:Cx) (ts:List Expr) (t:TGs):Prop :=
 ∀ (pins:List (Addr × Hn)) (s:Eg) (σ:St) (H:Hp) (vs:List V) (us:List Value) (Q:St->Hp->Prop),Inv X pins σ H s->Vals vs us->t vs σ H Q →
  Eu (Ey X.prog X.w) X.A (assignInOrder ((Jf ts X.env).map (·.2)) us) (fun _ s'=>∃ σ' H',Inv X pins σ' H' s'/\Q σ' H') X.xe s
abbrev TIp:=V->V->Hp->VK->Prop
def PIp (X:Cx) (op:Operator) (t:TIp):Prop :=
 ∀ (pins:List (Addr × Hn)) (s:Eg) (σ:St) (H:Hp) (x y:V) (v u:Value) (Q:VK),Inv X pins σ H s->RelV x v->RelV y u->t x y H Q →
  Eu (Ey X.prog X.w) X.A (KZ op v u) (EP X pins σ Q) X.xe s
section
variable {X:Cx} {pos:JM}
def mV (i:Nat):TG:=fun v σ H Q=>Q (σ.set i (some v)) H
theorem aN {i:Nat} {x:Str} (hN:X.N.Nodup) (hi:X.N[i]? = some x) (hx:Loc X.env.scope x) (hf:X.fn x=true∨X.env.scope.names.lookup x=some .local:=by first | exact .inl rfl | exact .inr rfl | assumption):PG X (.Name x pos) (mV i):=by
 intro pins s σ H v u Q I r h
 exact wpAny_assign_Name (mZ I hN hi hx r (fun s' I'=>⟨_,H,I',h⟩) hf)
def Dr:TGs:=fun vs σ H Q=>vs=[]/\Q σ H
def Ca (t:TG) (u:TGs):TGs:=fun vs σ H Q=>∃ v r,vs=v::r/\t v σ H fun σ' H'=>u r σ' H' Q
theorem fC:PGs X [] Dr:=by
 intro pins s σ H vs us Q I r h
 obtain⟨e,h⟩:=h
 subst e
 cases r
 exact assignInOrder_nil ⟨σ,H,I,h⟩
theorem bz {e:Expr} {es:List Expr} {t:TG} {u:TGs} (h1:PG X e t) (h2:PGs X es u)
  (hs:(Jf (e::es) X.env).map (·.2)=J7 e X.env::(Jf es X.env).map (·.2):=by rfl):PGs X (e::es) (Ca t u):=by
 intro pins s σ H vs us Q I r h
 obtain⟨v,vr,e1,h⟩:=h
 subst e1
 cases r with
 | cons r rr =>
  rw[hs]
  refine assignInOrder_cons (thn (h1 pins s σ H _ _ _ I r h) fun _ s1 ⟨σ1,H1,I1,q1⟩=>?_)
  exact h2 pins s1 σ1 H1 _ _ Q I1 rr q1
def De (K:Eo) (n:Nat) (t:TGs):TG:=fun v σ H Q=>∃ a xs,v = .ref a/\SqT K H a xs/\xs.length=n/\t xs σ H Q
theorem z7 {es:List Expr} {k:Nat} {t:TGs} {n:Nat} (hc:X.calm=true) (h:PGs X es t)
  (hn:(Jf es X.env).length=n:=by rfl) (hst:(Jf es X.env).findIdx? (·.1)=none:=by rfl):PG X (.Tuple es k pos) (De X.K n t):=by
 intro pins s σ H v u Q I r hw
 obtain⟨a,xs,e1,hq,hl,hw⟩:=hw
 subst e1
 cases r
 obtain⟨its,rv,ht,hz⟩:=I.tuple hq
 refine assign_Tuple_tuple (I.ok.hd hc) ht (by simp [hn,← hl,rv.length]) hst fun h' hx=>?_
 have I1:Inv X pins σ H { s with heap:=h' }:=I.kept (t':=s.toks) fun b o e=>hx b o (Fl (Ep e)) e
 exact h pins _ σ H xs _ Q I1 (by simpa using rv) hw
def CZ (te:TE) (g:TG):TS:=fun D σ H=>te σ H fun x H1=>g x σ H1 D.nx
theorem sO {tg e:Expr} {te:TE} {g:TG} (he:PE X e te) (hg:PG X tg g) (hs:swapsWithSole [tg] e pos.line X.env=pure false:=by rfl) (hw:swappedStores [tg] e X.env=pure none:=by rfl)
  (h1:(Jf [tg] X.env).map (·.2)=[J7 tg X.env]:=by rfl):PS X (.Assign [tg] e pos) (CZ te g):=by
 intro pins s σ H D I h
 refine wpAny_Assign_stores (thn (he pins s σ H _ I h) fun v s1 ⟨x,H1,I1,r1,q1⟩=>?_) hs hw
 rw[h1]
 exact thn (hg pins s1 σ H1 x v _ I1 r1 q1) fun _ s2 q=>q
theorem bc {i:Nat} {x:Str} {e:Expr} {te:TE} {pos':JM} (hN:X.N.Nodup) (hi:X.N[i]? = some x) (hx:Loc X.env.scope x) (he:PE X e te) (hs:swapsWith e (some (.Name x pos')) pos.line X.env=pure false:=by rfl) (hf:X.fn x=true∨X.env.scope.names.lookup x=some .local:=by first | exact .inl rfl | exact .inr rfl | assumption) :
  PS X (.Assign [.Name x pos'] e pos) (CZ te (mV i)):=by
 intro pins s σ H D I h
 refine wpAny_Assign_Name (thn (he pins s σ H _ I h) fun v s1 ⟨y,H1,I1,r1,q1⟩=>?_) hs
 exact mZ I1 hN hi hx r1 (fun s2 I2=>⟨_,H1,I2,q1⟩) hf
def Dj (i:Nat) (te:TE) (ti:TIp):TS:=fun D σ H=>∃ x,σ[i]? = some (some x)/\te σ H fun y H1=>ti x y H1 fun z H2=>D.nx (σ.set i (some z)) H2
theorem xZ {i:Nat} {x:Str} {e:Expr} {te:TE} {op:Operator} {ti:TIp} {pos':JM} (hN:X.N.Nodup) (hi:X.N[i]? = some x) (hx:Loc X.env.scope x) (he:PE X e te) (ho:PIp X op ti) (hf:X.fn x=true∨X.env.scope.names.lookup x=some .local:=by first | exact .inl rfl | exact .inr rfl | assumption) :
  PS X (.AugAssign (.Name x pos') op e pos) (Dj i te ti):=by
 intro pins s σ H D I h
 obtain⟨v,e1,h⟩:=h
 obtain⟨m,hn,hl⟩:=I.loc
 have vis:Vis X.env.scope x:=by rcases hx with k | k; exact .inl k; exact .inr (.inl k)
 obtain⟨u,r,l⟩:=hl i x v hi e1 vis
 refine wpAny_AugAssign_Name ?_
 have go:Eu (Ey X.prog X.w) X.A (Im e X.env) (fun w s₂=>Eu (Ey X.prog X.w) X.A (KZ op u w) (fun r s₃=>Eu (Ey X.prog X.w) X.A (storeName X.env x r) (fun _=>SP X pins D .next) X.xe s₃) X.xe s₂) X.xe s:=by
  refine thn (he pins s σ H _ I h) fun w s1 ⟨y,H1,I1,r1,q1⟩=>?_
  refine thn (ho pins s1 σ H1 v y u w _ I1 r r1 q1) fun z s2 ⟨zv,H2,I2,r2,q2⟩=>?_
  exact mZ I2 hN hi hx r2 (fun s3 I3=>⟨_,H2,I3,q2⟩) hf
 rcases l with⟨hk,hm⟩ | ⟨hk,c,hc,hcell⟩
 ·exact wpAny_loadName_local I.ok.kind hk hn hm go
 ·rcases hk with hk | hk
  ·exact wpAny_loadName_cell I.ok.kind hk hc hcell go
  ·rcases hx with k | k
   ·have:X.env.scope.names.lookup x=some .free:=hk
    rw[k] at this; cases this
   ·have:X.env.scope.names.lookup x=some .free:=hk
    rw[k] at this; cases this
end
section
variable {X:Cx} {pos:JM}
end
structure It where
 go:Nat->Hp->Prop
 yld:Nat->Hp->V->Hp->Prop
 stop:Nat->Hp->Prop
def pO (X:Cx) (pins:List (Addr × Hn)) (H:Hp) (b:Addr):Prop :=
 H b=none/\b≠X.env.locals/\b ∉ X.fs/\(b∈X.ex∨X.s₀.heap.objs.size<=b)/\(∀ x c,X.env.cells.lookup x=some c->c≠b)/\∀ p∈X.pn++pins,p.1≠b
theorem Inv.zq {X:Cx} {pins:List (Addr × Hn)} {σ:St} {H H':Hp} {s:Eg} {b:Addr} (I:Inv X pins σ H s) (hb:s.heap.objs.size<=b) (hn:H' b=none):pO X pins H' b:=by
 refine⟨hn,Ja (Em I.lt hb),I.Di hb,.inr (Fe I.sz hb),fun x c e z=>?_,fun p hp z=>?_⟩
 ·obtain⟨v,q⟩:=I.cell x c e
  exact absurd (Em q.lt (by rw[z]; exact hb)) (GC _)
 ·exact absurd (Em (Ep (I.pin p hp).1) (by rw[z]; exact hb)) (GC _)
structure Turn (P:Ft) (w:FP) (K:Eo) (tg:Expr) (J:It) (fp:List Addr) (it:Addr) (tn:Nat->Gh->Prop):Prop where
 mem:it∈fp
 obj:∀ i h,tn i h->∀ b∈fp,∃ o,h.get? b=some o/\∀ v,o.data≠.cell v
 keep:∀ i h h',tn i h->(∀ b∈fp,∀ o,h.get? b=some o->h'.get? b=some o)->tn i h'
 item:∀ (X:Cx),X.prog=P->X.w=w->X.K=K->X.calm=true->∀ (i:Nat) (pins:List (Addr × Hn)) (s:Eg) (σ:St) (H:Hp) (E:Value->Eg->Prop),Inv X pins σ H s->(∀ b∈fp,pO X pins H b)->tn i s.heap->J.go i H →
  Eu (Ey P w) X.A (Jw (.ref it)) (fun r s1=>∃ u,r=some u ∧
   Eu (Ey P w) X.A (G7 tg (.ref it) u) (fun _ s2=>∃ x H',Inv X pins σ H' s2/\RelV x u/\J.yld i H x H'/\tn (i+1) s2.heap/\∀ b∈fp,H' b=none) E s1) E s
 done:∀ (X:Cx),X.prog=P->X.w=w->X.K=K->X.calm=true->∀ (i:Nat) (pins:List (Addr × Hn)) (s:Eg) (σ:St) (H:Hp) (E:Value->Eg->Prop),Inv X pins σ H s->(∀ b∈fp,pO X pins H b)->tn i s.heap->J.stop i H →
  Eu (Ey P w) X.A (Jw (.ref it)) (fun r s1=>r=none/\Inv X pins σ H s1) E s
 self:∀ (A:Gd) (i:Nat) (s:Eg) (Q:Value->Eg->Prop) (E:Value->Eg->Prop),tn i s.heap->Q (.ref it) s->Eu (Ey P w) A (Kh (.ref it)) Q E s
abbrev TI:=St->Hp->(It->Hp->Prop)->Prop
def PIE (X:Cx) (pins:List (Addr × Hn)) (σ:St) (tg:Expr) (R:It->Hp->Prop) (itv:Value) (s2:Eg):Prop :=
 ∃ (it:Addr) (fp:List Addr) (tn:Nat->Gh->Prop) (J:It) (H':Hp),itv = .ref it/\Inv X pins σ H' s2/\Turn X.prog X.w X.K tg J fp it tn/\tn 0 s2.heap/\(∀ b∈fp,pO X pins H' b)/\R J H'
def PI (X:Cx) (tg iter:Expr) (wi:TI):Prop :=
 ∀ (pins:List (Addr × Hn)) (s:Eg) (σ:St) (H:Hp) (R:It->Hp->Prop),Inv X pins σ H s->wi σ H R →
  Eu (Ey X.prog X.w) X.A (Im iter X.env) (fun v s1=>Eu (Ey X.prog X.w) X.A (Kh v) (PIE X pins σ tg R) X.xe s1) X.xe s
theorem wH {M : Model} {A : Gd} {E : Value → Eg → Prop} {s : Eg} {tg : Expr} {it : Addr} {u : Value} {o : Hn} {n : String} {vs : Array Value} {Q : Unit → Eg → Prop} (ho : s.heap.get? it = some o) (hc : o.cls = .type n) (hd : o.data = .fields vs)
    (hn : ["enumerate", "zip", "dict_itemiterator", "dict_reverseitemiterator", "odict_iterator", "itertools.zip_longest", "itertools.pairwise"].contains n = false) (hQ : Q () s) : Eu M A (G7 tg (.ref it) u) Q E s := by
  unfold G7
  cases tg <;> first
    | exact Ej hQ
    | (cases u <;> first
        | exact Ej hQ
        | (refine Ed (wpAny_load ho ?_)
           rw [hc, hd]
           show Eu M A (if (["enumerate", "zip", "dict_itemiterator", "dict_reverseitemiterator", "odict_iterator", "itertools.zip_longest", "itertools.pairwise"].contains n && vs[0]? == some (GP _)) = true then _ else _) Q E s
           rw [if_neg (by intro h; rw [hn, Jz] at h; cases h)]
           exact Ej hQ))
def Itl (K:Eo) (a:Addr):It :=
 ⟨fun i H=>∃ xs x,SqL K H a xs/\xs[i]? = some x,fun i H x H'=>H'=H/\∀ xs,SqL K H a xs->xs[i]? = some x,fun i H=>∃ xs,SqL K H a xs/\xs.length<=i⟩
def Itt (K:Eo) (a:Addr):It :=
 ⟨fun i H=>∃ xs x,SqT K H a xs/\xs[i]? = some x,fun i H x H'=>H'=H/\∀ xs,SqT K H a xs->xs[i]? = some x,fun i H=>∃ xs,SqT K H a xs/\xs.length<=i⟩
def Itr (lo:Int) (n:Nat):It:=⟨fun i _=>i < n,fun i H x H'=>H'=H/\x = .int (lo+i),fun i _=>n<=i⟩
theorem uq {P:Ft} {w:FP} {K:Eo} {tg:Expr} (a it:Addr):Turn P w K tg (Itl K a) [it] it (fun i h=>h.IsListIter it a i) where
 mem:=by simp
 obj:=fun i h st b hb=>by
  have e:b=it:=by simpa using hb
  subst e
  obtain⟨o,e,c,d⟩:=st
  exact⟨o,e,fun v z=>by rw[d] at z; cases z⟩
 keep:=fun i h h' st k=>st.at fun o e=>k it (by simp) o e
 item:=by
  intro X hP hw hK hc i pins s σ H E I hf st hg
  subst hP hw hK
  obtain⟨xs,x,hq,hx⟩:=hg
  obtain⟨its,rv,p,hz⟩:=I.list hq
  obtain⟨u,hu,ru⟩:=rv.get hx
  obtain⟨f0,f1,f2,f3,f4,f5⟩:=hf it (by simp)
  refine wpAny_pyNext_list_item st p.isList (x:=u) (by simpa using hu) fun h' st' sb=>?_
  have I1:Inv X pins σ H { s with heap:=h' }:=I.turned (t':=s.toks) (fun b o hb e=>(sb.2 b hb).trans e) f0 f1 f3 f4 f5
  obtain⟨o,e,c,d⟩:=id st'
  exact⟨u,rfl,wH (s:={ s with heap:=h' }) e c d (by decide) ⟨x,H,I1,ru,⟨rfl,fun ys hy=>by rw[I.rY hy hq]; exact hx⟩,st',fun b hb=>(hf b hb).1⟩⟩
 done:=by
  intro X hP hw hK hc i pins s σ H E I hf st hg
  subst hP hw hK
  obtain⟨xs,hq,hx⟩:=hg
  obtain⟨its,rv,p,hz⟩:=I.list hq
  obtain⟨f0,f1,f2,f3,f4,f5⟩:=hf it (by simp)
  have hl:=rv.length
  exact wpAny_pyNext_list_end (I.ok.hd hc) st p.isList (by simp; lia) fun h' eb=>⟨rfl,I.turned (t':=s.toks) (fun b o hb e=>eb b o hb e) f0 f1 f3 f4 f5⟩
 self:=fun _ _ _ _ _ st h=>wpAny_pyIter_listiter st h
theorem tV {P:Ft} {w:FP} {K:Eo} {tg:Expr} (a it:Addr):Turn P w K tg (Itt K a) [it] it (fun i h=>h.IsTupleIter it a i) where
 mem:=by simp
 obj:=fun i h st b hb=>by
  have e:b=it:=by simpa using hb
  subst e
  obtain⟨o,e,c,d⟩:=st
  exact⟨o,e,fun v z=>by rw[d] at z; cases z⟩
 keep:=fun i h h' st k=>st.at fun o e=>k it (by simp) o e
 item:=by
  intro X hP hw hK hc i pins s σ H E I hf st hg
  subst hP hw hK
  obtain⟨xs,x,hq,hx⟩:=hg
  obtain⟨its,rv,p,hz⟩:=I.tuple hq
  obtain⟨u,hu,ru⟩:=rv.get hx
  obtain⟨f0,f1,f2,f3,f4,f5⟩:=hf it (by simp)
  refine wpAny_pyNext_tuple_item st (show s.heap.IsTuple a its.toArray from p) (x:=u) (by simpa using hu) fun h' st' sb=>?_
  have I1:Inv X pins σ H { s with heap:=h' }:=I.turned (t':=s.toks) (fun b o hb e=>(sb.2 b hb).trans e) f0 f1 f3 f4 f5
  obtain⟨o,e,c,d⟩:=id st'
  exact⟨u,rfl,wH (s:={ s with heap:=h' }) e c d (by decide) ⟨x,H,I1,ru,⟨rfl,fun ys hy=>by rw[I.uH hy hq]; exact hx⟩,st',fun b hb=>(hf b hb).1⟩⟩
 done:=by
  intro X hP hw hK hc i pins s σ H E I hf st hg
  subst hP hw hK
  obtain⟨xs,hq,hx⟩:=hg
  obtain⟨its,rv,p,hz⟩:=I.tuple hq
  obtain⟨f0,f1,f2,f3,f4,f5⟩:=hf it (by simp)
  have hl:=rv.length
  exact wpAny_pyNext_tuple_end (I.ok.hd hc) st (show s.heap.IsTuple a its.toArray from p) (by simp; lia) fun h' eb=>⟨rfl,I.turned (t':=s.toks) (fun b o hb e=>eb b o hb e) f0 f1 f3 f4 f5⟩
 self:=fun _ _ _ _ _ st h=>wpAny_pyIter_tupleiter st h
theorem t7 {P:Ft} {w:FP} {K:Eo} {tg:Expr} (it:Addr) (lo:Int) (n:Nat):Turn P w K tg (Itr lo n) [it] it (fun i h=>IsRangeIter h it (lo+(i:Nat) * 1) ((n:Int) - (i:Nat)) 1) where
 mem:=by simp
 obj:=fun i h st b hb=>by
  have e:b=it:=by simpa using hb
  subst e
  exact⟨_,st,fun v z=>by
   have z':Data.fields _=Data.cell v:=z
   cases z'⟩
 keep:=fun i h h' st k=>k it (by simp) _ st
 item:=by
  intro X hP hw hK hc i pins s σ H E I hf st hg
  subst hP hw hK
  obtain⟨f0,f1,f2,f3,f4,f5⟩:=hf it (by simp)
  have W:=Walks.range (prog:=X.prog) (w:=X.w) (I.ok.hd hc) it lo 1 n
  refine W.item i s _ _ hg st fun v h' tk hv st' kk=>?_
  obtain⟨t,rfl⟩:=hv
  have I1:Inv X pins σ H { s with heap:=h',toks:=tk }:=I.turned (fun b o hb e=>kk b o (by simpa using hb) e) f0 f1 f3 f4 f5
  refine⟨_,rfl,wH (s:={ s with heap:=h',toks:=tk }) (n:="range_iterator") st' rfl rfl (by decide) ⟨.int (lo+i),H,I1,⟨t,?_⟩,⟨rfl,rfl⟩,st',fun b hb=>(hf b hb).1⟩⟩
  rw[Int.mul_one]
 done:=by
  intro X hP hw hK hc i pins s σ H E I hf st hg
  subst hP hw hK
  obtain⟨f0,f1,f2,f3,f4,f5⟩:=hf it (by simp)
  exact wpAny_pyNext_range_end (I.ok.hd hc) st (by have:n<=i:=hg; lia) fun h' eb=>⟨rfl,I.turned (t':=s.toks) (fun b o hb e=>eb b o hb e) f0 f1 f3 f4 f5⟩
 self:=fun _ _ _ _ _ st h=>wpAny_pyIter_rangeiter st h
end L2
namespace L2
open PySem PySem.Spec PyProof.Rows
section
variable {X:Cx} {tg:Expr}
def yL (K:Eo) (tl:TE):TI:=fun σ H R=>tl σ H fun x H1=>∃ a,x = .ref a/\(∃ xs,SqL K H1 a xs)/\R (Itl K a) H1
def Dw (K:Eo) (tl:TE):TI:=fun σ H R=>tl σ H fun x H1=>∃ a,x = .ref a/\(∃ xs,SqT K H1 a xs)/\R (Itt K a) H1
theorem gA {l:Expr} {tl:TE} (hl:PE X l tl):PI X tg l (yL X.K tl):=by
 intro pins s σ H R I h
 refine thn (hl pins s σ H _ I h) fun v s1 ⟨x,H1,I1,r1,q1⟩=>?_
 obtain⟨a,e,⟨xs,hq⟩,q⟩:=q1
 subst e
 cases r1
 obtain⟨its,rv,p,hz⟩:=I1.list hq
 refine Kr p.isList ?_
 refine⟨s1.heap.objs.size,[s1.heap.objs.size],_,_,H1,rfl,I1.kept (t':=s1.toks) fun b o e=>Eh _ e,uq a _,⟨_,Ew _ rfl,rfl,rfl⟩,fun b hb=>?_,q⟩
 have e:b=s1.heap.objs.size:=by simpa using hb
 subst e
 exact I1.zq (Ei _) (I1.hok.fresh (Ei _))
theorem d7 {l:Expr} {tl:TE} (hl:PE X l tl):PI X tg l (Dw X.K tl):=by
 intro pins s σ H R I h
 refine thn (hl pins s σ H _ I h) fun v s1 ⟨x,H1,I1,r1,q1⟩=>?_
 obtain⟨a,e,⟨xs,hq⟩,q⟩:=q1
 subst e
 cases r1
 obtain⟨its,rv,p,hz⟩:=I1.tuple hq
 refine wpAny_pyIter_tuple (show s1.heap.IsTuple a its.toArray from p) ?_
 refine⟨s1.heap.objs.size,[s1.heap.objs.size],_,_,H1,rfl,I1.kept (t':=s1.toks) fun b o e=>Eh _ e,tV a _,⟨_,Ew _ rfl,rfl,rfl⟩,fun b hb=>?_,q⟩
 have e:b=s1.heap.objs.size:=by simpa using hb
 subst e
 exact I1.zq (Ei _) (I1.hok.fresh (Ei _))
theorem xx {pins:List (Addr × Hn)} {σ:St} {H:Hp} {s:Eg} {R:It->Hp->Prop} {E:Value->Eg->Prop} {lo hi:Int} {t u v:K3} {tk:Nat} (I:Inv X pins σ H s) (h1 : -(2 ^ 62)<=lo) (h2:lo < 2 ^ 62) (h3 : -(2 ^ 62)<=hi) (h4:hi < 2 ^ 62)
  (q:R (Itr lo (hi - lo).toNat) H):Eu (Ey X.prog X.w) X.A (Kh (.ref s.heap.objs.size)) (PIE X pins σ tg R) E { s with heap:=s.heap.push { cls:=.type "range",data:=.fields #[.int lo t,.int hi u,.int 1 v] },toks:=tk }:=by
 refine wpAny_pyIter_range (IsRange.new ..) (small_one h1 h2 h3 h4) ?_
 have I1:Inv X pins σ H { s with heap:=s.heap.push { cls:=.type "range",data:=.fields #[.int lo t,.int hi u,.int 1 v] },toks:=tk }:=I.kept fun b o e=>Eh _ e
 refine⟨(s.heap.push { cls:=.type "range",data:=.fields #[.int lo t,.int hi u,.int 1 v] }).objs.size,[(s.heap.push { cls:=.type "range",data:=.fields #[.int lo t,.int hi u,.int 1 v] }).objs.size],_,_,H,rfl,
  I1.kept (t':=tk) fun b o e=>Eh _ e,t7 _ lo (hi - lo).toNat,?_,fun b hb=>?_,q⟩
 ·have e1:lo+((0:Nat):Int) * 1=lo:=by simp
  have e2:(((hi - lo).toNat:Nat):Int) - ((0:Nat):Int)=Builtin.Range.rangeSize lo hi 1:=by rw[rangeSize_one]; split <;> lia
  show IsRangeIter _ _ (lo+((0:Nat):Int) * 1) ((((hi - lo).toNat:Nat):Int) - ((0:Nat):Int)) 1
  rw[e1,e2]
  exact Ew _ rfl
 ·have e:b=(s.heap.push { cls:=.type "range",data:=.fields #[.int lo t,.int hi u,.int 1 v] }).objs.size:=by simpa using hb
  subst e
  exact I1.zq (Ei _) (I1.hok.fresh (Ei _))
def Cw (ta:TA):TI:=fun σ H R=>ta σ H fun vs H1=>∃ j:Int,vs=[.int j]/\-(2 ^ 62)<=j/\j < 2 ^ 62/\R (Itr 0 j.toNat) H1
theorem dD {a:Expr} {ta:TA} {p pos:JM} (hg:Gl X "range") (hm:X.mg "range" = none) (ha:PA X [a] ta) (hs:FZ [a] X.env=[(false,Im a X.env)]:=by rfl):PI X tg (.Call (.Name "range" p) [a] [] pos) (Cw ta):=by
 intro pins s σ H R I h
 refine Call_ (jQ I hg hm boot_range (GR (thn (ha pos pins s σ H _ I h) fun us s1 ⟨vs,H1,I1,r1,q1⟩=>?_) hs rfl))
 obtain⟨j,e,q1,q2,q⟩:=q1
 subst e
 cases r1 with
 | cons r rr =>
  cases rr
  obtain⟨t,rfl⟩:=r
  exact call_range_1 (xx I1 (by lia) (by lia) q1 q2 (by simpa using q))
def DQ (wi:TI) (g:TG) (tb:TS):TS:=fun D σ H=>wi σ H fun J H1=>∃ W:Nat->Nat->St->Hp->Prop,(∃ m,W 0 m σ H1)/\∀ i m σ H,W i m σ H →
 (J.stop i H/\D.nx σ H)∨(J.go i H/\∃ N:St->Hp->Prop,(∀ σ' H',N σ' H'->∃ m',m' < m/\W (i+1) m' σ' H')/\∀ x H',J.yld i H x H'->g x σ H' fun σ2 H2=>tb { D with nx:=N,ct:=N,bk:=D.nx } σ2 H2)
def jT (fp:List Addr) (h:Gh):List (Addr × Hn):=fp.filterMap fun b=>(h.get? b).map fun o=>(b,o)
theorem cL {fp:List Addr} {h:Gh} {b:Addr} {o:Hn} (hb:b∈fp) (e:h.get? b=some o):(b,o)∈jT fp h:=List.mem_filterMap.mpr ⟨b,hb,by rw[e]; rfl⟩
theorem vP {fp:List Addr} {h:Gh} {p:Addr × Hn} (hp:p∈jT fp h):p.1∈fp/\h.get? p.1=some p.2:=by
 obtain⟨b,hb,e⟩:=List.mem_filterMap.mp hp
 cases q:h.get? b with
 | none=>rw[q] at e; cases e
 | some o =>
  rw[q] at e
  have e':(b,o)=p:=FW e
  subst e'
  exact⟨hb,q⟩
theorem Inv.pinned {pins:List (Addr × Hn)} {σ:St} {H:Hp} {s:Eg} {fp:List Addr} (I:Inv X pins σ H s) (hf:∀ b∈fp,pO X pins H b) (ho:∀ b∈fp,∃ o,s.heap.get? b=some o/\∀ v,o.data≠.cell v):Inv X (pins++jT fp s.heap) σ H s :=
 I.uO fun p hp=>(List.mem_append.mp hp).elim (fun z=>I.pin p (Es _ z)) fun z=>by
  obtain⟨hb,e⟩:=vP z
  obtain⟨f0,f1,f2,_⟩:=hf p.1 hb
  obtain⟨o,e',d⟩:=ho p.1 hb
  rw[e] at e'; cases e'
  exact⟨e,f0,f1,f2,d⟩
theorem Inv.gO {pins pl:List (Addr × Hn)} {σ:St} {H:Hp} {s:Eg} (I:Inv X (pins++pl) σ H s):Inv X pins σ H s:=I.uO fun p hp=>I.pin p (Es _ (J9 _ hp))
theorem gP {iter:Expr} {body:List Stmt} {wi:TI} {g:TG} {tb:TS} {pos:JM} (hp:PassesOwn (Ey X.prog X.w) X.A X.env X.xe) (hc:X.calm=true) (hi:PI X tg iter wi) (hg:PG X tg g) (hb:PSs X body tb)
  (hs:∀ x,GF iter X.env x=pure x:=by intro _; rfl):PS X (.For tg iter body [] pos) (DQ wi g tb):=by
 intro pins s σ H D I h
 refine wpAny_For (thn (hi pins s σ H _ I h) fun v s1 h1=>thn h1 fun itv s2 h2=>?_) hs
 obtain⟨it,fp,tn,J,H2,e,I2,T,st2,f2,W,⟨m0,w0⟩,turn⟩:=h2
 subst e
 have stat:∀ {H':Hp},(∀ b∈fp,H' b=none)->∀ b∈fp,pO X pins H' b:=fun hn b hb=>⟨hn b hb,(f2 b hb).2⟩
 refine codeAny_forLoop_any (fun n s'=>∃ i σ' H',Inv X pins σ' H' s'/\tn i s'.heap/\(∀ b∈fp,H' b=none)/\W i n σ' H') ?_ m0 ⟨0,σ,H2,I2,st2,fun b hb=>(f2 b hb).1,w0⟩
 rintro n s3 ⟨i,σ3,H3,I3,st3,fr3,w3⟩
 rcases turn i n σ3 H3 w3 with⟨stop,qn⟩ | ⟨go,N,hN,step⟩
 ·refine Jo hp (thn (T.done X rfl rfl rfl hc i pins s3 σ3 H3 X.xe I3 (stat fr3) st3 stop) fun r s4 ⟨hr,I4⟩=>?_)
  subst hr
  exact Ld ⟨σ3,H3,I4,qn⟩
 ·refine Jo hp (thn (T.item X rfl rfl rfl hc i pins s3 σ3 H3 X.xe I3 (stat fr3) st3 go) fun r s4 ⟨u,hr,h4⟩=>?_)
  subst hr
  refine Jo hp (thn h4 fun _ s5 ⟨x,H5,I5,r5,y5,st5,fr5⟩=>?_)
  have I5':=I5.pinned (stat fr5) (T.obj _ _ st5)
  refine Jo hp (thn (hg _ s5 σ3 H5 x u _ I5' r5 (step x H5 y5)) fun _ s6 ⟨σ6,H6,I6,q6⟩=>?_)
  refine Jo hp (thn (hb _ s6 σ6 H6 _ I6 q6) fun f s7 q7=>?_)
  have Kc:∀ {σ7:St} {H7:Hp},Inv X (pins++jT fp s5.heap) σ7 H7 s7->N σ7 H7->∃ m,m < n/\∃ i σ' H',Inv X pins σ' H' s7/\tn i s7.heap/\(∀ b∈fp,H' b=none)/\W i m σ' H':=fun {σ7 H7} I7 n7=>by
   obtain⟨m',hm,w7⟩:=hN σ7 H7 n7
   refine⟨m',hm,i+1,σ7,H7,I7.gO,T.keep _ _ _ st5 fun b hb o e=>(I7.pin (b,o) (Es _ (Es _ (cL hb e)))).1,fun b hb=>?_,w7⟩
   obtain⟨o,e,d⟩:=T.obj _ _ st5 b hb
   exact (I7.pin (b,o) (Es _ (Es _ (cL hb e)))).2.1
  cases f with
  | next=>obtain⟨σ7,H7,I7,n7⟩:=q7; exact Kc I7 n7
  | cont=>obtain⟨σ7,H7,I7,n7⟩:=q7; exact Kc I7 n7
  | brk=>obtain⟨σ7,H7,I7,q7⟩:=q7; exact⟨σ7,H7,I7.gO,q7⟩
  | ret v=>obtain⟨x7,σ7,H7,I7,r7,q7⟩:=q7; exact⟨x7,σ7,H7,I7.gO,r7,q7⟩
end
theorem nW {K:Eo} {a:Addr} {xs:List V} {g:TG} {tb:TS} {D:Ends} {σ:St} {H:Hp} (Pv:Nat->St->Hp->Prop) (h0:Pv 0 σ H) (hl:∀ i σ H,i<=xs.length->Pv i σ H->SqL K H a xs)
  (hs:∀ i x σ H,xs[i]? = some x->Pv i σ H->g x σ H fun σ2 H2=>tb { D with nx:=Pv (i+1),ct:=Pv (i+1),bk:=D.nx } σ2 H2) (hd:∀ σ H,Pv xs.length σ H->D.nx σ H) :
  ∃ W:Nat->Nat->St->Hp->Prop,(∃ m,W 0 m σ H)/\∀ i m σ H,W i m σ H →
   ((Itl K a).stop i H/\D.nx σ H)∨((Itl K a).go i H/\∃ N:St->Hp->Prop,(∀ σ' H',N σ' H'->∃ m',m' < m/\W (i+1) m' σ' H')/\∀ x H',(Itl K a).yld i H x H'->g x σ H' fun σ2 H2=>tb { D with nx:=N,ct:=N,bk:=D.nx } σ2 H2):=by
 refine⟨fun i m σ H=>m=xs.length - i/\i<=xs.length/\Pv i σ H,⟨xs.length,by simp,Fq _,h0⟩,?_⟩
 rintro i m σ H ⟨rfl,hi,p⟩
 have q:=hl i σ H hi p
 by_cases hlt:i < xs.length
 ·refine .inr ⟨⟨xs,xs[i],q,by simp [hlt]⟩,Pv (i+1),fun σ' H' p'=>⟨xs.length - (i+1),by lia,rfl,hlt,p'⟩,fun x H' y=>?_⟩
  obtain⟨e,y⟩:=y
  subst e
  exact hs i x σ _ (y xs q) p
 ·have e:i=xs.length:=by lia
  subst e
  exact .inl ⟨⟨xs,q,Ei _⟩,hd σ H p⟩
theorem nQ {K:Eo} {a:Addr} {xs:List V} {g:TG} {tb:TS} {D:Ends} {σ:St} {H:Hp} (Pv:Nat->St->Hp->Prop) (h0:Pv 0 σ H) (hl:∀ i σ H,i<=xs.length->Pv i σ H->SqT K H a xs)
  (hs:∀ i x σ H,xs[i]? = some x->Pv i σ H->g x σ H fun σ2 H2=>tb { D with nx:=Pv (i+1),ct:=Pv (i+1),bk:=D.nx } σ2 H2) (hd:∀ σ H,Pv xs.length σ H->D.nx σ H) :
  ∃ W:Nat->Nat->St->Hp->Prop,(∃ m,W 0 m σ H)/\∀ i m σ H,W i m σ H →
   ((Itt K a).stop i H/\D.nx σ H)∨((Itt K a).go i H/\∃ N:St->Hp->Prop,(∀ σ' H',N σ' H'->∃ m',m' < m/\W (i+1) m' σ' H')/\∀ x H',(Itt K a).yld i H x H'->g x σ H' fun σ2 H2=>tb { D with nx:=N,ct:=N,bk:=D.nx } σ2 H2):=by
 refine⟨fun i m σ H=>m=xs.length - i/\i<=xs.length/\Pv i σ H,⟨xs.length,by simp,Fq _,h0⟩,?_⟩
 rintro i m σ H ⟨rfl,hi,p⟩
 have q:=hl i σ H hi p
 by_cases hlt:i < xs.length
 ·refine .inr ⟨⟨xs,xs[i],q,by simp [hlt]⟩,Pv (i+1),fun σ' H' p'=>⟨xs.length - (i+1),by lia,rfl,hlt,p'⟩,fun x H' y=>?_⟩
  obtain⟨e,y⟩:=y
  subst e
  exact hs i x σ _ (y xs q) p
 ·have e:i=xs.length:=by lia
  subst e
  exact .inl ⟨⟨xs,q,Ei _⟩,hd σ H p⟩
theorem lH {lo:Int} {n:Nat} {g:TG} {tb:TS} {D:Ends} {σ:St} {H:Hp} (Pv:Nat->St->Hp->Prop) (h0:Pv 0 σ H)
  (hs:∀ i σ H,i < n->Pv i σ H->g (.int (lo+i)) σ H fun σ2 H2=>tb { D with nx:=Pv (i+1),ct:=Pv (i+1),bk:=D.nx } σ2 H2) (hd:∀ σ H,Pv n σ H->D.nx σ H) :
  ∃ W:Nat->Nat->St->Hp->Prop,(∃ m,W 0 m σ H)/\∀ i m σ H,W i m σ H →
   ((Itr lo n).stop i H/\D.nx σ H)∨((Itr lo n).go i H/\∃ N:St->Hp->Prop,(∀ σ' H',N σ' H'->∃ m',m' < m/\W (i+1) m' σ' H')/\∀ x H',(Itr lo n).yld i H x H'->g x σ H' fun σ2 H2=>tb { D with nx:=N,ct:=N,bk:=D.nx } σ2 H2):=by
 refine⟨fun i m σ H=>m=n - i/\i<=n/\Pv i σ H,⟨n,by simp,Fq _,h0⟩,?_⟩
 rintro i m σ H ⟨rfl,hi,p⟩
 by_cases hlt:i < n
 ·refine .inr ⟨hlt,Pv (i+1),fun σ' H' p'=>⟨n - (i+1),by lia,rfl,hlt,p'⟩,fun x H' y=>?_⟩
  obtain⟨e,y⟩:=y
  subst e y
  exact hs i σ _ hlt p
 ·have e:i=n:=by lia
  subst e
  exact .inl ⟨Ei _,hd σ H p⟩
end L2
namespace L2
open PySem PySem.Spec PyProof.Rows
abbrev R2:=V->V->Hp->VK->Prop
def OpR (X:Cx) (f:Value->Value->Sem Value) (r:R2):Prop :=
 ∀ (pins:List (Addr × Hn)) (s:Eg) (σ:St) (H:Hp) (x y:V) (v u:Value) (Q:VK),Inv X pins σ H s->RelV x v->RelV y u->r x y H Q →
  Eu (Ey X.prog X.w) X.A (f v u) (EP X pins σ Q) X.xe s
def UnR (X:Cx) (f:Value->Sem Value) (r:V->Hp->VK->Prop):Prop :=
 ∀ (pins:List (Addr × Hn)) (s:Eg) (σ:St) (H:Hp) (x:V) (v:Value) (Q:VK),Inv X pins σ H s->RelV x v->r x H Q →
  Eu (Ey X.prog X.w) X.A (f v) (EP X pins σ Q) X.xe s
def fZ (X:Cx) (f:Value) (r:List V->Hp->VK->Prop):Prop :=
 ∀ (pins:List (Addr × Hn)) (s:Eg) (σ:St) (H:Hp) (xs:List V) (us:List Value) (Q:VK),Inv X pins σ H s->Vals xs us->r xs H Q →
  Eu (Ey X.prog X.w) X.A (call f us) (EP X pins σ Q) X.xe s
def tOp (r:R2) (ta tb:TE):TE:=fun σ H Q=>ta σ H fun x H1=>tb σ H1 fun y H2=>r x y H2 Q
def tUn (r:V->Hp->VK->Prop) (ta:TE):TE:=fun σ H Q=>ta σ H fun x H1=>r x H1 Q
def rI (C:Int->Int->Prop) (g:Int->Int->V):R2:=fun x y H Q=>∃ i j,x = .int i/\y = .int j/\C i j/\Q (g i j) H
def rI0 (g:Int->Int->V):R2:=fun x y H Q=>∃ i j,x = .int i/\y = .int j/\Q (g i j) H
def rU (g:Int->V):V->Hp->VK->Prop:=fun x H Q=>∃ i,x = .int i/\Q (g i) H
section
variable {X:Cx} {a b c:Expr} {ta tb tc:TE} {pos:JM}
theorem Cr (ha:PE X a ta) (hb:PE X b tb) {pins:List (Addr × Hn)} {s:Eg} {σ:St} {H:Hp} {R:V->V->Hp->Prop} (I:Inv X pins σ H s)
  (h:ta σ H fun x H1=>tb σ H1 fun y H2=>R x y H2) {Q:Value->Eg->Prop} {f:Value->Value->Sem Value}
  (hf:∀ v u s2 x y H2,Inv X pins σ H2 s2->RelV x v->RelV y u->R x y H2->Eu (Ey X.prog X.w) X.A (f v u) Q X.xe s2) :
  Eu (Ey X.prog X.w) X.A (Im a X.env) (fun v s₁=>Eu (Ey X.prog X.w) X.A (Im b X.env) (fun u s₂=>Eu (Ey X.prog X.w) X.A (f v u) Q X.xe s₂) X.xe s₁) X.xe s:=by
 refine thn (ha pins s σ H _ I h) fun v s1 ⟨x,H1,I1,r1,q1⟩=>?_
 refine thn (hb pins s1 σ H1 _ I1 q1) fun u s2 ⟨y,H2,I2,r2,q2⟩=>?_
 exact hf v u s2 x y H2 I2 r1 r2 q2
theorem aO {op:Operator} {r:R2} (ho:OpR X (Ie op) r) (ha:PE X a ta) (hb:PE X b tb):PE X (.BinOp a op b pos) (tOp r ta tb):=by
 intro pins s σ H Q I h
 exact wpAny_BinOp (Cr ha hb I h fun v u s2 x y H2 I2 rx ry q=>ho pins s2 σ H2 x y v u Q I2 rx ry q)
theorem Cj {op:UnaryOp} {r:V->Hp->VK->Prop} (ho:UnR X (unaryOp op) r) (ha:PE X a ta):PE X (.UnaryOp op a pos) (tUn r ta):=by
 intro pins s σ H Q I h
 exact UnaryOp_ (thn (ha pins s σ H _ I h) fun v s1 ⟨x,H1,I1,r1,q1⟩=>ho pins s1 σ H1 x v Q I1 r1 q1)
theorem opI {f:Value->Value->Sem Value} {C:Int->Int->Prop} {g:Int->Int->Int}
  (rule:∀ (i j:Int) (t u:K3) (s:Eg) (Q:Value->Eg->Prop) (E:Value->Eg->Prop),C i j->Q (.int (g i j) s.toks) { s with toks:=s.toks+1 }->Eu (Ey X.prog X.w) X.A (f (.int i t) (.int j u)) Q E s) :
  OpR X f (rI C fun i j=>.int (g i j)):=by
 intro pins s σ H x y v u Q I rx ry h
 obtain⟨i,j,rfl,rfl,hc,q⟩:=h
 obtain⟨t,rfl⟩:=rx
 obtain⟨t',rfl⟩:=ry
 exact rule i j t t' s _ _ hc ⟨.int (g i j),H,I.tok _,⟨_,rfl⟩,q⟩
theorem Bm {f:Value->Value->Sem Value} {g:Int->Int->Int}
  (rule:∀ (i j:Int) (t u:K3) (s:Eg) (Q:Value->Eg->Prop) (E:Value->Eg->Prop),Q (.int (g i j) s.toks) { s with toks:=s.toks+1 }->Eu (Ey X.prog X.w) X.A (f (.int i t) (.int j u)) Q E s) :
  OpR X f (rI0 fun i j=>.int (g i j)):=by
 intro pins s σ H x y v u Q I rx ry h
 obtain⟨i,j,rfl,rfl,q⟩:=h
 obtain⟨t,rfl⟩:=rx
 obtain⟨t',rfl⟩:=ry
 exact rule i j t t' s _ _ ⟨.int (g i j),H,I.tok _,⟨_,rfl⟩,q⟩
theorem Bk {f:Value->Value->Sem Value} {g:Int->Int->Bool}
  (rule:∀ (i j:Int) (t u:K3) (s:Eg) (Q:Value->Eg->Prop) (E:Value->Eg->Prop),Q (.bool (g i j)) s->Eu (Ey X.prog X.w) X.A (f (.int i t) (.int j u)) Q E s) :
  OpR X f (rI0 fun i j=>.bl (g i j)):=by
 intro pins s σ H x y v u Q I rx ry h
 obtain⟨i,j,rfl,rfl,q⟩:=h
 obtain⟨t,rfl⟩:=rx
 obtain⟨t',rfl⟩:=ry
 exact rule i j t t' s _ _ ⟨.bl (g i j),H,I,rfl,q⟩
def Dp (i j:Int):Prop:=0 < j/\j < 1073741824
def DR (i j:Int):Prop:=0<=j/\j<=1000000/\i.natAbs < 2 ^ 64
def Bw (i j:Int):Prop:=(-(2 ^ 64) < i/\i < 2 ^ 64)∨(-(2 ^ 64) < j/\j < 2 ^ 64)
theorem Bw.ok {i j:Int} (h:Bw i j):IntMulOk i j:=by
 rcases h with⟨h1,h2⟩ | ⟨h1,h2⟩
 ·exact .of_left (intBits_le_64 h1 h2)
 ·exact .of_right (intBits_le_64 h1 h2)
theorem bT:OpR X (Ie .Add) (rI0 fun i j=>.int (i+j)):=Bm fun _ _ _ _ _ _ _ q=>add_int q
theorem fW:OpR X (Ie .Sub) (rI0 fun i j=>.int (i - j)):=Bm fun _ _ _ _ _ _ _ q=>sub_int q
theorem gY:OpR X (Ie .Mult) (rI Bw fun i j=>.int (i * j)):=opI fun _ _ _ _ _ _ _ hc q=>mul_int q hc.ok
theorem qu:OpR X (Ie .FloorDiv) (rI Dp fun i j=>.int (i / j)):=opI fun i j _ _ _ _ _ hc q=>by
 have h1:(0:Int) < j:=hc.1
 have h2:j < 1073741824:=hc.2
 exact floordiv_int (by lia) (by rw[Int.fdiv_eq_ediv_of_nonneg i (by lia)]; exact q) (.inl (PyProof.noPylong_small (by lia)))
theorem cF:OpR X (Ie .Mod) (rI (fun _ j=>0 < j) fun i j=>.int (i % j)):=opI fun i j _ _ _ _ _ hc q=>by
 have h1:(0:Int) < j:=hc
 exact mod_int' (by lia) (by rw[Int.fmod_eq_emod_of_nonneg i (by lia)]; exact q)
theorem lX:OpR X (Ie .Pow) (rI DR fun i j=>.int (i ^ j.toNat)):=opI fun _ _ _ _ _ _ _ hc q=>pow_int_small hc.1 hc.2.1 hc.2.2 q
theorem yS:OpR X (KZ .Add) (rI0 fun i j=>.int (i+j)):=Bm fun _ _ _ _ _ _ _ q=>iadd_int q
theorem zx:OpR X (KZ .Sub) (rI0 fun i j=>.int (i - j)):=Bm fun _ _ _ _ _ _ _ q=>isub_int q
theorem unI {f:Value->Sem Value} {g:Int->Int}
  (rule:∀ (i:Int) (t:K3) (s:Eg) (Q:Value->Eg->Prop) (E:Value->Eg->Prop),Q (.int (g i) s.toks) { s with toks:=s.toks+1 }->Eu (Ey X.prog X.w) X.A (f (.int i t)) Q E s) :
  UnR X f (rU fun i=>.int (g i)):=by
 intro pins s σ H x v Q I rx h
 obtain⟨i,rfl,q⟩:=h
 obtain⟨t,rfl⟩:=rx
 exact rule i t s _ _ ⟨.int (g i),H,I.tok _,⟨_,rfl⟩,q⟩
theorem Ba:UnR X (unaryOp .USub) (rU fun i=>.int (-i)):=unI fun _ _ _ _ _ q=>neg_int q
end
def Dd:V->V->Bool
 | .non,.non=>true | .non,.int _=>true | .int _,.non=>true | .non,.bl _=>true | .bl _,.non=>true | .non,.str _=>true | .str _,.non=>true
 | .int _,.int _=>true | .bl _,.bl _=>true | .str _,.str _=>true | .byt _,.byt _=>true
 | .int _,.str _=>true | .str _,.int _=>true | .bl _,.str _=>true | .str _,.bl _=>true
 | _,_=>false
def rEq:R2:=fun x y H Q=>Dd x y=true/\Q (.bl (decide (x=y))) H
def rNe:R2:=fun x y H Q=>Dd x y=true/\Q (.bl (!decide (x=y))) H
theorem uY {i j:Int}:decide (V.int i=V.int j)=(i == j):=by
 rw[Jq]
 simp
theorem yu {i j:Bool}:decide (V.bl i=V.bl j)=(i == j):=by
 rw[Jq]
 simp
theorem uI {i j:Str}:decide (V.str i=V.str j)=(i == j):=by
 rw[Jq]
 simp
theorem vD {i j:Array UInt8}:decide (V.byt i=V.byt j)=(i.toList == j.toList):=by
 rw[Jq]
 cases i
 cases j
 simp
section
variable {X:Cx} {a b c:Expr} {ta tb tc:TE} {pos:JM}
theorem bH {pins:List (Addr × Hn)} {σ:St} {H:Hp} {s:Eg} {Q:VK} {k k':Bool} (I:Inv X pins σ H s) (q:Q (.bl k) H) (e:k=k'):EP X pins σ Q (.bool k') s:=by
 subst e
 exact⟨.bl k,H,I,rfl,q⟩
theorem bJ:OpR X (G8 .Eq) rEq:=by
 intro pins s σ H x y v u Q I rx ry h
 obtain⟨hs,q⟩:=h
 cases x with
 | non =>
  cases rx
  cases y with
  | non=>cases ry; exact PySem.EqNone.eq_none_none (bH I q (by simp))
  | bl j=>cases ry; exact PySem.EqNone.eq_none_bool (bH I q (by simp))
  | int j=>obtain⟨t',rfl⟩:=ry; exact PySem.EqNone.eq_none_int (bH I q (by simp))
  | str j=>obtain⟨t',rfl⟩:=ry; exact PySem.EqNone.eq_none_str (bH I q (by simp))
  | _=>exact absurd (show false=true from hs) Et
 | bl i =>
  cases rx
  cases y with
  | non=>cases ry; exact PySem.EqNone.eq_bool_none (bH I q (by simp))
  | bl j=>cases ry; exact eq_bool (bH I q yu)
  | str j=>obtain⟨t',rfl⟩:=ry; exact PySem.EqMixed.eq_bool_str (bH I q (by simp))
  | _=>exact absurd (show false=true from hs) Et
 | int i =>
  obtain⟨t,rfl⟩:=rx
  cases y with
  | non=>cases ry; exact PySem.EqNone.eq_int_none (bH I q (by simp))
  | int j=>obtain⟨t',rfl⟩:=ry; exact eq_int (bH I q uY)
  | str j=>obtain⟨t',rfl⟩:=ry; exact PySem.EqMixed.eq_int_str (bH I q (by simp))
  | _=>exact absurd (show false=true from hs) Et
 | str i =>
  obtain⟨t,rfl⟩:=rx
  cases y with
  | non=>cases ry; exact PySem.EqNone.eq_str_none (bH I q (by simp))
  | bl j=>cases ry; exact PySem.EqMixed.eq_str_bool (bH I q (by simp))
  | int j=>obtain⟨t',rfl⟩:=ry; exact PySem.EqMixed.eq_str_int (bH I q (by simp))
  | str j=>obtain⟨t',rfl⟩:=ry; exact eq_str (bH I q uI)
  | _=>exact absurd (show false=true from hs) Et
 | byt i =>
  obtain⟨t,rfl⟩:=rx
  cases y with
  | byt j=>obtain⟨t',rfl⟩:=ry; exact PySem.W.eq_bytes (bH I q vD)
  | _=>exact absurd (show false=true from hs) Et
 | _=>cases y <;> exact absurd (show false=true from hs) Et
theorem wk:OpR X (G8 .NotEq) rNe:=by
 intro pins s σ H x y v u Q I rx ry h
 obtain⟨hs,q⟩:=h
 cases x with
 | non =>
  cases rx
  cases y with
  | non=>cases ry; exact PySem.EqNone.ne_none_none (bH I q (by simp))
  | bl j=>cases ry; exact PySem.EqNone.ne_none_bool (bH I q (by simp))
  | int j=>obtain⟨t',rfl⟩:=ry; exact PySem.EqNone.ne_none_int (bH I q (by simp))
  | str j=>obtain⟨t',rfl⟩:=ry; exact PySem.EqNone.ne_none_str (bH I q (by simp))
  | _=>exact absurd (show false=true from hs) Et
 | bl i =>
  cases rx
  cases y with
  | non=>cases ry; exact PySem.EqNone.ne_bool_none (bH I q (by simp))
  | bl j=>cases ry; exact ne_bool (bH I q (congrArg not yu))
  | str j=>obtain⟨t',rfl⟩:=ry; exact PySem.EqMixed.ne_bool_str (bH I q (by simp))
  | _=>exact absurd (show false=true from hs) Et
 | int i =>
  obtain⟨t,rfl⟩:=rx
  cases y with
  | non=>cases ry; exact PySem.EqNone.ne_int_none (bH I q (by simp))
  | int j=>obtain⟨t',rfl⟩:=ry; exact ne_int (bH I q (congrArg not uY))
  | str j=>obtain⟨t',rfl⟩:=ry; exact PySem.EqMixed.ne_int_str (bH I q (by simp))
  | _=>exact absurd (show false=true from hs) Et
 | str i =>
  obtain⟨t,rfl⟩:=rx
  cases y with
  | non=>cases ry; exact PySem.EqNone.ne_str_none (bH I q (by simp))
  | bl j=>cases ry; exact PySem.EqMixed.ne_str_bool (bH I q (by simp))
  | int j=>obtain⟨t',rfl⟩:=ry; exact PySem.EqMixed.ne_str_int (bH I q (by simp))
  | str j=>obtain⟨t',rfl⟩:=ry; exact ne_str (bH I q (congrArg not uI))
  | _=>exact absurd (show false=true from hs) Et
 | byt i =>
  obtain⟨t,rfl⟩:=rx
  cases y with
  | byt j=>obtain⟨t',rfl⟩:=ry; exact PySem.W.ne_bytes (bH I q (congrArg not vD))
  | _=>exact absurd (show false=true from hs) Et
 | _=>cases y <;> exact absurd (show false=true from hs) Et
theorem tZ:OpR X (G8 .Lt) (rI0 fun i j=>.bl (decide (i < j))):=Bk fun _ _ _ _ _ _ _ q=>lt_int q
theorem zM:OpR X (G8 .LtE) (rI0 fun i j=>.bl (decide (i<=j))):=Bk fun _ _ _ _ _ _ _ q=>le_int q
theorem tH:OpR X (G8 .Gt) (rI0 fun i j=>.bl (decide (j < i))):=Bk fun _ _ _ _ _ _ _ q=>gt_int q
theorem Cq:OpR X (G8 .GtE) (rI0 fun i j=>.bl (decide (j<=i))):=Bk fun _ _ _ _ _ _ _ q=>ge_int q
theorem pJ:OpR X (G8 .In) (fun x y H Q=>∃ i j,x = .str i/\y = .str j/\Q (.bl (!(Hr j i 0 j.length 1).isEmpty)) H):=by
 intro pins s σ H x y v u Q I rx ry h
 obtain⟨i,j,rfl,rfl,q⟩:=h
 obtain⟨t,rfl⟩:=rx
 obtain⟨t',rfl⟩:=ry
 exact in_str (bH I q rfl)
theorem aM (b:Expr) {op:CmpOp} (h:op≠.In:=by decide) (h2:op≠.NotIn:=by decide):Hz op b=false:=by
 have e1:(op == CmpOp.In)=false:=by cases op <;> first | rfl | exact absurd rfl h
 have e2:(op == CmpOp.NotIn)=false:=by cases op <;> first | rfl | exact absurd rfl h2
 cases b <;> simp [Hz,e1,e2]
theorem cN {op:CmpOp} {r:R2} (ho:OpR X (G8 op) r) (ha:PE X a ta) (hb:PE X b tb) (hm:Hz op b=false):PE X (.Compare a [op] [b] pos) (tOp r ta tb):=by
 intro pins s σ H Q I h
 exact wpAny_Compare1 (Cr ha hb I h fun v u s2 x y H2 I2 rx ry q=>ho pins s2 σ H2 x y v u Q I2 rx ry q) hm
def Cd (t:TE):TT:=fun σ H Q=>t σ H fun x H'=>∃ k,x = .bl k/\Q k H'
theorem aD {op:CmpOp} {r:R2} (ho:OpR X (G8 op) r) (ha:PE X a ta) (hb:PE X b tb) (hm:Hz op b=false):PT X (.Compare a [op] [b] pos) (Cd (tOp r ta tb)):=by
 intro pins s σ H Q I h
 refine wpAny_isTrue_Compare1 (thn (ha pins s σ H _ I h) fun v s1 ⟨x,H1,I1,r1,q1⟩=>thn (hb pins s1 σ H1 _ I1 q1) fun u s2 ⟨y,H2,I2,r2,q2⟩ =>
  thn (ho pins s2 σ H2 x y v u _ I2 r1 r2 q2) fun c s3 ⟨z,H3,I3,r3,k,e,q3⟩=>?_) hm
 subst e
 cases r3
 exact HF ⟨H3,I3,q3⟩
theorem pM:(sizeLine:Nat) < 2 ^ 63:=by rw[sizeLine_eq]; decide
theorem b8:OpR X (Ie .Add) (fun x y H Q=>∃ i j,x = .str i/\y = .str j/\i.length+j.length<=sizeLine/\Q (.str (i++j)) H):=by
 intro pins s σ H x y v u Q I rx ry h
 obtain⟨i,j,rfl,rfl,hz,q⟩:=h
 obtain⟨t,rfl⟩:=rx
 obtain⟨t',rfl⟩:=ry
 exact add_str (fun t' tk=>⟨.str (i++j),H,I.tok _,⟨_,rfl⟩,q⟩) hz
theorem vals1 {x:V} {us:List Value} (r:Vals [x] us):∃ u,us=[u]/\RelV x u:=by
 cases r with
 | cons r1 r2=>cases r2; exact⟨_,rfl,r1⟩
theorem vals2 {x y:V} {us:List Value} (r:Vals [x,y] us):∃ u w',us=[u,w']/\RelV x u/\RelV y w':=by
 cases r with
 | cons r1 r2 =>
  cases r2 with
  | cons r3 r4=>cases r4; exact⟨_,_,rfl,r1,r3⟩
theorem j9:fZ X (.builtin "abs") (fun xs H Q=>∃ i,xs=[.int i]/\Q (.int (if i < 0 then -i else i)) H):=by
 intro pins s σ H xs us Q I r h
 obtain⟨i,rfl,q⟩:=h
 obtain⟨u,rfl,t,rfl⟩:=vals1 r
 exact call_abs_int fun u tk=>⟨.int (if i < 0 then -i else i),H,I.tok _,⟨_,rfl⟩,q⟩
theorem uQ (hc:X.calm=true):fZ X (.builtin "max") (fun xs H Q=>∃ i j,xs=[.int i,.int j]/\Q (.int (if j > i then j else i)) H):=by
 intro pins s σ H xs us Q I r h
 obtain⟨i,j,rfl,q⟩:=h
 obtain⟨u,w',rfl,⟨t,rfl⟩,⟨t',rfl⟩⟩:=vals2 r
 refine max_two_ints (I.ok.hd hc) fun h' tk k=>⟨_,H,I.kept k,?_,q⟩
 by_cases hj:j > i
 ·rw[if_pos hj,if_pos hj]; exact⟨_,rfl⟩
 ·rw[if_neg hj,if_neg hj]; exact⟨_,rfl⟩
theorem vL (hc:X.calm=true):fZ X (.builtin "min") (fun xs H Q=>∃ i j,xs=[.int i,.int j]/\Q (.int (if j < i then j else i)) H):=by
 intro pins s σ H xs us Q I r h
 obtain⟨i,j,rfl,q⟩:=h
 obtain⟨u,w',rfl,⟨t,rfl⟩,⟨t',rfl⟩⟩:=vals2 r
 refine min_two_ints (I.ok.hd hc) fun h' tk k=>⟨_,H,I.kept k,?_,q⟩
 by_cases hj:j < i
 ·rw[if_pos hj,if_pos hj]; exact⟨_,rfl⟩
 ·rw[if_neg hj,if_neg hj]; exact⟨_,rfl⟩
theorem pR:fZ X (.type "int") (fun xs H Q=>(∃ i,xs=[.int i]/\Q (.int i) H)∨∃ k,xs=[.bl k]/\Q (.int (if k then 1 else 0)) H):=by
 intro pins s σ H xs us Q I r h
 rcases h with⟨i,rfl,q⟩ | ⟨k,rfl,q⟩
 ·obtain⟨u,rfl,t,rfl⟩:=vals1 r
  exact call_int_int ⟨.int i,H,I,⟨_,rfl⟩,q⟩
 ·obtain⟨u,rfl,r1⟩:=vals1 r
  cases r1
  exact call_int_bool ⟨.int (if k then 1 else 0),H,I.tok _,⟨_,rfl⟩,q⟩
theorem cz:fZ X (.type "str") (fun xs H Q=>∃ i,xs=[.int i]/\i.natAbs.log2 < 1920/\Q (.str (toString i)) H):=by
 intro pins s σ H xs us Q I r h
 obtain⟨i,rfl,hz,q⟩:=h
 obtain⟨u,rfl,t,rfl⟩:=vals1 r
 exact PySem.P.str_of_int hz ⟨.str _,H,I.tok _,⟨_,rfl⟩,q⟩
end
end L2
namespace L2
open PySem PySem.Spec PyProof.Rows
structure BV (h:Gh) (x dx C:Addr) (mA:Str->Option Value):Prop where
 obj:h.get? x=some (Lg C dx)
 ns:h.Ns1 dx mA
 ne:dx≠x
theorem vV {h:Gh} {dx:Addr} {mA:Str->Option Value} (n:h.Ns1 dx mA):∃ od,h.get? dx=some od/\∀ name,PySem.W.lookIn name od=some (mA name):=by
 obtain⟨o,es,ep,ho,hd,hk,_,hm⟩:=n
 refine⟨o,ho,fun name=>?_⟩
 have e:=hm name
 unfold nsFind findBy at e
 rw[← Array.find?_toList] at e
 unfold PySem.W.lookIn
 rw[hd]
 dsimp only
 split
 ·rename_i y q
  rw[q] at e
  exact congrArg some e
 ·rename_i q
  rw[q] at e
  have a:es.toList.any (·.refKey)=false:=by
   rw[List.any_eq_false]
   intro y hy
   obtain⟨z,t,hkey⟩:=hk y (Array.mem_toList_iff.mp hy)
   simp [DictEntry.refKey,hkey]
  have a':¬ es.toList.any (·.refKey)=true:=by rw[a]; exact Et
  rw[if_neg a']
  exact congrArg some e
theorem BV.look {h:Gh} {x dx C:Addr} {mA:Str->Option Value} (I:BV h x dx C mA):∃ od,PySem.W.InstAt h x (Lg C dx) C (some od)/\∀ name,PySem.W.lookIn name od=some (mA name) :=
 let ⟨od,ho,hl⟩:=vV I.ns
 ⟨od,⟨I.obj,rfl,rfl,ho⟩,hl⟩
section
variable {prog:Ft} {w:FP} {A:Gd} {E:Value->Eg->Prop} {s:Eg} {K:Eo} {x dx C f:Addr} {mA:Str->Option Value} {name:Str} {v:Value}
end
section
variable {P:Ft} {w:FP} {H H':Hp} {h h':Gh} {a C dx:Addr} {fs fs':List (Str × V)}
theorem yV (hok:HOk P w H h) (e:H a=some (.ins C dx fs)):∃ mA,BV h a dx C mA/\(∀ f,Ck (fs.lookup f) (mA f))/\PySem.Within mA (fs.map (·.1))/\fs.length<=1000/\H dx=some (.own a):=by
 obtain⟨d,z,ne,ob,mA,n,r,q⟩:=(show eQ P w H h a (.ins C dx fs) from hok a _ e)
 exact⟨mA,⟨ob,n,ne⟩,r,q,z,d⟩
end
structure Cls (K:Eo) (C:Addr):Prop where
 pg:PySem.W.plainGet K C Str.empty=true
 hd:PySem.W.hasDictIn K C=true
 po:PySem.W.plainOver K C=true
 sa:PySem.W.findIn K (.ref C) "__setattr__" = some (some (.builtin "object.__setattr__"))
theorem Cls.get {K:Eo} {C:Addr} (c:Cls K C) (f:Str):PySem.W.plainGet K C f=true:=c.pg
section
variable {X:Cx} {pins:List (Addr × Hn)} {σ:St} {H:Hp} {s:Eg} {a C dx:Addr} {fs:List (Str × V)} {f:Str} {v:V} {A:Gd} {E:Value->Eg->Prop}
end
section
variable {X:Cx} {o e value:Expr} {f:Str} {pos pos' tpos:JM} {ta tv:TE}
end
section
variable {X:Cx} {pins:List (Addr × Hn)} {σ:St} {H:Hp} {s:Eg} {A:Gd} {E:Value->Eg->Prop} {Q:Value->Eg->Prop} {c:Value} {b:Bool}
inductive uh (K:Eo) (H:Hp):V->Value->Prop where
 | non:uh K H .non (.type "NoneType")
 | bl (x:Bool):uh K H (.bl x) (.type "bool")
 | int (i:Int):uh K H (.int i) (.type "int")
 | str (x:Str):uh K H (.str x) (.type "str")
 | flt (x:UInt64):uh K H (.flt x) (.type "float")
 | lst {a:Addr} {xs:List V} (e:H a=some (.lst xs)):uh K H (.ref a) (.type "list")
 | frz {a:Addr} {o:Hn} {xs:List V} (e:H a=some (.frz o (.lst xs))):uh K H (.ref a) (.type "list")
 | tup {a:Addr} {xs:List V} (e:H a=some (.tup xs)):uh K H (.ref a) (.type "tuple")
 | dK {a:Addr} {kvs:List (Key × V)} (e:H a=some (.dK kvs)):uh K H (.ref a) (.type "dict")
 | dT {a:Addr} {kvs:List (List Key × V)} (e:H a=some (.dT kvs)):uh K H (.ref a) (.type "dict")
 | ins {a C dx:Addr} {fs:List (Str × V)} (e:H a=some (.ins C dx fs)) (cl:Cls K C) (ha:PySem.W.findIn K (.ref C) "__class__" = some (some (.builtin "object.__class__")))
   (hn:PySem.W.specialIn K (.builtin "object.__class__") "__get__" = some (some (.builtin "getset_descriptor.__get__"))) (htk:PySem.W.takesIn K (.builtin "object.__class__")=some true)
   (hm:PySem.W.mroIn K C (.type "object")=some true):uh K H (.ref a) (.ref C)
theorem vO {x:V} {u t:Value} (I:Inv X pins σ H s) (rx:RelV x u) (ty:uh X.K H x t) (e:PySem.W.kitOne X.K t c=some b) (h:∀ tk,Q (.bool b) { s with toks:=tk }) :
  Eu (Ey X.prog X.w) A (call (.builtin "isinstance") [u,c]) Q E s:=by
 cases ty with
 | non=>cases (show u=Ht from rx); exact Gk PySem.W.kitx_none I.kIn Km e (fun z=>nomatch z) h
 | bl y=>cases (show u=Value.bool y from rx); exact Gk PySem.W.kitx_bool I.kIn Km e (fun z=>nomatch z) h
 | int i=>obtain⟨t,q⟩:=(show ∃ t,u=K1 i t from rx); cases q; exact Gk PySem.W.kitx_int I.kIn Km e (fun z=>nomatch z) h
 | str y=>obtain⟨t,q⟩:=(show ∃ t,u=Value.str y t from rx); cases q; exact Gk PySem.W.kitx_str I.kIn Km e (fun z=>nomatch z) h
 | flt y=>obtain⟨t,q⟩:=(show ∃ t,u=Value.float y t from rx); cases q; exact Gk PySem.W.kitx_float I.kIn Km e (fun z=>nomatch z) h
 | @lst a xs ea =>
  cases (show u=GZ a from rx)
  obtain⟨_,_,n,_,h1⟩:=(show eQ X.prog X.w H s.heap a (.lst xs) from I.hok a _ ea)
  exact Gk PySem.W.kitx_list I.kIn ⟨_,h1,rfl⟩ e (fun z=>nomatch z) h
 | @frz a ob xs ea =>
  cases (show u=GZ a from rx)
  obtain⟨_,_,_,n,_,h1⟩:=(show eQ X.prog X.w H s.heap a (.frz ob (.lst xs)) from I.hok a _ ea)
  exact Gk PySem.W.kitx_list I.kIn ⟨_,h1,rfl⟩ e (fun z=>nomatch z) h
 | @tup a xs ea =>
  cases (show u=GZ a from rx)
  obtain⟨_,_,_,p⟩:=(show eQ X.prog X.w H s.heap a (.tup xs) from I.hok a _ ea)
  obtain⟨o,h1,h2,_⟩:=p
  exact Gk PySem.W.kitx_tuple I.kIn ⟨o,h1,h2⟩ e (fun z=>nomatch z) h
 | @dK a kvs ea =>
  cases (show u=GZ a from rx)
  obtain⟨_,_,vs,_,p⟩:=(show eQ X.prog X.w H s.heap a (.dK kvs) from I.hok a _ ea)
  obtain⟨o,es,ep,h1,h2,_⟩:=p
  exact Gk PySem.W.kitx_dict I.kIn ⟨o,h1,h2.1⟩ e (fun z=>nomatch z) h
 | @dT a kvs ea =>
  cases (show u=GZ a from rx)
  obtain⟨_,_,xs,_,o,es,ep,h1,h2,_⟩:=(show eQ X.prog X.w H s.heap a (.dT kvs) from I.hok a _ ea)
  exact Gk PySem.W.kitx_dict I.kIn ⟨o,h1,h2.1⟩ e (fun z=>nomatch z) h
 | @ins a C dx fs ea cl ha hn htk hm =>
  cases (show u=GZ a from rx)
  obtain⟨mA,O,_⟩:=yV I.hok ea
  obtain⟨od,J,_⟩:=O.look
  exact Gk (PySem.W.kitx_own (cl.get _) cl.hd ha hn htk hm) I.kIn J e (fun z=>nomatch z) h
end
end L2
namespace L2
open PySem PySem.Spec PyProof.Rows
structure ou (k:Nat) (A:Gd):Prop where
 hd:A.handled=none
 dp:A.depth+3 * k+5 < recursionLimit
 un:A.units+16 * k+200 < cLine
theorem ou.mono {j k:Nat} {A:Gd} (r:ou k A) (h:j<=k):ou j A:=⟨r.hd,by have:=r.dp; lia,by have:=r.un; lia⟩
theorem ou.deeper {k:Nat} {A:Gd} (r:ou (k+1) A) (env:Ls):ou k (A.deeper env) :=
 ⟨r.hd,by have:=r.dp; show A.depth+1+3 * k+5 < _; lia,by have:=r.un; show A.units+3+16 * k+200 < _; lia⟩
theorem ou.depth {k:Nat} {A:Gd} (r:ou k A):A.depth < recursionLimit:=by have:=r.dp; lia
theorem ou.yx {k:Nat} {A:Gd} (r:ou k A):A.units < cLine:=by have:=r.un; lia
def zZ:TA:=fun _ H Q=>Q [] H
def sW (ta:TE) (tr:TA):TA:=fun σ H Q=>ta σ H fun x H1=>tr σ H1 fun xs H2=>Q (x::xs) H2
section
variable {X:Cx} {e:Expr} {es:List Expr} {te:TE} {t:TA} {pos:JM}
theorem aj:PA X [] zZ:=fun _ _ _ _ H Q I h=>Calls.spliced_nil ⟨[],H,I,.nil,h⟩
theorem aa (ha:PE X e te) (hr:PA X es t) (hs:FZ (e::es) X.env=(false,Im e X.env)::FZ es X.env:=by rfl):PA X (e::es) (sW te t):=by
 intro pos pins s σ H Q I h
 rw[hs]
 show Eu _ _ (spliced ((false,Im e X.env)::JK pos (FZ es X.env))) _ _ s
 refine Calls.spliced_cons (thn (ha pins s σ H _ I h) fun u s1 ⟨x,H1,I1,r1,q1⟩=>?_)
 exact thn (hr pos pins s1 σ H1 _ I1 q1) fun us s2 ⟨xs,H2,I2,r2,q2⟩=>⟨x::xs,H2,I2,.cons r1 r2,q2⟩
def DX (t:TA):TE:=fun σ H Q=>t σ H fun xs H1=>xs.length<=sizeLine/\∀ p,H1 p=none->Q (.ref p) (upd H1 p (.tup xs))
def Ea (t:TA):TE:=fun σ H Q=>t σ H fun xs H1=>xs.length<=sizeLine/\∀ p,H1 p=none->Q (.ref p) (upd H1 p (.lst xs))
theorem bI {x1} (h:PA X es t):PE X (.Tuple es x1 pos) (DX t):=by
 intro pins s σ H Q I hq
 refine wpAny_Tuple_spliced (thn (h pos pins s σ H _ I hq) fun us s1 ⟨xs,H1,I1,r,z,q⟩=>⟨by rw[← r.length]; exact z,?_⟩)
 have hf:H1 s1.heap.objs.size=none:=I1.hok.fresh (Ei _)
 refine⟨.ref s1.heap.objs.size,upd H1 s1.heap.objs.size (.tup xs),I1.laid (t':=s1.toks) (fun b u e=>Eh _ e) (Ei _) ?_,rfl,q _ hf⟩
 exact⟨z,us,r,⟨_,Ew _ rfl,rfl,_,rfl⟩⟩
theorem cD (h:PA X es t):PE X (.List es pos) (Ea t):=by
 intro pins s σ H Q I hq
 refine wpAny_List_spliced (thn (h pos pins s σ H _ I hq) fun us s1 ⟨xs,H1,I1,r,z,q⟩=>⟨by rw[← r.length]; exact z,?_⟩)
 have hf:H1 s1.heap.objs.size=none:=I1.hok.fresh (Ei _)
 refine⟨.ref s1.heap.objs.size,upd H1 s1.heap.objs.size (.lst xs),I1.laid (t':=s1.toks) (fun b u e=>Eh _ e) (Ei _) ?_,rfl,q _ hf⟩
 exact⟨z,us,0,r,Ew _ rfl⟩
end
abbrev Sp:=List V->Hp->VK->XK->Prop
abbrev CXT:=List Ls->Hp->Eg->XK->Value->Eg->Prop
structure Br (P:Ft) (w:FP) (K:Eo) (mg:Str->Option Value) (base:Gh) (A:Gd) (outer:List Ls) (s:Eg) (H:Hp):Prop where
 frames:A.frames=some outer
 mod:Mod K mg base
 bs:∀ b o,base.get? b=some o->s.heap.get? b=some o/\H b=none
 bsz:base.objs.size<=s.heap.objs.size
 vq:s.heap.FunFrames base outer
 frf:∀ b∈frs outer,H b=none
 hok:HOk P w H s.heap
 bare:J0 s.gens
def CE (outer:List Ls) (P:Ft) (w:FP) (H:Hp) (s:Eg) (Q:VK) (u:Value) (s':Eg):Prop :=
 ∃ v H',s'.os=s.os/\J0 s'.gens/\Un (frs outer) [] H H' s.heap s'.heap/\HOk P w H' s'.heap/\RelV v u/\Q v H'
def CR (CX:CXT) (outer:List Ls) (P:Ft) (w:FP) (H:Hp) (s:Eg) (Q:VK) (E:XK) (r:Result) (s':Eg):Prop :=
 match r with
 | .ok (.ret u)=>CE outer P w H s Q u s'
 | .ok _=>False
 | .error e=>CX outer H s E e s'
structure dw (P:Ft) (w:FP) (K:Eo) (mg:Str->Option Value) (base:Gh) (CX:CXT) (k:Nat) (f:Addr) (fd:Hy) (ps:List Str) (sp:Sp):Prop where
 len:∀ vs H Q E,sp vs H Q E->vs.length=ps.length
 run:∀ (A:Gd) (outer:List Ls) (s:Eg) (H:Hp) (args:Args) (us:List Value) (vs:List V) (Q:VK) (E:XK),ou k A->Br P w K mg base A outer s H->Ka s fd args (ps.zip us)->Vals vs us->sp vs H Q E →
  GQ (Ey P w) A (.call (.ref f) args) (CR CX outer P w H s Q E) s
section
variable {X:Cx} {pins:List (Addr × Hn)} {σ:St} {H:Hp} {s s':Eg}
theorem Inv.env0 (I:Inv X pins σ H s):Br X.prog X.w X.K X.mg X.base X.A X.stack s H :=
 ⟨I.ok.frames,I.ok.mod,I.bs,Fe I.ok.bsz I.sz,I.stack,I.uK,I.hok,I.bare⟩
theorem Inv.after {Q:VK} {u:Value} (I:Inv X pins σ H s) (h:CE X.stack X.prog X.w H s Q u s'):EP X pins σ Q u s':=by
 obtain⟨v,H',os,bare,un,hok,r,q⟩:=h
 obtain⟨hh,g,d,t,os'⟩:=s'
 obtain rfl:os'=s.os:=os
 exact⟨v,H',I.call (h':=hh) (g':=g) (d':=d) (t':=t) (ch:=[]) un hok bare (fun b z=>absurd z (by simp)),r,q⟩
end
def uX (sp:Sp) (dvs:List V) (E:XK) (t:TA):TE:=fun σ H Q=>t σ H fun vs H1=>sp (vs++dvs) H1 Q E
def Binds (K:Eo) (fd:Hy) (ps:List Str) (ds:List Value):Prop :=
 ∀ (s:Eg) (us:List Value),K.In s.heap->(us++ds).length=ps.length->Ka s fd ⟨us,[]⟩ (ps.zip (us++ds))
theorem Binds.all {K:Eo} {fd:Hy} {ps:List Str} (h:∀ us:List Value,us.length=ps.length->J6 fd ⟨us,[]⟩=pure (ps.zip us)):Binds K fd ps []:=fun s us _ hl=>by
 rw[Hx] at hl ⊢
 exact .of_eq (h us hl)
def Passes (CX:CXT) (X:Cx) (E:XK):Prop:=∀ (pins:List (Addr × Hn)) (σ:St) (H:Hp) (s:Eg) (e:Value) (s':Eg),Inv X pins σ H s->CX X.stack H s E e s'->X.xe e s'
section
variable {X:Cx} {CX:CXT} {k:Nat} {f C:Addr} {fd:Hy} {ps:List Str} {sp:Sp} {dvs:List V} {ds:List Value} {E:XK} {x m:Str} {p pos apos:JM} {e o:Expr} {es:List Expr} {ta:TE} {t:TA}
theorem zP {pins:List (Addr × Hn)} {σ:St} {H:Hp} {s:Eg} {Q:VK} {us:List Value} {vs:List V} (F:dw X.prog X.w X.K X.mg X.base CX k f fd ps sp) (hr:ou k X.A) (hb:Binds X.K fd ps ds) (hd:Vals dvs ds) (hx:Passes CX X E)
  (I:Inv X pins σ H s) (r:Vals vs us) (h:sp (vs++dvs) H Q E):Eu (Ey X.prog X.w) X.A (call (.ref f) us) (EP X pins σ Q) X.xe s:=by
 have r2:Vals (vs++dvs) (us++ds):=r.append hd
 have hl:(us++ds).length=ps.length:=by rw[← r2.length]; exact F.len _ _ _ _ h
 refine wpAny_call (Jt (F.run X.A X.stack s H ⟨us,[]⟩ (us++ds) (vs++dvs) Q E hr I.env0 (hb s us I.kIn hl) r2 h) fun r s' hq=>?_)
 cases r with
 | error e=>exact hx pins σ H s e s' I hq
 | ok fl =>
  cases fl with
  | ret u=>exact I.after hq
  | next=>exact HR hq
  | brk=>exact HR hq
  | cont=>exact HR hq
theorem yP (F:dw X.prog X.w X.K X.mg X.base CX k f fd ps sp) (hr:ou k X.A) (hg:Gl X x) (hm:X.mg x=some (.ref f)) (hk:Jx X.K (.ref f)=true) (hb:Binds X.K fd ps ds) (hd:Vals dvs ds) (hx:Passes CX X E)
  (ha:PA X (e::es) t) (hdb:(x == ("__debug__" : Str))=false:=by decide) (he:FZ (e::es) X.env=(false,Im e X.env)::FZ es X.env:=by rfl) (hpl:(JK pos (FZ es X.env)).any (·.1)=false:=by rfl) :
  PE X (.Call (.Name x p) (e::es) [] pos) (uX sp dvs E t):=by
 intro pins s σ H Q I h
 refine Il (vU I hg hm ?_ hdb)
 refine PySem.W.callWith_K (h₀:=X.base) I.ok.mod.kin hk (thn (ha pos pins s σ H _ I h) fun us s1 ⟨vs,H1,I1,r,q⟩=>⟨I1.kIn,?_⟩) he hpl
 exact zP F hr hb hd hx I1 r q
end
section
variable {X:Cx} {CX:CXT} {k:Nat} {f C:Addr} {fd:Hy} {ps ks:List Str} {sp:Sp} {E:XK} {x m:Str} {p pos apos kpos:JM} {e o:Expr} {es:List Expr} {kws:List Keyword} {te ta:TE} {t tk:TA} {nm:Option Str}
variable {g:List Value->List Value->List Value} {gV:List V->List V->List V}
end
structure aW (N P:List Str) (sc:IV):Prop where
 kind:sc.kind = .function
 co:sc.isCoroutine=false
 gen:sc.isGenerator=false
 nd:N.Nodup
 pre:N.take P.length=P
 par:∀ x∈P,sc.names.lookup x=some .local∨sc.names.lookup x=some .cell
 nofree:∀ y∈sc.names,y.2≠.free
theorem pA {kindOf:Str->Option Jy} {x:Str}:∀ {binds:List (Str × Value)} {m:Str->Option Value},(∀ v,(x,v) ∉ binds)->bindL kindOf binds m x=m x
 | [],_,_=>rfl
 | (n,v)::r,m,h=>by
  unfold bindL
  rw[pA fun w hw=>h w (En _ hw)]
  split
  ·have:x≠n:=by rintro rfl; exact h v Ek
   simp [this]
  ·rfl
theorem oH {kindOf:Str->Option Jy} {x:Str}:∀ {binds:List (Str × Value)} {m:Str->Option Value},(∀ v,(x,v) ∉ binds)->bindC kindOf binds m x=m x
 | [],_,_=>rfl
 | (n,v)::r,m,h=>by
  unfold bindC
  rw[oH fun w hw=>h w (En _ hw)]
  split
  ·rfl
  ·have:x≠n:=by rintro rfl; exact h v Ek
   simp [this]
theorem pP {kindOf:Str->Option Jy} {x:Str} {v:Value}:∀ {P:List Str} {vs:List Value} {i:Nat} {m:Str->Option Value},P.Nodup->P[i]? = some x->vs[i]? = some v->kindOf x=some .local →
  bindL kindOf (P.zip vs) m x=some v
 | [],_,_,_,_,h,_,_=>by simp at h
 | _::_,[],_,_,_,_,h,_=>by simp at h
 | p::P,w::vs,0,m,nd,h1,h2,hk=>by
  simp at h1 h2; subst h1; subst h2
  show bindL kindOf ((p,w)::P.zip vs) m p=_
  unfold bindL
  rw[pA fun v hv=>(List.nodup_cons.mp nd).1 (Lj hv).1,if_pos hk]
  simp
 | p::P,w::vs,i+1,m,nd,h1,h2,hk=>by
  show bindL kindOf ((p,w)::P.zip vs) m x=_
  unfold bindL
  exact pP (i:=i) (List.nodup_cons.mp nd).2 (by simpa using h1) (by simpa using h2) hk
theorem pL {kindOf:Str->Option Jy} {x:Str} {v:Value}:∀ {P:List Str} {vs:List Value} {i:Nat} {m:Str->Option Value},P.Nodup->P[i]? = some x->vs[i]? = some v->kindOf x≠some .local →
  bindC kindOf (P.zip vs) m x=some v
 | [],_,_,_,_,h,_,_=>by simp at h
 | _::_,[],_,_,_,_,h,_=>by simp at h
 | p::P,w::vs,0,m,nd,h1,h2,hk=>by
  simp at h1 h2; subst h1; subst h2
  show bindC kindOf ((p,w)::P.zip vs) m p=_
  unfold bindC
  rw[oH fun v hv=>(List.nodup_cons.mp nd).1 (Lj hv).1,if_neg hk]
  simp
 | p::P,w::vs,i+1,m,nd,h1,h2,hk=>by
  show bindC kindOf ((p,w)::P.zip vs) m x=_
  unfold bindC
  exact pL (i:=i) (List.nodup_cons.mp nd).2 (by simpa using h1) (by simpa using h2) hk
def start (N:List Str) (vs:List V):St:=vs.map some++Gf (N.length - vs.length) none
def zE (CX:CXT) (P:Ft) (w:FP) (K:Eo) (mg:Str->Option Value) (base:Gh) (N:List Str) (qual:Str) (scope:IV) (f:Addr) (cd:Value) (A:Gd) (outer:List Ls) (s:Eg) (H:Hp) (E:XK):Cx where
 prog:=P
 w:=w
 K:=K
 mg:=mg
 base:=base
 A:=A.deeper (Kl qual scope s.heap.objs.size f cd)
 N:=N
 s₀:=s
 H₀:=H
 env:=Kl qual scope s.heap.objs.size f cd
 outer:=outer
 stack:=Kl qual scope s.heap.objs.size f cd::outer
 ex:=[]
 calm:=true
 fn:=fun _=>true
 pn:=[]
 xe:=fun e s'=>Eu (Ey P w) (A.deeper (Kl qual scope s.heap.objs.size f cd)) (leaving (Kl qual scope s.heap.objs.size f cd) e) (fun _ s''=>CX outer H s E e s'') (fun e' s''=>CX outer H s E e' s'') s'
theorem rF {sc:IV} {n:Nat} {x:Str} (h:sc.names.lookup x=some .cell):∃ c,(cellsFrom n sc.names []).lookup x=some c:=by
 have q:=PySem.W.cellsFrom_some sc.names n [] (.inl h)
 exact Option.isSome_iff_exists.mp q
theorem uT {CX:CXT} {P:Ft} {w:FP} {K:Eo} {mg:Str->Option Value} {base:Gh} {N ps:List Str} {qual:Str} {scope:IV} {f:Addr} {cd:Value} {A:Gd} {outer:List Ls} {s s1:Eg} {H:Hp} {E:XK} {us:List Value} {vs:List V}
  (S:aW N ps scope) (hd:A.handled=none) (e0:Br P w K mg base A outer s H) (hl:vs.length=ps.length) (r:Vals vs us)
  (x:InCallC s s.heap.objs.size (bindL (Kl qual scope s.heap.objs.size f cd).kindOf (ps.zip us) fun _=>none) (cellsFrom (s.heap.objs.size+1) scope.names []) (bindC (Kl qual scope s.heap.objs.size f cd).kindOf (ps.zip us) fun _=>none) s1) :
  Inv (zE CX P w K mg base N qual scope f cd A outer s H E) [] (start N vs) H s1:=by
 have hpl:ps.length<=N.length:=by have:=congrArg K9 S.pre; rw[Fi] at this; lia
 obtain⟨h1,tk,rfl,hk⟩:=x.done
 have noA:∀ b:Addr,b ∉ (zE CX P w K mg base N qual scope f cd A outer s H E).ex:=fun b z=>absurd (show b∈([]:List Addr) from z) (by simp)
 refine⟨⟨e0.mod,S.kind,rfl,rfl,Ei _,fun y z c h1 h2=>?_,fun y hy=>?_,fun y c _ h=>?_,fun _=>hd,Around.frames_deeper e0.frames,.inr ⟨rfl,rfl⟩,fun b z=>absurd z (noA b),e0.bs,e0.bsz,fun b _ _=>noA b,fun b z=>absurd z (noA b),e0.vq,e0.frf⟩,
  rfl,e0.bare,Un.kept hk,⟨_,x.toInCall.ns,fun i y v h1 h2 h3=>?_⟩,fun y c h=>⟨_,x.cell y c h⟩,e0.hok.fresh (Ei _),fun y c h=>?_,fun p hp=>absurd (show p∈([]:List (Addr × Hn)) from hp) (by simp),e0.hok.kept hk,?_⟩
 ·exact name_of_addr x.apart (Gi h1) (Gi h2)
 ·have hy:scope.names.lookup y=some .cell∨scope.names.lookup y=some .free:=hy
  rcases hy with hy | hy
  ·exact rF hy
  ·exact absurd rfl (S.nofree _ (Gi hy))
 ·exact Hv (x.above y c (Gi h))
 ·have hi:i < vs.length:=by
   unfold start at h2
   by_cases hi:i < vs.length
   ·exact hi
   ·rw[Gq (by simpa using hi)] at h2
    rw[List.getElem?_replicate] at h2
    split at h2 <;> cases h2
  have ha:vs[i]? = some v:=by
   unfold start at h2
   rw[List.getElem?_append_left (by simpa using hi),Fd] at h2
   cases e:vs[i]? with
   | none=>rw[e] at h2; cases h2
   | some a=>rw[e] at h2; cases h2; rfl
  obtain⟨u,hu,rv⟩:=r.get ha
  have hp:ps[i]? = some y:=by
   rw[← S.pre,List.getElem?_take_of_lt (by lia)]; exact h1
  have ndP:ps.Nodup:=by rw[← S.pre]; exact S.nd.sublist (List.take_sublist _ _)
  refine⟨u,rv,?_⟩
  rcases S.par y (Fj hp) with k | k
  ·exact .inl ⟨k,pP ndP hp hu k⟩
  ·obtain⟨c,e⟩:=rF (n:=s.heap.objs.size+1) k
   refine .inr ⟨.inl k,c,e,?_⟩
   have q:=x.cell y c e
   rw[pL ndP hp hu (by show scope.names.lookup y≠_; rw[k]; decide)] at q
   exact q
 ·exact e0.hok.fresh (Hv (x.above y c (Gi h)))
 ·unfold start
  show _=N.length
  rw[Ec,Eb,G6]
  lia
theorem Bv {CX:CXT} {P:Ft} {w:FP} {K:Eo} {mg:Str->Option Value} {base:Gh} {k:Nat} {f:Addr} {name qual:Str} {params:Arguments} {body:List Stmt} {scope:IV} {dV kV doc pm cdv ct oc:Value} {an od:Option Addr}
  {osl:Array (Option Value)} {N ps:List Str} {sp:Sp} (lk:K.lookup f=some ⟨oc,od,.func (IW name qual params body scope dV kV doc pm an cdv ct),osl⟩) (hcd:J8 K cdv qual=true) (S:aW N ps scope)
  (len:∀ vs H Q E,sp vs H Q E->vs.length=ps.length)
  (hbody:∀ (A:Gd) (outer:List Ls) (s:Eg) (H:Hp) (vs:List V) (Q:VK) (E:XK),ou k (A.deeper (Kl qual scope s.heap.objs.size f cdv))->sp vs H Q E →
   ∃ t,PSs (zE CX P w K mg base N qual scope f cdv A outer s H E) body t/\t { nx:=fun _ H'=>Q .non H',rt:=Q } (start N vs) H) :
  dw P w K mg base CX (k+1) f (IW name qual params body scope dV kV doc pm an cdv ct) ps sp:=by
 refine⟨len,fun A outer s H args us vs Q E hr e0 hb r hsp=>?_⟩
 have hl:=len _ _ _ _ hsp
 have KX:K.In s.heap:=e0.mod.kin.keeps fun b o e=>(e0.bs b o e).1
 have lim:s.heap.NoLimit:=e0.mod.nolimit.keeps fun b o e=>(e0.bs b o e).1
 have hkind:∀ y∈ps.zip us,scope.names.lookup y.1=some .local∨(scope.names.lookup y.1=some .cell/\((cellsFrom (s.heap.objs.size+1) scope.names []).lookup y.1).isSome=true):=fun⟨n,v⟩ hy=>by
  rcases S.par n (Lj hy).1 with q | q
  ·exact .inl q
  ·exact .inr ⟨q,PySem.W.cellsFrom_some _ _ _ (.inl q)⟩
 refine codeAny_call_function hr.depth (KX _ _ lk) rfl S.co S.gen rfl (PySem.W.codeRec_of KX hcd) (hb _ _ _ _ ?_)
 refine wpAny_newFunctionEnv_cells S.kind hkind fun env he s1 x=>?_
 subst he
 refine⟨lim.keeps x.toInCall.keep,codeAny_func ?_⟩
 obtain⟨t,ht,hq⟩:=hbody A outer s H vs Q E (hr.deeper _) hsp
 have I:Inv (zE CX P w K mg base N qual scope f cdv A outer s H E) [] (start N vs) H s1:=uT S hr.hd e0 hl r x
 refine Ga (ht [] s1 (start N vs) H _ I hq) (fun fl s' hs=>?_) fun e s' hs=>hs
 have fin:∀ {σ':St} {H':Hp} {v:V} {u:Value},Inv (zE CX P w K mg base N qual scope f cdv A outer s H E) [] σ' H' s'->RelV v u->Q v H'->CE outer P w H s Q u s' :=
  fun {σ' H' v u} J rv q=>⟨v,H',J.os,J.bare,J.base,J.hok,rv,q⟩
 cases fl with
 | ret u =>
  obtain⟨v,σ',H',J,rv,q⟩:=hs
  exact fin J rv q
 | next =>
  obtain⟨σ',H',J,q⟩:=hs
  exact fin (v:=V.non) (u:=Ht) J rfl q
 | brk =>
  obtain⟨_,_,_,q⟩:=hs
  exact HR q
 | cont =>
  obtain⟨_,_,_,q⟩:=hs
  exact HR q
end L2
namespace L2
open PySem PySem.Spec PyProof.Rows
section
variable {X:Cx} {x:Str} {p pos:JM} {e:Expr} {es:List Expr} {t:TA} {id T:String} {r:List V->Hp->VK->Prop}
def tCB (r:List V->Hp->VK->Prop) (t:TA):TE:=fun σ H Q=>t σ H fun vs H1=>r vs H1 Q
theorem aF (hc:fZ X (.builtin id) r) (hg:Gl X x) (hm:X.mg x=none) (hv:FJ x=some (.builtin id)) (ha:PA X (e::es) t) (hn:x≠"__name__":=by decide) (hdb:(x == ("__debug__" : Str))=false:=by decide)
  (he:FZ (e::es) X.env=(false,Im e X.env)::FZ es X.env:=by rfl) (hpl:(JK pos (FZ es X.env)).any (·.1)=false:=by rfl):PE X (.Call (.Name x p) (e::es) [] pos) (tCB r t):=by
 intro pins s σ H Q I h
 refine Il (jQ I hg hm hv ?_ hn hdb)
 exact K4 (thn (ha pos pins s σ H _ I h) fun us s1 ⟨vs,H1,I1,r1,q1⟩=>hc pins s1 σ H1 vs us Q I1 r1 q1) he hpl
theorem aY (hc:fZ X (.type T) r) (hg:Gl X x) (hm:X.mg x=none) (hv:FJ x=some (.type T)) (ha:PA X (e::es) t) (hn:x≠"__name__":=by decide) (hdb:(x == ("__debug__" : Str))=false:=by decide)
  (he:FZ (e::es) X.env=(false,Im e X.env)::FZ es X.env:=by rfl) (hpl:(JK pos (FZ es X.env)).any (·.1)=false:=by rfl):PE X (.Call (.Name x p) (e::es) [] pos) (tCB r t):=by
 intro pins s σ H Q I h
 refine Il (jQ I hg hm hv ?_ hn hdb)
 exact GR (thn (ha pos pins s σ H _ I h) fun us s1 ⟨vs,H1,I1,r1,q1⟩=>hc pins s1 σ H1 vs us Q I1 r1 q1) he hpl
end
end L2
namespace HT
open PySem PyProof.Rows
section
open PySem.SeqAt
open PySem.AutoSeq1 (wpAny_loadPart')
open PySem.MeetsSeq PySem.MeetsSeq2 PySem.MeetsSeq3
end
section
variable {prog:Ft} {w:FP} {A:Gd} {E:Value->Eg->Prop} {s:Eg}
theorem zc {t b:Addr} {vs ws:List Value} {Q:Value->Eg->Prop} (ht:IsTup s.heap t vs.toArray) (hb:IsTup s.heap b ws.toArray) (hv:vs≠[])
  (h1:ws=[]->Q (.ref t) s) (h2:ws≠[]->Q (.ref s.heap.objs.size) { s with heap:=s.heap.push { cls:=.type "tuple",data:=.seq (vs++ws).toArray } })
  (hsz:vs.length+ws.length<=sizeLine):Eu (Ey prog w) A (Ie .Add (.ref t) (.ref b)) Q E s:=by
 obtain⟨⟨cls,dd,data,sl⟩,ho,hc,n,hd⟩:=id ht
 obtain⟨⟨cls2,dd2,data2,sl2⟩,ho2,hc2,n2,hd2⟩:=id hb
 simp only at hc hd hc2 hd2
 subst hc hd hc2 hd2
 have e:vs.toArray++ws.toArray=(vs++ws).toArray:=by simp
 by_cases hw:ws=[]
 ·exact concat_meets ⟨_,ho,rfl⟩ ⟨_,ho2,rfl⟩ KY seq_tuple_add JV JP (JL _ _)
   (tuple_addW1 t b vs.toArray ws.toArray n n2 dd dd2 sl sl2 (by simpa using hv) (by simp [hw])) ⟨ho,ho2,h1 hw⟩
 ·refine concat_meets ⟨_,ho,rfl⟩ ⟨_,ho2,rfl⟩ KY seq_tuple_add JV JP (JL _ _)
   (tuple_addW2 t b vs.toArray ws.toArray n n2 dd dd2 sl sl2 (by simpa using hv) (by simpa using hw) (by rw[Fb,Fb]; exact hsz)) ⟨ho,ho2,?_⟩
  rw[e]
  exact h2 hw
def sIx (n d:Nat):Option Int->Nat
 | none=>d
 | some v=>if v < 0 then (v+(n:Int)).toNat else min v.toNat n
theorem Bd (n d:Nat) (hd:d<=n) (o:Option Int):sIx n d o<=n:=by
 cases o with
 | none=>exact hd
 | some v =>
  show (if v < 0 then (v+(n:Int)).toNat else min v.toNat n)<=n
  by_cases hv:v < 0
  ·rw[if_pos hv]; lia
  ·rw[if_neg hv]; exact Nat.min_le_right _ _
theorem wz (v:Int) (n d:Nat):(if v < 0 then max (v+(n:Int)) 0 else min v (n:Int))=((sIx n d (some v):Nat):Int):=by
 show (if v < 0 then max (v+(n:Int)) 0 else min v (n:Int))=(((if v < 0 then (v+(n:Int)).toNat else min v.toNat n):Nat):Int)
 by_cases hv:v < 0
 ·simp only[if_pos hv]; lia
 ·simp only[if_neg hv]; lia
theorem tR (lo hi:Option Int) (n:Nat):JC lo hi 1 (n:Int)=(((sIx n 0 lo:Nat):Int),((sIx n n hi:Nat):Int)):=by
 have h1:¬ ((1:Int) < 0):=by lia
 unfold JC
 simp only[h1,if_false]
 refine Prod.ext ?_ ?_
 ·cases lo with
  | none=>rfl
  | some v=>exact wz v n 0
 ·cases hi with
  | none=>rfl
  | some v=>exact wz v n n
theorem ug (i j:Nat):HY (i:Int) (j:Int) 1=j - i:=by
 unfold HY
 have h1:(1:Int) > 0:=by lia
 simp only[h1,if_true,Int.ediv_one]
 split <;> lia
theorem lY {v:Value} {o:Option Int} {Q:Option Int->Eg->Prop} (p:K6 v o) (h:Q o s):Eu (Ey prog w) A (Builtin.Slice.slicePartIndex v) Q E s:=by
 cases p with
 | none=>exact slicePart_none h
 | int i t=>exact slicePart_int h
theorem jX {sl:Addr} {vl vu:Value} {lo hi:Option Int} {n:Nat} {Q:Int × Int × Nat->Eg->Prop} (hs:s.heap.IsSliceOf sl vl vu .none) (pl:K6 vl lo) (pu:K6 vu hi)
  (h:Q (((sIx n 0 lo:Nat):Int),1,sIx n n hi - sIx n 0 lo) s):Eu (Ey prog w) A (Builtin.Slice.sliceApplied (.ref sl) (pure (n:Int))) Q E s:=by
 obtain⟨os,hos,hcs,hds⟩:=id hs
 unfold Builtin.Slice.sliceApplied Builtin.Slice.sliceFields
 refine Ed (Ed (wpAny_field hos hds (x:=vl) rfl (Ed (wpAny_field hos hds (x:=vu) rfl (Ed (wpAny_field hos hds (x:=.none) rfl (Ej ?_)))))))
 refine Ed (slicePart_none ?_)
 show Eu _ _ (if ((1:Int) == 0)=true then _ else _) _ _ s
 rw[if_neg (by decide)]
 refine Ed (lY pl (Ed (lY pu (Ed (Ej ?_)))))
 show Eu _ _ (match JC lo hi 1 (n:Int) with | (lo,hi)=>pure (lo,(1:Int),HY lo hi 1)) _ _ s
 rw[tR lo hi n]
 show Eu _ _ (pure (((sIx n 0 lo:Nat):Int),(1:Int),HY ((sIx n 0 lo:Nat):Int) ((sIx n n hi:Nat):Int) 1)) _ _ s
 rw[ug]
 exact Ej h
theorem xU (xs:Array Value) (i k:Nat):((Gx k).filterMap fun (m:Nat)=>xs[((i:Int)+(m:Int) * 1).toNat]?).toArray=((xs.toList.drop i).take k).toArray:=by
 have e:(fun (m:Nat)=>xs[((i:Int)+(m:Int) * 1).toNat]?)=fun m=>xs[i+m]?:=by
  funext m
  have:((i:Int)+(m:Int) * 1).toNat=i+m:=by lia
  rw[this]
 rw[e]
 have:=pick_run xs i k
 rw[List.filterMap_map] at this
 have e2:((fun x=>xs[x]?) ∘ fun x=>i+x)=fun m=>xs[i+m]?:=rfl
 rw[e2] at this
 rw[this]
theorem jG {t sl:Addr} {items:Array Value} {vl vu:Value} {lo hi:Option Int} {Q:Value->Eg->Prop} (ht:IsTup s.heap t items) (hs:s.heap.IsSliceOf sl vl vu .none) (pl:K6 vl lo) (pu:K6 vu hi)
  (hw:¬ (sIx items.size 0 lo=0/\sIx items.size items.size hi=items.size))
  (h:Q (.ref s.heap.objs.size) { s with heap:=s.heap.push { cls:=.type "tuple",data:=.seq ((items.toList.drop (sIx items.size 0 lo)).take (sIx items.size items.size hi - sIx items.size 0 lo)).toArray } })
  (hsz:items.size<=sizeLine):Eu (Ey prog w) A (getItem (.ref t) (.ref sl)) Q E s:=by
 have htake:sizeOk (.seq ((items.toList.drop (sIx items.size 0 lo)).take (sIx items.size items.size hi - sIx items.size 0 lo)).toArray):=by
  show ((items.toList.drop (sIx items.size 0 lo)).take (sIx items.size items.size hi - sIx items.size 0 lo)).toArray.size<=sizeLine
  rw[Fb,Fi,G3,FQ]
  lia
 have hj:sIx items.size items.size hi<=items.size:=Bd _ _ (Ei _) hi
 obtain⟨os,hos,hcs,hds⟩:=id hs
 have hTs:s.TypeIs (.ref sl) "slice":=⟨os,hos,hcs⟩
 unfold getItem
 try with_reducible refine Ib ?_
 first | refine Ed (Ej ?_) | skip
 refine Ed (wpAny_sequenceKey ht.typeIs (by decide) ?_)
 refine Ed (Iu (name:=JT "__getitem__") ht.typeIs KQ
  (Hl KQ ht.typeIs entry_tuple_getitem ?_ (args_tuple_getitem _ _)))
 show Eu _ _ (Builtin.Tuple.tupleItemsOf (.ref t) >>= _) _ _ s
 refine Ed (tupleItemsOf_ ht ?_)
 refine Ed (wpAny_typeOf hTs ?_)
 rw[if_pos (by decide)]
 refine Ed (jX hs pl pu ?_)
 have hno:¬ ((((sIx items.size 0 lo:Nat):Int) == 0 && (1:Int) == 1 && (sIx items.size items.size hi - sIx items.size 0 lo) == items.size)=true):=by
  intro q
  rw[Gg,Gg] at q
  have q1:((sIx items.size 0 lo:Nat):Int)=0:=eq_of_beq q.1.1
  have q2:sIx items.size items.size hi - sIx items.size 0 lo=items.size:=eq_of_beq q.2
  exact hw ⟨by lia,by lia⟩
 show Eu _ _ (if (((sIx items.size 0 lo:Nat):Int) == 0 && (1:Int) == 1 && (sIx items.size items.size hi - sIx items.size 0 lo) == items.size)=true then _ else _) _ _ s
 rw[if_neg hno,xU]
 first
  | exact Ed (m:=Ii _) (Fz (Ej ⟨_,rfl,Ej h⟩) htake)
  | exact Ed (m:=Ii _) (Fz (Ed (Ej (Ej ⟨_,rfl,Ej h⟩))) htake)
  | exact Ed (Ed (m:=Ii _) (Fz (Ej (Ej ⟨_,rfl,Ej h⟩)) htake))
  | exact Ed (Ed (m:=Ii _) (Fz (Ej ⟨_,rfl,Ej h⟩) htake))
end
end HT
namespace L2
open PySem PySem.Spec PyProof.Rows
abbrev TO:=St->Hp->(Option Int->Hp->Prop)->Prop
def PO (X:Cx) (e:Option Expr) (t:TO):Prop :=
 ∀ (pins:List (Addr × Hn)) (s:Eg) (σ:St) (H:Hp) (Q:Option Int->Hp->Prop),Inv X pins σ H s->t σ H Q →
  Eu (Ey X.prog X.w) X.A (evalPart e X.env) (fun u s'=>∃ o H',Inv X pins σ H' s'/\K6 u o/\Q o H') X.xe s
def uR:TO:=fun _ H Q=>Q none H
def BL (t:TE):TO:=fun σ H Q=>t σ H fun x H1=>∃ i,x = .int i/\Q (some i) H1
theorem intsAre_of {ns:List Int}:∀ {us:List Value},Vals (ns.map V.int) us->Gm us ns:=by
 induction ns with
 | nil=>intro us r; rw[List.map_nil] at r; cases r; exact .nil
 | cons n ns ih =>
  intro us r
  rw[Hj] at r
  cases r with
  | cons r1 r2 =>
   obtain⟨t,e⟩:=r1
   subst e
   exact .cons n t (ih r2)
section
variable {X:Cx} {e:Expr} {te:TE} {lo hi:Option Expr} {tl th:TO} {pos p2:JM}
theorem qW:PO X none uR:=by
 intro pins s σ H Q I h
 rw[evalPart_none]
 exact Ej ⟨none,H,I,.none,h⟩
theorem iC (h:PE X e te):PO X (some e) (BL te):=by
 intro pins s σ H Q I hw
 rw[evalPart_some]
 refine thn (h pins s σ H _ I hw) fun u s1 ⟨x,H1,I1,r1,q1⟩=>?_
 obtain⟨i,rfl,q⟩:=q1
 obtain⟨t,rfl⟩:=r1
 exact⟨some i,H1,I1,.int i t,q⟩
def SlR (X:Cx) (r:V->Option Int->Option Int->Hp->VK->Prop):Prop :=
 ∀ (pins:List (Addr × Hn)) (s:Eg) (σ:St) (H:Hp) (x:V) (v vl vu:Value) (lo hi:Option Int) (sl:Addr) (Q:VK),Inv X pins σ H s->RelV x v->s.heap.IsSliceOf sl vl vu .none->K6 vl lo->K6 vu hi->r x lo hi H Q →
  ∃ T id,typeLookup (.type T) "__getitem__" = pure (some (.builtin id))/\s.TypeIs v T/\Eu (Ey X.prog X.w) X.A (getItem v (.ref sl)) (EP X pins σ Q) X.xe s
def tSl (r:V->Option Int->Option Int->Hp->VK->Prop) (te:TE) (tl th:TO):TE:=fun σ H Q=>te σ H fun x H1=>tl σ H1 fun l H2=>th σ H2 fun u H3=>r x l u H3 Q
theorem jh {r:V->Option Int->Option Int->Hp->VK->Prop} (hr:SlR X r) (he:PE X e te) (hl:PO X lo tl) (hu:PO X hi th):PE X (.Subscript e (.Slice lo hi none p2) pos) (tSl r te tl th):=by
 intro pins s σ H Q I h
 refine Subscript_ (thn (he pins s σ H _ I h) fun v s1 ⟨x,H1,I1,r1,q1⟩=>?_)
 refine wpAny_Slice (thn (hl pins s1 σ H1 _ I1 q1) fun vl s2 ⟨l,H2,I2,pl,q2⟩=>thn (hu pins s2 σ H2 _ I2 q2) fun vu s3 ⟨u,H3,I3,pu,q3⟩=>?_)
 rw[evalPart_none]
 refine Ej ?_
 have I4:Inv X pins σ H3 { s3 with heap:=s3.heap.push { cls:=.type "slice",data:=.fields #[vl,vu,.none] } }:=I3.kept (t':=s3.toks) fun b ob q=>Eh _ q
 obtain⟨T,id,hT,ht,hg⟩:=hr pins { s3 with heap:=s3.heap.push { cls:=.type "slice",data:=.fields #[vl,vu,.none] } } σ H3 x v vl vu l u s3.heap.objs.size Q I4 r1 (Heap.IsSliceOf.new ..) pl pu q3
 show Eu (Ey X.prog X.w) X.A (subscriptTail e (.Slice lo hi none p2) v (.ref s3.heap.objs.size)) (EP X pins σ Q) X.xe { s3 with heap:=s3.heap.push { cls:=.type "slice",data:=.fields #[vl,vu,.none] } }
 exact tail_any (ops:=[.ref s3.heap.objs.size,v]) ht hT hg (by with_unfolding_all rfl)
def wD (xs:List V) (lo hi:Option Int):List V:=(xs.drop (HT.sIx xs.length 0 lo)).take (HT.sIx xs.length xs.length hi - HT.sIx xs.length 0 lo)
theorem lq (xs:List V) (lo hi:Option Int):(wD xs lo hi).length<=xs.length:=by
 unfold wD
 rw[Fi,G3]
 lia
def Dc (K:Eo):V->Option Int->Option Int->Hp->VK->Prop:=fun x lo hi H Q=>∃ a xs,x = .ref a/\SqT K H a xs ∧
 ¬ (HT.sIx xs.length 0 lo=0/\HT.sIx xs.length xs.length hi=xs.length)/\∀ p,H p=none->Q (.ref p) (upd H p (.tup (wD xs lo hi)))
theorem Ag:SlR X (Dc X.K):=by
 intro pins s σ H x v vl vu lo hi sl Q I rx hs pl pu h
 obtain⟨a,xs,rfl,hx,hw,q⟩:=h
 cases rx
 obtain⟨its,r,ht,hz⟩:=I.tuple hx
 have hlen:its.toArray.size=xs.length:=by rw[Fb]; exact r.length.symm
 refine⟨"tuple",_,PyProof.Rows.slot_tuple_getitem.lookup,ht.typeIs,?_⟩
 refine HT.jG ht hs pl pu (by rw[hlen]; exact hw) ?_ (by rw[hlen]; exact hz)
 rw[hlen]
 refine⟨.ref s.heap.objs.size,_,I.laid (t':=s.toks) (o:=.tup (wD xs lo hi)) (fun b ob q=>Eh _ q) (Ei _) ?_,rfl,q _ (I.hok.fresh (Ei _))⟩
 exact⟨Fe (lq xs lo hi) hz,_,(r.drop (HT.sIx xs.length 0 lo)).take (HT.sIx xs.length xs.length hi - HT.sIx xs.length 0 lo),IsTup.new _ _⟩
def Ci (K:Eo):R2:=fun x y H Q=>∃ a b xs ys,x = .ref a/\y = .ref b/\SqT K H a xs/\SqT K H b ys/\xs≠[]/\xs.length+ys.length<=sizeLine ∧
 (ys=[]->Q (.ref a) H)/\(ys≠[]->∀ p,H p=none->Q (.ref p) (upd H p (.tup (xs++ys))))
theorem Vals.qY {xs:List V} {us:List Value} (r:Vals xs us):us=[] ↔ xs=[]:=by
 cases r with
 | nil=>simp
 | cons _ _=>simp
theorem yM:OpR X (Ie .Add) (Ci X.K):=by
 intro pins s σ H x y v u Q I rx ry h
 obtain⟨a,b,xs,ys,rfl,rfl,ha,hb,hx,hz,q1,q2⟩:=h
 cases rx
 cases ry
 obtain⟨its,r1,p1,_⟩:=I.tuple ha
 obtain⟨its2,r2,p2,_⟩:=I.tuple hb
 refine HT.zc p1 p2 (fun z=>hx (r1.qY.mp z)) (fun z=>⟨.ref a,H,I,rfl,q1 (r2.qY.mp z)⟩) (fun z=>?_) (by rw[← r1.length,← r2.length]; exact hz)
 refine⟨.ref s.heap.objs.size,_,I.laid (t':=s.toks) (o:=.tup (xs++ys)) (fun b ob q=>Eh _ q) (Ei _) ?_,rfl,q2 (fun w=>z (r2.qY.mpr w)) _ (I.hok.fresh (Ei _))⟩
 exact⟨by rw[Ec]; exact hz,_,r1.append r2,IsTup.new _ _⟩
end
end L2
namespace L2
open PySem PySem.Spec PyProof.Rows
def ixN (n:Nat) (i:Int):Option Nat:=if 0<=i then (if i < n then some i.toNat else none) else if -(n:Int)<=i then some (i+n).toNat else none
def atI {α:Type} (xs:List α) (i:Int):Option α:=(ixN xs.length i).bind fun j=>xs[j]?
theorem yW {n:Nat} {i:Int} {j:Nat} (h:ixN n i=some j):seqIndex? i n=some j/\j < n/\-(n:Int)<=i/\i < n:=by
 unfold ixN at h
 by_cases h0:0<=i
 ·rw[if_pos h0] at h
  by_cases h1:i < n
  ·rw[if_pos h1] at h
   have e:i.toNat=j:=FW h
   exact⟨by rw[seqIndex_of h0 h1,e],by lia,by lia,h1⟩
  ·rw[if_neg h1] at h; cases h
 ·rw[if_neg h0] at h
  by_cases h1 : -(n:Int)<=i
  ·rw[if_pos h1] at h
   have e:(i+n).toNat=j:=FW h
   exact⟨by rw[seqIndex_neg (by lia) h1,e],by lia,h1,by lia⟩
  ·rw[if_neg h1] at h; cases h
theorem qN {α:Type} {xs:List α} {i:Int} {v:α} (h:atI xs i=some v):∃ j,seqIndex? i xs.length=some j/\xs[j]? = some v/\j < xs.length/\-(xs.length:Int)<=i/\i < xs.length:=by
 unfold atI at h
 cases e:ixN xs.length i with
 | none=>rw[e] at h; cases h
 | some j =>
  rw[e] at h
  obtain⟨h1,h2,h3,h4⟩:=yW e
  exact⟨j,h1,h,h2,h3,h4⟩
theorem iM {α:Type} {xs:List α} {j:Nat} {v:α} (h:xs[j]? = some v):atI xs (j:Int)=some v:=by
 have hj:j < xs.length:=(List.getElem?_eq_some_iff.mp h).1
 have e:ixN xs.length (j:Int)=some j:=by
  unfold ixN
  rw[if_pos (by lia),if_pos (by lia)]; simp
 unfold atI; rw[e]; exact h
def zp (b:Expr):Prop:=∀ o i,subscripted b false o i=operate [o,i] (getItem o i)
def IxR (X:Cx) (r:R2):Prop :=
 ∀ (value slice:Expr) (pins:List (Addr × Hn)) (s:Eg) (σ:St) (H:Hp) (x y:V) (v u:Value) (Q:VK),Inv X pins σ H s->RelV x v->RelV y u->r x y H Q →
  subscripted slice false v u=operate [v,u] (getItem v u)->Eu (Ey X.prog X.w) X.A (subscriptTail value slice v u) (EP X pins σ Q) X.xe s
def MtR (X:Cx) (id:String) (r:V->List V->Hp->VK->Prop):Prop :=
 ∀ (pins:List (Addr × Hn)) (s:Eg) (σ:St) (H:Hp) (x:V) (xs:List V) (v:Value) (us:List Value) (Q:VK),Inv X pins σ H s->RelV x v->Vals xs us->r x xs H Q →
  Eu (Ey X.prog X.w) X.A (call (.builtin id) (v::us)) (EP X pins σ Q) X.xe s
section
variable {X:Cx} {a b:Expr} {ta tb:TE} {pos:JM}
theorem IxR.or {r r':R2} (h:IxR X r) (h':IxR X r'):IxR X (fun x y H Q=>r x y H Q∨r' x y H Q):=by
 intro value slice pins s σ H x y v u Q I rx ry q hs
 rcases q with q | q
 ·exact h value slice pins s σ H x y v u Q I rx ry q hs
 ·exact h' value slice pins s σ H x y v u Q I rx ry q hs
theorem aR {r:R2} (hr:IxR X r) (ha:PE X a ta) (hb:PE X b tb) (hs:zp b):PE X (.Subscript a b pos) (tOp r ta tb):=by
 intro pins s σ H Q I h
 exact Subscript_ (Cr ha hb I h fun v u s2 x y H2 I2 rx ry q=>hr a b pins s2 σ H2 x y v u Q I2 rx ry q (hs _ _))
def gZ (K:Eo):R2:=fun x y H Q=>∃ p xs i v,x = .ref p/\y = .int i/\SqL K H p xs/\atI xs i=some v/\Q v H
def dI (K:Eo):R2:=fun x y H Q=>∃ p xs i v,x = .ref p/\y = .int i/\SqT K H p xs/\atI xs i=some v/\Q v H
def Cm:R2:=fun x y H Q=>∃ z i c,x = .str z/\y = .int i/\z.length<=sizeLine/\atI z.cps.toList i=some c/\Q (.str ⟨#[c]⟩) H
theorem bf:IxR X (gZ X.K):=by
 intro value slice pins s σ H x y v u Q I rx ry h hs
 obtain⟨p,xs,i,z,rfl,rfl,hq,he,q⟩:=h
 cases rx
 obtain⟨t,rfl⟩:=ry
 obtain⟨its,r,pl,hz⟩:=I.list hq
 obtain⟨j,h1,h2,h3,h4,h5⟩:=qN he
 obtain⟨w,ew,rw'⟩:=r.get h2
 have hl:=r.length
 have hn:=pM
 have fin:EP X pins σ Q w s:=⟨z,H,I,rw',q⟩
 by_cases h0:0<=i
 ·have hj:i.toNat=j:=by
   rw[seqIndex_of h0 h5] at h1
   exact FW h1
  exact item_listR pl.isList h0 (by lia) (by rw[hj]; simpa using ew) fin hs
 ·have hj:(i+(its.toArray.size:Int)).toNat=j:=by
   rw[seqIndex_neg (by lia) h4] at h1
   rw[Fb,← hl]
   exact FW h1
  exact subscriptTail_builtinR (x:=w) pl.isList.typeIs slot_list_getitem.lookup
   (wpAny_getItem_list_neg (Q:=fun r s'=>r=w/\EP X pins σ Q r s') pl.isList (by lia) (by rw[Fb] <;> lia) (by lia) (by rw[hj]; simpa using ew) ⟨rfl,fin⟩) hs
theorem aX:IxR X (dI X.K):=by
 intro value slice pins s σ H x y v u Q I rx ry h hs
 obtain⟨p,xs,i,z,rfl,rfl,hq,he,q⟩:=h
 cases rx
 obtain⟨t,rfl⟩:=ry
 obtain⟨its,r,pl,hz⟩:=I.tuple hq
 obtain⟨j,h1,h2,h3,h4,h5⟩:=qN he
 obtain⟨w,ew,rw'⟩:=r.get h2
 have hl:=r.length
 have hn:=pM
 have fin:EP X pins σ Q w s:=⟨z,H,I,rw',q⟩
 exact subscriptTail_builtinR (x:=w) pl.typeIs slot_tuple_getitem.lookup
  (getItem_tuple (j:=j) (Q:=fun r s'=>r=w/\EP X pins σ Q r s') pl (by lia) (by lia) (by rw[Fb,← hl]; exact h1) (by simpa using ew) ⟨rfl,fin⟩) hs
theorem yg:IxR X Cm:=by
 intro value slice pins s σ H x y v u Q I rx ry h hs
 obtain⟨z,i,c,rfl,rfl,hz,he,q⟩:=h
 obtain⟨t,rfl⟩:=rx
 obtain⟨t',rfl⟩:=ry
 obtain⟨j,h1,h2,h3,h4,h5⟩:=qN he
 have hl:z.cps.toList.length=z.length:=by simp [Str.length]
 rw[hl] at h1 h4 h5
 have hn:=pM
 exact tail_any (Jd s z t) slot_str_getitem.lookup (getItem_str (c:=c) (by
  have e1:decide (i < -(2 ^ 63:Int))=false:=decide_eq_false (by lia)
  have e2:decide (i ≥ 2 ^ 63)=false:=decide_eq_false (by lia)
  rw[e1,e2,Bool.or_false]) (by rw[h1]; simpa using h2) ⟨.str ⟨#[c]⟩,H,I.tok _,⟨_,rfl⟩,q⟩) hs
def rIx (K:Eo):R2:=fun x y H Q=>gZ K x y H Q∨dI K x y H Q∨Cm x y H Q
theorem yC:IxR X (rIx X.K):=bf.or (aX.or yg)
theorem oM (lo hi:Option Int) (n:Nat):(Jk lo hi none n).1=((HT.sIx n 0 lo:Nat):Int)/\(Jk lo hi none n).2.1=((HT.sIx n n hi:Nat):Int)/\(Jk lo hi none n).2.2=1:=by
 refine⟨?_,?_,rfl⟩
 ·cases lo with
  | none=>simp [Jk,HT.sIx]
  | some i =>
   simp only[Jk,HT.sIx,Option.getD_none,show (1:Int) > 0 by decide,if_true]
   by_cases h:i < 0
   ·simp only[h,if_true] <;> lia
   ·simp only[h,if_false] <;> lia
 ·cases hi with
  | none=>simp [Jk,HT.sIx]
  | some i =>
   simp only[Jk,HT.sIx,Option.getD_none,show (1:Int) > 0 by decide,if_true]
   by_cases h:i < 0
   ·simp only[h,if_true] <;> lia
   ·simp only[h,if_false] <;> lia
theorem mJ (its:List Value) (lo hi:Option Int):slicePick its.toArray lo hi none=((its.drop (HT.sIx its.length 0 lo)).take (HT.sIx its.length its.length hi - HT.sIx its.length 0 lo)).toArray:=by
 obtain⟨h1,h2,h3⟩:=oM lo hi its.toArray.size
 unfold slicePick
 rw[h1,h2,h3]
 simp only[sliceRange_one,pick_run,Fb] <;> rfl
def CV (K:Eo):V->Option Int->Option Int->Hp->VK->Prop:=fun x lo hi H Q=>∃ a xs,x = .ref a/\SqL K H a xs/\∀ p,H p=none->Q (.ref p) (upd H p (.lst (wD xs lo hi)))
theorem zA:SlR X (CV X.K):=by
 intro pins s σ H x v vl vu lo hi sl Q I rx hs pl pu h
 obtain⟨a,xs,rfl,hx,q⟩:=h
 cases rx
 obtain⟨its,r,ht,hz⟩:=I.list hx
 have hlen:=r.length
 refine⟨"list",_,slot_list_getitem.lookup,ht.isList.typeIs,?_⟩
 refine wpAny_getItem_list_slice ht.isList hs pl pu .none (by simp) ?_ (by rw[Fb] <;> lia)
 rw[mJ,← hlen]
 refine⟨.ref s.heap.objs.size,_,I.laid (t':=s.toks) (o:=.lst (wD xs lo hi)) (fun b ob q=>Eh _ q) (Ei _) ?_,rfl,q _ (I.hok.fresh (Ei _))⟩
 exact⟨Fe (lq xs lo hi) hz,_,0,(r.drop (HT.sIx xs.length 0 lo)).take (HT.sIx xs.length xs.length hi - HT.sIx xs.length 0 lo),Ew _ rfl⟩
def mR:V->Bool
 | .non=>true
 | .bl _=>true
 | .int _=>true
 | .str _=>true
 | _=>false
def eqV:V->V->Bool
 | .non,.non=>true
 | .bl a,.bl b=>a == b
 | .bl a,.int b=>(if a then 1 else 0) == b
 | .int a,.bl b=>a == (if b then 1 else 0)
 | .int a,.int b=>a == b
 | .str a,.str b=>a == b
 | _,_=>false
theorem zR {A:Gd} {s:Eg} {y x:V} {u v:Value} (ry:RelV y u) (rx:RelV x v) (fy:mR y=true) (fx:mR x=true):SeqAt.EqAt A s u v (eqV y x):=by
 cases y with
 | non =>
  cases ry
  cases x with
  | non=>cases rx; exact SeqAt.EqAt.same _
  | bl b=>cases rx; exact SeqAt.EqAt.none_bool b
  | int b=>obtain⟨t,rfl⟩:=rx; exact SeqAt.EqAt.none_int b t
  | str b=>obtain⟨t,rfl⟩:=rx; exact SeqAt.EqAt.none_str b t
  | _=>exact absurd (show false=true from fx) Et
 | bl a =>
  cases ry
  cases x with
  | non=>cases rx; exact SeqAt.EqAt.bool_none a
  | bl b=>cases rx; exact SeqAt.EqAt.bool_bool a b
  | int b=>obtain⟨t,rfl⟩:=rx; exact SeqAt.EqAt.bool_int a b t
  | str b=>obtain⟨t,rfl⟩:=rx; exact SeqAt.EqAt.bool_str a b t
  | _=>exact absurd (show false=true from fx) Et
 | int a =>
  obtain⟨t',rfl⟩:=ry
  cases x with
  | non=>cases rx; exact SeqAt.EqAt.int_none a t'
  | bl b=>cases rx; exact SeqAt.EqAt.int_bool a t' b
  | int b=>obtain⟨t,rfl⟩:=rx; exact SeqAt.EqAt.int_int a t' b t
  | str b=>obtain⟨t,rfl⟩:=rx; exact SeqAt.EqAt.int_str a t' b t
  | _=>exact absurd (show false=true from fx) Et
 | str a =>
  obtain⟨t',rfl⟩:=ry
  cases x with
  | non=>cases rx; exact SeqAt.EqAt.str_none a t'
  | bl b=>cases rx; exact SeqAt.EqAt.str_bool a t' b
  | int b=>obtain⟨t,rfl⟩:=rx; exact SeqAt.EqAt.str_int a t' b t
  | str b=>obtain⟨t,rfl⟩:=rx; exact SeqAt.EqAt.str_str a t' b t
  | _=>exact absurd (show false=true from fx) Et
 | _=>exact absurd (show false=true from fy) Et
def eqU (x:V) (u:Value):Bool:=match u with
 | .none=>eqV .non x
 | .bool b=>eqV (.bl b) x
 | .int i _=>eqV (.int i) x
 | .str z _=>eqV (.str z) x
 | _=>false
theorem yd {x y:V} {u:Value} (r:RelV y u) (f:mR y=true):eqU x u=eqV y x:=by
 cases y with
 | non=>cases r; rfl
 | bl b=>cases r; rfl
 | int i=>obtain⟨t,rfl⟩:=r; rfl
 | str z=>obtain⟨t,rfl⟩:=r; rfl
 | _=>exact absurd (show false=true from f) Et
theorem lg {x:V}:∀ {xs:List V} {us:List Value},Vals xs us->xs.all mR=true->us.any (eqU x)=xs.any fun y=>eqV y x
 | _,_,.nil,_=>rfl
 | y::xs,u::us,.cons r t,f=>by
  rw[Jj,Gg] at f
  rw[List.any_cons,List.any_cons,yd r f.1,lg t f.2]
theorem iY {A:Gd} {s:Eg} {x:V} {v:Value} (rx:RelV x v) (fx:mR x=true):∀ {xs:List V} {us:List Value},Vals xs us->xs.all mR=true->∀ u∈us,SeqAt.EqAt A s u v (eqU x u)
 | _,_,.nil,_=>fun u hu=>by cases hu
 | y::xs,u::us,.cons r t,f=>fun u' hu=>by
  rw[Jj,Gg] at f
  rcases List.mem_cons.mp hu with rfl | hu
  ·rw[yd r f.1]; exact zR r rx f.1 fx
  ·exact iY rx fx t f.2 u' hu
def inV (x:V) (xs:List V):Bool:=xs.any fun y=>eqV y x
def rIn (K:Eo) (neg:Bool):R2:=fun x y H Q=>∃ p xs,y = .ref p/\(SqL K H p xs∨SqT K H p xs)/\mR x=true/\xs.all mR=true/\Q (.bl (if neg then !inV x xs else inV x xs)) H
theorem gq:OpR X (G8 .In) (rIn X.K false):=by
 intro pins s σ H x y v u Q I rx ry h
 obtain⟨p,xs,rfl,hq,fx,fs,q⟩:=h
 cases ry
 rcases hq with hq | hq
 ·obtain⟨its,r,pl,hz⟩:=I.list hq
  refine SeqAt.in_listAt (eqU x) pl.isList (fun w hw=>iY rx fx r fs w (by simpa using hw)) ⟨.bl _,H,I,rfl,?_⟩
  rw[show its.toArray.any (eqU x)=its.any (eqU x) by simp,lg r fs]
  exact q
 ·obtain⟨its,r,pl,hz⟩:=I.tuple hq
  refine SeqAt.in_tupleAt (eqU x) pl (fun w hw=>iY rx fx r fs w (by simpa using hw)) ⟨.bl _,H,I,rfl,?_⟩
  rw[show its.toArray.any (eqU x)=its.any (eqU x) by simp,lg r fs]
  exact q
theorem pI:OpR X (G8 .NotIn) (rIn X.K true):=by
 intro pins s σ H x y v u Q I rx ry h
 obtain⟨p,xs,rfl,hq,fx,fs,q⟩:=h
 cases ry
 rcases hq with hq | hq
 ·obtain⟨its,r,pl,hz⟩:=I.list hq
  refine SeqAt.notIn_listAt (eqU x) pl.isList (fun w hw=>iY rx fx r fs w (by simpa using hw)) ⟨.bl _,H,I,rfl,?_⟩
  rw[show its.toArray.any (eqU x)=its.any (eqU x) by simp,lg r fs]
  exact q
 ·obtain⟨its,r,pl,hz⟩:=I.tuple hq
  refine SeqAt.notIn_tupleAt (eqU x) pl (fun w hw=>iY rx fx r fs w (by simpa using hw)) ⟨.bl _,H,I,rfl,?_⟩
  rw[show its.toArray.any (eqU x)=its.any (eqU x) by simp,lg r fs]
  exact q
theorem oO:fZ X (.builtin "len") (fun xs H Q=>∃ p ys,xs=[.ref p]/\(SqL X.K H p ys∨SqT X.K H p ys)/\Q (.int ys.length) H):=by
 intro pins s σ H xs us Q I r h
 obtain⟨p,ys,rfl,hq,q⟩:=h
 obtain⟨u,rfl,rx⟩:=vals1 r
 cases rx
 have hn:=pM
 rcases hq with hq | hq
 ·obtain⟨its,r',pl,hz⟩:=I.list hq
  have hlen:=r'.length
  exact Calls.call_len_list pl.isList (by simp only[Fb] <;> lia) ⟨.int ys.length,H,I.tok _,⟨s.toks+1,by rw[Fb,hlen]⟩,q⟩
 ·obtain⟨its,r',pl,hz⟩:=I.tuple hq
  have hlen:=r'.length
  exact len_tuple pl (by simp only[Fb] <;> lia) ⟨.int ys.length,H,I.tok _,⟨s.toks+1,by rw[Fb,hlen]⟩,q⟩
theorem jR:fZ X (.builtin "len") (fun xs H Q=>∃ z,xs=[.str z]/\z.length<=sizeLine/\Q (.int z.length) H):=by
 intro pins s σ H xs us Q I r h
 obtain⟨z,rfl,hz,q⟩:=h
 obtain⟨u,rfl,t,rfl⟩:=vals1 r
 have hn:=pM
 exact len_str (by lia) ⟨.int z.length,H,I.tok _,⟨_,rfl⟩,q⟩
theorem oA:fZ X (.type "list") (fun xs H Q=>∃ p ys,xs=[.ref p]/\(SqL X.K H p ys∨SqT X.K H p ys)/\∀ l,H l=none->Q (.ref l) (upd H l (.lst ys))):=by
 intro pins s σ H xs us Q I r h
 obtain⟨p,ys,rfl,hq,q⟩:=h
 obtain⟨u,rfl,rx⟩:=vals1 r
 cases rx
 have fin:∀ (its:List Value),Vals ys its->ys.length<=sizeLine->∀ (h':Gh) (c':Nat),(∀ b o',s.heap.get? b=some o'->h'.get? b=some o') →
   h'.get? s.heap.objs.size=some { cls:=.type "list",dict:=none,data:=.seq its.toArray c',slots:=#[] }->EP X pins σ Q (.ref s.heap.objs.size) { s with heap:=h' }:=fun its r' hz h' c' kp e =>
  ⟨.ref s.heap.objs.size,_,I.laid (t':=s.toks) kp (Ei _) (show eQ X.prog X.w _ h' _ (.lst ys) from ⟨hz,its,c',r',e⟩),rfl,q _ (I.hok.fresh (Ei _))⟩
 rcases hq with hq | hq
 ·obtain⟨its,r',pl,hz⟩:=I.list hq
  have hlen:=r'.length
  obtain⟨o,ho,hc,n,hd⟩:=pl.isList
  exact call_list_seq p (.inl rfl) ho hc hd (fun h' c' kp e=>fin its r' hz h' c' kp e) (by simp only[Fb] <;> lia)
 ·obtain⟨its,r',pl,hz⟩:=I.tuple hq
  have hlen:=r'.length
  obtain⟨o,ho,hc,n,hd⟩:=pl
  exact call_list_seq p (.inr rfl) ho hc hd (fun h' c' kp e=>fin its r' hz h' c' kp e) (by simp only[Fb] <;> lia)
theorem nA:fZ X (.type "tuple") (fun xs H Q=>∃ p ys,xs=[.ref p]/\((SqL X.K H p ys/\∀ l,H l=none->Q (.ref l) (upd H l (.tup ys)))∨(SqT X.K H p ys/\Q (.ref p) H))):=by
 intro pins s σ H xs us Q I r h
 obtain⟨p,ys,rfl,h⟩:=h
 obtain⟨u,rfl,rx⟩:=vals1 r
 cases rx
 rcases h with⟨hq,q⟩ | ⟨hq,q⟩
 ·obtain⟨its,r',pl,hz⟩:=I.list hq
  have hlen:=r'.length
  refine call_tuple_list pl.isList (fun h' kp=>?_) (by simp only[Fb] <;> lia)
  have I1:Inv X pins σ H { s with heap:=h' }:=I.kept (t':=s.toks) kp
  have I2:Inv X pins σ (upd H h'.objs.size (.tup ys)) { s with heap:=h'.push { cls:=.type "tuple",data:=.seq its.toArray } } :=
   I1.laid (t':=s.toks) (fun b o e=>Eh _ e) (Ei _) (show eQ X.prog X.w _ _ _ (.tup ys) from ⟨hz,its,r',IsTup.new _ _⟩)
  exact⟨.ref h'.objs.size,_,I2,rfl,q _ (I1.hok.fresh (Ei _))⟩
 ·obtain⟨its,r',pl,hz⟩:=I.tuple hq
  exact call_tuple_same pl ⟨.ref p,H,I,rfl,q⟩
def tyV (K:Eo) (T:String) (x:V) (H:Hp):Prop:=match x with
 | .str _=>T = "str"
 | .int _=>T = "int"
 | .ref p=>(T = "list"/\∃ xs,SqL K H p xs)∨(T = "tuple"/\∃ o,K.lookup p=some o/\o.cls = .type "tuple"/\o.dict=none) ∨
   (T = "dict"/\((∃ kvs,H p=some (.dK kvs))∨∃ kvs,H p=some (.dT kvs)))∨(T = "set"/\∃ S n,H p=some (.set S n))
 | _=>False
theorem Bh {pins:List (Addr × Hn)} {σ:St} {H:Hp} {s:Eg} {T:String} {x:V} {v:Value} (I:Inv X pins σ H s) (r:RelV x v) (ty:tyV X.K T x H) :
  s.TypeIs v T/\∀ a,v = .ref a->∃ ob,s.heap.get? a=some ob/\ob.dict=none:=by
 cases x with
 | str z =>
  obtain⟨t,rfl⟩:=r
  cases (show T = "str" from ty)
  exact⟨Jd s z t,fun _ e=>nomatch e⟩
 | int i =>
  obtain⟨t,rfl⟩:=r
  cases (show T = "int" from ty)
  exact⟨typeIs_int s i t,fun _ e=>nomatch e⟩
 | ref p =>
  cases r
  rcases ty with⟨rfl,xs,hq⟩ | ⟨rfl,o,hk,hc,hd⟩ | ⟨rfl,hk⟩ | ⟨rfl,S,n,hk⟩
  ·obtain⟨its,_,pl,_⟩:=I.list hq
   refine⟨pl.isList.typeIs,fun a e=>?_⟩
   cases e
   obtain⟨o,n,e,c,hd,_⟩:=pl
   exact⟨o,e,hd⟩
  ·refine⟨⟨o,I.kIn p o hk,hc⟩,fun a e=>?_⟩
   cases e
   exact⟨o,I.kIn _ o hk,hd⟩
  ·have z:∃ o,s.heap.get? p=some o/\o.ExactDict:=by
    rcases hk with⟨kvs,hk⟩ | ⟨kvs,hk⟩
    ·obtain⟨_,_,_,_,o,_,_,e,ex,_⟩:=I.hok p _ hk
     exact⟨o,e,ex⟩
    ·obtain⟨_,_,_,_,o,_,_,e,ex,_⟩:=I.hok p _ hk
     exact⟨o,e,ex⟩
   obtain⟨o,e,ex⟩:=z
   refine⟨⟨o,e,ex.1⟩,fun a e2=>?_⟩
   cases e2
   exact⟨o,e,ex.2.1⟩
  ·obtain⟨o,_,_,_,e,ex,_⟩:=I.hok p _ hk
   refine⟨⟨o,e,ex.1⟩,fun a e2=>?_⟩
   cases e2
   exact⟨o,e,ex.2.1⟩
 | _=>exact HR ty
def tBM (K:Eo) (T:String) (r:V->List V->Hp->VK->Prop) (to:TE) (t:TA):TE:=fun σ H Q=>to σ H fun x H1=>tyV K T x H1/\t σ H1 fun xs H2=>r x xs H2 Q
variable {o e:Expr} {es:List Expr} {to:TE} {t:TA} {name:Str} {apos cpos:JM} {T id:String} {r:V->List V->Hp->VK->Prop}
theorem gD (pa:PlainAttrs T) (slot:Slot T name id) (hty:typeOf (.builtin id)=pure (.type "method_descriptor")) (hm:MtR X id r) (ho:PE X o to) (ha:PA X (e::es) t)
  (hbase:attributeBase o name X.env (Im o X.env)=Im o X.env:=by rfl)
  (hfew:((JK cpos (FZ (e::es) X.env)).all (fun x=>!x.1) && (backToKw cpos (keywordEach [] X.env)).all (fun x=>x.1.isSome)
   && decide ((e::es).length+([]:List Keyword).length+(if ([]:List Keyword).isEmpty then 0 else 1) < 30))=true:=by rfl)
  (hline:(apos.endLine == cpos.line)=true:=by rfl) (hs:FZ (e::es) X.env=(false,Im e X.env)::FZ es X.env:=by rfl) (hplain:(JK cpos (FZ es X.env)).any (·.1)=false:=by rfl) :
  PE X (.Call (.Attribute o name apos) (e::es) [] cpos) (tBM X.K T r to t):=by
 intro pins s σ H Q I h
 refine wpAny_Call_method_late hbase hfew hline rfl (thn (ho pins s σ H _ I h) fun v s1 ⟨x,H1,I1,r1,ty,q1⟩=>?_)
 obtain⟨h1,h2⟩:=Bh I1 r1 ty
 refine⟨T,id,pa,slot,hty,h1,h2,?_⟩
 have hA:=ha cpos pins s1 σ H1 _ I1 q1
 rw[hs] at hA ⊢
 refine Calls.callWith_builtin (by show (false || (JK cpos (FZ es X.env)).any (·.1))=false; rw[hplain] <;> rfl) (Calls.evalArgs_plain ?_)
 exact thn hA fun us s2 ⟨vs,H2,I2,r2,q2⟩=>hm pins s2 σ H2 x vs v us Q I2 r1 r2 q2
/- xs.append(e),list.index on a module's tuple .. are MtR facts of 06m -/
end
end L2
namespace L2
open PySem PySem.Spec PyProof.Rows
def MtM (X:Cx) (id:String) (r:V->List V->Hp->VK->Prop):Prop :=
 ∀ (pins:List (Addr × Hn)) (s:Eg) (σ:St) (H:Hp) (x:V) (xs:List V) (v:Value) (us:List Value) (Q:VK),Inv X pins σ H s->RelV x v->Vals xs us->r x xs H Q →
  Eu (Ey X.prog X.w) X.A (call (.builtin id) (v::us)) (EP X pins σ Q) X.xe s
theorem Vals.one:∀ {x:V} {us:List Value},Vals [x] us->∃ u,us=[u]/\RelV x u
 | _,_,.cons r .nil=>⟨_,rfl,r⟩
section
variable {X:Cx} {pins:List (Addr × Hn)} {σ:St} {H:Hp} {s:Eg} {l b:Addr} {xs ys zs:List V}
theorem Inv.Dv {its its':List Value} {n:Nat} {f:Array Value->Array Value} {t':Nat} (I:Inv X pins σ H s) (hH:H l=some (.lst xs))
  (e:s.heap.get? l=some { cls:=.type "list",data:=.seq its.toArray n }) (hf:f its.toArray=its'.toArray) (hv:Vals ys its') (hz:ys.length<=sizeLine) :
  Inv X pins σ (upd H l (.lst ys)) { s with heap:=s.heap.update l (JW f),toks:=t' }:=by
 have q:=PySem.IsL.update e f
 rw[hf] at q
 refine I.write (x:=l) (e:=l) (by rw[hH]; exact trivial) (.inl rfl) (fun b' u hb hu=>(GX s.heap (JW f) (Jh hb)).trans hu) ⟨_,q⟩ ?_
 exact⟨hz,its',_,hv,q⟩
theorem Inv.Cp {its:List Value} {t':Nat} (I:Inv X pins σ H s) (hv:Vals ys its) (hz:ys.length<=sizeLine) :
  Inv X pins σ (upd H s.heap.objs.size (.lst ys)) { s with heap:=s.heap.push { cls:=.type "list",data:=.seq its.toArray },toks:=t' } :=
 I.laid (fun _ _ q=>Eh _ q) (Ei _) ⟨hz,its,0,hv,Ew _ rfl⟩
theorem Inv.fresh (I:Inv X pins σ H s):H s.heap.objs.size=none:=I.hok.fresh (Ei _)
theorem Inv.Bx (I:Inv X pins σ H s) (hH:H l=some (.lst xs)):xs.length<=sizeLine/\∃ (its:List Value) (n:Nat),Vals xs its/\xs.length=its.length/\s.heap.get? l=some { cls:=.type "list",data:=.seq its.toArray n }:=by
 obtain⟨z,its,n,r,e⟩:=I.hok l _ hH
 exact⟨z,its,n,r,r.length,e⟩
end
section
variable {X:Cx}
def zz:V->List V->Hp->VK->Prop:=fun x vs H Q=>∃ l xs y,x = .ref l/\vs=[y]/\H l=some (.lst xs)/\xs.length < sizeLine/\Q .non (upd H l (.lst (xs++[y])))
theorem eX:MtM X "list.append" zz:=by
 intro pins s σ H x vs v us Q I rx rv h
 obtain⟨l,xs,y,rfl,rfl,hH,hz,q⟩:=h
 cases rx
 obtain⟨u,rfl,ru⟩:=rv.one
 obtain⟨z,its,n,r,hl,e⟩:=I.Bx hH
 refine JR F.slot_list_append ⟨_,e,rfl⟩ F.entry_list_append (F.args_list_append_2 _ _) (PySem.list_append l its.toArray n u (by rw[Fb]; lia)) ⟨e,?_⟩
 refine⟨.non,_,I.Dv (its':=its++[u]) hH e (by simp) (r.append (.cons ru .nil)) ?_,rfl,q⟩
 rw[Ec,Ef]
 lia
def DG:R2:=fun x y H Q=>∃ l b xs zs,x = .ref l/\y = .ref b/\H l=some (.lst xs)/\H b=some (.lst zs)/\xs.length+zs.length<=sizeLine/\∀ p,H p=none->Q (.ref p) (upd H p (.lst (xs++zs)))
theorem yt:OpR X (Ie .Add) DG:=by
 intro pins s σ H x y v u Q I rx ry h
 obtain⟨l,b,xs,zs,rfl,rfl,hH,hB,hz,q⟩:=h
 cases rx
 cases ry
 obtain⟨z,its,n,r,hl,e⟩:=I.Bx hH
 obtain⟨z2,its2,n2,r2,hl2,e2⟩:=I.Bx hB
 refine PySem.P.add_list e e2 ?_ (by rw[Fb,Fb]; lia)
 have ea:its.toArray++its2.toArray=(its++its2).toArray:=by simp
 rw[ea]
 exact⟨.ref _,_,I.Cp (t':=s.toks) (r.append r2) (by rw[Ec]; lia),rfl,q _ I.fresh⟩
end
section
variable {prog:Ft} {w:FP} {A:Gd} {E:Value->Eg->Prop} {s:Eg}
set_option maxRecDepth 100000 in
end
section
variable {X:Cx}
end
end L2
namespace Att
open PySem PySem.W PySem.Calls PyProof.Rows
theorem lJ {P:Params} {h:Gh}:∀ (ns:List Int) (vs:List Value),WellAll P h vs (ns.map WData.int)->Gm vs ns:=by
 intro ns
 induction ns with
 | nil =>
  intro vs w
  rw[List.map_nil] at w
  cases w
  exact .nil
 | cons n ns ih =>
  intro vs w
  rw[Hj] at w
  cases w with
  | cons a b =>
   cases a
   exact .cons _ _ (ih _ b)
theorem vB {l:OpenLaw} {n:Nat} (hn:l.most=some n) {P:Params} {h:Gh} {args:List WData} {vals:List Value}
  (hpre:l.row.toRowW.claim.pre args=true) (hwl:WellAll P h vals args) :
  ∃ a vs ns,vals=[GZ a]/\args=[WData.list (ns.map WData.int)]/\h.get? a=some { cls:=.type "list",data:=.seq vs.toArray }/\Gm vs ns/\ns.length<=n:=by
 have hsh:WShape.hasAll [] args [.list .int]=true:=(pre_splitW hpre).1
 have hc:l.pre.holds [] { args:=args }=true:=(pre_splitW hpre).2
 obtain⟨d,r,rfl,h1,h2⟩:=hasAllW_cons hsh
 obtain rfl:=hasAllW_nil h2
 obtain⟨xs,rfl,h3⟩:=hasW_list h1
 obtain⟨ns,rfl⟩:=items_int h3
 have hlen:ns.length<=n:=by
  unfold OpenLaw.pre at hc
  have h4:(WTm.not (.lt (.lit (.int (n:Int))) (.len (.arg 0)))).holds [] { args:=[.list (ns.map .int)] }=true:=by
   have h4:=(holds_andW hc).1
   rw[hn] at h4
   exact h4
  have h5:=condW_of h4 (w_not (w_lt w_lit (w_len_list (w_arg rfl))))
  rw[Eb] at h5
  refine Nat.le_of_not_lt fun q=>?_
  have q':(n:Int) < ((ns.length:Nat):Int):=by lia
  first
   | (rw[decide_eq_true q'] at h5; exact absurd h5 (by decide))
   | (simp at h5; lia)
 cases hwl with
 | cons w1 w2 =>
  cases w2
  cases w1 with
  | list ho hall=>exact⟨_,_,ns,rfl,rfl,ho,lJ ns _ hall,hlen⟩
theorem u0 (l:OpenLaw) (args:List WData):l.row.toRowW.claim.post args (.bool true) args=true :=
 postW_of (r:=l.row.toRowW) (X:=(true == true))
  (show WShape.has [] (.bool true) .bool=true by first | rfl | decide | simp [WShape.has,WShape.arms,WShape.armsAll])
  (show (WTm.eq .res (.lit (.bool true))).value [] { args:=args,res:=some (.bool true),after:=args }=some (.bool (true == true)) from w_eq_bool (w_res rfl) w_lit) rfl
theorem qJ {l:OpenLaw} {n:Nat} {q:Ft} {loose:List Str} {XP:(Str->Option Value)->Gh->Prop} {YP:FP->Gh->Prop} {d:DefRec}
  (hn:l.most=some n) (hdf:d.params.defaults=[])
  (call:∀ (w:FP) (s₀ s₁:Eg) (mg mb:Str->Option Value) (fa:Addr) (o:Hn) (pm cd doc:Value) (a:Addr) (vs:List Value) (ns:List Int),
   Ground q loose [] XP w s₀ mg mb s₁.heap->YP w s₁.heap →
   s₁.heap.get? fa=some o->o.data = .func (docDef d.name d.params d.body d.scope pm cd doc)->s₁.heap.CodeRec cd d.name->mg d.name=some (.ref fa) →
   s₁.heap.get? a=some { cls:=.type "list",data:=.seq vs.toArray }->Gm vs ns->ns.length<=n->s₁.gens = #[] →
   GQ (Ey l.prog w) Kv (.call (.ref fa) ⟨[.ref a],[]⟩) (fun r s'=>r = .ok (.ret (.bool true))/\OldK s₁.heap s'.heap/\s'.os=s₁.os/\J0 s'.gens) s₁) :
  WalkO q loose XP YP l.row.toRowW d [] (fun f vs=>PySem.call f vs):=by
 intro w s₀ s₁ mg mb G Y fa o pm cd doc dV kV ho hd hcd hD hmg hg args vals as hpre hlay hrd hwl hlo
 obtain rfl:dV = .none:=Dflts.none hD hdf
 obtain rfl:kV = .none:=Dflts.noKw hD
 obtain⟨a,vs,ns,rfl,rfl,hobj,hints,hlen⟩:=vB hn hpre hwl
 refine enter_call (Jt (call w s₀ s₁ mg mb fa o pm cd doc a vs ns G Y ho (fd_plain hd) hcd hmg hobj hints hlen hg) fun r s' hq=>?_)
 obtain⟨rfl,h2,h3,h4⟩:=hq
 exact⟨.inl ⟨.bool true,.bool true,[],rfl,fun _=>rfl,.bool true,u0 l _,fun _=>⟨KJ,fun _ hm=>(nomatch hm)⟩⟩,h2,h3,h4⟩
section
variable {prog:Ft} {w:FP} {A:Gd} {E:Value->Eg->Prop} {s:Eg} {K:Frag}
end
end Att
namespace L2
open PySem PySem.Spec PyProof.Rows
theorem jc:∀ {vs:List Value} {ns:List Int},Gm vs ns->Vals (ns.map V.int) vs
 | _,_,.nil=>.nil
 | _,_,.cons n t h=>.cons ⟨t,rfl⟩ (jc h)
def Only (H:Hp):Prop:=∀ b,H b=none∨∃ o xs,H b=some (.frz o (.lst xs))
theorem wO {P:Ft} {w:FP} {K:Eo} {mg mb:Str->Option Value} {CX:CXT} {k:Nat} {fa a:Addr} {fd:Hy} {x:Str} {sp:Sp} {s₁:Eg} {vs:List Value} {ns:List Int}
  (KX:K.In s₁.heap) (hns:s₁.heap.Ns EY mg) (hb:s₁.heap.Ns builtinsNs mb) (hbb:∀ x:Str,x≠"__name__"->mb x=FJ x) (hlim:s₁.heap.NoLimit) (hg:s₁.gens = #[])
  (ha:s₁.heap.get? a=some { cls:=.type "list",data:=.seq vs.toArray }) (hi:Gm vs ns) (hl:ns.length<=sizeLine) (hr:ou k Kv)
  (F:∀ base:Gh,K.In base->base.Ns EY mg->dw P w K mg base CX k fa fd [x] sp) (hbind:∀ (s:Eg) (u:Value),Ka s fd ⟨[u],[]⟩ [(x,u)])
  (hsp:∀ H:Hp,Only H->SqL K H a (ns.map V.int)->sp [.ref a] H (fun v _=>v = .bl true) fun _ _ _=>False)
  (hCX:∀ H e s',CX [] H s₁ (fun _ _ _=>False) e s'->False) :
  GQ (Ey P w) Kv (.call (.ref fa) ⟨[.ref a],[]⟩) (fun r s'=>r = .ok (.ret (.bool true))/\OldK s₁.heap s'.heap/\s'.os=s₁.os/\J0 s'.gens) s₁:=by
 have rv:=jc hi
 have lenV:=hi.length
 have core:∀ H:Hp,Only H->SqL K H a (ns.map V.int)->HOk P w H s₁.heap->(∀ b,H b≠none->b=a)->(H a≠none->K.lookup a=none) →
   GQ (Ey P w) Kv (.call (.ref fa) ⟨[.ref a],[]⟩) (fun r s'=>r = .ok (.ret (.bool true))/\OldK s₁.heap s'.heap/\s'.os=s₁.os/\J0 s'.gens) s₁:=by
  intro H hO hS hok hA hK
  have base_of:∀ {b:Addr} {o:Hn},s₁.heap.get? b=some o->H b=none->(xG s₁.heap H).get? b=some o:=fun e n=>xP e n
  have noA:∀ {b:Addr} {o:Hn} {es:Array DictEntry} {ep:Nat},s₁.heap.get? b=some o->o.data = .dict es ep->H b=none:=fun {b o es ep} e d=>by
   cases q:H b with
   | none=>rfl
   | some u =>
    have e':b=a:=hA b (by rw[q]; simp)
    subst e'
    rw[ha] at e; cases e
    have d':Data.seq vs.toArray _=Data.dict es ep:=d
    cases d'
  have nsK:∀ {b:Addr} {m:Str->Option Value},s₁.heap.Ns b m->(xG s₁.heap H).Ns b m:=fun {b m} ⟨o,es,ep,e,d,r⟩=>⟨o,es,ep,base_of e (noA e d),d,r⟩
  have hKb:K.In (xG s₁.heap H):=fun b o e=>base_of (KX b o e) (by
   cases q:H b with
   | none=>rfl
   | some u =>
    have e':b=a:=hA b (by rw[q]; simp)
    subst e'
    rw[hK (by rw[q]; simp)] at e; cases e)
  have hM:Mod K mg (xG s₁.heap H):=⟨hKb,nsK hns,⟨mb,nsK hb,hbb⟩,let ⟨mc,h1,h2⟩:=hlim; ⟨mc,nsK h1,h2⟩⟩
  have e0:Br P w K mg (xG s₁.heap H) Kv [] s₁ H:=⟨rfl,hM,fun b o e=>zu e,Nat.le_of_eq (v8 _ _),trivial,fun b hb=>absurd (show b∈([]:List Addr) from hb) (by simp),hok,.of_eq hg⟩
  refine Jt ((F _ hKb (nsK hns)).run Kv [] s₁ H ⟨[.ref a],[]⟩ [.ref a] [.ref a] _ _ hr e0 (hbind s₁ (.ref a)) (.cons rfl .nil) (hsp H hO hS)) fun r s' h=>?_
  cases r with
  | error e=>exact (hCX H e s' h).elim
  | ok fl =>
   cases fl with
   | next=>exact HR h
   | brk=>exact HR h
   | cont=>exact HR h
   | ret u =>
    obtain⟨v,H',os,bare,un,hok',r',q⟩:=h
    have q':v = .bl true:=q
    subst q'
    obtain rfl:u=Value.bool true:=r'
    refine⟨rfl,OldK.of_keep fun b o e=>?_,os,bare⟩
    cases q:H b with
    | none=>exact un.keep b o e q (by intro z; exact absurd (show b∈([]:List Addr) from z) (by simp)) (by simp)
    | some u =>
     rcases hO b with z | ⟨ob,xs,z⟩
     ·rw[q] at z; cases z
     ·have z2:=un.frzs b ob _ z
      obtain⟨e1,_⟩:=hok b _ z
      obtain⟨e2,_⟩:=hok' b _ z2
      rw[e] at e1; cases e1
      exact e2
 cases hk:K.lookup a with
 | some o =>
  have e:=KX a o hk
  rw[ha] at e
  cases e
  refine core (fun _=>none) (fun _=>.inl rfl) (.inr ⟨_,vs.toArray,_,hk,rfl,rfl,rfl,by rw[Fb,lenV]; exact hl,by simpa using rv⟩) (fun b u z=>by have z':(none:Option HO)=some u:=z; cases z') (fun b z=>absurd rfl z) fun z=>absurd rfl z
 | none =>
  refine core (fun b=>if b=a then some (.frz { cls:=.type "list",data:=.seq vs.toArray } (.lst (ns.map V.int))) else none) (fun b=>?_) (.inl (.inr ⟨{ cls:=.type "list",data:=.seq vs.toArray },if_pos rfl⟩)) (fun b u z=>?_) (fun b z=>?_) fun _=>hk
  ·by_cases hb:b=a
   ·exact .inr ⟨_,_,if_pos hb⟩
   ·exact .inl (if_neg hb)
  ·by_cases hb:b=a
   ·have z':=(if_pos hb).symm.trans z
    cases z'
    subst hb
    exact⟨ha,by rw[Eb]; exact hl,vs,_,rv,ha⟩
   ·have z':=(if_neg hb).symm.trans z
    cases z'
  ·by_cases hb:b=a
   ·exact hb
   ·exact absurd (if_neg hb) z
end L2
namespace L2
open PySem PySem.Spec PyProof.Rows
theorem zm {l:PySem.W.OpenLaw} {n k:Nat} {q:Ft} {loose:List Str} {XP:(Str->Option Value)->Gh->Prop} {YP:FP->Gh->Prop} {d:DefRec} {K:Params->Eo} {CX:FP->CXT} {sp:FP->Sp} {x:Str}
  (hn:l.most=some n) (hn2:n<=sizeLine) (hdf:d.params.defaults=[]) (hr:ou k Kv)
  (hY:∀ (w:FP) (h:Gh),YP w h->(K w.params).In h)
  (F:∀ (w:FP) (mg:Str->Option Value) (fa:Addr) (h:Gh),(K w.params).In h->h.Ns EY mg->mg d.name=some (.ref fa) →
   ∃ fd:Hy,(∀ (s:Eg) (u:Value),Ka s fd ⟨[u],[]⟩ [(x,u)]) ∧
    ∀ base:Gh,(K w.params).In base->base.Ns EY mg->dw l.prog w (K w.params) mg base (CX w) k fa fd [x] (sp w))
  (hsp:∀ (w:FP) (H:Hp) (a:Addr) (ns:List Int),ns.length<=n->Only H->SqL (K w.params) H a (ns.map V.int)->sp w [.ref a] H (fun v _=>v = .bl true) fun _ _ _=>False)
  (hCX:∀ (w:FP) (H:Hp) (s:Eg) (e:Value) (s':Eg),CX w [] H s (fun _ _ _=>False) e s'->False) :
  PySem.W.WalkO q loose XP YP l.row.toRowW d [] (fun f vs=>PySem.call f vs):=by
 refine Att.qJ hn hdf fun w s₀ s₁ mg mb fa o pm cd doc a vs ns G Y ho hd hcd hmg hobj hints hlen hg=>?_
 have KX:=hY w _ Y
 obtain⟨fd,hb,hF⟩:=F w mg fa _ KX G.T.g hmg
 exact wO KX G.T.g G.T.b G.T.builtins G.T.nolimit hg hobj hints (Fe hlen hn2) hr hF hb (fun H hO hS=>hsp w H a ns hlen hO hS) fun H e s'=>hCX w H s₁ e s'
end L2
namespace L2
open PySem PySem.Spec PyProof.Rows
def dC (s:Stmt):Arguments:=match s with
 | .FunctionDef _ a _ _ _ _ _ _ _ _=>a
 | _=>{ posonlyargs:=[],args:=[],vararg:=none,kwonlyargs:=[],kw_defaults:=[],kwarg:=none,defaults:=[] }
def dq (s:Stmt):List Stmt:=match s with
 | .FunctionDef _ _ b _ _ _ _ _ _ _=>b
 | _=>[]
def aG (s:Stmt):IV:=match s with
 | .FunctionDef _ _ _ _ _ _ sc _ _ _=>sc
 | _=>{ kind:=.function,names:=[],isGenerator:=false,isCoroutine:=false }
abbrev CX0:CXT:=fun _ _ _ _ _ _=>False
abbrev E0:XK:=fun _ _ _=>False
theorem BP {X:Cx}:Passes CX0 X E0:=fun _ _ _ _ _ _ _ h=>h.elim
structure Fun (K:Eo) (x qual:Str) (st:Stmt) (f:Addr) (fd:Hy):Prop where
 ex:∃ (oc:Value) (od:Option Addr) (kV doc pm:Value) (an:Option Addr) (cdv ct:Value) (osl:Array (Option Value)),
  fd=IW x qual (dC st) (dq st) (aG st) .none kV doc pm an cdv ct/\K.lookup f=some ⟨oc,od,.func fd,osl⟩/\J8 K cdv qual=true
 kp:Jx K (.ref f)=true
section
variable {P:Ft} {w:FP} {K:Eo} {mg:Str->Option Value} {base:Gh}
theorem Fun.ok {x qual:Str} {st:Stmt} {f:Addr} {fd:Hy} {N ps:List Str} {k:Nat} {sp:Sp} (F:Fun K x qual st f fd) (S:aW N ps (aG st)) (len:∀ vs H Q E,sp vs H Q E->vs.length=ps.length)
  (hbody:∀ (cdv:Value) (A:Gd) (outer:List Ls) (s:Eg) (H:Hp) (vs:List V) (Q:VK) (E:XK),ou k (A.deeper (Kl qual (aG st) s.heap.objs.size f cdv))->sp vs H Q E →
   ∃ t,PSs (zE CX0 P w K mg base N qual (aG st) f cdv A outer s H E).nox (dq st) t/\t { nx:=fun _ H'=>Q .non H',rt:=Q } (start N vs) H):dw P w K mg base CX0 (k+1) f fd ps sp:=by
 obtain⟨oc,od,kV,doc,pm,an,cdv,ct,osl,rfl,lk,hcd⟩:=F.ex
 refine Bv lk hcd S len fun A outer s H vs Q E hr hsp=>?_
 obtain⟨t,h,q⟩:=hbody cdv A outer s H vs Q E hr hsp
 exact⟨t,h.nox,q⟩
theorem Fun.binds {x qual:Str} {st:Stmt} {f:Addr} {fd:Hy} {ps:List Str} (F:Fun K x qual st f fd)
  (h:∀ (kV doc pm:Value) (an:Option Addr) (cdv ct:Value) (us:List Value),us.length=ps.length->J6 (IW x qual (dC st) (dq st) (aG st) .none kV doc pm an cdv ct) ⟨us,[]⟩=pure (ps.zip us)):Binds K fd ps []:=by
 obtain⟨oc,od,kV,doc,pm,an,cdv,ct,osl,rfl,lk,hcd⟩:=F.ex
 exact .all (h kV doc pm an cdv ct)
theorem ym {x qual:Str} {st:Stmt} {f:Addr} {oc:Value} {od an:Option Addr} {osl:Array (Option Value)} {kV doc pm cdv ct:Value} (l:K.lookup f=some ⟨oc,od,.func (IW x qual (dC st) (dq st) (aG st) .none kV doc pm an cdv ct),osl⟩)
  (c:J8 K cdv qual=true) (k:Jx K (.ref f)=true):Fun K x qual st f (IW x qual (dC st) (dq st) (aG st) .none kV doc pm an cdv ct):=⟨⟨oc,od,kV,doc,pm,an,cdv,ct,osl,rfl,l,c⟩,k⟩
end
theorem aU {n:Nat} (h:n<=1000):n < sizeLine:=Hu h (by decide)
section
variable {X:Cx}
theorem pv (i:Nat) {x:Str} {pos:JM} (hN:X.N[i]? = some x:=by rfl) (hv:Vis X.env.scope x:=by first | exact Ez rfl | exact Or.inr (Ez rfl) | exact Or.inr (Or.inr rfl)) (hd:(x == ("__debug__" : Str))=false:=by decide)
  (hcd:(x == ("__classdict__" : Str))=false:=by decide):PE X (.Name x pos) (xW i):=Ab hN hv hd hcd
end
theorem cW {A B:Prop} (h:B):if false=true then A else B:=by
 rw[if_neg Et]
 exact h
theorem iV {A B:Prop} (h:A):if true=true then A else B:=by
 rw[if_pos rfl]
 exact h
theorem qL {c A B:Prop} [Decidable c] (h1:c->A) (h2:¬ c->B):if c then A else B:=by
 by_cases h:c
 ·rw[if_pos h]
  exact h1 h
 ·rw[if_neg h]
  exact h2 h
def bu (H H':Hp):Prop:=∀ b o,H b=some o->H' b=some o
theorem bu.refl (H:Hp):bu H H:=fun _ _ h=>h
theorem bu.trans {H H1 H2:Hp} (a:bu H H1) (b:bu H1 H2):bu H H2:=fun c o h=>b c o (a c o h)
theorem bu.free {H H':Hp} (e:bu H H') {l:Addr} (h:H' l=Option.none):H l=Option.none:=by
 cases q:H l with
 | none=>rfl
 | some o =>
  rw[e l o q] at h
  cases h
theorem bu.seq {K:Eo} {H H':Hp} {a:Addr} {xs:List V} (e:bu H H') (h:SqL K H a xs):SqL K H' a xs:=by
 rcases h with (h | ⟨o,h⟩) | h
 ·exact .inl (.inl (e _ _ h))
 ·exact .inl (.inr ⟨o,e _ _ h⟩)
 ·exact .inr h
end L2
set_option maxHeartbeats 4000000
namespace L2
open PySem PySem.Spec PyProof.Rows
theorem uz {env:Ls}:∀ {names:List (Str × Jy)} {x:Str},names.lookup x=some .free →
  (names.map fun (n,k)=>if (k == Gp && env.scope.kind == .function && env.kindOf n == some .cell) then (n,Kf) else (n,k)).lookup x=some .cell ∨
  (names.map fun (n,k)=>if (k == Gp && env.scope.kind == .function && env.kindOf n == some .cell) then (n,Kf) else (n,k)).lookup x=some .free
 | [],_,h=>by simp at h
 | (n,k)::r,x,h=>by
  have ih:=@uz env r x
  rw[Hj]
  cases hx:x == n with
  | true =>
   rw[Fy,hx] at h
   cases h
   by_cases hc:(Gp == Gp && env.scope.kind == .function && env.kindOf n == some .cell)=true
   ·refine .inl ?_
    dsimp only
    rw[if_pos hc,Fy,hx]
   ·refine .inr ?_
    dsimp only
    rw[if_neg hc,Fy,hx]
  | false =>
   rw[Fy,hx] at h
   dsimp only
   by_cases hc:(k == Gp && env.scope.kind == .function && env.kindOf n == some .cell)=true
   ·rw[if_pos hc,Fy,hx]; exact ih h
   ·rw[if_neg hc,Fy,hx]; exact ih h
theorem qG {env:Ls}:∀ {names:List (Str × Jy)} {x:Str} {k':Jy},
  (names.map fun (n,k)=>if (k == Gp && env.scope.kind == .function && env.kindOf n == some .cell) then (n,Kf) else (n,k)).lookup x=some k'->names.lookup x=some k'∨names.lookup x=some .free
 | [],_,_,h=>by simp at h
 | (n,k)::r,x,k',h=>by
  have ih:=@qG env r x k'
  rw[Hj] at h
  dsimp only at h
  cases hx:x == n with
  | true =>
   rw[Fy,hx]
   by_cases hc:(k == Gp && env.scope.kind == .function && env.kindOf n == some .cell)=true
   ·have hk:k = .free:=by
     rw[Gg,Gg] at hc
     exact eq_of_beq hc.1.1
    exact .inr (by rw[hk])
   ·rw[if_neg hc,Fy,hx] at h
    exact .inl h
  | false =>
   rw[Fy,hx]
   by_cases hc:(k == Gp && env.scope.kind == .function && env.kindOf n == some .cell)=true
   ·rw[if_pos hc,Fy,hx] at h; exact ih h
   ·rw[if_neg hc,Fy,hx] at h; exact ih h
theorem qj {env:Ls}:∀ (names:List (Str × Jy)) (acc:List (Str × Addr)),(∀ y∈names,y.2 = .free->∃ c,env.cells.lookup y.1=some c)->(∀ n c,acc.lookup n=some c->env.cells.lookup n=some c) →
  ∃ cl,(forIn names acc (fun (x:Str × Jy) (r:List (Str × Addr))=>(match x with | (name,kind)=>if (kind == Gp)=true then (do let c ← cellOf env name; pure (Ik ((name,c)::r))) else pure (Ik r):Sem (ForInStep (List (Str × Addr))))))=pure cl ∧
   (∀ n c,cl.lookup n=some c->env.cells.lookup n=some c)/\(∀ n c,acc.lookup n=some c->∃ c',cl.lookup n=some c')/\∀ y∈names,y.2 = .free->∃ c,cl.lookup y.1=some c
 | [],acc,_,h=>⟨acc,by rw[List.forIn_nil],h,fun _ c e=>⟨c,e⟩,fun y hy=>by simp at hy⟩
 | (n,k)::r,acc,hf,h=>by
  rw[List.forIn_cons]
  dsimp only
  by_cases hk:(k == Gp)=true
  ·rw[if_pos hk]
   have hk':k = .free:=eq_of_beq hk
   obtain⟨c,hc⟩:=hf (n,k) Ek hk'
   have hc:env.cells.lookup n=some c:=hc
   have ec:cellOf env n=pure c:=by unfold cellOf; rw[hc]
   have h2:∀ m d,((n,c)::acc).lookup m=some d->env.cells.lookup m=some d:=fun m d e=>by
    rw[Fy] at e
    cases hx:m == n with
    | true=>rw[hx] at e; cases e; rw[eq_of_beq hx]; exact hc
    | false=>rw[hx] at e; exact h m d e
   obtain⟨cl,e1,e2,e3,e4⟩:=qj r ((n,c)::acc) (fun y hy=>hf y (En _ hy)) h2
   refine⟨cl,by rw[ec,pure_bind,pure_bind]; exact e1,e2,fun m d e=>?_,fun y hy hyf=>?_⟩
   ·refine (match hx:m == n with | true=>e3 m c (by rw[Fy,hx]) | false=>e3 m d (by rw[Fy,hx]; exact e))
   ·rcases List.mem_cons.mp hy with rfl | hy
    ·exact e3 n c (by rw[Fy,beq_self_eq_true])
    ·exact e4 y hy hyf
  ·rw[if_neg hk]
   obtain⟨cl,e1,e2,e3,e4⟩:=qj r acc (fun y hy=>hf y (En _ hy)) h
   refine⟨cl,by rw[pure_bind]; exact e1,e2,e3,fun y hy hyf=>?_⟩
   rcases List.mem_cons.mp hy with rfl | hy
   ·exact absurd (by rw[show k=Gp from hyf]; rfl) hk
   ·exact e4 y hy hyf
theorem qp {scope:IV} {env:Ls} (h:∀ y∈scope.names,y.2 = .free->∃ c,env.cells.lookup y.1=some c) :
  ∃ cl,closureFor scope env=pure cl/\(∀ n c,cl.lookup n=some c->env.cells.lookup n=some c)/\∀ y∈scope.names,y.2 = .free->∃ c,cl.lookup y.1=some c:=by
 obtain⟨cl,e1,e2,_,e4⟩:=qj scope.names [] h (fun _ _ e=>by simp at e)
 refine⟨cl,?_,e2,e4⟩
 unfold closureFor
 first
  | exact e1
  | (rw[← bind_pure (x:=pure cl),← e1]; rfl)
  | (simp only[bind_pure]; exact e1)
def bj (X:Cx) (scope:IV) (cl:List (Str × Addr)) (C:Addr) (N:List Str) (s:Eg) (H:Hp) (fp:List Addr):Cx :=
 {X with N:=N,s₀:=s,H₀:=H,env:=Ku scope cl C X.env,outer:=X.stack,ex:=fp,fn:=fun _=>false,pn:=[],xe:=fun _ _=>False }
structure kZ (X:Cx) (scope:IV) (F:List Str) (cap:List Nat):Prop where
 kind:scope.kind = .function
 cell:∀ y∈scope.names,y.2≠.cell
 nms:∀ y∈scope.names,y.2 = .local->scope.names.lookup y.1=some .local
 fr:∀ y∈scope.names,y.2 = .free->X.env.kindOf y.1=some .cell∨X.env.kindOf y.1=some .free
 len:cap.length=F.length
 at':∀ (k:Nat) (x:Str),F[k]? = some x->∃ i,cap[k]? = some i/\X.N[i]? = some x/\scope.names.lookup x=some .free
def PTs (X:Cx) (ifs:List Expr) (t:TT):Prop :=
 ∀ (pins:List (Addr × Hn)) (s:Eg) (σ:St) (H:Hp) (Q:Bool->Hp->Prop),Inv X pins σ H s->t σ H Q →
  Eu (Ey X.prog X.w) X.A (forIn ifs true fun c r=>if r=true then do let ok ← isTrue c X.env (Im c X.env); pure (Ik ok) else pure (Ik r)) (TP X pins σ Q) X.xe s
def uc:TT:=fun _ H Q=>Q true H
theorem bU {X:Cx}:PTs X [] uc:=fun _ _ _ H _ I h=>wpAny_tests_nil ⟨H,I,h⟩
theorem tK {prog:Ft} {w:FP} {A:Gd} {R:Result->Eg->Prop} {s:Eg} {elt target iter:Expr} {ifs:List Expr} {scope:IV} {pos:JM} {it acc:Value} {env:Ls} (I:Nat->Eg->Prop)
  (turn:∀ n s,I n s->Eu (Ey prog w) A (Jw it) (fun r s₁=>match r with
   | none=>R (.ok .next) s₁
   | some v=>Eu (Ey prog w) A (G7 target it v) (fun _ s₀=>Eu (Ey prog w) A (J7 target env v) (fun _ s₂ =>
     Eu (Ey prog w) A (forIn ifs true fun c r=>if r=true then do let ok ← isTrue c env (Im c env); pure (Ik ok) else pure (Ik r)) (fun ok s₃ =>
      if ok=true then Eu (Ey prog w) A (Im elt env) (fun x s₄=>Eu (Ey prog w) A (call (.builtin "list.append") [acc,x]) (fun _ s₅=>∃ m,m < n/\I m s₅) (fun _ _=>False) s₄) (fun _ _=>False) s₃
      else ∃ m,m < n/\I m s₃) (fun _ _=>False) s₂) (fun _ _=>False) s₀) (fun _ _=>False) s₁) (fun _ _=>False) s)
  (n:Nat) (h:I n s):GQ (Ey prog w) A (.compLoop (.ListComp elt [⟨target,iter,ifs,0⟩] scope pos) 0 it acc env) R s:=by
 have no:∀ {E:Value->Eg->Prop} (x:Value) (s':Eg),(fun (_:Value) (_:Eg)=>False) x s'->E x s':=fun _ _ z=>z.elim
 refine codeAny_loop rfl I (fun n s hI=>?_) n h
 refine (show Eu (Ey prog w) A ((compTurn (.ListComp elt [⟨target,iter,ifs,0⟩] scope pos) 0 it acc env).onRaise (fun x=>do noteFrame x env; Le x)) _ _ s from wpAny_noted ?_)
 rw[compTurn_list]
 refine Ed (Ia (Ed (Ga (turn n s hI) (fun r s₁ h₁=>?_) no)))
 cases r with
 | none=>exact Ej h₁
 | some v =>
  refine Ed (Ga h₁ (fun _ s₀ h₀=>Ed (Ga h₀ (fun _ s₂ h₂=>Ed (Ga h₂ (fun ok s₃ h₃=>?_) no)) no)) no)
  cases ok with
  | false=>exact Ej ⟨rfl,h₃⟩
  | true=>exact Ed (Ed (Ga h₃ (fun x s₄ h₄=>Ed (Ga h₄ (fun _ s₅ h₅=>Ej (Ej ⟨rfl,h₅⟩)) no)) no))
def eG (D:Addr) (σ0:St) (J:It) (g:TG) (tt:TT) (te:TE) (H1:Hp) (Q:Hp->Prop):Prop :=
 ∃ W:Nat->Nat->List V->St->Hp->Prop,(∃ m,W 0 m [] σ0 (upd H1 D (.lst []))) ∧
  ∀ i m ys σ' H',W i m ys σ' H'->H' D=some (.lst ys)/\((J.stop i H'/\Q H')∨(J.go i H'/\∃ N:List V->St->Hp->Prop,(∀ zs σ2 H2,N zs σ2 H2->∃ m',m' < m/\W (i+1) m' zs σ2 H2) ∧
   ∀ x H2,J.yld i H' x H2->g x σ' H2 fun σ3 H3=>tt σ3 H3 fun b H4=>if b=true then te σ3 H4 fun y H5=>H5 D=some (.lst ys)/\ys.length < sizeLine/\N (ys++[y]) σ3 (upd H5 D (.lst (ys++[y]))) else N ys σ3 H4))
def yl (n:Nat) (cap:List Nat) (σ:St):St:=Gf n none++cap.map fun i=>(σ[i]?).join
def Ce (n:Nat) (cap:List Nat) (wi:TI) (g:TG) (tt:TT) (te:TE):TE:=fun σ H Q=>wi σ H fun J H1=>∀ D,H1 D=none->eG D (yl n cap σ) J g tt te H1 fun H2=>Q (.ref D) H2
section
variable {X:Cx} {elt tg iter:Expr} {ifs:List Expr} {scope:IV} {pos:JM} {L F:List Str} {cap:List Nat} {wi:TI} {g:TG} {tt:TT} {te:TE}
theorem qg {pins:List (Addr × Hn)} {σ:St} {H:Hp} {s:Eg} (I:Inv X pins σ H s) {b:Addr} (h1:b≠X.env.locals) (h2:b ∉ X.fs):b ∉ frs X.stack:=fun z=>(List.mem_cons.mp (I.vA b z)).elim h1 h2
theorem mG {cl:List (Str × Addr)} {pins:List (Addr × Hn)} {σ:St} {H:Hp} {s:Eg} {fp:List Addr} {h₁:Gh} {tk:Nat} (ok:kZ X scope F cap) (I:Inv X pins σ H s) (hfp:∀ b∈fp,pO X pins H b/\b < s.heap.objs.size)
  (sub:∀ n c,cl.lookup n=some c->X.env.cells.lookup n=some c) (all:∀ y∈scope.names,y.2 = .free->∃ c,cl.lookup y.1=some c)
  (ns:h₁.Ns s.heap.objs.size fun _=>none) (kp:∀ b o,s.heap.get? b=some o->h₁.get? b=some o) :
  Inv (bj X scope cl s.heap.objs.size (L++F) s H fp) [] (yl L.length cap σ) H { s with heap:=h₁,toks:=tk }:=by
 have frk:∀ x,scope.names.lookup x=some .free->X.env.kindOf x=some .cell∨X.env.kindOf x=some .free:=fun x e=>ok.fr (x,.free) (Gi e) rfl
 have okX:(bj X scope cl s.heap.objs.size (L++F) s H fp).Ok:=by
  refine⟨I.ok.mod,ok.kind,I.ok.glob,I.ok.blt,Ei _,fun x y c e1 e2=>I.ok.inj x y c (sub x c e1) (sub y c e2),fun x hx=>?_,fun x c hx _=>?_,I.ok.hd,I.ok.frames,.inl rfl,fun b hb=>?_,I.bs,Fe I.ok.bsz I.sz,fun b o e hb=>?_,fun b hb=>?_,I.stack,I.uK⟩
  ·have e:scope.names.lookup x=some .free:=by
    rcases hx with hx | hx
    ·rcases qG (env:=X.env) (show _=some Kf from hx) with e | e
     ·exact absurd rfl (ok.cell _ (Gi e))
     ·exact e
    ·rcases qG (env:=X.env) (show _=some Gp from hx) with e | e <;> exact e
   exact all (x,.free) (Gi e) rfl
  ·exact absurd (show false=true from hx) Et
  ·exact⟨Fl (hfp b hb).2,fun x c e=>(hfp b hb).1.2.2.2.2.1 x c (sub x c e)⟩
  ·obtain⟨_,_,_,f3,_⟩:=(hfp b hb).1
   rcases f3 with z | z
   ·exact I.ok.noex b o e z
   ·exact absurd (Em (Ep e) (Fe I.ok.bsz z)) (GC _)
  ·obtain⟨_,f1,f2,_⟩:=(hfp b hb).1
   exact qg I f1 f2
 refine⟨okX,rfl,I.bare,Un.kept kp,⟨_,ns,fun i x v e1 e2 e3=>?_⟩,fun x c e=>?_,I.hok.fresh (Ei _),fun x c e=>I.freeC x c (sub x c e),fun p hp=>absurd (show p∈([]:List (Addr × Hn)) from hp) (by simp),I.hok.kept kp,?_⟩
 ·have e1:(L++F)[i]? = some x:=e1
  have e2:(Gf L.length none++cap.map fun i=>(σ[i]?).join)[i]? = some (some v):=e2
  have hL:¬ i < L.length:=fun hi=>by
   rw[List.getElem?_append_left (by simpa using hi),List.getElem?_replicate] at e2
   split at e2 <;> cases e2
  have hi:L.length<=i:=Nat.le_of_not_lt hL
  rw[Gq hi] at e1
  rw[Gq (by simpa using hi),G6,Fd] at e2
  obtain⟨j,hj,hN,hk⟩:=ok.at' _ _ e1
  rw[hj] at e2
  have e4:(σ[j]?).join=some v:=by simpa using e2
  have e5:σ[j]? = some (some v):=by
   cases q:σ[j]? with
   | none=>rw[q] at e4; cases e4
   | some a=>rw[q] at e4; exact congrArg some e4
  obtain⟨m,hn,hl⟩:=I.loc
  have kd:=frk x hk
  obtain⟨u,r,lk⟩:=hl j x v hN e5 (kd.elim (fun z=>.inr (.inl z)) fun z=>.inr (.inr z))
  obtain⟨c,hc,hcell⟩:∃ c,X.env.cells.lookup x=some c/\s.heap.IsCell c (some u):=by
   rcases lk with⟨z,_⟩ | ⟨_,c,z1,z2⟩
   ·rcases kd with y | y <;> (rw[y] at z; cases z)
   ·exact⟨c,z1,z2⟩
  obtain⟨c',hc'⟩:=all (x,.free) (Gi hk) rfl
  have ec:c'=c:=by
   have:=sub x c' hc'
   rw[hc] at this
   exact (FW this).symm
  subst ec
  obtain⟨o,ho,hd⟩:=hcell
  exact⟨u,r,.inr ⟨(uz (env:=X.env) hk),c',hc',o,kp _ _ ho,hd⟩⟩
 ·obtain⟨v,o,ho,hd⟩:=I.cell x c (sub x c e)
  exact⟨v,o,kp _ _ ho,hd⟩
 ·show (Gf L.length (none:Option V)++cap.map fun i=>(σ[i]?).join).length=(L++F).length
  rw[Ec,Ec,G6,Eb,ok.len]
theorem sU {cl:List (Str × Addr)} {pins:List (Addr × Hn)} {σ:St} {s2:Eg} {H2:Hp} {it:Addr} {fp:List Addr} {tn:Nat->Gh->Prop} {J:It} {use:Option (Value->Sem Unit)} {QQ:Value->Eg->Prop} {Z:Hp->Prop} {E:Value->Eg->Prop}
  (hc:X.calm=true) (ok:kZ X scope F cap)
  (sub:∀ n c,cl.lookup n=some c->X.env.cells.lookup n=some c) (all:∀ y∈scope.names,y.2 = .free->∃ c,cl.lookup y.1=some c)
  (hg:∀ cl C s H fp,PG (bj X scope cl C (L++F) s H fp) tg g) (ht:∀ cl C s H fp,PTs (bj X scope cl C (L++F) s H fp) ifs tt) (he:∀ cl C s H fp,PE (bj X scope cl C (L++F) s H fp) elt te)
  (I2:Inv X pins σ H2 s2) (T:Turn X.prog X.w X.K tg J fp it tn) (st2:tn 0 s2.heap) (f2:∀ b∈fp,pO X pins H2 b)
  (q2:eG s2.heap.objs.size (yl L.length cap σ) J g tt te H2 Z)
  (fin:∀ (C:Addr) (s':Eg) (H':Hp),Z H'->Inv X pins σ H' s'->(∃ m,s'.heap.Ns C m)->H' C=none->C≠X.env.locals->X.s₀.heap.objs.size<=C->(∀ x c,X.env.cells.lookup x=some c->c≠C)->(∀ p∈X.pn++pins,p.1≠C) →
   JN (Ey X.prog X.w) X.A E use QQ (.ref s2.heap.objs.size) C (.ok .next) s') :
  Eu (Ey X.prog X.w) X.A (newList []) (fun acc s₃=>Eu (Ey X.prog X.w) X.A (newFunctionEnv scope X.env.globals cl [] X.env.qual none .none (some X.env)) (fun cenv s₄ =>
   GQ (Ey X.prog X.w) X.A (.compStart (.ListComp elt [⟨tg,iter,ifs,0⟩] scope pos) 0 (.ref it) acc { cenv with scope:=relabel scope X.env }) (JN (Ey X.prog X.w) X.A E use QQ acc cenv.locals) s₄) E s₃) E s2:=by
 have hD:H2 s2.heap.objs.size=none:=I2.fresh
 refine Fz (wpAny_newFunctionEnv ok.cell (by intro y hy; simp at hy) (fun h₁ hns₁ hsb₁=>?_) ok.kind)
 dsimp only at hns₁ hsb₁ ⊢
 have I3:Inv X pins σ (upd H2 s2.heap.objs.size (.lst [])) { s2 with heap:=s2.heap.push { cls:=.type "list",data:=.seq ([]:List Value).toArray } }:=I2.Cp (t':=s2.toks) (ys:=[]) (its:=[]) .nil (Fq _)
 have blt:∀ b∈fp,b < s2.heap.objs.size:=fun b hb=>let ⟨_,e,_⟩:=T.obj 0 _ st2 b hb; Ep e
 have szC:(s2.heap.push { cls:=.type "list",data:=.seq ([]:List Value).toArray }).objs.size=s2.heap.objs.size+1:=Hq _ _
 generalize hs3:({ s2 with heap:=s2.heap.push { cls:=.type "list",data:=.seq ([]:List Value).toArray } }:Eg)=s3 at I3
 have es3:s3.heap=s2.heap.push { cls:=.type "list",data:=.seq ([]:List Value).toArray }:=by rw[← hs3]
 have eos:s3.os=s2.os:=by rw[← hs3]
 have fok:∀ b∈fp,pO X pins (upd H2 s2.heap.objs.size (.lst [])) b/\b < s3.heap.objs.size:=fun b hb=>by
  obtain⟨f0,fr⟩:=f2 b hb
  refine⟨⟨by rw[cB (Fl (blt b hb))]; exact f0,fr⟩,?_⟩
  rw[es3,szC]
  exact Hh (blt b hb)
 have hkp:∀ b o,s3.heap.get? b=some o->h₁.get? b=some o:=fun b o e=>by
  have e':b < s3.heap.objs.size:=Ep e
  rw[es3] at e e'
  exact (hsb₁.2 b (Fl e')).trans (Eh _ e)
 have hns:h₁.Ns s3.heap.objs.size fun _=>none:=by
  rw[es3]
  exact hns₁
 have I4:∀ tk,Inv (bj X scope cl s3.heap.objs.size (L++F) s3 (upd H2 s2.heap.objs.size (.lst [])) fp) [] (yl L.length cap σ) (upd H2 s2.heap.objs.size (.lst [])) { s3 with heap:=h₁,toks:=tk }:=fun tk =>
  mG (L:=L) ok I3 fok sub all hns hkp
 have stat:∀ {H':Hp},(∀ b∈fp,H' b=none)->∀ b∈fp,pO (bj X scope cl s3.heap.objs.size (L++F) s3 (upd H2 s2.heap.objs.size (.lst [])) fp) [] H' b:=fun {H'} hn b hb=>by
  obtain⟨⟨_,g1,g2,g3,g4,g5⟩,g6⟩:=fok b hb
  exact⟨hn b hb,Fl g6,qg I3 g1 g2,.inl hb,fun x c e=>g4 x c (sub x c e),fun p hp=>absurd (show p∈([]:List (Addr × Hn)) from hp) (by simp)⟩
 have loop:∀ tk,GQ (Ey X.prog X.w) X.A (.compLoop (.ListComp elt [⟨tg,iter,ifs,0⟩] scope pos) 0 (.ref it) (.ref s2.heap.objs.size) (Ku scope cl s3.heap.objs.size X.env))
   (JN (Ey X.prog X.w) X.A E use QQ (.ref s2.heap.objs.size) s3.heap.objs.size) { s3 with heap:=h₁,toks:=tk }:=fun tk=>by
  obtain⟨W,⟨m0,w0⟩,turn⟩:=q2
  have st3:tn 0 h₁:=T.keep 0 _ _ st2 fun b hb o e=>hkp b o (by rw[es3]; exact Eh _ e)
  refine tK (fun n s'=>∃ i ys σ' H',Inv (bj X scope cl s3.heap.objs.size (L++F) s3 (upd H2 s2.heap.objs.size (.lst [])) fp) [] σ' H' s'/\tn i s'.heap/\(∀ b∈fp,H' b=none)/\W i n ys σ' H') ?_ m0
   ⟨0,[],_,_,I4 tk,st3,fun b hb=>(fok b hb).1.1,w0⟩
  rintro n s5 ⟨i,ys,σ5,H5,I5,st5,fr5,w5⟩
  obtain⟨hDl,alt⟩:=turn i n ys σ5 H5 w5
  rcases alt with⟨stop,qz⟩ | ⟨go,N,hN,step⟩
  ·refine thn (T.done (bj X scope cl s3.heap.objs.size (L++F) s3 (upd H2 s2.heap.objs.size (.lst [])) fp) rfl rfl rfl hc i [] s5 σ5 H5 _ I5 (stat fr5) st5 stop) fun r s6 ⟨hr,I6⟩=>?_
   subst hr
   have un:Un (frs X.stack) fp H2 H5 s2.heap s6.heap:=by
    have u1:Un (frs X.stack) fp H2 (upd H2 s2.heap.objs.size (.lst [])) s2.heap s3.heap:=by
     rw[es3]
     exact Un.laid (fun _ _ q=>Eh _ q) (Ei _) hD
    exact u1.trans I6.base
   have J1:Inv X pins σ H5 s6:=I2.call' (I6.os.trans eos) un I6.hok I6.bare fun b hb=>by
    obtain⟨_,g1,_,g3,g4,g5⟩:=f2 b hb
    exact⟨g3,g1,g4,g5⟩
   have hC:s2.heap.objs.size<=s3.heap.objs.size:=by rw[es3,szC]; exact Hi _
   obtain⟨m,hm,_⟩:=I6.loc
   refine fin s3.heap.objs.size s6 H5 qz J1 ⟨m,hm⟩ I6.free (Ja (Em I2.lt hC)) (Fe I2.sz hC) (fun x c e z=>?_) (fun p hp z=>?_)
   ·obtain⟨v,q⟩:=I2.cell x c e
    exact absurd (Em q.lt (by rw[z]; exact hC)) (GC _)
   ·exact absurd (Em (Ep (I2.pin p hp).1) (by rw[z]; exact hC)) (GC _)
  ·refine thn (T.item (bj X scope cl s3.heap.objs.size (L++F) s3 (upd H2 s2.heap.objs.size (.lst [])) fp) rfl rfl rfl hc i [] s5 σ5 H5 _ I5 (stat fr5) st5 go) fun r s6 ⟨u,hr,h6⟩=>?_
   subst hr
   refine thn h6 fun _ s7 ⟨x,H7,I7,r7,y7,st7,fr7⟩=>?_
   have I7':=I7.pinned (stat fr7) (T.obj _ _ st7)
   refine thn (hg _ _ _ _ _ _ s7 σ5 H7 x u _ I7' r7 (step x H7 y7)) fun _ s8 ⟨σ8,H8,I8,q8⟩=>?_
   have Kc:∀ {σ9:St} {H9:Hp} {s9:Eg} {zs:List V},Inv (bj X scope cl s3.heap.objs.size (L++F) s3 (upd H2 s2.heap.objs.size (.lst [])) fp) ([]++jT fp s7.heap) σ9 H9 s9->N zs σ9 H9 →
     ∃ m,m < n/\∃ i ys σ' H',Inv (bj X scope cl s3.heap.objs.size (L++F) s3 (upd H2 s2.heap.objs.size (.lst [])) fp) [] σ' H' s9/\tn i s9.heap/\(∀ b∈fp,H' b=none)/\W i m ys σ' H':=fun {σ9 H9 s9 zs} I9 n9=>by
    obtain⟨m',hm,w9⟩:=hN zs σ9 H9 n9
    refine⟨m',hm,i+1,zs,σ9,H9,I9.gO,T.keep _ _ _ st7 fun b hb o e=>(I9.pin (b,o) (Es _ (Es _ (cL hb e)))).1,fun b hb=>?_,w9⟩
    obtain⟨o,e,d⟩:=T.obj _ _ st7 b hb
    exact (I9.pin (b,o) (Es _ (Es _ (cL hb e)))).2.1
   refine thn (ht _ _ _ _ _ _ s8 σ8 H8 _ I8 q8) fun okb s9 ⟨H9,I9,q9⟩=>?_
   cases okb with
   | false =>
    rw[if_neg Et] at q9 ⊢
    exact Kc I9 q9
   | true =>
    rw[if_pos rfl] at q9 ⊢
    refine thn (he _ _ _ _ _ _ s9 σ8 H9 _ I9 q9) fun y s10 ⟨yv,H10,I10,r10,e10,z10,n10⟩=>?_
    refine thn (eX _ s10 σ8 H10 (.ref s2.heap.objs.size) [yv] (.ref s2.heap.objs.size) [y] (fun _ H'=>N (ys++[yv]) σ8 H') I10 rfl (.cons r10 .nil) ⟨_,ys,yv,rfl,rfl,e10,z10,n10⟩) fun _ s11 ⟨_,H11,I11,_,n11⟩=>?_
    exact Kc I11 n11
 have eC:(s2.heap.push { cls:=.type "list",data:=.seq ([]:List Value).toArray }).objs.size=s3.heap.objs.size:=by rw[es3]
 have goal:∀ tk,GQ (Ey X.prog X.w) X.A (.compStart (.ListComp elt [⟨tg,iter,ifs,0⟩] scope pos) 0 (.ref it) (.ref s2.heap.objs.size) (Ku scope cl s3.heap.objs.size X.env))
   (JN (Ey X.prog X.w) X.A E use QQ (.ref s2.heap.objs.size) s3.heap.objs.size) { s3 with heap:=h₁,toks:=tk }:=fun tk =>
  codeAny_compStart_list (loop tk) (T.self _ 0 _ _ _ (T.keep 0 _ _ st2 fun b hb o e=>hkp b o (by rw[es3]; exact Eh _ e)) (loop tk))
 have g0:=goal (s2.toks+([]:List (Str × Value)).length)
 subst hs3
 exact g0
theorem cg (hc:X.calm=true) (ok:kZ X scope F cap) (hi:PI X tg iter wi)
  (hg:∀ cl C s H fp,PG (bj X scope cl C (L++F) s H fp) tg g) (ht:∀ cl C s H fp,PTs (bj X scope cl C (L++F) s H fp) ifs tt) (he:∀ cl C s H fp,PE (bj X scope cl C (L++F) s H fp) elt te)
  (hs:∀ x,GF iter X.env x=pure x:=by intro _; rfl):PE X (.ListComp elt [⟨tg,iter,ifs,0⟩] scope pos) (Ce L.length cap wi g tt te):=by
 intro pins s σ H Q I h
 obtain⟨cl,e1,e2,e3⟩:=qp (scope:=scope) (env:=X.env) (fun y hy hf=>I.ok.has _ (ok.fr y hy hf))
 rw[eval_ListComp]
 refine JG (use:=none) rfl hs e1 ok.kind ok.nms (thn (hi pins s σ H _ I h) fun v s1 h1=>thn h1 fun itv s2 h2=>?_)
 obtain⟨it,fp,tn,J,H2,e,I2,T,st2,f2,q2⟩:=h2
 subst e
 refine sU (Z:=fun H'=>Q (.ref s2.heap.objs.size) H') hc ok e2 e3 hg ht he I2 T st2 f2 (q2 _ I2.fresh) fun C s' H' z J m hCf hCl hCs hCc hCp=>?_
 ·obtain⟨m,hm⟩:=m
  exact⟨m,hm,fun h' hs'=>⟨.ref _,H',J.turned (t':=s'.toks) (fun b o hb e=>(hs'.2 b hb).trans e) hCf hCl (.inr hCs) hCc hCp,rfl,z⟩⟩
def Aq (n:Nat) (cap:List Nat) (wi:TI) (g:TG) (tt:TT) (te:TE) (j:Nat):TS:=fun D σ H=>wi σ H fun J H1=>∀ d,H1 d=none->eG d (yl n cap σ) J g tt te H1 fun H2=>D.nx (σ.set j (some (.ref d))) H2
theorem wA {j:Nat} {y:Str} {py spos:JM} (hN:X.N.Nodup) (hj:X.N[j]? = some y) (hy:Loc X.env.scope y) (hc:X.calm=true) (ok:kZ X scope F cap) (hi:PI X tg iter wi)
  (hg:∀ cl C s H fp,PG (bj X scope cl C (L++F) s H fp) tg g) (ht:∀ cl C s H fp,PTs (bj X scope cl C (L++F) s H fp) ifs tt) (he:∀ cl C s H fp,PE (bj X scope cl C (L++F) s H fp) elt te)
  (hsw:swapsWith (.ListComp elt [⟨tg,iter,ifs,0⟩] scope pos) (some (.Name y py)) spos.line X.env=pure true:=by rfl)
  (hs:∀ x,GF iter X.env x=pure x:=by intro _; rfl) (hf:X.fn y=true∨X.env.scope.names.lookup y=some .local:=by first | exact .inl rfl | exact .inr rfl | assumption) :
  PS X (.Assign [.Name y py] (.ListComp elt [⟨tg,iter,ifs,0⟩] scope pos) spos) (Aq L.length cap wi g tt te j):=by
 intro pins s σ H D I h
 obtain⟨cl,e1,e2,e3⟩:=qp (scope:=scope) (env:=X.env) (fun y hy hf=>I.ok.has _ (ok.fr y hy hf))
 rw[exec_Assign_Name_used _ _ _ _ hsw]
 refine Ed (Ia (Ed ?_))
 show Eu (Ey X.prog X.w) X.A (do let _ ← comprehension (.ListComp elt [⟨tg,iter,ifs,0⟩] scope pos) scope X.env _ (newList []) false (Im iter X.env) (some (J7 (.Name y py) X.env))) _ _ s
 refine Ed (Ga (JG (use:=some (J7 (.Name y py) X.env)) (Q:=fun _ s'=>SP X pins D .next s') rfl hs e1 ok.kind ok.nms
  (thn (hi pins s σ H _ I h) fun v s1 h1=>thn h1 fun itv s2 h2=>?_)) (fun _ s' hq=>Ej (Ej hq)) fun _ _ e=>e)
 obtain⟨it,fp,tn,J,H2,e,I2,T,st2,f2,q2⟩:=h2
 subst e
 refine sU (Z:=fun H'=>D.nx (σ.set j (some (.ref s2.heap.objs.size))) H') hc ok e2 e3 hg ht he I2 T st2 f2 (q2 _ I2.fresh) fun C s' H' z J m hCf hCl hCs hCc hCp=>?_
 obtain⟨m,hm⟩:=m
 refine wpAny_assign_Name (o8 J hN hj hy (v:=.ref s2.heap.objs.size) rfl (fun s5 I5 hs5=>?_) hf)
 obtain⟨a,sb,ha⟩:=hs5
 have hne:C≠a:=by
  rcases ha with rfl | ha
  ·exact hCl
  ·exact Jh (hCc y a ha)
 exact⟨m,hm.sameBut sb hne,fun h' hs'=>⟨_,H',I5.turned (t':=s5.toks) (fun b o hb e=>(hs'.2 b hb).trans e) hCf hCl (.inr hCs) hCc hCp,z⟩⟩
end
end L2
namespace L2
open PySem PySem.Spec PyProof.Rows
structure Df (P:Ft) (w:FP) (K:Eo) (mg:Str->Option Value) (base:Gh) (x:Str) (k:Nat) (ps:List Str) (sp:Sp):Prop where
 ex:∃ (f:Addr) (fd:Hy),dw P w K mg base CX0 k f fd ps sp/\mg x=some (.ref f)/\Jx K (.ref f)=true/\Binds K fd ps []
section
variable {X:Cx} {k j:Nat} {x:Str} {ps:List Str} {sp:Sp} {p pos:JM} {e:Expr} {es:List Expr} {t:TA}
theorem aV (D:Df X.prog X.w X.K X.mg X.base x k ps sp) (hr:ou j X.A) (ha:PA X (e::es) t) (hk:k<=j:=by first | decide | exact Ei _ | lia) (hg:Gl X x:=by rfl)
  (hdb:(x == ("__debug__" : Str))=false:=by decide) (he:FZ (e::es) X.env=(false,Im e X.env)::FZ es X.env:=by rfl) (hpl:(JK pos (FZ es X.env)).any (·.1)=false:=by rfl) :
  PE X (.Call (.Name x p) (e::es) [] pos) (uX sp [] E0 t):=by
 obtain⟨f,fd,F,hm,hkp,hb⟩:=D.ex
 exact yP F (hr.mono hk) hg hm hkp hb .nil BP ha hdb he hpl
theorem jm {i:Int} {tk:K3} (hm:X.mg x=some (.int i tk)) (hg:Gl X x:=by rfl) (hd:(x == ("__debug__" : Str))=false:=by decide):PE X (.Name x pos) (tC (.int i)):=uM hg hm ⟨_,rfl⟩ hd
theorem gC {T:String} (hm:X.mg x=none) (hv:FJ x=some (.type T)) (hg:Gl X x:=by rfl) (hn:x≠"__name__":=by decide) (hd:(x == ("__debug__" : Str))=false:=by decide):PE X (.Name x pos) (tC (.ty T)):=zr hg hm hv rfl hn hd
def n8 (K:FT):List V->Hp->VK->Prop:=fun xs H Q=>∃ (x:V) (T:String) (t:Value) (b:Bool),xs=[x,.ty T]/\uh K H x t/\HJ K t (.type T)=some b/\Q (.bl b) H
theorem bN:fZ X (.builtin "isinstance") (n8 X.K):=by
 intro pins s σ H xs us Q I r h
 obtain⟨x,T,t,b,rfl,ty,e,q⟩:=h
 obtain⟨u,v,rfl,ru,rv⟩:=vals2 r
 cases (show v=Io T from rv)
 exact vO I ru ty e fun tk=>⟨.bl b,H,I.tok tk,rfl,q⟩
def oh (K:FT):List V->Hp->VK->Prop:=fun xs H Q=>∃ (p:Addr) (ys:List V),xs=[.ref p]/\(SqL K H p ys∨SqT K H p ys)/\Q (.int ys.length) H
theorem bA:fZ X (.builtin "len") (oh X.K):=oO
def vM (K:FT):List V->Hp->VK->Prop:=fun xs H Q=>∃ (p:Addr) (ys:List V),xs=[.ref p]/\(SqL K H p ys∨SqT K H p ys)/\∀ l,H l=none->Q (.ref l) (upd H l (.lst ys))
theorem tX:fZ X (.type "list") (vM X.K):=oA
def gF (K:FT):List V->Hp->VK->Prop:=fun xs H Q=>∃ (p:Addr) (ys:List V),xs=[.ref p]/\((SqL K H p ys/\∀ l,H l=none->Q (.ref l) (upd H l (.tup ys)))∨(SqT K H p ys/\Q (.ref p) H))
theorem bO:fZ X (.type "tuple") (gF X.K):=nA
theorem gQ:∀ bs:List Bool,(Gx bs.length).all (fun i=>bs.getD i true)=bs.all fun b=>b
 | []=>rfl
 | b::r=>by
  have ih:=gQ r
  rw[El,List.range_succ_eq_map,Jj,List.all_map,Jj,← ih]
  rfl
def wF (K:FT):List V->Hp->VK->Prop:=fun xs H Q=>∃ (p:Addr) (bs:List Bool),xs=[.ref p]/\SqL K H p (bs.map V.bl)/\Q (.bl (bs.all fun b=>b)) H
theorem km (hc:X.calm=true):fZ X (.builtin "all") (wF X.K):=by
 intro pins s σ H xs us Q I r h
 obtain⟨p,bs,rfl,hq,q⟩:=h
 obtain⟨u,rfl,ru⟩:=vals1 r
 cases ru
 obtain⟨its,rv,pl,hz⟩:=I.list hq
 have hlen:bs.length=its.length:=by simpa using rv.length
 refine call_all_walk (Kr pl.isList ?_)
 have I1:Inv X pins σ H { s with heap:=s.heap.push { cls:=.type "list_iterator",data:=.fields #[.ref p,.int 0 0] } }:=I.kept (t':=s.toks) fun b o e=>Eh _ e
 have hne:p≠s.heap.objs.size:=by
  obtain⟨o,ho,_⟩:=pl.isList
  exact Fl (Ep ho)
 refine⟨s.heap.objs.size,_,_,_,_,_,fun i=>bs.getD i true,rfl,Walks.list (A:=X.A.in1) (I.ok.hd hc) s.heap.objs.size p hne its.toArray,⟨⟨_,Ew _ rfl,rfl,rfl⟩,?_⟩,?_,fun h' tk hk=>?_⟩
 ·obtain⟨o,ho,hr⟩:=pl.isList
  exact⟨o,Eh _ ho,hr⟩
 ·intro i v s' Q' E' hP hQ
  have hP:its[i]? = some v:=by simpa using hP
  have hi:i < bs.length:=by
   rw[hlen]
   exact (List.getElem?_eq_some_iff.mp hP).1
  obtain⟨u',hu',ru'⟩:=rv.get (i:=i) (x:=V.bl bs[i]) (by rw[Fd,Ff hi]; rfl)
  rw[hP] at hu'
  cases hu'
  cases (show v=Value.bool bs[i] from ru')
  refine HF ?_
  have eg:bs.getD i true=bs[i]:=by rw[Gr,Ff hi]; rfl
  have hQ':Q' (bs.getD i true) s':=hQ
  rw[eg] at hQ'
  exact hQ'
 ·have f:=I.zq (b:=s.heap.objs.size) (H':=H) (Ei _) I.fresh
  have eall:(Gx its.toArray.size).all (fun i=>bs.getD i true)=bs.all fun b=>b:=by
   have el:its.toArray.size=bs.length:=by rw[Fb,hlen]
   rw[el]
   exact gQ bs
  rw[eall]
  exact⟨.bl _,H,I1.turned (t':=tk) (it:=s.heap.objs.size) (fun b o hb e=>hk b o (by simpa using hb) e) f.1 f.2.1 f.2.2.2.1 f.2.2.2.2.1 f.2.2.2.2.2,rfl,q⟩
end
end L2
namespace L2
open PySem PySem.Spec PyProof.Rows
def uE (osc:IV) (oN:List Str) (sc:IV) (F:List Str) (cap:List Nat):Bool :=
 decide (sc.kind = .function) && sc.names.all (fun y=>!decide (y.2 = .cell)) && sc.names.all (fun y=>!decide (y.2 = .local) || decide (sc.names.lookup y.1=some .local)) &&
 sc.names.all (fun y=>!decide (y.2 = .free) || decide (osc.names.lookup y.1=some .cell) || decide (osc.names.lookup y.1=some .free)) && decide (cap.length=F.length) &&
 (Gx F.length).all fun k=>(decide (F[k]? = none) || decide ((cap[k]?.bind fun i=>oN[i]?)=F[k]?)) && decide ((F[k]?.bind fun x=>sc.names.lookup x)=some .free)
theorem bR {X:Cx} {osc sc:IV} {oN F:List Str} {cap:List Nat} (ho:X.env.scope=osc) (hN:X.N=oN) (h:uE osc oN sc F cap=true):kZ X sc F cap:=by
 unfold uE at h
 simp only[Gg] at h
 obtain⟨⟨⟨⟨⟨h1,h2⟩,h3⟩,h4⟩,h5⟩,h6⟩:=h
 refine⟨of_decide_eq_true h1,fun y hy e=>?_,fun y hy e=>?_,fun y hy e=>?_,of_decide_eq_true h5,fun k x e=>?_⟩
 ·have:=List.all_eq_true.mp h2 y hy
  rw[e] at this
  exact absurd this (by decide)
 ·have:=List.all_eq_true.mp h3 y hy
  rw[decide_eq_true e] at this
  exact of_decide_eq_true (by simpa using this)
 ·have:=List.all_eq_true.mp h4 y hy
  rw[decide_eq_true e] at this
  have z:decide (osc.names.lookup y.1=some .cell)=true∨decide (osc.names.lookup y.1=some .free)=true:=by
   rw[Bool.not_true,Bool.false_or,Lk] at this
   exact this
  show X.env.scope.names.lookup y.1=_∨X.env.scope.names.lookup y.1=_
  rw[ho]
  exact z.elim (fun q=>.inl (of_decide_eq_true q)) fun q=>.inr (of_decide_eq_true q)
 ·have hk:k < F.length:=(List.getElem?_eq_some_iff.mp e).1
  have q:=List.all_eq_true.mp h6 k (List.mem_range.mpr hk)
  rw[e,Gg] at q
  obtain⟨q1,q2⟩:=q
  have q1:(cap[k]?.bind fun i=>oN[i]?)=some x:=by
   rw[Lk] at q1
   rcases q1 with z | z
   ·exact absurd (of_decide_eq_true z) (by simp)
   ·exact of_decide_eq_true z
  have q2:sc.names.lookup x=some .free:=of_decide_eq_true q2
  cases hc:cap[k]? with
  | none=>rw[hc] at q1; cases q1
  | some i =>
   rw[hc] at q1
   exact⟨i,rfl,by rw[hN]; exact q1,q2⟩
theorem bD {X:Cx} {scope:IV} {cl:List (Str × Addr)} {C:Addr} {N:List Str} {s:Eg} {H:Hp} {fp:List Addr} (h:N.Nodup):(bj X scope cl C N s H fp).N.Nodup:=h
section
variable {K:FT} {a D:Addr} {xs:List V} {g:TG} {tt:TT} {te:TE} {H1:Hp} {Q:Hp->Prop} {σ0:St}
theorem cY (Pv:Nat->List V->St->Hp->Prop) (h0:Pv 0 [] σ0 (upd H1 D (.lst []))) (hl:∀ i ys σ H,i<=xs.length->Pv i ys σ H->SqT K H a xs/\H D=some (.lst ys))
  (hs:∀ i ys x σ H,xs[i]? = some x->Pv i ys σ H->g x σ H fun σ3 H3=>tt σ3 H3 fun b H4=>if b=true then te σ3 H4 fun y H5=>H5 D=some (.lst ys)/\ys.length < sizeLine/\Pv (i+1) (ys++[y]) σ3 (upd H5 D (.lst (ys++[y]))) else Pv (i+1) ys σ3 H4)
  (hd:∀ ys σ H,Pv xs.length ys σ H->Q H):eG D σ0 (Itt K a) g tt te H1 Q:=by
 refine⟨fun i m ys σ H=>m=xs.length - i/\i<=xs.length/\Pv i ys σ H,⟨xs.length,by simp,Fq _,h0⟩,?_⟩
 rintro i m ys σ H ⟨rfl,hi,p⟩
 obtain⟨q,qD⟩:=hl i ys σ H hi p
 refine⟨qD,?_⟩
 by_cases hlt:i < xs.length
 ·refine .inr ⟨⟨xs,xs[i],q,by simp [hlt]⟩,Pv (i+1),fun zs σ' H' p'=>⟨xs.length - (i+1),by lia,rfl,hlt,p'⟩,fun x H' y=>?_⟩
  obtain⟨e,y⟩:=y
  subst e
  exact hs i ys x σ _ (y xs q) p
 ·have e:i=xs.length:=by lia
  subst e
  exact .inl ⟨⟨xs,q,Ei _⟩,hd ys σ H p⟩
theorem gB (Pv:Nat->List V->St->Hp->Prop) (h0:Pv 0 [] σ0 (upd H1 D (.lst []))) (hl:∀ i ys σ H,i<=xs.length->Pv i ys σ H->SqL K H a xs/\H D=some (.lst ys))
  (hs:∀ i ys x σ H,xs[i]? = some x->Pv i ys σ H->g x σ H fun σ3 H3=>tt σ3 H3 fun b H4=>if b=true then te σ3 H4 fun y H5=>H5 D=some (.lst ys)/\ys.length < sizeLine/\Pv (i+1) (ys++[y]) σ3 (upd H5 D (.lst (ys++[y]))) else Pv (i+1) ys σ3 H4)
  (hd:∀ ys σ H,Pv xs.length ys σ H->Q H):eG D σ0 (Itl K a) g tt te H1 Q:=by
 refine⟨fun i m ys σ H=>m=xs.length - i/\i<=xs.length/\Pv i ys σ H,⟨xs.length,by simp,Fq _,h0⟩,?_⟩
 rintro i m ys σ H ⟨rfl,hi,p⟩
 obtain⟨q,qD⟩:=hl i ys σ H hi p
 refine⟨qD,?_⟩
 by_cases hlt:i < xs.length
 ·refine .inr ⟨⟨xs,xs[i],q,by simp [hlt]⟩,Pv (i+1),fun zs σ' H' p'=>⟨xs.length - (i+1),by lia,rfl,hlt,p'⟩,fun x H' y=>?_⟩
  obtain⟨e,y⟩:=y
  subst e
  exact hs i ys x σ _ (y xs q) p
 ·have e:i=xs.length:=by lia
  subst e
  exact .inl ⟨⟨xs,q,Ei _⟩,hd ys σ H p⟩
theorem eU {lo:Int} {n:Nat} (Pv:Nat->List V->St->Hp->Prop) (h0:Pv 0 [] σ0 (upd H1 D (.lst []))) (hl:∀ i ys σ H,i<=n->Pv i ys σ H->H D=some (.lst ys))
  (hs:∀ i ys σ H,i < n->Pv i ys σ H->g (.int (lo+i)) σ H fun σ3 H3=>tt σ3 H3 fun b H4=>if b=true then te σ3 H4 fun y H5=>H5 D=some (.lst ys)/\ys.length < sizeLine/\Pv (i+1) (ys++[y]) σ3 (upd H5 D (.lst (ys++[y]))) else Pv (i+1) ys σ3 H4)
  (hd:∀ ys σ H,Pv n ys σ H->Q H):eG D σ0 (Itr lo n) g tt te H1 Q:=by
 refine⟨fun i m ys σ H=>m=n - i/\i<=n/\Pv i ys σ H,⟨n,by simp,Fq _,h0⟩,?_⟩
 rintro i m ys σ H ⟨rfl,hi,p⟩
 refine⟨hl i ys σ H hi p,?_⟩
 by_cases hlt:i < n
 ·refine .inr ⟨hlt,Pv (i+1),fun zs σ' H' p'=>⟨n - (i+1),by lia,rfl,hlt,p'⟩,fun x H' y=>?_⟩
  obtain⟨e,y⟩:=y
  subst e y
  exact hs i ys σ _ hlt p
 ·have e:i=n:=by lia
  subst e
  exact .inl ⟨Ei _,hd ys σ H p⟩
end
structure Bt (mg:Str->Option Value):Prop where
 len_:mg "len" = none
 range_:mg "range" = none
 all_:mg "all" = none
 isinstance_:mg "isinstance" = none
 int_:mg "int" = none
 bool_:mg "bool" = none
 str_:mg "str" = none
 list_:mg "list" = none
 tuple_:mg "tuple" = none
 abs_:mg "abs" = none
 max_:mg "max" = none
 min_:mg "min" = none
 sum_:mg "sum" = none
 sorted_:mg "sorted" = none
 zip_:mg "zip" = none
 reversed_:mg "reversed" = none
 divmod_:mg "divmod" = none
 set_:mg "set" = none
 any_:mg "any" = none
 enumerate_:mg "enumerate" = none
theorem cO:FJ "len" = some (.builtin "len"):=PySem.boot_len
theorem uG:FJ "all" = some (.builtin "all"):=by decide+kernel
theorem aP:FJ "isinstance" = some (.builtin "isinstance"):=by decide+kernel
theorem rB:FJ "abs" = some (.builtin "abs"):=by decide+kernel
theorem zQ:FJ "max" = some (.builtin "max"):=by decide+kernel
theorem zN:FJ "min" = some (.builtin "min"):=by decide+kernel
theorem mH:FJ "int" = some (.type "int"):=by decide+kernel
theorem qT:FJ "bool" = some (.type "bool"):=by decide+kernel
theorem jf:FJ "str" = some (.type "str"):=by decide+kernel
theorem qe:FJ "list" = some (.type "list"):=by decide+kernel
theorem bL:FJ "tuple" = some (.type "tuple"):=by decide+kernel
theorem c7 (K:FT) (T:String):HJ K (.type T) (.type T)=some true:=by
 unfold PySem.W.kitOne
 rw[if_pos (beq_self_eq_true _)]
theorem iG (K:FT):HJ K (.type "int") (.type "bool")=some false:=by kernel_rfl
theorem lr (K:FT):HJ K (.type "bool") (.type "int")=some true:=by kernel_rfl
theorem t6 (K:FT):HJ K (.type "int") (.type "str")=some false:=by kernel_rfl
theorem qQ (K:FT):HJ K (.type "bool") (.type "str")=some false:=by kernel_rfl
theorem oV (K:FT):HJ K (.type "tuple") (.type "str")=some false:=by kernel_rfl
theorem qM (K:FT):HJ K (.type "list") (.type "str")=some false:=by kernel_rfl
theorem o7 (K:FT):HJ K (.type "tuple") (.type "int")=some false:=by kernel_rfl
theorem qH (K:FT):HJ K (.type "list") (.type "int")=some false:=by kernel_rfl
theorem jg (K:FT):HJ K (.type "tuple") (.type "list")=some false:=by kernel_rfl
theorem jl (K:FT):HJ K (.type "list") (.type "tuple")=some false:=by kernel_rfl
theorem tY (K:FT):HJ K (.type "str") (.type "int")=some false:=by kernel_rfl
end L2
namespace L2
open PySem PySem.Spec PyProof.Rows
inductive Dm where
 | non | bl (b:Bool) | int (i:Int) | str (x:Str) | tup (ds:List Dm) | lst (ds:List Dm)
mutual
def Dm.dep:Dm->Nat
 | .tup ds=>fY ds+1
 | .lst ds=>fY ds+1
 | _=>0
def fY:List Dm->Nat
 | []=>0
 | d::r=>max d.dep (fY r)
end
mutual
inductive Rep (H:Hp):V->Dm->Prop where
 | non:Rep H .non .non
 | bl (b:Bool):Rep H (.bl b) (.bl b)
 | int (i:Int):Rep H (.int i) (.int i)
 | str (x:Str):Rep H (.str x) (.str x)
 | tup {a:Addr} {xs:List V} {ds:List Dm}:H a=some (.tup xs)->xs.length<=100000->lW H xs ds->Rep H (.ref a) (.tup ds)
 | lst {a:Addr} {xs:List V} {ds:List Dm}:H a=some (.lst xs)->xs.length<=100000->lW H xs ds->Rep H (.ref a) (.lst ds)
inductive lW (H:Hp):List V->List Dm->Prop where
 | nil:lW H [] []
 | cons {v:V} {d:Dm} {vs:List V} {ds:List Dm}:Rep H v d->lW H vs ds->lW H (v::vs) (d::ds)
end
mutual
theorem Rep.mono {H H':Hp} (e:bu H H'):∀ {v:V} {d:Dm},Rep H v d->Rep H' v d
 | _,_,.non=>.non
 | _,_,.bl b=>.bl b
 | _,_,.int i=>.int i
 | _,_,.str x=>.str x
 | _,_,.tup h l r=>.tup (e _ _ h) l (lW.mono e r)
 | _,_,.lst h l r=>.lst (e _ _ h) l (lW.mono e r)
theorem lW.mono {H H':Hp} (e:bu H H'):∀ {vs:List V} {ds:List Dm},lW H vs ds->lW H' vs ds
 | _,_,.nil=>.nil
 | _,_,.cons h r=>.cons (Rep.mono e h) (lW.mono e r)
end
theorem lW.length {H:Hp}:∀ {vs:List V} {ds:List Dm},lW H vs ds->vs.length=ds.length
 | _,_,.nil=>rfl
 | _,_,.cons _ r=>by rw[El,El,lW.length r]
theorem lW.get {H:Hp}:∀ {vs:List V} {ds:List Dm} {i:Nat},lW H vs ds->i < vs.length->∃ v d,vs[i]? = some v/\ds[i]? = some d/\Rep H v d
 | _,_,_,.nil,h=>absurd h (Lh _)
 | _,_,0,.cons h _,_=>⟨_,_,rfl,rfl,h⟩
 | _,_,i+1,.cons _ r,h=>by
  obtain⟨v,d,e1,e2,e3⟩:=lW.get (i:=i) r (JX h)
  exact⟨v,d,by simpa using e1,by simpa using e2,e3⟩
theorem m8:∀ {ds:List Dm} {i:Nat} {d:Dm},ds[i]? = some d->d.dep<=fY ds
 | [],_,_,h=>by simp at h
 | d::r,0,_,h=>by
  cases (show some d=some _ from h)
  rw[fY]
  exact Nat.le_max_left _ _
 | d::r,i+1,_,h=>by
  rw[fY]
  exact Fe (m8 (i:=i) (ds:=r) (by simpa using h)) (Nat.le_max_right _ _)
theorem oF {H:Hp}:∀ ns:List Int,lW H (ns.map V.int) (ns.map Dm.int)
 | []=>.nil
 | n::r=>.cons (.int n) (oF r)
section
variable {X:Cx}
def CJ (K:FT):R2:=fun x y H Q=>∃ (a b:Addr) (xs:List V),x = .ref a/\y = .ref b/\SqL K H a xs/\SqL K H b []/\Q (.bl xs.isEmpty) H
theorem zX (hu:X.A.units < cLine):OpR X (G8 .Eq) (CJ X.K):=by
 intro pins s σ H x y v u Q I rx ry h
 obtain⟨a,b,xs,rfl,rfl,ha,hb,q⟩:=h
 cases rx
 cases ry
 obtain⟨its,r1,p1,_⟩:=I.list ha
 obtain⟨its2,r2,p2,_⟩:=I.list hb
 cases r2
 cases r1 with
 | nil=>exact SeqAt.eq_listAt (e:=fun _=>true) p1.isList p2.isList rfl hu (fun j h1 _=>absurd h1 (by simp)) ⟨.bl true,H,I,rfl,q⟩
 | cons r t=>exact SeqAt.eq_list_lengthsAt p1.isList p2.isList (by simp) hu ⟨.bl false,H,I,rfl,q⟩
end
end L2
namespace L2
open PySem PySem.Spec PyProof.Rows
section
variable {prog:Ft} {w:FP} {A:Gd} {E:Value->Eg->Prop} {s:Eg}
end
theorem Inv.mU {X:Cx} {pins:List (Addr × Hn)} {σ:St} {H:Hp} {s:Eg} {h':Gh} {t':Nat} {ch:List Addr} (I:Inv X pins σ H s) (k:∀ b o,b ∉ ch->s.heap.get? b=some o->h'.get? b=some o) (hf:∀ b∈ch,pO X pins H b) :
  Inv X pins σ H { s with heap:=h',toks:=t' }:=by
 have nit:∀ b u,H b=some u->b ∉ ch:=fun b u e z=>by
  have:=(hf b z).1
  rw[this] at e; cases e
 refine I.step (g':=s.gens) (d':=s.drawn) (ch:=ch) (fun b hb=>let ⟨_,f1,_,f3,f4,f5⟩:=hf b hb; ⟨f3,f1,f4,f5⟩) (fun b o _ _ hc e _=>k b o hc e) (fun b o _ _ hc e _=>⟨o.slots,k b o hc e⟩) (fun _ _ _ _ n=>n)
  (fun b o hc e=>⟨o,k b o hc e⟩) (fun _ _ e=>e) (fun _ _ _ e=>e) (fun b ps e=>⟨#[],by rw[e]; simp⟩) (fun m hm=>?_) (fun b u e=>?_) I.bare
 ·obtain⟨o,es,ep,ho,r⟩:=hm
  exact⟨o,es,ep,k _ o (fun z=>(hf _ z).2.1 rfl) ho,r⟩
 ·refine (I.hok b u e).stay (fun c v hc q=>k c v ?_ q) (fun _ q=>q) fun _ _ q=>q
  rcases hc with z | z
  ·rw[z]; exact nit b u e
  ·exact nit c _ z
end L2
namespace L2
open PySem PySem.Spec PyProof.Rows
theorem o5:∀ ns ms:List Int,((Gx (min ns.length ms.length)).all (fun j=>ns.getD j 0 == ms.getD j 0) && ns.length == ms.length)=decide (ns=ms)
 | [],[]=>rfl
 | [],m::ms=>by rw[decide_eq_false (by simp)]; rfl
 | n::ns,[]=>by rw[decide_eq_false (by simp)]; rfl
 | n::ns,m::ms=>by
  have ih:=o5 ns ms
  have e:min (n::ns).length (m::ms).length=min ns.length ms.length+1:=by rw[El,El]; lia
  have el:((n::ns).length == (m::ms).length)=(ns.length == ms.length):=by simp
  have e3:decide (n::ns=m::ms)=(n == m && decide (ns=ms)):=by
   by_cases h1:n=m
   ·subst h1
    by_cases h2:ns=ms
    ·subst h2; simp
    ·simp [h2]
   ·simp [h1]
  rw[e,List.range_succ_eq_map,Jj,List.all_map,el,e3,← ih,Bool.and_assoc]
  rfl
theorem eZ {X:Cx} {pos:JM} {K:FT} {es:List Expr} {k:Nat} {t:TGs} (n:Nat) (hK:X.K=K) (hc:X.calm=true) (h:PGs X es t)
  (hn:(Jf es X.env).length=n:=by rfl) (hst:(Jf es X.env).findIdx? (·.1)=none:=by rfl):PG X (.Tuple es k pos) (De K n t):=by
 subst hK
 exact z7 hc h hn hst
section
variable {X:Cx}
def zG (K:FT):R2:=fun x y H Q=>∃ (a b:Addr) (ns ms:List Int),x = .ref a/\y = .ref b/\SqT K H a (ns.map V.int)/\SqT K H b (ms.map V.int)/\Q (.bl (decide (ns=ms))) H
theorem ints_get {ns:List Int} {its:List Value} (i:Gm its ns) {j:Nat} (h:j < its.length):∃ t,its[j] = .int (ns.getD j 0) t:=by
 induction i generalizing j with
 | nil=>exact absurd h (Lh _)
 | cons n t r ih =>
  cases j with
  | zero=>exact⟨t,rfl⟩
  | succ j =>
   obtain⟨u,e⟩:=ih (j:=j) (JX h)
   exact⟨u,by simpa using e⟩
theorem za (hu:X.A.units < cLine):OpR X (G8 .Eq) (zG X.K):=by
 intro pins s σ H x y v u Q I rx ry h
 obtain⟨a,b,ns,ms,rfl,rfl,ha,hb,q⟩:=h
 cases rx
 cases ry
 obtain⟨its,r1,p1,_⟩:=I.tuple ha
 obtain⟨its2,r2,p2,_⟩:=I.tuple hb
 have i1:Gm its ns:=intsAre_of r1
 have i2:Gm its2 ms:=intsAre_of r2
 have l1:=i1.length
 have l2:=i2.length
 refine SeqAt.eq_tupleAt (e:=fun j=>ns.getD j 0 == ms.getD j 0) (show s.heap.IsTuple a its.toArray from p1) (show s.heap.IsTuple b its2.toArray from p2) hu (fun j h1 h2=>?_) ?_
 ·obtain⟨t,e1⟩:=ints_get i1 (j:=j) (by simpa using h1)
  obtain⟨t',e2⟩:=ints_get i2 (j:=j) (by simpa using h2)
  rw[List.getElem_toArray,List.getElem_toArray,e1,e2]
  exact SeqAt.EqAt.int_int _ _ _ _
 ·refine⟨.bl _,H,I,?_,q⟩
  have e:=o5 ns ms
  have s1:its.toArray.size=ns.length:=by rw[Fb]; exact l1
  have s2:its2.toArray.size=ms.length:=by rw[Fb]; exact l2
  rw[s1,s2,e]
  rfl
def yo (K:FT):R2:=fun x y H Q=>∃ (a b:Addr) (xs ys:List V),x = .ref a/\y = .ref b/\SqT K H a xs/\SqT K H b ys/\xs.length+ys.length<=sizeLine ∧
 (xs=[]->Q (.ref b) H)/\(xs≠[]->ys=[]->Q (.ref a) H)/\(xs≠[]->ys≠[]->∀ p,H p=none->Q (.ref p) (upd H p (.tup (xs++ys))))
theorem xJ:OpR X (Ie .Add) (yo X.K):=by
 intro pins s σ H x y v u Q I rx ry h
 obtain⟨a,b,xs,ys,rfl,rfl,ha,hb,hz,q0,q1,q2⟩:=h
 by_cases hx:xs=[]
 ·subst hx
  cases rx
  cases ry
  obtain⟨its,r1,p1,_⟩:=I.tuple ha
  obtain⟨its2,r2,p2,_⟩:=I.tuple hb
  cases r1
  obtain⟨⟨c1,d1,dt1,sl1⟩,ho,hc,n,hd⟩:=id p1
  obtain⟨⟨c2,d2,dt2,sl2⟩,ho2,hc2,n2,hd2⟩:=id p2
  simp only at hc hd hc2 hd2
  subst hc hd hc2 hd2
  exact concat_meets ⟨_,ho,rfl⟩ ⟨_,ho2,rfl⟩ KY seq_tuple_add JV JP (JL _ _) (tuple_addW0 a b _ _ n n2 d1 d2 sl1 sl2 rfl) ⟨ho,ho2,⟨.ref b,H,I,rfl,q0 rfl⟩⟩
 ·exact yM pins s σ H _ _ v u Q I rx ry ⟨a,b,xs,ys,rfl,rfl,ha,hb,hx,hz,q1 hx,q2 hx⟩
end
end L2
namespace L2
open PySem PySem.Spec PyProof.Rows
section
variable {X:Cx}
end
end L2
namespace L2
open PySem PySem.Spec PyProof.Rows
def Bb:List V->Hp->VK->Prop:=fun xs H Q=>(∃ i,xs=[.int i]/\Q (.int i) H)∨∃ k,xs=[.bl k]/\Q (.int (if k then 1 else 0)) H
end L2
namespace L2
open PySem
def Ris (xs:Array Nat):Prop:=xs.toList.Pairwise (· < ·)
theorem rE {xs:Array Nat} (h:Ris xs) {i j x y:Nat} (hij:i < j) (hi:xs[i]? = some x) (hj:xs[j]? = some y):x < y:=by
 rw[← Gv] at hi hj
 obtain⟨li,ei⟩:=List.getElem?_eq_some_iff.mp hi
 obtain⟨lj,ej⟩:=List.getElem?_eq_some_iff.mp hj
 have:=List.pairwise_iff_getElem.mp h i j li lj hij
 rw[ei,ej] at this
 exact this
theorem nY {xs:Array Nat} (h:Ris xs) (j:Nat):∀ (fuel lo hi:Nat),hi - lo<=fuel->lo<=hi->hi<=xs.size->(∀ i x,i < lo->xs[i]? = some x->x < j)->(∀ i x,hi<=i->xs[i]? = some x->j<=x) →
  IK xs j fuel lo hi<=xs.size/\(∀ i x,i < IK xs j fuel lo hi->xs[i]? = some x->x < j)/\(∀ i x,IK xs j fuel lo hi<=i->xs[i]? = some x->j<=x)
 | 0,lo,hi,hf,hl,hs,h1,h2=>by
  rw[IK]
  have e:lo=hi:=by lia
  subst e
  exact⟨hs,h1,h2⟩
 | fuel+1,lo,hi,hf,hl,hs,h1,h2=>by
  rw[IK]
  by_cases hlt:lo < hi
  ·rw[if_pos hlt]
   dsimp only
   have hm1:lo<=(lo+hi) / 2:=by lia
   have hm2:(lo+hi) / 2 < hi:=by lia
   have hms:(lo+hi) / 2 < xs.size:=by lia
   generalize (lo+hi) / 2=m at *
   have eg:xs[m]? = some xs[m]:=Ex hms
   have ed:xs.getD m j=xs[m]:=by rw[Gn,eg]; rfl
   rw[ed]
   by_cases hc:xs[m] < j
   ·rw[if_pos hc]
    refine nY h j fuel (m+1) hi (by lia) (by lia) hs (fun i x hi' e=>?_) h2
    by_cases hm:i=m
    ·subst hm
     rw[eg] at e
     cases e
     exact hc
    ·exact Nat.lt_trans (rE h (show i < m by lia) e eg) hc
   ·rw[if_neg hc]
    refine nY h j fuel lo m (by lia) hm1 (by lia) h1 (fun i x hi' e=>?_)
    by_cases hm:i=m
    ·subst hm
     rw[eg] at e
     cases e
     lia
    ·have:=rE h (show m < i by lia) eg e
     lia
  ·rw[if_neg hlt]
   have e:lo=hi:=by lia
   subst e
   exact⟨hs,h1,h2⟩
theorem nM {xs:Array Nat} (h:Ris xs) (j:Nat):Ge xs j<=xs.size/\(∀ i x,i < Ge xs j->xs[i]? = some x->x < j)/\(∀ i x,Ge xs j<=i->xs[i]? = some x->j<=x):=by
 unfold Ge
 refine nY h j xs.size 0 xs.size (by lia) (Fq _) (Ei _) (fun i x hi=>absurd hi (Lh _)) fun i x hi e=>?_
 rw[Hw hi] at e
 cases e
theorem below_at {xs:Array Nat} (h:Ris xs) {i x:Nat} (e:xs[i]? = some x):Ge xs (x+1)=i+1:=by
 obtain⟨h1,h2,h3⟩:=nM h (x+1)
 have hi:i < xs.size:=(Array.getElem?_eq_some_iff.mp e).1
 generalize Ge xs (x+1)=p at *
 rcases Nat.lt_trichotomy p (i+1) with hp | hp | hp
 ·have:=h3 i x (by lia) e
  lia
 ·exact hp
 ·have hs:i+1 < xs.size:=by lia
  have:=rE h (Jg i) e (Ex hs)
  have:=h2 (i+1) _ hp (Ex hs)
  lia
theorem tO {xs:Array Nat} (h:Ris xs):Ge xs 0=0:=by
 obtain⟨h1,h2,h3⟩:=nM h 0
 generalize Ge xs 0=p at *
 rcases Nat.eq_zero_or_pos p with hp | hp
 ·exact hp
 ·have hs:0 < xs.size:=by lia
  have:=h2 0 _ hp (Ex hs)
  lia
theorem yO {xs:Array Nat} (h:Ris xs) {j:Nat} (hj:xs[Ge xs j]?≠some j):Ris (SetTable.insertAt xs (Ge xs j) j):=by
 obtain⟨h1,h2,h3⟩:=nM h j
 unfold Ris
 rw[SetTable.toList_insertAt]
 generalize hp:Ge xs j=p at *
 have hh:xs.toList.Pairwise (· < ·):=h
 have hlt:∀ x∈xs.toList.take p,x < j:=fun x hx=>by
  obtain⟨i,hi,e⟩:=List.getElem_of_mem hx
  rw[Fi] at hi
  rw[List.getElem_take] at e
  exact h2 i x (by lia) (by rw[← Gv,Ff (by lia),e])
 have hgt:∀ x∈xs.toList.drop p,j < x:=fun x hx=>by
  obtain⟨i,hi,e⟩:=List.getElem_of_mem hx
  rw[G3] at hi
  rw[List.getElem_drop] at e
  have ex:xs[p+i]? = some x:=by rw[← Gv,Ff (by lia),e]
  have:=h3 (p+i) x (by lia) ex
  rcases Nat.lt_or_ge j x with q | q
  ·exact q
  ·have ejx:x=j:=by lia
   subst ejx
   by_cases hi0:i=0
   ·subst hi0
    exact absurd ex hj
   ·have hps:p < xs.size:=by
     have:=(Array.getElem?_eq_some_iff.mp ex).1
     lia
    have:=rE h (show p < p+i by lia) (Ex hps) ex
    have:=h3 p _ (Ei _) (Ex hps)
    lia
 rw[List.pairwise_append]
 refine⟨hh.sublist (List.take_sublist _ _),List.pairwise_cons.mpr ⟨hgt,hh.sublist (List.drop_sublist _ _)⟩,fun a ha b hb=>?_⟩
 rcases List.mem_cons.mp hb with rfl | hb
 ·exact hlt a ha
 ·exact Nat.lt_trans (hlt a ha) (hgt b hb)
def kE (t:HQ) (j:Nat):Prop:=t.place[Ge t.place j]?≠some j
theorem mj {t:HQ} {j:Nat} (h:t.slot j = .empty∨t.slot j = .dummy):kE t j:=by
 intro e
 unfold SetTable.slot at h
 dsimp only at h
 rw[e,if_pos (by exact beq_self_eq_true _)] at h
 rcases h with h | h <;> cases h
theorem jy {t:HQ} {f:Nat->Int} {h:Int}:∀ (fuel:Nat) (p:SetTable.Probe) {j:Nat} {d:Option Nat},(∀ x,p.dummy=some x->kE t x)->Kz t f h fuel p=some (.empty j d)->kE t j/\∀ x,d=some x->kE t x
 | 0,_,_,_,_,e=>by rw[Kz] at e; cases e
 | fuel+1,p,j,d,hd,e=>by
  rw[Kz] at e
  have adv:∀ q:SetTable.Probe,(t.advance q).dummy=q.dummy:=fun q=>by
   unfold SetTable.advance
   split <;> rfl
  cases hs:t.slot p.j with
  | empty =>
   rw[hs] at e
   cases e
   exact⟨mj (.inl hs),hd⟩
  | dummy =>
   rw[hs] at e
   dsimp only at e
   refine jy fuel _ (fun x hx=>?_) e
   rw[adv] at hx
   cases hx
   exact mj (.inr hs)
  | live i =>
   rw[hs] at e
   dsimp only at e
   by_cases hc:(f i == h)=true
   ·rw[if_pos hc] at e
    cases e
   ·rw[if_neg hc] at e
    exact jy fuel _ (fun x hx=>by rw[adv] at hx; exact hd x hx) e
theorem qI {t:HQ} {h:Int} {j:Nat} {b:Bool} (e:t.freeSlot h=some (j,b)):kE t j:=by
 unfold SetTable.freeSlot SetTable.probe at e
 split at e
 ·rename_i j' d hp
  obtain⟨h1,h2⟩:=jy _ _ (fun x hx=>by cases hx) hp
  cases e
  cases d with
  | none=>exact h1
  | some x=>exact h2 x rfl
 ·cases e
structure TOk (b:Bool) (t:HQ):Prop where
 led:t.led=b
 ris:t.plain=true->Ris t.place
theorem vm (b:Bool):TOk b (.fresh 0 0 b):=⟨rfl,fun _=>KJ⟩
theorem fu {b:Bool} {t:HQ} (h:TOk b t) (n:Nat):TOk b (t.standIn n):=⟨h.led,fun z=>by cases z⟩
theorem tW {b:Bool} {t:HQ} (h:TOk b t) (es:Array (Int × Value)) (k:Int) (x:Value):TOk b (layNew t es k x).2.1:=by
 unfold layNew
 split
 ·rename_i slot wd e
  dsimp only
  unfold SetTable.orStandIn
  have ht:TOk b (t.put slot).1:=⟨h.led,fun z=>yO (h.ris z) (qI e)⟩
  split
  ·exact ht
  ·exact fu ht _
 ·exact fu h _
theorem wK (owner:Array (Option Nat)):∀ l:List Nat,l.Pairwise (· < ·)->((l.filterMap fun j=>(owner.getD j none).map (j,·)).map (·.1)).Pairwise (· < ·):=fun l hl=>by
 have hs:List.Sublist ((l.filterMap fun j=>(owner.getD j none).map (j,·)).map (·.1)) l:=by
  induction l with
  | nil=>exact List.Sublist.slnil
  | cons a r ih =>
   have ih:=ih (List.pairwise_cons.mp hl).2
   rw[Js]
   cases e:owner.getD a none with
   | none=>exact ih.cons _
   | some k=>exact ih.cons₂ _
 exact hl.sublist hs
theorem ph {b:Bool} {t:HQ} (h:TOk b t) (es:Array (Int × Value)) (m:Nat):TOk b (Ks t es m).2.1:=by
 unfold Ks
 split
 ·rename_i t' order e
  dsimp only
  split
  ·unfold SetTable.relaid SetTable.laid at e
   cases ho:SetTable.layClean (SetTable.sizeAbove m - 1) (es.map (·.1)) with
   | none=>rw[ho] at e; cases e
   | some owner =>
    rw[ho] at e
    cases e
    exact⟨h.led,fun _=>wK owner _ List.pairwise_lt_range⟩
  ·exact fu h _
 ·exact fu h _
end L2
namespace L2
open PySem PySem.Spec PyProof.Rows
section
variable {P:Ft} {w:FP} {A:Gd} {E:Value->Eg->Prop} {s:Eg}
def jr (P:Ft) (w:FP) (b:Bool) (h:Gh) (a:Addr) (ks:List Int):Prop :=
 ∃ o es ep t,h.get? a=some o/\o.ExactSet/\o.data = .set es ep t/\ElemsOf (HW P w) es.toList/\t.fits es.size=true/\TOk b t/\∃ ns,Gm (es.toList.map (·.2)) ns/\ns.Perm ks
theorem dN {l l':List Value} (p:l.Perm l'):∀ {ns:List Int},Gm l ns->∃ ms,Gm l' ms/\ms.Perm ns:=by
 induction p with
 | nil=>intro ns h; exact⟨ns,h,.refl _⟩
 | cons x p ih =>
  intro ns h
  cases h with
  | cons n t r =>
   obtain⟨ms,h1,h2⟩:=ih r
   exact⟨n::ms,.cons n t h1,h2.cons n⟩
 | swap x y l =>
  intro ns h
  cases h with
  | cons n t r =>
   cases r with
   | cons m u r=>exact⟨m::n::_,.cons m u (.cons n t r),.swap _ _ _⟩
 | trans p q ih1 ih2 =>
  intro ns h
  obtain⟨ms,h1,h2⟩:=ih1 h
  obtain⟨ks,h3,h4⟩:=ih2 h1
  exact⟨ks,h3,h4.trans h2⟩
theorem jO {k:Int} {t:K3}:∀ {l:List Value} {ns:List Int},Gm l ns->Gm (l++[.int k t]) (ns++[k])
 | _,_,.nil=>.cons k t .nil
 | _,_,.cons n u r=>.cons n u (jO r)
theorem kW {k:Int}:∀ {l:List Value} {ns:List Int},Gm l ns->(k∈ns ↔ ∃ v∈l,(HW P w).is k v=true)
 | _,_,.nil=>by simp
 | _,_,.cons n t r=>by
  have ih:=kW (k:=k) r
  have e:(HW P w).is k (.int n t)=decide (k=n):=KeyKind.is_eq_decide (intKind_is _ _ _ _) k
  rw[GD,ih]
  constructor
  ·rintro (h | ⟨v,hv,q⟩)
   ·exact⟨_,Ek,by rw[e]; exact decide_eq_true h⟩
   ·exact⟨v,En _ hv,q⟩
  ·rintro⟨v,hv,q⟩
   rcases List.mem_cons.mp hv with rfl | hv
   ·rw[e] at q
    exact .inl (of_decide_eq_true q)
   ·exact .inr ⟨v,hv,q⟩
theorem jU {b:Bool} {h:Gh} {a:Addr} {o:Hn} {es es':Array (Int × Value)} {ep:Nat} {t t':HQ} {ks:List Int} (ho:h.get? a=some o) (hx:o.ExactSet) (hd:o.data = .set es ep t)
  (hel:ElemsOf (HW P w) es'.toList) (hf:t'.fits es'.size=true) (tk:TOk b t') (hn:∃ ns,Gm (es'.toList.map (·.2)) ns/\ns.Perm ks) :
  (h.update a (Ko es' t')).get? a=some { o with data:=.set es' (ep+1) t' }/\jr P w b (h.update a (Ko es' t')) a ks:=by
 have g:(h.update a (Ko es' t')).get? a=some { o with data:=.set es' (ep+1) t' }:=by
  have q:=Gu (Ko es' t') ho (by rw[putSet_of es' t' hd]; rfl)
  rwa [putSet_of es' t' hd] at q
 exact⟨g,_,es',ep+1,t',g,hx,rfl,hel,hf,tk,hn⟩
theorem zB {b:Bool} {a:Addr} {ks:List Int} {k:Int} {t0:K3} {Q:Bool->Eg->Prop} (hS:jr P w b s.heap a ks) (hroom:ks.length+1 < scanBound)
  (h:∀ h' r,JZ a s.heap h'->jr P w b h' a (step_dedup ks k)->Q r { s with heap:=h' }):Eu (Ey P w) A (setAddHashed a (.int k t0) ((HW P w).hash k)) Q E s:=by
 obtain⟨o,es,ep,t,ho,hx,hd,hel,hf,tk,ns,hi,hp⟩:=hS
 have key:(HW P w).is k (.int k t0)=true:=intKind_is _ _ _ _
 have hlen:es.size=ks.length:=by
  rw[← hp.length_eq,← hi.length,Eb,FQ]
 have hb:es.size < scanBound:=by lia
 have hm:=kW (P:=P) (w:=w) (k:=k) hi
 unfold setAddHashed setAddHashedIn
 refine Ib (Ed (HH ho hd hf ?_))
 dsimp only
 rw[byScan_of rfl hb hel]
 simp only[↓reduceIte]
 unfold setAddByScan
 refine Ed (Ed (Kg (Ed (wpAny_setScan_of key ho hd hf hel ?_))))
 cases hr:es.toList.findIdx? (fun e=>(HW P w).is k e.2) with
 | some j =>
  dsimp only
  obtain⟨hj,q,_⟩:=List.findIdx?_eq_some_iff_getElem.mp hr
  have hk:k∈ks:=hp.mem_iff.mp (hm.mpr ⟨es.toList[j].2,List.mem_map.mpr ⟨_,K5 hj,rfl⟩,q⟩)
  have es0:step_dedup ks k=ks:=by
   unfold step_dedup
   have hany:(ks.any fun x=>x == k)=true:=List.any_eq_true.mpr ⟨k,hk,beq_self_eq_true k⟩
   rw[if_pos hany]
  have q':=h s.heap false (Heap.SameBut.refl a s.heap) (by rw[es0]; exact⟨o,es,ep,t,ho,hx,hd,hel,hf,tk,ns,hi,hp⟩)
  exact Ej (Ej q')
 | none =>
  dsimp only
  have hk:k ∉ ks:=fun z=>by
   obtain⟨v,hv,q⟩:=hm.mp (hp.mem_iff.mpr z)
   obtain⟨e,he,rfl⟩:=List.mem_map.mp hv
   rw[List.findIdx?_eq_none_iff.mp hr e he] at q
   cases q
  have es0:step_dedup ks k=ks++[k]:=by
   unfold step_dedup
   rw[if_neg]
   intro z
   obtain⟨x,hx',e⟩:=List.any_eq_true.mp z
   exact hk (by rw[← eq_of_beq e]; exact hx')
  rw[es0] at h
  have pm:=layNew_perm t es ((HW P w).hash k) (.int k t0)
  have ft:=layNew_fits t es ((HW P w).hash k) (.int k t0)
  have tk1:=tW tk es ((HW P w).hash k) (.int k t0)
  generalize layNew t es ((HW P w).hash k) (.int k t0)=L at pm ft tk1 ⊢
  obtain⟨es1,t1,wd,gv⟩:=L
  dsimp only at pm ft tk1 ⊢
  rw[Array.toList_push] at pm
  have hel1:ElemsOf (HW P w) es1.toList:=(hel.push key rfl).perm pm
  have hn1:∃ ns,Gm (es1.toList.map (·.2)) ns/\ns.Perm (ks++[k]):=by
   have i1:Gm ((es.toList++[((HW P w).hash k,K1 k t0)]).map (·.2)) (ns++[k]):=by
    rw[Er]
    exact jO hi
   obtain⟨ms,h1,h2⟩:=dN (pm.symm.map (·.2)) i1
   exact⟨ms,h1,h2.trans (hp.append (.refl _))⟩
  have hs1:es1.size<=sizeLine:=by
   have:es1.size=es.size+1:=by rw[← FQ,pm.length_eq,Ec,FQ]; rfl
   exact fits_of_scanBound (by lia)
  have gw:∀ (b:Bool) {s₁:Eg} {Q':Unit->Eg->Prop},Q' () s₁->Eu (Ey P w) A (match b with | true=>rule "set.scan.the-table-gave-way" | false=>pure ()) Q' E s₁:=fun b s₁ Q' hq=>by
   cases b
   ·exact Ej hq
   ·exact Kg hq
  have tail:∀ (g:Bool->Sem Unit) (R:Option Bool->Eg->Prop) (t2:HQ),(∀ (b:Bool) (s₁:Eg) (Q':Unit->Eg->Prop),Q' () s₁->Eu (Ey P w) A (g b) Q' E s₁)->t2.fits es1.size=true->TOk b t2 →
    (∀ h',JZ a s.heap h'->jr P w b h' a (ks++[k])->R (some true) { s with heap:=h' })->Eu (Ey P w) A (do
    storeSet a es1 t2
    if (!wd && t2.tooFull)=true then do
      g (Ks t2 es1 (HN es1.size)).2.2
      storeSet a (Ks t2 es1 (HN es1.size)).1 (Ks t2 es1 (HN es1.size)).2.1
      pure (some true)
     else pure (some true)) R E s:=fun g R t2 hg f2 k2 hR=>by
   refine Ed (wpAny_storeSet_of ho hd ?_ hs1)
   obtain⟨ho1,hS1⟩:=jU (P:=P) (w:=w) ho hx hd hel1 f2 k2 hn1
   have sb1:=GK s.heap a (Ko es1 t2)
   split
   ·have pr:=relayAll_perm t2 es1 (HN es1.size)
    have fr:=relayAll_fits t2 es1 (HN es1.size)
    have tr:=ph k2 es1 (HN es1.size)
    generalize Ks t2 es1 (HN es1.size)=R at pr fr tr ⊢
    obtain⟨es2,t3,g2⟩:=R
    dsimp only at pr fr tr ⊢
    have hn2:∃ ns,Gm (es2.toList.map (·.2)) ns/\ns.Perm (ks++[k]):=by
     obtain⟨ns1,i1,p1⟩:=hn1
     obtain⟨ms,h1,h2⟩:=dN (pr.symm.map (·.2)) i1
     exact⟨ms,h1,h2.trans p1⟩
    have hs2:es2.size<=sizeLine:=by
     have:es2.size=es1.size:=by rw[← FQ,pr.length_eq,FQ]
     lia
    refine Ed (hg _ _ _ (Ed (wpAny_storeSet_of ho1 rfl ?_ hs2)))
    obtain⟨_,hS2⟩:=jU (P:=P) (w:=w) ho1 hx rfl (hel1.perm pr) fr tr hn2
    exact Ej (hR _ (sb1.trans (GK _ a _)) hS2)
   ·exact Ej (hR _ sb1 hS1)
  refine Ed (gw _ ?_)
  split
  ·refine Ed ?_
   rw[hashByValue_scannable 8 rfl]
   refine Ej (tail _ _ _ (fun b s₁ Q' hq=>gw b hq) ?_ ?_ fun h' sb hS=>Ej (h h' true sb hS))
   ·exact ft
   ·exact tk1
  ·exact Ed (Ej (tail _ _ _ (fun b s₁ Q' hq=>gw b hq) ft tk1 fun h' sb hS=>Ej (h h' true sb hS)))
end
end L2
namespace L2
open PySem PySem.Spec PyProof.Rows
theorem jB {P:Ft} {w:FP} {b:Bool} {h h':Gh} {a:Addr} {ks:List Int} (hk:∀ o,h.get? a=some o->h'.get? a=some o) (hS:jr P w b h a ks):jr P w b h' a ks:=by
 obtain⟨o,es,ep,t,ho,r⟩:=hS
 exact⟨o,es,ep,t,hk o ho,r⟩
section
variable {P:Ft} {w:FP} {A:Gd} {R:Result->Eg->Prop} {I:Addr} {fp wr:List Addr} {G:Array GenState->Array GenState->Prop} {n:Nat} {Pv:Nat->Value->Prop} {St:Nat->Eg->Prop} {b:Bool}
theorem wY (W:WalksS P w A.in1 I fp wr G n Pv St) (S:Addr) (hS:S ∉ fp) (val:Nat->Int) (hv:∀ i v,Pv i v->∃ t,v = .int (val i) t) (hb:n+1 < scanBound) :
  ∀ (k i:Nat) (s:Eg),n - i=k->i<=n->St i s->jr P w b s.heap S (firstMet val i)->(∀ s',Moved (S::wr) G s s'->jr P w b s'.heap S (firstMet val n)->R (.ok (.ret .none)) s') →
   GQ (Ey P w) A (.builtin "set.update.loop" ⟨[.ref S,.ref I],[]⟩) R s:=by
 have nw:S ∉ wr:=fun z=>hS (W.sub _ z)
 have sub:∀ x∈wr,x∈S::wr:=fun x hx=>En _ hx
 intro k
 induction k with
 | zero =>
  intro i s hk hi st hs hR
  obtain rfl:i=n:=by lia
  refine Ij F.entry_set_update_loop ?_
  rw[HS JQ _]
  refine (show Eu _ A.in1 (Jw (.ref I) >>= _) _ _ s from Ed (W.done s _ _ st fun s' hm=>?_))
  exact (show Eu _ A.in1 (ret Ht) _ _ s' from Ej (hR s' (hm.mono sub) (jB (fun o e=>hm.heap S o nw e) hs)))
 | succ k ih =>
  intro i s hk hi st hs hR
  have lt:i < n:=by lia
  refine Ij F.entry_set_update_loop ?_
  rw[HS JQ _]
  refine (show Eu _ A.in1 (Jw (.ref I) >>= _) _ _ s from Ed (W.item i s _ _ lt st fun v s' hP st' hm=>?_))
  obtain⟨t,rfl⟩:=hv i v hP
  have hs':=jB (h':=s'.heap) (fun o e=>hm.heap S o nw e) hs
  have room:(firstMet val i).length+1 < scanBound:=by
   have:=firstMet_length_le val i
   lia
  refine (show Eu _ A.in1 (holding [K1 (val i) t] (setAdd S (.int (val i) t)) >>= _) _ _ s' from Ed (Ib ?_))
  unfold setAdd
  refine Ib (Ed ((HW P w).pyHash (k:=val i) (intKind_is _ _ _ _) ?_))
  refine zB (s:={ s' with toks:=s'.toks+1 }) hs' room fun h' r sb hn=>?_
  rw[← firstMet_succ] at hn
  refine Ej ⟨JH JQ _,ih (i+1) _ (by lia) lt (W.frame _ s' _ _ st' (Hi _) fun x hx o e=>?_) hn fun s'' hm'' hs''=>?_⟩
  ·rw[sb.2 x (fun z:x=S=>hS (by rw[← z]; exact hx))]
   exact e
  ·refine hR s'' (Moved.trans W.gtrans ((hm.mono sub).then_heap (Hi _) fun x o hx e=>?_) hm'') hs''
   rw[sb.2 x (fun z:x=S=>hx (by rw[z]; exact Ek))]
   exact e
end
end L2
namespace L2
open PySem PySem.Spec PyProof.Rows
section
variable {P:Ft} {w:FP} {A:Gd} {E:Value->Eg->Prop} {s:Eg}
def wI (w:FP):Bool:=!w.params.followText "set-order"
def newS (w:FP):Hn:={ cls:=.type "set",dict:=none,data:=.set #[] 0 (.fresh 0 0 (wI w)) }
theorem yX (a:Value) {Q₁:Value->Eg->Prop} (h:Q₁ (.ref s.heap.objs.size) { s with heap:=s.heap.push (newS w) }) :
  GQ (Ey P w) A (.call (.builtin "set.__new__") ⟨[.type "set",a],[]⟩) (wants Q₁ E) s:=by
 refine Lf (show Eu _ A.in1 (do checkBuiltinCall "set.__new__" ⟨[.type "set",a],[]⟩; Kc (.builtin "set.__new__" ⟨[.type "set",a],[]⟩)) _ _ s from ?_)
 refine Ed (K8 (PySem.F.newCall_set_1 a) (Ej ⟨JH PySem.F.plain_set_new _,Ij PySem.F.entry_set_new ?_⟩))
 rw[HS PySem.F.plain_set_new _]
 unfold Builtin.«set.__new__» Builtin.Frozenset.newClass; have hsub:=sub_set_self; obtain⟨hp,g,d,tk,os⟩:=s
 dsimp only
 wp_walk
 refine Hm (Ej ?_)
 dsimp only
 simp only[newObj]; refine Ed (wpAny_alloc (Ej ?_))
 exact Ej h
end
end L2
namespace L2
open PySem PySem.Spec PyProof.Rows
section
variable {P:Ft} {w:FP} {A:Gd} {E:Value->Eg->Prop} {s:Eg}
set_option maxRecDepth 100000 in
set_option maxHeartbeats 3200000 in
theorem qw {l:Addr} {items:Array Value} {ns:List Int} {Q:Value->Eg->Prop} (hh:A.handled=none) (hl:s.heap.IsList l items) (hi:Gm items.toList ns) (hb:items.size+1 < scanBound)
  (h:∀ (h':Gh) (tk:Nat),jr P w (wI w) h' s.heap.objs.size (firstMet (fun i=>ns.getD i 0) items.size)->(∀ b o,b < s.heap.objs.size->s.heap.get? b=some o->h'.get? b=some o)->Q (.ref s.heap.objs.size) { s with heap:=h',toks:=tk }) :
  Eu (Ey P w) A (call (.type "set") [.ref l]) Q E s:=by
 obtain⟨c,tl,hmro⟩:=PySem.F.called_set.mro
 have hmade:=PySem.F.called_set.made
 have hsub:=PySem.F.called_set.sub
 refine wpAny_call (Lf (show Eu _ _ (callAny (.type "set") _) _ _ _ from Ej ⟨Code.quiet_builtin _ (by decide+kernel),Ij PySem.F.entry_type_call ?_⟩))
 rw[Around.under_plain (weight_type_call_type "set" [.ref l] []) rfl]
 have h1:=PySem.F.called_set.notType
 have h2:=PySem.F.called_set.canCreate
 have hct:=PySem.F.typeCall_set_1 (.ref l)
 repeat (any_goals (first | assumption | wp_step))
 refine Jt (yX (.ref l) (E:=E) (Q₁:=fun obj s₁=>obj = .ref s.heap.objs.size/\s₁={ s with heap:=s.heap.push (newS w) }) ⟨rfl,rfl⟩) fun r s₁ hr=>?_
 cases r with
 | error e=>exact hr
 | ok fl =>
  cases fl with
  | ret obj =>
   obtain⟨rfl,rfl⟩:=hr
   have gS:(s.heap.push (newS w)).get? s.heap.objs.size=some (newS w):=Ew _ rfl
   have hT:Shared.TypeIs { s with heap:=s.heap.push (newS w) } (.ref s.heap.objs.size) "set":=⟨_,gS,rfl⟩
   have hli:=PySem.F.called_set.init.lookup
   have hbi:=PySem.F.called_set.init.bind (.ref s.heap.objs.size)
   repeat (any_goals (first | assumption | wp_step))
   refine Jt (codeAny_call_builtin (R:=wants (fun r s₂=>r = .none/\∃ h' tk,s₂={ s with heap:=h',toks:=tk }/\jr P w (wI w) h' s.heap.objs.size (firstMet (fun i=>ns.getD i 0) items.size) ∧
     (∀ b o,b < s.heap.objs.size->s.heap.get? b=some o->h'.get? b=some o)) E) PySem.F.called_set.init.plain PySem.F.entry_set_init (check_set_init_1 hT ?_)) fun r₂ s₂ hr₂=>?_
   ·obtain⟨ol,hol,hcl,nl,hdl⟩:=hl
    obtain⟨ocls,odict,odata,oslots⟩:=ol
    simp only at hcl hdl
    subst hcl hdl
    have hol':(s.heap.push (newS w)).get? l=some { cls:=.type "list",dict:=odict,data:=.seq items nl,slots:=oslots }:=Eh _ hol
    have hsls:=PySem.F.sub_list_set
    have hslf:=PySem.F.sub_list_frozenset
    have hne:(Io "list" == Io "dict")=false:=by decide
    have hl1:(s.heap.push (newS w)).IsList l items:=⟨_,hol',rfl,nl,rfl⟩
    have gS':(s.heap.push (newS w)).get? s.heap.objs.size=some { cls:=.type "set",dict:=none,data:=.set #[] 0 (.fresh 0 0 (wI w)) }:=gS
    unfold Builtin.«set.__init__» noKeywords Builtin.Frozenset.updateFrom; generalize hPI:Kh=PI
    wp_walk
    subst hPI
    refine Kr hl1 (Ed (wpAny_runValue ?_))
    have hlS:l < s.heap.objs.size:=Ep hol
    have hh3:A.in1.in1.in1.handled=none:=by simp [hh]
    have hneI:l≠(s.heap.push (newS w)).objs.size:=by
     rw[Hq]
     exact Fl (Hh hlS)
    have hSf:s.heap.objs.size ∉ [(s.heap.push (newS w)).objs.size,l]:=by
     rw[Hq,GD,Ip]
     rintro (z | z)
     ·exact absurd z (Fl (Jg _))
     ·exact absurd z (Ja hlS)
    refine wY (b:=wI w) ((Walks.list hh3 _ l hneI items).toS) s.heap.objs.size hSf (fun i=>ns.getD i 0) (fun i v hv=>IntsAre.int_at hi i v (by rw[Gv]; exact hv)) hb (items.size - 0) 0 _ (by lia) (Fq _)
     ⟨⟨_,Ew _ rfl,rfl,rfl⟩,(hl1.push _)⟩ ?hS0 ?hR
    case hS0=>exact⟨newS w,#[],0,_,Eh _ gS,⟨rfl,rfl,rfl⟩,rfl,(fun e he=>by simp at he),rfl,vm _,[],.nil,.refl _⟩
    case hR =>
     intro s' hm hS'
     obtain⟨h',g',d',tk',os'⟩:=s'
     obtain rfl:g'=s.gens:=hm.gens
     obtain rfl:d'=s.drawn:=hm.drawn
     obtain rfl:os'=s.os:=hm.os
     refine (show Eu _ _ _ _ _ _ from Ej (show Eu _ _ (ret Ht) _ _ _ from Ej ⟨rfl,h',tk',rfl,hS',fun b o hb e=>?_⟩))
     refine hm.heap b o ?_ (Eh _ (Eh _ e))
     rw[GD,Ip,Hq]
     rintro (z | z)
     ·exact absurd z (Fl hb)
     ·exact absurd z (Fl (Hh hb))
   ·cases r₂ with
    | error e=>exact hr₂
    | ok fl₂ =>
     cases fl₂ with
     | ret r =>
      obtain⟨rfl,h',tk,rfl,hS',hk'⟩:=hr₂
      repeat (any_goals (first | assumption | wp_step))
      exact h h' tk hS' hk'
     | _=>exact hr₂.elim
  | _=>exact hr.elim
end
end L2
namespace L2
open PySem PySem.Spec PyProof.Rows
theorem oJ:Manifest.owners.lookup (String.ofList ['r','o','t','a','r','e','t','i','_','t','e','s'].reverse)=some Manifest.sig_set_iterator:=by kernel_rfl
theorem bw:Slot "set_iterator" "__next__" "set_iterator.__next__" :=
 .of (owner:="set_iterator") (n:="__next__") (by rw[typeLookup_type,builtinLookup_eq_fast]; kernel_rfl) (by decide+kernel) (by decide+kernel) (by decide+kernel) (by first | exact .inl (by decide+kernel) | exact .inr (by decide+kernel)) (by rw[isSubtype_type]; kernel_rfl)
theorem dj:entryFor table "set_iterator.__next__" = some Builtin.«set_iterator.__next__»:=entryFor_of_tree (by kernel_rfl)
theorem dG (a:Value):argsOk "set_iterator.__next__" ⟨[a],[]⟩:=by
 unfold argsOk
 rw[signature?_of (id:="set_iterator.__next__") (n:=['_','_','t','x','e','n','_','_']) (o:=['r','o','t','a','r','e','t','i','_','t','e','s']) (by kernel_rfl) oJ]
 kernel_rfl
theorem gn:Slot "set_iterator" "__iter__" "set_iterator.__iter__" :=
 .of (owner:="set_iterator") (n:="__iter__") (by rw[typeLookup_type,builtinLookup_eq_fast]; kernel_rfl) (by decide+kernel) (by decide+kernel) (by decide+kernel) (by first | exact .inl (by decide+kernel) | exact .inr (by decide+kernel)) (by rw[isSubtype_type]; kernel_rfl)
theorem jY:entryFor table "set_iterator.__iter__" = some Builtin.«dict_keyiterator.__iter__»:=entryFor_alias (id':="dict_keyiterator.__iter__") (by kernel_rfl) rfl (by decide+kernel) (by kernel_rfl)
theorem kh (a:Value):argsOk "set_iterator.__iter__" ⟨[a],[]⟩:=by
 unfold argsOk
 rw[signature?_of (id:="set_iterator.__iter__") (n:=['_','_','r','e','t','i','_','_']) (o:=['r','o','t','a','r','e','t','i','_','t','e','s']) (by kernel_rfl) oJ]
 kernel_rfl
theorem kj:entryFor table "set.__iter__" = some Builtin.«frozenset.__iter__»:=entryFor_alias (id':="frozenset.__iter__") (by kernel_rfl) rfl (by decide+kernel) (by kernel_rfl)
theorem jJ {α:Type}:∀ (l:List α) (j:Nat) (h:j < l.length),(l[j]::l.eraseIdx j).Perm l
 | a::r,0,_=>.refl _
 | a::r,j+1,h=>by
  have ih:=jJ r j (JX h)
  rw[List.getElem_cons_succ,List.eraseIdx_cons_succ]
  exact (List.Perm.swap _ _ _).trans (ih.cons a)
theorem pU {α:Type} (nx:Nat->Nat):∀ (fuel k:Nat) (left:List α) (out:Array α),left.length<=fuel->(pickOrder.go nx fuel k left out).toList.Perm (out.toList++left)
 | 0,k,left,out,h=>by
  rw[pickOrder.go]
  have e:left=[]:=La (by lia)
  subst e
  rw[Hx]
 | fuel+1,k,left,out,h=>by
  rw[pickOrder.go]
  cases hl:left with
  | nil =>
   simp
  | cons a r =>
   have hlen:nx k % (a::r).length < (a::r).length:=Nat.mod_lt _ (by simp)
   rw[Ff hlen]
   dsimp only
   generalize nx k % (a::r).length=j at hlen ⊢
   have ih:=pU nx fuel (k+1) ((a::r).eraseIdx j) (out.push (a::r)[j]) (by rw[List.length_eraseIdx_of_lt hlen,← hl]; lia)
   refine ih.trans ?_
   rw[Array.toList_push,Fg]
   refine List.Perm.append (.refl _) ?_
   show ((a::r)[j]::(a::r).eraseIdx j).Perm (a::r)
   exact jJ _ j hlen
theorem lu {α:Type} (nx:Nat->Nat) (xs:Array α):(Je nx xs).toList.Perm xs.toList:=by
 unfold Je
 have:=pU nx xs.size 0 xs.toList #[] (by rw[FQ]; exact Ei _)
 simpa using this
section
variable {P:Ft} {w:FP} {A:Gd} {E:Value->Eg->Prop} {s:Eg}
theorem oK {α:Type} {Q:List α->Eg->Prop}:∀ (n:Nat) (xs:List α) (s:Eg),xs.length=n->(∀ ys d,ys.Perm xs->Q ys { s with drawn:=d })->Eu (Ey P w) A (drawOrder n xs) Q E s
 | 0,xs,s,h,hq=>by
  rw[drawOrder]
  have e:xs=[]:=La h
  subst e
  exact Ej (hq [] s.drawn (.refl _))
 | n+1,[],s,h,hq=>by cases h
 | n+1,x::xs,s,h,hq=>by
  rw[drawOrder]
  ·refine Ed (fun Γ p hΓ=>?_)
   show Sem.wp _ _ (.choose .order (x::xs).length .pure) _ _ _ _
   rw[Sem.wp_choose]
   refine⟨by simp,?_⟩
   rw[Sem.wp_pure]
   generalize (Ey P w).w.draws .order (s.drawn.get .order)=z
   have hlen:z % (x::xs).length < (x::xs).length:=Nat.mod_lt _ (by simp)
   generalize z % (x::xs).length=j at hlen ⊢
   show Eu _ _ _ _ _ _
   rw[Ff hlen]
   dsimp only
   refine Ed (oK n ((x::xs).eraseIdx j) _ (by rw[List.length_eraseIdx_of_lt hlen]; rw[El] at h ⊢; lia) fun ys d p=>Ej ?_)
   exact hq _ d ((p.cons _).trans (jJ _ j hlen))
  ·simp
end
end L2
namespace L2
open PySem PySem.Spec PyProof.Rows
def SIt (h:Gh) (I S:Addr) (f:Value) (i n ep:Nat):Prop:=h.get? I=some { cls:=.type "set_iterator",dict:=none,data:=.fields #[f,.int i 0,.ref S,.int n 0,.int ep 0],slots:=#[] }
section
variable {P:Ft} {w:FP} {A:Gd} {E:Value->Eg->Prop} {s:Eg} {I S:Addr} {o:Hn} {es:Array (Int × Value)} {ep:Nat} {t:HQ}
theorem mK {sl:Int} {tk:K3} {i:Nat} {Q:Option Value->Eg->Prop} {r:Option (Value × Nat)} (hh:A.handled=none) (hI:SIt s.heap I S (.int sl tk) i es.size ep) (hS:s.heap.get? S=some o) (hd:o.data = .set es ep t) (hf:t.fits es.size=true)
  (hn:∀ (A:Gd) (E:Value->Eg->Prop) (Q:Option (Value × Nat)->Eg->Prop),Q r s->Eu (Ey P w) A (Lp S sl.toNat i ep) Q E s)
  (hs:∀ x j h',r=some (x,j)->SIt h' I S (.int (j:Nat) 0) (i+1) es.size ep->JZ I s.heap h'->Q (some x) { s with heap:=h' }) (he:∀ h',r=none->Heap.ExtBut I s.heap h'->Q none { s with heap:=h' }):Eu (Ey P w) A (Jw (.ref I)) Q E s:=by
 have hT:s.TypeIs (.ref I) "set_iterator":=⟨_,hI,rfl⟩
 unfold Jw
 refine Ed (wpAny_attempt (Iu (name:=JT "__next__") hT bw (Hl bw hT dj ?_ (dG _))))
 refine (show Eu _ _ (fieldsOf (.ref I) >>= _) _ _ s from Ed (wpAny_fieldsOf hI rfl ?_))
 refine (show Eu _ _ (setEntries S >>= _) _ _ s from Ed (Jr hS hd hf ?_))
 rw[if_neg (by simp)]
 refine (show Eu _ _ (Lp S sl.toNat (i:Int).toNat (ep:Int).toNat >>= _) _ _ s from Ed ?_)
 rw[Gj,Gj]
 refine hn _ _ _ ?_
 cases hr:r with
 | some xj =>
  obtain⟨x,j⟩:=xj
  dsimp only
  refine Ed (Iz hI rfl (by simp) ?_)
  have g1:=Gu (Ke (·.setIfInBounds 0 (GP (j:Int)))) hI rfl
  refine Ed (Iz g1 rfl (by simp) ?_)
  have g2:=Gu (Ke (·.setIfInBounds 1 (GP ((i:Int)+1)))) g1 rfl
  refine Ej ⟨x,rfl,Ej (hs x j _ hr ?_ ((GK ..).trans (GK ..)))⟩
  exact g2
 | none =>
  dsimp only
  refine Ed (Iz hI rfl (by simp) ?_)
  refine (show Eu _ _ (newExc (.type "StopIteration") [] >>= _) _ _ _ from Ed ?_)
  simp only[newExc,newTuple]
  refine Ed (Fz ?_ (by size_fits))
  refine Ed (m:=J5 _ _) (K8 (a:=Ht) (by first | rfl | (simp only[J5]; rfl)) (Fz ?_ (by size_fits)))
  simp only[raiseNew]
  refine Ed (wpAny_handled ?_)
  first | rw[show A.in1.handled=none from hh] | rw[hh]
  refine Ed (Ej (wpAny_throw ?_))
  refine Ed (KR (T:="StopIteration") (b:=true) ⟨_,Ew _ rfl,rfl⟩ isSubtype_stop (Ej ?_))
  exact he _ hr (((GK ..).extBut.push _).push _)
end
end L2
namespace L2
open PySem PySem.Spec PyProof.Rows
section
variable {P:Ft} {w:FP} {A:Gd} {E:Value->Eg->Prop} {s:Eg} {I S:Addr} {o:Hn} {es:Array (Int × Value)} {ep:Nat} {t:HQ}
theorem o6 {sl i:Nat} {Q:Option (Value × Nat)->Eg->Prop} (hb:w.params.followText "set-order" = true) (hS:s.heap.get? S=some o) (hd:o.data = .set es ep t) (hf:t.fits es.size=true)
  (h:Q (((Je (w.params.setOrder S ep) es)[i]?).map fun e=>(e.2,sl)) s):Eu (Ey P w) A (Lp S sl i ep) Q E s:=by
 unfold Lp
 refine Ed (HH hS hd hf ?_)
 dsimp only
 unfold setsByText
 refine Ed (Ed (Hm (Ej ?_)))
 rw[if_pos (show (Ey P w).w.params.followText "set-order" = true from hb),if_neg (by simp)]
 unfold setWalk
 refine Ed (Ed (HH hS hd hf ?_))
 dsimp only
 unfold setsByText
 refine Ed (Ed (Hm (Ej ?_)))
 rw[if_pos (show (Ey P w).w.params.followText "set-order" = true from hb)]
 exact Ed (Hm (Ej (Ej h)))
theorem mC {sl i:Nat} {Q:Option (Value × Nat)->Eg->Prop} (hb:w.params.followText "set-order" = false) (hS:s.heap.get? S=some o) (hd:o.data = .set es ep t) (hf:t.fits es.size=true) (hl:t.led=true)
  (hp:t.plain=true∨es.size<=1) (hi:Ge t.place sl=i)
  (h:Q (match es[i]?,t.place[i]? with | some (_,x),some j=>some (x,j+1) | _,_=>none) s):Eu (Ey P w) A (Lp S sl i ep) Q E s:=by
 unfold Lp
 refine Ed (HH hS hd hf ?_)
 dsimp only
 unfold setsByText
 refine Ed (Ed (Hm (Ej ?_)))
 rw[if_neg (show ¬ (Ey P w).w.params.followText "set-order" = true by rw[show (Ey P w).w.params.followText "set-order" = false from hb]; exact Et)]
 have hdr:(!t.plain && decide (es.size > 1))=false:=by
  rcases hp with q | q
  ·rw[q]
   rfl
  ·rw[decide_eq_false (by lia),Bool.and_false]
 refine J2 (show decide ((!t.plain && decide (es.size > 1))=true)=false from decide_eq_false (by rw[hdr]; exact Et)) ?_
 refine Ed (show Eu _ _ (if (!t.led && !es.isEmpty)=true then unsupported "set:maker-not-led" else pure ()) _ _ _ from ?_)
 rw[hl]
 refine J2 (decide_eq_false (by simp)) (Ej (Ej ?_))
 rw[hi]
 exact h
theorem nJ {f:Value} {i n:Nat} {Q:Value->Eg->Prop} (hI:SIt s.heap I S f i n ep) (h:Q (.ref I) s):Eu (Ey P w) A (Kh (.ref I)) Q E s:=by
 have hT:s.TypeIs (.ref I) "set_iterator":=⟨_,hI,rfl⟩
 refine wpAny_pyIter_slot hT gn (Hl gn hT jY (show Eu _ _ (ret (.ref I)) _ _ s from ?_) (kh _))
 exact Ej ⟨_,rfl,"set_iterator",_,hT,bw.lookup,h⟩
theorem v9 (hh:A.handled=none) (hne:S≠I) (hb:w.params.followText "set-order" = true) (hd:o.data = .set es ep t) (hf:t.fits es.size=true) :
  Walks P w A I [I,S] [I] es.size (fun i v=>((Je (w.params.setOrder S ep) es).toList.map (·.2))[i]? = some v) (fun i h=>(∃ (sl:Nat) (tk:K3),SIt h I S (.int (sl:Int) tk) i es.size ep)/\h.get? S=some o) where
 sub:=fun b hb=>by simp at hb; simp [hb]
 frame:=fun i h h' st hk=>by
  obtain⟨⟨sl,tk,hI⟩,hS⟩:=st
  exact⟨⟨sl,tk,hk I (by simp) _ hI⟩,hk S (by simp) _ hS⟩
 item:=fun i s Q E hi st hQ=>by
  obtain⟨⟨sl,tk,hI⟩,hS⟩:=st
  have pl:(Je (w.params.setOrder S ep) es).size=es.size:=by
   have:=(lu (w.params.setOrder S ep) es).length_eq
   simpa using this
  have hx:(Je (w.params.setOrder S ep) es)[i]? = some ((Je (w.params.setOrder S ep) es)[i]'(by lia)):=Ex _
  generalize (Je (w.params.setOrder S ep) es)[i]'(by lia)=x at hx
  refine mK (r:=some (x.2,sl)) hh hI hS hd hf (fun A E Q q=>?_) (fun v j h' hr hI' sb=>?_) (fun h' hr _=>by cases hr)
  ·refine o6 hb hS hd hf ?_
   rw[Gj,hx]
   exact q
  ·cases hr
   refine hQ _ h' s.toks ?_ ⟨⟨sl,0,hI'⟩,sb.2 S hne▸hS⟩ fun b o' hb' e=>?_
   ·rw[Fd,Gv,hx]
    rfl
   ·rw[sb.2 b (fun z=>hb' (by rw[z]; exact List.mem_singleton.mpr rfl))]
    exact e
 done:=fun s Q E st hQ=>by
  obtain⟨⟨sl,tk,hI⟩,hS⟩:=st
  have pl:(Je (w.params.setOrder S ep) es).size=es.size:=by
   have:=(lu (w.params.setOrder S ep) es).length_eq
   simpa using this
  refine mK (r:=none) hh hI hS hd hf (fun A E Q q=>?_) (fun v j h' hr=>by cases hr) (fun h' _ hx=>?_)
  ·refine o6 hb hS hd hf ?_
   rw[Hw (by lia)]
   exact q
  ·exact hQ h' s.toks fun b o' hb' e=>hx b o' (fun z=>hb' (by rw[z]; exact List.mem_singleton.mpr rfl)) e
 self:=fun i s Q E st hQ=>by
  obtain⟨⟨sl,tk,hI⟩,_⟩:=st
  exact nJ hI hQ
def slotAt (pl:Array Nat):Nat->Nat
 | 0=>0
 | i+1=>pl.getD i 0+1
theorem jV {pl:Array Nat} (h:Ris pl):∀ {i:Nat},i<=pl.size->Ge pl (slotAt pl i)=i
 | 0,_=>tO h
 | i+1,hi=>by
  have e:pl[i]? = some (pl.getD i 0):=by
   rw[Ex (by lia),Gn,Ex (by lia)]
   rfl
  exact below_at h e
theorem ue (hh:A.handled=none) (hne:S≠I) (hb:w.params.followText "set-order" = false) (hd:o.data = .set es ep t) (hf:t.fits es.size=true) (hl:t.led=true) (hp:t.plain=true∨es.size<=1) (hr:Ris t.place) :
  Walks P w A I [I,S] [I] es.size (fun i v=>(es.toList.map (·.2))[i]? = some v) (fun i h=>(∃ tk:K3,SIt h I S (.int (slotAt t.place i:Nat) tk) i es.size ep)/\h.get? S=some o) where
 sub:=fun b hb=>by simp at hb; simp [hb]
 frame:=fun i h h' st hk=>by
  obtain⟨⟨tk,hI⟩,hS⟩:=st
  exact⟨⟨tk,hk I (by simp) _ hI⟩,hk S (by simp) _ hS⟩
 item:=fun i s Q E hi st hQ=>by
  obtain⟨⟨tk,hI⟩,hS⟩:=st
  have ps:t.place.size=es.size:=by
   simp only[SetTable.fits,Gg,beq_iff_eq] at hf
   exact hf.1
  have hx:es[i]? = some es[i]:=Ex hi
  have hj:t.place[i]? = some (t.place.getD i 0):=by
   rw[Ex (by lia),Gn,Ex (by lia)]
   rfl
  generalize es[i]=x at hx
  obtain⟨k,v⟩:=x
  refine mK (r:=some (v,t.place.getD i 0+1)) hh hI hS hd hf (fun A E Q q=>?_) (fun u j h' hr hI' sb=>?_) (fun h' hr _=>by cases hr)
  ·refine mC hb hS hd hf hl hp (i:=i) (by rw[Gj]; exact jV hr (by lia)) ?_
   rw[hx,hj]
   exact q
  ·cases hr
   refine hQ _ h' s.toks ?_ ⟨⟨0,hI'⟩,sb.2 S hne▸hS⟩ fun b o' hb' e=>?_
   ·rw[Fd,Gv,hx]
    rfl
   ·rw[sb.2 b (fun z=>hb' (by rw[z]; exact List.mem_singleton.mpr rfl))]
    exact e
 done:=fun s Q E st hQ=>by
  obtain⟨⟨tk,hI⟩,hS⟩:=st
  have ps:t.place.size=es.size:=by
   simp only[SetTable.fits,Gg,beq_iff_eq] at hf
   exact hf.1
  refine mK (r:=none) hh hI hS hd hf (fun A E Q q=>?_) (fun v j h' hr=>by cases hr) (fun h' _ hx=>?_)
  ·refine mC hb hS hd hf hl hp (i:=es.size) (by rw[Gj]; exact jV hr (by lia)) ?_
   rw[Hw (Ei _)]
   exact q
  ·exact hQ h' s.toks fun b o' hb' e=>hx b o' (fun z=>hb' (by rw[z]; exact List.mem_singleton.mpr rfl)) e
 self:=fun i s Q E st hQ=>by
  obtain⟨⟨tk,hI⟩,_⟩:=st
  exact nJ hI hQ
end
end L2
namespace L2
open PySem PySem.Spec PyProof.Rows
section
variable {P:Ft} {w:FP} {A:Gd} {E:Value->Eg->Prop} {s:Eg} {I S T:Addr} {o:Hn} {es:Array (Int × Value)} {ep:Nat} {t:HQ}
def cI (pl:List Nat):List Value:=pl.map fun j:Nat=>GP (j:Int)
theorem um {pl:List Nat} (hh:A.handled=none) (hne:S≠I) (hnt:T≠I) (hd:o.data = .set es ep t) (hf:t.fits es.size=true) (hp:pl.Perm (Gx es.size)) :
  Walks P w A I [I,S,T] [I] es.size (fun i v=>(pl.map fun j=>(es.getD j (0,.none)).2)[i]? = some v) (fun i h=>SIt h I S (.ref T) i es.size ep/\h.get? S=some o/\h.IsTuple T (cI pl).toArray) where
 sub:=fun b hb=>by simp at hb; simp [hb]
 frame:=fun i h h' st hk=>by
  obtain⟨hI,hS,o',ho',r⟩:=st
  exact⟨hk I (by simp) _ hI,hk S (by simp) _ hS,o',hk T (by simp) _ ho',r⟩
 item:=fun i s Q E hi st hQ=>by
  obtain⟨hI,hS,hT⟩:=st
  have lp:pl.length=es.size:=by rw[hp.length_eq,GJ]
  have hT0:s.TypeIs (.ref I) "set_iterator":=⟨_,hI,rfl⟩
  obtain⟨j,hj⟩:∃ j,pl[i]? = some j:=⟨pl[i],Ff (by lia)⟩
  have hj2:j < es.size:=List.mem_range.mp (hp.mem_iff.mp (Fj hj))
  have hx:es[j]? = some (es.getD j (0,.none)):=by
   rw[Ex hj2,Gn,Ex hj2]
   rfl
  obtain⟨ot,hot,hct,nt,hdt⟩:=id hT
  unfold Jw
  refine Ed (wpAny_attempt (Iu (name:=JT "__next__") hT0 bw (Hl bw hT0 dj ?_ (dG _))))
  refine (show Eu _ _ (fieldsOf (.ref I) >>= _) _ _ s from Ed (wpAny_fieldsOf hI rfl ?_))
  refine (show Eu _ _ (setEntries S >>= _) _ _ s from Ed (Jr hS hd hf ?_))
  rw[if_neg (by simp)]
  refine (show Eu _ _ (seqItems? (.ref T) >>= _) _ _ s from Ed (wpAny_seqItems hot hdt ?_))
  have hpl:(cI pl).toArray[(i:Int).toNat]? = some (.int (j:Int) 0):=by
   rw[Gj,J4]
   show (pl.map fun j:Nat=>GP (j:Int))[i]? = _
   rw[Fd,hj]
   rfl
  dsimp only
  rw[hpl]
  dsimp only
  refine Ed (show Eu _ _ (setNextDrawn S (j:Int).toNat (ep:Int).toNat) _ _ _ from ?_)
  unfold setNextDrawn
  refine Ed (HH hS hd hf ?_)
  dsimp only
  rw[Gj,Gj,if_neg (by simp),hx]
  refine Ej (Ed (Iz hI rfl (by simp) ?_))
  have g1:=Gu (Ke (·.setIfInBounds 1 (GP ((i:Int)+1)))) hI rfl
  refine Ej ⟨_,rfl,Ej (hQ _ _ s.toks ?_ ⟨g1,?_,?_⟩ fun b o' hb' e=>?_)⟩
  ·rw[Fd,hj]
   rfl
  ·rw[GX _ _ (Jh hne)]
   exact hS
  ·exact⟨ot,by rw[GX _ _ (Jh hnt)]; exact hot,hct,nt,hdt⟩
  ·rw[GX _ _ (fun z:I=b=>hb' (by rw[z]; exact List.mem_singleton.mpr rfl))]
   exact e
 done:=fun s Q E st hQ=>by
  obtain⟨hI,hS,hT⟩:=st
  have lp:pl.length=es.size:=by rw[hp.length_eq,GJ]
  have hT0:s.TypeIs (.ref I) "set_iterator":=⟨_,hI,rfl⟩
  obtain⟨ot,hot,hct,nt,hdt⟩:=id hT
  unfold Jw
  refine Ed (wpAny_attempt (Iu (name:=JT "__next__") hT0 bw (Hl bw hT0 dj ?_ (dG _))))
  refine (show Eu _ _ (fieldsOf (.ref I) >>= _) _ _ s from Ed (wpAny_fieldsOf hI rfl ?_))
  refine (show Eu _ _ (setEntries S >>= _) _ _ s from Ed (Jr hS hd hf ?_))
  rw[if_neg (by simp)]
  refine (show Eu _ _ (seqItems? (.ref T) >>= _) _ _ s from Ed (wpAny_seqItems hot hdt ?_))
  have hpl:(cI pl).toArray[(es.size:Int).toNat]? = none:=by
   rw[Gj,J4]
   show (pl.map fun j:Nat=>GP (j:Int))[es.size]? = _
   rw[Fd,HD (by lia)]
   rfl
  dsimp only
  rw[hpl]
  dsimp only
  refine Ed (Iz hI rfl (by simp) ?_)
  have g1:=Gu (Ke (·.setIfInBounds 0 (GP 0))) hI rfl
  refine Ed (Iz g1 rfl (by simp) ?_)
  refine (show Eu _ _ (newExc (.type "StopIteration") [] >>= _) _ _ _ from Ed ?_)
  simp only[newExc,newTuple]
  refine Ed (Fz ?_ (by size_fits))
  refine Ed (m:=J5 _ _) (K8 (a:=Ht) (by first | rfl | (simp only[J5]; rfl)) (Fz ?_ (by size_fits)))
  simp only[raiseNew]
  refine Ed (wpAny_handled ?_)
  first | rw[show A.in1.handled=none from hh] | rw[hh]
  refine Ed (Ej (wpAny_throw ?_))
  refine Ed (KR (T:="StopIteration") (b:=true) ⟨_,Ew _ rfl,rfl⟩ isSubtype_stop (Ej ?_))
  refine hQ _ s.toks fun b o' hb' e=>?_
  have hbI:b≠I:=fun z=>hb' (by rw[z]; exact List.mem_singleton.mpr rfl)
  exact ((((GK ..).trans (GK ..)).extBut.push _).push _) b o' hbI e
 self:=fun i s Q E st hQ=>nJ st.1 hQ
end
end L2
namespace L2
open PySem PySem.Spec PyProof.Rows
section
variable {P:Ft} {w:FP} {A:Gd} {E:Value->Eg->Prop} {s:Eg} {S:Addr}
theorem xQ {Q:Bool->Eg->Prop} (hT:s.TypeIs (.ref S) "set") (h:Q false s):Eu (Ey P w) A (Lw (.ref S)) Q E s:=by
 unfold Lw; refine Ed (wpAny_specialOf hT PySem.F.slot_set_len.lookup ?_)
 generalize hid:("set.__len__" : String)=id0
 wp_delta
 rw[show splitId id0=some ("set","__len__") from by subst hid; decide+kernel]
 subst hid
 refine Ed (KR (T:="set") (b:=true) hT (by rw[isSubtype_type]; kernel_rfl) ?_)
 refine Lb (fun z=>absurd z (by decide)) (fun _=>Lb (fun _=>?_) (fun z=>absurd (by decide+kernel) z))
 exact Ed (wpAny_typeOf hT (Ej h))
theorem xm {b:Bool} {ks:List Int} {Q:Value->Eg->Prop} (hh:A.handled=none) (hb:b=wI w) (hS:jr P w b s.heap S ks) (hz:ks.length<=sizeLine)
  (h:∀ (I:Addr) (fp:List Addr) (n:Nat) (vs:List Value) (ns:List Int) (St:Nat->Gh->Prop) (s':Eg),Walks P w A I fp [I] n (fun i v=>vs[i]? = some v) St->St 0 s'.heap->Gm vs ns->ns.Perm ks->vs.length=n->(∀ x∈fp,x=S∨s.heap.objs.size<=x)->s.heap.objs.size<=I →
   s'.os=s.os->s'.gens=s.gens->(∀ b o,s.heap.get? b=some o->s'.heap.get? b=some o)->Q (.ref I) s'):Eu (Ey P w) A (Kh (.ref S)) Q E s:=by
 obtain⟨o,es,ep,t,ho,hx,hd,hel,hf,tk,ns,hi,hp⟩:=hS
 have hT:s.TypeIs (.ref S) "set":=⟨o,ho,hx.1⟩
 have hlt:S < s.heap.objs.size:=Ep ho
 refine wpAny_pyIter_slot hT PySem.F.slot_set_iter (Hl PySem.F.slot_set_iter hT kj ?_ (PySem.F.args_set_iter_1 _))
 refine (show Eu _ _ (Builtin.Frozenset.sizeOf S >>= _) _ _ s from ?_)
 unfold Builtin.Frozenset.sizeOf
 refine Ed (Ed (Jr ho hd hf (Ej ?_)))
 unfold setDrawn setsByText
 refine Ed (Ed (HH ho hd hf ?_))
 dsimp only
 refine Ed (Ed (Hm (Ej (Ej ?_))))
 have hps:t.place.size=es.size:=by
  simp only[SetTable.fits,Gg,beq_iff_eq] at hf
  exact hf.1
 have hlen:(es.toList.map (·.2)).length=es.size:=by rw[Eb,FQ]
 have hez:es.size<=sizeLine:=by
  have h1:=hi.length
  have h2:=hp.length_eq
  lia
 have start:∀ (vs:List Value) (ns':List Int) (St:Nat->Gh->Prop),Walks P w A s.heap.objs.size [s.heap.objs.size,S] [s.heap.objs.size] es.size (fun i v=>vs[i]? = some v) St->(∀ h,SIt h s.heap.objs.size S (.int (0:Nat) 0) 0 es.size ep->h.get? S=some o->St 0 h) →
   Gm vs ns'->ns'.Perm ks->vs.length=es.size->Eu (Ey P w) A.in1 (do
    let first ← pure (GP 0)
    let e ← setEpoch S
    let r ← newFields "set_iterator" [first,GP 0,GZ S,GP (es.size:Int),GP (e:Int)]
    ret r) (fun fin s'=>∃ v,fin=Fin.done (Flow.ret v)/\∃ T' r,s'.TypeIs v T'/\typeLookup (Io T') (JT "__next__")=pure (some r)/\Q v s') E s:=fun vs ns' St W hst hi' hp' hl'=>by
  refine Ed (Ej (Ed (wpAny_setEpoch_of ho hd hf (Ed (Fz (Ej ?_))))))
  have g:(s.heap.push { cls:=.type "set_iterator",data:=.fields [GP 0,GP 0,GZ S,GP (es.size:Int),GP (ep:Int)].toArray }).get? s.heap.objs.size=some { cls:=.type "set_iterator",data:=.fields [GP 0,GP 0,GZ S,GP (es.size:Int),GP (ep:Int)].toArray }:=Ew _ rfl
  refine⟨_,rfl,"set_iterator",_,⟨_,g,rfl⟩,bw.lookup,?_⟩
  refine h s.heap.objs.size [s.heap.objs.size,S] es.size vs ns' St _ W (hst _ g (Eh _ ho)) hi' hp' hl' (fun x hx'=>?_) (Ei _) rfl rfl fun b' o' e=>Eh _ e
  rcases List.mem_cons.mp hx' with rfl | hx'
  ·exact .inr (Ei _)
  ·exact .inl (List.mem_singleton.mp hx')
 have hne:S≠s.heap.objs.size:=Fl hlt
 cases hB:w.params.followText "set-order" with
 | true =>
  refine J2 (decide_eq_false (show ¬ (!w.params.followText "set-order" && (!t.plain && decide (es.size > 1)))=true by rw[hB]; exact Et)) ?_
  have pp:=lu (w.params.setOrder S ep) es
  obtain⟨ms,h1,h2⟩:=dN (pp.symm.map (·.2)) hi
  exact start _ ms _ (v9 hh hne hB hd hf) (fun h' q1 q2=>⟨⟨0,0,q1⟩,q2⟩) h1 (h2.trans hp) (by rw[Eb,pp.length_eq,FQ])
 | false =>
  have hled:t.led=true:=by
   rw[tk.led,hb]
   unfold wI
   rw[hB]
   rfl
  cases hD:(!t.plain && decide (es.size > 1)) with
  | false =>
   refine J2 (decide_eq_false (show ¬ (!w.params.followText "set-order" && (!t.plain && decide (es.size > 1)))=true by rw[hD,Bool.and_false]; exact Et)) ?_
   have hpl:t.plain=true∨es.size<=1:=by
    rw[Bool.and_eq_false_iff] at hD
    rcases hD with q | q
    ·exact .inl (by simpa using q)
    ·exact .inr (by have:=of_decide_eq_false q; lia)
   have hris:Ris t.place:=by
    rcases hpl with q | q
    ·exact tk.ris q
    ·unfold Ris
     have hl1:t.place.toList.length<=1:=by rw[FQ]; lia
     generalize t.place.toList=l at hl1
     match l,hl1 with
     | [],_=>exact KJ
     | [x],_=>exact List.pairwise_singleton _ _
   exact start _ ns _ (ue hh hne hB hd hf hled hpl hris) (fun h' q1 q2=>⟨⟨0,q1⟩,q2⟩) hi hp hlen
  | true =>
   refine wpAny_ite_true (decide_eq_true (show (!w.params.followText "set-order" && (!t.plain && decide (es.size > 1)))=true by rw[hD,hB]; rfl)) ?_
   refine Ed (oK es.size (Gx es.size) s GJ fun pl d pp=>?_)
   simp only[newTuple]
   have lp:pl.length=es.size:=by rw[pp.length_eq,GJ]
   refine Ed (Fz ?_ (show (cI pl).toArray.size<=sizeLine by unfold cI; rw[Fb,Eb]; lia))
   have sz1:(s.heap.push { cls:=.type "tuple",data:=.seq (cI pl).toArray }).objs.size=s.heap.objs.size+1:=Hq _ _
   have gT:(s.heap.push { cls:=.type "tuple",data:=.seq (cI pl).toArray }).get? s.heap.objs.size=some { cls:=.type "tuple",data:=.seq (cI pl).toArray }:=Ew _ rfl
   have ho1:(s.heap.push { cls:=.type "tuple",data:=.seq (cI pl).toArray }).get? S=some o:=Eh _ ho
   refine Ed (wpAny_setEpoch_of (o:=o) (es:=es) (t:=t) ho1 hd hf (Ed (Fz (Ej ?_))))
   have g:((s.heap.push { cls:=.type "tuple",data:=.seq (cI pl).toArray }).push { cls:=.type "set_iterator",data:=.fields [GZ s.heap.objs.size,GP 0,GZ S,GP (es.size:Int),GP (ep:Int)].toArray }).get? (s.heap.push { cls:=.type "tuple",data:=.seq (cI pl).toArray }).objs.size=some { cls:=.type "set_iterator",data:=.fields [GZ s.heap.objs.size,GP 0,GZ S,GP (es.size:Int),GP (ep:Int)].toArray }:=Ew _ rfl
   refine⟨_,rfl,"set_iterator",_,⟨_,g,rfl⟩,bw.lookup,?_⟩
   have hne1:S≠(s.heap.push { cls:=.type "tuple",data:=.seq (cI pl).toArray }).objs.size:=by
    rw[sz1]
    exact Fl (Hh hlt)
   have hne2:s.heap.objs.size≠(s.heap.push { cls:=.type "tuple",data:=.seq (cI pl).toArray }).objs.size:=by
    rw[sz1]
    exact Fl (Jg _)
   have hv:(pl.map fun j=>(es.getD j (0,.none)).2).Perm (es.toList.map (·.2)):=by
    refine (pp.map _).trans ?_
    have e:(Gx es.size).map (fun j=>(es.getD j (0,Ht)).2)=es.toList.map (·.2):=by
     apply List.ext_getElem?
     intro i
     have ea:es.toList[i]? = es[i]?:=Gv
     rw[Fd,Fd,ea]
     by_cases hi':i < es.size
     ·rw[List.getElem?_range hi',Ex hi']
      simp [Gn,Ex hi']
     ·have er:(Gx es.size)[i]? = none:=HD (by rw[GJ]; lia)
      rw[er,Hw (by lia)]
      rfl
    rw[e]
   have le1:s.heap.objs.size<=(s.heap.push { cls:=.type "tuple",data:=.seq (cI pl).toArray }).objs.size:=by
    rw[sz1]
    exact Hi _
   obtain⟨ms,h1,h2⟩:=dN hv.symm hi
   refine h _ [(s.heap.push { cls:=.type "tuple",data:=.seq (cI pl).toArray }).objs.size,S,s.heap.objs.size] es.size _ ms _ _ (um (T:=s.heap.objs.size) hh hne1 hne2 hd hf pp) ⟨g,Eh _ ho1,_,Eh _ gT,rfl,0,rfl⟩ h1 (h2.trans hp) (by rw[Eb]; exact lp) (fun x hx'=>?_) le1 rfl rfl fun b' o' e=>Eh _ (Eh _ e)
   rcases List.mem_cons.mp hx' with rfl | hx'
   ·exact .inr le1
   ·rcases List.mem_cons.mp hx' with rfl | hx'
    ·exact .inl rfl
    ·exact .inr (by rw[List.mem_singleton.mp hx']; exact Ei _)
theorem qy {ks:List Int} {Q:List Value->Eg->Prop} (hh:A.handled=none) (hS:jr P w (wI w) s.heap S ks) (hz:ks.length<=sizeLine)
  (h:∀ (vs:List Value) (ns:List Int) (s':Eg),Gm vs ns->ns.Perm ks->s.heap.objs.size<=s'.heap.objs.size->s'.os=s.os->s'.gens=s.gens->(∀ b o,s.heap.get? b=some o->s'.heap.get? b=some o)->Q vs s'):Eu (Ey P w) A (collect (.ref S)) Q E s:=by
 obtain⟨o,es,ep,t,ho,hx,_⟩:=id hS
 have hlt:S < s.heap.objs.size:=Ep ho
 have hSl:s.heap.objs.size≠S:=Ja hlt
 unfold collect
 refine Ed (wpAny_runValue (Ij PySem.F.entry_proto_collect ?_))
 rw[HS PySem.F.plain_proto_collect _]
 refine (show Eu _ A.in1 (newList [] >>= fun l=>Kc (.builtin "list.__iadd__" ⟨[l,.ref S],[]⟩)) _ _ s from Ed (Fz ?_))
 refine Ej ⟨JH PySem.F.plain_list_iadd _,Ij PySem.F.entry_list_iadd ?_⟩
 rw[HS PySem.F.plain_list_iadd _]
 generalize hN:s.heap.push { cls:=.type "list",data:=.seq ([]:List Value).toArray }=h1
 have gL:h1.get? s.heap.objs.size=some { cls:=.type "list",data:=.seq ([]:List Value).toArray }:=by rw[← hN]; exact Ew _ rfl
 have k1:∀ b o,s.heap.get? b=some o->h1.get? b=some o:=fun b o e=>by rw[← hN]; exact Eh _ e
 have sz1:h1.objs.size=s.heap.objs.size+1:=by rw[← hN]; exact Hq _ _
 have hT:Shared.TypeIs { s with heap:=h1 } (.ref S) "set":=⟨o,k1 _ _ ho,hx.1⟩
 refine (show Eu _ A.in1 (Lx (.ref s.heap.objs.size) (.ref S) (.ref s.heap.objs.size)) _ _ { s with heap:=h1 } from ?_)
 unfold Lx; refine Ed (wpAny_typeOf hT ?_)
 have q1:Builtin.List.listSameRef (.ref s.heap.objs.size) (.ref S)=false:=by simp [Builtin.List.listSameRef,hSl]
 have q2:(Io "set" == Io "list")=false:=by decide
 have q3:(Io "set" == Io "tuple")=false:=by decide
 simp only[q1,q2,q3,Bool.or_false,Bool.false_eq_true,if_false]
 refine Ed (xm (s:={ s with heap:=h1 }) hh rfl (jB (fun o e=>k1 S o e) hS) hz fun I fp n vs ns St s2 W st hi hp hl hfp hI os2 gs2 k2=>?_)
 have gL2:=k2 _ _ gL
 have hTs:s2.TypeIs (.ref S) "set":=⟨o,k2 _ _ (k1 _ _ ho),hx.1⟩
 have hLf:s.heap.objs.size ∉ fp:=fun z=>by
  rcases hfp _ z with q | q
  ·exact hSl q
  ·have q':h1.objs.size<=s.heap.objs.size:=q
   rw[sz1] at q'
   exact absurd q' (Nat.not_succ_le_self _)
 have hz':n<=sizeLine:=by
  have e1:=hi.length
  have e2:=hp.length_eq
  lia
 have key:∀ (R:Result->Eg->Prop),(∀ (s':Eg) (c':Nat),s'.heap.get? s.heap.objs.size=some { cls:=.type "list",dict:=none,data:=.seq vs.toArray c',slots:=#[] }->s'.os=s.os->s'.gens=s.gens->(∀ b o,s.heap.get? b=some o->s'.heap.get? b=some o)->R (.ok (.ret (.ref s.heap.objs.size))) s') →
   ∀ (h':Gh) (c tk:Nat),St 0 h'->(∀ b o,b≠s.heap.objs.size->s2.heap.get? b=some o->h'.get? b=some o)->h'.get? s.heap.objs.size=some { cls:=.type "list",data:=.seq #[] c } →
   GQ (Ey P w) A (.builtin "list.extend.loop" ⟨[.ref s.heap.objs.size,.ref I,.ref s.heap.objs.size],[]⟩) R { s2 with heap:=h',toks:=tk }:=fun R hR h' c tk st' kp gl=>by
  refine codeAny_extend_loopS W.toS hz' s.heap.objs.size hLf _ n 0 _ #[] c rfl (Fq _) st' gl (ItemsOf.nil _) fun s' acc' c' hm gL' hacc=>?_
  have eacc:acc'=vs.toArray:=by
   apply Array.ext_getElem?
   intro j
   have ev:vs.toArray[j]? = vs[j]?:=J4
   rw[ev]
   by_cases hj:j < acc'.size
   ·have e:=hacc.2 j acc'[j] (Ex hj)
    rw[Ex hj]
    exact e.symm
   ·rw[Hw (by lia),HD (by have:=hacc.1; lia)]
  rw[eacc] at gL'
  refine hR s' c' gL' (hm.os.trans os2) (hm.gens.trans gs2) fun b o' e=>?_
  have hbl:b < s.heap.objs.size:=Ep e
  refine hm.heap b o' ?_ (kp b o' (Fl hbl) (k2 _ _ (k1 _ _ e)))
  rw[GD,Ip]
  rintro (z | z)
  ·exact absurd z (Fl hbl)
  ·have q:h1.objs.size<=I:=hI
   rw[sz1,← z] at q
   exact absurd (Em hbl (Nat.le_of_succ_le q)) (GC _)
 refine Ed (Ib (xQ hTs ?_))
 have fin:∀ (s':Eg) (c':Nat),s'.heap.get? s.heap.objs.size=some { cls:=.type "list",dict:=none,data:=.seq vs.toArray c',slots:=#[] }->s'.os=s.os->s'.gens=s.gens->(∀ b o,s.heap.get? b=some o->s'.heap.get? b=some o) →
   Eu (Ey P w) A (load s.heap.objs.size >>= fun o=>match o.data with | .seq xs _=>pure xs.toList | _=>unsupported "internal:collect") Q E s':=fun s' c' g e1 e2 e3=>Ed (wpAny_load g (Ej (h vs ns s' hi hp (Hv (Ep g)) e1 e2 e3)))
 refine Lb (fun _=>?_) (fun _=>Ej ⟨JH PySem.F.plain_extend_loop _,key _ (fun s' c' g e1 e2 e3=>fin s' c' g e1 e2 e3) s2.heap _ s2.toks st (fun b o _ e=>e) gL2⟩)
 refine Ed (Kg (Ed (show Eu _ _ (updateSeq s.heap.objs.size (·.push .none) >>= fun _=>updateSeq s.heap.objs.size (·.pop)) _ _ _ from ?_)))
 refine Ed (wpAny_updateSeq gL2 rfl ?_)
 have g3:=Gu (JW (·.push Ht)) gL2 rfl
 refine wpAny_updateSeq (hz:=by seq_fits) g3 rfl ?_
 have g4:=Gu (JW (·.pop)) g3 rfl
 have oth:∀ b o',b≠s.heap.objs.size->s2.heap.get? b=some o'->((s2.heap.update s.heap.objs.size (JW (·.push Ht))).update s.heap.objs.size (JW (·.pop))).get? b=some o':=fun b o' hb e=>by
  rw[GX _ _ (Jh hb),GX _ _ (Jh hb)]
  exact e
 exact Ej ⟨JH PySem.F.plain_extend_loop _,key _ (fun s' c' g e1 e2 e3=>fin s' c' g e1 e2 e3) _ _ s2.toks (W.frame 0 _ _ st fun b hb o' e=>oth b o' (fun z=>hLf (by rw[← z]; exact hb)) e) oth g4⟩
end
end L2
namespace L2
open PySem PySem.Spec PyProof.Rows
section
variable {P:Ft} {w:FP} {A:Gd} {E:Value->Eg->Prop} {s:Eg} {S:Addr}
theorem tD {ks:List Int} {Q:Value->Eg->Prop} (hh:A.handled=none) (hS:jr P w (wI w) s.heap S ks) (h64:ks.length < 64)
  (h:∀ (l:Addr) (vs:List Value) (ns:List Int) (c:Nat) (s':Eg),Gm vs ns->ns.Perm ks->ns.Pairwise (·<=·)->s'.heap.get? l=some { cls:=.type "list",data:=.seq vs.toArray c }->s.heap.objs.size<=l->s'.os=s.os->s'.gens=s.gens →
   (∀ b o,s.heap.get? b=some o->s'.heap.get? b=some o)->Q (.ref l) s'):Eu (Ey P w) A (call (.builtin "sorted") [.ref S]) Q E s:=by
 refine Calls.call_function_entry kind_sorted plain_sorted entry_sorted (args_sorted1 _) ?_
 unfold Builtin.«sorted»; refine Ed (m:=checkCount "sorted" 1 1 _) (Ej ?_)
 refine Ed (qy hh hS (Hv (Em h64 (by decide))) fun vs ns s1 hi hp hsz os1 gs1 k1=>?_)
 have hl:vs.length < 64:=by
  have e1:=hi.length
  have e2:=hp.length_eq
  lia
 refine Ed (wpAny_newList ?_)
 have g1:(s1.heap.push (seqObj "list" vs.toArray 0)).get? s1.heap.objs.size=some (seqObj "list" vs.toArray 0):=Ew _ rfl
 refine Ed (Ib (Hl slot_list_sort ⟨_,g1,rfl⟩ entry_list_sort (list_sort_tree g1 hi hl fun out ns' a1 a2 a3=>⟨_,rfl,?_⟩) (args_list_sort _)))
 obtain⟨c,hc⟩:=sortedHeap_at (out:=out) g1
 refine Ej ⟨_,rfl,h s1.heap.objs.size out.toList ns' c _ a1 (a2.trans hp) a3 ?_ hsz os1 gs1 fun b o e=>?_⟩
 ·exact hc
 ·have e1:=k1 b o e
  have lt:=Ep e1
  rw[sortedHeap_old (Fl lt) (by rw[Hq]; exact Hh lt)]
  exact Eh _ e1
end
end L2
namespace L2
open PySem PySem.Spec PyProof.Rows
def ddI (ns:List Int):List Int:=firstMet (fun i=>ns.getD i 0) ns.length
theorem Inv.yR {X:Cx} {pins:List (Addr × Hn)} {σ:St} {H:Hp} {s s':Eg} {l:Addr} {ys:List V} {its:List Value} {c:Nat} (I:Inv X pins σ H s) (ho:s'.os=s.os) (hg:s'.gens=s.gens) (k:∀ b u,s.heap.get? b=some u->s'.heap.get? b=some u)
  (hl:s.heap.objs.size<=l) (hv:Vals ys its) (hz:ys.length<=sizeLine) (g:s'.heap.get? l=some { cls:=.type "list",data:=.seq its.toArray c }):Inv X pins σ (upd H l (.lst ys)) s':=by
 have J:=I.laid (t':=s.toks) (o:=.lst ys) k hl ⟨hz,its,c,hv,g⟩
 exact⟨J.ok,ho.trans I.os,by rw[hg]; exact I.bare,J.base,J.loc,J.cell,J.free,J.freeC,J.pin,J.hok,J.len⟩
def tSS (K:FT) (te:TA):TE:=fun σ H Q=>te σ H fun xs H1=>∃ (a:Addr) (ns:List Int),xs=[.ref a]/\SqL K H1 a (ns.map V.int)/\ns.length<=4000/\(ddI ns).length < 64/\∀ ms:List Int,ms.Perm (ddI ns)->ms.Pairwise (·<=·)->∀ l,H1 l=none->Q (.ref l) (upd H1 l (.lst (ms.map V.int)))
theorem jN {X:Cx} {e:Expr} {te:TA} {p1 p2 q1 q2:JM} (hc:X.calm=true) (hg1:Gl X "sorted") (hm1:X.mg "sorted" = none) (hg2:Gl X "set") (hm2:X.mg "set" = none) (ha:PA X [e] te)
  (hb1:FJ "sorted" = some (.builtin "sorted"):=by decide+kernel) (hb2:FJ "set" = some (.type "set"):=by decide+kernel)
  (he1:FZ [.Call (.Name "set" p2) [e] [] q2] X.env=(false,Im (.Call (.Name "set" p2) [e] [] q2) X.env)::FZ [] X.env:=by rfl) (hp1:(JK q1 (FZ [] X.env)).any (·.1)=false:=by rfl)
  (he2:FZ [e] X.env=(false,Im e X.env)::FZ [] X.env:=by rfl) (hp2:(JK q2 (FZ [] X.env)).any (·.1)=false:=by rfl) :
  PE X (.Call (.Name "sorted" p1) [.Call (.Name "set" p2) [e] [] q2] [] q1) (tSS X.K te):=by
 intro pins s σ H Q I h
 refine Il (jQ I hg1 hm1 hb1 ?_ (by decide) (by decide))
 refine K4 ?_ he1 hp1
 rw[he1]
 refine (show Eu _ _ (spliced ((false,Im (.Call (.Name "set" p2) [e] [] q2) X.env)::JK q1 (FZ [] X.env))) _ _ s from Calls.spliced_cons ?_)
 refine Il (jQ I hg2 hm2 hb2 ?_ (by decide) (by decide))
 refine GR (thn (ha q2 pins s σ H _ I h) fun us s1 ⟨vs,H1,I1,r1,q⟩=>?_) he2 hp2
 obtain⟨a,ns,rfl,hq,hl,h64,hQ⟩:=q
 obtain⟨u,rfl,ru⟩:=vals1 r1
 cases ru
 obtain⟨its,rv,pl,_⟩:=I1.list hq
 have hi:Gm its ns:=intsAre_of rv
 have hsz:its.toArray.size=ns.length:=by rw[Fb]; exact hi.length
 refine qw (I1.ok.hd hc) pl.isList hi (by rw[hsz]; exact Hu (Nat.succ_le_succ hl) (by decide)) fun h' tk hS hk=>?_
 rw[hsz] at hS
 have I2:Inv X pins σ H1 { s1 with heap:=h',toks:=tk }:=I1.kept (t':=tk) fun b o e=>hk b o (Ep e) e
 refine (show Eu _ _ (spliced []) _ _ _ from Calls.spliced_nil ?_)
 refine tD (I1.ok.hd hc) hS h64 fun l vs ms c s3 hi3 hp3 hw3 g3 hl3 os3 gs3 k3=>?_
 have hml:(ms.map V.int).length<=sizeLine:=by
  rw[Eb,hp3.length_eq]
  exact Hv (Em h64 (by decide))
 exact⟨.ref l,_,I2.yR os3 gs3 k3 hl3 (jc hi3) hml g3,rfl,hQ ms hp3 hw3 l (I2.hok.fresh hl3)⟩
end L2
namespace L2
open PySem PySem.Spec PyProof.Rows
section
variable {prog:Ft} {w:FP} {A:Gd} {R:Result->Eg->Prop} {E:Value->Eg->Prop} {s:Eg}
end
section
variable {X:Cx}
def yq (K:FT):List V->Hp->VK->Prop:=fun xs H Q=>∃ (p:Addr) (ns:List Int),xs=[.ref p]/\SqL K H p (ns.map V.int)/\ns.length < 64/\∀ ms:List Int,ms.Perm ns->ms.Pairwise (·<=·)->∀ l,H l=none->Q (.ref l) (upd H l (.lst (ms.map V.int)))
theorem tL:fZ X (.builtin "sorted") (yq X.K):=by
 intro pins s σ H xs us Q I r h
 obtain⟨p,ns,rfl,hq,h64,q⟩:=h
 obtain⟨u,rfl,ru⟩:=vals1 r
 cases ru
 obtain⟨its,rv,pl,hz⟩:=I.list hq
 have hi:Gm its ns:=intsAre_of rv
 refine sorted_ints pl.isList hi (by have:=hi.length; lia) fun out ns' a1 a2 a3=>?_
 obtain⟨e,he⟩:=sortedAll_at s.heap its out
 have hml:(ns'.map V.int).length<=sizeLine:=by
  rw[Eb,a2.length_eq]
  exact Hv (Em h64 (by decide))
 exact⟨.ref _,_,I.yR rfl rfl (fun _ _=>sortedAll_old) (Hi _) (jc a1) hml he,rfl,q ns' a2 a3 _ (I.hok.fresh (Hi _))⟩
end
end L2
namespace L2
open PySem PySem.Spec PyProof.Rows
def Itn (K : FT) (a : Addr) : It :=
  ⟨fun i H => ∃ xs x, SqL K H a xs ∧ xs[i]? = some x,
   fun i H v H' => ∃ p x, H p = none ∧ v = .ref p ∧ (∀ xs, SqL K H a xs → xs[i]? = some x) ∧ H' = upd H p (.tup [.int (i : Int), x]),
   fun i H => ∃ xs, SqL K H a xs ∧ xs.length ≤ i⟩
def tnN (e it a:Addr) (i:Nat) (h:Gh):Prop:=(∃ old,IsEnum h e it (i:Int) old)/\h.IsListIter it a i
theorem uF {P:Ft} {w:FP} {K:FT} {elts:List Expr} {x1} {pos:JM} {e it a:Addr} (hne:e≠it) :
  Turn P w K (.Tuple elts x1 pos) (Itn K a) [e,it] e (tnN e it a) where
 mem:=by simp
 obj:=fun i h st c hc=>by
  obtain⟨⟨old,he⟩,⟨o,ho,_,d⟩⟩:=st
  simp only[GD,HX,or_false] at hc
  rcases hc with rfl | rfl
  ·exact⟨_,he,fun v z=>by cases z⟩
  ·exact⟨_,ho,fun v z=>by rw[d] at z; cases z⟩
 keep:=fun i h h' st k=>by
  obtain⟨⟨old,he⟩,j⟩:=st
  exact⟨⟨old,k e (by simp) _ he⟩,j.at fun o q=>k it (by simp) o q⟩
 item:=by
  intro X hP hw hK hc i pins s σ H E I hf st hg
  subst hP hw hK
  obtain⟨xs,x,hx,ex⟩:=hg
  obtain⟨⟨old,he⟩,j⟩:=st
  obtain⟨its,rv,pl,_⟩:=I.list hx
  obtain⟨xu,hxu,rx⟩:=rv.get ex
  refine wpAny_pyNext_enum_item he j pl.isList (x:=xu) (by simpa using hxu) hne fun h' e1 j1 t1 z1 kp=>⟨_,rfl,?_⟩
  refine wpAny_letOwnedTupleGo_enum e1 fun h2 e2 b2=>?_
  have el:e < s.heap.objs.size:=Ep he
  have il:it < s.heap.objs.size:=by obtain⟨o,q,_⟩:=j; exact Ep q
  have I1:Inv X pins σ (upd H s.heap.objs.size (.tup [.int (i:Int),x])) { s with heap:=s.heap.push { cls:=.type "tuple",data:=.seq #[.int i s.toks,xu] },toks:=s.toks+1 } :=
   I.laid (t':=s.toks+1) (fun _ _ q=>Eh _ q) (Ei _) ⟨by show 2<=sizeLine; decide,[.int i s.toks,xu],.cons ⟨_,rfl⟩ (.cons rx .nil),⟨_,Ew _ rfl,rfl,_,rfl⟩⟩
  have ff:∀ c∈[e,it],pO X pins (upd H s.heap.objs.size (.tup [.int (i:Int),x])) c:=fun c hc=>by
   obtain⟨f0,fr⟩:=hf c hc
   have cl:c < s.heap.objs.size:=by
    simp only[GD,HX,or_false] at hc
    rcases hc with rfl | rfl
    ·exact el
    ·exact il
   exact⟨by rw[cB (Fl cl)]; exact f0,fr⟩
  have kk:∀ c o,c ∉ [e,it]->(s.heap.push { cls:=.type "tuple",data:=.seq #[.int i s.toks,xu] }).get? c=some o->h2.get? c=some o:=fun c o hc q=>by
   have c1:c≠e:=fun h=>hc (by simp [h])
   have c2:c≠it:=fun h=>hc (by simp [h])
   refine (b2.2 c c1).trans ?_
   rcases Heap.get?_push_cases q with⟨ec,eo⟩ | q'
   ·subst ec
    subst eo
    exact t1
   ·exact kp c o c1 c2 q'
  have I2:Inv X pins σ (upd H s.heap.objs.size (.tup [.int (i:Int),x])) { s with heap:=h2,toks:=s.toks+1 } :=
   Inv.mU (s:={ s with heap:=s.heap.push { cls:=.type "tuple",data:=.seq #[.int i s.toks,xu] },toks:=s.toks+1 }) (h':=h2) (t':=s.toks+1) (ch:=[e,it]) I1 kk ff
  refine⟨.ref s.heap.objs.size,_,I2,rfl,⟨_,x,I.fresh,rfl,fun zs hzs=>?_,rfl⟩,⟨⟨_,e2⟩,j1.at fun o q=>(b2.2 it (Jh hne)).trans q⟩,fun c hc=>(ff c hc).1⟩
  rw[I.rY hzs hx]; exact ex
 done:=by
  intro X hP hw hK hc i pins s σ H E I hf st hg
  subst hP hw hK
  obtain⟨xs,hx,hend⟩:=hg
  obtain⟨⟨old,he⟩,j⟩:=st
  obtain⟨its,rv,pl,_⟩:=I.list hx
  have l1:=rv.length
  refine wpAny_pyNext_enum_end (I.ok.hd hc) he j pl.isList (by simp; lia) fun h' eb=>⟨rfl,?_⟩
  exact I.mU (t':=s.toks) (ch:=[e,it]) (fun c o hc q=>eb c o (fun h=>hc (by simp [h])) q) hf
 self:=fun _ _ _ _ _ st h=>by
  obtain⟨⟨old,he⟩,_⟩:=st
  exact JD he h
def Bs (K:FT) (ta:TA):TI:=fun σ H R=>ta σ H fun vs H1=>∃ a xs,vs=[.ref a]/\H1 a=some (.lst xs)/\R (Itn K a) H1
theorem yU {X:Cx} {elts:List Expr} {x1} {tpos:JM} {a:Expr} {ta:TA} {p pos:JM} (hg:Gl X "enumerate") (hm:X.mg "enumerate" = none) (ha:PA X [a] ta) (hs:FZ [a] X.env=[(false,Im a X.env)]:=by rfl) :
  PI X (.Tuple elts x1 tpos) (.Call (.Name "enumerate" p) [a] [] pos) (Bs X.K ta):=by
 intro pins s σ H R I h
 refine Call_ (jQ I hg hm boot_enumerate (GR (thn (ha pos pins s σ H _ I h) fun us s1 ⟨vs,H1,I1,r1,q1⟩=>?_) hs rfl))
 obtain⟨c,xs,e,hx,q⟩:=q1
 subst e
 obtain⟨u1,rfl,ru1⟩:=vals1 r1
 cases ru1
 obtain⟨z,its,n,rv,ho⟩:=I1.hok c _ hx
 refine call_enumerate_1 ho fun h' e1 j1 _ kp=>?_
 have en:s1.heap.objs.size+1≠s1.heap.objs.size:=Ja (Jg _)
 refine JD e1 ⟨_,_,_,_,H1,rfl,I1.kept (t':=s1.toks) kp,uF (a:=c) en,⟨⟨_,e1⟩,j1⟩,fun b hb=>?_,q⟩
 have hle:s1.heap.objs.size<=b:=by
  simp only[GD,HX,or_false] at hb
  rcases hb with rfl | rfl
  ·exact Hi _
  ·exact Ei _
 exact I1.zq hle (I1.hok.fresh hle)
theorem wV {K:FT} {a:Addr} {xs:List V} {g:TG} {tb:TS} {D:Ends} {σ:St} {H:Hp} (Pv:Nat->St->Hp->Prop) (h0:Pv 0 σ H) (hl:∀ i σ H,i<=xs.length->Pv i σ H->SqL K H a xs)
  (hs:∀ i x p σ H,xs[i]? = some x->H p=none->Pv i σ H->g (.ref p) σ (upd H p (.tup [.int (i:Int),x])) fun σ2 H2=>tb { D with nx:=Pv (i+1),ct:=Pv (i+1),bk:=D.nx } σ2 H2) (hd:∀ σ H,Pv xs.length σ H->D.nx σ H) :
  ∃ W:Nat->Nat->St->Hp->Prop,(∃ m,W 0 m σ H)/\∀ i m σ H,W i m σ H →
   ((Itn K a).stop i H/\D.nx σ H)∨((Itn K a).go i H/\∃ N:St->Hp->Prop,(∀ σ' H',N σ' H'->∃ m',m' < m/\W (i+1) m' σ' H')/\∀ x H',(Itn K a).yld i H x H'->g x σ H' fun σ2 H2=>tb { D with nx:=N,ct:=N,bk:=D.nx } σ2 H2):=by
 refine⟨fun i m σ H=>m=xs.length - i/\i<=xs.length/\Pv i σ H,⟨xs.length,by simp,Fq _,h0⟩,?_⟩
 rintro i m σ H ⟨rfl,hi,p⟩
 have q1:=hl i σ H hi p
 by_cases hlt:i < xs.length
 ·refine .inr ⟨⟨xs,xs[i],q1,by simp [hlt]⟩,Pv (i+1),fun σ' H' p'=>⟨xs.length - (i+1),by lia,rfl,hlt,p'⟩,fun v H' y=>?_⟩
  obtain⟨pp,x,hp,rfl,hx,rfl⟩:=y
  exact hs i x pp σ _ (hx xs q1) hp p
 ·have e:i=xs.length:=by lia
  subst e
  exact .inl ⟨⟨xs,q1,Ei _⟩,hd σ H p⟩
end L2
namespace L2
open PySem PySem.Spec PyProof.Rows
section
variable {X:Cx} {k:Nat}
end
end L2
namespace L2
open PySem PySem.Spec PyProof.Rows
theorem wG {X:Cx} {tg l:Expr} {tl:TE} (K:FT) (hK:X.K=K) (hl:PE X l tl):PI X tg l (yL K tl):=by
 subst hK
 exact gA hl
end L2
namespace L2
open PySem PySem.Spec PyProof.Rows
theorem qP (elt t0 i0 t1 i1:Expr) (scope:IV) (pos:JM) (it acc:Value) (env:Ls) :
  compTurn (.ListComp elt [⟨t0,i0,[],0⟩,⟨t1,i1,[],0⟩] scope pos) 0 it acc env=(do
   Ln i0.pos
   match ← Jw it with
   | none=>pure (.done .next)
   | some v =>
    G7 t0 it v
    J7 t0 env v
    let x ← Im i1 env
    Ln i1.pos
    let x ← GF i1 env x
    let _ ← runOwn (.compStart (.ListComp elt [⟨t0,i0,[],0⟩,⟨t1,i1,[],0⟩] scope pos) 1 (← holding [x] (Kh x)) acc env) env
    Kc (.compLoop (.ListComp elt [⟨t0,i0,[],0⟩,⟨t1,i1,[],0⟩] scope pos) 0 it acc env)):=by rfl
theorem rm (elt t0 i0 t1 i1:Expr) (scope:IV) (pos:JM) (it acc:Value) (env:Ls) :
  compTurn (.ListComp elt [⟨t0,i0,[],0⟩,⟨t1,i1,[],0⟩] scope pos) 1 it acc env=(Ln i1.pos >>= fun _=>Jw it >>= fun r=>match r with
   | none=>pure (.done .next)
   | some v=>G7 t1 it v >>= fun _=>J7 t1 env v >>= fun _ =>
    (Im elt env >>= fun x=>call (.builtin "list.append") [acc,x] >>= fun _=>pure ()) >>= fun _ =>
     Kc (.compLoop (.ListComp elt [⟨t0,i0,[],0⟩,⟨t1,i1,[],0⟩] scope pos) 1 it acc env)):=by rfl
section
variable {prog:Ft} {w:FP} {A:Gd} {R:Result->Eg->Prop} {s:Eg} {elt t0 i0 t1 i1:Expr} {scope:IV} {pos:JM} {it acc:Value} {env:Ls}
theorem pB (h0:GQ (Ey prog w) A (.compLoop (.ListComp elt [⟨t0,i0,[],0⟩,⟨t1,i1,[],0⟩] scope pos) 1 it acc env) R s)
  (h:Eu (Ey prog w) A (Kh it) (fun it' s'=>GQ (Ey prog w) A (.compLoop (.ListComp elt [⟨t0,i0,[],0⟩,⟨t1,i1,[],0⟩] scope pos) 1 it' acc env) R s') (notedBy (Ey prog w) A env fun x s'=>R (.error x) s') s) :
  GQ (Ey prog w) A (.compStart (.ListComp elt [⟨t0,i0,[],0⟩,⟨t1,i1,[],0⟩] scope pos) 1 it acc env) R s:=by
 refine Lf ?_
 show Eu _ _ ((compStart (.ListComp elt [⟨t0,i0,[],0⟩,⟨t1,i1,[],0⟩] scope pos) 1 it acc env).onRaise (fun x=>do noteFrame x env; Ln theWindowsPlace)) _ _ s
 refine wpAny_notedAt ?_
 unfold compStart
 show Eu _ _ (ask >>= _) _ _ s
 refine Ed (Hm (wpAny_ite ?_))
 split
 ·first
   | exact Ed (Ej (Ej (And.intro rfl h0)))
   | exact Ej (And.intro rfl h0)
 ·first
   | exact Ed (Kg (Ed (Ia (Ed (Ga h (fun it' s' h'=>Ej (And.intro rfl h')) fun _ _ x=>x)))))
   | (refine Ed (Kg ?_); show Eu _ _ (Ln i1.pos >>= _) _ _ s; exact Ed (Ia (Ed (Ga h (fun it' s' h'=>Ej (And.intro rfl h')) fun _ _ x=>x))))
abbrev noX:Value->Eg->Prop:=fun _ _=>False
theorem eH {E:Value->Eg->Prop} (x:Value) (s':Eg) (z:noX x s'):E x s':=z.elim
theorem pW (hs1:∀ x,GF i1 env x=pure x) (I:Nat->Eg->Prop)
  (turn:∀ n s,I n s->Eu (Ey prog w) A (Jw it) (fun r s₁=>match r with
   | none=>R (.ok .next) s₁
   | some v=>Eu (Ey prog w) A (G7 t0 it v) (fun _ s₀=>Eu (Ey prog w) A (J7 t0 env v) (fun _ s₂=>Eu (Ey prog w) A (Im i1 env) (fun x s₃=>Eu (Ey prog w) A (Kh x) (fun it1 s₄ =>
     GQ (Ey prog w) A (.compStart (.ListComp elt [⟨t0,i0,[],0⟩,⟨t1,i1,[],0⟩] scope pos) 1 it1 acc env) (fun r s'=>match r with | .ok _=>∃ m,m < n/\I m s' | .error _=>False) s₄) noX s₃) noX s₂) noX s₀) noX s₁) noX s)
  (n:Nat) (h:I n s):GQ (Ey prog w) A (.compLoop (.ListComp elt [⟨t0,i0,[],0⟩,⟨t1,i1,[],0⟩] scope pos) 0 it acc env) R s:=by
 refine codeAny_loop rfl I (fun n s hI=>?_) n h
 refine (show Eu (Ey prog w) A ((compTurn (.ListComp elt [⟨t0,i0,[],0⟩,⟨t1,i1,[],0⟩] scope pos) 0 it acc env).onRaise (fun x=>do noteFrame x env; Le x)) _ _ s from wpAny_noted ?_)
 rw[qP]
 refine Ed (Ia (Ed (Ga (turn n s hI) (fun r s₁ h₁=>?_) eH)))
 cases r with
 | none=>exact Ej h₁
 | some v =>
  refine Ed (Ga h₁ (fun _ s₀ h₀=>Ed (Ga h₀ (fun _ s₂ h₂=>Ed (Ga h₂ (fun x s₃ h₃=>Ed (Ia (Ed (K8 (hs1 x) (Ed (Ib (Ga h₃ (fun it1 s₄ h₄=>?_) eH))))))) eH)) eH)) eH)
  refine Ed (wpAny_runOwn (Jt h₄ fun r s' hr=>?_))
  cases r with
  | ok f=>exact Ej ⟨rfl,hr⟩
  | error e=>exact hr.elim
theorem oR (I:Nat->Eg->Prop)
  (turn:∀ n s,I n s->Eu (Ey prog w) A (Jw it) (fun r s₁=>match r with
   | none=>R (.ok .next) s₁
   | some v=>Eu (Ey prog w) A (G7 t1 it v) (fun _ s₀=>Eu (Ey prog w) A (J7 t1 env v) (fun _ s₂=>Eu (Ey prog w) A (Im elt env) (fun x s₄=>Eu (Ey prog w) A (call (.builtin "list.append") [acc,x]) (fun _ s₅=>∃ m,m < n/\I m s₅) noX s₄) noX s₂) noX s₀) noX s₁) noX s)
  (n:Nat) (h:I n s):GQ (Ey prog w) A (.compLoop (.ListComp elt [⟨t0,i0,[],0⟩,⟨t1,i1,[],0⟩] scope pos) 1 it acc env) R s:=by
 refine codeAny_loop rfl I (fun n s hI=>?_) n h
 refine (show Eu (Ey prog w) A ((compTurn (.ListComp elt [⟨t0,i0,[],0⟩,⟨t1,i1,[],0⟩] scope pos) 1 it acc env).onRaise (fun x=>do noteFrame x env; Le x)) _ _ s from wpAny_noted ?_)
 rw[rm]
 refine Ed (Ia (Ed (Ga (turn n s hI) (fun r s₁ h₁=>?_) eH)))
 cases r with
 | none=>exact Ej h₁
 | some v =>
  refine Ed (Ga h₁ (fun _ s₀ h₀=>Ed (Ga h₀ (fun _ s₂ h₂=>Ed (Ed (Ga h₂ (fun x s₄ h₄=>Ed (Ga h₄ (fun _ s₅ h₅=>Ej (Ej ⟨rfl,h₅⟩)) eH)) eH))) eH)) eH)
end
def j7 (D:Addr) (σ0:St) (J:It) (g:TG) (wi1:TI) (g1:TG) (te:TE) (H1:Hp) (Q:Hp->Prop):Prop :=
 ∃ W:Nat->Nat->List V->St->Hp->Prop,(∃ m,W 0 m [] σ0 (upd H1 D (.lst []))) ∧
  ∀ i m ys σ' H',W i m ys σ' H'->((J.stop i H'/\Q H')∨(J.go i H'/\∃ N:List V->St->Hp->Prop,(∀ zs σ2 H2,N zs σ2 H2->∃ m',m' < m/\W (i+1) m' zs σ2 H2) ∧
   ∀ x H2,J.yld i H' x H2->g x σ' H2 fun σ3 H3=>wi1 σ3 H3 fun J1 H4 =>
    ∃ Y:Nat->Nat->List V->St->Hp->Prop,(∃ m,Y 0 m ys σ3 H4) ∧
     ∀ j m zs σ5 H5,Y j m zs σ5 H5->((J1.stop j H5/\N zs σ5 H5)∨(J1.go j H5/\∃ M:List V->St->Hp->Prop,(∀ zs σ6 H6,M zs σ6 H6->∃ m',m' < m/\Y (j+1) m' zs σ6 H6) ∧
      ∀ y H6,J1.yld j H5 y H6->g1 y σ5 H6 fun σ7 H7=>te σ7 H7 fun v H8=>H8 D=some (.lst zs)/\zs.length < sizeLine/\M (zs++[v]) σ7 (upd H8 D (.lst (zs++[v])))))))
def Az (n:Nat) (cap:List Nat) (wi:TI) (g:TG) (wi1:TI) (g1:TG) (te:TE):TE:=fun σ H Q=>wi σ H fun J H1=>∀ D,H1 D=none->j7 D (yl n cap σ) J g wi1 g1 te H1 fun H2=>Q (.ref D) H2
section
variable {X:Cx} {elt t0 i0 t1 i1:Expr} {scope:IV} {pos:JM} {L F:List Str} {cap:List Nat} {wi wi1:TI} {g g1:TG} {te:TE}
theorem ux {cl:List (Str × Addr)} {pins:List (Addr × Hn)} {σ:St} {s2:Eg} {H2:Hp} {it:Addr} {fp:List Addr} {tn:Nat->Gh->Prop} {J:It} {use:Option (Value->Sem Unit)} {QQ:Value->Eg->Prop} {Z:Hp->Prop} {E:Value->Eg->Prop}
  (hc:X.calm=true) (ok:kZ X scope F cap)
  (sub:∀ n c,cl.lookup n=some c->X.env.cells.lookup n=some c) (all:∀ y∈scope.names,y.2 = .free->∃ c,cl.lookup y.1=some c)
  (hg:∀ cl C s H fp,PG (bj X scope cl C (L++F) s H fp) t0 g) (hi1:∀ cl C s H fp,PI (bj X scope cl C (L++F) s H fp) t1 i1 wi1) (hg1:∀ cl C s H fp,PG (bj X scope cl C (L++F) s H fp) t1 g1) (he:∀ cl C s H fp,PE (bj X scope cl C (L++F) s H fp) elt te)
  (hs1:∀ (env:Ls) x,GF i1 env x=pure x)
  (I2:Inv X pins σ H2 s2) (T:Turn X.prog X.w X.K t0 J fp it tn) (st2:tn 0 s2.heap) (f2:∀ b∈fp,pO X pins H2 b)
  (q2:j7 s2.heap.objs.size (yl L.length cap σ) J g wi1 g1 te H2 Z)
  (fin:∀ (C:Addr) (s':Eg) (H':Hp),Z H'->Inv X pins σ H' s'->(∃ m,s'.heap.Ns C m)->H' C=none->C≠X.env.locals->X.s₀.heap.objs.size<=C->(∀ x c,X.env.cells.lookup x=some c->c≠C)->(∀ p∈X.pn++pins,p.1≠C) →
   JN (Ey X.prog X.w) X.A E use QQ (.ref s2.heap.objs.size) C (.ok .next) s') :
  Eu (Ey X.prog X.w) X.A (newList []) (fun acc s₃=>Eu (Ey X.prog X.w) X.A (newFunctionEnv scope X.env.globals cl [] X.env.qual none .none (some X.env)) (fun cenv s₄ =>
   GQ (Ey X.prog X.w) X.A (.compStart (.ListComp elt [⟨t0,i0,[],0⟩,⟨t1,i1,[],0⟩] scope pos) 0 (.ref it) acc { cenv with scope:=relabel scope X.env }) (JN (Ey X.prog X.w) X.A E use QQ acc cenv.locals) s₄) E s₃) E s2:=by
 have hD:H2 s2.heap.objs.size=none:=I2.fresh
 refine Fz (wpAny_newFunctionEnv ok.cell (by intro y hy; simp at hy) (fun h₁ hns₁ hsb₁=>?_) ok.kind)
 dsimp only at hns₁ hsb₁ ⊢
 have I3:Inv X pins σ (upd H2 s2.heap.objs.size (.lst [])) { s2 with heap:=s2.heap.push { cls:=.type "list",data:=.seq ([]:List Value).toArray } }:=I2.Cp (t':=s2.toks) (ys:=[]) (its:=[]) .nil (Fq _)
 have blt:∀ b∈fp,b < s2.heap.objs.size:=fun b hb=>let ⟨_,e,_⟩:=T.obj 0 _ st2 b hb; Ep e
 have szC:(s2.heap.push { cls:=.type "list",data:=.seq ([]:List Value).toArray }).objs.size=s2.heap.objs.size+1:=Hq _ _
 generalize hs3:({ s2 with heap:=s2.heap.push { cls:=.type "list",data:=.seq ([]:List Value).toArray } }:Eg)=s3 at I3
 have es3:s3.heap=s2.heap.push { cls:=.type "list",data:=.seq ([]:List Value).toArray }:=by rw[← hs3]
 have eos:s3.os=s2.os:=by rw[← hs3]
 have fok:∀ b∈fp,pO X pins (upd H2 s2.heap.objs.size (.lst [])) b/\b < s3.heap.objs.size:=fun b hb=>by
  obtain⟨f0,fr⟩:=f2 b hb
  refine⟨⟨by rw[cB (Fl (blt b hb))]; exact f0,fr⟩,?_⟩
  rw[es3,szC]
  exact Hh (blt b hb)
 have hkp:∀ b o,s3.heap.get? b=some o->h₁.get? b=some o:=fun b o e=>by
  have e':b < s3.heap.objs.size:=Ep e
  rw[es3] at e e'
  exact (hsb₁.2 b (Fl e')).trans (Eh _ e)
 have hns:h₁.Ns s3.heap.objs.size fun _=>none:=by
  rw[es3]
  exact hns₁
 have I4:∀ tk,Inv (bj X scope cl s3.heap.objs.size (L++F) s3 (upd H2 s2.heap.objs.size (.lst [])) fp) [] (yl L.length cap σ) (upd H2 s2.heap.objs.size (.lst [])) { s3 with heap:=h₁,toks:=tk }:=fun tk =>
  mG (L:=L) ok I3 fok sub all hns hkp
 have stat:∀ {H':Hp},(∀ b∈fp,H' b=none)->∀ b∈fp,pO (bj X scope cl s3.heap.objs.size (L++F) s3 (upd H2 s2.heap.objs.size (.lst [])) fp) [] H' b:=fun {H'} hn b hb=>by
  obtain⟨⟨_,g1,g2,g3,g4,g5⟩,g6⟩:=fok b hb
  exact⟨hn b hb,Fl g6,qg I3 g1 g2,.inl hb,fun x c e=>g4 x c (sub x c e),fun p hp=>absurd (show p∈([]:List (Addr × Hn)) from hp) (by simp)⟩
 have loop:∀ tk,GQ (Ey X.prog X.w) X.A (.compLoop (.ListComp elt [⟨t0,i0,[],0⟩,⟨t1,i1,[],0⟩] scope pos) 0 (.ref it) (.ref s2.heap.objs.size) (Ku scope cl s3.heap.objs.size X.env))
   (JN (Ey X.prog X.w) X.A E use QQ (.ref s2.heap.objs.size) s3.heap.objs.size) { s3 with heap:=h₁,toks:=tk }:=fun tk=>by
  obtain⟨W,⟨m0,w0⟩,turn⟩:=q2
  have st3:tn 0 h₁:=T.keep 0 _ _ st2 fun b hb o e=>hkp b o (by rw[es3]; exact Eh _ e)
  refine pW (hs1 _) (fun n s'=>∃ i ys σ' H',Inv (bj X scope cl s3.heap.objs.size (L++F) s3 (upd H2 s2.heap.objs.size (.lst [])) fp) [] σ' H' s'/\tn i s'.heap/\(∀ b∈fp,H' b=none)/\W i n ys σ' H') ?_ m0
   ⟨0,[],_,_,I4 tk,st3,fun b hb=>(fok b hb).1.1,w0⟩
  rintro n s5 ⟨i,ys,σ5,H5,I5,st5,fr5,w5⟩
  rcases turn i n ys σ5 H5 w5 with⟨stop,qz⟩ | ⟨go,N,hN,step⟩
  ·refine thn (T.done (bj X scope cl s3.heap.objs.size (L++F) s3 (upd H2 s2.heap.objs.size (.lst [])) fp) rfl rfl rfl hc i [] s5 σ5 H5 _ I5 (stat fr5) st5 stop) fun r s6 ⟨hr,I6⟩=>?_
   subst hr
   have un:Un (frs X.stack) fp H2 H5 s2.heap s6.heap:=by
    have u1:Un (frs X.stack) fp H2 (upd H2 s2.heap.objs.size (.lst [])) s2.heap s3.heap:=by
     rw[es3]
     exact Un.laid (fun _ _ q=>Eh _ q) (Ei _) hD
    exact u1.trans I6.base
   have J1:Inv X pins σ H5 s6:=I2.call' (I6.os.trans eos) un I6.hok I6.bare fun b hb=>by
    obtain⟨_,g1,_,g3,g4,g5⟩:=f2 b hb
    exact⟨g3,g1,g4,g5⟩
   have hC:s2.heap.objs.size<=s3.heap.objs.size:=by rw[es3,szC]; exact Hi _
   obtain⟨m,hm,_⟩:=I6.loc
   refine fin s3.heap.objs.size s6 H5 qz J1 ⟨m,hm⟩ I6.free (Ja (Em I2.lt hC)) (Fe I2.sz hC) (fun x c e z=>?_) (fun p hp z=>?_)
   ·obtain⟨v,q⟩:=I2.cell x c e
    exact absurd (Em q.lt (by rw[z]; exact hC)) (GC _)
   ·exact absurd (Em (Ep (I2.pin p hp).1) (by rw[z]; exact hC)) (GC _)
  ·refine thn (T.item (bj X scope cl s3.heap.objs.size (L++F) s3 (upd H2 s2.heap.objs.size (.lst [])) fp) rfl rfl rfl hc i [] s5 σ5 H5 _ I5 (stat fr5) st5 go) fun r s6 ⟨u,hr,h6⟩=>?_
   subst hr
   refine thn h6 fun _ s7 ⟨x,H7,I7,r7,y7,st7,fr7⟩=>?_
   have I7':=I7.pinned (stat fr7) (T.obj _ _ st7)
   refine thn (hg _ _ _ _ _ _ s7 σ5 H7 x u _ I7' r7 (step x H7 y7)) fun _ s8 ⟨σ8,H8,I8,q8⟩=>?_
   have Kc:∀ {σ9:St} {H9:Hp} {s9:Eg} {zs:List V},Inv (bj X scope cl s3.heap.objs.size (L++F) s3 (upd H2 s2.heap.objs.size (.lst [])) fp) ([]++jT fp s7.heap) σ9 H9 s9->N zs σ9 H9 →
     ∃ m,m < n/\∃ i ys σ' H',Inv (bj X scope cl s3.heap.objs.size (L++F) s3 (upd H2 s2.heap.objs.size (.lst [])) fp) [] σ' H' s9/\tn i s9.heap/\(∀ b∈fp,H' b=none)/\W i m ys σ' H':=fun {σ9 H9 s9 zs} I9 n9=>by
    obtain⟨m',hm,w9⟩:=hN zs σ9 H9 n9
    refine⟨m',hm,i+1,zs,σ9,H9,I9.gO,T.keep _ _ _ st7 fun b hb o e=>(I9.pin (b,o) (Es _ (Es _ (cL hb e)))).1,fun b hb=>?_,w9⟩
    obtain⟨o,e,d⟩:=T.obj _ _ st7 b hb
    exact (I9.pin (b,o) (Es _ (Es _ (cL hb e)))).2.1
   refine thn (hi1 _ _ _ _ _ _ s8 σ8 H8 _ I8 q8) fun v1 s9 h9=>thn h9 fun itv s10 h10=>?_
   obtain⟨it1,fp1,tn1,J1,H10,e,I10,T1,st10,f10,Y,⟨m1,y0⟩,turn1⟩:=h10
   subst e
   have stat1:∀ {H':Hp},(∀ b∈fp1,H' b=none)->∀ b∈fp1,pO (bj X scope cl s3.heap.objs.size (L++F) s3 (upd H2 s2.heap.objs.size (.lst [])) fp) ([]++jT fp s7.heap) H' b:=fun hn b hb=>⟨hn b hb,(f10 b hb).2⟩
   have loop1:GQ (Ey X.prog X.w) X.A (.compLoop (.ListComp elt [⟨t0,i0,[],0⟩,⟨t1,i1,[],0⟩] scope pos) 1 (.ref it1) (.ref s2.heap.objs.size) (Ku scope cl s3.heap.objs.size X.env))
     (fun r s'=>match r with | .ok _=>∃ m,m < n/\∃ i ys σ' H',Inv (bj X scope cl s3.heap.objs.size (L++F) s3 (upd H2 s2.heap.objs.size (.lst [])) fp) [] σ' H' s'/\tn i s'.heap/\(∀ b∈fp,H' b=none)/\W i m ys σ' H' | .error _=>False) s10:=by
    refine oR (fun k s'=>∃ j zs σ' H',Inv (bj X scope cl s3.heap.objs.size (L++F) s3 (upd H2 s2.heap.objs.size (.lst [])) fp) ([]++jT fp s7.heap) σ' H' s'/\tn1 j s'.heap/\(∀ b∈fp1,H' b=none)/\Y j k zs σ' H') ?_ m1
     ⟨0,ys,_,_,I10,st10,fun b hb=>(f10 b hb).1,y0⟩
    rintro k s11 ⟨j,zs,σ11,H11,I11,st11,fr11,w11⟩
    rcases turn1 j k zs σ11 H11 w11 with⟨stop1,n1⟩ | ⟨go1,M,hM,step1⟩
    ·refine thn (T1.done (bj X scope cl s3.heap.objs.size (L++F) s3 (upd H2 s2.heap.objs.size (.lst [])) fp) rfl rfl rfl hc j _ s11 σ11 H11 _ I11 (stat1 fr11) st11 stop1) fun r s12 ⟨hr,I12⟩=>?_
     subst hr
     exact Kc I12 n1
    ·refine thn (T1.item (bj X scope cl s3.heap.objs.size (L++F) s3 (upd H2 s2.heap.objs.size (.lst [])) fp) rfl rfl rfl hc j _ s11 σ11 H11 _ I11 (stat1 fr11) st11 go1) fun r s12 ⟨u1,hr,h12⟩=>?_
     subst hr
     refine thn h12 fun _ s13 ⟨x1,H13,I13,r13,y13,st13,fr13⟩=>?_
     have I13':=I13.pinned (stat1 fr13) (T1.obj _ _ st13)
     refine thn (hg1 _ _ _ _ _ _ s13 σ11 H13 x1 u1 _ I13' r13 (step1 x1 H13 y13)) fun _ s14 ⟨σ14,H14,I14,q14⟩=>?_
     refine thn (he _ _ _ _ _ _ s14 σ14 H14 _ I14 q14) fun y s15 ⟨yv,H15,I15,r15,e15,z15,n15⟩=>?_
     refine thn (eX _ s15 σ14 H15 (.ref s2.heap.objs.size) [yv] (.ref s2.heap.objs.size) [y] (fun _ H'=>M (zs++[yv]) σ14 H') I15 rfl (.cons r15 .nil) ⟨_,zs,yv,rfl,rfl,e15,z15,n15⟩) fun _ s16 ⟨_,H16,I16,_,n16⟩=>?_
     obtain⟨m',hm,w16⟩:=hM _ _ _ n16
     refine⟨m',hm,j+1,_,σ14,H16,I16.gO,T1.keep _ _ _ st13 fun b hb o e=>(I16.pin (b,o) (Es _ (Es _ (cL hb e)))).1,fun b hb=>?_,w16⟩
     obtain⟨o,e,d⟩:=T1.obj _ _ st13 b hb
     exact (I16.pin (b,o) (Es _ (Es _ (cL hb e)))).2.1
   exact pB loop1 (T1.self _ 0 _ _ _ st10 loop1)
 have eC:(s2.heap.push { cls:=.type "list",data:=.seq ([]:List Value).toArray }).objs.size=s3.heap.objs.size:=by rw[es3]
 have goal:∀ tk,GQ (Ey X.prog X.w) X.A (.compStart (.ListComp elt [⟨t0,i0,[],0⟩,⟨t1,i1,[],0⟩] scope pos) 0 (.ref it) (.ref s2.heap.objs.size) (Ku scope cl s3.heap.objs.size X.env))
   (JN (Ey X.prog X.w) X.A E use QQ (.ref s2.heap.objs.size) s3.heap.objs.size) { s3 with heap:=h₁,toks:=tk }:=fun tk =>
  codeAny_compStart_list (loop tk) (T.self _ 0 _ _ _ (T.keep 0 _ _ st2 fun b hb o e=>hkp b o (by rw[es3]; exact Eh _ e)) (loop tk))
 have g0:=goal (s2.toks+([]:List (Str × Value)).length)
 subst hs3
 exact g0
theorem xf (hc:X.calm=true) (ok:kZ X scope F cap) (hi:PI X t0 i0 wi)
  (hg:∀ cl C s H fp,PG (bj X scope cl C (L++F) s H fp) t0 g) (hi1:∀ cl C s H fp,PI (bj X scope cl C (L++F) s H fp) t1 i1 wi1) (hg1:∀ cl C s H fp,PG (bj X scope cl C (L++F) s H fp) t1 g1) (he:∀ cl C s H fp,PE (bj X scope cl C (L++F) s H fp) elt te)
  (hs:∀ x,GF i0 X.env x=pure x:=by intro _; rfl) (hs1:∀ (env:Ls) x,GF i1 env x=pure x:=by intro _ _; rfl):PE X (.ListComp elt [⟨t0,i0,[],0⟩,⟨t1,i1,[],0⟩] scope pos) (Az L.length cap wi g wi1 g1 te):=by
 intro pins s σ H Q I h
 obtain⟨cl,e1,e2,e3⟩:=qp (scope:=scope) (env:=X.env) (fun y hy hf=>I.ok.has _ (ok.fr y hy hf))
 rw[eval_ListComp]
 refine JG (use:=none) rfl hs e1 ok.kind ok.nms (thn (hi pins s σ H _ I h) fun v s1 h1=>thn h1 fun itv s2 h2=>?_)
 obtain⟨it,fp,tn,J,H2,e,I2,T,st2,f2,q2⟩:=h2
 subst e
 refine ux (Z:=fun H'=>Q (.ref s2.heap.objs.size) H') hc ok e2 e3 hg hi1 hg1 he hs1 I2 T st2 f2 (q2 _ I2.fresh) fun C s' H' z J m hCf hCl hCs hCc hCp=>?_
 obtain⟨m,hm⟩:=m
 exact⟨m,hm,fun h' hs'=>⟨.ref _,H',J.turned (t':=s'.toks) (fun b o hb e=>(hs'.2 b hb).trans e) hCf hCl (.inr hCs) hCc hCp,rfl,z⟩⟩
end
end L2
namespace L2
open PySem PySem.Spec PyProof.Rows
section
variable {X:Cx}
end
end L2
namespace L2
open PySem PySem.Spec PyProof.Rows
def In2 (D:Addr) (J1:It) (g1:TG) (te:TE) (N:List V->St->Hp->Prop) (ys:List V) (σ3:St) (H4:Hp):Prop :=
 ∃ Y:Nat->Nat->List V->St->Hp->Prop,(∃ m,Y 0 m ys σ3 H4) ∧
  ∀ j m zs σ5 H5,Y j m zs σ5 H5->((J1.stop j H5/\N zs σ5 H5)∨(J1.go j H5/\∃ M:List V->St->Hp->Prop,(∀ zs σ6 H6,M zs σ6 H6->∃ m',m' < m/\Y (j+1) m' zs σ6 H6) ∧
   ∀ y H6,J1.yld j H5 y H6->g1 y σ5 H6 fun σ7 H7=>te σ7 H7 fun v H8=>H8 D=some (.lst zs)/\zs.length < sizeLine/\M (zs++[v]) σ7 (upd H8 D (.lst (zs++[v])))))
theorem vd {K:FT} {a D:Addr} {xs:List V} {g:TG} {wi1:TI} {g1:TG} {te:TE} {H1:Hp} {Q:Hp->Prop} {σ0:St} (Pv:Nat->List V->St->Hp->Prop) (h0:Pv 0 [] σ0 (upd H1 D (.lst [])))
  (hl:∀ i ys σ H,i<=xs.length->Pv i ys σ H->SqT K H a xs)
  (hs:∀ i ys x σ H,xs[i]? = some x->Pv i ys σ H->g x σ H fun σ3 H3=>wi1 σ3 H3 fun J1 H4=>In2 D J1 g1 te (Pv (i+1)) ys σ3 H4)
  (hd:∀ ys σ H,Pv xs.length ys σ H->Q H):j7 D σ0 (Itt K a) g wi1 g1 te H1 Q:=by
 refine⟨fun i m ys σ H=>m=xs.length - i/\i<=xs.length/\Pv i ys σ H,⟨xs.length,by simp,Fq _,h0⟩,?_⟩
 rintro i m ys σ H ⟨rfl,hi,p⟩
 have q:=hl i ys σ H hi p
 by_cases hlt:i < xs.length
 ·refine .inr ⟨⟨xs,xs[i],q,by simp [hlt]⟩,Pv (i+1),fun zs σ' H' p'=>⟨xs.length - (i+1),by lia,rfl,hlt,p'⟩,fun x H' y=>?_⟩
  obtain⟨e,y⟩:=y
  subst e
  exact hs i ys x σ _ (y xs q) p
 ·have e:i=xs.length:=by lia
  subst e
  exact .inl ⟨⟨xs,q,Ei _⟩,hd ys σ H p⟩
theorem xM {K:FT} {b D:Addr} {ws:List V} {g1:TG} {te:TE} {N:List V->St->Hp->Prop} {ys:List V} {σ3:St} {H4:Hp} (Pw:Nat->List V->St->Hp->Prop) (h0:Pw 0 ys σ3 H4)
  (hl:∀ j zs σ H,j<=ws.length->Pw j zs σ H->SqL K H b ws)
  (hs:∀ j zs y σ H,ws[j]? = some y->Pw j zs σ H->g1 y σ H fun σ7 H7=>te σ7 H7 fun v H8=>H8 D=some (.lst zs)/\zs.length < sizeLine/\Pw (j+1) (zs++[v]) σ7 (upd H8 D (.lst (zs++[v]))))
  (hd:∀ zs σ H,Pw ws.length zs σ H->N zs σ H):In2 D (Itl K b) g1 te N ys σ3 H4:=by
 refine⟨fun j m zs σ H=>m=ws.length - j/\j<=ws.length/\Pw j zs σ H,⟨ws.length,by simp,Fq _,h0⟩,?_⟩
 rintro j m zs σ H ⟨rfl,hj,p⟩
 have q:=hl j zs σ H hj p
 by_cases hlt:j < ws.length
 ·refine .inr ⟨⟨ws,ws[j],q,by simp [hlt]⟩,Pw (j+1),fun zs' σ' H' p'=>⟨ws.length - (j+1),by lia,rfl,hlt,p'⟩,fun y H' z=>?_⟩
  obtain⟨e,z⟩:=z
  subst e
  exact hs j zs y σ _ (z ws q) p
 ·have e:j=ws.length:=by lia
  subst e
  exact .inl ⟨⟨ws,q,Ei _⟩,hd zs σ H p⟩
end L2
namespace L2
open PySem PySem.Spec PyProof.Rows
theorem yp {X:Cx} {op:Operator} {r:R2} (h:OpR X (KZ op) r):PIp X op r:=h
section
variable {X:Cx} {k j:Nat} {x:Str} {ps:List Str} {sp:Sp} {p pos:JM} {e:Expr} {es:List Expr} {t:TA} {E:XK}
end
section
variable {P:Ft} {w:FP} {K:FT} {mg:Str->Option Value} {base:Gh}
end
end L2
namespace L2
open PySem PySem.Spec PyProof.Rows
inductive HasDef (K:Eo) (x:Str) (st:Stmt) (f:Addr):Prop where
 | mk {od an:Option Addr} {sl:Array (Option Value)} {oc kV dc pm cd ct:Value} (a:PySem.W.nsIn K EY x=some (some (.ref f))) (l:K.lookup f=some ⟨oc,od,.func (IW x x (dC st) (dq st) (aG st) .none kV dc pm an cd ct),sl⟩) (c:J8 K cd x=true) (k:Jx K (.ref f)=true):HasDef K x st f
section
variable {P:Ft} {w:FP} {K:FT} {mg:Str->Option Value} {base h:Gh} {x:Str} {st:Stmt} {f:Addr} {ps:List Str} {sp:Sp} {k:Nat}
theorem HasDef.name (q:HasDef K x st f) (X:K.In h) (G:h.Ns EY mg):mg x=some (.ref f):=by
 obtain⟨a,l,c,k⟩:=q
 exact PySem.W.mg_of X G a
theorem HasDef.df (q:HasDef K x st f) (X:K.In h) (G:h.Ns EY mg) (hb:∀ fd,Fun K x x st f fd->Binds K fd ps []) (ok:∀ fd,Fun K x x st f fd->dw P w K mg base CX0 k f fd ps sp):Df P w K mg base x k ps sp:=by
 obtain⟨a,l,c,k⟩:=q
 have F:=ym l c k
 exact⟨⟨_,_,ok _ F,PySem.W.mg_of X G a,k,hb _ F⟩⟩
theorem HasDef.law {y:Str} (q:HasDef K x st f) (hb:∀ (kV dc pm:Value) (an:Option Addr) (cd ct:Value) (s:Eg) (v:Value),Ka s (W.fnOf x x (dC st) (dq st) (aG st) .none kV dc pm an cd ct) ⟨[v],[]⟩ [(y,v)]):∃ fd,Fun K x x st f fd/\∀ (s:Eg) (v:Value),Ka s fd ⟨[v],[]⟩ [(y,v)]:=by
 obtain⟨a,l,c,k⟩:=q
 exact⟨_,ym l c k,hb _ _ _ _ _ _⟩
theorem DY {α:Type}:∀ {us:List α},us.length=1->∃ x0,us=[x0]
 | [x0],_=>⟨x0,rfl⟩
theorem DK {α:Type}:∀ {us:List α},us.length=2->∃ x0 x1,us=[x0,x1]
 | [x0,x1],_=>⟨x0,x1,rfl⟩
theorem Du {α:Type}:∀ {us:List α},us.length=3->∃ x0 x1 x2,us=[x0,x1,x2]
 | [x0,x1,x2],_=>⟨x0,x1,x2,rfl⟩
theorem DN {α:Type}:∀ {us:List α},us.length=4->∃ x0 x1 x2 x3,us=[x0,x1,x2,x3]
 | [x0,x1,x2,x3],_=>⟨x0,x1,x2,x3,rfl⟩
theorem Dy {α:Type}:∀ {us:List α},us.length=5->∃ x0 x1 x2 x3 x4,us=[x0,x1,x2,x3,x4]
 | [x0,x1,x2,x3,x4],_=>⟨x0,x1,x2,x3,x4,rfl⟩
theorem bind1 {q a0:Str} (h:∀ (kV doc pm:Value) (an:Option Addr) (cdv ct x0:Value),J6 (W.fnOf x q (dC st) (dq st) (aG st) .none kV doc pm an cdv ct) ⟨[x0],[]⟩=pure [(a0,x0)]:=by intros; rfl):∀ fd,Fun K x q st f fd->Binds K fd [a0] []:=fun _ F=>F.binds fun kV doc pm an cdv ct us hl=>by
 obtain⟨x0,rfl⟩:=DY hl
 exact h kV doc pm an cdv ct x0
theorem di {q a0 a1:Str} (h:∀ (kV doc pm:Value) (an:Option Addr) (cdv ct x0 x1:Value),J6 (W.fnOf x q (dC st) (dq st) (aG st) .none kV doc pm an cdv ct) ⟨[x0,x1],[]⟩=pure [(a0,x0),(a1,x1)]:=by intros; rfl):∀ fd,Fun K x q st f fd->Binds K fd [a0,a1] []:=fun _ F=>F.binds fun kV doc pm an cdv ct us hl=>by
 obtain⟨x0,x1,rfl⟩:=DK hl
 exact h kV doc pm an cdv ct x0 x1
theorem jW {q a0 a1 a2:Str} (h:∀ (kV doc pm:Value) (an:Option Addr) (cdv ct x0 x1 x2:Value),J6 (W.fnOf x q (dC st) (dq st) (aG st) .none kV doc pm an cdv ct) ⟨[x0,x1,x2],[]⟩=pure [(a0,x0),(a1,x1),(a2,x2)]:=by intros; rfl):∀ fd,Fun K x q st f fd->Binds K fd [a0,a1,a2] []:=fun _ F=>F.binds fun kV doc pm an cdv ct us hl=>by
 obtain⟨x0,x1,x2,rfl⟩:=Du hl
 exact h kV doc pm an cdv ct x0 x1 x2
theorem tM {q a0 a1 a2 a3:Str} (h:∀ (kV doc pm:Value) (an:Option Addr) (cdv ct x0 x1 x2 x3:Value),J6 (W.fnOf x q (dC st) (dq st) (aG st) .none kV doc pm an cdv ct) ⟨[x0,x1,x2,x3],[]⟩=pure [(a0,x0),(a1,x1),(a2,x2),(a3,x3)]:=by intros; rfl):∀ fd,Fun K x q st f fd->Binds K fd [a0,a1,a2,a3] []:=fun _ F=>F.binds fun kV doc pm an cdv ct us hl=>by
 obtain⟨x0,x1,x2,x3,rfl⟩:=DN hl
 exact h kV doc pm an cdv ct x0 x1 x2 x3
theorem Aj {q a0 a1 a2 a3 a4:Str} (h:∀ (kV doc pm:Value) (an:Option Addr) (cdv ct x0 x1 x2 x3 x4:Value),J6 (W.fnOf x q (dC st) (dq st) (aG st) .none kV doc pm an cdv ct) ⟨[x0,x1,x2,x3,x4],[]⟩=pure [(a0,x0),(a1,x1),(a2,x2),(a3,x3),(a4,x4)]:=by intros; rfl):∀ fd,Fun K x q st f fd->Binds K fd [a0,a1,a2,a3,a4] []:=fun _ F=>F.binds fun kV doc pm an cdv ct us hl=>by
 obtain⟨x0,x1,x2,x3,x4,rfl⟩:=Dy hl
 exact h kV doc pm an cdv ct x0 x1 x2 x3 x4
end
end L2
namespace L2
open PySem PySem.Spec PyProof.Rows PySem.Builtin PySem.Builtin.Str
section
variable {X:Cx}
theorem Inv.wR {X:Cx} {pins:List (Addr × Hn)} {σ:St} {H:Hp} {s s':Eg} {l:Addr} {ys:List V} {its:List Value} {c:Nat} (I:Inv X pins σ H s) (ho:s'.os=s.os) (hg:s'.gens=s.gens) (k:∀ b u,s.heap.get? b=some u->s'.heap.get? b=some u)
  (hl:s.heap.objs.size<=l) (hv:Vals ys its) (hz:ys.length<=sizeLine) (g:s'.heap.get? l=some { cls:=.type "tuple",data:=.seq its.toArray c }):Inv X pins σ (upd H l (.tup ys)) s':=by
 have J:=I.laid (t':=s.toks) (o:=.tup ys) k hl ⟨hz,its,hv,_,g,rfl,c,rfl⟩
 exact⟨J.ok,ho.trans I.os,by rw[hg]; exact I.bare,J.base,J.loc,J.cell,J.free,J.freeC,J.pin,J.hok,J.len⟩
def zf:V->List V->Hp->VK->Prop:=fun x vs H Q=>∃ (a b:Str),x = .str a/\vs=[.str b]/\Q (.bl (Txt.startswith a b)) H
theorem ur:MtR X "str.startswith" zf:=by
 intro pins s σ H x xs v us Q I rx rv h
 obtain⟨a,b,rfl,rfl,q⟩:=h
 obtain⟨t,rfl⟩:=rx
 obtain⟨u,rfl,t',rfl⟩:=vals1 rv
 exact SC.startswith ⟨.bl _,H,I,rfl,q⟩
def Ak:V->List V->Hp->VK->Prop:=fun x vs H Q=>∃ (a b:Str),x = .str a/\vs=[.str b]/\Q (.bl (Txt.endswith a b)) H
theorem yE:MtR X "str.endswith" Ak:=by
 intro pins s σ H x xs v us Q I rx rv h
 obtain⟨a,b,rfl,rfl,q⟩:=h
 obtain⟨t,rfl⟩:=rx
 obtain⟨u,rfl,t',rfl⟩:=vals1 rv
 exact SC.endswith ⟨.bl _,H,I,rfl,q⟩
def tri (p:Str × Str × Str):List V:=[.str p.1,.str p.2.1,.str p.2.2]
theorem j5 (p:Str × Str × Str) (ta tb tc:K3):Vals (tri p) [.str p.1 ta,.str p.2.1 tb,.str p.2.2 tc]:=.cons (show RelV (.str _) _ from ⟨ta,rfl⟩) (.cons (show RelV (.str _) _ from ⟨tb,rfl⟩) (.cons (show RelV (.str _) _ from ⟨tc,rfl⟩) .nil))
theorem mL (p:Str × Str × Str):(tri p).length<=sizeLine:=by show 3<=sizeLine; decide+kernel
def Cu:V->List V->Hp->VK->Prop:=fun x vs H Q=>∃ (a b:Str),x = .str a/\vs=[.str b]/\(b.length == 0)=false/\a.length<=sizeLine/\∀ p,H p=none->Q (.ref p) (upd H p (.tup (tri (Txt.partition a b))))
theorem zb:MtR X "str.partition" Cu:=by
 intro pins s σ H x xs v us Q I rx rv h
 obtain⟨a,b,rfl,rfl,hy,hz,q⟩:=h
 obtain⟨t,rfl⟩:=rx
 obtain⟨u,rfl,t',rfl⟩:=vals1 rv
 refine JR F.slot_str_partition (Jd _ _ _) F.entry_str_partition (F.args_str_partition_2 _ _) (meets_str_partition a b t t' hy hz) ?_
 unfold Txt.partition at q
 revert q
 cases occurrences a b 0 a.length 1 with
 | nil=>intro q; exact⟨.ref _,_,I.wR rfl rfl (fun _ _ e=>Eh _ e) (Ei _) (j5 _ _ _ _) (mL _) (Ew _ rfl),rfl,q _ (I.hok.fresh (Ei _))⟩
 | cons i r=>intro q; exact⟨.ref _,_,I.wR rfl rfl (fun _ _ e=>Eh _ e) (Ei _) (j5 _ _ _ _) (mL _) (Ew _ rfl),rfl,q _ (I.hok.fresh (Ei _))⟩
def zF:V->List V->Hp->VK->Prop:=fun x vs H Q=>∃ (a b:Str),x = .str a/\vs=[.str b]/\(b.length == 0)=false/\a.length<=sizeLine/\∀ p,H p=none->Q (.ref p) (upd H p (.tup (tri (Txt.rpartition a b))))
theorem rG:MtR X "str.rpartition" zF:=by
 intro pins s σ H x xs v us Q I rx rv h
 obtain⟨a,b,rfl,rfl,hy,hz,q⟩:=h
 obtain⟨t,rfl⟩:=rx
 obtain⟨u,rfl,t',rfl⟩:=vals1 rv
 refine JR F.slot_str_rpartition (Jd _ _ _) F.entry_str_rpartition (F.args_str_rpartition_2 _ _) (meets_str_rpartition a b t t' hy hz) ?_
 unfold Txt.rpartition at q
 revert q
 cases lastOccurrence a b 0 a.length with
 | none=>intro q; exact⟨.ref _,_,I.wR rfl rfl (fun _ _ e=>Eh _ e) (Ei _) (j5 _ _ _ _) (mL _) (Ew _ rfl),rfl,q _ (I.hok.fresh (Ei _))⟩
 | some i=>intro q; exact⟨.ref _,_,I.wR rfl rfl (fun _ _ e=>Eh _ e) (Ei _) (j5 _ _ _ _) (mL _) (Ew _ rfl),rfl,q _ (I.hok.fresh (Ei _))⟩
def An:List V->Hp->VK->Prop:=fun xs H Q=>∃ (z:Str) (n:Int),xs=[.str z]/\PySem.intText? z=some n/\z.length<=640/\Q (.int n) H
end
end L2
namespace L2
open PySem PySem.Spec PyProof.Rows PySem.Builtin PySem.Builtin.Str
section
variable {X:Cx}
theorem uN:fZ X (.type "int") An:=by
 intro pins s σ H xs us Q I r h
 obtain⟨z,n,rfl,hn,hl,q⟩:=h
 obtain⟨u,rfl,t,rfl⟩:=vals1 r
 exact PySem.W.KIN.call_text hn hl ⟨.int _,H,I.tok _,⟨_,rfl⟩,q⟩
theorem oW:∀ l:List (Str × K3),Vals ((l.map (·.1)).map V.str) (strValues l)
 | []=>.nil
 | p::r=>.cons (show RelV (.str _) _ from ⟨p.2,rfl⟩) (oW r)
theorem xH {A:Gd} {E:Value->Eg->Prop} {s:Eg} {prog:Ft} {w:FP} {x y:Str} {t u:K3} {Q:Value->Eg->Prop} (hy:(y.length == 0)=false)
  (h:∀ l k,l.map (·.1)=Txt.split x y->Q (.ref s.heap.objs.size) { s with heap:=s.heap.push { cls:=.type "list",data:=.seq (strValues l).toArray },toks:=k }) (hsz:x.length+2<=sizeLine) :
  Eu (Ey prog w) A (call (.builtin "str.split") [.str x t,.str y u]) Q E s:=by
 have hn:(partsBetween x (occurrences x y 0 x.length (x.length+1)) y.length).length<=sizeLine:=by
  have e1:=StrLaws.occ_length_le x y 0 x.length (x.length+1)
  rw[length_partsBetween]; lia
 cases h1:(decide (x.length < y.length) || decide (strKind x < strKind y))
 ·cases hf:(occurrences x y 0 x.length (x.length+1)).isEmpty
  ·refine JR K7 (Jd _ _ _) KN (Kq _ _) (meets_str_split_sep x y t u h1 hy hf (by lia) hn) ?_
   show wants Q E _ { s with toks:=_,heap:=s.heap.push { cls:=.type "list",data:=.seq (strsFrom s.toks (partsBetween x (occurrences x y 0 x.length (x.length+1)) y.length)).toArray } }
   rw[strsFrom_eq]
   exact h (numbered s.toks _) _ ((numbered_texts _ _).trans ((if_neg (ne_true_of_eq_false h1)).trans (if_neg (ne_true_of_eq_false hf))).symm)
  ·exact JR K7 (Jd _ _ _) KN (Kq _ _) (meets_str_split_not_found x y t u h1 hy hf)
    (h [(x,t)] s.toks ((if_neg (ne_true_of_eq_false h1)).trans (if_pos hf)).symm)
 ·exact JR K7 (Jd _ _ _) KN (Kq _ _) (meets_str_split_cannot_occur x y t u h1)
   (h [(x,t)] s.toks (if_pos h1).symm)
def Bc:V->List V->Hp->VK->Prop:=fun x vs H Q=>∃ (a b:Str),x = .str a/\vs=[.str b]/\(b.length == 0)=false/\a.length<=1000000/\(Txt.split a b).length<=1000000/\∀ p,H p=none->Q (.ref p) (upd H p (.lst ((Txt.split a b).map V.str)))
theorem sH:MtR X "str.split" Bc:=by
 intro pins s σ H x xs v us Q I rx rv h
 obtain⟨a,b,rfl,rfl,hy,hz,hn,q⟩:=h
 obtain⟨t,rfl⟩:=rx
 obtain⟨u,rfl,t',rfl⟩:=vals1 rv
 refine xH hy (fun l k e=>?_) (by rw[sizeLine_eq]; lia)
 rw[← e] at q hn
 exact⟨.ref _,_,I.yR rfl rfl (fun _ _ e=>Eh _ e) (Ei _) (oW l) (by rw[Eb,sizeLine_eq]; lia) (Ew _ rfl),rfl,q _ (I.hok.fresh (Ei _))⟩
theorem uC:∀ {zs:List Str} {us:List Value},Vals (zs.map V.str) us->StrsAre us zs
 | [],_,h=>by cases h; exact .nil
 | z::zs,_,h=>by
  cases h with
  | cons e r =>
   obtain⟨t,rfl⟩:=e
   exact .cons _ _ (uC r)
def rJoin (K:FT):V->List V->Hp->VK->Prop:=fun x vs H Q=>∃ (a:Str) (p:Addr) (zs:List Str),x = .str a/\vs=[.ref p]/\SqL K H p (zs.map V.str)/\(zs.map (·.length)).sum+zs.length * a.length<=16777216/\Q (.str (Txt.join a zs)) H
theorem jz:MtR X "str.join" (rJoin X.K):=by
 intro pins s σ H x xs v us Q I rx rv h
 obtain⟨a,p,zs,rfl,rfl,hq,hs,q⟩:=h
 obtain⟨t,rfl⟩:=rx
 obtain⟨u,rfl,ru⟩:=vals1 rv
 cases ru
 obtain⟨its,rv',pl,_⟩:=I.list hq
 exact join_list pl.isList (uC rv') hs fun t' k=>⟨.str _,H,I.tok _,⟨_,rfl⟩,q⟩
end
end L2
namespace L2
open PySem PySem.Spec PyProof.Rows
section
variable {X:Cx} {e v1 v2:Expr} {es:List Expr} {te:TE} {pos:JM}
def TF:=Str->TE
def PF (X:Cx) (es:List Expr) (tf:TF):Prop:=∀ (pins:List (Addr × Hn)) (s:Eg) (σ:St) (H:Hp) (Q:VK) (out:Str),Inv X pins σ H s->tf out σ H Q->Eu (Ey X.prog X.w) X.A (joinParts out (evalEach es X.env)) (EP X pins σ Q) X.xe s
def DP:TF:=fun out _ H Q=>out.length<=sizeLine/\Q (.str out) H
def BW (te:TE) (tf:TF):TF:=fun out σ H Q=>te σ H fun x H1=>∃ (y:Str),x = .str y/\(out++y).length<=sizeLine/\tf (out++y) σ H1 Q
theorem pC:PF X [] DP:=by
 intro pins s σ H Q out I h
 exact joinParts_nil ⟨.str _,H,I.tok _,⟨_,rfl⟩,h.2⟩ h.1
theorem cj {tf:TF} (he:PE X e te) (hs:PF X es tf):PF X (e::es) (BW te tf):=by
 intro pins s σ H Q out I h
 refine joinParts_cons (thn (he pins s σ H _ I h) fun v s1 ⟨x,H1,I1,r1,q⟩=>?_)
 obtain⟨y,rfl,hz,q⟩:=q
 obtain⟨t,rfl⟩:=r1
 exact⟨hz,hs pins s1 σ H1 Q _ I1 q⟩
theorem vI {tf:TF} (h:PF X (v1::v2::es) tf):PE X (.JoinedStr (v1::v2::es) pos) (tf Str.empty):=fun pins s σ H Q I hq=>JoinedStr_many (h pins s σ H Q _ I hq)
def Dz (te:TE):TE:=fun σ H Q=>te σ H fun x H1=>(∃ i:Int,x = .int i/\i.natAbs.log2 < 1920/\Q (.str (toString i)) H1)∨∃ (z:Str),x = .str z/\z.length<=sizeLine/\Q (.str z) H1
theorem gU (he:PE X e te):PE X (.FormattedValue e (-1) none pos) (Dz te):=by
 intro pins s σ H Q I h
 refine FormattedValue_plain (thn (he pins s σ H _ I h) fun v s1 ⟨x,H1,I1,r1,q⟩=>?_)
 rcases q with⟨i,rfl,hz,q⟩ | ⟨z,rfl,hz,q⟩
 ·obtain⟨t,rfl⟩:=r1
  exact formatField_int_small hz ⟨.str _,H1,I1.tok _,⟨_,rfl⟩,q⟩
 ·obtain⟨t,rfl⟩:=r1
  exact formatField_str (fun t' k=>⟨.str _,H1,I1.tok _,⟨_,rfl⟩,q⟩) hz
end
end L2
namespace L2
open PySem PySem.Spec PyProof.Rows PySem.Builtin PySem.Builtin.Str
section
variable {X:Cx}
def n6 (x:Str) (lo hi:Option Int):Str:=if (strSliceIndices lo hi 1 x.length).length=x.length then x else ⟨((strSliceIndices lo hi 1 x.length).filterMap (x.cps[·]?)).toArray⟩
def Bo:V->Option Int->Option Int->Hp->VK->Prop:=fun x lo hi H Q=>∃ (a:Str),x = .str a/\a.length<=sizeLine/\(n6 a lo hi).length<=sizeLine/\Q (.str (n6 a lo hi)) H
theorem j6 {pins:List (Addr × Hn)} {s:Eg} {σ:St} {H:Hp} {a:Str} {t:K3} {l u:Option (Int × K3)} {Q:VK} (I:Inv X pins σ H s) (hl:(n6 a (l.map (·.1)) (u.map (·.1))).length<=sizeLine) (q:Q (.str (n6 a (l.map (·.1)) (u.map (·.1)))) H) :
  (sliceMade a t l u none).post (EP X pins σ Q) s:=by
 unfold sliceMade slicePicked
 unfold n6 at q hl
 by_cases z:(strSliceIndices (l.map (·.1)) (u.map (·.1)) 1 a.length).length=a.length
 ·rw[if_pos z] at q
  rw[if_pos (by simpa using z)]
  exact⟨.str a,H,I,⟨_,rfl⟩,q⟩
 ·rw[if_neg z] at q hl
  rw[if_neg (by simpa using z)]
  first | exact⟨.str _,H,I.tok _,⟨_,rfl⟩,q⟩ | exact⟨hl,.str _,H,I.tok _,⟨_,rfl⟩,q⟩
theorem uU:SlR X Bo:=by
 intro pins s σ H x v vl vu lo hi sl Q I rx hs pl pu h
 obtain⟨a,rfl,hz,hl,q⟩:=h
 obtain⟨t,rfl⟩:=rx
 refine⟨"str",_,F.slot_str_getitem.lookup,Jd _ _ _,?_⟩
 cases pl with
 | none =>
  cases pu with
  | none=>exact Ir (l:=none) (u:=none) (st:=none) hs rfl (j6 I hl q)
  | int i2 t2=>exact Ir (l:=none) (u:=some (i2,t2)) (st:=none) hs rfl (j6 I hl q)
 | int i1 t1 =>
  cases pu with
  | none=>exact Ir (l:=some (i1,t1)) (u:=none) (st:=none) hs rfl (j6 I hl q)
  | int i2 t2=>exact Ir (l:=some (i1,t1)) (u:=some (i2,t2)) (st:=none) hs rfl (j6 I hl q)
end
end L2
namespace L2
open PySem PySem.Spec PyProof.Rows
def Bj (x:Str):Prop:=x.cps.all (· < 128)=true
def sgn (x:Str) (i:Nat):V:=.str ⟨#[x.cps.getD i 0]⟩
def Its (x:Str):It:=⟨fun i _=>i < x.cps.size,fun i H v H'=>H'=H/\v=sgn x i,fun i _=>x.cps.size<=i⟩
theorem wX {P:Ft} {w:FP} {K:FT} {tg:Expr} (x:Str) (t:K3) (it:Addr):Turn P w K tg (Its x) [it] it (fun i h=>h.IsStrIter it "str_ascii_iterator" x t i) where
 mem:=by simp
 obj:=fun i h st b hb=>by
  have e:b=it:=by simpa using hb
  subst e
  obtain⟨o,e,c,d⟩:=st
  exact⟨o,e,fun v z=>by rw[d] at z; cases z⟩
 keep:=fun i h h' st k=>by
  obtain⟨o,e,r⟩:=st
  exact⟨o,k it (by simp) o e,r⟩
 item:=by
  intro X hP hw hK hc i pins s σ H E I hf st hg
  subst hP hw hK
  have hi:i < x.cps.size:=hg
  obtain⟨f0,f1,f2,f3,f4,f5⟩:=hf it (by simp)
  refine wpAny_pyNext_ascii_item st (c:=x.cps.getD i 0) (by simp [Array.getD,hi]) fun h' st' sb=>?_
  have I1:Inv X pins σ H { s with heap:=h',toks:=s.toks+1 }:=I.turned (t':=s.toks+1) (fun b o hb e=>(sb.2 b hb).trans e) f0 f1 f3 f4 f5
  obtain⟨o,e,c,d⟩:=id st'
  exact⟨_,rfl,wH (s:={ s with heap:=h',toks:=s.toks+1 }) e c d (by decide) ⟨sgn x i,H,I1,⟨_,rfl⟩,⟨rfl,rfl⟩,st',fun b hb=>(hf b hb).1⟩⟩
 done:=by
  intro X hP hw hK hc i pins s σ H E I hf st hg
  subst hP hw hK
  have hi:x.cps.size<=i:=hg
  obtain⟨f0,f1,f2,f3,f4,f5⟩:=hf it (by simp)
  exact wpAny_pyNext_ascii_end (I.ok.hd hc) st (by simp; lia) fun h' eb=>⟨rfl,I.turned (t':=s.toks) (fun b o hb e=>eb b o hb e) f0 f1 f3 f4 f5⟩
 self:=fun _ _ _ _ _ st h=>wpAny_pyIter_striter_ascii st h
section
variable {X:Cx} {tg:Expr}
def Dq (tl:TE):TI:=fun σ H R=>tl σ H fun v H1=>∃ (x:Str),v = .str x/\Bj x/\R (Its x) H1
theorem Ax {l:Expr} {tl:TE} (hl:PE X l tl):PI X tg l (Dq tl):=by
 intro pins s σ H R I h
 refine thn (hl pins s σ H _ I h) fun v s1 ⟨y,H1,I1,r1,q1⟩=>?_
 obtain⟨x,rfl,ha,q⟩:=q1
 obtain⟨t,rfl⟩:=r1
 refine wpAny_pyIter_ascii ha ?_
 refine⟨s1.heap.objs.size,[s1.heap.objs.size],_,_,H1,rfl,I1.kept (t':=s1.toks) fun b o e=>Eh _ e,wX x t _,⟨_,Ew _ rfl,rfl,rfl⟩,fun b hb=>?_,q⟩
 have e:b=s1.heap.objs.size:=by simpa using hb
 subst e
 exact I1.zq (Ei _) (I1.hok.fresh (Ei _))
end
end L2
namespace L2
open PySem PySem.Spec PyProof.Rows
def zY (y : Str) : It :=
  ⟨fun i _ => i < y.cps.size,
   fun i H v H' => ∃ p, H p = none ∧ v = .ref p ∧ H' = upd H p (.tup [.int (i : Int), sgn y i]),
   fun i _ => i = y.cps.size⟩
def tnS (y:Str) (t:K3) (e it:Addr) (i:Nat) (h:Gh):Prop:=(∃ old,IsEnum h e it (i:Int) old)/\h.IsStrIter it "str_ascii_iterator" y t i
theorem tQ {P:Ft} {w:FP} {K:FT} {elts:List Expr} {x1} {pos:JM} {y:Str} {t:K3} {e it:Addr} (hne:e≠it) :
  Turn P w K (.Tuple elts x1 pos) (zY y) [e,it] e (tnS y t e it) where
 mem:=by simp
 obj:=fun i h st c hc=>by
  obtain⟨⟨old,he⟩,⟨o,ho,_,d⟩⟩:=st
  simp only[GD,HX,or_false] at hc
  rcases hc with rfl | rfl
  ·exact⟨_,he,fun v z=>by cases z⟩
  ·exact⟨_,ho,fun v z=>by rw[d] at z; cases z⟩
 keep:=fun i h h' st k=>by
  obtain⟨⟨old,he⟩,⟨o,ho,r⟩⟩:=st
  exact⟨⟨old,k e (by simp) _ he⟩,⟨o,k it (by simp) o ho,r⟩⟩
 item:=by
  intro X hP hw hK hc i pins s σ H E I hf st hg
  subst hP hw hK
  have hi:i < y.cps.size:=hg
  obtain⟨⟨old,he⟩,j⟩:=st
  have hh:X.A.in1.handled=none:=by
   have:=I.ok.hd hc
   simpa using this
  refine wpAny_pyNext_enum_itemD (Draws.strAscii hh it y t) he j hi hne (by simpa using hne) fun xu h' tk hP e1 j1 t1 z1 kp=>⟨_,rfl,?_⟩
  have rx:RelV (sgn y i) xu:=by
   obtain⟨c,t',e1,e2⟩:=hP
   rw[e2]
   have:y.cps.getD i 0=c:=by
    rw[Gn,e1]
    rfl
   unfold sgn
   rw[this]
   exact⟨_,rfl⟩
  refine wpAny_letOwnedTupleGo_enum e1 fun h2 e2 b2=>?_
  have el:e < s.heap.objs.size:=Ep he
  have il:it < s.heap.objs.size:=by obtain⟨o,q,_⟩:=j; exact Ep q
  have I1:Inv X pins σ (upd H s.heap.objs.size (.tup [.int (i:Int),sgn y i])) { s with heap:=s.heap.push { cls:=.type "tuple",data:=.seq #[.int i tk,xu] },toks:=tk+1 } :=
   I.laid (t':=tk+1) (fun _ _ q=>Eh _ q) (Ei _) ⟨by show 2<=sizeLine; decide,[.int i tk,xu],.cons ⟨_,rfl⟩ (.cons rx .nil),⟨_,Ew _ rfl,rfl,_,rfl⟩⟩
  have ff:∀ c∈[e,it],pO X pins (upd H s.heap.objs.size (.tup [.int (i:Int),sgn y i])) c:=fun c hc=>by
   obtain⟨f0,fr⟩:=hf c hc
   have cl:c < s.heap.objs.size:=by
    simp only[GD,HX,or_false] at hc
    rcases hc with rfl | rfl
    ·exact el
    ·exact il
   exact⟨by rw[cB (Fl cl)]; exact f0,fr⟩
  have kk:∀ c o,c ∉ [e,it]->(s.heap.push { cls:=.type "tuple",data:=.seq #[.int i tk,xu] }).get? c=some o->h2.get? c=some o:=fun c o hc q=>by
   have c1:c≠e:=fun h=>hc (by simp [h])
   have c2:c≠it:=fun h=>hc (by simp [h])
   refine (b2.2 c c1).trans ?_
   rcases Heap.get?_push_cases q with⟨ec,eo⟩ | q'
   ·subst ec
    subst eo
    exact t1
   ·exact kp c o c1 c2 q'
  have I2:Inv X pins σ (upd H s.heap.objs.size (.tup [.int (i:Int),sgn y i])) { s with heap:=h2,toks:=tk+1 } :=
   Inv.mU (s:={ s with heap:=s.heap.push { cls:=.type "tuple",data:=.seq #[.int i tk,xu] },toks:=tk+1 }) (h':=h2) (t':=tk+1) (ch:=[e,it]) I1 kk ff
  obtain⟨oj,hoj,rj⟩:=j1
  exact⟨.ref s.heap.objs.size,_,I2,rfl,⟨_,I.fresh,rfl,rfl⟩,⟨⟨_,e2⟩,⟨oj,(b2.2 it (Jh hne)).trans hoj,rj⟩⟩,fun c hc=>(ff c hc).1⟩
 done:=by
  intro X hP hw hK hc i pins s σ H E I hf st hg
  subst hP hw hK
  have hi:i=y.cps.size:=hg
  subst hi
  obtain⟨⟨old,he⟩,j⟩:=st
  have hh:X.A.in1.handled=none:=by
   have:=I.ok.hd hc
   simpa using this
  refine wpAny_pyNext_enum_endD (Draws.strAscii hh it y t) he j fun h' eb=>⟨rfl,?_⟩
  exact I.mU (t':=s.toks) (ch:=[e,it]) (fun c o hc q=>eb c o (fun h=>hc (by simp [h])) q) hf
 self:=fun _ _ _ _ _ st h=>by
  obtain⟨⟨old,he⟩,_⟩:=st
  exact JD he h
def Av (ta:TA):TI:=fun σ H R=>ta σ H fun vs H1=>∃ (y:Str),vs=[.str y]/\Bj y/\R (zY y) H1
theorem xr {X:Cx} {elts:List Expr} {x1} {tpos:JM} {a:Expr} {ta:TA} {p pos:JM} (hg:Gl X "enumerate") (hm:X.mg "enumerate" = none) (ha:PA X [a] ta) (hs:FZ [a] X.env=[(false,Im a X.env)]:=by rfl) :
  PI X (.Tuple elts x1 tpos) (.Call (.Name "enumerate" p) [a] [] pos) (Av ta):=by
 intro pins s σ H R I h
 refine Call_ (jQ I hg hm boot_enumerate (GR (thn (ha pos pins s σ H _ I h) fun us s1 ⟨vs,H1,I1,r1,q1⟩=>?_) hs rfl))
 obtain⟨y,e,hy,q⟩:=q1
 subst e
 obtain⟨u1,rfl,t,rfl⟩:=vals1 r1
 refine call_enumerate_str fun h' e1 j1 _ kp=>?_
 have en:s1.heap.objs.size+1≠s1.heap.objs.size:=Ja (Jg _)
 have j1':h'.IsStrIter s1.heap.objs.size "str_ascii_iterator" y t 0:=by
  have e:strIterType y = "str_ascii_iterator":=if_pos hy
  rw[e] at j1
  exact j1
 refine JD e1 ⟨_,_,_,_,H1,rfl,I1.kept (t':=s1.toks) kp,tQ (y:=y) (t:=t) en,⟨⟨_,e1⟩,j1'⟩,fun b hb=>?_,q⟩
 have hle:s1.heap.objs.size<=b:=by
  simp only[GD,HX,or_false] at hb
  rcases hb with rfl | rfl
  ·exact Hi _
  ·exact Ei _
 exact I1.zq hle (I1.hok.fresh hle)
theorem vW {y:Str} {g:TG} {tb:TS} {D:Ends} {σ:St} {H:Hp} (Pv:Nat->St->Hp->Prop) (h0:Pv 0 σ H)
  (hs:∀ i p σ H,i < y.cps.size->H p=none->Pv i σ H->g (.ref p) σ (upd H p (.tup [.int (i:Int),sgn y i])) fun σ2 H2=>tb { D with nx:=Pv (i+1),ct:=Pv (i+1),bk:=D.nx } σ2 H2) (hd:∀ σ H,Pv y.cps.size σ H->D.nx σ H) :
  ∃ W:Nat->Nat->St->Hp->Prop,(∃ m,W 0 m σ H)/\∀ i m σ H,W i m σ H →
   ((zY y).stop i H/\D.nx σ H)∨((zY y).go i H/\∃ N:St->Hp->Prop,(∀ σ' H',N σ' H'->∃ m',m' < m/\W (i+1) m' σ' H')/\∀ x H',(zY y).yld i H x H'->g x σ H' fun σ2 H2=>tb { D with nx:=N,ct:=N,bk:=D.nx } σ2 H2):=by
 refine⟨fun i m σ H=>m=y.cps.size - i/\i<=y.cps.size/\Pv i σ H,⟨y.cps.size,by simp,Fq _,h0⟩,?_⟩
 rintro i m σ H ⟨rfl,hi,p⟩
 by_cases hlt:i < y.cps.size
 ·refine .inr ⟨hlt,Pv (i+1),fun σ' H' p'=>⟨y.cps.size - (i+1),by lia,rfl,hlt,p'⟩,fun v H' z=>?_⟩
  obtain⟨pp,hp,rfl,rfl⟩:=z
  exact hs i pp σ _ hlt hp p
 ·have e:i=y.cps.size:=by lia
  subst e
  exact .inl ⟨rfl,hd σ H p⟩
end L2
namespace L2
open PySem PySem.Spec PyProof.Rows PySem.Builtin PySem.Builtin.Str
theorem Cv {X:Cx} {x z:Str} {pos:JM} {tk:K3} (hm:X.mg x=some (.str z tk)) (hg:Gl X x:=by rfl) (hd:(x == ("__debug__" : Str))=false:=by decide):PE X (.Name x pos) (tC (.str z)):=uM hg hm ⟨_,rfl⟩ hd
section
variable {D:Addr} {x:Str} {g:TG} {tt:TT} {te:TE} {H1:Hp} {Q:Hp->Prop} {σ0:St}
theorem xg (Pv:Nat->List V->St->Hp->Prop) (h0:Pv 0 [] σ0 (upd H1 D (.lst []))) (hl:∀ i ys σ H,i<=x.cps.size->Pv i ys σ H->H D=some (.lst ys))
  (hs:∀ i ys σ H,i < x.cps.size->Pv i ys σ H->g (sgn x i) σ H fun σ3 H3=>tt σ3 H3 fun b H4=>if b=true then te σ3 H4 fun y H5=>H5 D=some (.lst ys)/\ys.length < sizeLine/\Pv (i+1) (ys++[y]) σ3 (upd H5 D (.lst (ys++[y]))) else Pv (i+1) ys σ3 H4)
  (hd:∀ ys σ H,Pv x.cps.size ys σ H->Q H):eG D σ0 (Its x) g tt te H1 Q:=by
 refine⟨fun i m ys σ H=>m=x.cps.size - i/\i<=x.cps.size/\Pv i ys σ H,⟨x.cps.size,by simp,Fq _,h0⟩,?_⟩
 rintro i m ys σ H ⟨rfl,hi,p⟩
 refine⟨hl i ys σ H hi p,?_⟩
 by_cases hlt:i < x.cps.size
 ·refine .inr ⟨hlt,Pv (i+1),fun zs σ' H' p'=>⟨x.cps.size - (i+1),by lia,rfl,hlt,p'⟩,fun v H' y=>?_⟩
  obtain⟨e,y⟩:=y
  subst e y
  exact hs i ys σ _ hlt p
 ·have e:i=x.cps.size:=by lia
  subst e
  exact .inl ⟨Ei _,hd ys σ H p⟩
end
theorem uB (x:Str) (lo hi:Option Int):n6 x lo hi=StrLaws.sliceText x lo hi:=by
 unfold n6 StrLaws.sliceText
 by_cases h:(strSliceIndices lo hi 1 x.length).length=x.length
 ·rw[if_pos h,if_pos (by simpa using h)]
 ·rw[if_neg h,if_neg (by simpa using h)]
end L2
namespace My
open PySem L2
variable {P:Ft} {w:FP} {K:FT} {mg:Str->Option Value} {base:Gh} {f:Addr} {fd:Hy}
def top (i:Nat):Stmt:=PySem.Challenge.pw_loveboon_k46_terms_and_pledges_written.main.body.getD i (.Pass ⟨0,0,0,0⟩)
theorem az {H:Hp} {p:Addr} (h:H p=none) (o:HO):bu H (upd H p o):=fun b u q=>by rw[cB (cV q h)]; exact q
theorem bh {H H':Hp} {p:Addr} (s:bu H H') (h:H p=none) (o:HO):bu H (upd H' p o):=fun b u q=>by rw[cB (cV q h)]; exact s b u q
theorem sV {K:FT} {H H':Hp} {a:Addr} {xs:List V} (e:bu H H') (h:SqT K H a xs):SqT K H' a xs:=by
 rcases h with (h | ⟨o,h⟩) | h
 ·exact .inl (.inl (e _ _ h))
 ·exact .inl (.inr ⟨o,e _ _ h⟩)
 ·exact .inr h
theorem vp {H:Hp} {p:Addr} {o o':HO}:upd (upd H p o) p o'=upd H p o':=by
 funext b
 unfold upd
 by_cases e:b=p
 ·rw[if_pos e,if_pos e]
 ·rw[if_neg e,if_neg e,if_neg e]
theorem small {n:Nat} (h:n<=1000):n<=sizeLine:=Hv (aU h)
theorem int_at {ns:List Int} {i:Nat} {x:V} (h:(ns.map V.int)[i]? = some x):∃ n,ns[i]? = some n/\x = .int n:=by
 rw[Fd] at h
 cases e:ns[i]? with
 | none=>rw[e] at h; cases h
 | some n=>rw[e] at h; exact⟨n,rfl,(FW h).symm⟩
theorem m7 {α β:Type} (f:α->β) {xs:List α} {i:Nat} {x:α} (h:xs[i]? = some x):(xs.take i).map f++[f x]=(xs.take (i+1)).map f:=by
 rw[Fw,h,Er]
 rfl
theorem gT {i:Nat} {x:V} {σ:St} {H:Hp} {A B:St->Hp->Prop} (h:A (σ.set i (some x)) H):mV i x σ H (fun σ3 H3=>uc σ3 H3 (fun b H4=>if b=true then A σ3 H4 else B σ3 H4)):=by
 show if true=true then A (σ.set i (some x)) H else B (σ.set i (some x)) H
 rw[if_pos rfl]
 exact h
theorem aL {H H1:Hp} {p:Addr} {o:HO} (e:upd H p o=H1) (h:H p=none):bu H H1/\H1 p=some o:=by
 subst e
 exact⟨az h _,ao⟩
theorem aB {xs:List V} {k:Nat} {v:V} (h:xs[k]? = some v):atI xs (k:Int)=some v:=iM h
theorem fG {ns:List Int} {k:Nat} {n:Int} (h:ns[k]? = some n):(ns.map V.int)[k]? = some (.int n):=by rw[Fd,h]; rfl
theorem tT {σ:St} {H:Hp} {A B:Hp->Prop} (h:A H):uc σ H (fun b H4=>if b=true then A H4 else B H4):=by
 show if true=true then A H else B H
 rw[if_pos rfl]
 exact h
theorem pY:∀ ns:List Int,fY (ns.map Dm.int)=0
 | []=>by simp [fY]
 | n::r=>by simp [fY,Dm.dep,pY r]
theorem wU {H:Hp} {a:Addr} {ns:List Int} (h:H a=some (.tup (ns.map V.int))) (l:ns.length<=1000):Rep H (.ref a) (.tup (ns.map Dm.int)):=.tup h (by rw[Eb]; lia) (oF ns)
theorem vJ (ns:List Int):(Dm.tup (ns.map Dm.int)).dep=1:=by rw[Dm.dep,pY]
def vN (i:Nat):V:=.int (i:Int)
theorem iT (c:List Nat):c.map vN=(c.map fun i:Nat=>(i:Int)).map V.int:=by rw[KH]; rfl
theorem sY {c:List Nat} {j:Nat} {x:V} (h:(c.map vN)[j]? = some x):∃ i,c[j]? = some i/\x=vN i:=by
 rw[Fd] at h
 cases e:c[j]? with
 | none=>rw[e] at h; cases h
 | some i=>rw[e] at h; exact⟨i,rfl,(FW h).symm⟩
theorem dX {H:Hp} {D:Addr} {zs zs':List V} (h:H D=some (.lst zs)):∀ a xs,H a=some (HO.tup xs)->upd H D (.lst zs') a=some (HO.tup xs):=fun a xs q=>by
 rw[cB (fun z=>by rw[z,h] at q; cases q)]
 exact q
abbrev iz:Stmt:=top 37
theorem bM:aW ["_law_cell","_law_parts","_law_one","_law_two","_law_six","_law_found","_law_part"] ["_law_cell","_law_parts"] (aG iz):=⟨rfl,rfl,rfl,by decide+kernel,rfl,by decide+kernel,by decide+kernel⟩
def nP (c:Int):Int:=(c * 48271+11) % 2147483647
def wZ (c:Int):Int:=(nP c * nP c+40692 * nP c+c) % 2147483399
def BZ (c:Int):Int:=(wZ c * 16807+nP c) % 1000000007
def lR (c:Int):Int:=if decide ((if c < 0 then -c else c) < 10 ^ (18:Int).toNat)=true then wZ c+2147483399 * (BZ c+1000000007 * nP c) else (if c < 0 then -c else c) - 10 ^ (18:Int).toNat
def qb:Int->List Int->List Int
 | _,[]=>[]
 | c,p::ps=>c % p::qb (c / p) ps
def divC:Int->List Int->Int
 | c,[]=>c
 | c,p::ps=>divC (c / p) ps
theorem kJ (p:Int):∀ (ps:List Int) (c:Int),qb c (ps++[p])=qb c ps++[divC c ps % p]
 | [],_=>rfl
 | q::ps,c=>by
  show c % q::qb (c / q) (ps++[p])=c % q::(qb (c / q) ps++[divC (c / q) ps % p])
  rw[kJ p ps]
theorem iW (p:Int):∀ (ps:List Int) (c:Int),divC c (ps++[p])=divC c ps / p
 | [],_=>rfl
 | q::ps,c=>iW p ps (c / q)
theorem ig:∀ (ps:List Int) (c:Int),(qb c ps).length=ps.length
 | [],_=>rfl
 | _::ps,_=>congrArg Nat.succ (ig ps _)
theorem cG:∀ {ps:List Int} {c:Int} {i:Nat} {p:Int},(∀ q∈ps,0 < q)->ps[i]? = some p->∃ v,(qb c ps)[i]? = some v/\0<=v/\v < p
 | [],_,_,_,_,h=>by simp at h
 | q::ps,c,0,p,hp,h=>by
  cases (show some q=some p from h)
  exact⟨c % q,rfl,Fx _ (by have:=hp q Ek; lia),Fp _ (hp q Ek)⟩
 | q::ps,c,i+1,p,hp,h=>by
  obtain⟨v,e,r⟩:=cG (ps:=ps) (c:=c / q) (i:=i) (fun z hz=>hp z (En _ hz)) (by simpa using h)
  exact⟨v,by simpa [qb] using e,r⟩
def Ay (c:Int) (ps:List Int):List Int:=qb (lR c) ps
theorem yI (c:Int):0<=nP c/\nP c < 2147483647:=⟨Fx _ (by decide),Fp _ (by decide)⟩
theorem yG (c:Int):0<=wZ c/\wZ c < 2147483399:=⟨Fx _ (by decide),Fp _ (by decide)⟩
def nF (K:FT):Sp:=fun vs H Q _=>∃ (c:Int) (p:Addr) (ps:List Int),vs=[.int c,.ref p]/\SqL K H p (ps.map V.int)/\(∀ q∈ps,0 < q/\q < 1073741824)/\ps.length<=1000 ∧
 ∀ r,H r=none->Q (.ref r) (upd H r (.lst ((Ay c ps).map V.int)))
theorem pG (F:Fun K "_law_draws" "_law_draws" iz f fd) (B:Bt mg) :
  dw P w K mg base CX0 1 f fd ["_law_cell","_law_parts"] (nF K):=by
 refine F.ok bM (fun vs H Q E h=>?_) (fun cdv A outer s H vs Q E hr h=>?_)
 ·obtain⟨c,p,ps,rfl,_⟩:=h
  rfl
 ·obtain⟨c,p,ps,rfl,hS,hp,hl,q⟩:=h
  refine⟨_,(au (bx (aD tZ (aF j9 rfl B.abs_ rB (aa (pv 0) aj)) (aO lX aq aq) (aM _)) (au (bc (i:=2) bM.nd rfl (Ez rfl) (aO cF (aO bT (aO gY (pv 0) aq) aq) aq))
 (au (bc (i:=3) bM.nd rfl (Ez rfl) (aO cF (aO bT (aO bT (aO gY (pv 2) (pv 2)) (aO gY aq (pv 2))) (pv 0)) aq))
 (au (bc (i:=4) bM.nd rfl (Ez rfl) (aO cF (aO bT (aO gY (pv 3) aq) (pv 2)) aq))
 (aA (bc (i:=0) bM.nd rfl (Ez rfl) (aO bT (pv 3) (aO gY aq (aO bT (pv 4) (aO gY aq (pv 2)))))))))) (aA (bc (i:=0) bM.nd rfl (Ez rfl) (aO fW (aF j9 rfl B.abs_ rB (aa (pv 0) aj)) (aO lX aq aq)))))
 (au (bc (i:=5) bM.nd rfl (Ez rfl) (cD aj))
 (au (gP Gs rfl (gA (pv 1)) (aN (i:=6) bM.nd rfl (Ez rfl)) (au (m5 (gD Iv Ih Ig eX (pv 5) (aa (aO cF (pv 0) (pv 6)) aj)))
 (aA (bc (i:=0) bM.nd rfl (Ez rfl) (aO qu (pv 0) (pv 6))))))
 (aA (aJ (pv 5)))))),?_⟩
  have b1:=yI c
  have b2:=yG c
  refine⟨_,rfl,_,rfl,_,_,rfl,rfl,⟨by decide,by decide,by decide⟩,_,_,rfl,rfl,_,rfl,?_⟩
  refine qL (fun h=>?_) (fun h=>?_)
  ·refine⟨_,rfl,_,_,rfl,rfl,.inr ⟨by decide,by decide⟩,_,_,rfl,rfl,_,_,rfl,rfl,(by show (0:Int) < 2147483647; decide),?_⟩
   refine⟨_,rfl,_,rfl,_,_,rfl,rfl,.inl (show -(2 ^ 64) < nP c/\nP c < 2 ^ 64 from ⟨by lia,by lia⟩),_,rfl,_,_,rfl,rfl,.inl ⟨by decide,by decide⟩,_,_,rfl,rfl,_,rfl,_,_,rfl,rfl,_,_,rfl,rfl,(by show (0:Int) < 2147483399; decide),?_⟩
   refine⟨_,rfl,_,_,rfl,rfl,.inr ⟨by decide,by decide⟩,_,rfl,_,_,rfl,rfl,_,_,rfl,rfl,(by show (0:Int) < 1000000007; decide),?_⟩
   refine⟨_,rfl,_,rfl,_,rfl,_,_,rfl,rfl,.inl ⟨by decide,by decide⟩,_,_,rfl,rfl,_,_,rfl,rfl,.inl ⟨by decide,by decide⟩,_,_,rfl,rfl,?_⟩
   refine⟨small (Fq _),fun r hr0=>?_⟩
   refine⟨_,rfl,p,rfl,⟨_,(az hr0 _).seq hS⟩,nW (K:=K) (a:=p) (xs:=ps.map V.int) (fun i σ H2=>∃ (z:Int) (o t u v:Option V),z=divC (lR c) (ps.take i)/\σ=[some (.int z),some (.ref p),o,t,u,some (.ref r),v] ∧
    H2=upd H r (.lst ((qb (lR c) (ps.take i)).map V.int))) ⟨_,_,_,_,_,(if_pos h).symm,rfl,rfl⟩ ?_ ?_ ?_⟩
   ·rintro i σ H2 hi ⟨z,o,t,u,v,_,_,e⟩
    subst e
    exact (az hr0 _).seq hS
   ·rintro i x σ H2 hx ⟨z,o,t,u,v,ez,rfl,rfl⟩
    obtain⟨d,hd,rfl⟩:=int_at hx
    obtain⟨h1,h2⟩:=hp d (Fj hd)
    have et:ps.take (i+1)=ps.take i++[d]:=by rw[Fw,hd]; rfl
    refine⟨_,rfl,.inl ⟨rfl,_,SqL.of ao⟩,_,rfl,_,rfl,_,_,rfl,rfl,h1,r,_,_,rfl,rfl,ao,?_,_,rfl,_,rfl,_,_,rfl,rfl,⟨h1,h2⟩,_,_,_,_,_,?_,rfl,?_⟩
    ·rw[Eb,ig,Fi]
     exact aU (by lia)
    ·rw[et,iW,ez]
    ·rw[vp,et,kJ,Er,ez]
     rfl
   ·rintro σ H2 ⟨z,o,t,u,v,_,rfl,rfl⟩
    refine⟨_,rfl,?_⟩
    have q':=q r hr0
    rw[Eb,Fo]
    exact q'
  ·refine⟨_,rfl,_,rfl,_,_,rfl,rfl,⟨by decide,by decide,by decide⟩,_,_,rfl,rfl,?_⟩
   refine⟨small (Fq _),fun r hr0=>?_⟩
   refine⟨_,rfl,p,rfl,⟨_,(az hr0 _).seq hS⟩,nW (K:=K) (a:=p) (xs:=ps.map V.int) (fun i σ H2=>∃ (z:Int) (o t u v:Option V),z=divC (lR c) (ps.take i)/\σ=[some (.int z),some (.ref p),o,t,u,some (.ref r),v] ∧
    H2=upd H r (.lst ((qb (lR c) (ps.take i)).map V.int))) ⟨_,_,_,_,_,(if_neg h).symm,rfl,rfl⟩ ?_ ?_ ?_⟩
   ·rintro i σ H2 hi ⟨z,o,t,u,v,_,_,e⟩
    subst e
    exact (az hr0 _).seq hS
   ·rintro i x σ H2 hx ⟨z,o,t,u,v,ez,rfl,rfl⟩
    obtain⟨d,hd,rfl⟩:=int_at hx
    obtain⟨h1,h2⟩:=hp d (Fj hd)
    have et:ps.take (i+1)=ps.take i++[d]:=by rw[Fw,hd]; rfl
    refine⟨_,rfl,.inl ⟨rfl,_,SqL.of ao⟩,_,rfl,_,rfl,_,_,rfl,rfl,h1,r,_,_,rfl,rfl,ao,?_,_,rfl,_,rfl,_,_,rfl,rfl,⟨h1,h2⟩,_,_,_,_,_,?_,rfl,?_⟩
    ·rw[Eb,ig,Fi]
     exact aU (by lia)
    ·rw[et,iW,ez]
    ·rw[vp,et,kJ,Er,ez]
     rfl
   ·rintro σ H2 ⟨z,o,t,u,v,_,rfl,rfl⟩
    refine⟨_,rfl,?_⟩
    have q':=q r hr0
    rw[Eb,Fo]
    exact q'
abbrev jx:Stmt:=top 38
theorem qt:aW ["_law_found","_law_due"] ["_law_found","_law_due"] (aG jx):=⟨rfl,rfl,rfl,by decide+kernel,rfl,by decide+kernel,by decide+kernel⟩
def mD (n:Nat):Sp:=fun vs H Q _=>∃ (x y:V) (d:Dm),vs=[x,y]/\Rep H x d/\Rep H y d/\d.dep < n/\∀ H',bu H H'->Q (.bl true) H'
theorem Cg {x:V}:decide (x=x)=true:=decide_eq_true rfl
theorem nD (n:Nat):(Gf n true).all (fun b=>b)=true:=by
 induction n with
 | zero=>rfl
 | succ n ih=>rw[List.replicate_succ,Jj,ih]; rfl
theorem su (n:Nat):(Gf n true).map V.bl=Gf n (V.bl true):=List.map_replicate
theorem bQ {n:Nat} (F:Fun K "_law_same" "_law_same" jx f fd) (B:Bt mg)
  (D_law_same:Df P w K mg base "_law_same" n ["_law_found","_law_due"] (mD n)):dw P w K mg base CX0 (n+1) f fd ["_law_found","_law_due"] (mD (n+1)):=by
 refine F.ok qt (fun vs H Q E h=>?_) (fun cdv A outer s H vs Q E hr h=>?_)
 ·obtain⟨x,y,d,rfl,_⟩:=h
  rfl
 ·obtain⟨x,y,d,rfl,rx,ry,hd,q⟩:=h
  refine⟨_,(au (bx (z8 (yj (pv 1))) (aA (aJ (Be (yj (pv 0))))) aH)
 (au (bx (cJ (aF (r:=n8 K) bN rfl B.isinstance_ aP (aa (pv 1) (aa (gC B.str_ jf) aj)))) (aA (aJ (dz (aF (r:=n8 K) bN rfl B.isinstance_ aP (aa (pv 0) (aa (gC B.str_ jf) aj))) (jb (cN bJ (pv 0) (pv 1) (aM _)))))) aH)
 (au (bx (cJ (aF (r:=n8 K) bN rfl B.isinstance_ aP (aa (pv 1) (aa (gC B.int_ mH) aj)))) (aA (aJ (dz (aF (r:=n8 K) bN rfl B.isinstance_ aP (aa (pv 0) (aa (gC B.int_ mH) aj))) (dz (cN bJ (aF (r:=n8 K) bN rfl B.isinstance_ aP (aa (pv 0) (aa (gC B.bool_ qT) aj))) (aF (r:=n8 K) bN rfl B.isinstance_ aP (aa (pv 1) (aa (gC B.bool_ qT) aj))) (aM _)) (jb (cN bJ (pv 0) (pv 1) (aM _))))))) aH)
 (au (bx (PW.pt (iK (aD wk (aF (r:=n8 K) bN rfl B.isinstance_ aP (aa (pv 1) (aa (gC B.list_ qe) aj))) (aF (r:=n8 K) bN rfl B.isinstance_ aP (aa (pv 0) (aa (gC B.list_ qe) aj))) (aM _)) (d9 (aD wk (aF (r:=n8 K) bN rfl B.isinstance_ aP (aa (pv 1) (aa (gC B.tuple_ bL) aj))) (aF (r:=n8 K) bN rfl B.isinstance_ aP (aa (pv 0) (aa (gC B.tuple_ bL) aj))) (aM _))))) (aA (aJ iu)) aH)
 (aA (aJ (dz (cN bJ (aF (r:=oh K) bA rfl B.len_ cO (aa (pv 0) aj)) (aF (r:=oh K) bA rfl B.len_ cO (aa (pv 1) aj)) (aM _)) (jb (aF (r:=wF K) (km rfl) rfl B.all_ uG (aa (cg (L:=["_law_k"]) (F:=["_law_found","_law_due"]) (cap:=[0,1]) rfl (bR rfl rfl (by kernel_rfl)) (dD rfl B.range_ (aa (aF (r:=oh K) bA rfl B.len_ cO (aa (pv 1) aj)) aj)) (fun _ _ _ _ _=>(aN (i:=0) (bD (by decide+kernel)) rfl (Ez rfl))) (fun _ _ _ _ _=>bU) (fun _ _ _ _ _=>(aV D_law_same hr (aa (aR (r:=rIx K) yC (pv 1) (pv 0) (fun _ _=>rfl)) (aa (aR (r:=rIx K) yC (pv 2) (pv 0) (fun _ _=>rfl)) aj))))) aj)))))))))),?_⟩
  cases rx with
  | non =>
   cases ry
   refine⟨_,rfl,_,rfl,iV ?_⟩
   exact⟨_,rfl,q H (bu.refl H)⟩
  | bl b =>
   cases ry
   refine⟨_,rfl,_,rfl,cW ?_⟩
   refine⟨_,rfl,_,_,_,_,rfl,.bl b,qQ _,_,rfl,cW ?_⟩
   refine⟨_,rfl,_,_,_,_,rfl,.bl b,lr _,_,rfl,iV ?_⟩
   refine⟨_,rfl,_,_,_,_,rfl,.bl b,lr _,_,rfl,iV ?_⟩
   refine⟨_,rfl,_,_,_,_,rfl,.bl b,c7 _ _,_,rfl,_,_,_,_,rfl,.bl b,c7 _ _,rfl,_,rfl,iV ?_⟩
   refine⟨_,rfl,_,rfl,rfl,?_⟩
   have q':=q H (bu.refl H)
   rw[← Cg (x:=V.bl b)] at q'
   exact q'
  | int i =>
   cases ry
   refine⟨_,rfl,_,rfl,cW ?_⟩
   refine⟨_,rfl,_,_,_,_,rfl,.int i,t6 _,_,rfl,cW ?_⟩
   refine⟨_,rfl,_,_,_,_,rfl,.int i,c7 _ _,_,rfl,iV ?_⟩
   refine⟨_,rfl,_,_,_,_,rfl,.int i,c7 _ _,_,rfl,iV ?_⟩
   refine⟨_,rfl,_,_,_,_,rfl,.int i,iG _,_,rfl,_,_,_,_,rfl,.int i,iG _,rfl,_,rfl,iV ?_⟩
   refine⟨_,rfl,_,rfl,rfl,?_⟩
   have q':=q H (bu.refl H)
   rw[← Cg (x:=V.int i)] at q'
   exact q'
  | str z =>
   cases ry
   refine⟨_,rfl,_,rfl,cW ?_⟩
   refine⟨_,rfl,_,_,_,_,rfl,.str z,c7 _ _,_,rfl,iV ?_⟩
   refine⟨_,rfl,_,_,_,_,rfl,.str z,c7 _ _,_,rfl,iV ?_⟩
   refine⟨_,rfl,_,rfl,rfl,?_⟩
   have q':=q H (bu.refl H)
   rw[← Cg (x:=V.str z)] at q'
   exact q'
  | @tup a xs ds ha la ra =>
   cases ry with
   | @tup b ys _ hb lb rb =>
    have ex:=ra.length
    have ey:=rb.length
    have hdl:fY ds < n:=by
     have hd':fY ds+1 < n+1:=by rw[Dm.dep] at hd; exact hd
     lia
    refine⟨_,rfl,_,rfl,cW ?_⟩
    refine⟨_,rfl,_,_,_,_,rfl,.tup hb,oV _,_,rfl,cW ?_⟩
    refine⟨_,rfl,_,_,_,_,rfl,.tup hb,o7 _,_,rfl,cW ?_⟩
    refine⟨_,rfl,_,_,_,_,rfl,.tup hb,jg _,_,rfl,_,_,_,_,rfl,.tup ha,jg _,rfl,_,rfl,cW ?_⟩
    refine⟨_,rfl,_,_,_,_,rfl,.tup hb,c7 _ _,_,rfl,_,_,_,_,rfl,.tup ha,c7 _ _,rfl,_,rfl,cW ?_⟩
    refine⟨_,rfl,a,_,rfl,.inr (SqT.of ha),_,rfl,b,_,rfl,.inr (SqT.of hb),rfl,_,rfl,?_⟩
    have ec:decide (V.int (xs.length:Int)=V.int (ys.length:Int))=true:=decide_eq_true (by rw[ex,ey])
    rw[ec]
    refine iV ?_
    refine⟨_,rfl,b,_,rfl,.inr (SqT.of hb),_,rfl,by lia,by lia,fun D hD=>eU (lo:=0) (n:=ys.length) (fun i zs σ' H2=>(∃ v,σ'=[v,some (.ref a),some (.ref b)])/\zs=Gf i (V.bl true)/\bu H H2/\H2 D=some (.lst zs))
     ⟨⟨_,rfl⟩,rfl,az hD _,ao⟩ (fun i zs σ' H2 _ h=>h.2.2.2) ?_ ?_⟩
    ·rintro i zs σ' H2 hi ⟨⟨v,rfl⟩,rfl,sm,hDl⟩
     obtain⟨v1,d1,e1,e2,r1⟩:=ra.get (i:=i) (by lia)
     obtain⟨v2,d2,e3,e4,r2⟩:=rb.get (i:=i) hi
     rw[e2] at e4
     cases e4
     have at1:atI xs (0+(i:Int))=some v1:=by rw[Ju]; exact iM e1
     have at2:atI ys (0+(i:Int))=some v2:=by rw[Ju]; exact iM e3
     refine gT ?_
     refine⟨_,rfl,_,rfl,.inr (.inl ⟨a,xs,_,v1,rfl,rfl,SqT.of (sm _ _ ha),at1,_,rfl,_,rfl,.inr (.inl ⟨b,ys,_,v2,rfl,rfl,SqT.of (sm _ _ hb),at2,v1,v2,d1,rfl,r1.mono sm,r2.mono sm,?_,fun H3 s3=>⟨s3 _ _ hDl,?_,⟨_,rfl⟩,?_,bh (sm.trans s3) hD _,ao⟩⟩)⟩)⟩
     ·exact Hu (m8 e2) hdl
     ·rw[G6]
      exact Em (show i < 100000 by lia) (by decide)
     ·rw[Jm]
    ·rintro zs σ' H2 ⟨_,rfl,sm,hDl⟩
     refine⟨D,Gf ys.length true,rfl,SqL.of (by rw[hDl,su]),?_⟩
     rw[nD]
     exact q _ sm
  | @lst a xs ds ha la ra =>
   cases ry with
   | @lst b ys _ hb lb rb =>
    have ex:=ra.length
    have ey:=rb.length
    have hdl:fY ds < n:=by
     have hd':fY ds+1 < n+1:=by rw[Dm.dep] at hd; exact hd
     lia
    refine⟨_,rfl,_,rfl,cW ?_⟩
    refine⟨_,rfl,_,_,_,_,rfl,.lst hb,qM _,_,rfl,cW ?_⟩
    refine⟨_,rfl,_,_,_,_,rfl,.lst hb,qH _,_,rfl,cW ?_⟩
    refine⟨_,rfl,_,_,_,_,rfl,.lst hb,c7 _ _,_,rfl,_,_,_,_,rfl,.lst ha,c7 _ _,rfl,_,rfl,cW ?_⟩
    refine⟨_,rfl,_,_,_,_,rfl,.lst hb,jl _,_,rfl,_,_,_,_,rfl,.lst ha,jl _,rfl,_,rfl,cW ?_⟩
    refine⟨_,rfl,a,_,rfl,.inl (SqL.of ha),_,rfl,b,_,rfl,.inl (SqL.of hb),rfl,_,rfl,?_⟩
    have ec:decide (V.int (xs.length:Int)=V.int (ys.length:Int))=true:=decide_eq_true (by rw[ex,ey])
    rw[ec]
    refine iV ?_
    refine⟨_,rfl,b,_,rfl,.inl (SqL.of hb),_,rfl,by lia,by lia,fun D hD=>eU (lo:=0) (n:=ys.length) (fun i zs σ' H2=>(∃ v,σ'=[v,some (.ref a),some (.ref b)])/\zs=Gf i (V.bl true)/\bu H H2/\H2 D=some (.lst zs))
     ⟨⟨_,rfl⟩,rfl,az hD _,ao⟩ (fun i zs σ' H2 _ h=>h.2.2.2) ?_ ?_⟩
    ·rintro i zs σ' H2 hi ⟨⟨v,rfl⟩,rfl,sm,hDl⟩
     obtain⟨v1,d1,e1,e2,r1⟩:=ra.get (i:=i) (by lia)
     obtain⟨v2,d2,e3,e4,r2⟩:=rb.get (i:=i) hi
     rw[e2] at e4
     cases e4
     have at1:atI xs (0+(i:Int))=some v1:=by rw[Ju]; exact iM e1
     have at2:atI ys (0+(i:Int))=some v2:=by rw[Ju]; exact iM e3
     refine gT ?_
     refine⟨_,rfl,_,rfl,.inl ( ⟨a,xs,_,v1,rfl,rfl,SqL.of (sm _ _ ha),at1,_,rfl,_,rfl,.inl ( ⟨b,ys,_,v2,rfl,rfl,SqL.of (sm _ _ hb),at2,v1,v2,d1,rfl,r1.mono sm,r2.mono sm,?_,fun H3 s3=>⟨s3 _ _ hDl,?_,⟨_,rfl⟩,?_,bh (sm.trans s3) hD _,ao⟩⟩)⟩)⟩
     ·exact Hu (m8 e2) hdl
     ·rw[G6]
      exact Em (show i < 100000 by lia) (by decide)
     ·rw[Jm]
    ·rintro zs σ' H2 ⟨_,rfl,sm,hDl⟩
     refine⟨D,Gf ys.length true,rfl,SqL.of (by rw[hDl,su]),?_⟩
     rw[nD]
     exact q _ sm
theorem same_none:dw P w K mg base CX0 0 f fd ["_law_found","_law_due"] (mD 0):=by
 have no:∀ vs H Q E,¬ mD 0 vs H Q E:=fun vs H Q E h=>by
  obtain⟨x,y,d,_,_,_,h1,_⟩:=h
  lia
 exact⟨fun vs H Q E h=>absurd h (no vs H Q E),fun A outer s H args us vs Q E _ _ _ _ h=>absurd h (no vs H Q E)⟩
abbrev iD:Stmt:=top 39
theorem dZ:aW ["_law_cell","_law_k","_law_rest","_law_turn"] ["_law_cell","_law_k"] (aG iD):=⟨rfl,rfl,rfl,by decide+kernel,rfl,by decide+kernel,by decide+kernel⟩
def yZ (c:Int) (k:Nat):Int:=if decide ((if c < 0 then -c else c) < 10 ^ (18:Int).toNat)=true then (c * 48271+7919 * (k:Int)+13) % 2147483647 else 10 ^ (18:Int).toNat+divC ((if c < 0 then -c else c) - 10 ^ (18:Int).toNat) (Gf (k+1) (10 ^ (9:Int).toNat))
def nG:Sp:=fun vs H Q _=>∃ (c:Int) (k:Nat),vs=[.int c,.int (k:Int)]/\k<=1000/\Q (.int (yZ c k)) H
theorem pK (F:Fun K "_law_under" "_law_under" iD f fd) (B:Bt mg) :
  dw P w K mg base CX0 1 f fd ["_law_cell","_law_k"] nG:=by
 refine F.ok dZ (fun vs H Q E h=>?_) (fun cdv A outer s H vs Q E hr h=>?_)
 ·obtain⟨c,k,rfl,_⟩:=h
  rfl
 ·obtain⟨c,k,rfl,hk,q⟩:=h
  refine⟨_,(au (bx (aD tZ (aF j9 rfl B.abs_ rB (aa (pv 0) aj)) (aO lX aq aq) (aM _)) (aA (aJ (aO cF (aO bT (aO bT (aO gY (pv 0) aq) (aO gY aq (pv 1))) aq) aq))) aH)
 (au (bc (i:=2) dZ.nd rfl (Ez rfl) (aO fW (aF j9 rfl B.abs_ rB (aa (pv 0) aj)) (aO lX aq aq)))
 (au (gP Gs rfl (dD rfl B.range_ (aa (aO bT (pv 1) aq) aj)) (aN (i:=3) dZ.nd rfl (Ez rfl)) (aA (bc (i:=2) dZ.nd rfl (Ez rfl) (aO qu (pv 2) (aO lX aq aq)))))
 (aA (aJ (aO bT (aO lX aq aq) (pv 2))))))),?_⟩
  refine⟨_,rfl,_,rfl,_,_,rfl,rfl,⟨by decide,by decide,by decide⟩,_,_,rfl,rfl,_,rfl,?_⟩
  refine qL (fun h=>?_) (fun h=>?_)
  ·refine⟨_,rfl,_,_,rfl,rfl,.inr ⟨by decide,by decide⟩,_,rfl,_,_,rfl,rfl,.inl ⟨by decide,by decide⟩,_,_,rfl,rfl,_,_,rfl,rfl,_,_,rfl,rfl,(by show (0:Int) < 2147483647; decide),?_⟩
   unfold yZ at q
   rw[if_pos h] at q
   exact q
  ·unfold yZ at q
   rw[if_neg h] at q
   refine⟨_,rfl,_,rfl,_,_,rfl,rfl,⟨by decide,by decide,by decide⟩,_,_,rfl,rfl,?_⟩
   have ek:((k:Int)+1).toNat=k+1:=by lia
   refine⟨_,rfl,_,_,rfl,rfl,_,rfl,by lia,by lia,lH (lo:=0) (n:=((k:Int)+1).toNat) (fun i σ H2=>(∃ t:Option V,σ=[some (.int c),some (.int (k:Int)),some (.int (divC ((if c < 0 then -c else c) - 10 ^ (18:Int).toNat) (Gf i (10 ^ (9:Int).toNat)))),t])/\H2=H) ⟨⟨_,rfl⟩,rfl⟩ ?_ ?_⟩
   ·rintro i σ H2 hi ⟨⟨t,rfl⟩,rfl⟩
    refine⟨_,rfl,_,_,rfl,rfl,⟨by decide,by decide,by decide⟩,_,_,rfl,rfl,⟨by show (0:Int) < 10 ^ 9; decide,by show (10 ^ 9:Int) < 1073741824; decide⟩,⟨some (.int (0+(i:Int))),?_⟩,rfl⟩
    rw[Jm,iW]
    rfl
   ·rintro σ H2 ⟨⟨t,rfl⟩,rfl⟩
    refine⟨_,_,rfl,rfl,⟨by decide,by decide,by decide⟩,_,rfl,_,_,rfl,rfl,?_⟩
    rw[ek]
    exact q
abbrev iI:Stmt:=top 40
theorem dJ:aW ["_law_number","_law_n","_law_found","_law_one"] ["_law_number","_law_n"] (aG iI):=⟨rfl,rfl,rfl,by decide+kernel,rfl,by decide+kernel,by decide+kernel⟩
def qK:Sp:=fun vs H Q _=>∃ (m:Int) (n:Nat),vs=[.int m,.int (n:Int)]/\n<=100/\∀ (c:List Nat) (r:Addr) (H':Hp),(∀ i∈c,i < n)->c.Pairwise (· < ·)->c.length<=n->bu H H'->H r=none->H' r=some (.tup (c.map vN))->Q (.ref r) H'
theorem pX (F:Fun K "_law_crowd" "_law_crowd" iI f fd) (B:Bt mg) :
  dw P w K mg base CX0 1 f fd ["_law_number","_law_n"] qK:=by
 refine F.ok dJ (fun vs H Q E h=>?_) (fun cdv A outer s H vs Q E hr h=>?_)
 ·obtain⟨m,n,rfl,_⟩:=h
  rfl
 ·obtain⟨m,n,rfl,hn,q⟩:=h
  refine⟨_,(au (bc (i:=2) dJ.nd rfl (Ez rfl) (cD aj))
 (au (gP Gs rfl (dD rfl B.range_ (aa (pv 1) aj)) (aN (i:=3) dJ.nd rfl (Ez rfl)) (au (bx (aD bJ (aO cF (pv 0) aq) aq (aM _)) (aA (m5 (gD Iv Ih Ig eX (pv 2) (aa (pv 3) aj)))) aH)
 (aA (bc (i:=0) dJ.nd rfl (Ez rfl) (aO qu (pv 0) aq)))))
 (aA (aJ (aY (r:=gF K) bO rfl B.tuple_ bL (aa (pv 2) aj)))))),?_⟩
  refine⟨small (by show 0<=1000; decide),fun r hr0=>?_⟩
  have en:((n:Int)).toNat=n:=Gj n
  refine⟨_,rfl,_,rfl,by lia,by lia,lH (lo:=0) (n:=((n:Int)).toNat) (fun i σ H2=>∃ (z:Int) (t:Option V) (c:List Nat),σ=[some (.int z),some (.int (n:Int)),some (.ref r),t]/\H2=upd H r (.lst (c.map vN))/\(∀ j∈c,j < i)/\c.Pairwise (· < ·)/\c.length<=i)
   ⟨_,_,[],rfl,rfl,by simp,by simp,Ei _⟩ ?_ ?_⟩
  ·rintro i σ H2 hi ⟨z,t,c,rfl,rfl,hc,hp,hl⟩
   refine⟨_,rfl,_,_,rfl,rfl,(by show (0:Int) < 2; decide),rfl,_,rfl,?_⟩
   refine qL (fun _=>?_) (fun _=>?_)
   ·refine⟨_,rfl,.inl ⟨rfl,_,SqL.of ao⟩,_,rfl,r,_,_,rfl,rfl,ao,?_,_,rfl,_,_,rfl,rfl,⟨by decide,by decide⟩,_,_,c++[i],rfl,?_,?_,?_,?_⟩
    ·rw[Eb]
     exact aU (by lia)
    ·rw[vp,Er,Ju]
     rfl
    ·intro j hj
     rcases List.mem_append.mp hj with h | h
     ·have:=hc j h
      lia
     ·have:=List.mem_singleton.mp h
      lia
    ·rw[List.pairwise_append]
     refine⟨hp,by simp,fun a ha b hb=>?_⟩
     rw[List.mem_singleton.mp hb]
     exact hc a ha
    ·rw[Ec]
     show c.length+1<=i+1
     lia
   ·refine⟨_,rfl,_,_,rfl,rfl,⟨by decide,by decide⟩,_,_,c,rfl,rfl,fun j hj=>Hh (hc j hj),hp,by lia⟩
  ·rintro σ H2 ⟨z,t,c,rfl,rfl,hc,hp,hl⟩
   refine⟨_,rfl,r,_,rfl,.inl ⟨SqL.of ao,fun l hl'=>?_⟩⟩
   rw[en] at hc hl
   exact q c l _ hc hp hl ((az hr0 _).trans (az hl' _)) ((az hr0 _).free hl') ao
inductive Tm where
 | free | never | gives (i:Nat) (k:Int) | sum (c:List Nat) (k:Int) | crowd (c:List Nat) (k m:Int) | all (ts:List Tm) | any (ts:List Tm)
mutual
def Tm.dep:Tm->Nat
 | .all ts=>tdL ts+1
 | .any ts=>tdL ts+1
 | _=>1
def tdL:List Tm->Nat
 | []=>0
 | t::r=>max t.dep (tdL r)
end
mutual
inductive dm (n:Nat) (H:Hp):V->Tm->Prop where
 | free {a:Addr}:H a=some (.tup [.str "free"])->dm n H (.ref a) .free
 | never {a:Addr}:H a=some (.tup [.str "never"])->dm n H (.ref a) .never
 | gives {a:Addr} {i:Nat} {k:Int}:H a=some (.tup [.str "gives",vN i,.int k])->i < n->1<=k->k<=9->dm n H (.ref a) (.gives i k)
 | sum {a b:Addr} {c:List Nat} {k:Int}:H a=some (.tup [.str "sum",.ref b,.int k])->H b=some (.tup (c.map vN))->(∀ i∈c,i < n)->c.Pairwise (· < ·)->c.length<=20->2<=c.length->1<=k->k<=99->dm n H (.ref a) (.sum c k)
 | crowd {a b:Addr} {c:List Nat} {k m:Int}:H a=some (.tup [.str "crowd",.ref b,.int k,.int m])->H b=some (.tup (c.map vN))->(∀ i∈c,i < n)->c.Pairwise (· < ·)->c.length<=20->1<=c.length->1<=k->k<=9->1<=m->m<=12->dm n H (.ref a) (.crowd c k m)
 | all {a b:Addr} {vs:List V} {ts:List Tm}:H a=some (.tup [.str "all",.ref b])->H b=some (.tup vs)->2<=vs.length->vs.length<=6->bK n H vs ts->dm n H (.ref a) (.all ts)
 | any {a b:Addr} {vs:List V} {ts:List Tm}:H a=some (.tup [.str "any",.ref b])->H b=some (.tup vs)->2<=vs.length->vs.length<=6->bK n H vs ts->dm n H (.ref a) (.any ts)
inductive bK (n:Nat) (H:Hp):List V->List Tm->Prop where
 | nil:bK n H [] []
 | cons {v:V} {t:Tm} {vs:List V} {ts:List Tm}:dm n H v t->bK n H vs ts->bK n H (v::vs) (t::ts)
end
mutual
theorem dm.bW {n:Nat} {H H':Hp} (e:∀ a xs,H a=some (HO.tup xs)->H' a=some (HO.tup xs)):∀ {v:V} {t:Tm},dm n H v t->dm n H' v t
 | _,_,.free h=>.free (e _ _ h)
 | _,_,.never h=>.never (e _ _ h)
 | _,_,.gives h a b c=>.gives (e _ _ h) a b c
 | _,_,.sum h h2 a b c d f g=>.sum (e _ _ h) (e _ _ h2) a b c d f g
 | _,_,.crowd h h2 a b c d f g i j=>.crowd (e _ _ h) (e _ _ h2) a b c d f g i j
 | _,_,.all h h2 a b r=>.all (e _ _ h) (e _ _ h2) a b (bK.bW e r)
 | _,_,.any h h2 a b r=>.any (e _ _ h) (e _ _ h2) a b (bK.bW e r)
theorem bK.bW {n:Nat} {H H':Hp} (e:∀ a xs,H a=some (HO.tup xs)->H' a=some (HO.tup xs)):∀ {vs:List V} {ts:List Tm},bK n H vs ts->bK n H' vs ts
 | _,_,.nil=>.nil
 | _,_,.cons h r=>.cons (dm.bW e h) (bK.bW e r)
end
theorem dm.mono {n:Nat} {H H':Hp} (e:bu H H') {v:V} {t:Tm} (h:dm n H v t):dm n H' v t:=h.bW fun a xs q=>e a _ q
theorem bK.mono {n:Nat} {H H':Hp} (e:bu H H') {vs:List V} {ts:List Tm} (h:bK n H vs ts):bK n H' vs ts:=h.bW fun a xs q=>e a _ q
theorem bK.length {n:Nat} {H:Hp}:∀ {vs:List V} {ts:List Tm},bK n H vs ts->vs.length=ts.length
 | _,_,.nil=>rfl
 | _,_,.cons _ r=>by rw[El,El,bK.length r]
theorem bK.get {n:Nat} {H:Hp}:∀ {vs:List V} {ts:List Tm} {i:Nat} {v:V},bK n H vs ts->vs[i]? = some v->∃ t,ts[i]? = some t/\dm n H v t
 | _,_,_,_,.nil,h=>by simp at h
 | _,_,0,_,.cons h _,e=>by
  cases (show some _=some _ from e)
  exact⟨_,rfl,h⟩
 | _,_,i+1,_,.cons _ r,e=>by
  obtain⟨t,e1,e2⟩:=bK.get (i:=i) r (by simpa using e)
  exact⟨t,by simpa using e1,e2⟩
theorem bK.snoc {n:Nat} {H:Hp}:∀ {vs:List V} {ts:List Tm} {v:V} {t:Tm},bK n H vs ts->dm n H v t->bK n H (vs++[v]) (ts++[t])
 | _,_,_,_,.nil,h=>.cons h .nil
 | _,_,_,_,.cons a r,h=>.cons a (bK.snoc r h)
theorem iQ:∀ {ts:List Tm} {i:Nat} {t:Tm},ts[i]? = some t->t.dep<=tdL ts
 | [],_,_,h=>by simp at h
 | d::r,0,_,h=>by
  cases (show some d=some _ from h)
  rw[tdL]
  exact Nat.le_max_left _ _
 | d::r,i+1,_,h=>by
  rw[tdL]
  exact Fe (iQ (i:=i) (ts:=r) (by simpa using h)) (Nat.le_max_right _ _)
theorem rQ {m:Nat} {t:Tm} (h:t.dep<=m):∀ {ts:List Tm},tdL ts<=m->tdL (ts++[t])<=m
 | [],_=>by simp only[List.nil_append,tdL]; lia
 | d::r,h2=>by
  rw[tdL] at h2
  rw[Gz,tdL]
  have:=rQ (m:=m) h (ts:=r) (by lia)
  lia
theorem Tm.gh:∀ t:Tm,1<=t.dep
 | .free | .never | .gives .. | .sum .. | .crowd ..=>Ei 1
 | .all ts=>by rw[Tm.dep]; lia
 | .any ts=>by rw[Tm.dep]; lia
theorem bG {c A B:Prop} [Decidable c] (hc:¬ c) (h:B):if decide c=true then A else B:=by
 rw[decide_eq_false hc]
 exact cW h
theorem gK {c A B:Prop} [Decidable c] (hc:c) (h:A):if decide c=true then A else B:=by
 rw[decide_eq_true hc]
 exact iV h
theorem aK {a b:Str} (h:a≠b):¬ V.str a=V.str b:=fun z=>h (by cases z; rfl)
theorem jo {t u:TS} {D:Ends} {σ:St} {H:Hp} (P:St->Hp->Prop) (h2:∀ σ H,P σ H->u D σ H) (h1:(∀ σ H,P σ H->u D σ H)->t { D with nx:=u D } σ H):xq t u D σ H:=h1 h2
theorem mX {A B:TT} {t u:TS} {D:Ends} {σ:St} {H:Hp} (b1 b2:Bool) (R:Hp->Prop) (hA:∀ Q:Bool->Hp->Prop,(∀ H1,R H1->Q b1 H1)->A σ H Q) (hB:∀ H1,R H1->∀ Q:Bool->Hp->Prop,Q b2 H1->B σ H1 Q)
  (ht:∀ H1,R H1->b1=true->b2=true->t D σ H1) (hu:∀ H1,R H1->(b1=true->b2=false)->u D σ H1):yz (Dg A B) t u D σ H:=by
 refine hA _ fun H1 r1=>?_
 show if b1=true then B σ H1 (fun b H2=>if b=true then t D σ H2 else u D σ H2) else (if false=true then t D σ H1 else u D σ H1)
 cases b1 with
 | false=>exact cW (cW (hu H1 r1 fun z=>by cases z))
 | true =>
  refine iV (hB H1 r1 _ ?_)
  cases b2 with
  | false=>exact cW (hu H1 r1 fun _=>rfl)
  | true=>exact iV (ht H1 r1 rfl rfl)
theorem gN {i:Nat} {x:V} {σ:St} {H:Hp} {P:St->Hp->Prop} (h:P (σ.set i (some x)) H):mV i x σ H P:=h
abbrev jD:Stmt:=top 41
theorem dB:aW ["_law_cell","_law_n","_law_deep","_law_most","_law_drawn","_law_parts","_law_crowd_here"] ["_law_cell","_law_n","_law_deep","_law_most"] (aG jD):=⟨rfl,rfl,rfl,by decide+kernel,rfl,by decide+kernel,by decide+kernel⟩
def lF (d:Nat):Sp:=fun vs H Q _=>∃ (c:Int) (n:Nat) (deep most:Int),vs=[.int c,.int (n:Int),.int deep,.int most]/\1<=n/\n<=12/\1<=deep/\deep<=(d:Int)/\1<=most/\most<=9 ∧
 ∀ (v:V) (t:Tm) (H':Hp),bu H H'->dm n H' v t->(t.dep:Int)<=deep->Q v H'
theorem term_none:dw P w K mg base CX0 1 f fd ["_law_cell","_law_n","_law_deep","_law_most"] (lF 0):=by
 have no:∀ vs H Q E,¬ lF 0 vs H Q E:=fun vs H Q E h=>by
  obtain⟨c,n,deep,most,_,_,_,h1,h2,_⟩:=h
  lia
 exact⟨fun vs H Q E h=>absurd h (no vs H Q E),fun A outer s H args us vs Q E _ _ _ _ h=>absurd h (no vs H Q E)⟩
theorem fK {d:Nat} (F:Fun K "_law_term" "_law_term" jD f fd) (B:Bt mg)
  (D_law_draws:Df P w K mg base "_law_draws" 1 ["_law_cell","_law_parts"] (nF K)) (D_law_under:Df P w K mg base "_law_under" 1 ["_law_cell","_law_k"] nG) (D_law_crowd:Df P w K mg base "_law_crowd" 1 ["_law_number","_law_n"] qK)
  (D_law_term:Df P w K mg base "_law_term" (d+1) ["_law_cell","_law_n","_law_deep","_law_most"] (lF d)):dw P w K mg base CX0 (d+2) f fd ["_law_cell","_law_n","_law_deep","_law_most"] (lF (d+1)):=by
 refine F.ok dB (fun vs H Q E h=>?_) (fun cdv A outer s H vs Q E hr h=>?_)
 ·obtain⟨c,n,deep,most,rfl,_⟩:=h
  rfl
 ·obtain⟨c,n,deep,most,rfl,n1,n12,de1,ded,m1,m9,q⟩:=h
  refine⟨_,(au (bc (i:=4) dB.nd rfl (Ez rfl) (aV D_law_draws hr (aa (pv 0) (aa (cD (aa aq (aa aq (aa aq (aa aq (aa aq aj)))))) aj))))
 (au (bx (PW.pt (mz (aD tZ (aR (r:=gZ K) bf (pv 4) aq (fun _ _=>rfl)) aq (aM _)) (jC (aD tH (pv 2) aq (aM _))))) (au (wA (L:=["_law_k"]) (F:=["_law_n","_law_most","_law_cell","_law_deep"]) (cap:=[1,3,0,2]) (j:=5) dB.nd rfl (Ez rfl) rfl (bR rfl rfl (by kernel_rfl)) (dD rfl B.range_ (aa (aO bT aq (aO cF (aR (r:=gZ K) bf (pv 4) aq (fun _ _=>rfl)) aq)) aj)) (fun _ _ _ _ _=>(aN (i:=0) (bD (by decide+kernel)) rfl (Ez rfl))) (fun _ _ _ _ _=>bU) (fun _ _ _ _ _=>(aV D_law_term hr (aa (aV D_law_under hr (aa (pv 3) (aa (pv 0) aj))) (aa (pv 1) (aa (aO fW (pv 4) aq) (aa (pv 2) aj)))))))
 (aA (aJ (bI (aa (aR (r:=gZ K) bf (cD (aa aC (aa aC aj))) (aR (r:=gZ K) bf (pv 4) aq (fun _ _=>rfl)) (fun _ _=>rfl)) (aa (aY (r:=gF K) bO rfl B.tuple_ bL (aa (pv 5) aj)) aj)))))) aH)
 (au (bc (i:=6) dB.nd rfl (Ez rfl) (aV D_law_crowd hr (aa (aR (r:=gZ K) bf (pv 4) aq (fun _ _=>rfl)) (aa (pv 1) aj))))
 (au (bx (aD (r:=zG K) (za hr.yx) (pv 6) (bI aj) (aM _)) (aA (bc (i:=6) dB.nd rfl (Ez rfl) (bI (aa (aO cF (aR (r:=gZ K) bf (pv 4) aq (fun _ _=>rfl)) (pv 1)) aj)))) aH)
 (au (bx (PW.pt (mz (aD (r:=rIn K false) gq (aR (r:=gZ K) bf (pv 4) aq (fun _ _=>rfl)) (bI (aa aq (aa aq aj))) rfl) (jC (aD tH (aF (r:=oh K) bA rfl B.len_ cO (aa (pv 6) aj)) aq (aM _))))) (aA (aJ (bI (aa aC (aa (pv 6) (aa (aO bT aq (aO cF (aO bT (aO gY aq (aR (r:=gZ K) bf (pv 4) aq (fun _ _=>rfl))) (aR (r:=gZ K) bf (pv 4) aq (fun _ _=>rfl))) (aF (vL rfl) rfl B.min_ zN (aa aq (aa (aO gY (pv 3) (aF (r:=oh K) bA rfl B.len_ cO (aa (pv 6) aj))) aj))))) aj)))))) aH)
 (au (bx (aD bJ (aR (r:=gZ K) bf (pv 4) aq (fun _ _=>rfl)) aq (aM _)) (aA (aJ (bI (aa aC (aa (pv 6) (aa (aO bT aq (aO cF (aR (r:=gZ K) bf (pv 4) aq (fun _ _=>rfl)) (pv 3))) (aa (aO bT aq (aO cF (aR (r:=gZ K) bf (pv 4) aq (fun _ _=>rfl)) (aF (r:=oh K) bA rfl B.len_ cO (aa (pv 6) aj)))) aj))))))) aH)
 (au (bx (aD bJ (aR (r:=gZ K) bf (pv 4) aq (fun _ _=>rfl)) aq (aM _)) (aA (aJ (bI (aa (aR (r:=gZ K) bf (cD (aa aC (aa aC (aa aC aj)))) (aO cF (aR (r:=gZ K) bf (pv 4) aq (fun _ _=>rfl)) aq) (fun _ _=>rfl)) aj)))) aH)
 (aA (aJ (bI (aa aC (aa (aO cF (aR (r:=gZ K) bf (pv 4) aq (fun _ _=>rfl)) (pv 1)) (aa (aO bT aq (aO cF (aR (r:=gZ K) bf (pv 4) aq (fun _ _=>rfl)) (pv 3))) aj))))))))))))),?_⟩
  refine⟨_,rfl,small (by show 5<=1000; decide),fun p1 h1=>?_⟩
  generalize eH1:upd H p1 _=H1
  obtain⟨g1,e1⟩:=aL eH1 h1
  refine⟨c,p1,[9,12,9,4096,12],rfl,SqL.of e1,by decide,by decide,fun p2 h2=>?_⟩
  generalize eH2:upd H1 p2 _=H2
  obtain⟨g2,e2⟩:=aL eH2 h2
  have hps:∀ q∈([9,12,9,4096,12]:List Int),0 < q:=by decide
  obtain⟨d0,k0,b0⟩:=cG (c:=lR c) (i:=0) hps rfl
  obtain⟨d1,k1,b1⟩:=cG (c:=lR c) (i:=1) hps rfl
  obtain⟨d2,k2,b2⟩:=cG (c:=lR c) (i:=2) hps rfl
  obtain⟨d3,k3,b3⟩:=cG (c:=lR c) (i:=3) hps rfl
  obtain⟨d4,k4,b4⟩:=cG (c:=lR c) (i:=4) hps rfl
  have a0:=aB (fG k0)
  have a1:=aB (fG k1)
  have a2:=aB (fG k2)
  have a3:=aB (fG k3)
  have a4:=aB (fG k4)
  change _=some (HO.lst ((qb (lR c) [9,12,9,4096,12]).map V.int)) at e2
  generalize qb (lR c) [9,12,9,4096,12]=ds at *
  have gH:bu H H2:=g1.trans g2
  refine gN ?_
  dsimp only
  show xq (yz _ _ _) _ _ _ _
  refine jo (fun σ H3=>σ=[some (.int c),some (.int (n:Int)),some (.int deep),some (.int most),some (.ref p2),none,none]/\H2=H3) ?rest (fun R=>?_)
  case rest =>
   rintro σ H3 ⟨rfl,rfl⟩
   refine⟨_,rfl,p2,_,_,_,rfl,rfl,SqL.of e2,a3,_,rfl,d3,n,rfl,by lia,fun cs r3 H3 hc hp hl s3 f3 e3=>?_⟩
   refine gN ?_
   dsimp only
   show xq (yz _ _ _) _ _ _ _
   refine jo (fun σ H5=>∃ (rc:Addr) (cs:List Nat),σ=[some (.int c),some (.int (n:Int)),some (.int deep),some (.int most),some (.ref p2),none,some (.ref rc)]/\bu H2 H5/\H5 rc=some (.tup (cs.map vN))/\(∀ i∈cs,i < n)/\cs.Pairwise (· < ·)/\cs.length<=n/\1<=cs.length) ?rest2 (fun R=>?_)
   case rest2 =>
    rintro σ H5 ⟨rc,cs,rfl,s5,e5,hc,hp,hl,h1l⟩
    have e2':=s5 _ _ e2
    have lenr:((cs.map vN).length:Int)=(cs.length:Int):=by rw[Eb]
    show xq (yz _ _ _) _ _ _ _
    refine jo (fun σ H6=>σ=[some (.int c),some (.int (n:Int)),some (.int deep),some (.int most),some (.ref p2),none,some (.ref rc)]/\bu H5 H6) ?rest3 (fun R=>?_)
    case rest3 =>
     rintro σ H6 ⟨rfl,s6⟩
     have e2':=s6 _ _ e2'
     have e5:=s6 _ _ e5
     have s56:bu H H6:=gH.trans (s5.trans s6)
     refine⟨_,rfl,p2,_,_,_,rfl,rfl,SqL.of e2',a0,rfl,_,rfl,?_⟩
     refine qL (fun _=>?_) (fun _=>?_)
     ·refine⟨_,rfl,_,rfl,p2,_,_,_,rfl,rfl,SqL.of e2',a2,_,rfl,_,_,rfl,rfl,(by show (0:Int) < most; lia),_,_,rfl,rfl,?_⟩
      refine⟨_,rfl,p2,_,_,_,rfl,rfl,SqL.of e2',a4,_,rfl,rc,_,rfl,.inr (SqT.of e5),_,_,rfl,rfl,?_,_,_,rfl,rfl,small (by show 4<=1000; decide),fun p7 h7=>?_⟩
      ·rw[lenr]
       lia
      ·have u1:0<=d2 % most:=Fx _ (by lia)
       have u2:d2 % most < most:=Fp _ (by lia)
       have u3:0<=d4 % ((cs.map vN).length:Int):=Fx _ (by rw[lenr]; lia)
       have u4:d4 % ((cs.map vN).length:Int) < (cs.length:Int):=by
        have:=Fp d4 (b:=((cs.map vN).length:Int)) (by rw[lenr]; lia)
        rw[lenr] at this ⊢
        exact this
       refine q (.ref p7) (.crowd cs (1+d2 % most) (1+d4 % ((cs.map vN).length:Int))) _ (s56.trans (az h7 _)) (.crowd ao (az h7 _ _ _ e5) hc hp (by lia) h1l (by lia) (by lia) (by lia) (by lia)) ?_
       exact de1
     ·refine⟨_,rfl,p2,_,_,_,rfl,rfl,SqL.of e2',a0,rfl,_,rfl,?_⟩
      refine qL (fun _=>?_) (fun _=>?_)
      ·refine⟨small (by show 3<=1000; decide),fun p7 h7=>?_⟩
       generalize eH7:upd H6 p7 _=H7
       obtain⟨g7,e7⟩:=aL eH7 h7
       have u1:0<=d1 % 3:=Fx _ (by lia)
       have u2:d1 % 3 < 3:=Fp _ (by lia)
       have fin:∀ p8 (x:Str),H7 p8=none->(x = "free"∨x = "never")->Q (.ref p8) (upd H7 p8 (.tup [.str x])):=fun p8 x h8 hx=>by
        rcases hx with rfl | rfl
        ·refine q (.ref p8) .free _ (s56.trans (g7.trans (az h8 _))) (.free ao) ?_
         exact de1
        ·refine q (.ref p8) .never _ (s56.trans (g7.trans (az h8 _))) (.never ao) ?_
         exact de1
       refine⟨_,rfl,p2,_,_,_,rfl,rfl,SqL.of (g7 _ _ e2'),a1,_,_,rfl,rfl,(by show (0:Int) < 3; decide),?_⟩
       rcases (show d1 % 3=0∨d1 % 3=1∨d1 % 3=2 by lia) with z | z | z
       ·exact⟨p7,_,_,_,rfl,rfl,SqL.of e7,by rw[z]; rfl,small (by show 1<=1000; decide),fun p8 h8=>fin p8 _ h8 (.inl rfl)⟩
       ·exact⟨p7,_,_,_,rfl,rfl,SqL.of e7,by rw[z]; rfl,small (by show 1<=1000; decide),fun p8 h8=>fin p8 _ h8 (.inl rfl)⟩
       ·exact⟨p7,_,_,_,rfl,rfl,SqL.of e7,by rw[z]; rfl,small (by show 1<=1000; decide),fun p8 h8=>fin p8 _ h8 (.inr rfl)⟩
      ·have u1:0<=d1 % (n:Int):=Fx _ (by lia)
       have u2:d1 % (n:Int) < (n:Int):=Fp _ (by lia)
       have u3:0<=d2 % most:=Fx _ (by lia)
       have u4:d2 % most < most:=Fp _ (by lia)
       refine⟨_,rfl,p2,_,_,_,rfl,rfl,SqL.of e2',a1,_,rfl,_,_,rfl,rfl,(by show (0:Int) < (n:Int); lia),?_⟩
       refine⟨_,rfl,p2,_,_,_,rfl,rfl,SqL.of e2',a2,_,rfl,_,_,rfl,rfl,(by show (0:Int) < most; lia),_,_,rfl,rfl,small (by show 3<=1000; decide),fun p7 h7=>?_⟩
       obtain⟨i,hi⟩:=Iw u1
       rw[hi] at u2
       refine q (.ref p7) (.gives i (1+d2 % most)) _ (s56.trans (az h7 _)) (.gives (ao.trans (by show some (HO.tup [V.str "gives",V.int (d1 % (n:Int)),V.int (1+d2 % most)])=some (HO.tup [V.str "gives",V.int (i:Int),V.int (1+d2 % most)]); rw[hi])) (by lia) (by lia) (by lia)) ?_
       exact de1
    ·refine mX (inV (.int d0) [.int 3,.int 4]) (decide (1 < (cs.length:Int))) (fun H6=>bu H5 H6) (fun Q' hQ=>?_) (fun H6 s6 Q' hQ=>?_) (fun H6 s6 _ hl2=>?_) (fun H6 s6 _=>R _ _ ⟨rfl,s6⟩)
     ·refine⟨_,rfl,p2,_,_,_,rfl,rfl,SqL.of e2',a0,small (by show 2<=1000; decide),fun p6 h6=>⟨p6,_,rfl,.inr (SqT.of ao),rfl,rfl,_,rfl,hQ _ (az h6 _)⟩⟩
     ·refine⟨_,rfl,rc,_,rfl,.inr (SqT.of (s6 _ _ e5)),_,_,rfl,rfl,_,rfl,?_⟩
      rw[lenr]
      exact hQ
     ·have e2':=s6 _ _ e2'
      have e5:=s6 _ _ e5
      have s56:bu H H6:=gH.trans (s5.trans s6)
      have hl3:(1:Int) < (cs.length:Int):=of_decide_eq_true hl2
      refine⟨_,rfl,_,rfl,p2,_,_,_,rfl,rfl,SqL.of e2',a1,_,_,rfl,rfl,.inl ⟨by decide,by decide⟩,_,rfl,p2,_,_,_,rfl,rfl,SqL.of e2',a2,_,_,rfl,rfl,?_⟩
      refine⟨_,rfl,_,rfl,rc,_,rfl,.inr (SqT.of e5),_,_,rfl,rfl,.inl ⟨by lia,by lia⟩,_,_,rfl,?_⟩
      have pz:0 < most * ((cs.map vN).length:Int):=by
       rw[lenr]
       exact Int.mul_pos (by lia) (by lia)
      generalize hz:(if most * ((cs.map vN).length:Int) < 99 then most * ((cs.map vN).length:Int) else 99)=z
      have z1:0 < z:=by
       rw[← hz]
       split <;> lia
      have z2:z<=99:=by
       rw[← hz]
       split <;> lia
      have u3:0<=(9 * d1+d2) % z:=Fx _ (by lia)
      have u4:(9 * d1+d2) % z < z:=Fp _ z1
      refine⟨_,_,rfl,rfl,z1,_,_,rfl,rfl,small (by show 3<=1000; decide),fun p7 h7=>?_⟩
      refine q (.ref p7) (.sum cs (1+(9 * d1+d2) % z)) _ (s56.trans (az h7 _)) (.sum ao (az h7 _ _ _ e5) hc hp (by lia) (by lia) (by lia) (by lia)) ?_
      exact de1
   ·refine⟨_,rfl,small (by show 0<=1000; decide),fun p4 h4=>?_⟩
    have e3':SqT K H3 r3 ((cs.map fun i:Nat=>(i:Int)).map V.int):=by rw[← iT]; exact SqT.of e3
    have g4:bu H3 (upd H3 p4 (.tup [])):=az h4 _
    refine⟨r3,p4,cs.map (fun i:Nat=>(i:Int)),[],rfl,rfl,sV g4 e3',SqT.of ao,_,rfl,?_⟩
    refine qL (fun ce=>?_) (fun ce=>?_)
    ·have u1:0<=d4 % (n:Int):=Fx _ (by lia)
     have u2:d4 % (n:Int) < (n:Int):=Fp _ (by lia)
     refine⟨_,rfl,p2,_,_,_,rfl,rfl,SqL.of (g4 _ _ (s3 _ _ e2)),a4,_,rfl,_,_,rfl,rfl,(by show (0:Int) < (n:Int); lia),small (by show 1<=1000; decide),fun p5 h5=>?_⟩
     obtain⟨i,hi⟩:=Iw u1
     rw[hi] at u2
     refine R _ _ ⟨p5,[i],rfl,s3.trans (g4.trans (az h5 _)),ao.trans (by show some (HO.tup [V.int (d4 % (n:Int))])=some (HO.tup [V.int (i:Int)]); rw[hi]),?_,by simp,n1,Ei _⟩
     intro j hj
     rw[Ip] at hj
     lia
    ·refine R _ _ ⟨r3,cs,rfl,s3.trans g4,g4 _ _ e3,hc,hp,hl,?_⟩
     cases cs with
     | nil=>exact absurd (decide_eq_true rfl) ce
     | cons x xs=>rw[El]; lia
  ·refine mX (decide (d0 < 2)) (decide (1 < deep)) (fun H3=>H2=H3) (fun Q' hQ=>?_) (fun H3 e Q' hQ=>?_) (fun H3 e c1 c2=>?_) (fun H3 e _=>R _ _ ⟨rfl,e⟩)
   ·exact⟨_,rfl,p2,_,_,_,rfl,rfl,SqL.of e2,a0,_,_,rfl,rfl,_,rfl,hQ _ rfl⟩
   ·exact⟨_,rfl,_,_,rfl,rfl,_,rfl,hQ⟩
   ·subst e
    have c1:d0 < 2:=of_decide_eq_true c1
    have c2:1 < deep:=of_decide_eq_true c2
    have u1:0<=d4 % 5:=Fx _ (by lia)
    have u2:d4 % 5 < 5:=Fp _ (by lia)
    refine⟨_,rfl,p2,_,_,_,rfl,rfl,SqL.of e2,a4,_,_,rfl,rfl,(by show (0:Int) < 5; decide),_,_,rfl,rfl,_,rfl,by lia,by lia,fun D hD=>eU (lo:=0) (n:=(2+d4 % 5).toNat)
     (fun i zs σ' H5=>(∃ u,σ'=[u,some (.int (n:Int)),some (.int most),some (.int c),some (.int deep)])/\bu H2 H5/\H5 D=some (.lst zs)/\zs.length=i/\∃ ts,bK n H5 zs ts/\(tdL ts:Int)<=deep - 1)
     ⟨⟨_,rfl⟩,az hD _,ao,rfl,[],.nil,by rw[tdL]; lia⟩ (fun i zs σ' H5 _ h=>h.2.2.1) ?_ ?_⟩
    ·rintro i zs σ' H5 hi ⟨⟨u,rfl⟩,s5,eD,lz,ts,rt,td⟩
     refine gT ?_
     refine⟨_,rfl,_,rfl,c,i,by rw[Ju]; rfl,by lia,_,rfl,_,rfl,_,_,rfl,rfl,_,rfl,yZ c i,n,deep - 1,most,rfl,n1,n12,by lia,by lia,m1,m9,fun v t H6 s6 r6 d6=>?_⟩
     refine⟨s6 _ _ eD,?_,⟨_,rfl⟩,bh (s5.trans s6) hD _,ao,?_,ts++[t],?_,?_⟩
     ·exact aU (by lia)
     ·rw[Ec,lz]
      rfl
     ·have s7:=dX (zs':=zs++[v]) (s6 _ _ eD)
      exact ((rt.mono s6).bW s7).snoc (r6.bW s7)
     ·have:=rQ (m:=(deep - 1).toNat) (t:=t) (by lia) (ts:=ts) (by lia)
      lia
    ·rintro zs σ' H5 ⟨⟨u,rfl⟩,s5,eD,lz,ts,rt,td⟩
     refine⟨small (by show 2<=1000; decide),fun p6 h6=>?_⟩
     generalize eH6:upd H5 p6 _=H6
     obtain⟨g6,e6⟩:=aL eH6 h6
     refine⟨_,rfl,p2,_,_,_,rfl,rfl,SqL.of (g6 _ _ (s5 _ _ e2)),a0,?_⟩
     rcases (show d0=0∨d0=1 by lia) with z | z
     ·subst z
      refine⟨p6,_,_,_,rfl,rfl,SqL.of e6,rfl,_,rfl,D,_,rfl,.inl ⟨SqL.of (g6 _ _ eD),fun p7 h7=>?_⟩⟩
      generalize eH7:upd H6 p7 _=H7
      obtain⟨g7,e7⟩:=aL eH7 h7
      refine⟨small (by show 2<=1000; decide),fun p8 h8=>?_⟩
      refine q (.ref p8) (.all ts) _ (gH.trans (s5.trans (g6.trans (g7.trans (az h8 _))))) (.all ao (az h8 _ _ _ e7) (by lia) (by lia) (rt.mono (g6.trans (g7.trans (az h8 _))))) ?_
      rw[Tm.dep]
      lia
     ·subst z
      refine⟨p6,_,_,_,rfl,rfl,SqL.of e6,rfl,_,rfl,D,_,rfl,.inl ⟨SqL.of (g6 _ _ eD),fun p7 h7=>?_⟩⟩
      generalize eH7:upd H6 p7 _=H7
      obtain⟨g7,e7⟩:=aL eH7 h7
      refine⟨small (by show 2<=1000; decide),fun p8 h8=>?_⟩
      refine q (.ref p8) (.any ts) _ (gH.trans (s5.trans (g6.trans (g7.trans (az h8 _))))) (.any ao (az h8 _ _ _ e7) (by lia) (by lia) (rt.mono (g6.trans (g7.trans (az h8 _))))) ?_
      rw[Tm.dep]
      lia
theorem xR (ns:List Int) (lo hi:Option Int):∃ ks:List Int,wD (ns.map V.int) lo hi=ks.map V.int/\ks.length<=ns.length:=by
 unfold wD
 generalize HT.sIx _ _ lo=x
 generalize HT.sIx _ _ hi=y
 refine⟨(ns.drop x).take (y - x),by rw[List.map_take,List.map_drop],?_⟩
 rw[Fi,G3]
 lia
theorem nU:∀ (ns acc:List Int),acc.Nodup->(ns.foldl Gb acc).Nodup
 | [],acc,h=>h
 | n::r,acc,h=>by
  rw[J3]
  refine nU r _ ?_
  unfold Gb
  split
  ·exact h
  ·rename_i z
   rw[List.nodup_append]
   refine⟨h,by simp,fun a ha b hb e=>?_⟩
   rw[Ip] at hb
   subst hb
   subst e
   exact z (List.any_eq_true.mpr ⟨a,ha,beq_self_eq_true a⟩)
theorem wu:∀ (ns acc:List Int),(ns.foldl Gb acc).length<=acc.length+ns.length
 | [],acc=>by simp
 | n::r,acc=>by
  rw[J3]
  refine Fe (wu r _) ?_
  unfold Gb
  split
  ·rw[El]; lia
  ·simp only[Ec,El,List.length_nil]; lia
theorem sE (ns:List Int):ddI ns=ns.foldl Gb []:=by
 unfold ddI PyProof.Rows.firstMet
 congr 1
 apply List.ext_getElem?
 intro i
 rw[Fd]
 by_cases h:i < ns.length
 ·rw[List.getElem?_range h,Ff h]
  simp [Gr,Ff h]
 ·have e1:(Gx ns.length)[i]? = none:=HD (by rw[GJ]; lia)
  rw[e1,HD (by lia)]
  rfl
theorem mq:∀ {a b:List Int},a.Perm b->a.Pairwise (·<=·)->b.Pairwise (·<=·)->a=b
 | [],b,p,_,_=>(List.Perm.nil_eq p)
 | x::a,[],p,_,_=>absurd p.length_eq (by simp)
 | x::a,y::b,p,ha,hb=>by
  rw[Gy] at ha hb
  have h1:x<=y:=by
   rcases List.mem_cons.mp (p.mem_iff.mpr Ek) with h | h
   ·lia
   ·exact ha.1 y h
  have h2:y<=x:=by
   rcases List.mem_cons.mp (p.mem_iff.mp Ek) with h | h
   ·lia
   ·exact hb.1 x h
  have e:x=y:=by lia
  subst e
  rw[mq (List.Perm.cons_inv p) ha.2 hb.2]
abbrev Pl:=List (Int × Tm)
inductive bV (n:Nat) (H:Hp):List V->Pl->Prop where
 | nil:bV n H [] []
 | cons {r:Addr} {k:Int} {v:V} {t:Tm} {vs:List V} {ps:Pl}:H r=some (.tup [.int k,v])->dm n H v t->bV n H vs ps->bV n H (.ref r::vs) ((k,t)::ps)
theorem bV.bW {n:Nat} {H H':Hp} (e:∀ a xs,H a=some (HO.tup xs)->H' a=some (HO.tup xs)):∀ {vs:List V} {ps:Pl},bV n H vs ps->bV n H' vs ps
 | _,_,.nil=>.nil
 | _,_,.cons h t r=>.cons (e _ _ h) (t.bW e) (bV.bW e r)
theorem bV.length {n:Nat} {H:Hp}:∀ {vs:List V} {ps:Pl},bV n H vs ps->vs.length=ps.length
 | _,_,.nil=>rfl
 | _,_,.cons _ _ r=>by rw[El,El,bV.length r]
theorem bV.get {n:Nat} {H:Hp}:∀ {vs:List V} {ps:Pl} {i:Nat} {v:V},bV n H vs ps->vs[i]? = some v->∃ r k u t,v = .ref r/\H r=some (.tup [.int k,u])/\dm n H u t/\ps[i]? = some (k,t)
 | _,_,_,_,.nil,h=>by simp at h
 | _,_,0,_,.cons h t _,e=>by
  cases (show some _=some _ from e)
  exact⟨_,_,_,_,rfl,h,t,rfl⟩
 | _,_,i+1,_,.cons _ _ r,e=>by
  obtain⟨a,k,u,t,h1,h2,h3,h4⟩:=bV.get (i:=i) r (by simpa using e)
  exact⟨a,k,u,t,h1,h2,h3,by simpa using h4⟩
theorem bV.snoc {n:Nat} {H:Hp} {r:Addr} {k:Int} {v:V} {t:Tm} (h:H r=some (.tup [.int k,v])) (ht:dm n H v t):∀ {vs:List V} {ps:Pl},bV n H vs ps->bV n H (vs++[.ref r]) (ps++[(k,t)])
 | _,_,.nil=>.cons h ht .nil
 | _,_,.cons a b c=>.cons a b (bV.snoc h ht c)
def okP (p:Pl):Prop:=p≠[]/\p.length<=9/\(p.map (·.1)).Pairwise (· < ·)/\∀ x∈p,1<=x.1/\x.1<=9/\x.2.dep<=4
def sG (n:Nat) (H:Hp) (a:Addr) (p:Pl):Prop:=okP p/\∃ vs,H a=some (.tup vs)/\bV n H vs p
theorem sG.bW {n:Nat} {H H':Hp} {a:Addr} {p:Pl} (e:∀ a xs,H a=some (HO.tup xs)->H' a=some (HO.tup xs)) (h:sG n H a p):sG n H' a p:=by
 obtain⟨ok,vs,h1,h2⟩:=h
 exact⟨ok,vs,e _ _ h1,h2.bW e⟩
theorem sG.mono {n:Nat} {H H':Hp} {a:Addr} {p:Pl} (e:bu H H') (h:sG n H a p):sG n H' a p:=h.bW fun a xs q=>e a _ q
theorem take_snoc {α β:Type} (f:α->β) {xs:List α} {i:Nat} {x:α} (h:xs[i]? = some x):(xs.take (i+1)).map f=(xs.take i).map f++[f x]:=(m7 f h).symm
def yJ (x:Nat):List Nat->List Nat
 | []=>[x]
 | y::r=>if x<=y then x::y::r else y::yJ x r
def wj:List Nat->List Nat
 | []=>[]
 | x::r=>yJ x (wj r)
theorem lG (x:Nat):∀ l:List Nat,(yJ x l).Perm (x::l)
 | []=>.refl _
 | y::r=>by
  rw[yJ]
  split
  ·exact .refl _
  ·exact ((lG x r).cons y).trans (.swap x y r)
theorem lE:∀ l:List Nat,(wj l).Perm l
 | []=>.refl _
 | x::r=>(lG x _).trans ((lE r).cons x)
theorem lB (x:Nat):∀ {l:List Nat},l.Pairwise (·<=·)->(yJ x l).Pairwise (·<=·)
 | [],_=>by rw[yJ]; simp
 | y::r,h=>by
  rw[yJ]
  rw[Gy] at h
  split
  ·rw[Gy,Gy]
   refine⟨fun z hz=>?_,h⟩
   rcases List.mem_cons.mp hz with rfl | hz
   ·assumption
   ·have:=h.1 z hz
    lia
  ·rw[Gy]
   refine⟨fun z hz=>?_,lB x h.2⟩
   rcases List.mem_cons.mp ((lG x r).mem_iff.mp hz) with rfl | hz
   ·lia
   ·exact h.1 z hz
theorem ie:∀ l:List Nat,(wj l).Pairwise (·<=·)
 | []=>by rw[wj]; simp
 | x::r=>lB x (ie r)
theorem vC {l:List Nat} {ms:List Int} (p:ms.Perm (l.map fun i:Nat=>(i:Int))) (h:ms.Pairwise (·<=·)):ms=(wj l).map fun i:Nat=>(i:Int):=by
 refine mq (p.trans ((lE l).map _).symm) h ?_
 rw[JF]
 exact (ie l).imp fun h=>by lia
mutual
def ren (f:Nat->Nat):Tm->Tm
 | .free=>.free
 | .never=>.never
 | .gives i k=>.gives (f i) k
 | .sum c k=>.sum (wj (c.map f)) k
 | .crowd c k m=>.crowd (wj (c.map f)) k m
 | .all ts=>.all (sZ f ts)
 | .any ts=>.any (sZ f ts)
def sZ (f:Nat->Nat):List Tm->List Tm
 | []=>[]
 | t::r=>ren f t::sZ f r
end
theorem je (f:Nat->Nat):∀ ts:List Tm,sZ f ts=ts.map (ren f)
 | []=>by rw[sZ]; rfl
 | t::r=>by rw[sZ,je f r]; rfl
mutual
theorem uA (f:Nat->Nat):∀ t:Tm,(ren f t).dep=t.dep
 | .free=>by rw[ren]
 | .never=>by rw[ren]
 | .gives i k=>by rw[ren,Tm.dep,Tm.dep] <;> simp
 | .sum c k=>by rw[ren,Tm.dep,Tm.dep] <;> simp
 | .crowd c k m=>by rw[ren,Tm.dep,Tm.dep] <;> simp
 | .all ts=>by rw[ren,Tm.dep,Tm.dep,mO f ts]
 | .any ts=>by rw[ren,Tm.dep,Tm.dep,mO f ts]
theorem mO (f:Nat->Nat):∀ ts:List Tm,tdL (sZ f ts)=tdL ts
 | []=>by rw[sZ]
 | t::r=>by rw[sZ,tdL,tdL,uA f t,mO f r]
end
def j0 (rs:List Nat) (i:Nat):Nat:=rs.getD i 0
theorem rP {rs:List Nat} {i:Nat} (h:i < rs.length):j0 rs i∈rs:=by
 unfold j0
 rw[Gr,Ff h]
 exact K5 h
theorem xF {rs:List Nat} (nd:rs.Nodup) {i j:Nat} (hi:i < rs.length) (hj:j < rs.length) (hij:i < j):j0 rs i≠j0 rs j:=by
 unfold j0
 rw[Gr,Ff hi,Gr,Ff hj]
 exact List.pairwise_iff_getElem.mp nd i j hi hj hij
theorem o4 {rs c:List Nat} {m n:Nat} (nd:rs.Nodup) (hm:m<=rs.length) (hv:∀ x∈rs,x < n) (hc:∀ i∈c,i < m) (hp:c.Pairwise (· < ·)) :
  (∀ i∈wj (c.map (j0 rs)),i < n)/\(wj (c.map (j0 rs))).Pairwise (· < ·)/\(wj (c.map (j0 rs))).length=c.length:=by
 have pm:=lE (c.map (j0 rs))
 refine⟨fun i hi=>?_,?_,by rw[pm.length_eq,Eb]⟩
 ·obtain⟨j,hj,rfl⟩:=List.mem_map.mp (pm.mem_iff.mp hi)
  exact hv _ (rP (Em (hc j hj) hm))
 ·have nd2:(c.map (j0 rs)).Nodup:=by
   show (c.map (j0 rs)).Pairwise (·≠·)
   rw[JF]
   exact List.Pairwise.imp_of_mem (fun {a b} ha hb h=>xF nd (Em (hc a ha) hm) (Em (hc b hb) hm) h) hp
  have nd3:(wj (c.map (j0 rs))).Nodup:=pm.nodup_iff.mpr nd2
  exact ((ie _).and nd3).imp fun h=>by lia
theorem uD {rs:List Nat} {i:Nat} (h:i < rs.length):atI (rs.map vN) (i:Int)=some (vN (j0 rs i)):=by
 refine iM ?_
 unfold j0
 rw[Fd,Gr,Ff h]
 rfl
theorem wC {b:Bool} {A B:Prop} (h:b=true) (a:A):if b=true then A else B:=by rw[if_pos h]; exact a
theorem fB {b:Bool} {A B:Prop} (h:b=false) (a:B):if b=true then A else B:=by rw[if_neg (by rw[h]; exact Et)]; exact a
abbrev fD:Stmt:=top 42
theorem lM:aW ["_law_term_here","_law_row"] ["_law_term_here","_law_row"] (aG fD):=⟨rfl,rfl,rfl,by decide+kernel,rfl,by decide+kernel,by decide+kernel⟩
def sX (K:FT) (d:Nat):Sp:=fun vs H Q _=>∃ (v:V) (row:Addr) (m n:Nat) (t:Tm) (rs:List Nat),vs=[v,.ref row]/\dm m H v t/\t.dep<=d/\SqL K H row (rs.map vN)/\m<=rs.length/\rs.Nodup/\(∀ x∈rs,x < n) ∧
 ∀ (v':V) (H':Hp),bu H H'->dm n H' v' (ren (j0 rs) t)->Q v' H'
theorem xn:dw P w K mg base CX0 0 f fd ["_law_term_here","_law_row"] (sX K 0):=by
 have no:∀ vs H Q E,¬ sX K 0 vs H Q E:=fun vs H Q E h=>by
  obtain⟨v,row,m,n,t,rs,_,_,h1,_⟩:=h
  have:=t.gh
  lia
 exact⟨fun vs H Q E h=>absurd h (no vs H Q E),fun A outer s H args us vs Q E _ _ _ _ h=>absurd h (no vs H Q E)⟩
theorem wN {K:FT} {H H':Hp} {a:Addr} {xs:List V} (e:bu H H') (h:SqL K H a xs):SqL K H' a xs:=e.seq h
theorem eE {d:Nat} (F:Fun K "_law_renamed" "_law_renamed" fD f fd) (B:Bt mg)
  (D_law_renamed:Df P w K mg base "_law_renamed" d ["_law_term_here","_law_row"] (sX K d)):dw P w K mg base CX0 (d+1) f fd ["_law_term_here","_law_row"] (sX K (d+1)):=by
 refine F.ok lM (fun vs H Q E h=>?_) (fun cdv A outer s H vs Q E hr h=>?_)
 ·obtain⟨v,row,m,n,t,rs,rfl,_⟩:=h
  rfl
 ·obtain⟨v,row,m,n,t,rs,rfl,rt,hd,hR,hm,nd,hv,q⟩:=h
  refine⟨_,(au (bx (aD bJ (aR (r:=dI K) aX (pv 0) aq (fun _ _=>rfl)) aC (aM _)) (aA (aJ (bI (aa aC (aa (aR (r:=gZ K) bf (pv 1) (aR (r:=dI K) aX (pv 0) aq (fun _ _=>rfl)) (fun _ _=>rfl)) (aa (aR (r:=dI K) aX (pv 0) aq (fun _ _=>rfl)) aj)))))) aH)
 (au (bx (aD (r:=rIn K false) gq (aR (r:=dI K) aX (pv 0) aq (fun _ _=>rfl)) (bI (aa aC (aa aC aj))) rfl) (aA (aJ (aO (r:=yo K) xJ (bI (aa (aR (r:=dI K) aX (pv 0) aq (fun _ _=>rfl)) (aa (aY (r:=gF K) bO rfl B.tuple_ bL (aa (aF (r:=yq K) tL rfl B.sorted_ (by decide+kernel) (aa (cg (L:=["_law_one"]) (F:=["_law_row"]) (cap:=[1]) rfl (bR rfl rfl (by kernel_rfl)) (d7 (aR (r:=dI K) aX (pv 0) aq (fun _ _=>rfl))) (fun _ _ _ _ _=>(aN (i:=0) (bD (by decide+kernel)) rfl (Ez rfl))) (fun _ _ _ _ _=>bU) (fun _ _ _ _ _=>(aR (r:=gZ K) bf (pv 1) (pv 0) (fun _ _=>rfl)))) aj)) aj)) aj))) (jh (r:=Dc K) Ag (pv 0) (iC aq) qW)))) aH)
 (au (bx (aD (r:=rIn K false) gq (aR (r:=dI K) aX (pv 0) aq (fun _ _=>rfl)) (bI (aa aC (aa aC aj))) rfl) (aA (aJ (bI (aa (aR (r:=dI K) aX (pv 0) aq (fun _ _=>rfl)) (aa (aY (r:=gF K) bO rfl B.tuple_ bL (aa (cg (L:=["_law_part"]) (F:=["_law_row"]) (cap:=[1]) rfl (bR rfl rfl (by kernel_rfl)) (d7 (aR (r:=dI K) aX (pv 0) aq (fun _ _=>rfl))) (fun _ _ _ _ _=>(aN (i:=0) (bD (by decide+kernel)) rfl (Ez rfl))) (fun _ _ _ _ _=>bU) (fun _ _ _ _ _=>(aV D_law_renamed hr (aa (pv 0) (aa (pv 1) aj))))) aj)) aj))))) aH)
 (aA (aJ (pv 0)))))),?_⟩
  cases rt with
  | @free a ha =>
   refine⟨_,rfl,a,_,_,_,rfl,rfl,SqT.of ha,aB (k:=0) rfl,rfl,_,rfl,bG (aK (by decide)) ?_⟩
   refine⟨_,rfl,a,_,_,_,rfl,rfl,SqT.of ha,aB (k:=0) rfl,small (by show 2<=1000; decide),fun p1 h1=>⟨p1,_,rfl,.inr (SqT.of ao),rfl,rfl,_,rfl,fB (by decide+kernel) ?_⟩⟩
   generalize eH1:upd H p1 _=H1
   obtain⟨g1,_⟩:=aL eH1 h1
   refine⟨_,rfl,a,_,_,_,rfl,rfl,SqT.of (g1 _ _ ha),aB (k:=0) rfl,small (by show 2<=1000; decide),fun p2 h2=>⟨p2,_,rfl,.inr (SqT.of ao),rfl,rfl,_,rfl,fB (by decide+kernel) ?_⟩⟩
   generalize eH2:upd H1 p2 _=H2
   obtain⟨g2,_⟩:=aL eH2 h2
   refine⟨_,rfl,?_⟩
   have q':=q (.ref a) H2 (g1.trans g2) (by rw[ren]; exact .free (g2 _ _ (g1 _ _ ha)))
   exact q'
  | @never a ha =>
   refine⟨_,rfl,a,_,_,_,rfl,rfl,SqT.of ha,aB (k:=0) rfl,rfl,_,rfl,bG (aK (by decide)) ?_⟩
   refine⟨_,rfl,a,_,_,_,rfl,rfl,SqT.of ha,aB (k:=0) rfl,small (by show 2<=1000; decide),fun p1 h1=>⟨p1,_,rfl,.inr (SqT.of ao),rfl,rfl,_,rfl,fB (by decide+kernel) ?_⟩⟩
   generalize eH1:upd H p1 _=H1
   obtain⟨g1,_⟩:=aL eH1 h1
   refine⟨_,rfl,a,_,_,_,rfl,rfl,SqT.of (g1 _ _ ha),aB (k:=0) rfl,small (by show 2<=1000; decide),fun p2 h2=>⟨p2,_,rfl,.inr (SqT.of ao),rfl,rfl,_,rfl,fB (by decide+kernel) ?_⟩⟩
   generalize eH2:upd H1 p2 _=H2
   obtain⟨g2,_⟩:=aL eH2 h2
   refine⟨_,rfl,?_⟩
   have q':=q (.ref a) H2 (g1.trans g2) (by rw[ren]; exact .never (g2 _ _ (g1 _ _ ha)))
   exact q'
  | @gives a i k ha hi k1 k9 =>
   refine⟨_,rfl,a,_,_,_,rfl,rfl,SqT.of ha,aB (k:=0) rfl,rfl,_,rfl,gK rfl ?_⟩
   refine⟨_,rfl,_,rfl,a,_,_,_,rfl,rfl,SqT.of ha,aB (k:=1) rfl,row,_,_,_,rfl,rfl,hR,uD (by lia),_,rfl,a,_,_,_,rfl,rfl,SqT.of ha,aB (k:=2) rfl,small (by show 3<=1000; decide),fun p1 h1=>?_⟩
   refine q (.ref p1) _ (az h1 _) ?_
   rw[ren]
   exact .gives ao (hv _ (rP (by lia))) k1 k9
  | @sum a b c k ha hb hc hp l20 l2 k1 k99 =>
   obtain⟨x1,x2,x3⟩:=o4 nd hm hv hc hp
   refine⟨_,rfl,a,_,_,_,rfl,rfl,SqT.of ha,aB (k:=0) rfl,rfl,_,rfl,bG (aK (by decide)) ?_⟩
   refine⟨_,rfl,a,_,_,_,rfl,rfl,SqT.of ha,aB (k:=0) rfl,small (by show 2<=1000; decide),fun p1 h1=>⟨p1,_,rfl,.inr (SqT.of ao),rfl,rfl,_,rfl,wC (by decide+kernel) ?_⟩⟩
   generalize eH1:upd H p1 _=H1
   obtain⟨g1,_⟩:=aL eH1 h1
   refine⟨_,rfl,a,_,_,_,rfl,rfl,SqT.of (g1 _ _ ha),aB (k:=0) rfl,?_⟩
   refine⟨_,rfl,a,_,_,_,rfl,rfl,SqT.of (g1 _ _ ha),aB (k:=1) rfl,b,rfl,⟨_,SqT.of (g1 _ _ hb)⟩,fun D hD=>cY (K:=K) (a:=b) (xs:=c.map vN) (fun i zs σ' H2=>(∃ u,σ'=[u,some (.ref row)])/\zs=((c.take i).map (j0 rs)).map vN/\bu H1 H2/\H2 D=some (.lst zs))
    ⟨⟨_,rfl⟩,rfl,az hD _,ao⟩ (fun i zs σ' H2 _ h=>⟨SqT.of (h.2.2.1 _ _ (g1 _ _ hb)),h.2.2.2⟩) ?_ ?_⟩
   ·rintro j zs x σ' H2 hx ⟨⟨u,rfl⟩,e1,sm,hDl⟩
    obtain⟨i,hi,rfl⟩:=sY hx
    have him:=hc i (Fj hi)
    refine gT ?_
    refine⟨_,rfl,_,rfl,row,_,_,_,rfl,rfl,wN (g1.trans sm) hR,uD (by lia),hDl,?_,⟨_,rfl⟩,?_,bh sm hD _,ao⟩
    ·rw[e1,Eb,Eb,Fi]
     exact aU (by lia)
    ·rw[e1,take_snoc (j0 rs) hi,Er]
     rfl
   ·rintro zs σ' H2 ⟨_,e1,sm,hDl⟩
    rw[Eb,Fo] at e1
    refine⟨D,(c.map (j0 rs)).map fun i:Nat=>(i:Int),rfl,SqL.of (by rw[hDl,e1,iT]),by rw[Eb,Eb]; lia,fun ms pm so l hl=>?_⟩
    rw[vC pm so,← iT]
    generalize eH3:upd H2 l _=H3
    obtain⟨g3,e3⟩:=aL eH3 hl
    refine⟨l,_,rfl,.inl ⟨SqL.of e3,fun p4 h4=>?_⟩⟩
    generalize eH4:upd H3 p4 _=H4
    obtain⟨g4,e4⟩:=aL eH4 h4
    refine⟨small (by show 2<=1000; decide),fun p5 h5=>?_⟩
    generalize eH5:upd H4 p5 _=H5
    obtain⟨g5,e5⟩:=aL eH5 h5
    have s5:bu H H5:=g1.trans (sm.trans (g3.trans (g4.trans g5)))
    refine⟨_,rfl,_,rfl,a,_,rfl,SqT.of (s5 _ _ ha),(by show ¬ (HT.sIx 3 0 (some 2)=0/\HT.sIx 3 3 none=3); decide),fun p6 h6=>?_⟩
    have ec:wD [V.str "sum",.ref b,.int k] (some 2) none=[.int k]:=rfl
    rw[ec]
    generalize eH6:upd H5 p6 _=H6
    obtain⟨g6,e6⟩:=aL eH6 h6
    refine⟨p5,p6,_,_,rfl,rfl,SqT.of (g6 _ _ e5),SqT.of e6,small (by show 3<=1000; decide),fun z=>(by cases z),fun _ z=>(by cases z),fun _ _ p7 h7=>?_⟩
    refine q (.ref p7) _ (s5.trans (g6.trans (az h7 _))) ?_
    rw[ren]
    exact .sum ao (az h7 _ _ _ (g6 _ _ (g5 _ _ e4))) x1 x2 (by lia) (by lia) k1 k99
  | @crowd a b c k mm ha hb hc hp l20 l1 k1 k9 m1 m12 =>
   obtain⟨x1,x2,x3⟩:=o4 nd hm hv hc hp
   refine⟨_,rfl,a,_,_,_,rfl,rfl,SqT.of ha,aB (k:=0) rfl,rfl,_,rfl,bG (aK (by decide)) ?_⟩
   refine⟨_,rfl,a,_,_,_,rfl,rfl,SqT.of ha,aB (k:=0) rfl,small (by show 2<=1000; decide),fun p1 h1=>⟨p1,_,rfl,.inr (SqT.of ao),rfl,rfl,_,rfl,wC (by decide+kernel) ?_⟩⟩
   generalize eH1:upd H p1 _=H1
   obtain⟨g1,_⟩:=aL eH1 h1
   refine⟨_,rfl,a,_,_,_,rfl,rfl,SqT.of (g1 _ _ ha),aB (k:=0) rfl,?_⟩
   refine⟨_,rfl,a,_,_,_,rfl,rfl,SqT.of (g1 _ _ ha),aB (k:=1) rfl,b,rfl,⟨_,SqT.of (g1 _ _ hb)⟩,fun D hD=>cY (K:=K) (a:=b) (xs:=c.map vN) (fun i zs σ' H2=>(∃ u,σ'=[u,some (.ref row)])/\zs=((c.take i).map (j0 rs)).map vN/\bu H1 H2/\H2 D=some (.lst zs))
    ⟨⟨_,rfl⟩,rfl,az hD _,ao⟩ (fun i zs σ' H2 _ h=>⟨SqT.of (h.2.2.1 _ _ (g1 _ _ hb)),h.2.2.2⟩) ?_ ?_⟩
   ·rintro j zs x σ' H2 hx ⟨⟨u,rfl⟩,e1,sm,hDl⟩
    obtain⟨i,hi,rfl⟩:=sY hx
    have him:=hc i (Fj hi)
    refine gT ?_
    refine⟨_,rfl,_,rfl,row,_,_,_,rfl,rfl,wN (g1.trans sm) hR,uD (by lia),hDl,?_,⟨_,rfl⟩,?_,bh sm hD _,ao⟩
    ·rw[e1,Eb,Eb,Fi]
     exact aU (by lia)
    ·rw[e1,take_snoc (j0 rs) hi,Er]
     rfl
   ·rintro zs σ' H2 ⟨_,e1,sm,hDl⟩
    rw[Eb,Fo] at e1
    refine⟨D,(c.map (j0 rs)).map fun i:Nat=>(i:Int),rfl,SqL.of (by rw[hDl,e1,iT]),by rw[Eb,Eb]; lia,fun ms pm so l hl=>?_⟩
    rw[vC pm so,← iT]
    generalize eH3:upd H2 l _=H3
    obtain⟨g3,e3⟩:=aL eH3 hl
    refine⟨l,_,rfl,.inl ⟨SqL.of e3,fun p4 h4=>?_⟩⟩
    generalize eH4:upd H3 p4 _=H4
    obtain⟨g4,e4⟩:=aL eH4 h4
    refine⟨small (by show 2<=1000; decide),fun p5 h5=>?_⟩
    generalize eH5:upd H4 p5 _=H5
    obtain⟨g5,e5⟩:=aL eH5 h5
    have s5:bu H H5:=g1.trans (sm.trans (g3.trans (g4.trans g5)))
    refine⟨_,rfl,_,rfl,a,_,rfl,SqT.of (s5 _ _ ha),(by show ¬ (HT.sIx 4 0 (some 2)=0/\HT.sIx 4 4 none=4); decide),fun p6 h6=>?_⟩
    have ec:wD [V.str "crowd",.ref b,.int k,.int mm] (some 2) none=[.int k,.int mm]:=rfl
    rw[ec]
    generalize eH6:upd H5 p6 _=H6
    obtain⟨g6,e6⟩:=aL eH6 h6
    refine⟨p5,p6,_,_,rfl,rfl,SqT.of (g6 _ _ e5),SqT.of e6,small (by show 4<=1000; decide),fun z=>(by cases z),fun _ z=>(by cases z),fun _ _ p7 h7=>?_⟩
    refine q (.ref p7) _ (s5.trans (g6.trans (az h7 _))) ?_
    rw[ren]
    exact .crowd ao (az h7 _ _ _ (g6 _ _ (g5 _ _ e4))) x1 x2 (by lia) (by lia) k1 k9 m1 m12
  | @all a b us ts ha hb l2 l6 rl =>
   have hdl:tdL ts<=d:=by rw[Tm.dep] at hd; lia
   have el:=rl.length
   refine⟨_,rfl,a,_,_,_,rfl,rfl,SqT.of ha,aB (k:=0) rfl,rfl,_,rfl,bG (aK (by decide)) ?_⟩
   refine⟨_,rfl,a,_,_,_,rfl,rfl,SqT.of ha,aB (k:=0) rfl,small (by show 2<=1000; decide),fun p1 h1=>⟨p1,_,rfl,.inr (SqT.of ao),rfl,rfl,_,rfl,fB (by decide+kernel) ?_⟩⟩
   generalize eH1:upd H p1 _=H1
   obtain⟨g1,_⟩:=aL eH1 h1
   refine⟨_,rfl,a,_,_,_,rfl,rfl,SqT.of (g1 _ _ ha),aB (k:=0) rfl,small (by show 2<=1000; decide),fun p2 h2=>⟨p2,_,rfl,.inr (SqT.of ao),rfl,rfl,_,rfl,wC (by decide+kernel) ?_⟩⟩
   generalize eH2:upd H1 p2 _=H2
   obtain⟨g2,_⟩:=aL eH2 h2
   have s2:bu H H2:=g1.trans g2
   refine⟨_,rfl,a,_,_,_,rfl,rfl,SqT.of (s2 _ _ ha),aB (k:=0) rfl,?_⟩
   refine⟨_,rfl,a,_,_,_,rfl,rfl,SqT.of (s2 _ _ ha),aB (k:=1) rfl,b,rfl,⟨_,SqT.of (s2 _ _ hb)⟩,fun D hD=>cY (K:=K) (a:=b) (xs:=us) (fun i zs σ' H3=>(∃ u,σ'=[u,some (.ref row)])/\zs.length=i/\bu H2 H3/\H3 D=some (.lst zs)/\bK n H3 zs (sZ (j0 rs) (ts.take i)))
    ⟨⟨_,rfl⟩,rfl,az hD _,ao,by rw[Jb,sZ]; exact .nil⟩ (fun i zs σ' H3 _ h=>⟨SqT.of (h.2.2.1 _ _ (s2 _ _ hb)),h.2.2.2.1⟩) ?_ ?_⟩
   ·rintro j zs x σ' H3 hx ⟨⟨u,rfl⟩,lz,sm,hDl,rz⟩
    obtain⟨t,ht,rt⟩:=rl.get hx
    have hj:=(List.getElem?_eq_some_iff.mp hx).1
    refine gT ?_
    refine⟨_,rfl,_,rfl,x,row,m,n,t,rs,rfl,rt.mono (s2.trans sm),Fe (iQ ht) hdl,wN (s2.trans sm) hR,hm,nd,hv,fun v' H4 s4 r4=>?_⟩
    have s7:=dX (zs':=zs++[v']) (s4 _ _ hDl)
    refine⟨s4 _ _ hDl,aU (by lia),⟨_,rfl⟩,by rw[Ec,lz]; rfl,bh (sm.trans s4) hD _,ao,?_⟩
    rw[je,take_snoc (ren (j0 rs)) ht,← je]
    exact ((rz.mono s4).bW s7).snoc (r4.bW s7)
   ·rintro zs σ' H3 ⟨_,lz,sm,hDl,rz⟩
    rw[el,Fo] at rz
    refine⟨D,_,rfl,.inl ⟨SqL.of hDl,fun p4 h4=>?_⟩⟩
    generalize eH4:upd H3 p4 _=H4
    obtain⟨g4,e4⟩:=aL eH4 h4
    refine⟨small (by show 2<=1000; decide),fun p5 h5=>?_⟩
    refine q (.ref p5) _ (s2.trans (sm.trans (g4.trans (az h5 _)))) ?_
    rw[ren]
    exact .all ao (az h5 _ _ _ e4) (by lia) (by lia) (rz.mono (g4.trans (az h5 _)))
  | @any a b us ts ha hb l2 l6 rl =>
   have hdl:tdL ts<=d:=by rw[Tm.dep] at hd; lia
   have el:=rl.length
   refine⟨_,rfl,a,_,_,_,rfl,rfl,SqT.of ha,aB (k:=0) rfl,rfl,_,rfl,bG (aK (by decide)) ?_⟩
   refine⟨_,rfl,a,_,_,_,rfl,rfl,SqT.of ha,aB (k:=0) rfl,small (by show 2<=1000; decide),fun p1 h1=>⟨p1,_,rfl,.inr (SqT.of ao),rfl,rfl,_,rfl,fB (by decide+kernel) ?_⟩⟩
   generalize eH1:upd H p1 _=H1
   obtain⟨g1,_⟩:=aL eH1 h1
   refine⟨_,rfl,a,_,_,_,rfl,rfl,SqT.of (g1 _ _ ha),aB (k:=0) rfl,small (by show 2<=1000; decide),fun p2 h2=>⟨p2,_,rfl,.inr (SqT.of ao),rfl,rfl,_,rfl,wC (by decide+kernel) ?_⟩⟩
   generalize eH2:upd H1 p2 _=H2
   obtain⟨g2,_⟩:=aL eH2 h2
   have s2:bu H H2:=g1.trans g2
   refine⟨_,rfl,a,_,_,_,rfl,rfl,SqT.of (s2 _ _ ha),aB (k:=0) rfl,?_⟩
   refine⟨_,rfl,a,_,_,_,rfl,rfl,SqT.of (s2 _ _ ha),aB (k:=1) rfl,b,rfl,⟨_,SqT.of (s2 _ _ hb)⟩,fun D hD=>cY (K:=K) (a:=b) (xs:=us) (fun i zs σ' H3=>(∃ u,σ'=[u,some (.ref row)])/\zs.length=i/\bu H2 H3/\H3 D=some (.lst zs)/\bK n H3 zs (sZ (j0 rs) (ts.take i)))
    ⟨⟨_,rfl⟩,rfl,az hD _,ao,by rw[Jb,sZ]; exact .nil⟩ (fun i zs σ' H3 _ h=>⟨SqT.of (h.2.2.1 _ _ (s2 _ _ hb)),h.2.2.2.1⟩) ?_ ?_⟩
   ·rintro j zs x σ' H3 hx ⟨⟨u,rfl⟩,lz,sm,hDl,rz⟩
    obtain⟨t,ht,rt⟩:=rl.get hx
    have hj:=(List.getElem?_eq_some_iff.mp hx).1
    refine gT ?_
    refine⟨_,rfl,_,rfl,x,row,m,n,t,rs,rfl,rt.mono (s2.trans sm),Fe (iQ ht) hdl,wN (s2.trans sm) hR,hm,nd,hv,fun v' H4 s4 r4=>?_⟩
    have s7:=dX (zs':=zs++[v']) (s4 _ _ hDl)
    refine⟨s4 _ _ hDl,aU (by lia),⟨_,rfl⟩,by rw[Ec,lz]; rfl,bh (sm.trans s4) hD _,ao,?_⟩
    rw[je,take_snoc (ren (j0 rs)) ht,← je]
    exact ((rz.mono s4).bW s7).snoc (r4.bW s7)
   ·rintro zs σ' H3 ⟨_,lz,sm,hDl,rz⟩
    rw[el,Fo] at rz
    refine⟨D,_,rfl,.inl ⟨SqL.of hDl,fun p4 h4=>?_⟩⟩
    generalize eH4:upd H3 p4 _=H4
    obtain⟨g4,e4⟩:=aL eH4 h4
    refine⟨small (by show 2<=1000; decide),fun p5 h5=>?_⟩
    refine q (.ref p5) _ (s2.trans (sm.trans (g4.trans (az h5 _)))) ?_
    rw[ren]
    exact .any ao (az h5 _ _ _ e4) (by lia) (by lia) (rz.mono (g4.trans (az h5 _)))
def shN (one k:Nat):Nat:=k+if one<=k then 1 else 0
def shR (one m:Nat):List Nat:=(Gx m).map (shN one)
theorem vh (one m:Nat):(shR one m).Nodup:=by
 unfold shR
 show ((Gx m).map (shN one)).Pairwise (·≠·)
 rw[JF]
 refine List.pairwise_lt_range.imp fun {a b} h=>?_
 unfold shN
 split <;> split <;> lia
theorem zV {one m:Nat}:∀ x∈shR one m,x < m+1:=fun x hx=>by
 unfold shR at hx
 obtain⟨k,hk,rfl⟩:=List.mem_map.mp hx
 have:=List.mem_range.mp hk
 unfold shN
 split <;> lia
abbrev jH:Stmt:=top 43
theorem qi:aW ["_law_cell","_law_n","_law_one","_law_deep","_law_most"] ["_law_cell","_law_n","_law_one","_law_deep","_law_most"] (aG jH):=⟨rfl,rfl,rfl,by decide+kernel,rfl,by decide+kernel,by decide+kernel⟩
def xV:Sp:=fun vs H Q _=>∃ (c:Int) (n one:Nat) (deep:Int) (mo:Nat),vs=[.int c,.int (n:Int),.int (one:Int),.int deep,.int (mo:Int)]/\1<=n/\n<=12/\one < n/\1<=deep/\deep<=3/\1<=mo/\mo<=9 ∧
 ∀ (v:V) (t:Tm) (H':Hp),bu H H'->dm n H' v t->t.dep<=3->Q v H'
theorem qC (F:Fun K "_law_mine" "_law_mine" jH f fd) (B:Bt mg)
  (D_law_term:Df P w K mg base "_law_term" 4 ["_law_cell","_law_n","_law_deep","_law_most"] (lF 3)) (D_law_renamed:Df P w K mg base "_law_renamed" 3 ["_law_term_here","_law_row"] (sX K 3)):dw P w K mg base CX0 5 f fd ["_law_cell","_law_n","_law_one","_law_deep","_law_most"] xV:=by
 refine F.ok qi (fun vs H Q E h=>?_) (fun cdv A outer s H vs Q E hr h=>?_)
 ·obtain⟨c,n,one,deep,mo,rfl,_⟩:=h
  rfl
 ·obtain⟨c,n,one,deep,mo,rfl,n1,n12,hone,de1,de3,m1,m9,q⟩:=h
  refine⟨_,(au (bx (aD bJ (pv 1) aq (aM _)) (aA (aJ (bI (aa (aR (r:=gZ K) bf (cD (aa aC (aa aC (aa aC aj)))) (aO cF (pv 0) aq) (fun _ _=>rfl)) aj)))) aH)
 (aA (aJ (aV D_law_renamed hr (aa (aV D_law_term hr (aa (pv 0) (aa (aO fW (pv 1) aq) (aa (pv 3) (aa (pv 4) aj))))) (aa (cg (L:=["_law_k"]) (F:=["_law_one"]) (cap:=[2]) rfl (bR rfl rfl (by kernel_rfl)) (dD rfl B.range_ (aa (aO fW (pv 1) aq) aj)) (fun _ _ _ _ _=>(aN (i:=0) (bD (by decide+kernel)) rfl (Ez rfl))) (fun _ _ _ _ _=>bU) (fun _ _ _ _ _=>(aO bT (pv 0) (aY (r:=Bb) pR rfl B.int_ mH (aa (cN Cq (pv 0) (pv 1) (aM _)) aj))))) aj)))))),?_⟩
  refine⟨_,rfl,rfl,_,rfl,?_⟩
  refine qL (fun c1=>?_) (fun c1=>?_)
  ·have en:n=1:=by
    have:=of_decide_eq_true c1
    cases n with
    | zero=>lia
    | succ n=>injection this with z; lia
   subst en
   refine⟨small (by show 3<=1000; decide),fun p7 h7=>?_⟩
   generalize eH7:upd H p7 _=H7
   obtain⟨g7,e7⟩:=aL eH7 h7
   have fin:∀ p8 (x:Str),H7 p8=none->(x = "free"∨x = "never")->Q (.ref p8) (upd H7 p8 (.tup [.str x])):=fun p8 x h8 hx=>by
    rcases hx with rfl | rfl
    ·exact q (.ref p8) .free _ (g7.trans (az h8 _)) (.free ao) (by decide)
    ·exact q (.ref p8) .never _ (g7.trans (az h8 _)) (.never ao) (by decide)
   refine⟨_,rfl,_,_,rfl,rfl,(by show (0:Int) < 3; decide),?_⟩
   have u1:0<=c % 3:=Fx _ (by lia)
   have u2:c % 3 < 3:=Fp _ (by lia)
   rcases (show c % 3=0∨c % 3=1∨c % 3=2 by lia) with z | z | z
   ·exact⟨p7,_,_,_,rfl,rfl,SqL.of e7,by rw[z]; rfl,small (by show 1<=1000; decide),fun p8 h8=>fin p8 _ h8 (.inl rfl)⟩
   ·exact⟨p7,_,_,_,rfl,rfl,SqL.of e7,by rw[z]; rfl,small (by show 1<=1000; decide),fun p8 h8=>fin p8 _ h8 (.inr rfl)⟩
   ·exact⟨p7,_,_,_,rfl,rfl,SqL.of e7,by rw[z]; rfl,small (by show 1<=1000; decide),fun p8 h8=>fin p8 _ h8 (.inl rfl)⟩
  ·have en:n≠1:=fun z=>c1 (decide_eq_true (by rw[z]; rfl))
   obtain⟨m,rfl⟩:∃ m,n=m+1:=⟨n - 1,by lia⟩
   have em:((m+1:Nat):Int) - 1=(m:Int):=by lia
   have et:(((m+1:Nat):Int) - 1).toNat=m:=by lia
   refine⟨_,rfl,_,rfl,_,_,rfl,rfl,_,rfl,_,rfl,c,m,deep,(mo:Int),(by show[V.int c,V.int (((m+1:Nat):Int) - 1),V.int deep,V.int (mo:Int)]=_; rw[em]),by lia,by lia,de1,by lia,by lia,by lia,fun v t H1 s1 rt td=>?_⟩
   refine⟨_,rfl,_,_,rfl,rfl,_,rfl,by lia,by lia,fun D hD=>eU (lo:=0) (n:=(((m+1:Nat):Int) - 1).toNat) (fun i zs σ' H2=>(∃ u,σ'=[u,some (.int (one:Int))])/\zs=((Gx i).map (shN one)).map vN/\bu H1 H2/\H2 D=some (.lst zs))
    ⟨⟨_,rfl⟩,rfl,az hD _,ao⟩ (fun i zs σ' H2 _ h=>h.2.2.2) ?_ ?_⟩
   ·rintro i zs σ' H2 hi ⟨⟨u,rfl⟩,e1,sm,hDl⟩
    refine gT ?_
    refine⟨_,rfl,_,rfl,_,rfl,_,_,rfl,rfl,.inr ⟨_,rfl,_,_,rfl,rfl,hDl,?_,⟨_,rfl⟩,?_,bh sm hD _,ao⟩⟩
    ·rw[e1,Eb,Eb,GJ]
     exact aU (by lia)
    ·rw[e1,List.range_succ,Er,Er]
     congr 1
     show[V.int (0+(i:Int)+_)]=[V.int ((shN one i:Nat):Int)]
     congr 2
     unfold shN
     by_cases hc:one<=i
     ·rw[decide_eq_true (by lia),if_pos hc]
      simp
     ·rw[decide_eq_false (by lia),if_neg hc]
      simp
   ·rintro zs σ' H2 ⟨_,e1,sm,hDl⟩
    rw[et] at e1
    refine⟨v,D,m,m+1,t,shR one m,rfl,rt.mono sm,by lia,SqL.of (by rw[hDl,e1]; rfl),by unfold shR; rw[Eb,GJ]; lia,vh one m,zV,fun v' H3 s3 r3=>?_⟩
    exact q v' _ H3 (s1.trans (sm.trans s3)) r3 (by rw[uA]; lia)
theorem vG {x:Int}:∀ (ns acc:List Int),x∈ns.foldl Gb acc ↔ x∈acc∨x∈ns
 | [],acc=>by simp
 | n::r,acc=>by
  rw[J3,vG r _]
  unfold Gb
  split
  ·rename_i h
   obtain⟨y,hy,ey⟩:=List.any_eq_true.mp h
   have e:=eq_of_beq ey
   constructor
   ·rintro (h | h)
    ·exact .inl h
    ·exact .inr (En _ h)
   ·rintro (h | h)
    ·exact .inl h
    ·rcases List.mem_cons.mp h with rfl | h
     ·exact .inl (by rw[← e]; exact hy)
     ·exact .inr h
  ·constructor
   ·rintro (h | h)
    ·rcases List.mem_append.mp h with h | h
     ·exact .inl h
     ·exact .inr (by rw[List.mem_singleton.mp h]; exact Ek)
    ·exact .inr (En _ h)
   ·rintro (h | h)
    ·exact .inl (J9 _ h)
    ·rcases List.mem_cons.mp h with rfl | h
     ·exact .inl (Es _ Ek)
     ·exact .inr h
def okS (ms:List Int):Prop:=ms≠[]/\ms.length<=9/\ms.Pairwise (· < ·)/\∀ x∈ms,1<=x/\x<=9
theorem zL {ns ms:List Int} (p:ms.Perm (ddI ns)) (so:ms.Pairwise (·<=·)) (h0:ns≠[]) (h9:ns.length<=9) (hb:∀ x∈ns,1<=x/\x<=9):okS ms:=by
 rw[sE] at p
 have mem:∀ x,x∈ms ↔ x∈ns:=fun x=>by rw[p.mem_iff,vG]; simp
 refine⟨fun z=>?_,?_,?_,fun x hx=>hb x ((mem x).mp hx)⟩
 ·cases ns with
  | nil=>exact h0 rfl
  | cons a r =>
   have:=(mem a).mpr Ek
   rw[z] at this
   cases this
 ·have:=wu ns []
  rw[p.length_eq]
  simp at this
  lia
 ·have nd:ms.Nodup:=p.nodup_iff.mpr (nU ns [] (by simp))
  exact (so.and nd).imp fun h=>by lia
theorem vR {ms:List Int} (h:okS ms) {p:Pl} (e:p.map (·.1)=ms) (hd:∀ x∈p,x.2.dep<=4):okP p:=by
 refine⟨fun z=>?_,?_,by rw[e]; exact h.2.2.1,fun x hx=>?_⟩
 ·subst z
  exact h.1 e.symm
 ·have:=congrArg K9 e
  rw[Eb] at this
  have:=h.2.1
  lia
 ·have hm:x.1∈ms:=by rw[← e]; exact List.mem_map.mpr ⟨x,hx,rfl⟩
  exact⟨(h.2.2.2 _ hm).1,(h.2.2.2 _ hm).2,hd x hx⟩
abbrev gj:Stmt:=top 44
theorem bF:aW ["_law_cell","_law_n","_law_one","_law_deep","_law_most","_law_drawn","_law_steps","_law_other_one","_law_found","_law_k","_law_step"] ["_law_cell","_law_n","_law_one","_law_deep","_law_most"] (aG gj):=⟨rfl,rfl,rfl,by decide+kernel,rfl,by decide+kernel,by decide+kernel⟩
def rJ:Sp:=fun vs H Q _=>∃ (c:Int) (n one:Nat) (deep:Int) (mo:Nat),vs=[.int c,.int (n:Int),.int (one:Int),.int deep,.int (mo:Int)]/\1<=n/\n<=12/\one < n/\1<=deep/\deep<=3/\1<=mo/\mo<=9 ∧
 ∀ (a:Addr) (p:Pl) (H':Hp),bu H H'->sG n H' a p->(∀ x∈p,x.2.dep<=3)->Q (.ref a) H'
theorem nH (F:Fun K "_law_pledge" "_law_pledge" gj f fd) (B:Bt mg)
  (D_law_draws:Df P w K mg base "_law_draws" 1 ["_law_cell","_law_parts"] (nF K)) (D_law_under:Df P w K mg base "_law_under" 1 ["_law_cell","_law_k"] nG) (D_law_crowd:Df P w K mg base "_law_crowd" 1 ["_law_number","_law_n"] qK)
  (D_law_mine:Df P w K mg base "_law_mine" 5 ["_law_cell","_law_n","_law_one","_law_deep","_law_most"] xV):dw P w K mg base CX0 6 f fd ["_law_cell","_law_n","_law_one","_law_deep","_law_most"] rJ:=by
 refine F.ok bF (fun vs H Q E h=>?_) (fun cdv A outer s H vs Q E hr h=>?_)
 ·obtain⟨c,n,one,deep,mo,rfl,_⟩:=h
  rfl
 ·obtain⟨c,n,one,deep,mo,rfl,n1,n12,hone,de1,de3,m1,m9,q⟩:=h
  refine⟨_,(au (bc (i:=5) bF.nd rfl (Or.inr rfl) (aV D_law_draws hr (aa (pv 0) (aa (cD (aa aq (aa aq (aa aq (aa aq (aa aq (aa aq aj))))))) aj))))
 (au (bc (i:=6) bF.nd rfl (Ez rfl) (jN rfl rfl B.sorted_ rfl B.set_ (aa (cg (L:=["_law_k"]) (F:=["_law_most","_law_drawn"]) (cap:=[4,5]) rfl (bR rfl rfl (by kernel_rfl)) (dD rfl B.range_ (aa (aO bT aq (aO cF (aR (r:=gZ K) bf (pv 5) aq (fun _ _=>rfl)) aq)) aj)) (fun _ _ _ _ _=>(aN (i:=0) (bD (by decide+kernel)) rfl (Ez rfl))) (fun _ _ _ _ _=>bU) (fun _ _ _ _ _=>(aO bT aq (aO cF (aR (r:=gZ K) bf (pv 2) (aO bT aq (pv 0)) (fun _ _=>rfl)) (pv 1))))) aj)))
 (au (bx (aD bJ (aR (r:=gZ K) bf (pv 5) aq (fun _ _=>rfl)) aq (aM _)) (au (wA (L:=["_law_step"]) (F:=[]) (cap:=[]) (j:=6) bF.nd rfl (Ez rfl) rfl (bR rfl rfl (by kernel_rfl)) (d7 (aV D_law_crowd hr (aa (aR (r:=gZ K) bf (pv 5) aq (fun _ _=>rfl)) (aa (pv 4) aj)))) (fun _ _ _ _ _=>(aN (i:=0) (bD (by decide+kernel)) rfl (Ez rfl))) (fun _ _ _ _ _=>bU) (fun _ _ _ _ _=>(aO bT aq (pv 0))))
 (aA (bx (aD (r:=CJ K) (zX hr.yx) (pv 6) (cD aj) (aM _)) (aA (bc (i:=6) bF.nd rfl (Ez rfl) (cD (aa (pv 4) aj)))) aH))) aH)
 (au (bx (PW.pt (mz (aD bJ (aR (r:=gZ K) bf (pv 5) aq (fun _ _=>rfl)) aq (aM _)) (jC (aD tH (pv 1) aq (aM _))))) (aA (aJ (aY (r:=gF K) bO rfl B.tuple_ bL (aa (cg (L:=["_law_step"]) (F:=["_law_n","_law_one"]) (cap:=[1,2]) rfl (bR rfl rfl (by kernel_rfl)) (gA (pv 6)) (fun _ _ _ _ _=>(aN (i:=0) (bD (by decide+kernel)) rfl (Ez rfl))) (fun _ _ _ _ _=>bU) (fun _ _ _ _ _=>(bI (aa (pv 0) (aa (bI (aa aC (aa (aO cF (aO bT (pv 2) aq) (pv 1)) (aa (pv 0) aj)))) aj))))) aj)))) aH)
 (au (bx (PW.pt (mz (aD bJ (aR (r:=gZ K) bf (pv 5) aq (fun _ _=>rfl)) aq (aM _)) (jC (aD tH (pv 1) aq (aM _))))) (au (bc (i:=7) bF.nd rfl (Or.inr rfl) (aO cF (aO bT (aO bT (pv 2) aq) (aO cF (aR (r:=gZ K) bf (pv 5) aq (fun _ _=>rfl)) (aO fW (pv 1) aq))) (pv 1)))
 (aA (aJ (aY (r:=gF K) bO rfl B.tuple_ bL (aa (cg (L:=["_law_step"]) (F:=["_law_other_one"]) (cap:=[7]) rfl (bR rfl rfl (by kernel_rfl)) (gA (pv 6)) (fun _ _ _ _ _=>(aN (i:=0) (bD (by decide+kernel)) rfl (Ez rfl))) (fun _ _ _ _ _=>bU) (fun _ _ _ _ _=>(bI (aa (pv 0) (aa (bI (aa aC (aa (pv 1) (aa (aF (uQ rfl) rfl B.max_ zQ (aa aq (aa (aO fW (pv 0) aq) aj))) aj)))) aj))))) aj))))) aH)
 (au (bc (i:=8) bF.nd rfl (Ez rfl) (cD aj))
 (au (gP Gs rfl (yU rfl B.enumerate_ (aa (pv 6) aj)) (eZ (K:=K) 2 rfl rfl (bz (aN (i:=9) bF.nd rfl (Ez rfl)) (bz (aN (i:=10) bF.nd rfl (Ez rfl)) fC))) (aA (m5 (gD Iv Ih Ig eX (pv 8) (aa (bI (aa (pv 10) (aa (aV D_law_mine hr (aa (aV D_law_under hr (aa (pv 0) (aa (pv 9) aj))) (aa (pv 1) (aa (pv 2) (aa (pv 3) (aa (pv 4) aj)))))) aj))) aj)))))
 (aA (aJ (aY (r:=gF K) bO rfl B.tuple_ bL (aa (pv 8) aj))))))))))),?_⟩
  refine⟨_,rfl,small (by show 6<=1000; decide),fun p1 h1=>?_⟩
  generalize eH1:upd H p1 _=H1
  obtain⟨g1,e1⟩:=aL eH1 h1
  refine⟨c,p1,[7,9,9,9,12,512],rfl,SqL.of e1,by decide,by decide,fun p2 h2=>?_⟩
  generalize eH2:upd H1 p2 _=H2
  obtain⟨g2,e2⟩:=aL eH2 h2
  have hps:∀ q∈([7,9,9,9,12,512]:List Int),0 < q:=by decide
  obtain⟨d0,k0,b0⟩:=cG (c:=lR c) (i:=0) hps rfl
  obtain⟨d1,k1,b1⟩:=cG (c:=lR c) (i:=1) hps rfl
  obtain⟨d2,k2,b2⟩:=cG (c:=lR c) (i:=2) hps rfl
  obtain⟨d3,k3,b3⟩:=cG (c:=lR c) (i:=3) hps rfl
  obtain⟨d4,k4,b4⟩:=cG (c:=lR c) (i:=4) hps rfl
  obtain⟨d5,k5,b5⟩:=cG (c:=lR c) (i:=5) hps rfl
  have a0:=aB (fG k0)
  have a4:=aB (fG k4)
  have a5:=aB (fG k5)
  have kk:∀ k:Nat,k < 3->∃ d,(qb (lR c) [7,9,9,9,12,512])[1+k]? = some d:=fun k hk=>by
   match k,hk with
   | 0,_=>exact⟨_,k1⟩
   | 1,_=>exact⟨_,k2⟩
   | 2,_=>exact⟨_,k3⟩
  change _=some (HO.lst ((qb (lR c) [7,9,9,9,12,512]).map V.int)) at e2
  generalize qb (lR c) [7,9,9,9,12,512]=ds at *
  have gH:bu H H2:=g1.trans g2
  have u1:0<=d0 % 3:=Fx _ (by lia)
  have u2:d0 % 3 < 3:=Fp _ (by lia)
  refine⟨_,rfl,p2,_,_,_,rfl,rfl,SqL.of e2,a0,_,_,rfl,rfl,(by show (0:Int) < 3; decide),_,_,rfl,rfl,_,rfl,by lia,by lia,fun D hD=>eU (lo:=0) (n:=(1+d0 % 3).toNat)
   (fun i zs σ' H3=>(∃ u,σ'=[u,some (.int (mo:Int)),some (.ref p2)])/\bu H2 H3/\H3 D=some (.lst zs)/\∃ ns:List Int,zs=ns.map V.int/\ns.length=i/\∀ x∈ns,1<=x/\x<=9)
   ⟨⟨_,rfl⟩,az hD _,ao,[],rfl,rfl,by simp⟩ (fun i zs σ' H3 _ h=>h.2.2.1) ?_ ?_⟩
  ·rintro i zs σ' H3 hi ⟨⟨u,rfl⟩,s3,eD,ns,e3,ln,hb⟩
   obtain⟨dk,hk⟩:=kk i (by lia)
   have ak:atI (ds.map V.int) (1+(0+(i:Int)))=some (.int dk):=by
    rw[show (1:Int)+(0+(i:Int))=((1+i:Nat):Int) by lia]
    exact aB (fG hk)
   have v1:0<=dk % (mo:Int):=Fx _ (by lia)
   have v2:dk % (mo:Int) < (mo:Int):=Fp _ (by lia)
   refine gT ?_
   refine⟨_,rfl,_,rfl,_,_,rfl,rfl,p2,_,_,_,rfl,rfl,SqL.of (s3 _ _ e2),ak,_,rfl,_,_,rfl,rfl,(by show (0:Int) < (mo:Int); lia),_,_,rfl,rfl,eD,?_,⟨_,rfl⟩,bh s3 hD _,ao,ns++[1+dk % (mo:Int)],?_,?_,?_⟩
   ·rw[e3,Eb]
    exact aU (by lia)
   ·rw[e3,Er]
    rfl
   ·rw[Ec,ln]
    rfl
   ·intro x hx
    rcases List.mem_append.mp hx with h | h
    ·exact hb x h
    ·rw[List.mem_singleton.mp h]
     lia
  ·rintro zs σ' H3 ⟨_,s3,eD,ns,e3,ln,hb⟩
   have ln3:1<=ns.length/\ns.length<=3:=by lia
   have dl:(ddI ns).length<=ns.length:=by
    have:=wu ns []
    rw[sE]
    simpa using this
   refine⟨D,ns,rfl,SqL.of (by rw[eD,e3]),by lia,by lia,fun ms pm so l hl=>?_⟩
   have okm:okS ms:=zL pm so (fun z=>by rw[z] at ln3; simp at ln3) (by lia) hb
   generalize eH4:upd H3 l _=H4
   obtain⟨g4,e4⟩:=aL eH4 hl
   have s4:bu H2 H4:=s3.trans g4
   refine gN ?_
   dsimp only
   show xq (yz _ _ _) _ _ _ _
   refine jo (fun σ H5=>∃ (l:Addr) (ms:List Int),σ=[some (.int c),some (.int (n:Int)),some (.int (one:Int)),some (.int deep),some (.int (mo:Int)),some (.ref p2),some (.ref l),none,none,none,none]/\bu H2 H5/\H5 l=some (.lst (ms.map V.int))/\okS ms) ?rest (fun R=>?_)
   case rest =>
    clear e4 hl so pm okm eH4 g4 s4 H4 l ms
    rintro σ H5 ⟨l,ms,rfl,s5,e5,okm⟩
    have l9:=okm.2.1
    have e2':=s5 _ _ e2
    have sH5:bu H H5:=gH.trans s5
    show xq (yz _ _ _) _ _ _ _
    refine jo (fun σ H6=>σ=[some (.int c),some (.int (n:Int)),some (.int (one:Int)),some (.int deep),some (.int (mo:Int)),some (.ref p2),some (.ref l),none,none,none,none]/\H5=H6) ?rest2 (fun R=>?_)
    case rest2 =>
     rintro σ H6 ⟨rfl,rfl⟩
     show xq (yz _ _ _) _ _ _ _
     refine jo (fun σ H6=>σ=[some (.int c),some (.int (n:Int)),some (.int (one:Int)),some (.int deep),some (.int (mo:Int)),some (.ref p2),some (.ref l),none,none,none,none]/\H5=H6) ?rest3 (fun R=>?_)
     case rest3 =>
      rintro σ H6 ⟨rfl,rfl⟩
      refine⟨small (Fq _),fun r hr0=>?_⟩
      generalize eH6:upd H5 r _=H6
      obtain⟨g6,e6⟩:=aL eH6 hr0
      refine⟨_,rfl,l,_,rfl,g6 _ _ e5,wV (K:=K) (a:=l) (xs:=ms.map V.int) (fun i σ H7=>(∃ u v,σ=[some (.int c),some (.int (n:Int)),some (.int (one:Int)),some (.int deep),some (.int (mo:Int)),some (.ref p2),some (.ref l),none,some (.ref r),u,v])/\bu H5 H7 ∧
       ∃ (vs:List V) (p:Pl),H7 r=some (.lst vs)/\bV n H7 vs p/\p.map (·.1)=ms.take i/\∀ x∈p,x.2.dep<=3) ⟨⟨_,_,rfl⟩,g6,[],[],e6,.nil,rfl,by simp⟩ (fun i σ H7 _ h=>SqL.of (h.2.1 _ _ e5)) ?_ ?_⟩
      ·rintro i x pp σ H7 hx hpp ⟨⟨u,v,rfl⟩,s7,vs,p,er,rp,ep,hd⟩
       obtain⟨st,hst,rfl⟩:=int_at hx
       have hi:i < ms.length:=(List.getElem?_eq_some_iff.mp hst).1
       generalize eH8:upd H7 pp _=H8
       obtain⟨g8,e8⟩:=aL eH8 hpp
       refine⟨pp,_,rfl,SqT.of e8,rfl,_,_,rfl,_,_,rfl,rfl,?_⟩
       refine⟨_,rfl,.inl ⟨rfl,_,SqL.of (g8 _ _ er)⟩,_,rfl,_,rfl,_,rfl,c,i,rfl,by lia,_,rfl,_,rfl,_,rfl,_,rfl,yZ c i,n,one,deep,mo,rfl,n1,n12,hone,de1,de3,m1,m9,fun v' t H9 s9 rt td=>?_⟩
       refine⟨small (by show 2<=1000; decide),fun pa ha=>?_⟩
       generalize eHa:upd H9 pa _=Ha
       obtain⟨ga,ea⟩:=aL eHa ha
       have s8a:bu H7 Ha:=g8.trans (s9.trans ga)
       have lv:=rp.length
       have lp:p.length<=ms.length:=by
        have:=congrArg K9 ep
        rw[Eb,Fi] at this
        lia
       have tk:=dX (zs':=vs++[.ref pa]) (s8a _ _ er)
       refine⟨r,_,_,rfl,rfl,s8a _ _ er,aU (by lia),⟨_,_,rfl⟩,bh (s7.trans s8a) hr0 _,vs++[.ref pa],p++[(st,t)],ao,?_,?_,?_⟩
       ·exact bV.snoc (tk _ _ ea) ((rt.mono ga).bW tk) ((rp.bW fun a xs q=>s8a a _ q).bW tk)
       ·rw[Er,ep,Fw,hst]
        rfl
       ·intro x hx
        rcases List.mem_append.mp hx with h | h
        ·exact hd x h
        ·rw[List.mem_singleton.mp h]
         show t.dep<=3
         lia
      ·rintro σ H7 ⟨⟨u,v,rfl⟩,s7,vs,p,er,rp,ep,hd⟩
       rw[Eb,Fo] at ep
       refine⟨_,rfl,r,_,rfl,.inl ⟨SqL.of er,fun pa ha=>?_⟩⟩
       have sn:=az ha (.tup vs)
       exact q pa p _ (sH5.trans (s7.trans sn)) ⟨vR okm ep (fun x hx=>Fe (hd x hx) (by decide)),vs,ao,rp.bW fun a xs q=>sn a _ q⟩ hd
     ·refine mX (decide (V.int d0=V.int 5)) (decide (1 < (n:Int))) (fun H6=>H5=H6) (fun Q' hQ=>?_) (fun H6 e Q' hQ=>?_) (fun H6 e c1 c2=>?_) (fun H6 e _=>R _ _ ⟨rfl,e⟩)
      ·exact⟨_,rfl,p2,_,_,_,rfl,rfl,SqL.of e2',a0,rfl,_,rfl,hQ _ rfl⟩
      ·subst e
       exact⟨_,rfl,_,_,rfl,rfl,_,rfl,hQ⟩
      ·subst e
       have c2:1 < (n:Int):=of_decide_eq_true c2
       have w1:0<=((one:Int)+1+d4 % ((n:Int) - 1)) % (n:Int):=Fx _ (by lia)
       have w2:((one:Int)+1+d4 % ((n:Int) - 1)) % (n:Int) < (n:Int):=Fp _ (by lia)
       obtain⟨j,hj⟩:=Iw w1
       refine⟨_,rfl,_,_,rfl,rfl,_,rfl,p2,_,_,_,rfl,rfl,SqL.of e2',a4,_,rfl,_,_,rfl,rfl,_,_,rfl,rfl,(by show (0:Int) < (n:Int) - 1; lia),_,_,rfl,rfl,_,rfl,_,_,rfl,rfl,(by show (0:Int) < (n:Int); lia),?_⟩
       refine gN ?_
       have es:(fun i j:Int=>V.int (i % j)) ((one:Int)+1+d4 % ((n:Int) - 1)) (n:Int)=V.int (j:Int):=by
        show V.int (((one:Int)+1+d4 % ((n:Int) - 1)) % (n:Int))=_
        rw[hj]
       refine⟨_,rfl,l,rfl,⟨_,SqL.of e5⟩,fun D hD=>gB (K:=K) (a:=l) (xs:=ms.map V.int) (fun i zs σ' H7=>(∃ u,σ'=[u,some (.int (j:Int))])/\bu H5 H7/\H7 D=some (.lst zs) ∧
        bV n H7 zs ((ms.take i).map fun st=>(st,Tm.gives j (if st - 1 > 1 then st - 1 else 1)))) ⟨⟨none,?_⟩,az hD _,ao,.nil⟩ (fun i zs σ' H7 _ h=>⟨SqL.of (h.2.1 _ _ e5),h.2.2.1⟩) ?_ ?_⟩
       ·rw[← es]
        rfl
       ·rintro i zs x σ' H7 hx ⟨⟨u,rfl⟩,s7,er,rp⟩
        obtain⟨st,hst,rfl⟩:=int_at hx
        have hb:=okm.2.2.2 st (Fj hst)
        have lv:=rp.length
        rw[Eb,Fi] at lv
        refine gT ?_
        refine⟨_,rfl,_,rfl,_,rfl,_,_,rfl,rfl,_,_,rfl,small (by show 3<=1000; decide),fun pa ha=>?_⟩
        generalize eHa:upd H7 pa _=Ha
        obtain⟨ga,ea⟩:=aL eHa ha
        refine⟨small (by show 2<=1000; decide),fun pb hb'=>?_⟩
        generalize eHb:upd Ha pb _=Hb
        obtain⟨gb,eb⟩:=aL eHb hb'
        have s7b:bu H7 Hb:=ga.trans gb
        have tk:=dX (zs':=zs++[.ref pb]) (s7b _ _ er)
        refine⟨s7b _ _ er,aU (by lia),⟨_,rfl⟩,bh (s7.trans s7b) hD _,ao,?_⟩
        rw[take_snoc (fun st=>(st,Tm.gives j (if st - 1 > 1 then st - 1 else 1))) hst]
        exact bV.snoc (tk _ _ eb) (.gives (tk _ _ (gb _ _ ea)) (by lia) (by split <;> lia) (by split <;> lia)) ((rp.bW fun a xs q=>s7b a _ q).bW tk)
       ·rintro zs σ' H7 ⟨_,s7,er,rp⟩
        rw[Eb,Fo] at rp
        refine⟨D,_,rfl,.inl ⟨SqL.of er,fun pa ha=>?_⟩⟩
        have sn:=az ha (.tup zs)
        refine q pa _ _ (sH5.trans (s7.trans sn)) ⟨vR okm ?_ ?_,zs,ao,rp.bW fun a xs q=>sn a _ q⟩ ?_
        ·rw[KH]
         exact List.map_id' ms
        ·intro x hx
         obtain⟨st,_,rfl⟩:=List.mem_map.mp hx
         show (1:Nat)<=4
         decide
        ·intro x hx
         obtain⟨st,_,rfl⟩:=List.mem_map.mp hx
         show (1:Nat)<=3
         decide
    ·refine mX (decide (V.int d0=V.int 6)) (decide (1 < (n:Int))) (fun H6=>H5=H6) (fun Q' hQ=>?_) (fun H6 e Q' hQ=>?_) (fun H6 e c1 c2=>?_) (fun H6 e _=>R _ _ ⟨rfl,e⟩)
     ·exact⟨_,rfl,p2,_,_,_,rfl,rfl,SqL.of e2',a0,rfl,_,rfl,hQ _ rfl⟩
     ·subst e
      exact⟨_,rfl,_,_,rfl,rfl,_,rfl,hQ⟩
     ·subst e
      have w1:0<=((one:Int)+1) % (n:Int):=Fx _ (by lia)
      have w2:((one:Int)+1) % (n:Int) < (n:Int):=Fp _ (by lia)
      obtain⟨j,hj⟩:=Iw w1
      refine⟨_,rfl,l,rfl,⟨_,SqL.of e5⟩,fun D hD=>gB (K:=K) (a:=l) (xs:=ms.map V.int) (fun i zs σ' H7=>(∃ u,σ'=[u,some (.int (n:Int)),some (.int (one:Int))])/\bu H5 H7/\H7 D=some (.lst zs) ∧
       bV n H7 zs ((ms.take i).map fun st=>(st,Tm.gives j st))) ⟨⟨_,rfl⟩,az hD _,ao,.nil⟩ (fun i zs σ' H7 _ h=>⟨SqL.of (h.2.1 _ _ e5),h.2.2.1⟩) ?_ ?_⟩
      ·rintro i zs x σ' H7 hx ⟨⟨u,rfl⟩,s7,er,rp⟩
       obtain⟨st,hst,rfl⟩:=int_at hx
       have hb:=okm.2.2.2 st (Fj hst)
       have lv:=rp.length
       rw[Eb,Fi] at lv
       refine gT ?_
       refine⟨_,rfl,_,rfl,_,_,rfl,rfl,_,rfl,_,_,rfl,rfl,(by show (0:Int) < (n:Int); lia),_,rfl,small (by show 3<=1000; decide),fun pa ha=>?_⟩
       generalize eHa:upd H7 pa _=Ha
       obtain⟨ga,ea⟩:=aL eHa ha
       have ea:Ha pa=some (.tup [.str "gives",vN j,.int st]):=by
        rw[ea]
        show some (HO.tup [V.str "gives",V.int (((one:Int)+1) % (n:Int)),V.int st])=some (HO.tup [V.str "gives",V.int (j:Int),V.int st])
        rw[hj]
       refine⟨small (by show 2<=1000; decide),fun pb hb'=>?_⟩
       generalize eHb:upd Ha pb _=Hb
       obtain⟨gb,eb⟩:=aL eHb hb'
       have s7b:bu H7 Hb:=ga.trans gb
       have tk:=dX (zs':=zs++[.ref pb]) (s7b _ _ er)
       refine⟨s7b _ _ er,aU (by lia),⟨_,rfl⟩,bh (s7.trans s7b) hD _,ao,?_⟩
       rw[take_snoc (fun st=>(st,Tm.gives j st)) hst]
       exact bV.snoc (tk _ _ eb) (.gives (tk _ _ (gb _ _ ea)) (by lia) (by lia) (by lia)) ((rp.bW fun a xs q=>s7b a _ q).bW tk)
      ·rintro zs σ' H7 ⟨_,s7,er,rp⟩
       rw[Eb,Fo] at rp
       refine⟨D,_,rfl,.inl ⟨SqL.of er,fun pa ha=>?_⟩⟩
       have sn:=az ha (.tup zs)
       refine q pa _ _ (sH5.trans (s7.trans sn)) ⟨vR okm ?_ ?_,zs,ao,rp.bW fun a xs q=>sn a _ q⟩ ?_
       ·rw[KH]
        exact List.map_id' ms
       ·intro x hx
        obtain⟨st,_,rfl⟩:=List.mem_map.mp hx
        show (1:Nat)<=4
        decide
       ·intro x hx
        obtain⟨st,_,rfl⟩:=List.mem_map.mp hx
        show (1:Nat)<=3
        decide
   ·refine⟨_,rfl,p2,_,_,_,rfl,rfl,SqL.of (s4 _ _ e2),a0,rfl,_,rfl,?_⟩
    refine qL (fun _=>?_) (fun _=>R _ _ ⟨l,ms,rfl,s4,e4,okm⟩)
    refine⟨_,rfl,p2,_,_,_,rfl,rfl,SqL.of (s4 _ _ e2),a5,_,rfl,d5,mo,rfl,by lia,fun cs r3 H5 hc hp hl5 s5 f5 e5=>?_⟩
    refine⟨r3,rfl,⟨_,SqT.of e5⟩,fun D5 hD5=>cY (K:=K) (a:=r3) (xs:=cs.map vN) (fun i zs σ' H6=>(∃ u,σ'=[u])/\zs=((cs.take i).map fun j:Nat=>(1:Int)+(j:Int)).map V.int/\bu H5 H6/\H6 D5=some (.lst zs))
     ⟨⟨_,rfl⟩,rfl,az hD5 _,ao⟩ (fun i zs σ' H6 _ h=>⟨SqT.of (h.2.2.1 _ _ e5),h.2.2.2⟩) ?_ ?_⟩
    ·rintro i zs x σ' H6 hx ⟨⟨u,rfl⟩,e6,s6,eD6⟩
     obtain⟨j,hj,rfl⟩:=sY hx
     refine gT ?_
     refine⟨_,rfl,_,_,rfl,rfl,eD6,?_,⟨_,rfl⟩,?_,bh s6 hD5 _,ao⟩
     ·rw[e6,Eb,Eb,Fi]
      exact aU (by lia)
     ·rw[e6,take_snoc (fun j:Nat=>(1:Int)+(j:Int)) hj,Er]
      rfl
    ·rintro zs σ' H6 ⟨_,e6,s6,eD6⟩
     rw[Eb,Fo] at e6
     rw[e6] at eD6
     have s46:bu H2 H6:=s4.trans (s5.trans s6)
     refine⟨_,rfl,small (by show 0<=1000; decide),fun p7 h7=>?_⟩
     have g7:bu H6 (upd H6 p7 (.lst [])):=az h7 _
     refine⟨D5,p7,_,rfl,rfl,SqL.of (g7 _ _ eD6),SqL.of ao,_,rfl,?_⟩
     refine qL (fun ce=>?_) (fun ce=>?_)
     ·refine⟨_,rfl,small (by show 1<=1000; decide),fun p8 h8=>?_⟩
      refine R _ _ ⟨p8,[(mo:Int)],rfl,s46.trans (g7.trans (az h8 _)),ao,by simp,by show 1<=9; decide,by simp,?_⟩
      intro x hx
      rw[List.mem_singleton.mp hx]
      lia
     ·refine R _ _ ⟨D5,cs.map fun j:Nat=>(1:Int)+(j:Int),rfl,s46.trans g7,g7 _ _ eD6,?_,?_,?_,?_⟩
      ·intro z
       apply ce
       rw[z]
       rfl
      ·rw[Eb]
       lia
      ·rw[JF]
       exact hp.imp fun h=>by lia
      ·intro x hx
       obtain⟨j,hj,rfl⟩:=List.mem_map.mp hx
       have:=hc j hj
       lia
mutual
def mnF:Tm->List Nat
 | .free=>[]
 | .never=>[]
 | .gives i _=>[i]
 | .sum c _=>c
 | .crowd c _ _=>c
 | .all ts=>mnL ts
 | .any ts=>mnL ts
def mnL:List Tm->List Nat
 | []=>[]
 | t::r=>mnF t++mnL r
end
theorem jq:∀ (ts us:List Tm),mnL (ts++us)=mnL ts++mnL us
 | [],us=>by rw[mnL]; rfl
 | t::r,us=>by rw[Gz,mnL,mnL,jq r us,Fg]
theorem sr {ts:List Tm} {i:Nat} {t:Tm} (h:ts[i]? = some t):mnL (ts.take (i+1))=mnL (ts.take i)++mnF t:=by
 rw[Fw,h,jq]
 show _++mnL [t]=_
 rw[mnL,mnL,Hx]
theorem rA:∀ {c:List Nat} {n:Nat},c.Pairwise (· < ·)->(∀ i∈c,i < n)->c.length<=n:=by
 have key:∀ (c:List Nat) (a n:Nat),c.Pairwise (· < ·)->(∀ i∈c,a<=i/\i < n)->c.length<=n - a:=by
  intro c
  induction c with
  | nil=>intro a n _ _; exact Fq _
  | cons x r ih =>
   intro a n hp hb
   rw[Gy] at hp
   have hx:=hb x Ek
   have:=ih (x+1) n hp.2 fun i hi=>⟨hp.1 i hi,(hb i (En _ hi)).2⟩
   rw[El]
   lia
 intro c n hp hb
 have:=key c 0 n hp fun i hi=>⟨Fq _,hb i hi⟩
 lia
mutual
theorem yD {n:Nat} {H:Hp} (hn:n<=12):∀ (d:Nat) {v:V} {t:Tm},dm n H v t->t.dep<=d+1->(mnF t).length<=12 * 6 ^ d
 | d,_,_,.free _,_=>by rw[mnF]; exact Fq _
 | d,_,_,.never _,_=>by rw[mnF]; exact Fq _
 | d,_,_,.gives _ _ _ _,_=>by
  rw[mnF]
  have:0 < 6 ^ d:=Hs (by decide)
  show 1<=_
  lia
 | d,_,_,.sum _ _ hc hp _ _ _ _,_=>by
  rw[mnF]
  have:=rA hp hc
  have:0 < 6 ^ d:=Hs (by decide)
  lia
 | d,_,_,.crowd _ _ hc hp _ _ _ _ _ _,_=>by
  rw[mnF]
  have:=rA hp hc
  have:0 < 6 ^ d:=Hs (by decide)
  lia
 | 0,_,_,.all (vs:=vs) (ts:=ts) _ _ l2 _ rl,hd=>by
  have:=m6 rl l2
  rw[Tm.dep] at hd
  lia
 | d+1,_,_,.all (ts:=ts) _ _ _ l6 rl,hd=>by
  rw[mnF]
  rw[Tm.dep] at hd
  have h1:=qO hn d rl (by lia)
  have h2:=rl.length
  have h3:ts.length * (12 * 6 ^ d)<=6 * (12 * 6 ^ d):=G9 _ (by lia)
  rw[KD]
  lia
 | 0,_,_,.any (vs:=vs) (ts:=ts) _ _ l2 _ rl,hd=>by
  have:=m6 rl l2
  rw[Tm.dep] at hd
  lia
 | d+1,_,_,.any (ts:=ts) _ _ _ l6 rl,hd=>by
  rw[mnF]
  rw[Tm.dep] at hd
  have h1:=qO hn d rl (by lia)
  have h2:=rl.length
  have h3:ts.length * (12 * 6 ^ d)<=6 * (12 * 6 ^ d):=G9 _ (by lia)
  rw[KD]
  lia
theorem qO {n:Nat} {H:Hp} (hn:n<=12):∀ (d:Nat) {vs:List V} {ts:List Tm},bK n H vs ts->tdL ts<=d+1->(mnL ts).length<=ts.length * (12 * 6 ^ d)
 | d,_,_,.nil,_=>by rw[mnL]; exact Fq _
 | d,_,_,.cons (ts:=ts) h r,hd=>by
  rw[tdL] at hd
  have h1:=yD hn d h (by lia)
  have h2:=qO hn d r (by lia)
  rw[mnL,Ec,El,Nat.add_mul,Nat.one_mul]
  lia
theorem m6 {n:Nat} {H:Hp}:∀ {vs:List V} {ts:List Tm},bK n H vs ts->2<=vs.length->1<=tdL ts
 | _,_,.nil,h=>by simp at h
 | _,_,.cons (t:=t) _ _,_=>by
  rw[tdL]
  have:=t.gh
  lia
end
mutual
theorem vz {n:Nat} {H:Hp}:∀ {v:V} {t:Tm},dm n H v t->∀ i∈mnF t,i < n
 | _,_,.free _=>fun i hi=>by rw[mnF] at hi; cases hi
 | _,_,.never _=>fun i hi=>by rw[mnF] at hi; cases hi
 | _,_,.gives _ h _ _=>fun i hi=>by rw[mnF] at hi; rw[List.mem_singleton.mp hi]; exact h
 | _,_,.sum _ _ hc _ _ _ _ _=>fun i hi=>by rw[mnF] at hi; exact hc i hi
 | _,_,.crowd _ _ hc _ _ _ _ _ _ _=>fun i hi=>by rw[mnF] at hi; exact hc i hi
 | _,_,.all _ _ _ _ rl=>fun i hi=>by rw[mnF] at hi; exact vg rl i hi
 | _,_,.any _ _ _ _ rl=>fun i hi=>by rw[mnF] at hi; exact vg rl i hi
theorem vg {n:Nat} {H:Hp}:∀ {vs:List V} {ts:List Tm},bK n H vs ts->∀ i∈mnL ts,i < n
 | _,_,.nil=>fun i hi=>by rw[mnL] at hi; cases hi
 | _,_,.cons h r=>fun i hi=>by
  rw[mnL] at hi
  rcases List.mem_append.mp hi with z | z
  ·exact vz h i z
  ·exact vg r i z
end
theorem DW {d:Nat} (h:d<=4):12 * 6 ^ (d - 1)<=2592:=by
 have:6 ^ (d - 1)<=6 ^ 3:=Nat.pow_le_pow_right (by decide) (by lia)
 have:(6:Nat) ^ 3=216:=by decide
 lia
theorem sI {n d:Nat} {H:Hp} {v:V} {t:Tm} (hn:n<=12) (h4:d<=4) (r:dm n H v t) (hd:t.dep<=d):(mnF t).length<=2592:=by
 have:=t.gh
 exact Fe (yD hn (d - 1) r (by lia)) (DW h4)
theorem Ao {ts:List Tm} (i:Nat):(mnL (ts.take i)).length<=(mnL ts).length:=by
 have:=congrArg K9 (jq (ts.take i) (ts.drop i))
 rw[List.take_append_drop,Ec] at this
 lia
def kO (d:Nat):Sp:=fun vs H Q _=>∃ (v:V) (n:Nat) (t:Tm),vs=[v]/\dm n H v t/\t.dep<=d/\d<=4/\n<=12/\∀ (r:Addr) (H':Hp),bu H H'->H r=none->H' r=some (.lst ((mnF t).map vN))->Q (.ref r) H'
theorem uV {ps:List Str}:dw P w K mg base CX0 0 f fd ps (kO 0):=by
 have no:∀ vs H Q E,¬ kO 0 vs H Q E:=fun vs H Q E h=>by
  obtain⟨v,n,t,_,_,h1,_⟩:=h
  have:=t.gh
  lia
 exact⟨fun vs H Q E h=>absurd h (no vs H Q E),fun A outer s H args us vs Q E _ _ _ _ h=>absurd h (no vs H Q E)⟩
abbrev ju:Stmt:=top 16
theorem kI:aW ["term","kind"] ["term"] (aG ju):=⟨rfl,rfl,rfl,by decide+kernel,rfl,by decide+kernel,by decide+kernel⟩
theorem fL {d:Nat} (F:Fun K "mentions" "mentions" ju f fd) (B:Bt mg)
  (D_mentions:Df P w K mg base "mentions" d ["term"] (kO d)):dw P w K mg base CX0 (d+1) f fd ["term"] (kO (d+1)):=by
 refine F.ok kI (fun vs H Q E h=>?_) (fun cdv A outer s H vs Q E hr h=>?_)
 ·obtain⟨v,n,t,rfl,_⟩:=h
  rfl
 ·obtain⟨v,n,t,rfl,rt,hd,h4,hn,q⟩:=h
  refine⟨_,(au (bc (i:=1) kI.nd rfl (Ez rfl) (aR (r:=dI K) aX (pv 0) aq (fun _ _=>rfl)))
 (au (bx (aD bJ (pv 1) aC (aM _)) (aA (aJ (cD (aa (aR (r:=dI K) aX (pv 0) aq (fun _ _=>rfl)) aj)))) aH)
 (au (bx (PW.pt (iK (aD bJ (pv 1) aC (aM _)) (d9 (aD bJ (pv 1) aC (aM _))))) (aA (aJ (aY (r:=vM K) tX rfl B.list_ qe (aa (aR (r:=dI K) aX (pv 0) aq (fun _ _=>rfl)) aj)))) aH)
 (au (bx (PW.pt (iK (aD bJ (pv 1) aC (aM _)) (d9 (aD bJ (pv 1) aC (aM _))))) (aA (aJ (xf (L:=["part","one"]) (F:=[]) (cap:=[]) rfl (bR rfl rfl (by kernel_rfl)) (d7 (aR (r:=dI K) aX (pv 0) aq (fun _ _=>rfl))) (fun _ _ _ _ _=>(aN (i:=0) (bD (by decide+kernel)) rfl (Ez rfl))) (fun _ _ _ _ _=>(wG K rfl (aV D_mentions hr (aa (pv 0) aj)))) (fun _ _ _ _ _=>(aN (i:=1) (bD (by decide+kernel)) rfl (Ez rfl))) (fun _ _ _ _ _=>(pv 1))))) aH)
 (aA (aJ (cD aj))))))),?_⟩
  have small':=sI hn h4 rt hd
  have parts:∀ {b:Addr} {us:List V} {ts:List Tm},H b=some (.tup us)->bK n H us ts->tdL ts<=d->(mnL ts).length<=2592->∀ {σ':St} {D:Addr},H D=none->(∀ H2,bu H H2->H2 D=some (.lst ((mnL ts).map vN))->Q (.ref D) H2) →
    j7 D [none,none] (Itt K b) (mV 0) (yL K (uX (kO d) [] E0 (sW (xW 0) zZ))) (mV 1) (xW 1) H (fun H2=>Q (.ref D) H2):=by
   intro b us ts hb rl hdl lm σ' D hD hq
   have el:=rl.length
   refine vd (K:=K) (a:=b) (xs:=us) (fun i zs σ' H2=>(∃ u v,σ'=[u,v])/\bu H H2/\H2 D=some (.lst zs)/\zs=(mnL (ts.take i)).map vN) ⟨⟨_,_,rfl⟩,az hD _,ao,by rw[Jb,mnL]; rfl⟩ (fun i zs σ' H2 _ h=>SqT.of (h.2.1 _ _ hb)) ?_ ?_
   ·rintro i zs x σ' H2 hx ⟨⟨u,v,rfl⟩,sm,eD,ez⟩
    obtain⟨t',ht,rt'⟩:=rl.get hx
    refine⟨_,rfl,x,n,t',rfl,rt'.mono sm,Fe (iQ ht) hdl,by lia,hn,fun r H3 s3 fr er=>?_⟩
    have hrD:r≠D:=fun z=>by rw[z,eD] at fr; cases fr
    refine⟨r,rfl,⟨_,SqL.of er⟩,xM (K:=K) (b:=r) (ws:=(mnF t').map vN) (fun j ws σ' H4=>(∃ u,σ'=[some x,u])/\bu H H4/\H4 r=some (.lst ((mnF t').map vN))/\H4 D=some (.lst ws)/\ws=(mnL (ts.take i)++(mnF t').take j).map vN)
     ⟨⟨_,rfl⟩,sm.trans s3,er,s3 _ _ eD,by rw[Jb,Hx]; exact ez⟩ (fun j ws σ' H4 _ h=>SqL.of h.2.2.1) ?_ ?_⟩
    ·rintro j ws y σ' H4 hy ⟨⟨u,rfl⟩,s4,er4,eD4,ew⟩
     obtain⟨m,hm,rfl⟩:=sY hy
     have hlen:ws.length<=2592:=by
      have h1:=Ao (ts:=ts) (i+1)
      rw[sr ht,Ec] at h1
      rw[ew,Eb,Ec,Fi]
      lia
     refine⟨_,rfl,eD4,Hu hlen (by decide),⟨_,rfl⟩,bh s4 hD _,?_,ao,?_⟩
     ·rw[cB hrD]
      exact er4
     ·rw[ew,Fw,hm,← Fg]
      show _=List.map vN ((mnL (ts.take i)++(mnF t').take j)++[m])
      rw[Er (l₁:=mnL (ts.take i)++(mnF t').take j)]
      rfl
    ·rintro ws σ' H4 ⟨⟨u,rfl⟩,s4,er4,eD4,ew⟩
     rw[Eb,Fo,← sr ht] at ew
     exact⟨⟨_,_,rfl⟩,s4,eD4,ew⟩
   ·rintro zs σ' H2 ⟨_,sm,eD,ez⟩
    rw[el,Fo] at ez
    exact hq H2 sm (by rw[eD,ez])
  cases rt with
  | @free a ha =>
   refine⟨_,rfl,a,_,_,_,rfl,rfl,SqT.of ha,aB (k:=0) rfl,?_⟩
   refine⟨_,rfl,rfl,_,rfl,bG (aK (by decide)) ?_⟩
   refine⟨_,rfl,rfl,_,rfl,bG (aK (by decide)) ⟨_,rfl,rfl,_,rfl,bG (aK (by decide)) ?_⟩⟩
   refine⟨_,rfl,rfl,_,rfl,bG (aK (by decide)) ⟨_,rfl,rfl,_,rfl,bG (aK (by decide)) ?_⟩⟩
   exact⟨small (by show 0<=1000; decide),fun r h0=>q r _ (az h0 _) h0 (by rw[ao,mnF]; rfl)⟩
  | @never a ha =>
   refine⟨_,rfl,a,_,_,_,rfl,rfl,SqT.of ha,aB (k:=0) rfl,?_⟩
   refine⟨_,rfl,rfl,_,rfl,bG (aK (by decide)) ?_⟩
   refine⟨_,rfl,rfl,_,rfl,bG (aK (by decide)) ⟨_,rfl,rfl,_,rfl,bG (aK (by decide)) ?_⟩⟩
   refine⟨_,rfl,rfl,_,rfl,bG (aK (by decide)) ⟨_,rfl,rfl,_,rfl,bG (aK (by decide)) ?_⟩⟩
   exact⟨small (by show 0<=1000; decide),fun r h0=>q r _ (az h0 _) h0 (by rw[ao,mnF]; rfl)⟩
  | @gives a i k ha hi k1 k9 =>
   refine⟨_,rfl,a,_,_,_,rfl,rfl,SqT.of ha,aB (k:=0) rfl,?_⟩
   refine⟨_,rfl,rfl,_,rfl,gK rfl ?_⟩
   exact⟨_,rfl,a,_,_,_,rfl,rfl,SqT.of ha,aB (k:=1) rfl,small (by show 1<=1000; decide),fun r h0=>q r _ (az h0 _) h0 (by rw[ao,mnF]; rfl)⟩
  | @sum a b c k ha hb hc hp l20 l2 k1 k99 =>
   refine⟨_,rfl,a,_,_,_,rfl,rfl,SqT.of ha,aB (k:=0) rfl,?_⟩
   refine⟨_,rfl,rfl,_,rfl,bG (aK (by decide)) ?_⟩
   refine⟨_,rfl,rfl,_,rfl,gK rfl (iV ?_)⟩
   exact⟨_,rfl,a,_,_,_,rfl,rfl,SqT.of ha,aB (k:=1) rfl,b,_,rfl,.inr (SqT.of hb),fun r h0=>q r _ (az h0 _) h0 (by rw[ao,mnF])⟩
  | @crowd a b c k mm ha hb hc hp l20 l1 k1 k9 m1 m12 =>
   refine⟨_,rfl,a,_,_,_,rfl,rfl,SqT.of ha,aB (k:=0) rfl,?_⟩
   refine⟨_,rfl,rfl,_,rfl,bG (aK (by decide)) ?_⟩
   refine⟨_,rfl,rfl,_,rfl,bG (aK (by decide)) ⟨_,rfl,rfl,_,rfl,gK rfl ?_⟩⟩
   exact⟨_,rfl,a,_,_,_,rfl,rfl,SqT.of ha,aB (k:=1) rfl,b,_,rfl,.inr (SqT.of hb),fun r h0=>q r _ (az h0 _) h0 (by rw[ao,mnF])⟩
  | @all a b us ts ha hb l2 l6 rl =>
   have hdl:tdL ts<=d:=by rw[Tm.dep] at hd; lia
   rw[mnF] at small'
   refine⟨_,rfl,a,_,_,_,rfl,rfl,SqT.of ha,aB (k:=0) rfl,?_⟩
   refine⟨_,rfl,rfl,_,rfl,bG (aK (by decide)) ?_⟩
   refine⟨_,rfl,rfl,_,rfl,bG (aK (by decide)) ⟨_,rfl,rfl,_,rfl,bG (aK (by decide)) ?_⟩⟩
   refine⟨_,rfl,rfl,_,rfl,gK rfl (iV ?_)⟩
   exact⟨_,rfl,a,_,_,_,rfl,rfl,SqT.of ha,aB (k:=1) rfl,b,rfl,⟨_,SqT.of hb⟩,fun D hD=>parts (σ':=[]) hb rl hdl small' hD fun H2 sm eD=>q D H2 sm hD (by rw[eD,mnF])⟩
  | @any a b us ts ha hb l2 l6 rl =>
   have hdl:tdL ts<=d:=by rw[Tm.dep] at hd; lia
   rw[mnF] at small'
   refine⟨_,rfl,a,_,_,_,rfl,rfl,SqT.of ha,aB (k:=0) rfl,?_⟩
   refine⟨_,rfl,rfl,_,rfl,bG (aK (by decide)) ?_⟩
   refine⟨_,rfl,rfl,_,rfl,bG (aK (by decide)) ⟨_,rfl,rfl,_,rfl,bG (aK (by decide)) ?_⟩⟩
   refine⟨_,rfl,rfl,_,rfl,bG (aK (by decide)) ⟨_,rfl,rfl,_,rfl,gK rfl ?_⟩⟩
   exact⟨_,rfl,a,_,_,_,rfl,rfl,SqT.of ha,aB (k:=1) rfl,b,rfl,⟨_,SqT.of hb⟩,fun D hD=>parts (σ':=[]) hb rl hdl small' hD fun H2 sm eD=>q D H2 sm hD (by rw[eD,mnF])⟩
def nmI (c:List Nat) (ms:List Int):Prop:=ms.Perm (ddI (c.map fun i:Nat=>(i:Int)))/\ms.Pairwise (·<=·)
theorem uv:∀ (ns acc:List Int) (x:Int),x∈ns.foldl Gb acc->x∈acc∨x∈ns
 | [],acc,x,h=>.inl h
 | n::r,acc,x,h=>by
  rw[J3] at h
  rcases uv r _ x h with z | z
  ·unfold Gb at z
   split at z
   ·exact .inl z
   ·rcases List.mem_append.mp z with y | y
    ·exact .inl y
    ·rw[List.mem_singleton.mp y]
     exact .inr Ek
  ·exact .inr (En _ z)
theorem pQ:∀ (n:Nat) (l:List Int),l.Nodup->(∀ x∈l,0<=x/\x < (n:Int))->l.length<=n
 | 0,l,_,h=>by
  cases l with
  | nil=>exact Fq _
  | cons x r =>
   have:=h x Ek
   lia
 | n+1,l,nd,h=>by
  have h1:=pQ n (l.erase (n:Int)) (nd.erase _) fun x hx=>by
   have hx':=List.mem_of_mem_erase hx
   have b:=h x hx'
   have ne:x≠(n:Int):=fun z=>by
    rw[z] at hx
    exact (List.Nodup.mem_erase_iff nd).mp hx |>.1 rfl
   lia
  have h2:l.length<=(l.erase (n:Int)).length+1:=by
   rw[List.length_erase]
   split <;> lia
  lia
theorem z9 {c:List Nat} {n:Nat} (h:∀ i∈c,i < n):(ddI (c.map fun i:Nat=>(i:Int))).length<=n:=by
 rw[sE]
 refine pQ n _ (nU _ [] List.nodup_nil) fun x hx=>?_
 rcases uv _ [] x hx with z | z
 ·cases z
 ·obtain⟨i,hi,rfl⟩:=List.mem_map.mp z
  have:=h i hi
  lia
abbrev qR:Stmt:=top 17
theorem wW:aW ["term"] ["term"] (aG qR):=⟨rfl,rfl,rfl,by decide+kernel,rfl,by decide+kernel,by decide+kernel⟩
def wg:Sp:=fun vs H Q _=>∃ (v:V) (n:Nat) (t:Tm),vs=[v]/\dm n H v t/\t.dep<=4/\n<=12/\∀ (r:Addr) (ms:List Int) (H':Hp),bu H H'->H r=none->nmI (mnF t) ms->H' r=some (.lst (ms.map V.int))->Q (.ref r) H'
theorem xO {k:Nat} (F:Fun K "named" "named" qR f fd) (B:Bt mg)
  (D_mentions:Df P w K mg base "mentions" k ["term"] (kO 4)):dw P w K mg base CX0 (k+1) f fd ["term"] wg:=by
 refine F.ok wW (fun vs H Q E h=>?_) (fun cdv A outer s H vs Q E hr h=>?_)
 ·obtain⟨v,n,t,rfl,_⟩:=h
  rfl
 ·obtain⟨v,n,t,rfl,rt,hd,hn,q⟩:=h
  refine⟨_,(aA (aJ (jN rfl rfl B.sorted_ rfl B.set_ (aa (aV D_mentions hr (aa (pv 0) aj)) aj)))),?_⟩
  refine⟨_,rfl,v,n,t,rfl,rt,hd,by decide,hn,fun r H1 s1 fr er=>?_⟩
  have lm:=sI hn (Ei 4) rt hd
  have ld:=z9 (vz rt)
  refine⟨r,(mnF t).map fun i:Nat=>(i:Int),rfl,SqL.of (by rw[er,iT]),by rw[Eb]; lia,by lia,fun ms pm so l hl=>?_⟩
  exact q l ms _ (s1.trans (az hl _)) (s1.free hl) ⟨pm,so⟩ ao
abbrev iB:Stmt:=top 6
abbrev jL:Stmt:=top 12
abbrev iR:Stmt:=top 13
abbrev dh:Stmt:=top 14
abbrev lD:Stmt:=top 15
theorem oY:aW ["thing","low","high"] ["thing","low","high"] (aG iB):=⟨rfl,rfl,rfl,by decide+kernel,rfl,by decide+kernel,by decide+kernel⟩
theorem eY:aW ["many","thing","fewest","lowest_left","one"] ["many","thing","fewest"] (aG jL):=⟨rfl,rfl,rfl,by decide+kernel,rfl,by decide+kernel,by decide+kernel⟩
theorem oZ:aW ["many","thing","deep"] ["many","thing","deep"] (aG iR):=⟨rfl,rfl,rfl,by decide+kernel,rfl,by decide+kernel,by decide+kernel⟩
theorem eV:aW ["many","thing","deep","kind"] ["many","thing","deep"] (aG dh):=⟨rfl,rfl,rfl,by decide+kernel,rfl,by decide+kernel,by decide+kernel⟩
theorem tE:aW ["many","term"] ["many","term"] (aG lD):=⟨rfl,rfl,rfl,by decide+kernel,rfl,by decide+kernel,by decide+kernel⟩
def isNum:V->Int->Int->Bool
 | .int i,lo,hi=>decide (lo<=i) && decide (i<=hi)
 | _,_,_=>false
inductive NV:V->Prop where
 | int (i:Int):NV (.int i)
 | str (x:Str):NV (.str x)
def iH:Sp:=fun vs H Q _=>∃ (x:V) (lo hi:Int),vs=[x,.int lo,.int hi]/\NV x/\Q (.bl (isNum x lo hi)) H
theorem pZ (F:Fun K "is_number" "is_number" iB f fd) (B:Bt mg) :
  dw P w K mg base CX0 1 f fd ["thing","low","high"] iH:=by
 refine F.ok oY (fun vs H Q E h=>?_) (fun cdv A outer s H vs Q E hr h=>?_)
 ·obtain⟨x,lo,hi,rfl,_⟩:=h
  rfl
 ·obtain⟨x,lo,hi,rfl,pl,q⟩:=h
  refine⟨_,(aA (aJ (dz (aF (r:=n8 K) bN rfl B.isinstance_ aP (aa (pv 0) (aa (gC B.int_ mH) aj))) (dz (z6 (aF (r:=n8 K) bN rfl B.isinstance_ aP (aa (pv 0) (aa (gC B.bool_ qT) aj)))) (dz (cN zM (pv 1) (pv 0) (aM _)) (jb (cN zM (pv 0) (pv 2) (aM _)))))))),?_⟩
  cases pl with
  | int i =>
   refine⟨_,rfl,_,_,_,_,rfl,.int i,c7 _ _,_,rfl,iV ?_⟩
   refine⟨_,rfl,_,_,_,_,rfl,.int i,iG _,_,rfl,_,rfl,iV ?_⟩
   refine⟨_,rfl,_,rfl,_,_,rfl,rfl,_,rfl,?_⟩
   have e:isNum (.int i) lo hi=(decide (lo<=i) && decide (i<=hi)):=rfl
   rw[e] at q
   cases c:decide (lo<=i) with
   | true =>
    rw[c] at q
    exact iV ⟨_,rfl,_,rfl,_,_,rfl,rfl,q⟩
   | false =>
    rw[c] at q
    exact cW q
  | str y=>exact⟨_,rfl,_,_,_,_,rfl,.str y,tY _,_,rfl,cW q⟩
theorem eN {k lo hi:Int} (h1:lo<=k) (h2:k<=hi):isNum (.int k) lo hi=true:=by
 show (decide (lo<=k) && decide (k<=hi))=true
 rw[decide_eq_true h1,decide_eq_true h2]
 rfl
theorem rD {i m:Nat} {lo:Int} (h:lo<=(i:Int)):isNum (.int (i:Int)) lo ((m:Int) - 1)=decide (i < m):=by
 show (decide (lo<=(i:Int)) && decide ((i:Int)<=(m:Int) - 1))=decide (i < m)
 rw[decide_eq_true h,HB]
 exact decide_eq_decide.mpr ⟨fun z=>by lia,fun z=>by lia⟩
def ltF (m:Nat) (c:List Nat):Bool:=c.all fun i=>decide (i < m)
theorem vK (m:Nat) (a b:List Nat):ltF m (a++b)=(ltF m a && ltF m b):=List.all_append
theorem qx {m:Nat} {c:List Nat}:ltF m c=true ↔ ∀ i∈c,i < m:=by
 unfold ltF
 rw[List.all_eq_true]
 exact⟨fun h i hi=>of_decide_eq_true (h i hi),fun h i hi=>decide_eq_true (h i hi)⟩
theorem zU {m i:Nat} {c:List Nat} (h:i∈c) (hm:¬ i < m):ltF m c=false:=by
 cases e:ltF m c with
 | false=>rfl
 | true=>exact absurd (qx.mp e i h) hm
def yr:Sp:=fun vs H Q _=>∃ (b:Addr) (c:List Nat) (m:Nat) (few:Int),vs=[.int (m:Int),.ref b,.int few]/\H b=some (.tup (c.map vN))/\c.Pairwise (· < ·)/\few<=(c.length:Int)/\Q (.bl (ltF m c)) H
theorem qX (F:Fun K "is_crowd" "is_crowd" jL f fd) (B:Bt mg)
  (D_is_number:Df P w K mg base "is_number" 1 ["thing","low","high"] iH):dw P w K mg base CX0 2 f fd ["many","thing","fewest"] yr:=by
 refine F.ok eY (fun vs H Q E h=>?_) (fun cdv A outer s H vs Q E hr h=>?_)
 ·obtain⟨b,c,m,few,rfl,_⟩:=h
  rfl
 ·obtain⟨b,c,m,few,rfl,hb,hp,hf,q⟩:=h
  refine⟨_,(au (bx (PW.pt (iK (cP (cJ (aF (r:=n8 K) bN rfl B.isinstance_ aP (aa (pv 1) (aa (gC B.tuple_ bL) aj))))) (d9 (aD tZ (aF (r:=oh K) bA rfl B.len_ cO (aa (pv 1) aj)) (pv 2) (aM _))))) (aA (aJ iu)) aH)
 (au (bc (i:=3) eY.nd rfl (Ez rfl) aq)
 (au (gP Gs rfl (d7 (pv 1)) (aN (i:=4) eY.nd rfl (Ez rfl)) (au (bx (cP (cJ (aV D_is_number hr (aa (pv 4) (aa (pv 3) (aa (aO fW (pv 0) aq) aj)))))) (aA (aJ iu)) aH)
 (aA (bc (i:=3) eY.nd rfl (Ez rfl) (aO bT (pv 4) aq)))))
 (aA (aJ iu))))),?_⟩
  refine⟨_,rfl,_,_,_,_,rfl,.tup hb,c7 _ _,_,rfl,cW ?_⟩
  refine⟨_,rfl,b,_,rfl,.inr (SqT.of hb),_,rfl,_,_,rfl,rfl,_,rfl,?_⟩
  refine bG (by rw[Eb]; lia) ?_
  refine⟨_,rfl,b,rfl,⟨_,SqT.of hb⟩,nQ (K:=K) (a:=b) (xs:=c.map vN) (fun i σ H2=>H2=H/\∃ (lo:Int) (u:Option V),σ=[some (.int (m:Int)),some (.ref b),some (.int few),some (.int lo),u]/\(∀ x∈c.drop i,lo<=((x:Nat):Int))/\ltF m (c.take i)=true) ⟨rfl,0,_,rfl,fun x _=>by lia,by rw[Jb]; rfl⟩ (fun i σ H2 _ h2=>by rw[h2.1]; exact SqT.of hb) ?_ ?_⟩
  ·rintro i x σ H2 hx ⟨rfl,lo,u,rfl,hlo,hlt⟩
   obtain⟨y,hy,rfl⟩:=sY hx
   have hi:i < c.length:=(List.getElem?_eq_some_iff.mp hy).1
   have ey:c[i]=y:=(List.getElem?_eq_some_iff.mp hy).2
   have ed:c.drop i=y::c.drop (i+1):=by rw[JB hi,ey]
   have hl:=hlo y (by rw[ed]; exact Ek)
   refine⟨_,rfl,_,rfl,_,rfl,_,_,rfl,rfl,vN y,lo,(m:Int) - 1,rfl,.int _,_,rfl,?_⟩
   rw[show vN y=V.int (y:Int) from rfl,rD hl]
   by_cases hm:y < m
   ·rw[decide_eq_true hm]
    refine cW ⟨_,rfl,_,_,rfl,rfl,rfl,(y:Int)+1,_,rfl,fun x hx=>?_,?_⟩
    ·have h1:=hp.drop (i:=i)
     rw[ed,Gy] at h1
     have:=h1.1 x hx
     lia
    ·rw[Fw,hy,vK,hlt,HB]
     show (decide (y < m) && true)=true
     rw[decide_eq_true hm]
     rfl
   ·rw[decide_eq_false hm]
    refine iV ?_
    rw[zU (Fj hy) hm] at q
    exact q
  ·rintro σ H2 ⟨rfl,lo,u,rfl,hlo,hlt⟩
   rw[Eb,Fo] at hlt
   rw[hlt] at q
   exact q
theorem ne0 {n:Nat} (h:n≠0):¬ V.int (n:Int)=V.int 0:=fun z=>h (by injection z with z; lia)
def gM (k:Nat):Sp:=fun vs H Q _=>∃ (v:V) (m dp:Nat),vs=[.int (m:Int),v,.int (dp:Int)]/\1<=dp/\dp<=k ∧
 ((∃ (n:Nat) (t:Tm),dm n H v t/\t.dep<=dp/\∀ H',bu H H'->Q (.bl (ltF m (mnF t))) H')∨(∃ e:Addr,v = .ref e/\H e=some (.tup [])/\Q (.bl false) H))
def vH (k:Nat):Sp:=fun vs H Q _=>∃ (b:Addr) (us:List V) (ts:List Tm) (n m dp:Nat),vs=[.int (m:Int),.ref b,.int (dp:Int)]/\dp<=k/\H b=some (.tup us)/\2<=us.length/\us.length<=6/\bK n H us ts/\tdL ts<=dp/\1<=dp/\∀ H',bu H H'->Q (.bl (ltF m (mnL ts))) H'
theorem uo (m:Nat):∀ ts:List Tm,(ts.map fun t=>ltF m (mnF t)).all (fun b=>b)=ltF m (mnL ts)
 | []=>by rw[mnL]; rfl
 | t::r=>by
  have ih:=uo m r
  rw[mnL,vK,← ih]
  rfl
theorem d8 {n k:Nat} {t1 t2:K3} (F:Fun K "are_parts" "are_parts" iR f fd) (B:Bt mg) (c_FEWEST_PARTS:mg "FEWEST_PARTS" = some (.int 2 t1)) (c_MOST_PARTS:mg "MOST_PARTS" = some (.int 6 t2))
  (hk:1<=k) (D_is_number:Df P w K mg base "is_number" 1 ["thing","low","high"] iH) (D_is_term_within:Df P w K mg base "is_term_within" k ["many","thing","deep"] (gM n)):dw P w K mg base CX0 (k+1) f fd ["many","thing","deep"] (vH n):=by
 refine F.ok oZ (fun vs H Q E h=>?_) (fun cdv A outer s H vs Q E hr h=>?_)
 ·obtain⟨b,us,ts,n0,m,dp,rfl,_⟩:=h
  rfl
 ·obtain⟨b,us,ts,n0,m,dp,rfl,hdp,hb,l2,l6,rl,hd,d1,q⟩:=h
  refine⟨_,(au (bx (PW.pt (iK (cP (cJ (aF (r:=n8 K) bN rfl B.isinstance_ aP (aa (pv 1) (aa (gC B.tuple_ bL) aj))))) (d9 (cP (cJ (aV D_is_number hr (aa (aF (r:=oh K) bA rfl B.len_ cO (aa (pv 1) aj)) (aa (jm c_FEWEST_PARTS) (aa (jm c_MOST_PARTS) aj))))))))) (aA (aJ iu)) aH)
 (aA (aJ (aF (r:=wF K) (km rfl) rfl B.all_ uG (aa (cg (L:=["part"]) (F:=["many","deep"]) (cap:=[0,2]) rfl (bR rfl rfl (by kernel_rfl)) (d7 (pv 1)) (fun _ _ _ _ _=>(aN (i:=0) (bD (by decide+kernel)) rfl (Ez rfl))) (fun _ _ _ _ _=>bU) (fun _ _ _ _ _=>(aV D_is_term_within hr (aa (pv 1) (aa (pv 0) (aa (pv 2) aj)))))) aj))))),?_⟩
  have el:=rl.length
  refine⟨_,rfl,_,_,_,_,rfl,.tup hb,c7 _ _,_,rfl,cW ?_⟩
  refine⟨_,rfl,b,_,rfl,.inr (SqT.of hb),.int (us.length:Int),2,6,rfl,.int _,_,rfl,?_⟩
  rw[eN (by lia) (by lia)]
  refine cW ⟨_,rfl,b,rfl,⟨_,SqT.of hb⟩,fun D hD=>cY (K:=K) (a:=b) (xs:=us) (fun i zs σ' H2=>(∃ u,σ'=[u,some (.int (m:Int)),some (.int (dp:Int))])/\zs=((ts.take i).map fun t=>ltF m (mnF t)).map V.bl/\bu H H2/\H2 D=some (.lst zs))
   ⟨⟨_,rfl⟩,rfl,az hD _,ao⟩ (fun i zs σ' H2 _ h2=>⟨sV h2.2.2.1 (SqT.of hb),h2.2.2.2⟩) ?_ ?_⟩
  ·rintro i zs x σ' H2 hx ⟨⟨u,rfl⟩,e1,sm,hDl⟩
   have hi:i < us.length:=(List.getElem?_eq_some_iff.mp hx).1
   obtain⟨t,ht,rt⟩:=rl.get hx
   refine gT ?_
   refine⟨_,rfl,_,rfl,_,rfl,x,m,dp,rfl,d1,hdp,.inl ⟨n0,t,rt.mono sm,Fe (iQ ht) hd,fun H3 s3=>⟨s3 _ _ hDl,?_,⟨_,rfl⟩,?_,bh (sm.trans s3) hD _,ao⟩⟩⟩
   ·rw[e1,Eb,Eb,Fi]
    exact aU (by lia)
   ·rw[e1,Fw,ht,Er,Er]
    rfl
  ·rintro zs σ' H2 ⟨_,e1,sm,hDl⟩
   rw[el,Fo] at e1
   refine⟨D,ts.map fun t=>ltF m (mnF t),rfl,SqL.of (by rw[hDl,e1]),?_⟩
   rw[uo]
   exact q H2 sm
theorem qU:dw P w K mg base CX0 1 f fd ["many","thing","deep"] (gM 0):=by
 have no:∀ vs H Q E,¬ gM 0 vs H Q E:=fun vs H Q E h=>by
  obtain⟨v,m,dp,_,h1,h2,_⟩:=h
  lia
 exact⟨fun vs H Q E h=>absurd h (no vs H Q E),fun A outer s H args us vs Q E _ _ _ _ h=>absurd h (no vs H Q E)⟩
theorem cA {n k:Nat} {t1 t2 t3:K3} (F:Fun K "is_term_within" "is_term_within" dh f fd) (B:Bt mg)
  (c_MOST_STEP:mg "MOST_STEP" = some (.int 9 t1)) (c_MOST_SUM:mg "MOST_SUM" = some (.int 99 t2)) (c_MOST_FOLK:mg "MOST_FOLK" = some (.int 12 t3)) (hk:2<=k) (D_is_number:Df P w K mg base "is_number" 1 ["thing","low","high"] iH) (D_is_crowd:Df P w K mg base "is_crowd" 2 ["many","thing","fewest"] yr)
  (D_are_parts:Df P w K mg base "are_parts" k ["many","thing","deep"] (vH n)):dw P w K mg base CX0 (k+1) f fd ["many","thing","deep"] (gM (n+1)):=by
 refine F.ok eV (fun vs H Q E h=>?_) (fun cdv A outer s H vs Q E hr h=>?_)
 ·obtain⟨v,m,dp,rfl,_⟩:=h
  rfl
 ·obtain⟨v,m,dp,rfl,d1,dk,h⟩:=h
  refine⟨_,(au (bx (PW.pt (iK (aD tZ (pv 2) aq (aM _)) (iK (cP (cJ (aF (r:=n8 K) bN rfl B.isinstance_ aP (aa (pv 1) (aa (gC B.tuple_ bL) aj))))) (d9 (aD bJ (aF (r:=oh K) bA rfl B.len_ cO (aa (pv 1) aj)) aq (aM _)))))) (aA (aJ iu)) aH)
 (au (bc (i:=3) eV.nd rfl (Ez rfl) (aR (r:=dI K) aX (pv 1) aq (fun _ _=>rfl)))
 (au (bx (PW.pt (iK (aD bJ (pv 3) aC (aM _)) (d9 (aD bJ (pv 3) aC (aM _))))) (aA (aJ (cN bJ (aF (r:=oh K) bA rfl B.len_ cO (aa (pv 1) aj)) aq (aM _)))) aH)
 (au (bx (aD bJ (pv 3) aC (aM _)) (aA (aJ (dz (cN bJ (aF (r:=oh K) bA rfl B.len_ cO (aa (pv 1) aj)) aq (aM _)) (dz (aV D_is_number hr (aa (aR (r:=dI K) aX (pv 1) aq (fun _ _=>rfl)) (aa aq (aa (aO fW (pv 0) aq) aj)))) (jb (aV D_is_number hr (aa (aR (r:=dI K) aX (pv 1) aq (fun _ _=>rfl)) (aa aq (aa (jm c_MOST_STEP) aj))))))))) aH)
 (au (bx (aD bJ (pv 3) aC (aM _)) (aA (aJ (dz (cN bJ (aF (r:=oh K) bA rfl B.len_ cO (aa (pv 1) aj)) aq (aM _)) (dz (aV D_is_crowd hr (aa (pv 0) (aa (aR (r:=dI K) aX (pv 1) aq (fun _ _=>rfl)) (aa aq aj)))) (jb (aV D_is_number hr (aa (aR (r:=dI K) aX (pv 1) aq (fun _ _=>rfl)) (aa aq (aa (jm c_MOST_SUM) aj))))))))) aH)
 (au (bx (aD bJ (pv 3) aC (aM _)) (au (bx (PW.pt (iK (aD wk (aF (r:=oh K) bA rfl B.len_ cO (aa (pv 1) aj)) aq (aM _)) (d9 (cP (cJ (aV D_is_crowd hr (aa (pv 0) (aa (aR (r:=dI K) aX (pv 1) aq (fun _ _=>rfl)) (aa aq aj))))))))) (aA (aJ iu)) aH)
 (aA (aJ (dz (aV D_is_number hr (aa (aR (r:=dI K) aX (pv 1) aq (fun _ _=>rfl)) (aa aq (aa (jm c_MOST_STEP) aj)))) (jb (aV D_is_number hr (aa (aR (r:=dI K) aX (pv 1) aq (fun _ _=>rfl)) (aa aq (aa (jm c_MOST_FOLK) aj))))))))) aH)
 (au (bx (PW.pt (iK (aD bJ (pv 3) aC (aM _)) (d9 (aD bJ (pv 3) aC (aM _))))) (aA (aJ (dz (cN bJ (aF (r:=oh K) bA rfl B.len_ cO (aa (pv 1) aj)) aq (aM _)) (jb (aV D_are_parts hr (aa (pv 0) (aa (aR (r:=dI K) aX (pv 1) aq (fun _ _=>rfl)) (aa (aO fW (pv 2) aq) aj)))))))) aH)
 (aA (aJ iu))))))))),?_⟩
  refine⟨_,rfl,_,_,rfl,rfl,_,rfl,bG (by lia) ?_⟩
  rcases h with⟨n0,t,rt,hd,q⟩ | ⟨e,rfl,he,q⟩
  ·have q0:=q H (bu.refl H)
   cases rt with
   | @free a ha =>
    refine⟨_,rfl,_,_,_,_,rfl,.tup ha,c7 _ _,_,rfl,cW ⟨_,rfl,a,_,rfl,.inr (SqT.of ha),rfl,_,rfl,bG (ne0 (Ho _)) ?_⟩⟩
    refine⟨_,rfl,a,_,_,_,rfl,rfl,SqT.of ha,aB (k:=0) rfl,?_⟩
    refine⟨_,rfl,rfl,_,rfl,gK rfl (iV ?_)⟩
    rw[mnF] at q0
    exact⟨_,rfl,a,_,rfl,.inr (SqT.of ha),rfl,q0⟩
   | @never a ha =>
    refine⟨_,rfl,_,_,_,_,rfl,.tup ha,c7 _ _,_,rfl,cW ⟨_,rfl,a,_,rfl,.inr (SqT.of ha),rfl,_,rfl,bG (ne0 (Ho _)) ?_⟩⟩
    refine⟨_,rfl,a,_,_,_,rfl,rfl,SqT.of ha,aB (k:=0) rfl,?_⟩
    refine⟨_,rfl,rfl,_,rfl,bG (aK (by decide)) ⟨_,rfl,rfl,_,rfl,gK rfl ?_⟩⟩
    rw[mnF] at q0
    exact⟨_,rfl,a,_,rfl,.inr (SqT.of ha),rfl,q0⟩
   | @gives a i kk ha hi k1 k9 =>
    refine⟨_,rfl,_,_,_,_,rfl,.tup ha,c7 _ _,_,rfl,cW ⟨_,rfl,a,_,rfl,.inr (SqT.of ha),rfl,_,rfl,bG (ne0 (Ho _)) ?_⟩⟩
    refine⟨_,rfl,a,_,_,_,rfl,rfl,SqT.of ha,aB (k:=0) rfl,?_⟩
    refine⟨_,rfl,rfl,_,rfl,bG (aK (by decide)) ⟨_,rfl,rfl,_,rfl,bG (aK (by decide)) ?_⟩⟩
    refine⟨_,rfl,rfl,_,rfl,gK rfl ?_⟩
    refine⟨_,rfl,a,_,rfl,.inr (SqT.of ha),rfl,_,rfl,gK rfl ?_⟩
    refine⟨_,rfl,a,_,_,_,rfl,rfl,SqT.of ha,aB (k:=1) rfl,_,rfl,_,_,rfl,rfl,vN i,0,(m:Int) - 1,rfl,.int _,_,rfl,?_⟩
    rw[show vN i=V.int (i:Int) from rfl,rD (by lia)]
    rw[mnF] at q0
    have e:ltF m [i]=decide (i < m):=by
     show (decide (i < m) && true)=_
     rw[Bool.and_true]
    rw[e] at q0
    refine qL (fun c=>?_) (fun c=>?_)
    ·rw[c] at q0
     refine⟨_,rfl,a,_,_,_,rfl,rfl,SqT.of ha,aB (k:=2) rfl,.int kk,1,9,rfl,.int _,?_⟩
     rw[eN k1 k9]
     exact q0
    ·rw[Bool.eq_false_iff.mpr c] at q0
     exact q0
   | @sum a b c kk ha hb hc hp l20 l2 k1 k99 =>
    refine⟨_,rfl,_,_,_,_,rfl,.tup ha,c7 _ _,_,rfl,cW ⟨_,rfl,a,_,rfl,.inr (SqT.of ha),rfl,_,rfl,bG (ne0 (Ho _)) ?_⟩⟩
    refine⟨_,rfl,a,_,_,_,rfl,rfl,SqT.of ha,aB (k:=0) rfl,?_⟩
    refine⟨_,rfl,rfl,_,rfl,bG (aK (by decide)) ⟨_,rfl,rfl,_,rfl,bG (aK (by decide)) ?_⟩⟩
    refine⟨_,rfl,rfl,_,rfl,bG (aK (by decide)) ?_⟩
    refine⟨_,rfl,rfl,_,rfl,gK rfl ?_⟩
    refine⟨_,rfl,a,_,rfl,.inr (SqT.of ha),rfl,_,rfl,gK rfl ?_⟩
    refine⟨_,rfl,_,rfl,a,_,_,_,rfl,rfl,SqT.of ha,aB (k:=1) rfl,b,c,m,2,rfl,hb,hp,by lia,_,rfl,?_⟩
    rw[mnF] at q0
    refine qL (fun c=>?_) (fun c=>?_)
    ·rw[c] at q0
     refine⟨_,rfl,a,_,_,_,rfl,rfl,SqT.of ha,aB (k:=2) rfl,.int kk,1,99,rfl,.int _,?_⟩
     rw[eN k1 k99]
     exact q0
    ·rw[Bool.eq_false_iff.mpr c] at q0
     exact q0
   | @crowd a b c kk mm ha hb hc hp l20 l1 k1 k9 m1 m12 =>
    refine⟨_,rfl,_,_,_,_,rfl,.tup ha,c7 _ _,_,rfl,cW ⟨_,rfl,a,_,rfl,.inr (SqT.of ha),rfl,_,rfl,bG (ne0 (Ho _)) ?_⟩⟩
    refine⟨_,rfl,a,_,_,_,rfl,rfl,SqT.of ha,aB (k:=0) rfl,?_⟩
    refine⟨_,rfl,rfl,_,rfl,bG (aK (by decide)) ⟨_,rfl,rfl,_,rfl,bG (aK (by decide)) ?_⟩⟩
    refine⟨_,rfl,rfl,_,rfl,bG (aK (by decide)) ?_⟩
    refine⟨_,rfl,rfl,_,rfl,bG (aK (by decide)) ?_⟩
    refine⟨_,rfl,rfl,_,rfl,gK rfl ?_⟩
    refine⟨_,rfl,a,_,rfl,.inr (SqT.of ha),rfl,_,rfl,fB rfl ?_⟩
    refine⟨_,rfl,_,rfl,a,_,_,_,rfl,rfl,SqT.of ha,aB (k:=1) rfl,b,c,m,1,rfl,hb,hp,by lia,_,rfl,?_⟩
    rw[mnF] at q0
    cases z:ltF m c with
    | false =>
     rw[z] at q0
     exact iV q0
    | true =>
     rw[z] at q0
     refine cW ⟨_,rfl,a,_,_,_,rfl,rfl,SqT.of ha,aB (k:=2) rfl,.int kk,1,9,rfl,.int _,_,rfl,?_⟩
     rw[eN k1 k9]
     refine iV ⟨_,rfl,a,_,_,_,rfl,rfl,SqT.of ha,aB (k:=3) rfl,.int mm,1,12,rfl,.int _,?_⟩
     rw[eN m1 m12]
     exact q0
   | @all a b us ts ha hb l2 l6 rl =>
    have hdl:tdL ts+1<=dp:=by rw[Tm.dep] at hd; exact hd
    have t1:=m6 rl l2
    refine⟨_,rfl,_,_,_,_,rfl,.tup ha,c7 _ _,_,rfl,cW ⟨_,rfl,a,_,rfl,.inr (SqT.of ha),rfl,_,rfl,bG (ne0 (Ho _)) ?_⟩⟩
    refine⟨_,rfl,a,_,_,_,rfl,rfl,SqT.of ha,aB (k:=0) rfl,?_⟩
    refine⟨_,rfl,rfl,_,rfl,bG (aK (by decide)) ⟨_,rfl,rfl,_,rfl,bG (aK (by decide)) ?_⟩⟩
    refine⟨_,rfl,rfl,_,rfl,bG (aK (by decide)) ?_⟩
    refine⟨_,rfl,rfl,_,rfl,bG (aK (by decide)) ?_⟩
    refine⟨_,rfl,rfl,_,rfl,bG (aK (by decide)) ?_⟩
    refine⟨_,rfl,rfl,_,rfl,gK rfl (iV ?_)⟩
    refine⟨_,rfl,a,_,rfl,.inr (SqT.of ha),rfl,_,rfl,gK rfl ?_⟩
    refine⟨_,rfl,_,rfl,a,_,_,_,rfl,rfl,SqT.of ha,aB (k:=1) rfl,_,rfl,_,_,rfl,rfl,b,us,ts,n0,m,dp - 1,?_,by lia,hb,l2,l6,rl,by lia,by lia,fun H' s'=>?_⟩
    ·rw[show ((dp - 1:Nat):Int)=(dp:Int) - 1 by lia]
     rfl
    ·have q1:=q H' s'
     rw[mnF] at q1
     exact q1
   | @any a b us ts ha hb l2 l6 rl =>
    have hdl:tdL ts+1<=dp:=by rw[Tm.dep] at hd; exact hd
    have t1:=m6 rl l2
    refine⟨_,rfl,_,_,_,_,rfl,.tup ha,c7 _ _,_,rfl,cW ⟨_,rfl,a,_,rfl,.inr (SqT.of ha),rfl,_,rfl,bG (ne0 (Ho _)) ?_⟩⟩
    refine⟨_,rfl,a,_,_,_,rfl,rfl,SqT.of ha,aB (k:=0) rfl,?_⟩
    refine⟨_,rfl,rfl,_,rfl,bG (aK (by decide)) ⟨_,rfl,rfl,_,rfl,bG (aK (by decide)) ?_⟩⟩
    refine⟨_,rfl,rfl,_,rfl,bG (aK (by decide)) ?_⟩
    refine⟨_,rfl,rfl,_,rfl,bG (aK (by decide)) ?_⟩
    refine⟨_,rfl,rfl,_,rfl,bG (aK (by decide)) ?_⟩
    refine⟨_,rfl,rfl,_,rfl,bG (aK (by decide)) ⟨_,rfl,rfl,_,rfl,gK rfl ?_⟩⟩
    refine⟨_,rfl,a,_,rfl,.inr (SqT.of ha),rfl,_,rfl,gK rfl ?_⟩
    refine⟨_,rfl,_,rfl,a,_,_,_,rfl,rfl,SqT.of ha,aB (k:=1) rfl,_,rfl,_,_,rfl,rfl,b,us,ts,n0,m,dp - 1,?_,by lia,hb,l2,l6,rl,by lia,by lia,fun H' s'=>?_⟩
    ·rw[show ((dp - 1:Nat):Int)=(dp:Int) - 1 by lia]
     rfl
    ·have q1:=q H' s'
     rw[mnF] at q1
     exact q1
  ·refine⟨_,rfl,_,_,_,_,rfl,.tup he,c7 _ _,_,rfl,cW ⟨_,rfl,e,_,rfl,.inr (SqT.of he),rfl,_,rfl,gK rfl q⟩⟩
def nO:Sp:=fun vs H Q _=>∃ (v:V) (m:Nat),vs=[.int (m:Int),v] ∧
 ((∃ (n:Nat) (t:Tm),dm n H v t/\t.dep<=4/\∀ H',bu H H'->Q (.bl (ltF m (mnF t))) H')∨(∃ e:Addr,v = .ref e/\H e=some (.tup [])/\Q (.bl false) H))
theorem t8 {k:Nat} {t1:K3} (F:Fun K "is_term" "is_term" lD f fd) (B:Bt mg) (c_MOST_DEPTH:mg "MOST_DEPTH" = some (.int 4 t1))
  (D_is_term_within:Df P w K mg base "is_term_within" k ["many","thing","deep"] (gM 4)):dw P w K mg base CX0 (k+1) f fd ["many","term"] nO:=by
 refine F.ok tE (fun vs H Q E h=>?_) (fun cdv A outer s H vs Q E hr h=>?_)
 ·obtain⟨v,m,rfl,_⟩:=h
  rfl
 ·obtain⟨v,m,rfl,h⟩:=h
  refine⟨_,(aA (aJ (aV D_is_term_within hr (aa (pv 0) (aa (pv 1) (aa (jm c_MOST_DEPTH) aj)))))),?_⟩
  exact⟨_,rfl,_,rfl,v,m,4,rfl,by decide,by decide,h⟩
inductive Rg where
 | rung (k:Int) (t:Tm) | bad
inductive ik (n:Nat) (H:Hp):V->Rg->Prop where
 | rung {r:Addr} {k:Int} {v:V} {t:Tm}:H r=some (.tup [.int k,v])->dm n H v t->t.dep<=4->ik n H (.ref r) (.rung k t)
 | odd {r:Addr} {xs:List V}:H r=some (.tup xs)->xs.length≠2->ik n H (.ref r) .bad
 | text {r:Addr} {x:Str} {v:V}:H r=some (.tup [.str x,v])->ik n H (.ref r) .bad
 | hollow {r e:Addr} {k:Int}:H r=some (.tup [.int k,.ref e])->H e=some (.tup [])->ik n H (.ref r) .bad
theorem ik.bW {n:Nat} {H H':Hp} {v:V} {g:Rg} (e:∀ a xs,H a=some (HO.tup xs)->H' a=some (HO.tup xs)):ik n H v g->ik n H' v g
 | .rung h t d=>.rung (e _ _ h) (t.bW e) d
 | .odd h l=>.odd (e _ _ h) l
 | .text h=>.text (e _ _ h)
 | .hollow h h2=>.hollow (e _ _ h) (e _ _ h2)
theorem ik.mono {n:Nat} {H H':Hp} {v:V} {g:Rg} (e:bu H H') (h:ik n H v g):ik n H' v g:=h.bW fun a xs q=>e a _ q
inductive iy (n:Nat) (H:Hp):List V->List Rg->Prop where
 | nil:iy n H [] []
 | cons {v:V} {g:Rg} {vs:List V} {gs:List Rg}:ik n H v g->iy n H vs gs->iy n H (v::vs) (g::gs)
theorem iy.bW {n:Nat} {H H':Hp} (e:∀ a xs,H a=some (HO.tup xs)->H' a=some (HO.tup xs)):∀ {vs:List V} {gs:List Rg},iy n H vs gs->iy n H' vs gs
 | _,_,.nil=>.nil
 | _,_,.cons h r=>.cons (h.bW e) (iy.bW e r)
theorem iy.length {n:Nat} {H:Hp}:∀ {vs:List V} {gs:List Rg},iy n H vs gs->vs.length=gs.length
 | _,_,.nil=>rfl
 | _,_,.cons _ r=>by rw[El,El,iy.length r]
theorem iy.get {n:Nat} {H:Hp}:∀ {vs:List V} {gs:List Rg} {i:Nat} {v:V},iy n H vs gs->vs[i]? = some v->∃ g,gs[i]? = some g/\ik n H v g
 | _,_,_,_,.nil,h=>by simp at h
 | _,_,0,_,.cons h _,e=>by
  cases (show some _=some _ from e)
  exact⟨_,rfl,h⟩
 | _,_,i+1,_,.cons _ r,e=>by
  obtain⟨g,e1,e2⟩:=iy.get (i:=i) r (by simpa using e)
  exact⟨g,by simpa using e1,e2⟩
def rgF (m who:Nat) (lo:Int):Rg->Bool
 | .rung k t=>(decide (lo<=k) && decide (k<=9)) && (ltF m (mnF t) && !decide (who∈mnF t))
 | .bad=>false
def rgK:Rg->Int
 | .rung k _=>k
 | .bad=>0
def plF (m who:Nat):Int->List Rg->Bool
 | _,[]=>true
 | lo,g::r=>rgF m who lo g && plF m who (rgK g+1) r
def Bq (m who:Nat) (gs:List Rg):Bool:=(decide (1<=gs.length) && decide (gs.length<=9)) && plF m who 1 gs
theorem rN (x:Int):∀ ns:List Int,inV (.int x) (ns.map V.int)=decide (x∈ns)
 | []=>by rw[decide_eq_false (by simp)]; rfl
 | n::r=>by
  have ih:=rN x r
  show (eqV (.int n) (.int x) || inV (.int x) (r.map V.int))=_
  rw[ih]
  have e:eqV (.int n) (.int x)=(n == x):=rfl
  rw[e,Jq]
  simp only[Lk,decide_eq_true_eq,GD,beq_iff_eq]
  exact⟨fun h=>h.elim (fun z=>.inl z.symm) .inr,fun h=>h.elim (fun z=>.inl z.symm) .inr⟩
theorem Ah {c:List Nat} {ms:List Int} (h:nmI c ms) (x:Nat):(x:Int)∈ms ↔ x∈c:=by
 obtain⟨p,_⟩:=h
 rw[p.mem_iff,sE,vG]
 constructor
 ·rintro (h | h)
  ·cases h
  ·obtain⟨y,hy,e⟩:=List.mem_map.mp h
   have:x=y:=by lia
   rw[this]
   exact hy
 ·exact fun h=>.inr (List.mem_map.mpr ⟨x,h,rfl⟩)
theorem xK (ns:List Int):(ns.map V.int).all mR=true:=by
 rw[List.all_map]
 exact List.all_eq_true.mpr fun _ _=>rfl
abbrev lA:Stmt:=top 20
abbrev iJ:Stmt:=top 21
theorem jK:aW ["many","one","thing","lowest_step","step","term"] ["many","one","thing","lowest_step"] (aG lA):=⟨rfl,rfl,rfl,by decide+kernel,rfl,by decide+kernel,by decide+kernel⟩
theorem dU:aW ["many","one","thing","lowest_step","rung"] ["many","one","thing"] (aG iJ):=⟨rfl,rfl,rfl,by decide+kernel,rfl,by decide+kernel,by decide+kernel⟩
def rK:Sp:=fun vs H Q _=>∃ (v:V) (g:Rg) (n m who:Nat) (lo:Int),vs=[.int (m:Int),.int (who:Int),v,.int lo]/\ik n H v g/\n<=12/\∀ H',bu H H'->Q (.bl (rgF m who lo g)) H'
theorem ne2 {n:Nat} (h:n≠2):(!decide (V.int (n:Int)=V.int 2))=true:=by
 rw[decide_eq_false fun z=>h (by injection z with z; lia)]
 rfl
theorem ud {k:Nat} {t1:K3} (F:Fun K "is_rung" "is_rung" lA f fd) (B:Bt mg) (c_MOST_STEP:mg "MOST_STEP" = some (.int 9 t1)) (hk:5<=k)
  (D_is_number:Df P w K mg base "is_number" 1 ["thing","low","high"] iH) (D_is_term:Df P w K mg base "is_term" k ["many","term"] nO) (D_named:Df P w K mg base "named" 5 ["term"] wg):dw P w K mg base CX0 (k+1) f fd ["many","one","thing","lowest_step"] rK:=by
 refine F.ok jK (fun vs H Q E h=>?_) (fun cdv A outer s H vs Q E hr h=>?_)
 ·obtain⟨v,g,n,m,who,lo,rfl,_⟩:=h
  rfl
 ·obtain⟨v,g,n,m,who,lo,rfl,rg,hn,q⟩:=h
  refine⟨_,(au (bx (PW.pt (iK (cP (cJ (aF (r:=n8 K) bN rfl B.isinstance_ aP (aa (pv 2) (aa (gC B.tuple_ bL) aj))))) (d9 (aD wk (aF (r:=oh K) bA rfl B.len_ cO (aa (pv 2) aj)) aq (aM _))))) (aA (aJ iu)) aH)
 (au (sO (pv 2) (eZ (K:=K) 2 rfl rfl (bz (aN (i:=4) jK.nd rfl (Ez rfl)) (bz (aN (i:=5) jK.nd rfl (Ez rfl)) fC))))
 (aA (aJ (dz (aV D_is_number hr (aa (pv 4) (aa (pv 3) (aa (jm c_MOST_STEP) aj)))) (dz (aV D_is_term hr (aa (pv 0) (aa (pv 5) aj))) (jb (cN (r:=rIn K true) pI (pv 1) (aV D_named hr (aa (pv 5) aj)) rfl)))))))),?_⟩
  have q0:=q H (bu.refl H)
  cases rg with
  | @rung r kk u t hr0 rt hd =>
   refine⟨_,rfl,_,_,_,_,rfl,.tup hr0,c7 _ _,_,rfl,cW ⟨_,rfl,r,_,rfl,.inr (SqT.of hr0),rfl,_,rfl,fB rfl ?_⟩⟩
   refine⟨_,rfl,r,_,rfl,SqT.of hr0,rfl,_,_,rfl,_,_,rfl,rfl,?_⟩
   refine⟨_,rfl,_,rfl,.int kk,lo,9,rfl,.int _,_,rfl,?_⟩
   have er:rgF m who lo (.rung kk t)=(isNum (.int kk) lo 9 && (ltF m (mnF t) && !decide (who∈mnF t))):=rfl
   rw[er] at q q0
   refine qL (fun c=>?_) (fun c=>?_)
   ·rw[c,HB] at q
    refine⟨_,rfl,_,rfl,u,m,rfl,.inl ⟨n,t,rt,hd,fun H1 s1=>⟨_,rfl,?_⟩⟩⟩
    refine qL (fun c2=>?_) (fun c2=>?_)
    ·rw[c2,HB] at q
     refine⟨_,rfl,_,rfl,u,n,t,rfl,rt.mono s1,hd,hn,fun r1 ms H2 s2 f2 nm e2=>?_⟩
     refine⟨r1,_,rfl,.inl (SqL.of e2),rfl,xK ms,?_⟩
     have q':=q H2 (s1.trans s2)
     rw[show (decide (who∈mnF t))=inV (.int (who:Int)) (ms.map V.int) by rw[rN]; exact decide_eq_decide.mpr (Ah nm who).symm] at q'
     exact q'
    ·have q':=q H1 s1
     rw[Bool.eq_false_iff.mpr c2,Jz] at q'
     exact q'
   ·rw[Bool.eq_false_iff.mpr c,Jz] at q0
    exact q0
  | @odd r xs hr0 hl =>
   exact⟨_,rfl,_,_,_,_,rfl,.tup hr0,c7 _ _,_,rfl,cW ⟨_,rfl,r,_,rfl,.inr (SqT.of hr0),rfl,_,rfl,wC (ne2 hl) q0⟩⟩
  | @text r x u hr0 =>
   refine⟨_,rfl,_,_,_,_,rfl,.tup hr0,c7 _ _,_,rfl,cW ⟨_,rfl,r,_,rfl,.inr (SqT.of hr0),rfl,_,rfl,fB rfl ?_⟩⟩
   refine⟨_,rfl,r,_,rfl,SqT.of hr0,rfl,_,_,rfl,_,_,rfl,rfl,?_⟩
   exact⟨_,rfl,_,rfl,.str x,lo,9,rfl,.str _,_,rfl,cW q0⟩
  | @hollow r e kk hr0 he =>
   refine⟨_,rfl,_,_,_,_,rfl,.tup hr0,c7 _ _,_,rfl,cW ⟨_,rfl,r,_,rfl,.inr (SqT.of hr0),rfl,_,rfl,fB rfl ?_⟩⟩
   refine⟨_,rfl,r,_,rfl,SqT.of hr0,rfl,_,_,rfl,_,_,rfl,rfl,?_⟩
   refine⟨_,rfl,_,rfl,.int kk,lo,9,rfl,.int _,_,rfl,?_⟩
   refine qL (fun c=>?_) (fun c=>?_)
   ·exact⟨_,rfl,_,rfl,.ref e,m,rfl,.inr ⟨e,rfl,he,_,rfl,cW q0⟩⟩
   ·exact q0
def my:Sp:=fun vs H Q _=>∃ (a:Addr) (us:List V) (gs:List Rg) (n m who:Nat),vs=[.int (m:Int),.int (who:Int),.ref a]/\H a=some (.tup us)/\iy n H us gs/\n<=12/\us.length<=20/\1<=m/\∀ H',bu H H'->Q (.bl (Bq m who gs)) H'
theorem ik.good {n:Nat} {H:Hp} {v:V} {g:Rg} {m who:Nat} {lo:Int} (h:ik n H v g) (e:rgF m who lo g=true):∃ r kk u t,v = .ref r/\H r=some (.tup [.int kk,u])/\dm n H u t/\t.dep<=4/\g = .rung kk t:=by
 cases h with
 | rung h1 h2 h3=>exact⟨_,_,_,_,rfl,h1,h2,h3,rfl⟩
 | odd=>cases e
 | text=>cases e
 | hollow=>cases e
theorem pH {k:Nat} {t1:K3} (F:Fun K "is_pledge" "is_pledge" iJ f fd) (B:Bt mg) (c_MOST_RUNGS:mg "MOST_RUNGS" = some (.int 9 t1)) (hk:1<=k)
  (D_is_number:Df P w K mg base "is_number" 1 ["thing","low","high"] iH) (D_is_rung:Df P w K mg base "is_rung" k ["many","one","thing","lowest_step"] rK):dw P w K mg base CX0 (k+1) f fd ["many","one","thing"] my:=by
 refine F.ok dU (fun vs H Q E h=>?_) (fun cdv A outer s H vs Q E hr h=>?_)
 ·obtain⟨a,us,gs,n,m,who,rfl,_⟩:=h
  rfl
 ·obtain⟨a,us,gs,n,m,who,rfl,ha,rg,hn,l20,hm,q⟩:=h
  refine⟨_,(au (bx (PW.pt (iK (cP (cJ (aF (r:=n8 K) bN rfl B.isinstance_ aP (aa (pv 2) (aa (gC B.tuple_ bL) aj))))) (d9 (cP (cJ (aV D_is_number hr (aa (aF (r:=oh K) bA rfl B.len_ cO (aa (pv 2) aj)) (aa aq (aa (jm c_MOST_RUNGS) aj))))))))) (aA (aJ iu)) aH)
 (au (bc (i:=3) dU.nd rfl (Ez rfl) aq)
 (au (gP Gs rfl (d7 (pv 2)) (aN (i:=4) dU.nd rfl (Ez rfl)) (au (bx (cP (cJ (aV D_is_rung hr (aa (pv 0) (aa (pv 1) (aa (pv 4) (aa (pv 3) aj))))))) (aA (aJ iu)) aH)
 (aA (bc (i:=3) dU.nd rfl (Ez rfl) (aO bT (aR (r:=dI K) aX (pv 4) aq (fun _ _=>rfl)) aq)))))
 (aA (aJ iu))))),?_⟩
  have el:=rg.length
  have q0:=q H (bu.refl H)
  refine⟨_,rfl,_,_,_,_,rfl,.tup ha,c7 _ _,_,rfl,cW ⟨_,rfl,a,_,rfl,.inr (SqT.of ha),.int (us.length:Int),1,9,rfl,.int _,_,rfl,?_⟩⟩
  have en:isNum (.int (us.length:Int)) 1 9=(decide (1<=gs.length) && decide (gs.length<=9)):=by
   show (decide ((1:Int)<=(us.length:Int)) && decide ((us.length:Int)<=9))=_
   rw[el]
   congr 1
   ·exact decide_eq_decide.mpr ⟨fun z=>by lia,fun z=>by lia⟩
   ·exact decide_eq_decide.mpr ⟨fun z=>by lia,fun z=>by lia⟩
  rw[en]
  unfold Bq at q q0
  cases hc:(decide (1<=gs.length) && decide (gs.length<=9)) with
  | false =>
   rw[hc,Jz] at q0
   exact iV q0
  | true =>
   rw[hc,HB] at q
   refine cW ⟨_,rfl,a,rfl,⟨_,SqT.of ha⟩,nQ (K:=K) (a:=a) (xs:=us) (fun i σ H2=>bu H H2/\∃ (lo:Int) (u:Option V),σ=[some (.int (m:Int)),some (.int (who:Int)),some (.ref a),some (.int lo),u]/\plF m who lo (gs.drop i)=plF m who 1 gs)
    ⟨bu.refl H,1,_,rfl,by rw[List.drop_zero]⟩ (fun i σ H2 _ h=>SqT.of (h.1 _ _ ha)) ?_ ?_⟩
   ·rintro i x σ H2 hx ⟨sm,lo,u,rfl,er⟩
    obtain⟨g,hg,rx⟩:=rg.get hx
    have hi:i < gs.length:=(List.getElem?_eq_some_iff.mp hg).1
    have eg:gs[i]=g:=(List.getElem?_eq_some_iff.mp hg).2
    have ed:gs.drop i=g::gs.drop (i+1):=by rw[JB hi,eg]
    rw[ed,plF] at er
    refine⟨_,rfl,_,rfl,_,rfl,_,rfl,x,g,n,m,who,lo,rfl,rx.mono sm,hn,fun H3 s3=>⟨_,rfl,?_⟩⟩
    cases e:rgF m who lo g with
    | false =>
     rw[e,Jz] at er
     have q':=q H3 (sm.trans s3)
     rw[← er] at q'
     exact iV q'
    | true =>
     rw[e,HB] at er
     obtain⟨r,kk,y,t,rfl,h1,_,_,rfl⟩:=rx.good e
     refine cW ⟨_,rfl,r,_,_,_,rfl,rfl,SqT.of (s3 _ _ (sm _ _ h1)),aB (k:=0) rfl,_,_,rfl,rfl,sm.trans s3,kk+1,_,rfl,er⟩
   ·rintro σ H2 ⟨sm,lo,u,rfl,er⟩
    rw[el,List.drop_length,plF] at er
    have q':=q H2 sm
    rw[← er] at q'
    exact q'
abbrev S (l:List Nat):Str:=⟨l.toArray⟩
theorem eO (l:List Nat):(S l).length=l.length:=by simp [Str.length]
theorem aQ (a b:List Nat):S a++S b=S (a++b):=Str.ext' (by rw[Str.cps_append]; simp)
theorem CK (x:Str):x=S x.cps.toList:=by cases x; simp
theorem tu {a b:List Nat} (h:S a=S b):a=b:=by
 have:=congrArg (fun x:Str=>x.cps.toList) h
 simpa using this
def jn (c:Nat):List (List Nat)->List Nat
 | []=>[]
 | [x]=>x
 | x::y::r=>x++c::jn c (y::r)
theorem uZ (c:Nat):∀ ps:List (List Nat),Str.join (S [c]) (ps.map S)=S (jn c ps)
 | []=>rfl
 | [x]=>rfl
 | x::y::r=>by
  have ih:=uZ c (y::r)
  rw[Hj] at ih
  show S x++S [c]++Str.join (S [c]) (S y::r.map S)=_
  rw[ih,aQ,aQ,jn,Fg]
  rfl
theorem fP (c:Nat) (ps:List (List Nat)):PySem.Txt.join (S [c]) (ps.map S)=S (jn c ps):=by
 show Builtin.Str.glued _ _=_
 rw[StrLaws.glued_eq_join,uZ]
theorem rH {c:Nat}:∀ {a b x y:List Nat},c ∉ a->c ∉ b->a++c::x=b++c::y->a=b/\x=y
 | [],[],_,_,_,_,e=>⟨rfl,(Ji e).2⟩
 | [],b::_,_,_,_,hb,e=>absurd (List.mem_cons.mpr (.inl (Ji e).1)) hb
 | a::_,[],_,_,ha,_,e=>absurd (List.mem_cons.mpr (.inl (Ji e).1.symm)) ha
 | a::ra,b::rb,_,_,ha,hb,e=>by
  obtain⟨e1,e2⟩:=Ji e
  obtain⟨h1,h2⟩:=rH (fun z=>ha (En _ z)) (fun z=>hb (En _ z)) e2
  exact⟨by rw[e1,h1],h2⟩
theorem uL {c:Nat}:∀ {ps qs:List (List Nat)},(∀ p∈ps,c ∉ p)->(∀ q∈qs,c ∉ q)->ps≠[]->qs≠[]->jn c ps=jn c qs->ps=qs
 | [],_,_,_,h,_,_=>absurd rfl h
 | _,[],_,_,_,h,_=>absurd rfl h
 | [x],[y],_,_,_,_,e=>by rw[show x=y from e]
 | [x],y::z::r,hp,_,_,_,e=>by
  refine absurd ?_ (hp x Ek)
  rw[show x=y++c::jn c (z::r) from e]
  exact Es _ Ek
 | x::z::r,[y],_,hq,_,_,e=>by
  refine absurd ?_ (hq y Ek)
  rw[← show x++c::jn c (z::r)=y from e]
  exact Es _ Ek
 | x::z::r,y::w::t,hp,hq,_,_,e=>by
  obtain⟨e1,e2⟩:=rH (hp x Ek) (hq y Ek) (show x++c::jn c (z::r)=y++c::jn c (w::t) from e)
  have:=uL (fun p h=>hp p (En _ h)) (fun q h=>hq q (En _ h)) (by simp) (by simp) e2
  rw[e1,this]
theorem rn {c:Nat} {ps:List (List Nat)} (h:∀ p∈ps,c ∉ p) (ne:ps≠[]):Jp (S (jn c ps)) (S [c])=ps.map S:=by
 generalize ez:Jp (S (jn c ps)) (S [c])=zs
 have h1:=StrLaws.join_split (S (jn c ps)) (S [c])
 have h2:=StrLaws.split_free (S (jn c ps)) c
 have h3:zs≠[]:=by
  rw[← ez]
  unfold Jp
  split
  ·simp
  ·split
   ·simp
   ·rw[StrLaws.partsBetween_eq]
    obtain⟨p,r,e⟩:=StrLaws.partsFrom_ne (S (jn c ps)) (S [c]).length 0 (Hr (S (jn c ps)) (S [c]) 0 (S (jn c ps)).length ((S (jn c ps)).length+1))
    rw[e]
    simp
 rw[ez] at h1
 have h2:∀ p∈zs,c ∉ p.cps.toList:=by rw[← ez]; exact h2
 have ec:zs=(zs.map fun z=>z.cps.toList).map S:=by
  rw[KH]
  have:(S ∘ fun z:Str=>z.cps.toList)=id:=funext fun z=>(CK z).symm
  rw[this,List.map_id]
 rw[ec,uZ] at h1
 have h1:=tu h1
 rw[ec]
 refine congrArg _ (uL (fun p hp=>?_) h ?_ ne h1)
 ·obtain⟨z,hz,rfl⟩:=List.mem_map.mp hp
  exact h2 z hz
 ·exact fun z=>h3 (List.map_eq_nil_iff.mp z)
theorem j8 (l:List Nat) (i j:Nat):Builtin.Str.strSub (S l) i j=S ((l.drop i).take (j - i)):=by
 rw[CK (Builtin.Str.strSub (S l) i j),StrLaws.strSub_toList]
theorem lK (l:List Nat) (c i:Nat):StrLaws.At (S l) (S [c]) (S l).length i ↔ l[i]? = some c:=by
 have:=StrLaws.subAt_one (S l) c i
 simpa [StrLaws.At] using this
theorem yc {c i:Nat}:∀ {a b:List Nat},c ∉ a->(a++c::b)[i]? = some c->a.length<=i
 | [],_,_,_=>Fq _
 | x::r,b,h,e=>by
  cases i with
  | zero =>
   refine absurd ?_ h
   rw[show x=c from by simpa using e]
   exact Ek
  | succ i =>
   have:=yc (i:=i) (a:=r) (b:=b) (fun z=>h (En _ z)) (by simpa using e)
   rw[El]
   lia
theorem yF {c:Nat} {a b:List Nat} (h:c ∉ a):PySem.Txt.partition (S (a++c::b)) (S [c])=(S a,S [c],S b):=by
 have hm:(a++c::b)[a.length]? = some c:=by rw[Gq (Ei _),Nat.sub_self]; rfl
 have key:(Hr (S (a++c::b)) (S [c]) 0 (S (a++c::b)).length 1).head? = some a.length:=by
  rcases StrLaws.occ_head (S (a++c::b)) (S [c]) 1 (Ei _) with⟨_,h2⟩ | ⟨i,r,h1,h2,h3⟩
  ·exact absurd ((lK _ _ _).mpr hm) (h2 _)
  ·have e1:=yc h ((lK _ _ _).mp h2)
   have e2:¬ a.length < i:=fun z=>h3 _ z ((lK _ _ _).mpr hm)
   rw[h1,show i=a.length by lia]
   rfl
 unfold PySem.Txt.partition
 cases e:Hr (S (a++c::b)) (S [c]) 0 (S (a++c::b)).length 1 with
 | nil=>rw[e] at key; cases key
 | cons i r =>
  rw[e] at key
  have ei:i=a.length:=FW key
  subst ei
  dsimp only
  rw[j8,j8,eO,eO,List.drop_zero,Nat.sub_zero,Li]
  ·rw[show a.length+[c].length=a.length+1 from rfl,show (a++c::b).drop (a.length+1)=b by rw[List.drop_append,List.drop_eq_nil_of_le (Hi _)]; simp,Jc]
   rw[Ec,El]
   lia
  ·rfl
theorem j4 {c:Nat} {a b:List Nat} (h:c ∉ b):Jl (S (a++c::b)) (S [c])=(S a,S [c],S b):=by
 have hm:(a++c::b)[a.length]? = some c:=by rw[Gq (Ei _),Nat.sub_self]; rfl
 have key:Builtin.Str.lastOccurrence (S (a++c::b)) (S [c]) 0 (S (a++c::b)).length=some a.length:=by
  rcases StrLaws.last_spec (S (a++c::b)) (S [c]) with⟨_,h2⟩ | ⟨i,h1,h2,h3⟩
  ·exact absurd ((lK _ _ _).mpr hm) (h2 _)
  ·have e2:¬ i < a.length:=fun z=>h3 _ z ((lK _ _ _).mpr hm)
   have e1:¬ a.length < i:=fun z=>by
    have e:=(lK _ _ _).mp h2
    rw[Gq (by lia),show i - a.length=(i - a.length - 1)+1 by lia,List.getElem?_cons_succ] at e
    exact h (Fj e)
   rw[h1,show i=a.length by lia]
 unfold Jl
 rw[key]
 dsimp only
 rw[j8,j8,eO,eO,List.drop_zero,Nat.sub_zero,Li]
 ·rw[show a.length+[c].length=a.length+1 from rfl,show (a++c::b).drop (a.length+1)=b by rw[List.drop_append,List.drop_eq_nil_of_le (Hi _)]; simp,Jc]
  rw[Ec,El]
  lia
 ·rfl
theorem rT {c:Nat} {a:List Nat} (h:c ∉ a):Jl (S a) (S [c])=(S [],S [],S a):=by
 unfold Jl
 rcases StrLaws.last_spec (S a) (S [c]) with⟨h1,_⟩ | ⟨i,_,h2,_⟩
 ·rw[h1]
  rfl
 ·exact absurd (Fj ((lK _ _ _).mp h2)) h
theorem vZ {c:Nat} {l:List Nat}:(!(Hr (S l) (S [c]) 0 (S l).length 1).isEmpty)=decide (c∈l):=by
 have:=StrLaws.found_one (S l) c
 simpa using this
theorem uf {c:Nat} {l:List Nat}:PySem.Txt.startswith (S l) (S [c])=decide (l.head? = some c):=by
 unfold PySem.Txt.startswith
 rw[eO,StrLaws.subAt_eq]
 cases l with
 | nil=>rfl
 | cons x r =>
  show (decide (0+1<=(x::r).length) && ((x::r).take 1 == [c]))=_
  rw[decide_eq_true (by rw[El]; lia),HB]
  show ([x] == [c])=decide (some x=some c)
  by_cases e:x=c
  ·rw[e]; simp
  ·rw[decide_eq_false (fun z=>e (FW z))]
   simp [e]
theorem sJ {c:Nat} {l:List Nat}:PySem.Txt.endswith (S (l++[c])) (S [c])=true:=by
 unfold PySem.Txt.endswith
 rw[StrLaws.subAt_eq,eO,eO]
 have e:(l++[c]).length - [c].length=l.length:=by simp
 rw[e,decide_eq_true (by simp),HB]
 show (((l++[c]).drop l.length).take 1 == [c])=true
 rw[List.drop_left]
 simp
def dg (n:Nat):List Nat:=if n < 10 then [48+n] else [48+n / 10 % 10,48+n % 10]
theorem lZ (n:Nat):∀ x∈dg n,48<=x/\x<=57:=by
 intro x hx
 unfold dg at hx
 split at hx
 ·have:=List.mem_singleton.mp hx
  lia
 ·rcases List.mem_cons.mp hx with z | z
  ·lia
  ·have:=List.mem_singleton.mp z
   lia
theorem cu (n:Nat):1<=(dg n).length/\(dg n).length<=2:=by
 unfold dg
 split <;> simp
theorem rO:∀ n:Nat,n < 100->((toString (n:Int):String):Str)=S (dg n):=by decide+kernel
theorem zJ:∀ n:Nat,n < 100->PySem.intText? (S (dg n))=some (n:Int):=by decide+kernel
theorem zj:∀ n:Nat,n < 100->(dg n).head? = some 48->(dg n).length=1:=by decide+kernel
theorem eF {i:Int} (h0:0<=i) (h:i<=99):((toString i:String):Str)=S (dg i.toNat):=by
 have:=rO i.toNat (by lia)
 rwa [Hk h0] at this
def txC (c:List Nat):List Nat:=jn 43 (c.map dg)
mutual
def txT:Tm->List Nat
 | .free=>[102,114,101,101]
 | .never=>[110,101,118,101,114]
 | .gives i k=>dg i++58::dg k.toNat
 | .sum c k=>txC c++58::dg k.toNat
 | .crowd c k m=>dg m.toNat++42::(txC c++58::dg k.toNat)
 | .all ts=>40::(jn 38 (txL ts)++[41])
 | .any ts=>40::(jn 124 (txL ts)++[41])
def txL:List Tm->List (List Nat)
 | []=>[]
 | t::r=>txT t::txL r
end
theorem cU:∀ ts:List Tm,txL ts=ts.map txT
 | []=>by rw[txL]; rfl
 | t::r=>by rw[txL,cU r]; rfl
theorem kY {P:Nat->Prop} {e:Nat} (he:P e):∀ {ps:List (List Nat)},(∀ p∈ps,∀ x∈p,P x)->∀ x∈jn e ps,P x
 | [],_=>fun x hx=>by cases hx
 | [p],h=>h p Ek
 | p::q::r,h=>fun x hx=>by
  rw[jn] at hx
  rcases List.mem_append.mp hx with z | z
  ·exact h p Ek x z
  ·rcases List.mem_cons.mp z with z | z
   ·rw[z]; exact he
   ·exact kY he (fun p hp=>h p (En _ hp)) x z
theorem cT {P:Nat->Prop} {a b:List Nat} {e:Nat} (ha:∀ x∈a,P x) (he:P e) (hb:∀ x∈b,P x):∀ x∈a++e::b,P x:=fun x hx=>by
 rcases List.mem_append.mp hx with z | z
 ·exact ha x z
 ·rcases List.mem_cons.mp z with z | z
  ·rw[z]; exact he
  ·exact hb x z
theorem jw {P:Nat->Prop} (h:∀ x,42<=x->x<=58->x≠44->P x) (c:List Nat):∀ x∈txC c,P x :=
 kY (h 43 (by decide) (by decide) (by decide)) fun p hp x hx=>by
  obtain⟨i,_,rfl⟩:=List.mem_map.mp hp
  have:=lZ i x hx
  exact h x (by lia) (by lia) (by lia)
theorem du {P:Nat->Prop} (h:∀ x,42<=x->x<=58->x≠44->P x) (n:Nat):∀ x∈dg n,P x:=fun x hx=>by
 have:=lZ n x hx
 exact h x (by lia) (by lia) (by lia)
def sg (x:Nat):Prop:=x < 128/\x≠44/\x≠63/\x≠32/\x≠10
theorem gm:∀ x,42<=x->x<=58->x≠44->sg x:=fun x _ _ _=>⟨by lia,by lia,by lia,by lia,by lia⟩
theorem ye {l:List Nat} (h:l.all (fun x=>decide (x < 128/\x≠44/\x≠63/\x≠32/\x≠10))=true):∀ x∈l,sg x:=fun x hx=>of_decide_eq_true (p:=x < 128/\x≠44/\x≠63/\x≠32/\x≠10) (List.all_eq_true.mp h x hx)
theorem yh {P:Nat->Prop} {q:List Nat} (h1:P 40) (h2:P 41) (h:∀ x∈q,P x):∀ x∈40::(q++[41]),P x:=fun x hx=>by
 rcases List.mem_cons.mp hx with z | z
 ·rw[z]; exact h1
 ·rcases List.mem_append.mp z with z | z
  ·exact h x z
  ·rw[List.mem_singleton.mp z]; exact h2
mutual
theorem yw:∀ t:Tm,∀ x∈txT t,sg x
 | .free=>by rw[txT]; exact ye (by decide)
 | .never=>by rw[txT]; exact ye (by decide)
 | .gives i k=>by rw[txT]; exact cT (du gm _) (gm 58 (by decide) (by decide) (by decide)) (du gm _)
 | .sum c k=>by rw[txT]; exact cT (jw gm _) (gm 58 (by decide) (by decide) (by decide)) (du gm _)
 | .crowd c k m=>by rw[txT]; exact cT (du gm _) (gm 42 (by decide) (by decide) (by decide)) (cT (jw gm _) (gm 58 (by decide) (by decide) (by decide)) (du gm _))
 | .all ts=>by rw[txT]; exact yh ⟨by decide,by decide,by decide,by decide,by decide⟩ ⟨by decide,by decide,by decide,by decide,by decide⟩ (kY ⟨by decide,by decide,by decide,by decide,by decide⟩ (oE ts))
 | .any ts=>by rw[txT]; exact yh ⟨by decide,by decide,by decide,by decide,by decide⟩ ⟨by decide,by decide,by decide,by decide,by decide⟩ (kY ⟨by decide,by decide,by decide,by decide,by decide⟩ (oE ts))
theorem oE:∀ ts:List Tm,∀ p∈txL ts,∀ x∈p,sg x
 | []=>fun p hp=>by rw[txL] at hp; cases hp
 | t::r=>fun p hp=>by
  rw[txL] at hp
  rcases List.mem_cons.mp hp with z | z
  ·rw[z]; exact yw t
  ·exact oE r p z
end
def so (c:Nat):List Nat->Int->List Nat->List (List Nat)
 | [],_,cur=>[cur]
 | x::r,d,cur=>if x=40 then so c r (d+1) (cur++[x]) else if x=41 then so c r (d - 1) (cur++[x]) else if x=c/\d=0 then cur::so c r d [] else so c r d (cur++[x])
def tG (c:Nat) (d:Int) (p:List Nat):Prop:=∀ r cur,so c (p++r) d cur=so c r d (cur++p)
theorem cQ {c:Nat} {d:Int}:∀ {p:List Nat},(∀ x∈p,x≠40/\x≠41/\x≠c)->tG c d p
 | [],_=>fun r cur=>by rw[List.nil_append,Hx]
 | x::p,h=>fun r cur=>by
  obtain⟨h1,h2,h3⟩:=h x Ek
  rw[Gz,so,if_neg h1,if_neg h2,if_neg (fun z=>h3 z.1),cQ (fun y hy=>h y (En _ hy)),Fg]
  rfl
theorem rC {c:Nat} {d:Int} {p q:List Nat} (h1:tG c d p) (h2:tG c d q):tG c d (p++q):=fun r cur=>by
 rw[Fg,h1,h2,Fg]
theorem xN {c e:Nat} {d:Int} (h1:e≠40) (h2:e≠41) (h3:¬ (e=c/\d=0)):tG c d [e]:=fun r cur=>by
 show so c (e::r) d cur=_
 rw[so,if_neg h1,if_neg h2,if_neg h3]
theorem nj {c e:Nat} {d:Int} (h1:e≠40) (h2:e≠41) (h3:¬ (e=c/\d=0)):∀ {ps:List (List Nat)},(∀ p∈ps,tG c d p)->tG c d (jn e ps)
 | [],_=>cQ (fun x hx=>by cases hx)
 | [p],h=>h p Ek
 | p::q::r,h=>rC (h p Ek) (rC (p:=[e]) (xN h1 h2 h3) (nj h1 h2 h3 fun p hp=>h p (En _ hp)))
theorem vo {c:Nat} {d:Int} {q:List Nat} (h:tG c (d+1) q):tG c d (40::(q++[41])):=fun r cur=>by
 rw[Gz,so,if_pos rfl,Fg,h]
 show so c (41::r) (d+1) _=_
 rw[so,if_neg (by decide),if_pos rfl,show d+1 - 1=d by lia,Fg,Fg]
 rfl
theorem nC {c:Nat} (hc:58 < c∨c < 42):∀ x,42<=x->x<=58->x≠44->x≠40/\x≠41/\x≠c:=fun x _ _ _=>⟨by lia,by lia,by lia⟩
mutual
theorem Aa {c:Nat} (hc:c=38∨c=124):∀ (t:Tm) (d:Int),0<=d->tG c d (txT t)
 | .free,d,_=>by rw[txT]; exact cQ (fun x hx=>by rcases hc with rfl | rfl <;> simp at hx <;> lia)
 | .never,d,_=>by rw[txT]; exact cQ (fun x hx=>by rcases hc with rfl | rfl <;> simp at hx <;> lia)
 | .gives i k,d,_=>by
  have m:=nC (c:=c) (by lia)
  rw[txT]
  exact cQ (cT (du m _) (m 58 (by decide) (by decide) (by decide)) (du m _))
 | .sum cc k,d,_=>by
  have m:=nC (c:=c) (by lia)
  rw[txT]
  exact cQ (cT (jw m _) (m 58 (by decide) (by decide) (by decide)) (du m _))
 | .crowd cc k mm,d,_=>by
  have m:=nC (c:=c) (by lia)
  rw[txT]
  exact cQ (cT (du m _) (m 42 (by decide) (by decide) (by decide)) (cT (jw m _) (m 58 (by decide) (by decide) (by decide)) (du m _)))
 | .all ts,d,h=>by
  rw[txT]
  exact vo (nj (by decide) (by decide) (by lia) (pN hc ts (d+1) (by lia)))
 | .any ts,d,h=>by
  rw[txT]
  exact vo (nj (by decide) (by decide) (by lia) (pN hc ts (d+1) (by lia)))
theorem pN {c:Nat} (hc:c=38∨c=124):∀ (ts:List Tm) (d:Int),0<=d->∀ p∈txL ts,tG c d p
 | [],_,_=>fun p hp=>by rw[txL] at hp; cases hp
 | t::r,d,h=>fun p hp=>by
  rw[txL] at hp
  rcases List.mem_cons.mp hp with z | z
  ·rw[z]; exact Aa hc t d h
  ·exact pN hc r d h p z
end
theorem Bf {c:Nat} (h1:c≠40) (h2:c≠41):∀ {ps:List (List Nat)} {p cur:List Nat},(∀ q∈p::ps,tG c 0 q)->so c (jn c (p::ps)) 0 cur=(cur++p)::ps
 | [],p,cur,h=>by
  have:=h p Ek [] cur
  rw[Hx] at this
  rw[jn,this]
  rfl
 | q::r,p,cur,h=>by
  rw[jn,h p Ek,so,if_neg h1,if_neg h2,if_pos ⟨rfl,rfl⟩,Bf h1 h2 fun x hx=>h x (En _ hx)]
  rfl
theorem Ac {c:Nat} {q:List Nat} (h:tG c 0 q):so c q 0 []=[q]:=by
 have:=h [] []
 rw[Hx] at this
 rw[this]
 rfl
theorem pF {e B:Nat}:∀ {ps:List (List Nat)},(∀ p∈ps,p.length<=B)->(jn e ps).length<=ps.length * (B+1)
 | [],_=>Fq _
 | [p],h=>by
  have:=h p Ek
  show p.length<=1 * (B+1)
  lia
 | p::q::r,h=>by
  have h1:=h p Ek
  have h2:=pF (e:=e) (ps:=q::r) fun p hp=>h p (En _ hp)
  rw[jn,Ec,El,El (a:=p),Nat.add_mul,Nat.one_mul]
  lia
theorem fO (c:List Nat):(txC c).length<=c.length * 3:=by
 have:=pF (e:=43) (B:=2) (ps:=c.map dg) fun p hp=>by
  obtain⟨i,_,rfl⟩:=List.mem_map.mp hp
  exact (cu i).2
 rwa [Eb] at this
theorem vX {l:List Nat} {a b:Nat} (h1:a<=b) (h2:b<=l.length):n6 (S l) (some (a:Int)) (some (b:Int))=S ((l.drop a).take (b - a)):=by
 rw[uB,StrLaws.sliceText_nat (S l) h1 (by rw[eO]; exact h2)]
theorem wJ {l:List Nat} {a:Nat} (h:a<=l.length):n6 (S l) (some (a:Int)) none=S (l.drop a):=by
 rw[uB,StrLaws.sliceText_from (x:=S l) ⟨by lia,by simpa using h⟩]
 have:((l.drop a).take (((l.length:Nat):Int) - (a:Int)).toNat)=l.drop a:=Jc (by rw[G3]; lia)
 show S ((l.drop ((a:Int)).toNat).take (((l.length:Nat):Int) - (a:Int)).toNat)=_
 rw[show ((a:Int)).toNat=a by lia,this]
theorem oX {q:List Nat} {x y:Nat}:n6 (S (x::(q++[y]))) (some 1) (some (-1))=S q:=by
 have e:Jv (some 1) (some (-1)) 1 (S (x::(q++[y]))).length=Jv (some ((1:Nat):Int)) (some ((q.length+1:Nat):Int)) 1 (S (x::(q++[y]))).length:=by
  rw[eO,El,Ec]
  unfold Jv
  dsimp only
  rw[if_pos (show (-1:Int) < 0 by decide),if_neg (show ¬ ((q.length+1:Nat):Int) < 0 by lia)]
  rw[Ef,show ((-1:Int)+((q.length+1+1:Nat):Int))=((q.length+1:Nat):Int) by lia]
  rfl
 have e2:n6 (S (x::(q++[y]))) (some 1) (some (-1))=n6 (S (x::(q++[y]))) (some ((1:Nat):Int)) (some ((q.length+1:Nat):Int)):=by
  unfold n6
  rw[e]
 rw[e2,vX (by lia) (by rw[El,Ec,Ef]; lia)]
 show S ((q++[y]).take (q.length+1 - 1))=_
 rw[Kp,Li]
 rfl
theorem Bg:∀ n:Nat,n < 1000->n.log2 < 1920:=by decide+kernel
theorem jF {i:Int} (h0:0<=i) (h:i<=99):i.natAbs.log2 < 1920:=Bg _ (by lia)
theorem bC {l:List Nat} (h:l.length<=1000000):(S l).length<=sizeLine:=by rw[eO]; exact Fe h (by decide)
theorem cC (l:List Nat):Str.empty++S l=S l:=aQ [] l
theorem gR:(("+" : String):Str)=S [43]:=by decide+kernel
theorem bB:((":" : String):Str)=S [58]:=by decide+kernel
theorem fX:(("*" : String):Str)=S [42]:=by decide+kernel
theorem tU:(("&" : String):Str)=S [38]:=by decide+kernel
theorem zO:(("|" : String):Str)=S [124]:=by decide+kernel
theorem f9:(("(" : String):Str)=S [40]:=by decide+kernel
theorem jt:((")" : String):Str)=S [41]:=by decide+kernel
theorem rZ:(("free" : String):Str)=S [102,114,101,101]:=by decide+kernel
theorem mW:(("never" : String):Str)=S [110,101,118,101,114]:=by decide+kernel
theorem u9 {B:Nat}:∀ {ps:List (List Nat)},(∀ p∈ps,p.length<=B)->((ps.map S).map (·.length)).sum<=ps.length * B
 | [],_=>Fq _
 | p::r,h=>by
  have h1:=h p Ek
  have h2:=u9 fun q hq=>h q (En _ hq)
  rw[Hj,Hj,List.sum_cons,eO,El,Nat.add_mul,Nat.one_mul]
  lia
theorem cM {c:Nat} {ps:List (List Nat)} (h:∀ p∈ps,p.length<=100000) (l:ps.length<=20):((ps.map S).map (·.length)).sum+(ps.map S).length * (S [c]).length<=16777216:=by
 have h1:=u9 h
 have h2:ps.length * 100000<=20 * 100000:=G9 _ l
 rw[Eb,eO,Ef]
 lia
mutual
theorem xX {n:Nat} {H:Hp}:∀ (d:Nat) {v:V} {t:Tm},dm n H v t->t.dep<=d+1->(txT t).length<=70 * 7 ^ d
 | d,_,_,.free _,_=>by
  have:0 < 7 ^ d:=Hs (by decide)
  rw[txT]
  show 4<=_
  lia
 | d,_,_,.never _,_=>by
  have:0 < 7 ^ d:=Hs (by decide)
  rw[txT]
  show 5<=_
  lia
 | d,_,_,.gives (i:=i) (k:=k) _ _ _ _,_=>by
  have:0 < 7 ^ d:=Hs (by decide)
  have:=(cu i).2
  have:=(cu k.toNat).2
  rw[txT,Ec,El]
  lia
 | d,_,_,.sum (c:=c) (k:=k) _ _ _ _ _ _ _ _,_=>by
  have:0 < 7 ^ d:=Hs (by decide)
  have:=fO c
  have:=(cu k.toNat).2
  rw[txT,Ec,El]
  lia
 | d,_,_,.crowd (c:=c) (k:=k) (m:=m) _ _ _ _ _ _ _ _ _ _,_=>by
  have:0 < 7 ^ d:=Hs (by decide)
  have:=fO c
  have:=(cu k.toNat).2
  have:=(cu m.toNat).2
  rw[txT,Ec,El,Ec,El]
  lia
 | 0,_,_,.all (vs:=vs) (ts:=ts) _ _ l2 _ rl,hd=>by
  have:=uP rl l2
  rw[Tm.dep] at hd
  lia
 | d+1,_,_,.all (ts:=ts) _ _ _ l6 rl,hd=>by
  rw[Tm.dep] at hd
  have h1:=mQ d rl (by lia)
  have h2:=rl.length
  have h3:=pF (e:=38) h1
  have h4:(txL ts).length=ts.length:=by rw[cU,Eb]
  have h5:(txL ts).length * (70 * 7 ^ d+1)<=6 * (70 * 7 ^ d+1):=G9 _ (by lia)
  have:0 < 7 ^ d:=Hs (by decide)
  rw[txT,El,Ec,Ef,KD]
  lia
 | 0,_,_,.any (vs:=vs) (ts:=ts) _ _ l2 _ rl,hd=>by
  have:=uP rl l2
  rw[Tm.dep] at hd
  lia
 | d+1,_,_,.any (ts:=ts) _ _ _ l6 rl,hd=>by
  rw[Tm.dep] at hd
  have h1:=mQ d rl (by lia)
  have h2:=rl.length
  have h3:=pF (e:=124) h1
  have h4:(txL ts).length=ts.length:=by rw[cU,Eb]
  have h5:(txL ts).length * (70 * 7 ^ d+1)<=6 * (70 * 7 ^ d+1):=G9 _ (by lia)
  have:0 < 7 ^ d:=Hs (by decide)
  rw[txT,El,Ec,Ef,KD]
  lia
theorem mQ {n:Nat} {H:Hp}:∀ (d:Nat) {vs:List V} {ts:List Tm},bK n H vs ts->tdL ts<=d+1->∀ p∈txL ts,p.length<=70 * 7 ^ d
 | d,_,_,.nil,_=>fun p hp=>by rw[txL] at hp; cases hp
 | d,_,_,.cons h r,hd=>fun p hp=>by
  rw[tdL] at hd
  rw[txL] at hp
  rcases List.mem_cons.mp hp with z | z
  ·rw[z]; exact xX d h (by lia)
  ·exact mQ d r (by lia) p z
theorem uP {n:Nat} {H:Hp}:∀ {vs:List V} {ts:List Tm},bK n H vs ts->2<=vs.length->1<=tdL ts
 | _,_,.nil,h=>by simp at h
 | _,_,.cons (t:=t) _ _,_=>by
  rw[tdL]
  have:=t.gh
  lia
end
theorem fH {n d:Nat} {H:Hp} {v:V} {t:Tm} (r:dm n H v t) (hd:t.dep<=d) (h4:d<=4):(txT t).length<=24010:=by
 have h1:=xX 3 r (by lia)
 rw[show 70 * 7 ^ 3=24010 by decide] at h1
 exact h1
theorem ji {n d:Nat} {H:Hp} {vs:List V} {ts:List Tm} (r:bK n H vs ts) (hd:tdL ts<=d) (h4:d<=4):∀ p∈txL ts,p.length<=24010:=fun p hp=>by
 have h1:=mQ 3 r (by lia) p hp
 rw[show 70 * 7 ^ 3=24010 by decide] at h1
 exact h1
theorem qF {c:List Nat}:∀ p∈c.map dg,p.length<=2:=fun p hp=>by
 obtain⟨i,_,rfl⟩:=List.mem_map.mp hp
 exact (cu i).2
abbrev gr:Stmt:=top 25
abbrev iw:Stmt:=top 26
abbrev dF:Stmt:=top 45
theorem nZ:aW ["crowd"] ["crowd"] (aG gr):=⟨rfl,rfl,rfl,by decide+kernel,rfl,by decide+kernel,by decide+kernel⟩
theorem dY:aW ["term","kind","sign","inner"] ["term"] (aG iw):=⟨rfl,rfl,rfl,by decide+kernel,rfl,by decide+kernel,by decide+kernel⟩
theorem fV:aW ["_law_term_here","_law_text"] ["_law_term_here"] (aG dF):=⟨rfl,rfl,rfl,by decide+kernel,rfl,by decide+kernel,by decide+kernel⟩
def Cz:Sp:=fun vs H Q _=>∃ (b:Addr) (c:List Nat),vs=[.ref b]/\H b=some (.tup (c.map vN))/\(∀ i∈c,i < 12)/\c.length<=20/\∀ H',bu H H'->Q (.str (S (txC c))) H'
theorem lC {K:FT} {H:Hp} {b D:Addr} {c:List Nat} {σ0:St} {Q:Hp->Prop} (hb:H b=some (.tup (c.map vN))) (hc:∀ i∈c,i < 12) (l:c.length<=20) (hD:H D=none) (h0:∃ u,σ0=[u])
  (q:∀ H2,bu H H2->H2 D=some (.lst (((c.map dg).map S).map V.str))->Q H2):eG D σ0 (Itt K b) (mV 0) uc (tCB (fun xs H Q=>∃ i,xs=[.int i]/\i.natAbs.log2 < 1920/\Q (.str (toString i)) H) (sW (xW 0) zZ)) H Q:=by
 refine cY (K:=K) (a:=b) (xs:=c.map vN) (fun i zs σ' H2=>(∃ u,σ'=[u])/\zs=(((c.take i).map dg).map S).map V.str/\bu H H2/\H2 D=some (.lst zs))
  ⟨h0,rfl,az hD _,ao⟩ (fun i zs σ' H2 _ h=>⟨sV h.2.2.1 (SqT.of hb),h.2.2.2⟩) ?_ ?_
 ·rintro j zs x σ' H2 hx ⟨⟨u,rfl⟩,e1,sm,hDl⟩
  obtain⟨i,hi,rfl⟩:=sY hx
  have hi12:=hc i (Fj hi)
  refine gT ?_
  refine⟨_,rfl,(i:Int),rfl,jF (by lia) (by lia),hDl,?_,⟨_,rfl⟩,?_,bh sm hD _,ao⟩
  ·rw[e1,Eb,Eb,Eb,Fi]
   exact aU (by lia)
  ·rw[e1,Fw,hi,Er,Er,Er,rO i (by lia)]
   rfl
 ·rintro zs σ' H2 ⟨_,e1,sm,hDl⟩
  rw[Eb,Fo] at e1
  exact q H2 sm (by rw[hDl,e1])
theorem nu (F:Fun K "crowd_text" "crowd_text" gr f fd) (B:Bt mg) :
  dw P w K mg base CX0 1 f fd ["crowd"] Cz:=by
 refine F.ok nZ (fun vs H Q E h=>?_) (fun cdv A outer s H vs Q E hr h=>?_)
 ·obtain⟨b,c,rfl,_⟩:=h
  rfl
 ·obtain⟨b,c,rfl,hb,hc,l,q⟩:=h
  refine⟨_,(aA (aJ (gD Fv G5 G4 jz aC (aa (cg (L:=["one"]) (F:=[]) (cap:=[]) rfl (bR rfl rfl (by kernel_rfl)) (d7 (pv 0)) (fun _ _ _ _ _=>(aN (i:=0) (bD (by decide+kernel)) rfl (Ez rfl))) (fun _ _ _ _ _=>bU) (fun _ _ _ _ _=>(aY cz rfl B.str_ jf (aa (pv 0) aj)))) aj)))),?_⟩
  refine⟨rfl,_,rfl,b,rfl,⟨_,SqT.of hb⟩,fun D hD=>lC hb hc l hD ⟨_,rfl⟩ fun H2 s2 eD=>?_⟩
  refine⟨_,D,(c.map dg).map S,rfl,rfl,SqL.of eD,?_,?_⟩
  ·rw[gR]
   exact cM (fun p hp=>Fe (qF p hp) (by decide)) (by rw[Eb]; exact l)
  ·rw[gR,fP]
   exact q H2 s2
def jE (d:Nat):Sp:=fun vs H Q _=>∃ (v:V) (n:Nat) (t:Tm),vs=[v]/\dm n H v t/\t.dep<=d/\n<=12/\d<=4/\∀ H',bu H H'->Q (.str (S (txT t))) H'
theorem rR {ps:List Str} {k:Nat}:dw P w K mg base CX0 k f fd ps (jE 0):=by
 have no:∀ vs H Q E,¬ jE 0 vs H Q E:=fun vs H Q E h=>by
  obtain⟨v,n,t,_,_,h1,_⟩:=h
  have:=t.gh
  lia
 exact⟨fun vs H Q E h=>absurd h (no vs H Q E),fun A outer s H args us vs Q E _ _ _ _ h=>absurd h (no vs H Q E)⟩
theorem jj {K:FT} {n d:Nat} {H:Hp} {b D:Addr} {us:List V} {ts:List Tm} {σ0:St} {Q:Hp->Prop} (hb:H b=some (.tup us)) (rl:bK n H us ts) (hd:tdL ts<=d) (hn:n<=12) (h4:d<=4) (l:us.length<=6) (hD:H D=none) (h0:∃ u,σ0=[u])
  (q:∀ H2,bu H H2->H2 D=some (.lst (((txL ts).map S).map V.str))->Q H2):eG D σ0 (Itt K b) (mV 0) uc (uX (jE d) [] E0 (sW (xW 0) zZ)) H Q:=by
 have el:=rl.length
 refine cY (K:=K) (a:=b) (xs:=us) (fun i zs σ' H2=>(∃ u,σ'=[u])/\zs=(((ts.take i).map txT).map S).map V.str/\bu H H2/\H2 D=some (.lst zs))
  ⟨h0,rfl,az hD _,ao⟩ (fun i zs σ' H2 _ h=>⟨sV h.2.2.1 (SqT.of hb),h.2.2.2⟩) ?_ ?_
 ·rintro j zs x σ' H2 hx ⟨⟨u,rfl⟩,e1,sm,hDl⟩
  obtain⟨t,ht,rt⟩:=rl.get hx
  have hj:j < us.length:=(List.getElem?_eq_some_iff.mp hx).1
  refine gT ?_
  refine⟨_,rfl,x,n,t,rfl,rt.mono sm,Fe (iQ ht) hd,hn,h4,fun H3 s3=>⟨s3 _ _ hDl,?_,⟨_,rfl⟩,?_,bh (sm.trans s3) hD _,ao⟩⟩
  ·rw[e1,Eb,Eb,Eb,Fi]
   exact aU (by lia)
  ·rw[e1,Fw,ht,Er,Er,Er]
   rfl
 ·rintro zs σ' H2 ⟨_,e1,sm,hDl⟩
  rw[el,Fo,← cU] at e1
  exact q H2 sm (by rw[hDl,e1])
theorem dW {d k:Nat} (F:Fun K "term_text" "term_text" iw f fd) (B:Bt mg) (hk:1<=k)
  (D_crowd_text:Df P w K mg base "crowd_text" 1 ["crowd"] Cz) (D_term_text:Df P w K mg base "term_text" k ["term"] (jE d)):dw P w K mg base CX0 (k+1) f fd ["term"] (jE (d+1)):=by
 refine F.ok dY (fun vs H Q E h=>?_) (fun cdv A outer s H vs Q E hr h=>?_)
 ·obtain⟨v,n,t,rfl,_⟩:=h
  rfl
 ·obtain⟨v,n,t,rfl,rt,hd,hn,h4,q⟩:=h
  refine⟨_,(au (bc (i:=1) dY.nd rfl (Ez rfl) (aR (r:=dI K) aX (pv 0) aq (fun _ _=>rfl)))
 (au (bx (aD bJ (pv 1) aC (aM _)) (aA (aJ (vI (cj (gU (aR (r:=dI K) aX (pv 0) aq (fun _ _=>rfl))) (cj aC (cj (gU (aR (r:=dI K) aX (pv 0) aq (fun _ _=>rfl))) pC)))))) aH)
 (au (bx (aD bJ (pv 1) aC (aM _)) (aA (aJ (vI (cj (gU (aV D_crowd_text hr (aa (aR (r:=dI K) aX (pv 0) aq (fun _ _=>rfl)) aj))) (cj aC (cj (gU (aR (r:=dI K) aX (pv 0) aq (fun _ _=>rfl))) pC)))))) aH)
 (au (bx (aD bJ (pv 1) aC (aM _)) (aA (aJ (vI (cj (gU (aR (r:=dI K) aX (pv 0) aq (fun _ _=>rfl))) (cj aC (cj (gU (aV D_crowd_text hr (aa (aR (r:=dI K) aX (pv 0) aq (fun _ _=>rfl)) aj))) (cj aC (cj (gU (aR (r:=dI K) aX (pv 0) aq (fun _ _=>rfl))) pC)))))))) aH)
 (au (bx (PW.pt (iK (aD bJ (pv 1) aC (aM _)) (d9 (aD bJ (pv 1) aC (aM _))))) (au (bc (i:=2) dY.nd rfl (Ez rfl) (rM (aD bJ (pv 1) aC (aM _)) aC aC))
 (au (bc (i:=3) dY.nd rfl (Ez rfl) (gD Fv G5 G4 jz (pv 2) (aa (cg (L:=["part"]) (F:=[]) (cap:=[]) rfl (bR rfl rfl (by kernel_rfl)) (d7 (aR (r:=dI K) aX (pv 0) aq (fun _ _=>rfl))) (fun _ _ _ _ _=>(aN (i:=0) (bD (by decide+kernel)) rfl (Ez rfl))) (fun _ _ _ _ _=>bU) (fun _ _ _ _ _=>(aV D_term_text hr (aa (pv 0) aj)))) aj)))
 (aA (aJ (vI (cj aC (cj (gU (pv 3)) (cj aC pC)))))))) aH)
 (aA (aJ (pv 1)))))))),?_⟩
  have ln:=fH rt hd h4
  cases rt with
  | @free a ha =>
   refine⟨_,rfl,a,_,_,_,rfl,rfl,SqT.of ha,aB (k:=0) rfl,?_⟩
   refine⟨_,rfl,rfl,_,rfl,bG (aK (by decide)) ?_⟩
   refine⟨_,rfl,rfl,_,rfl,bG (aK (by decide)) ?_⟩
   refine⟨_,rfl,rfl,_,rfl,bG (aK (by decide)) ?_⟩
   refine⟨_,rfl,rfl,_,rfl,bG (aK (by decide)) ⟨_,rfl,rfl,_,rfl,bG (aK (by decide)) ?_⟩⟩
   have q':=q H (bu.refl H)
   rw[txT,← rZ] at q'
   exact⟨_,rfl,q'⟩
  | @never a ha =>
   refine⟨_,rfl,a,_,_,_,rfl,rfl,SqT.of ha,aB (k:=0) rfl,?_⟩
   refine⟨_,rfl,rfl,_,rfl,bG (aK (by decide)) ?_⟩
   refine⟨_,rfl,rfl,_,rfl,bG (aK (by decide)) ?_⟩
   refine⟨_,rfl,rfl,_,rfl,bG (aK (by decide)) ?_⟩
   refine⟨_,rfl,rfl,_,rfl,bG (aK (by decide)) ⟨_,rfl,rfl,_,rfl,bG (aK (by decide)) ?_⟩⟩
   have q':=q H (bu.refl H)
   rw[txT,← mW] at q'
   exact⟨_,rfl,q'⟩
  | @gives a i kk ha hi k1 k9 =>
   have e1:((toString (i:Int):String):Str)=S (dg i):=rO i (by lia)
   have e2:=eF (i:=kk) (by lia) (by lia)
   have l1:=(cu i).2
   have l2:=(cu kk.toNat).2
   refine⟨_,rfl,a,_,_,_,rfl,rfl,SqT.of ha,aB (k:=0) rfl,?_⟩
   refine⟨_,rfl,rfl,_,rfl,gK rfl ?_⟩
   refine⟨_,rfl,a,_,_,_,rfl,rfl,SqT.of ha,aB (k:=1) rfl,.inl ⟨(i:Int),rfl,jF (by lia) (by lia),_,rfl,?_,_,rfl,?_,_,rfl,a,_,_,_,rfl,rfl,SqT.of ha,aB (k:=2) rfl,.inl ⟨kk,rfl,jF (by lia) (by lia),_,rfl,?_,?_,?_⟩⟩⟩
   ·rw[e1,cC]
    exact bC (by lia)
   ·rw[e1,cC,bB,aQ]
    exact bC (by rw[Ec,Ef]; lia)
   ·rw[e1,e2,cC,bB,aQ,aQ]
    exact bC (by rw[Ec,Ec,Ef]; lia)
   ·rw[e1,e2,cC,bB,aQ,aQ]
    exact bC (by rw[Ec,Ec,Ef]; lia)
   ·rw[e1,e2,cC,bB,aQ,aQ,Fg]
    have q':=q H (bu.refl H)
    rw[txT] at q'
    exact q'
  | @sum a b c kk ha hb hc hp l20 l2 k1 k99 =>
   have e2:=eF (i:=kk) (by lia) (by lia)
   have l1:=fO c
   have l2:=(cu kk.toNat).2
   refine⟨_,rfl,a,_,_,_,rfl,rfl,SqT.of ha,aB (k:=0) rfl,?_⟩
   refine⟨_,rfl,rfl,_,rfl,bG (aK (by decide)) ?_⟩
   refine⟨_,rfl,rfl,_,rfl,gK rfl ?_⟩
   refine⟨_,rfl,a,_,_,_,rfl,rfl,SqT.of ha,aB (k:=1) rfl,b,c,rfl,hb,fun i hi=>Em (hc i hi) hn,l20,fun H2 s2=>.inr ⟨_,rfl,bC (by lia),_,rfl,?_,_,rfl,?_,_,rfl,a,_,_,_,rfl,rfl,SqT.of (s2 _ _ ha),aB (k:=2) rfl,.inl ⟨kk,rfl,jF (by lia) (by lia),_,rfl,?_,?_,?_⟩⟩⟩
   ·rw[cC]
    exact bC (by lia)
   ·rw[cC,bB,aQ]
    exact bC (by rw[Ec,Ef]; lia)
   ·rw[e2,cC,bB,aQ,aQ]
    exact bC (by rw[Ec,Ec,Ef]; lia)
   ·rw[e2,cC,bB,aQ,aQ]
    exact bC (by rw[Ec,Ec,Ef]; lia)
   ·rw[e2,cC,bB,aQ,aQ,Fg]
    have q':=q H2 s2
    rw[txT] at q'
    exact q'
  | @crowd a b c kk mm ha hb hc hp l20 l1 k1 k9 m1 m12 =>
   have e2:=eF (i:=kk) (by lia) (by lia)
   have e3:=eF (i:=mm) (by lia) (by lia)
   have l1:=fO c
   have l2:=(cu kk.toNat).2
   have l3:=(cu mm.toNat).2
   refine⟨_,rfl,a,_,_,_,rfl,rfl,SqT.of ha,aB (k:=0) rfl,?_⟩
   refine⟨_,rfl,rfl,_,rfl,bG (aK (by decide)) ?_⟩
   refine⟨_,rfl,rfl,_,rfl,bG (aK (by decide)) ?_⟩
   refine⟨_,rfl,rfl,_,rfl,gK rfl ?_⟩
   refine⟨_,rfl,a,_,_,_,rfl,rfl,SqT.of ha,aB (k:=3) rfl,.inl ⟨mm,rfl,jF (by lia) (by lia),_,rfl,?_,_,rfl,?_,_,rfl,a,_,_,_,rfl,rfl,SqT.of ha,aB (k:=1) rfl,b,c,rfl,hb,fun i hi=>Em (hc i hi) hn,l20,fun H2 s2=>.inr ⟨_,rfl,bC (by lia),_,rfl,?_,_,rfl,?_,_,rfl,a,_,_,_,rfl,rfl,SqT.of (s2 _ _ ha),aB (k:=2) rfl,.inl ⟨kk,rfl,jF (by lia) (by lia),_,rfl,?_,?_,?_⟩⟩⟩⟩
   ·rw[e3,cC]
    exact bC (by lia)
   ·rw[e3,cC,fX,aQ]
    exact bC (by rw[Ec,Ef]; lia)
   ·rw[e3,cC,fX,aQ,aQ]
    exact bC (by rw[Ec,Ec,Ef]; lia)
   ·rw[e3,cC,fX,bB,aQ,aQ,aQ]
    exact bC (by rw[Ec,Ec,Ec,Ef,Ef]; lia)
   ·rw[e3,e2,cC,fX,bB,aQ,aQ,aQ,aQ]
    exact bC (by rw[Ec,Ec,Ec,Ec,Ef,Ef]; lia)
   ·rw[e3,e2,cC,fX,bB,aQ,aQ,aQ,aQ]
    exact bC (by rw[Ec,Ec,Ec,Ec,Ef,Ef]; lia)
   ·rw[e3,e2,cC,fX,bB,aQ,aQ,aQ,aQ,Fg,Fg,Fg]
    have q':=q H2 s2
    rw[txT] at q'
    exact q'
  | @all a b us ts ha hb l2 l6 rl =>
   rw[txT,El,Ec] at ln
   refine⟨_,rfl,a,_,_,_,rfl,rfl,SqT.of ha,aB (k:=0) rfl,?_⟩
   refine⟨_,rfl,rfl,_,rfl,bG (aK (by decide)) ?_⟩
   refine⟨_,rfl,rfl,_,rfl,bG (aK (by decide)) ?_⟩
   refine⟨_,rfl,rfl,_,rfl,bG (aK (by decide)) ?_⟩
   refine⟨_,rfl,rfl,_,rfl,gK rfl (iV ?_)⟩
   refine⟨_,rfl,rfl,_,rfl,gK rfl ?_⟩
   have hd':tdL ts<=d:=by rw[Tm.dep] at hd; lia
   refine⟨_,rfl,rfl,_,rfl,a,_,_,_,rfl,rfl,SqT.of ha,aB (k:=1) rfl,b,rfl,⟨_,SqT.of hb⟩,fun D hD=>jj hb rl hd' hn (by lia) l6 hD ⟨_,rfl⟩ fun H2 s2 eD=>?_⟩
   have el:=rl.length
   refine⟨_,D,(txL ts).map S,rfl,rfl,SqL.of eD,?_,?_⟩
   ·rw[tU]
    exact cM (fun p hp=>Fe (ji rl hd' (by lia) p hp) (by decide)) (by rw[cU,Eb]; lia)
   ·rw[tU,fP]
    refine⟨_,rfl,?_,_,rfl,.inr ⟨_,rfl,bC (by lia),_,rfl,?_,_,rfl,?_,?_,?_⟩⟩
    ·rw[f9,cC]
     exact bC (by decide)
    ·rw[f9,cC,aQ]
     exact bC (by rw[Ec,Ef]; lia)
    ·rw[f9,jt,cC,aQ,aQ]
     exact bC (by rw[Ec,Ec,Ef,Ef]; lia)
    ·rw[f9,jt,cC,aQ,aQ]
     exact bC (by rw[Ec,Ec,Ef,Ef]; lia)
    ·rw[f9,jt,cC,aQ,aQ]
     have q':=q H2 s2
     rw[txT] at q'
     exact q'
  | @any a b us ts ha hb l2 l6 rl =>
   rw[txT,El,Ec] at ln
   refine⟨_,rfl,a,_,_,_,rfl,rfl,SqT.of ha,aB (k:=0) rfl,?_⟩
   refine⟨_,rfl,rfl,_,rfl,bG (aK (by decide)) ?_⟩
   refine⟨_,rfl,rfl,_,rfl,bG (aK (by decide)) ?_⟩
   refine⟨_,rfl,rfl,_,rfl,bG (aK (by decide)) ?_⟩
   refine⟨_,rfl,rfl,_,rfl,bG (aK (by decide)) ⟨_,rfl,rfl,_,rfl,gK rfl ?_⟩⟩
   refine⟨_,rfl,rfl,_,rfl,bG (aK (by decide)) ?_⟩
   have hd':tdL ts<=d:=by rw[Tm.dep] at hd; lia
   refine⟨_,rfl,rfl,_,rfl,a,_,_,_,rfl,rfl,SqT.of ha,aB (k:=1) rfl,b,rfl,⟨_,SqT.of hb⟩,fun D hD=>jj hb rl hd' hn (by lia) l6 hD ⟨_,rfl⟩ fun H2 s2 eD=>?_⟩
   have el:=rl.length
   refine⟨_,D,(txL ts).map S,rfl,rfl,SqL.of eD,?_,?_⟩
   ·rw[zO]
    exact cM (fun p hp=>Fe (ji rl hd' (by lia) p hp) (by decide)) (by rw[cU,Eb]; lia)
   ·rw[zO,fP]
    refine⟨_,rfl,?_,_,rfl,.inr ⟨_,rfl,bC (by lia),_,rfl,?_,_,rfl,?_,?_,?_⟩⟩
    ·rw[f9,cC]
     exact bC (by decide)
    ·rw[f9,cC,aQ]
     exact bC (by rw[Ec,Ef]; lia)
    ·rw[f9,jt,cC,aQ,aQ]
     exact bC (by rw[Ec,Ec,Ef,Ef]; lia)
    ·rw[f9,jt,cC,aQ,aQ]
     exact bC (by rw[Ec,Ec,Ef,Ef]; lia)
    ·rw[f9,jt,cC,aQ,aQ]
     have q':=q H2 s2
     rw[txT] at q'
     exact q'
theorem dR {a b:List Nat} (h:a.length+b.length<=1000000):(S a).length+(S b).length<=sizeLine:=by
 rw[eO,eO]
 exact Fe h (by decide)
theorem cH {d k:Nat} (F:Fun K "_law_term_text" "_law_term_text" dF f fd) (B:Bt mg)
  (D_law_term_text:Df P w K mg base "_law_term_text" k ["_law_term_here"] (jE d)):dw P w K mg base CX0 (k+1) f fd ["_law_term_here"] (jE (d+1)):=by
 refine F.ok fV (fun vs H Q E h=>?_) (fun cdv A outer s H vs Q E hr h=>?_)
 ·obtain⟨v,n,t,rfl,_⟩:=h
  rfl
 ·obtain⟨v,n,t,rfl,rt,hd,hn,h4,q⟩:=h
  refine⟨_,(au (bx (aD (r:=rIn K false) gq (aR (r:=dI K) aX (pv 0) aq (fun _ _=>rfl)) (bI (aa aC (aa aC aj))) rfl) (aA (aJ (aO b8 (aO b8 aC (gD Fv G5 G4 jz (aR (r:=gZ K) bf (cD (aa aC (aa aC aj))) (aY (r:=Bb) pR rfl B.int_ mH (aa (cN bJ (aR (r:=dI K) aX (pv 0) aq (fun _ _=>rfl)) aC (aM _)) aj)) (fun _ _=>rfl)) (aa (cg (L:=["_law_part"]) (F:=[]) (cap:=[]) rfl (bR rfl rfl (by kernel_rfl)) (d7 (aR (r:=dI K) aX (pv 0) aq (fun _ _=>rfl))) (fun _ _ _ _ _=>(aN (i:=0) (bD (by decide+kernel)) rfl (Ez rfl))) (fun _ _ _ _ _=>bU) (fun _ _ _ _ _=>(aV D_law_term_text hr (aa (pv 0) aj)))) aj))) aC))) aH)
 (au (bx (aD bJ (aR (r:=dI K) aX (pv 0) aq (fun _ _=>rfl)) aC (aM _)) (aA (aJ (aO b8 (aO b8 (aY cz rfl B.str_ jf (aa (aR (r:=dI K) aX (pv 0) aq (fun _ _=>rfl)) aj)) aC) (aY cz rfl B.str_ jf (aa (aR (r:=dI K) aX (pv 0) aq (fun _ _=>rfl)) aj))))) aH)
 (au (bx (aD (r:=rIn K false) gq (aR (r:=dI K) aX (pv 0) aq (fun _ _=>rfl)) (bI (aa aC (aa aC aj))) rfl) (aA (aJ (aR (r:=dI K) aX (pv 0) aq (fun _ _=>rfl)))) aH)
 (au (bc (i:=1) fV.nd rfl (Ez rfl) (aO b8 (aO b8 (gD Fv G5 G4 jz aC (aa (cg (L:=["_law_one"]) (F:=[]) (cap:=[]) rfl (bR rfl rfl (by kernel_rfl)) (d7 (aR (r:=dI K) aX (pv 0) aq (fun _ _=>rfl))) (fun _ _ _ _ _=>(aN (i:=0) (bD (by decide+kernel)) rfl (Ez rfl))) (fun _ _ _ _ _=>bU) (fun _ _ _ _ _=>(aY cz rfl B.str_ jf (aa (pv 0) aj)))) aj)) aC) (aY cz rfl B.str_ jf (aa (aR (r:=dI K) aX (pv 0) aq (fun _ _=>rfl)) aj))))
 (aA (aJ (rM (aD bJ (aR (r:=dI K) aX (pv 0) aq (fun _ _=>rfl)) aC (aM _)) (pv 1) (aO b8 (aO b8 (aY cz rfl B.str_ jf (aa (aR (r:=dI K) aX (pv 0) aq (fun _ _=>rfl)) aj)) aC) (pv 1))))))))),?_⟩
  have ln:=fH rt hd h4
  cases rt with
  | @free a ha =>
   refine⟨_,rfl,a,_,_,_,rfl,rfl,SqT.of ha,aB (k:=0) rfl,small (by show 2<=1000; decide),fun p1 h1=>⟨p1,_,rfl,.inr (SqT.of ao),rfl,rfl,_,rfl,fB (by decide+kernel) ?_⟩⟩
   generalize eH1:upd H p1 _=H1
   obtain⟨g1,_⟩:=aL eH1 h1
   refine⟨_,rfl,a,_,_,_,rfl,rfl,SqT.of (g1 _ _ ha),aB (k:=0) rfl,rfl,_,rfl,bG (aK (by decide)) ?_⟩
   refine⟨_,rfl,a,_,_,_,rfl,rfl,SqT.of (g1 _ _ ha),aB (k:=0) rfl,small (by show 2<=1000; decide),fun p2 h2=>⟨p2,_,rfl,.inr (SqT.of ao),rfl,rfl,_,rfl,wC (by decide+kernel) ?_⟩⟩
   generalize eH2:upd H1 p2 _=H2
   obtain⟨g2,_⟩:=aL eH2 h2
   have q':=q H2 (g1.trans g2)
   rw[txT,← rZ] at q'
   exact⟨_,rfl,a,_,_,_,rfl,rfl,SqT.of (g2 _ _ (g1 _ _ ha)),aB (k:=0) rfl,q'⟩
  | @never a ha =>
   refine⟨_,rfl,a,_,_,_,rfl,rfl,SqT.of ha,aB (k:=0) rfl,small (by show 2<=1000; decide),fun p1 h1=>⟨p1,_,rfl,.inr (SqT.of ao),rfl,rfl,_,rfl,fB (by decide+kernel) ?_⟩⟩
   generalize eH1:upd H p1 _=H1
   obtain⟨g1,_⟩:=aL eH1 h1
   refine⟨_,rfl,a,_,_,_,rfl,rfl,SqT.of (g1 _ _ ha),aB (k:=0) rfl,rfl,_,rfl,bG (aK (by decide)) ?_⟩
   refine⟨_,rfl,a,_,_,_,rfl,rfl,SqT.of (g1 _ _ ha),aB (k:=0) rfl,small (by show 2<=1000; decide),fun p2 h2=>⟨p2,_,rfl,.inr (SqT.of ao),rfl,rfl,_,rfl,wC (by decide+kernel) ?_⟩⟩
   generalize eH2:upd H1 p2 _=H2
   obtain⟨g2,_⟩:=aL eH2 h2
   have q':=q H2 (g1.trans g2)
   rw[txT,← mW] at q'
   exact⟨_,rfl,a,_,_,_,rfl,rfl,SqT.of (g2 _ _ (g1 _ _ ha)),aB (k:=0) rfl,q'⟩
  | @gives a i kk ha hi k1 k9 =>
   have e1:((toString (i:Int):String):Str)=S (dg i):=rO i (by lia)
   have e2:=eF (i:=kk) (by lia) (by lia)
   have l1:=(cu i).2
   have l2:=(cu kk.toNat).2
   refine⟨_,rfl,a,_,_,_,rfl,rfl,SqT.of ha,aB (k:=0) rfl,small (by show 2<=1000; decide),fun p1 h1=>⟨p1,_,rfl,.inr (SqT.of ao),rfl,rfl,_,rfl,fB (by decide+kernel) ?_⟩⟩
   generalize eH1:upd H p1 _=H1
   obtain⟨g1,_⟩:=aL eH1 h1
   refine⟨_,rfl,a,_,_,_,rfl,rfl,SqT.of (g1 _ _ ha),aB (k:=0) rfl,rfl,_,rfl,gK rfl ?_⟩
   refine⟨_,rfl,a,_,_,_,rfl,rfl,SqT.of (g1 _ _ ha),aB (k:=1) rfl,(i:Int),rfl,jF (by lia) (by lia),_,_,rfl,rfl,?_,_,rfl,a,_,_,_,rfl,rfl,SqT.of (g1 _ _ ha),aB (k:=2) rfl,kk,rfl,jF (by lia) (by lia),_,_,rfl,rfl,?_,?_⟩
   ·rw[e1,bB]
    exact dR (by rw[Ef]; lia)
   ·rw[e1,e2,bB,aQ]
    exact dR (by rw[Ec,Ef]; lia)
   ·rw[e1,e2,bB,aQ,aQ,Fg]
    have q':=q H1 g1
    rw[txT] at q'
    exact q'
  | @sum a b c kk ha hb hc hp l20 l2 k1 k99 =>
   have e2:=eF (i:=kk) (by lia) (by lia)
   have l1:=fO c
   have l2:=(cu kk.toNat).2
   refine⟨_,rfl,a,_,_,_,rfl,rfl,SqT.of ha,aB (k:=0) rfl,small (by show 2<=1000; decide),fun p1 h1=>⟨p1,_,rfl,.inr (SqT.of ao),rfl,rfl,_,rfl,fB (by decide+kernel) ?_⟩⟩
   generalize eH1:upd H p1 _=H1
   obtain⟨g1,_⟩:=aL eH1 h1
   refine⟨_,rfl,a,_,_,_,rfl,rfl,SqT.of (g1 _ _ ha),aB (k:=0) rfl,rfl,_,rfl,bG (aK (by decide)) ?_⟩
   refine⟨_,rfl,a,_,_,_,rfl,rfl,SqT.of (g1 _ _ ha),aB (k:=0) rfl,small (by show 2<=1000; decide),fun p2 h2=>⟨p2,_,rfl,.inr (SqT.of ao),rfl,rfl,_,rfl,fB (by decide+kernel) ?_⟩⟩
   generalize eH2:upd H1 p2 _=H2
   obtain⟨g2,_⟩:=aL eH2 h2
   have g:=g1.trans g2
   refine⟨rfl,_,rfl,a,_,_,_,rfl,rfl,SqT.of (g _ _ ha),aB (k:=1) rfl,b,rfl,⟨_,SqT.of (g _ _ hb)⟩,fun D hD=>lC (g _ _ hb) (fun i hi=>Em (hc i hi) hn) l20 hD ⟨_,rfl⟩ fun H3 s3 eD=>?_⟩
   refine⟨_,D,(c.map dg).map S,rfl,rfl,SqL.of eD,?_,?_⟩
   ·rw[gR]
    exact cM (fun p hp=>Fe (qF p hp) (by decide)) (by rw[Eb]; exact l20)
   ·rw[gR,fP]
    have g3:=g.trans s3
    refine⟨_,_,rfl,rfl,?_,_,rfl,a,_,_,_,rfl,rfl,SqT.of (g3 _ _ ha),aB (k:=2) rfl,kk,rfl,jF (by lia) (by lia),_,_,rfl,rfl,?_,?_⟩
    ·rw[bB]
     exact dR (by rw[Ef]; show (txC c).length+1<=_; lia)
    ·rw[bB,e2,aQ]
     exact dR (by rw[Ec,Ef]; show (txC c).length+1+_<=_; lia)
    ·refine⟨_,rfl,a,_,_,_,rfl,rfl,SqT.of (g3 _ _ ha),aB (k:=0) rfl,rfl,_,rfl,gK rfl ⟨_,rfl,?_⟩⟩
     rw[bB,e2,aQ,aQ,Fg]
     have q':=q H3 g3
     rw[txT] at q'
     exact q'
  | @crowd a b c kk mm ha hb hc hp l20 l1 k1 k9 m1 m12 =>
   have e2:=eF (i:=kk) (by lia) (by lia)
   have e3:=eF (i:=mm) (by lia) (by lia)
   have l1:=fO c
   have l2:=(cu kk.toNat).2
   have l3:=(cu mm.toNat).2
   refine⟨_,rfl,a,_,_,_,rfl,rfl,SqT.of ha,aB (k:=0) rfl,small (by show 2<=1000; decide),fun p1 h1=>⟨p1,_,rfl,.inr (SqT.of ao),rfl,rfl,_,rfl,fB (by decide+kernel) ?_⟩⟩
   generalize eH1:upd H p1 _=H1
   obtain⟨g1,_⟩:=aL eH1 h1
   refine⟨_,rfl,a,_,_,_,rfl,rfl,SqT.of (g1 _ _ ha),aB (k:=0) rfl,rfl,_,rfl,bG (aK (by decide)) ?_⟩
   refine⟨_,rfl,a,_,_,_,rfl,rfl,SqT.of (g1 _ _ ha),aB (k:=0) rfl,small (by show 2<=1000; decide),fun p2 h2=>⟨p2,_,rfl,.inr (SqT.of ao),rfl,rfl,_,rfl,fB (by decide+kernel) ?_⟩⟩
   generalize eH2:upd H1 p2 _=H2
   obtain⟨g2,_⟩:=aL eH2 h2
   have g:=g1.trans g2
   refine⟨rfl,_,rfl,a,_,_,_,rfl,rfl,SqT.of (g _ _ ha),aB (k:=1) rfl,b,rfl,⟨_,SqT.of (g _ _ hb)⟩,fun D hD=>lC (g _ _ hb) (fun i hi=>Em (hc i hi) hn) l20 hD ⟨_,rfl⟩ fun H3 s3 eD=>?_⟩
   refine⟨_,D,(c.map dg).map S,rfl,rfl,SqL.of eD,?_,?_⟩
   ·rw[gR]
    exact cM (fun p hp=>Fe (qF p hp) (by decide)) (by rw[Eb]; exact l20)
   ·rw[gR,fP]
    have g3:=g.trans s3
    refine⟨_,_,rfl,rfl,?_,_,rfl,a,_,_,_,rfl,rfl,SqT.of (g3 _ _ ha),aB (k:=2) rfl,kk,rfl,jF (by lia) (by lia),_,_,rfl,rfl,?_,?_⟩
    ·rw[bB]
     exact dR (by rw[Ef]; show (txC c).length+1<=_; lia)
    ·rw[bB,e2,aQ]
     exact dR (by rw[Ec,Ef]; show (txC c).length+1+_<=_; lia)
    ·refine⟨_,rfl,a,_,_,_,rfl,rfl,SqT.of (g3 _ _ ha),aB (k:=0) rfl,rfl,_,rfl,bG (aK (by decide)) ?_⟩
     refine⟨_,rfl,a,_,_,_,rfl,rfl,SqT.of (g3 _ _ ha),aB (k:=3) rfl,mm,rfl,jF (by lia) (by lia),_,_,rfl,rfl,?_,_,rfl,_,_,rfl,rfl,?_,?_⟩
     ·rw[e3,fX]
      exact dR (by rw[Ef]; lia)
     ·rw[e3,fX,bB,e2,aQ,aQ,aQ]
      exact dR (by rw[Ec,Ec,Ec,Ef,Ef]; show _+((txC c).length+1+_)<=_; lia)
     ·rw[e3,fX,bB,e2,aQ,aQ,aQ,aQ,Fg,Fg]
      have q':=q H3 g3
      rw[txT] at q'
      exact q'
  | @all a b us ts ha hb l2 l6 rl =>
   rw[txT,El,Ec] at ln
   have el:=rl.length
   have hd':tdL ts<=d:=by rw[Tm.dep] at hd; lia
   refine⟨_,rfl,a,_,_,_,rfl,rfl,SqT.of ha,aB (k:=0) rfl,small (by show 2<=1000; decide),fun p1 h1=>⟨p1,_,rfl,.inr (SqT.of ao),rfl,rfl,_,rfl,wC (by decide+kernel) ?_⟩⟩
   generalize eH1:upd H p1 _=H1
   obtain⟨g1,_⟩:=aL eH1 h1
   refine⟨small (by show 2<=1000; decide),fun p2 h2=>?_⟩
   generalize eH2:upd H1 p2 _=H2
   obtain⟨g2,e2⟩:=aL eH2 h2
   have g:=g1.trans g2
   refine⟨_,rfl,a,_,_,_,rfl,rfl,SqT.of (g _ _ ha),aB (k:=0) rfl,rfl,.inr ⟨_,rfl,p2,_,_,_,rfl,rfl,SqL.of e2,(by decide+kernel:atI [V.str "|",V.str "&"] (if decide (V.str "all" = V.str "all") then 1 else 0)=some (V.str "&")),?_⟩⟩
   refine⟨rfl,_,rfl,a,_,_,_,rfl,rfl,SqT.of (g _ _ ha),aB (k:=1) rfl,b,rfl,⟨_,SqT.of (g _ _ hb)⟩,fun D hD=>jj (g _ _ hb) (rl.mono g) hd' hn (by lia) l6 hD ⟨_,rfl⟩ fun H3 s3 eD=>?_⟩
   refine⟨_,D,(txL ts).map S,rfl,rfl,SqL.of eD,?_,?_⟩
   ·rw[tU]
    exact cM (fun p hp=>Fe (ji rl hd' (by lia) p hp) (by decide)) (by rw[cU,Eb]; lia)
   ·rw[tU,fP]
    refine⟨_,_,rfl,rfl,?_,_,_,rfl,rfl,?_,?_⟩
    ·rw[f9]
     exact dR (by rw[Ef]; lia)
    ·rw[f9,jt,aQ]
     exact dR (by rw[Ec,Ef,Ef]; lia)
    ·rw[f9,jt,aQ,aQ]
     have q':=q H3 (g.trans s3)
     rw[txT] at q'
     exact q'
  | @any a b us ts ha hb l2 l6 rl =>
   rw[txT,El,Ec] at ln
   have el:=rl.length
   have hd':tdL ts<=d:=by rw[Tm.dep] at hd; lia
   refine⟨_,rfl,a,_,_,_,rfl,rfl,SqT.of ha,aB (k:=0) rfl,small (by show 2<=1000; decide),fun p1 h1=>⟨p1,_,rfl,.inr (SqT.of ao),rfl,rfl,_,rfl,wC (by decide+kernel) ?_⟩⟩
   generalize eH1:upd H p1 _=H1
   obtain⟨g1,_⟩:=aL eH1 h1
   refine⟨small (by show 2<=1000; decide),fun p2 h2=>?_⟩
   generalize eH2:upd H1 p2 _=H2
   obtain⟨g2,e2⟩:=aL eH2 h2
   have g:=g1.trans g2
   refine⟨_,rfl,a,_,_,_,rfl,rfl,SqT.of (g _ _ ha),aB (k:=0) rfl,rfl,.inr ⟨_,rfl,p2,_,_,_,rfl,rfl,SqL.of e2,(by decide+kernel:atI [V.str "|",V.str "&"] (if decide (V.str "any" = V.str "all") then 1 else 0)=some (V.str "|")),?_⟩⟩
   refine⟨rfl,_,rfl,a,_,_,_,rfl,rfl,SqT.of (g _ _ ha),aB (k:=1) rfl,b,rfl,⟨_,SqT.of (g _ _ hb)⟩,fun D hD=>jj (g _ _ hb) (rl.mono g) hd' hn (by lia) l6 hD ⟨_,rfl⟩ fun H3 s3 eD=>?_⟩
   refine⟨_,D,(txL ts).map S,rfl,rfl,SqL.of eD,?_,?_⟩
   ·rw[zO]
    exact cM (fun p hp=>Fe (ji rl hd' (by lia) p hp) (by decide)) (by rw[cU,Eb]; lia)
   ·rw[zO,fP]
    refine⟨_,_,rfl,rfl,?_,_,_,rfl,rfl,?_,?_⟩
    ·rw[f9]
     exact dR (by rw[Ef]; lia)
    ·rw[f9,jt,aQ]
     exact dR (by rw[Ec,Ef,Ef]; lia)
    ·rw[f9,jt,aQ,aQ]
     have q':=q H3 (g.trans s3)
     rw[txT] at q'
     exact q'
abbrev fU:Stmt:=top 28
abbrev gk:Stmt:=top 29
abbrev gG:Stmt:=top 30
theorem lQ:aW ["text"] ["text"] (aG fU):=⟨rfl,rfl,rfl,by decide+kernel,rfl,by decide+kernel,by decide+kernel⟩
theorem nq:aW ["text"] ["text"] (aG gk):=⟨rfl,rfl,rfl,by decide+kernel,rfl,by decide+kernel,by decide+kernel⟩
theorem b7:aW ["text","head","colon","step","many","star","crowd"] ["text"] (aG gG):=⟨rfl,rfl,rfl,by decide+kernel,rfl,by decide+kernel,by decide+kernel⟩
theorem vY:(("" : String):Str)=S []:=by decide+kernel
theorem xT:(("0" : String):Str)=S [48]:=by decide+kernel
def CG:List Nat:=[48,49,50,51,52,53,54,55,56,57]
theorem wM {x:Nat} (h1:48<=x) (h2:x<=57):x∈CG:=by
 have:x=48∨x=49∨x=50∨x=51∨x=52∨x=53∨x=54∨x=55∨x=56∨x=57:=by lia
 rcases this with rfl | rfl | rfl | rfl | rfl | rfl | rfl | rfl | rfl | rfl <;> decide
theorem zH {l:List Nat} (h:∀ x∈l,x < 128):Bj (S l):=by
 unfold Bj
 rw[← Array.all_toList]
 exact List.all_eq_true.mpr fun x hx=>decide_eq_true (h x hx)
theorem vy (l:List Nat):(S l).cps.size=l.length:=by simp
theorem Cy {l:List Nat} {i:Nat} (h:i < l.length):sgn (S l) i = .str (S [l[i]]):=by
 have:(S l).cps.getD i 0=l[i]:=by simp [Array.getD,h]
 unfold sgn
 rw[this]
def Bl:Sp:=fun vs H Q _=>∃ n:Nat,vs=[.str (S (dg n))]/\n < 100/\∀ H',bu H H'->Q (.int (n:Int)) H'
theorem lO {t1 t2:K3} {z:Str} (F:Fun K "read_number" "read_number" fU f fd) (B:Bt mg) (c_MOST_FIGURES:mg "MOST_FIGURES" = some (.int 9 t1)) (c_FIGURES:mg "FIGURES" = some (.str z t2)) (hz:z=S CG)
  (D_is_number:Df P w K mg base "is_number" 1 ["thing","low","high"] iH):dw P w K mg base CX0 2 f fd ["text"] Bl:=by
 refine F.ok lQ (fun vs H Q E h=>?_) (fun cdv A outer s H vs Q E hr h=>?_)
 ·obtain⟨n,rfl,_⟩:=h
  rfl
 ·obtain⟨n,rfl,hn,q⟩:=h
  refine⟨_,(au (bx (PW.pt (iK (cP (cJ (aV D_is_number hr (aa (aF jR rfl B.len_ cO (aa (pv 0) aj)) (aa aq (aa (jm c_MOST_FIGURES) aj)))))) (d9 (cP (cJ (aF (r:=wF K) (km rfl) rfl B.all_ uG (aa (cg (L:=["sign"]) (F:=[]) (cap:=[]) rfl (bR rfl rfl (by kernel_rfl)) (Ax (pv 0)) (fun _ _ _ _ _=>(aN (i:=0) (bD (by decide+kernel)) rfl (Ez rfl))) (fun _ _ _ _ _=>bU) (fun _ _ _ _ _=>(cN pJ (pv 0) (Cv c_FIGURES) rfl))) aj))))))) (aA fj) aH)
 (au (bx (PW.pt (mz (aD bJ (aR (r:=Cm) yg (pv 0) aq (fun _ _=>rfl)) aC (aM _)) (jC (aD tH (aF jR rfl B.len_ cO (aa (pv 0) aj)) aq (aM _))))) (aA fj) aH)
 (aA (aJ (aY (r:=An) uN rfl B.int_ mH (aa (pv 0) aj)))))),?_⟩
  obtain⟨l1,l2⟩:=cu n
  refine⟨_,rfl,_,rfl,bC (by lia),.int ((S (dg n)).length:Int),1,9,rfl,.int _,_,rfl,?_⟩
  rw[eN (by rw[eO]; lia) (by rw[eO]; lia)]
  refine cW ⟨_,rfl,S (dg n),rfl,zH fun x hx=>by have:=lZ n x hx; lia,fun D hD=>xg (x:=S (dg n)) (fun i zs σ' H2=>(∃ u,σ'=[u])/\zs=(Gf i true).map V.bl/\bu H H2/\H2 D=some (.lst zs))
   ⟨⟨_,rfl⟩,rfl,az hD _,ao⟩ (fun i zs σ' H2 _ h=>h.2.2.2) ?_ ?_⟩
  ·rintro i zs σ' H2 hi ⟨⟨u,rfl⟩,e1,sm,hDl⟩
   rw[vy] at hi
   rw[Cy hi]
   refine gT ?_
   refine⟨_,rfl,S [(dg n)[i]],z,rfl,rfl,hDl,?_,⟨_,rfl⟩,?_,bh sm hD _,ao⟩
   ·rw[e1,Eb,G6]
    exact aU (by lia)
   ·have:=lZ n _ (K5 hi)
    rw[e1,hz,vZ,decide_eq_true (wM this.1 this.2),Jm,Er]
    rfl
  ·rintro zs σ' H2 ⟨_,e1,sm,hDl⟩
   refine⟨D,_,rfl,SqL.of (by rw[hDl,e1]),_,rfl,?_⟩
   rw[nD]
   refine cW ?_
   obtain⟨c,hc⟩:∃ c,(dg n)[0]? = some c:=⟨_,Ff (by lia)⟩
   refine⟨_,rfl,S (dg n),0,c,rfl,rfl,bC (by lia),iM (xs:=dg n) hc,rfl,_,rfl,?_⟩
   have fin:∀ H3,bu H H3->PySem.intText? (S (dg n))=some (n:Int)/\(S (dg n)).length<=640/\Q (.int (n:Int)) H3:=fun H3 s3=>⟨zJ n hn,by rw[eO]; lia,q H3 s3⟩
   refine qL (fun cc=>?_) (fun cc=>?_)
   ·have e0:c=48:=by
     have:=of_decide_eq_true cc
     rw[xT] at this
     have e:=tu (V.str.inj this)
     exact (Ji e).1
    have e1:=zj n hn (by rw[List.head?_eq_getElem?,hc,e0])
    refine⟨_,rfl,_,rfl,bC (by lia),_,_,rfl,rfl,_,rfl,?_⟩
    refine bG (by rw[eO]; lia) ?_
    exact⟨_,rfl,_,_,rfl,fin H2 sm⟩
   ·exact⟨_,rfl,_,_,rfl,fin H2 sm⟩
def CW:Sp:=fun vs H Q _=>∃ c:List Nat,vs=[.str (S (txC c))]/\(∀ i∈c,i < 100)/\1<=c.length/\c.length<=20/\∀ p H',bu H H'->H' p=some (.tup (c.map vN))->Q (.ref p) H'
theorem qd {e:Nat} (h:e < 48∨57 < e) (n:Nat):e ∉ dg n:=fun z=>by
 have:=lZ n e z
 lia
theorem uW {c:List Nat} (h:1<=c.length):Jp (S (txC c)) (S [43])=(c.map dg).map S:=rn (fun p hp=>by
 obtain⟨i,_,rfl⟩:=List.mem_map.mp hp
 exact qd (by decide) i) (fun z=>by rw[List.map_eq_nil_iff.mp z] at h; exact absurd h (by decide))
theorem mY (F:Fun K "read_crowd" "read_crowd" gk f fd) (B:Bt mg)
  (D_read_number:Df P w K mg base "read_number" 2 ["text"] Bl):dw P w K mg base CX0 3 f fd ["text"] CW:=by
 refine F.ok nq (fun vs H Q E h=>?_) (fun cdv A outer s H vs Q E hr h=>?_)
 ·obtain⟨c,rfl,_⟩:=h
  rfl
 ·obtain⟨c,rfl,hc,l1,l20,q⟩:=h
  refine⟨_,(aA (aJ (aY (r:=gF K) bO rfl B.tuple_ bL (aa (cg (L:=["word"]) (F:=[]) (cap:=[]) rfl (bR rfl rfl (by kernel_rfl)) (gA (gD Fv PySem.F.slot_str_split PySem.F.type_str_split sH (pv 0) (aa aC aj))) (fun _ _ _ _ _=>(aN (i:=0) (bD (by decide+kernel)) rfl (Ez rfl))) (fun _ _ _ _ _=>bU) (fun _ _ _ _ _=>(aV D_read_number hr (aa (pv 0) aj)))) aj)))),?_⟩
  have ln:=fO c
  refine⟨_,rfl,rfl,_,_,rfl,rfl,rfl,?_,?_,fun p hp=>?_⟩
  ·rw[eO]
   lia
  ·rw[gR,uW l1,Eb,Eb]
   lia
  ·rw[gR,uW l1]
   generalize eH1:upd H p _=H1
   obtain⟨g1,e1⟩:=aL eH1 hp
   refine⟨p,rfl,⟨_,SqL.of e1⟩,fun D hD=>gB (K:=K) (a:=p) (xs:=((c.map dg).map S).map V.str) (fun i zs σ' H2=>(∃ u,σ'=[u])/\zs=(c.take i).map vN/\bu H1 H2/\H2 D=some (.lst zs))
    ⟨⟨_,rfl⟩,rfl,az hD _,ao⟩ (fun i zs σ' H2 _ h=>⟨SqL.of (h.2.2.1 _ _ e1),h.2.2.2⟩) ?_ ?_⟩
   ·rintro j zs x σ' H2 hx ⟨⟨u,rfl⟩,ez,sm,hDl⟩
    rw[Fd,Fd,Fd] at hx
    cases hi:c[j]? with
    | none=>rw[hi] at hx; cases hx
    | some i =>
     rw[hi] at hx
     have hx:V.str (S (dg i))=x:=FW hx
     subst hx
     refine gT ?_
     refine⟨_,rfl,i,rfl,hc i (Fj hi),fun H3 s3=>⟨s3 _ _ hDl,?_,⟨_,rfl⟩,?_,bh (sm.trans s3) hD _,ao⟩⟩
     ·rw[ez,Eb,Fi]
      exact aU (by lia)
     ·rw[ez,Fw,hi,Er]
      rfl
   ·rintro zs σ' H2 ⟨_,ez,sm,hDl⟩
    rw[Eb,Eb,Eb,Fo] at ez
    refine⟨D,_,rfl,.inl ⟨SqL.of (by rw[hDl,ez]),fun pt hpt=>?_⟩⟩
    exact q pt _ (g1.trans (sm.trans (az hpt _))) ao
theorem ql {l:List Nat} (h:58∈l):V.str (S l)≠V.str "free":=fun z=>by
 rw[rZ] at z
 rw[tu (V.str.inj z)] at h
 exact absurd h (by decide)
theorem ni {l:List Nat} (h:58∈l):V.str (S l)≠V.str "never":=fun z=>by
 rw[mW] at z
 rw[tu (V.str.inj z)] at h
 exact absurd h (by decide)
theorem xY {e:Nat} (h:e < 43∨57 < e) (c:List Nat):e ∉ txC c:=fun z=>(kY (P:=fun x=>x≠e) (by lia) (fun p hp x hx=>by
 obtain⟨i,_,rfl⟩:=List.mem_map.mp hp
 have:=lZ i x hx
 lia) e z) rfl
theorem Ai:∀ {c:List Nat},2<=c.length->43∈txC c
 | [],h=>by simp at h
 | [_],h=>by simp at h
 | a::b::r,_=>Es _ Ek
def leaf:Tm->Prop
 | .all _=>False
 | .any _=>False
 | _=>True
def CQ:Sp:=fun vs H Q _=>∃ (t:Tm) (v0:V) (n:Nat),vs=[.str (S (txT t))]/\dm n H v0 t/\leaf t/\n<=12/\∀ v H',bu H H'->dm n H' v t->Q v H'
theorem mem_mid {a b:List Nat} {e:Nat}:e∈a++e::b:=Es _ Ek
theorem nR (F:Fun K "read_plain" "read_plain" gG f fd) (B:Bt mg)
  (D_read_number:Df P w K mg base "read_number" 2 ["text"] Bl) (D_read_crowd:Df P w K mg base "read_crowd" 3 ["text"] CW):dw P w K mg base CX0 4 f fd ["text"] CQ:=by
 refine F.ok b7 (fun vs H Q E h=>?_) (fun cdv A outer s H vs Q E hr h=>?_)
 ·obtain⟨t,v0,n,rfl,_⟩:=h
  rfl
 ·obtain⟨t,v0,n,rfl,rt,lf,hn,q⟩:=h
  refine⟨_,(au (bx (PW.pt (iK (aD bJ (pv 0) aC (aM _)) (d9 (aD bJ (pv 0) aC (aM _))))) (aA (aJ (bI (aa (pv 0) aj)))) aH)
 (au (sO (gD Fv Lr Lq rG (pv 0) (aa aC aj)) (eZ (K:=K) 3 rfl rfl (bz (aN (i:=1) b7.nd rfl (Ez rfl)) (bz (aN (i:=2) b7.nd rfl (Ez rfl)) (bz (aN (i:=3) b7.nd rfl (Ez rfl)) fC)))))
 (au (sO (gD Fv Lr Lq rG (pv 1) (aa aC aj)) (eZ (K:=K) 3 rfl rfl (bz (aN (i:=4) b7.nd rfl (Ez rfl)) (bz (aN (i:=5) b7.nd rfl (Ez rfl)) (bz (aN (i:=6) b7.nd rfl (Ez rfl)) fC)))))
 (au (bx (aD wk (pv 5) aC (aM _)) (aA (aJ (bI (aa aC (aa (aV D_read_crowd hr (aa (pv 6) aj)) (aa (aV D_read_number hr (aa (pv 3) aj)) (aa (aV D_read_number hr (aa (pv 4) aj)) aj))))))) aH)
 (au (bx (aD pJ aC (pv 1) rfl) (aA (aJ (bI (aa aC (aa (aV D_read_crowd hr (aa (pv 1) aj)) (aa (aV D_read_number hr (aa (pv 3) aj)) aj)))))) aH)
 (aA (aJ (bI (aa aC (aa (aV D_read_number hr (aa (pv 1) aj)) (aa (aV D_read_number hr (aa (pv 3) aj)) aj))))))))))),?_⟩
  have ln:=fH rt (d:=4) (by cases rt <;> first | exact lf.elim | (show 1<=4; decide)) (Ei _)
  cases rt with
  | @free a ha =>
   rw[show S (txT .free)=("free" : Str) by rw[txT,rZ]]
   refine⟨_,rfl,rfl,_,rfl,gK rfl (iV ?_)⟩
   exact⟨_,rfl,small (by show 1<=1000; decide),fun p hp=>q (.ref p) _ (az hp _) (.free ao)⟩
  | @never a ha =>
   rw[show S (txT .never)=("never" : Str) by rw[txT,mW]]
   refine⟨_,rfl,rfl,_,rfl,bG (aK (by decide)) ⟨_,rfl,rfl,_,rfl,gK rfl ?_⟩⟩
   exact⟨_,rfl,small (by show 1<=1000; decide),fun p hp=>q (.ref p) _ (az hp _) (.never ao)⟩
  | @gives a i kk ha hi k1 k9 =>
   rw[txT] at ln ⊢
   refine⟨_,rfl,rfl,_,rfl,bG (ql mem_mid) ⟨_,rfl,rfl,_,rfl,bG (ni mem_mid) ?_⟩⟩
   refine⟨_,rfl,rfl,_,_,rfl,rfl,rfl,bC (by lia),fun p1 h1=>?_⟩
   rw[bB,j4 (qd (by decide) _)]
   generalize eH1:upd H p1 _=H1
   obtain⟨g1,e1⟩:=aL eH1 h1
   refine⟨p1,_,rfl,SqT.of e1,rfl,_,_,rfl,_,_,rfl,_,_,rfl,rfl,?_⟩
   refine⟨_,rfl,rfl,_,_,rfl,rfl,rfl,bC (by have:=cu i; lia),fun p2 h2=>?_⟩
   rw[fX,rT (qd (by decide) _)]
   generalize eH2:upd H1 p2 _=H2
   obtain⟨g2,e2⟩:=aL eH2 h2
   refine⟨p2,_,rfl,SqT.of e2,rfl,_,_,rfl,_,_,rfl,_,_,rfl,rfl,?_⟩
   refine⟨_,rfl,rfl,_,rfl,fB (by rw[vY,decide_eq_true rfl]; rfl) ?_⟩
   refine⟨_,rfl,_,_,rfl,rfl,_,rfl,?_⟩
   rw[gR,vZ,decide_eq_false (qd (by decide) _)]
   refine cW ?_
   refine⟨_,rfl,i,rfl,by lia,fun H3 s3=>⟨_,rfl,kk.toNat,rfl,by lia,fun H4 s4=>?_⟩⟩
   rw[Hk (by lia)]
   refine⟨small (by show 3<=1000; decide),fun p hp=>q (.ref p) _ (g1.trans (g2.trans (s3.trans (s4.trans (az hp _))))) (.gives ao hi k1 k9)⟩
  | @sum a b c kk ha hb hc hp l20 l2 k1 k99 =>
   rw[txT] at ln ⊢
   refine⟨_,rfl,rfl,_,rfl,bG (ql mem_mid) ⟨_,rfl,rfl,_,rfl,bG (ni mem_mid) ?_⟩⟩
   refine⟨_,rfl,rfl,_,_,rfl,rfl,rfl,bC (by lia),fun p1 h1=>?_⟩
   rw[bB,j4 (qd (by decide) _)]
   generalize eH1:upd H p1 _=H1
   obtain⟨g1,e1⟩:=aL eH1 h1
   refine⟨p1,_,rfl,SqT.of e1,rfl,_,_,rfl,_,_,rfl,_,_,rfl,rfl,?_⟩
   refine⟨_,rfl,rfl,_,_,rfl,rfl,rfl,bC (by have:=fO c; lia),fun p2 h2=>?_⟩
   rw[fX,rT (xY (by decide) _)]
   generalize eH2:upd H1 p2 _=H2
   obtain⟨g2,e2⟩:=aL eH2 h2
   refine⟨p2,_,rfl,SqT.of e2,rfl,_,_,rfl,_,_,rfl,_,_,rfl,rfl,?_⟩
   refine⟨_,rfl,rfl,_,rfl,fB (by rw[vY,decide_eq_true rfl]; rfl) ?_⟩
   refine⟨_,rfl,_,_,rfl,rfl,_,rfl,?_⟩
   rw[gR,vZ,decide_eq_true (Ai l2)]
   refine iV ?_
   refine⟨_,rfl,c,rfl,fun i hi=>by have:=hc i hi; lia,by lia,l20,fun pc H3 s3 e3=>⟨_,rfl,kk.toNat,rfl,by lia,fun H4 s4=>?_⟩⟩
   rw[Hk (by lia)]
   refine⟨small (by show 3<=1000; decide),fun p hp'=>q (.ref p) _ (g1.trans (g2.trans (s3.trans (s4.trans (az hp' _))))) (.sum ao ((s4.trans (az hp' _)) _ _ e3) hc hp l20 l2 k1 k99)⟩
  | @crowd a b c kk mm ha hb hc hp l20 l1 k1 k9 m1 m12 =>
   rw[txT] at ln ⊢
   have em:dg mm.toNat++42::(txC c++58::dg kk.toNat)=(dg mm.toNat++42::txC c)++58::dg kk.toNat:=by simp
   rw[em] at ln ⊢
   refine⟨_,rfl,rfl,_,rfl,bG (ql mem_mid) ⟨_,rfl,rfl,_,rfl,bG (ni mem_mid) ?_⟩⟩
   refine⟨_,rfl,rfl,_,_,rfl,rfl,rfl,bC (by lia),fun p1 h1=>?_⟩
   rw[bB,j4 (qd (by decide) _)]
   generalize eH1:upd H p1 _=H1
   obtain⟨g1,e1⟩:=aL eH1 h1
   refine⟨p1,_,rfl,SqT.of e1,rfl,_,_,rfl,_,_,rfl,_,_,rfl,rfl,?_⟩
   refine⟨_,rfl,rfl,_,_,rfl,rfl,rfl,bC (by have:=fO c; have:=cu mm.toNat; rw[Ec,El]; lia),fun p2 h2=>?_⟩
   rw[fX,j4 (xY (by decide) _)]
   generalize eH2:upd H1 p2 _=H2
   obtain⟨g2,e2⟩:=aL eH2 h2
   refine⟨p2,_,rfl,SqT.of e2,rfl,_,_,rfl,_,_,rfl,_,_,rfl,rfl,?_⟩
   refine⟨_,rfl,rfl,_,rfl,wC (by rw[vY,decide_eq_false (fun z=>by cases tu (V.str.inj z))]; rfl) ?_⟩
   refine⟨_,rfl,c,rfl,fun i hi=>by have:=hc i hi; lia,by lia,l20,fun pc H3 s3 e3=>⟨_,rfl,kk.toNat,rfl,by lia,fun H4 s4=>⟨_,rfl,mm.toNat,rfl,by lia,fun H5 s5=>?_⟩⟩⟩
   rw[Hk (by lia),Hk (by lia)]
   refine⟨small (by show 4<=1000; decide),fun p hp'=>q (.ref p) _ (g1.trans (g2.trans (s3.trans (s4.trans (s5.trans (az hp' _)))))) (.crowd ao ((s4.trans (s5.trans (az hp' _))) _ _ e3) hc hp l20 l1 k1 k9 m1 m12)⟩
  | all _ _ _ _ _=>exact lf.elim
  | any _ _ _ _ _=>exact lf.elim
abbrev dH:Stmt:=top 31
theorem aZ:aW ["text","sign","rows","deep","begin","at","found"] ["text","sign"] (aG dH):=⟨rfl,rfl,rfl,by decide+kernel,rfl,by decide+kernel,by decide+kernel⟩
def soV (c:Nat) (l:List Nat):List V:=((so c l 0 []).map S).map V.str
def CT:Sp:=fun vs H Q _=>∃ (l:List Nat) (c:Nat),vs=[.str (S l),.str (S [c])]/\(∀ x∈l,x < 128)/\l.length<=100000/\∀ p H',bu H H'->H' p=some (.lst (soV c l))->Q (.ref p) H'
theorem yN {l:List Nat} {i:Nat} (h:i < l.length):l.drop i=l[i]::l.drop (i+1):=JB h
theorem gJ {l:List Nat} {b i:Nat} (hb:b<=i) (h:i < l.length):(l.drop b).take (i - b)++[l[i]]=(l.drop b).take (i+1 - b):=by
 rw[show i+1 - b=(i - b)+1 by lia,Fw,List.getElem?_drop,show b+(i - b)=i by lia,Ff h]
 rfl
theorem mF {a b:Nat}:V.str (S [a])=V.str (S [b]) ↔ a=b:=⟨fun z=>(Ji (tu (V.str.inj z))).1,fun z=>by rw[z]⟩
theorem jZ (F:Fun K "split_outside" "split_outside" dH f fd) (B:Bt mg):dw P w K mg base CX0 1 f fd ["text","sign"] CT:=by
 refine F.ok aZ (fun vs H Q E h=>?_) (fun cdv A outer s H vs Q E hr h=>?_)
 ·obtain⟨l,c,rfl,_⟩:=h
  rfl
 ·obtain⟨l,c,rfl,ha,hl,q⟩:=h
  refine⟨_,(au (bc (i:=2) aZ.nd rfl (Ez rfl) (cD aj))
 (au (bc (i:=3) aZ.nd rfl (Ez rfl) aq)
 (au (bc (i:=4) aZ.nd rfl (Ez rfl) aq)
 (au (gP Gs rfl (xr rfl B.enumerate_ (aa (pv 0) aj)) (eZ (K:=K) 2 rfl rfl (bz (aN (i:=5) aZ.nd rfl (Ez rfl)) (bz (aN (i:=6) aZ.nd rfl (Ez rfl)) fC))) (aA (bx (aD bJ (pv 6) aC (aM _)) (aA (xZ (i:=3) aZ.nd rfl (Ez rfl) aq (yp yS))) (aA (bx (aD bJ (pv 6) aC (aM _)) (aA (xZ (i:=3) aZ.nd rfl (Ez rfl) aq (yp zx))) (aA (bx (PW.pt (mz (aD bJ (pv 6) (pv 1) (aM _)) (jC (aD bJ (pv 3) aq (aM _))))) (au (m5 (gD Iv Ih Ig eX (pv 2) (aa (jh (r:=Bo) uU (pv 0) (iC (pv 4)) (iC (pv 5))) aj)))
 (aA (bc (i:=4) aZ.nd rfl (Ez rfl) (aO bT (pv 5) aq)))) aH)))))))
 (aA (aJ (aO yt (pv 2) (cD (aa (jh (r:=Bo) uU (pv 0) (iC (pv 4)) qW) aj))))))))),?_⟩
  refine⟨small (by show 0<=1000; decide),fun pr hpr=>?_⟩
  generalize eH0:upd H pr _=H0
  obtain⟨g0,e0⟩:=aL eH0 hpr
  refine⟨_,rfl,S l,rfl,zH ha,vW (y:=S l) (fun i σ H2=>bu H H2/\∃ (R:List (List Nat)) (d:Int) (b:Nat) (u1 u2:Option V),σ=[some (.str (S l)),some (.str (S [c])),some (.ref pr),some (.int d),some (.int (b:Int)),u1,u2]/\H2 pr=some (.lst ((R.map S).map V.str))/\b<=i/\R.length<=i/\so c l 0 []=R++so c (l.drop i) d ((l.drop b).take (i - b)))
   ⟨g0,[],0,0,_,_,rfl,e0,Ei _,Ei _,rfl⟩ ?_ ?_⟩
  ·rintro i p σ H2 hi hp ⟨s2,R,d,b,u1,u2,rfl,er,hb,hR,es⟩
   rw[vy] at hi
   rw[Cy hi]
   generalize eH3:upd H2 p _=H3
   obtain⟨g3,e3⟩:=aL eH3 hp
   have s3:=s2.trans g3
   have er3:=g3 _ _ er
   rw[yN hi,so] at es
   refine⟨p,_,rfl,SqT.of e3,rfl,_,_,rfl,_,_,rfl,rfl,?_⟩
   refine⟨_,rfl,rfl,_,rfl,?_⟩
   rw[f9]
   by_cases x40:l[i]=40
   ·rw[if_pos x40,gJ hb hi] at es
    exact gK (mF.mpr x40) ⟨_,rfl,_,_,rfl,rfl,s3,R,d+1,b,_,_,rfl,er3,by lia,by lia,es⟩
   ·rw[if_neg x40] at es
    refine bG (fun z=>x40 (mF.mp z)) ?_
    refine⟨_,rfl,rfl,_,rfl,?_⟩
    rw[jt]
    by_cases x41:l[i]=41
    ·rw[if_pos x41,gJ hb hi] at es
     exact gK (mF.mpr x41) ⟨_,rfl,_,_,rfl,rfl,s3,R,d - 1,b,_,_,rfl,er3,by lia,by lia,es⟩
    ·rw[if_neg x41] at es
     refine bG (fun z=>x41 (mF.mp z)) ?_
     refine⟨_,rfl,_,rfl,rfl,_,rfl,?_⟩
     by_cases xc:l[i]=c
     ·refine gK (mF.mpr xc) ?_
      refine⟨_,rfl,rfl,_,rfl,?_⟩
      by_cases x0:d=0
      ·rw[if_pos ⟨xc,x0⟩] at es
       refine gK (by rw[x0]) ?_
       have ec:=vX hb (Hv hi)
       refine⟨_,rfl,.inl ⟨rfl,_,SqL.of er3⟩,_,rfl,_,rfl,_,rfl,_,rfl,_,rfl,S l,rfl,bC (by lia),?_,?_⟩
       ·rw[ec]
        exact bC (by rw[Fi,G3]; lia)
       ·rw[ec]
        refine⟨pr,_,_,rfl,rfl,er3,?_,_,rfl,_,_,rfl,rfl,bh s3 hpr _,R++[(l.drop b).take (i - b)],d,i+1,_,_,rfl,?_,Ei _,?_,?_⟩
        ·rw[Eb,Eb]
         exact Hu (show R.length<=100000 by lia) (by decide)
        ·rw[ao,Er,Er]
         rfl
        ·rw[Ec,Ef]
         lia
        ·rw[es,Nat.sub_self,Jb,Fg]
         rfl
      ·rw[if_neg (fun z=>x0 z.2),gJ hb hi] at es
       exact bG (fun z=>x0 (by injection z)) ⟨s3,R,d,b,_,_,rfl,er3,by lia,by lia,es⟩
     ·rw[if_neg (fun z=>xc z.1),gJ hb hi] at es
      exact bG (fun z=>xc (mF.mp z)) ⟨s3,R,d,b,_,_,rfl,er3,by lia,by lia,es⟩
  ·rintro σ H2 ⟨s2,R,d,b,u1,u2,rfl,er,hb,hR,es⟩
   rw[vy] at hb hR es
   rw[List.drop_length,so,Jc (by rw[G3]; lia)] at es
   have ec:=wJ hb
   refine⟨_,rfl,_,rfl,_,rfl,_,rfl,?_⟩
   unfold uR
   refine⟨S l,rfl,bC (by lia),?_,small (by show 1<=1000; decide),fun p2 h2=>?_⟩
   ·rw[ec]
    exact bC (by rw[G3]; lia)
   ·rw[ec]
    refine⟨pr,p2,_,_,rfl,rfl,(az h2 _) _ _ er,ao,?_,fun p3 h3=>?_⟩
    ·rw[Eb,Eb]
     exact Fe (show R.length+1<=100001 by lia) (by decide)
    ·refine q p3 _ (s2.trans ((az h2 _).trans (az h3 _))) ?_
     unfold soV
     rw[ao,es,Er,Er]
     rfl
abbrev fQ:Stmt:=top 32
abbrev iU:Stmt:=top 33
theorem cZ:aW ["text","deep","sign","kind","rows"] ["text","deep"] (aG fQ):=⟨rfl,rfl,rfl,by decide+kernel,rfl,by decide+kernel,by decide+kernel⟩
theorem jP:aW ["text","term"] ["text"] (aG iU):=⟨rfl,rfl,rfl,by decide+kernel,rfl,by decide+kernel,by decide+kernel⟩
def yQ (d:Nat):Sp:=fun vs H Q _=>∃ (t:Tm) (v0:V) (n dp:Nat),vs=[.str (S (txT t)),.int (dp:Int)]/\dm n H v0 t/\t.dep<=dp/\dp<=d/\d<=4/\n<=12/\∀ v H',bu H H'->dm n H' v t->Q v H'
theorem zy {ps:List Str} {k:Nat}:dw P w K mg base CX0 k f fd ps (yQ 0):=by
 have no:∀ vs H Q E,¬ yQ 0 vs H Q E:=fun vs H Q E h=>by
  obtain⟨t,v0,n,dp,_,_,h1,h2,_⟩:=h
  have:=t.gh
  lia
 exact⟨fun vs H Q E h=>absurd h (no vs H Q E),fun A outer s H args us vs Q E _ _ _ _ h=>absurd h (no vs H Q E)⟩
theorem wy:∀ {t:Tm},leaf t->(txT t).head?≠some 40:=by
 have key:∀ {l:List Nat},40 ∉ l->l.head?≠some 40:=fun h z=>h (List.mem_of_mem_head? z)
 intro t lf
 have m:∀ x,42<=x->x<=58->x≠44->x≠40:=fun x _ _ _=>by lia
 cases t with
 | free=>rw[txT]; decide
 | never=>rw[txT]; decide
 | gives i k=>rw[txT]; exact key fun z=>cT (du m _) (by decide) (du m _) 40 z rfl
 | sum c k=>rw[txT]; exact key fun z=>cT (jw m _) (by decide) (du m _) 40 z rfl
 | crowd c k mm=>rw[txT]; exact key fun z=>cT (du m _) (by decide) (cT (jw m _) (by decide) (du m _)) 40 z rfl
 | all ts=>exact lf.elim
 | any ts=>exact lf.elim
theorem pD {K:FT} {n d dp:Nat} {H:Hp} {b D:Addr} {us:List V} {ts:List Tm} {σ0:St} {Q:Hp->Prop} (hb:H b=some (.lst (((txL ts).map S).map V.str))) (rl:bK n H us ts) (hd:tdL ts<=dp) (hdp:dp<=d) (hn:n<=12) (h4:d<=4) (l:us.length<=6) (hD:H D=none) (h0:∃ u,σ0=[u,some (.int ((dp+1:Nat):Int))])
  (q:∀ H2 vs,bu H H2->H2 D=some (.lst vs)->bK n H2 vs ts->Q H2):eG D σ0 (Itl K b) (mV 0) uc (uX (yQ d) [] E0 (sW (xW 0) (sW (tOp (rI0 fun i j=>.int (i - j)) (xW 1) (tC (.int 1))) zZ))) H Q:=by
 have el:=rl.length
 refine gB (K:=K) (a:=b) (xs:=((txL ts).map S).map V.str) (fun i zs σ' H2=>(∃ u,σ'=[u,some (.int ((dp+1:Nat):Int))])/\bK n H2 zs (ts.take i)/\bu H H2/\H2 D=some (.lst zs))
  ⟨h0,.nil,az hD _,ao⟩ (fun i zs σ' H2 _ h=>⟨SqL.of (h.2.2.1 _ _ hb),h.2.2.2⟩) ?_ ?_
 ·rintro j zs x σ' H2 hx ⟨⟨u,rfl⟩,rz,sm,hDl⟩
  rw[cU,Fd,Fd,Fd] at hx
  cases ht:ts[j]? with
  | none=>rw[ht] at hx; cases hx
  | some t =>
   rw[ht] at hx
   have hx:V.str (S (txT t))=x:=FW hx
   subst hx
   have hj:j < ts.length:=(List.getElem?_eq_some_iff.mp ht).1
   obtain⟨t',ht',rt⟩:=rl.get (Ff (show j < us.length by lia))
   rw[ht] at ht'
   cases ht'
   refine gT ?_
   refine⟨_,rfl,_,rfl,_,_,rfl,rfl,t,_,n,dp,(by show[V.str (S (txT t)),V.int (((dp+1:Nat):Int) - 1)]=_; rw[show ((dp+1:Nat):Int) - 1=(dp:Int) by lia]),rt.mono sm,Fe (iQ ht) hd,hdp,h4,hn,fun v H3 s3 rv=>⟨s3 _ _ hDl,?_,⟨_,rfl⟩,?_,bh (sm.trans s3) hD _,ao⟩⟩
   ·have:=rz.length
    rw[Fi] at this
    exact aU (by lia)
   ·rw[Fw,ht]
    have k:∀ a xs,H3 a=some (HO.tup xs)->upd H3 D (.lst (zs++[v])) a=some (HO.tup xs):=dX (s3 _ _ hDl)
    exact bK.snoc ((rz.mono s3).bW k) (rv.bW k)
 ·rintro zs σ' H2 ⟨_,rz,sm,hDl⟩
  rw[Eb,Eb,cU,Eb,Fo] at rz
  exact q H2 zs sm hDl rz
theorem uJ {c:Nat} (h1:c=38∨c=124) {ts:List Tm} (ne:1<=ts.length):soV c (jn c (txL ts))=((txL ts).map S).map V.str:=by
 unfold soV
 have h:=pN h1 ts 0 (Int.le_refl _)
 cases e:txL ts with
 | nil=>rw[cU] at e; rw[List.map_eq_nil_iff.mp e] at ne; exact absurd ne (by decide)
 | cons p ps =>
  rw[e] at h
  rw[Bf (by lia) (by lia) h]
  rfl
theorem uw {ts:List Tm}:soV 38 (jn 124 (txL ts))=[.str (S (jn 124 (txL ts)))]:=by
 unfold soV
 rw[Ac (nj (by decide) (by decide) (by decide) (pN (.inl rfl) ts 0 (Int.le_refl _)))]
 rfl
theorem cX {d k:Nat} (F:Fun K "read_within" "read_within" fQ f fd) (B:Bt mg) (hk:4<=k)
  (D_read_plain:Df P w K mg base "read_plain" 4 ["text"] CQ) (D_split_outside:Df P w K mg base "split_outside" 1 ["text","sign"] CT) (D_read_within:Df P w K mg base "read_within" k ["text","deep"] (yQ d)):dw P w K mg base CX0 (k+1) f fd ["text","deep"] (yQ (d+1)):=by
 refine F.ok cZ (fun vs H Q E h=>?_) (fun cdv A outer s H vs Q E hr h=>?_)
 ·obtain⟨t,v0,n,dp,rfl,_⟩:=h
  rfl
 ·obtain⟨t,v0,n,dp,rfl,rt,hd,hdp,h4,hn,q⟩:=h
  refine⟨_,(au (bx (aD tZ (pv 1) aq (aM _)) (aA fj) aH)
 (au (bx (cP (cJ (gD Fv PySem.F.slot_str_startswith PySem.F.type_str_startswith ur (pv 0) (aa aC aj)))) (aA (aJ (aV D_read_plain hr (aa (pv 0) aj)))) aH)
 (au (bx (cP (cJ (gD Fv PySem.F.slot_str_endswith PySem.F.type_str_endswith yE (pv 0) (aa aC aj)))) (aA fj) aH)
 (au (gP Gs rfl (d7 (bI (aa (bI (aa aC (aa aC aj))) (aa (bI (aa aC (aa aC aj))) aj)))) (eZ (K:=K) 2 rfl rfl (bz (aN (i:=2) cZ.nd rfl (Ez rfl)) (bz (aN (i:=3) cZ.nd rfl (Ez rfl)) fC))) (au (bc (i:=4) cZ.nd rfl (Ez rfl) (aV D_split_outside hr (aa (jh (r:=Bo) uU (pv 0) (iC aq) (iC (Cj Ba aq))) (aa (pv 2) aj))))
 (aA (bx (aD tH (aF (r:=oh K) bA rfl B.len_ cO (aa (pv 4) aj)) aq (aM _)) (aA (aJ (bI (aa (pv 3) (aa (aY (r:=gF K) bO rfl B.tuple_ bL (aa (cg (L:=["row"]) (F:=["deep"]) (cap:=[1]) rfl (bR rfl rfl (by kernel_rfl)) (gA (pv 4)) (fun _ _ _ _ _=>(aN (i:=0) (bD (by decide+kernel)) rfl (Ez rfl))) (fun _ _ _ _ _=>bU) (fun _ _ _ _ _=>(aV D_read_within hr (aa (pv 0) (aa (aO fW (pv 1) aq) aj))))) aj)) aj))))) aH))))
 (aA fj))))),?_⟩
  have ln:=fH rt hd (by lia)
  have dpos:=t.gh
  refine⟨_,rfl,_,_,rfl,rfl,_,rfl,bG (by lia) ?_⟩
  refine⟨_,rfl,rfl,_,_,rfl,rfl,_,rfl,?_⟩
  rw[f9,uf]
  by_cases lf:leaf t
  ·rw[decide_eq_false (wy lf)]
   exact iV ⟨_,rfl,t,v0,n,rfl,rt,lf,hn,q⟩
  ·cases rt with
   | free | never | gives | sum | crowd=>exact absurd trivial lf
   | @all a b us ts ha hb l2 l6 rl =>
    have hd':tdL ts<=dp - 1:=by rw[Tm.dep] at hd; lia
    have el:=rl.length
    obtain⟨dp',rfl⟩:∃ m,dp=m+1:=⟨dp - 1,by lia⟩
    rw[Kp] at hd'
    have hs:∀ x∈jn 38 (txL ts),x < 128:=fun x hx=>(kY (P:=sg) ⟨by decide,by decide,by decide,by decide,by decide⟩ (oE ts) x hx).1
    rw[txT] at ln ⊢
    rw[El,Ec] at ln
    rw[List.head?_cons,decide_eq_true rfl]
    refine cW ⟨_,rfl,rfl,_,_,rfl,rfl,_,rfl,?_⟩
    rw[jt,show 40::(jn 38 (txL ts)++[41])=(40::jn 38 (txL ts))++[41] from rfl,sJ]
    refine cW ⟨small (by show 2<=1000; decide),fun p1 h1=>?_⟩
    generalize eH1:upd H p1 _=H1
    obtain⟨g1,e1⟩:=aL eH1 h1
    refine⟨small (by show 2<=1000; decide),fun p2 h2=>?_⟩
    generalize eH2:upd H1 p2 _=H2
    obtain⟨g2,e2⟩:=aL eH2 h2
    refine⟨small (by show 2<=1000; decide),fun p3 h3=>?_⟩
    generalize eH3:upd H2 p3 _=H3
    obtain⟨g3,e3⟩:=aL eH3 h3
    refine⟨p3,rfl,⟨_,SqT.of e3⟩,nQ (K:=K) (a:=p3) (xs:=[.ref p1,.ref p2]) (fun i σ H4=>i=0/\H4=H3/\∃ u1 u2 u3,σ=[some (.str (S ((40::jn 38 (txL ts))++[41]))),some (.int ((dp'+1:Nat):Int)),u1,u2,u3]) ⟨rfl,rfl,_,_,_,rfl⟩ (fun i σ H4 _ h=>by rw[h.2.1]; exact SqT.of e3) ?_ ?_⟩
    ·rintro i x σ H4 hx ⟨rfl,rfl,u1,u2,u3,rfl⟩
     cases (show some (V.ref p1)=some x from hx)
     refine⟨p1,_,rfl,SqT.of (g3 _ _ (g2 _ _ e1)),rfl,_,_,rfl,_,_,rfl,rfl,?_⟩
     refine⟨_,rfl,_,rfl,_,rfl,_,rfl,_,rfl,bC ?_,?_,_,rfl,jn 38 (txL ts),38,?_,hs,by lia,fun pr H5 s5 e5=>?_⟩
     ·rw[Ec,El,Ef]
      rw[Ef] at ln
      lia
     ·rw[Gz]
      show (n6 _ (some 1) (some (-1))).length<=_
      rw[oX]
      exact bC (by lia)
     ·show[V.str (n6 _ (some 1) (some (-1))),V.str ("&" : Str)]=_
      rw[Gz,oX,tU]
     ·rw[uJ (.inl rfl) (by lia)] at e5
      refine⟨_,rfl,pr,_,rfl,.inl (SqL.of e5),_,_,rfl,rfl,_,rfl,gK ?_ ?_⟩
      ·rw[Eb,Eb,cU,Eb]
       lia
      ·have s3:=g1.trans (g2.trans (g3.trans s5))
       refine⟨_,rfl,_,rfl,pr,rfl,⟨_,SqL.of e5⟩,fun D hD=>pD e5 (rl.mono s3) hd' (by lia) hn (by lia) l6 hD ⟨_,rfl⟩ fun H6 vs s6 eD rv=>?_⟩
       refine⟨D,_,rfl,.inl ⟨SqL.of eD,fun p4 h4=>⟨small (by show 2<=1000; decide),fun p5 h5=>?_⟩⟩⟩
       have lv:=rv.length
       exact q (.ref p5) _ (s3.trans (s6.trans ((az h4 _).trans (az h5 _)))) (.all ao (az h5 _ _ _ ao) (by lia) (by lia) (rv.mono ((az h4 _).trans (az h5 _))))
    ·rintro σ H4 ⟨h,_⟩
     cases h
   | @any a b us ts ha hb l2 l6 rl =>
    have hd':tdL ts<=dp - 1:=by rw[Tm.dep] at hd; lia
    have el:=rl.length
    obtain⟨dp',rfl⟩:∃ m,dp=m+1:=⟨dp - 1,by lia⟩
    rw[Kp] at hd'
    have hs:∀ x∈jn 124 (txL ts),x < 128:=fun x hx=>(kY (P:=sg) ⟨by decide,by decide,by decide,by decide,by decide⟩ (oE ts) x hx).1
    rw[txT] at ln ⊢
    rw[El,Ec] at ln
    rw[List.head?_cons,decide_eq_true rfl]
    refine cW ⟨_,rfl,rfl,_,_,rfl,rfl,_,rfl,?_⟩
    rw[jt,show 40::(jn 124 (txL ts)++[41])=(40::jn 124 (txL ts))++[41] from rfl,sJ]
    refine cW ⟨small (by show 2<=1000; decide),fun p1 h1=>?_⟩
    generalize eH1:upd H p1 _=H1
    obtain⟨g1,e1⟩:=aL eH1 h1
    refine⟨small (by show 2<=1000; decide),fun p2 h2=>?_⟩
    generalize eH2:upd H1 p2 _=H2
    obtain⟨g2,e2⟩:=aL eH2 h2
    refine⟨small (by show 2<=1000; decide),fun p3 h3=>?_⟩
    generalize eH3:upd H2 p3 _=H3
    obtain⟨g3,e3⟩:=aL eH3 h3
    have fits:((40::jn 124 (txL ts))++[41]).length<=1000000:=by
     rw[Ec,El,Ef]
     rw[Ef] at ln
     lia
    have cutl:(n6 (S ((40::jn 124 (txL ts))++[41])) (some 1) (some (-1))).length<=sizeLine:=by
     rw[Gz,oX]
     exact bC (by lia)
    refine⟨p3,rfl,⟨_,SqT.of e3⟩,nQ (K:=K) (a:=p3) (xs:=[.ref p1,.ref p2]) (fun i σ H4=>i<=1/\bu H3 H4/\∃ u1 u2 u3,σ=[some (.str (S ((40::jn 124 (txL ts))++[41]))),some (.int ((dp'+1:Nat):Int)),u1,u2,u3]) ⟨Fq _,bu.refl _,_,_,_,rfl⟩ (fun i σ H4 _ h=>SqT.of (h.2.1 _ _ e3)) ?_ ?_⟩
    ·rintro i x σ H4 hx ⟨hi,s4,u1,u2,u3,rfl⟩
     rcases (show i=0∨i=1 by lia) with rfl | rfl
     ·cases (show some (V.ref p1)=some x from hx)
      refine⟨p1,_,rfl,SqT.of (s4 _ _ (g3 _ _ (g2 _ _ e1))),rfl,_,_,rfl,_,_,rfl,rfl,?_⟩
      refine⟨_,rfl,_,rfl,_,rfl,_,rfl,_,rfl,bC fits,cutl,_,rfl,jn 124 (txL ts),38,?_,hs,by lia,fun pr H5 s5 e5=>?_⟩
      ·show[V.str (n6 _ (some 1) (some (-1))),V.str ("&" : Str)]=_
       rw[Gz,oX,tU]
      ·rw[uw] at e5
       exact⟨_,rfl,pr,_,rfl,.inl (SqL.of e5),_,_,rfl,rfl,_,rfl,bG (by show ¬ (1:Int) > 1; decide) ⟨Ei _,s4.trans s5,_,_,_,rfl⟩⟩
     ·cases (show some (V.ref p2)=some x from hx)
      refine⟨p2,_,rfl,SqT.of (s4 _ _ (g3 _ _ e2)),rfl,_,_,rfl,_,_,rfl,rfl,?_⟩
      refine⟨_,rfl,_,rfl,_,rfl,_,rfl,_,rfl,bC fits,cutl,_,rfl,jn 124 (txL ts),124,?_,hs,by lia,fun pr H5 s5 e5=>?_⟩
      ·show[V.str (n6 _ (some 1) (some (-1))),V.str ("|" : Str)]=_
       rw[Gz,oX,zO]
      ·rw[uJ (.inr rfl) (by lia)] at e5
       refine⟨_,rfl,pr,_,rfl,.inl (SqL.of e5),_,_,rfl,rfl,_,rfl,gK ?_ ?_⟩
       ·rw[Eb,Eb,cU,Eb]
        lia
       ·have s3:=g1.trans (g2.trans (g3.trans (s4.trans s5)))
        refine⟨_,rfl,_,rfl,pr,rfl,⟨_,SqL.of e5⟩,fun D hD=>pD e5 (rl.mono s3) hd' (by lia) hn (by lia) l6 hD ⟨_,rfl⟩ fun H6 vs s6 eD rv=>?_⟩
        refine⟨D,_,rfl,.inl ⟨SqL.of eD,fun p4 h4=>⟨small (by show 2<=1000; decide),fun p5 h5=>?_⟩⟩⟩
        have lv:=rv.length
        exact q (.ref p5) _ (s3.trans (s6.trans ((az h4 _).trans (az h5 _)))) (.any ao (az h5 _ _ _ ao) (by lia) (by lia) (rv.mono ((az h4 _).trans (az h5 _))))
    ·rintro σ H4 ⟨h,_⟩
     exact absurd h (by show ¬ 2<=1; decide)
def BJ:Sp:=fun vs H Q _=>∃ (t:Tm) (v0:V) (n:Nat),vs=[.str (S (txT t))]/\dm n H v0 t/\t.dep<=4/\n<=12/\∀ v H',bu H H'->dm n H' v t->Q v H'
theorem pq {k:Nat} {t1 t2:K3} (F:Fun K "read_term" "read_term" iU f fd) (B:Bt mg) (c_MOST_DEPTH:mg "MOST_DEPTH" = some (.int 4 t1)) (c_MOST_FOLK:mg "MOST_FOLK" = some (.int 12 t2)) (hk:8<=k)
  (D_read_within:Df P w K mg base "read_within" 8 ["text","deep"] (yQ 4)) (D_is_term:Df P w K mg base "is_term" k ["many","term"] nO):dw P w K mg base CX0 (k+1) f fd ["text"] BJ:=by
 refine F.ok jP (fun vs H Q E h=>?_) (fun cdv A outer s H vs Q E hr h=>?_)
 ·obtain⟨t,v0,n,rfl,_⟩:=h
  rfl
 ·obtain⟨t,v0,n,rfl,rt,hd,hn,q⟩:=h
  refine⟨_,(au (bc (i:=1) jP.nd rfl (Ez rfl) (aV D_read_within hr (aa (pv 0) (aa (jm c_MOST_DEPTH) aj))))
 (au (bx (cP (cJ (aV D_is_term hr (aa (jm c_MOST_FOLK) (aa (pv 1) aj))))) (aA fj) aH)
 (aA (aJ (pv 1))))),?_⟩
  refine⟨_,rfl,t,v0,n,4,rfl,rt,hd,Ei _,Ei _,hn,fun v H1 s1 rv=>?_⟩
  refine⟨_,rfl,v,12,rfl,.inl ⟨n,t,rv,hd,fun H2 s2=>⟨_,rfl,?_⟩⟩⟩
  rw[qx.mpr (fun i hi=>Em (vz rv i hi) hn)]
  exact cW ⟨_,rfl,q v H2 (s1.trans s2) (rv.mono s2)⟩
def rgT (x:Int × Tm):List Nat:=dg x.1.toNat++63::txT x.2
def txP (p:Pl):List Nat:=jn 44 (p.map rgT)
theorem oG:(("?" : String):Str)=S [63]:=by decide+kernel
theorem jA:(("," : String):Str)=S [44]:=by decide+kernel
theorem Ar (x:Int × Tm):44 ∉ rgT x:=fun z=>cT (P:=fun y=>y≠44) (du (fun y _ _ h=>h) _) (by decide) (fun y hy=>(yw x.2 y hy).2.1) 44 z rfl
theorem wB {p:Pl} (h:p≠[]):Jp (S (txP p)) (S [44])=(p.map rgT).map S:=rn (fun q hq=>by
 obtain⟨x,_,rfl⟩:=List.mem_map.mp hq
 exact Ar x) (fun z=>h (List.map_eq_nil_iff.mp z))
theorem u5 {n:Nat} {H:Hp} {v:V} {k:Int} {t:Tm} (r:dm n H v t) (hd:t.dep<=4):(rgT (k,t)).length<=24013:=by
 have h1:=fH r hd (Ei _)
 have h2:=(cu k.toNat).2
 show (dg k.toNat++63::txT t).length<=_
 rw[Ec,El]
 lia
theorem bV.mem {n:Nat} {H:Hp}:∀ {vs:List V} {p:Pl},bV n H vs p->∀ x∈p,∃ v,dm n H v x.2
 | _,_,.nil,x,h=>by cases h
 | _,_,.cons _ t r,x,h=>by
  rcases List.mem_cons.mp h with rfl | h
  ·exact⟨_,t⟩
  ·exact bV.mem r x h
theorem qZ {n:Nat} {H:Hp} {vs:List V} {p:Pl} (ok:okP p) (r:bV n H vs p):∀ q∈p.map rgT,q.length<=24013:=fun q hq=>by
 obtain⟨x,hx,rfl⟩:=List.mem_map.mp hq
 obtain⟨v,rv⟩:=r.mem x hx
 exact u5 rv (ok.2.2.2 x hx).2.2
theorem yK {n:Nat} {H:Hp} {vs:List V} {p:Pl} (ok:okP p) (r:bV n H vs p):(txP p).length<=216126:=by
 have h1:=pF (e:=44) (qZ ok r)
 rw[Eb] at h1
 have h2:p.length * (24013+1)<=9 * (24013+1):=G9 _ ok.2.1
 show (jn 44 (p.map rgT)).length<=_
 lia
abbrev ir:Stmt:=top 34
abbrev fc:Stmt:=top 35
abbrev fJ:Stmt:=top 27
theorem dM:aW ["text","step","sign","term"] ["text"] (aG ir):=⟨rfl,rfl,rfl,by decide+kernel,rfl,by decide+kernel,by decide+kernel⟩
theorem gW:aW ["text","pledge"] ["text"] (aG fc):=⟨rfl,rfl,rfl,by decide+kernel,rfl,by decide+kernel,by decide+kernel⟩
theorem lV:aW ["pledge"] ["pledge"] (aG fJ):=⟨rfl,rfl,rfl,by decide+kernel,rfl,by decide+kernel,by decide+kernel⟩
def CP:Sp:=fun vs H Q _=>∃ (k:Int) (t:Tm) (v0:V) (n:Nat),vs=[.str (S (rgT (k,t)))]/\dm n H v0 t/\t.dep<=4/\n<=12/\1<=k/\k<=9/\∀ r v H',bu H H'->H' r=some (.tup [.int k,v])->dm n H' v t->Q (.ref r) H'
theorem o9 {k:Nat} (F:Fun K "read_rung" "read_rung" ir f fd) (B:Bt mg) (hk:2<=k)
  (D_read_number:Df P w K mg base "read_number" 2 ["text"] Bl) (D_read_term:Df P w K mg base "read_term" k ["text"] BJ):dw P w K mg base CX0 (k+1) f fd ["text"] CP:=by
 refine F.ok dM (fun vs H Q E h=>?_) (fun cdv A outer s H vs Q E hr h=>?_)
 ·obtain⟨k,t,v0,n,rfl,_⟩:=h
  rfl
 ·obtain⟨kk,t,v0,n,rfl,rt,hd,hn,k1,k9,q⟩:=h
  refine⟨_,(au (sO (gD Fv PySem.F.slot_str_partition PySem.F.type_str_partition zb (pv 0) (aa aC aj)) (eZ (K:=K) 3 rfl rfl (bz (aN (i:=1) dM.nd rfl (Ez rfl)) (bz (aN (i:=2) dM.nd rfl (Ez rfl)) (bz (aN (i:=3) dM.nd rfl (Ez rfl)) fC)))))
 (aA (aJ (bI (aa (aV D_read_number hr (aa (pv 1) aj)) (aa (aV D_read_term hr (aa (pv 3) aj)) aj)))))),?_⟩
  have ln:=u5 (k:=kk) rt hd
  refine⟨_,rfl,rfl,_,_,rfl,rfl,rfl,bC (by lia),fun p1 h1=>?_⟩
  rw[oG,show S (rgT (kk,t))=S (dg kk.toNat++63::txT t) from rfl,yF (qd (by decide) _)]
  generalize eH1:upd H p1 _=H1
  obtain⟨g1,e1⟩:=aL eH1 h1
  refine⟨p1,_,rfl,SqT.of e1,rfl,_,_,rfl,_,_,rfl,_,_,rfl,rfl,?_⟩
  refine⟨_,rfl,kk.toNat,rfl,by lia,fun H2 s2=>⟨_,rfl,t,v0,n,rfl,rt.mono (g1.trans s2),hd,hn,fun v H3 s3 rv=>?_⟩⟩
  rw[Hk (by lia)]
  exact⟨small (by show 2<=1000; decide),fun p hp=>q p v _ (g1.trans (s2.trans (s3.trans (az hp _)))) ao (rv.mono (az hp _))⟩
theorem vQ {n:Nat} {H:Hp} (hn:n<=12):∀ {us:List V} {p:Pl} {lo:Int},bV n H us p->(p.map (·.1)).Pairwise (· < ·)->(∀ x∈p,lo<=x.1/\x.1<=9)->plF 12 12 lo (p.map fun x=>Rg.rung x.1 x.2)=true
 | _,_,_,.nil,_,_=>rfl
 | _,_,lo,.cons (k:=k) (t:=t) (ps:=ps) h tr r,pw,hb=>by
  rw[Hj,Gy] at pw
  show (rgF 12 12 lo (.rung k t) && plF 12 12 (k+1) (ps.map fun x=>Rg.rung x.1 x.2))=true
  have h1:=hb (k,t) Ek
  have h2:12 ∉ mnF t:=fun z=>by have:=vz tr 12 z; lia
  rw[Gg]
  refine⟨?_,vQ hn r pw.2 (fun x hx=>⟨?_,(hb x (En _ hx)).2⟩)⟩
  ·show ((decide (lo<=k) && decide (k<=9)) && (ltF 12 (mnF t) && !decide (12∈mnF t)))=true
   rw[decide_eq_true h1.1,decide_eq_true h1.2,qx.mpr (fun i hi=>Em (vz tr i hi) hn),decide_eq_false h2]
   rfl
  ·have:=pw.1 x.1 (List.mem_map_of_mem hx)
   lia
theorem zT {n:Nat} {H:Hp} {us:List V} {p:Pl} (hn:n<=12) (ok:okP p) (r:bV n H us p):Bq 12 12 (p.map fun x=>Rg.rung x.1 x.2)=true:=by
 obtain⟨h1,h2,h3,h4⟩:=ok
 have l:1<=p.length:=by
  cases p with
  | nil=>exact absurd rfl h1
  | cons _ _=>rw[El]; lia
 unfold Bq
 rw[Eb,decide_eq_true l,decide_eq_true h2,vQ hn r h3 (fun x hx=>⟨(h4 x hx).1,(h4 x hx).2.1⟩)]
 rfl
theorem yf {n:Nat} {H:Hp}:∀ {us:List V} {p:Pl},bV n H us p->(∀ x∈p,x.2.dep<=4)->iy n H us (p.map fun x=>Rg.rung x.1 x.2)
 | _,_,.nil,_=>.nil
 | _,_,.cons h t r,d=>.cons (.rung h t (d _ Ek)) (yf r fun x hx=>d x (En _ hx))
def Af:Sp:=fun vs H Q _=>∃ (a0:Addr) (p:Pl) (n:Nat),vs=[.str (S (txP p))]/\sG n H a0 p/\n<=12/\∀ a H',bu H H'->sG n H' a p->Q (.ref a) H'
theorem lL {k:Nat} {t2:K3} (F:Fun K "read_pledge" "read_pledge" fc f fd) (B:Bt mg) (c_MOST_FOLK:mg "MOST_FOLK" = some (.int 12 t2))
  (D_read_rung:Df P w K mg base "read_rung" k ["text"] CP) (D_is_pledge:Df P w K mg base "is_pledge" k ["many","one","thing"] my):dw P w K mg base CX0 (k+1) f fd ["text"] Af:=by
 refine F.ok gW (fun vs H Q E h=>?_) (fun cdv A outer s H vs Q E hr h=>?_)
 ·obtain⟨a0,p,n,rfl,_⟩:=h
  rfl
 ·obtain⟨a0,p,n,rfl,⟨ok,us,ha,rr⟩,hn,q⟩:=h
  refine⟨_,(au (bc (i:=1) gW.nd rfl (Ez rfl) (aY (r:=gF K) bO rfl B.tuple_ bL (aa (cg (L:=["row"]) (F:=[]) (cap:=[]) rfl (bR rfl rfl (by kernel_rfl)) (gA (gD Fv PySem.F.slot_str_split PySem.F.type_str_split sH (pv 0) (aa aC aj))) (fun _ _ _ _ _=>(aN (i:=0) (bD (by decide+kernel)) rfl (Ez rfl))) (fun _ _ _ _ _=>bU) (fun _ _ _ _ _=>(aV D_read_rung hr (aa (pv 0) aj)))) aj)))
 (au (bx (cP (cJ (aV D_is_pledge hr (aa (jm c_MOST_FOLK) (aa (jm c_MOST_FOLK) (aa (pv 1) aj)))))) (aA fj) aH)
 (aA (aJ (pv 1))))),?_⟩
  have ln:=yK ok rr
  have el:=rr.length
  have l9:=ok.2.1
  refine⟨_,rfl,rfl,_,_,rfl,rfl,rfl,?_,?_,fun p1 h1=>?_⟩
  ·rw[eO]
   lia
  ·rw[jA,wB ok.1,Eb,Eb]
   lia
  ·rw[jA,wB ok.1]
   generalize eH1:upd H p1 _=H1
   obtain⟨g1,e1⟩:=aL eH1 h1
   refine⟨p1,rfl,⟨_,SqL.of e1⟩,fun D hD=>gB (K:=K) (a:=p1) (xs:=((p.map rgT).map S).map V.str) (fun i zs σ' H2=>(∃ u,σ'=[u])/\bV n H2 zs (p.take i)/\bu H1 H2/\H2 D=some (.lst zs))
    ⟨⟨_,rfl⟩,.nil,az hD _,ao⟩ (fun i zs σ' H2 _ h=>⟨SqL.of (h.2.2.1 _ _ e1),h.2.2.2⟩) ?_ ?_⟩
   ·rintro j zs x σ' H2 hx ⟨⟨u,rfl⟩,rz,sm,hDl⟩
    rw[Fd,Fd,Fd] at hx
    cases hp:p[j]? with
    | none=>rw[hp] at hx; cases hx
    | some y =>
     rw[hp] at hx
     have hx:V.str (S (rgT y))=x:=FW hx
     subst hx
     have hj:j < p.length:=(List.getElem?_eq_some_iff.mp hp).1
     obtain⟨v,rv⟩:=rr.mem y (Fj hp)
     obtain⟨b1,b2,b3⟩:=ok.2.2.2 y (Fj hp)
     refine gT ?_
     refine⟨_,rfl,y.1,y.2,v,n,rfl,rv.mono (g1.trans sm),b3,hn,b1,b2,fun r v' H3 s3 er rv'=>⟨s3 _ _ hDl,?_,⟨_,rfl⟩,?_,bh (sm.trans s3) hD _,ao⟩⟩
     ·have:=rz.length
      rw[Fi] at this
      exact aU (by lia)
     ·rw[Fw,hp]
      have k:∀ a xs,H3 a=some (HO.tup xs)->upd H3 D (.lst (zs++[.ref r])) a=some (HO.tup xs):=dX (s3 _ _ hDl)
      exact bV.snoc (k _ _ er) (rv'.bW k) (bV.bW (fun a xs z=>k _ _ (s3 _ _ z)) rz)
   ·rintro zs σ' H2 ⟨_,rz,sm,hDl⟩
    rw[Eb,Eb,Eb,Fo] at rz
    refine⟨D,_,rfl,.inl ⟨SqL.of hDl,fun pt hpt=>?_⟩⟩
    generalize eH3:upd H2 pt _=H3
    obtain⟨g3,e3⟩:=aL eH3 hpt
    have rz3:bV n H3 zs p:=bV.bW (fun a xs z=>g3 _ _ z) rz
    have lz:=rz.length
    refine⟨_,rfl,pt,zs,_,n,12,12,rfl,e3,yf rz3 (fun x hx=>(ok.2.2.2 x hx).2.2),hn,by lia,by decide,fun H4 s4=>⟨_,rfl,?_⟩⟩
    rw[zT hn ok rz3]
    exact cW ⟨_,rfl,q pt H4 (g1.trans (sm.trans (g3.trans s4))) ⟨ok,zs,s4 _ _ e3,bV.bW (fun a xs z=>s4 _ _ z) rz3⟩⟩
def Bp:Sp:=fun vs H Q _=>∃ (a:Addr) (p:Pl) (n:Nat),vs=[.ref a]/\sG n H a p/\n<=12/\∀ H',bu H H'->Q (.str (S (txP p))) H'
theorem lU {k:Nat} (F:Fun K "pledge_text" "pledge_text" fJ f fd) (B:Bt mg)
  (D_term_text:Df P w K mg base "term_text" k ["term"] (jE 4)):dw P w K mg base CX0 (k+1) f fd ["pledge"] Bp:=by
 refine F.ok lV (fun vs H Q E h=>?_) (fun cdv A outer s H vs Q E hr h=>?_)
 ·obtain⟨a,p,n,rfl,_⟩:=h
  rfl
 ·obtain⟨a,p,n,rfl,⟨ok,us,ha,rr⟩,hn,q⟩:=h
  refine⟨_,(aA (aJ (gD Fv G5 G4 jz aC (aa (cg (L:=["step","term"]) (F:=[]) (cap:=[]) rfl (bR rfl rfl (by kernel_rfl)) (d7 (pv 0)) (fun _ _ _ _ _=>(eZ (K:=K) 2 rfl rfl (bz (aN (i:=0) (bD (by decide+kernel)) rfl (Ez rfl)) (bz (aN (i:=1) (bD (by decide+kernel)) rfl (Ez rfl)) fC)))) (fun _ _ _ _ _=>bU) (fun _ _ _ _ _=>(vI (cj (gU (pv 0)) (cj aC (cj (gU (aV D_term_text hr (aa (pv 1) aj))) pC)))))) aj)))),?_⟩
  have el:=rr.length
  have l9:=ok.2.1
  refine⟨rfl,_,rfl,a,rfl,⟨_,SqT.of ha⟩,fun D hD=>cY (K:=K) (a:=a) (xs:=us) (fun i zs σ' H2=>(∃ u1 u2,σ'=[u1,u2])/\zs=(((p.take i).map rgT).map S).map V.str/\bu H H2/\H2 D=some (.lst zs))
   ⟨⟨_,_,rfl⟩,rfl,az hD _,ao⟩ (fun i zs σ' H2 _ h=>⟨sV h.2.2.1 (SqT.of ha),h.2.2.2⟩) ?_ ?_⟩
  ·rintro j zs x σ' H2 hx ⟨⟨u1,u2,rfl⟩,e1,sm,hDl⟩
   obtain⟨r,kk,u,t,rfl,hr0,rt,hp⟩:=rr.get hx
   obtain⟨b1,b2,b3⟩:=ok.2.2.2 _ (Fj hp)
   have hj:j < us.length:=(List.getElem?_eq_some_iff.mp hx).1
   have lt:=fH rt b3 (Ei _)
   have lk:=(cu kk.toNat).2
   have ek:=eF (i:=kk) (by lia) (by lia)
   refine⟨r,_,rfl,SqT.of (sm _ _ hr0),rfl,_,_,rfl,_,_,rfl,rfl,tT ?_⟩
   refine⟨_,rfl,.inl ⟨kk,rfl,jF (by lia) (by lia),_,rfl,?_,_,rfl,?_,_,rfl,u,n,t,rfl,rt.mono sm,b3,hn,Ei _,fun H3 s3=>.inr ⟨_,rfl,bC (by lia),_,rfl,?_,?_,s3 _ _ hDl,?_,⟨_,_,rfl⟩,?_,bh (sm.trans s3) hD _,ao⟩⟩⟩
   ·rw[ek,cC]
    exact bC (by lia)
   ·rw[ek,cC,oG,aQ]
    exact bC (by rw[Ec,Ef]; lia)
   ·rw[ek,cC,oG,aQ,aQ]
    exact bC (by rw[Ec,Ec,Ef]; lia)
   ·rw[ek,cC,oG,aQ,aQ]
    exact bC (by rw[Ec,Ec,Ef]; lia)
   ·rw[e1,Eb,Eb,Eb,Fi]
    exact aU (by lia)
   ·rw[e1,ek,cC,oG,aQ,aQ,Fw,hp,Er,Er,Er,Fg]
    rfl
  ·rintro zs σ' H2 ⟨_,e1,sm,hDl⟩
   rw[el,Fo] at e1
   refine⟨_,D,(p.map rgT).map S,rfl,rfl,SqL.of (by rw[hDl,e1]),?_,?_⟩
   ·rw[jA]
    exact cM (fun q hq=>Fe (qZ ok rr q hq) (by decide)) (by rw[Eb]; lia)
   ·rw[jA,fP]
    exact q H2 sm
abbrev cR:Stmt:=top 46
theorem jd:aW ["_law_pledge_here"] ["_law_pledge_here"] (aG cR):=⟨rfl,rfl,rfl,by decide+kernel,rfl,by decide+kernel,by decide+kernel⟩
theorem jk {k:Nat} (F:Fun K "_law_pledge_text" "_law_pledge_text" cR f fd) (B:Bt mg)
  (D_law_term_text:Df P w K mg base "_law_term_text" k ["_law_term_here"] (jE 4)):dw P w K mg base CX0 (k+1) f fd ["_law_pledge_here"] Bp:=by
 refine F.ok jd (fun vs H Q E h=>?_) (fun cdv A outer s H vs Q E hr h=>?_)
 ·obtain⟨a,p,n,rfl,_⟩:=h
  rfl
 ·obtain⟨a,p,n,rfl,⟨ok,us,ha,rr⟩,hn,q⟩:=h
  refine⟨_,(aA (aJ (gD Fv G5 G4 jz aC (aa (cg (L:=["_law_step","_law_term_here"]) (F:=[]) (cap:=[]) rfl (bR rfl rfl (by kernel_rfl)) (d7 (pv 0)) (fun _ _ _ _ _=>(eZ (K:=K) 2 rfl rfl (bz (aN (i:=0) (bD (by decide+kernel)) rfl (Ez rfl)) (bz (aN (i:=1) (bD (by decide+kernel)) rfl (Ez rfl)) fC)))) (fun _ _ _ _ _=>bU) (fun _ _ _ _ _=>(aO b8 (aO b8 (aY cz rfl B.str_ jf (aa (pv 0) aj)) aC) (aV D_law_term_text hr (aa (pv 1) aj))))) aj)))),?_⟩
  have el:=rr.length
  have l9:=ok.2.1
  refine⟨rfl,_,rfl,a,rfl,⟨_,SqT.of ha⟩,fun D hD=>cY (K:=K) (a:=a) (xs:=us) (fun i zs σ' H2=>(∃ u1 u2,σ'=[u1,u2])/\zs=(((p.take i).map rgT).map S).map V.str/\bu H H2/\H2 D=some (.lst zs))
   ⟨⟨_,_,rfl⟩,rfl,az hD _,ao⟩ (fun i zs σ' H2 _ h=>⟨sV h.2.2.1 (SqT.of ha),h.2.2.2⟩) ?_ ?_⟩
  ·rintro j zs x σ' H2 hx ⟨⟨u1,u2,rfl⟩,e1,sm,hDl⟩
   obtain⟨r,kk,u,t,rfl,hr0,rt,hp⟩:=rr.get hx
   obtain⟨b1,b2,b3⟩:=ok.2.2.2 _ (Fj hp)
   have hj:j < us.length:=(List.getElem?_eq_some_iff.mp hx).1
   have lt:=fH rt b3 (Ei _)
   have lk:=(cu kk.toNat).2
   have ek:=eF (i:=kk) (by lia) (by lia)
   refine⟨r,_,rfl,SqT.of (sm _ _ hr0),rfl,_,_,rfl,_,_,rfl,rfl,tT ?_⟩
   refine⟨_,rfl,kk,rfl,jF (by lia) (by lia),_,_,rfl,rfl,?_,_,rfl,u,n,t,rfl,rt.mono sm,b3,hn,Ei _,fun H3 s3=>⟨_,_,rfl,rfl,?_,s3 _ _ hDl,?_,⟨_,_,rfl⟩,?_,bh (sm.trans s3) hD _,ao⟩⟩
   ·rw[ek,oG]
    exact dR (by rw[Ef]; lia)
   ·rw[ek,oG,aQ]
    exact dR (by rw[Ec,Ef]; lia)
   ·rw[e1,Eb,Eb,Eb,Fi]
    exact aU (by lia)
   ·rw[e1,ek,oG,aQ,aQ,Fw,hp,Er,Er,Er,Fg]
    rfl
  ·rintro zs σ' H2 ⟨_,e1,sm,hDl⟩
   rw[el,Fo] at e1
   refine⟨_,D,(p.map rgT).map S,rfl,rfl,SqL.of (by rw[hDl,e1]),?_,?_⟩
   ·rw[jA]
    exact cM (fun q hq=>Fe (qZ ok rr q hq) (by decide)) (by rw[Eb]; lia)
   ·rw[jA,fP]
    exact q H2 sm
mutual
def tmD:Tm->Dm
 | .free=>.tup [.str "free"]
 | .never=>.tup [.str "never"]
 | .gives i k=>.tup [.str "gives",.int (i:Int),.int k]
 | .sum c k=>.tup [.str "sum",.tup ((c.map fun i:Nat=>(i:Int)).map Dm.int),.int k]
 | .crowd c k m=>.tup [.str "crowd",.tup ((c.map fun i:Nat=>(i:Int)).map Dm.int),.int k,.int m]
 | .all ts=>.tup [.str "all",.tup (wL ts)]
 | .any ts=>.tup [.str "any",.tup (wL ts)]
def wL:List Tm->List Dm
 | []=>[]
 | t::r=>tmD t::wL r
end
theorem oU {H:Hp} {b:Addr} {c:List Nat} (h:H b=some (.tup (c.map vN))) (l:c.length<=20):Rep H (.ref b) (.tup ((c.map fun i:Nat=>(i:Int)).map Dm.int)):=by
 rw[iT] at h
 exact wU h (by rw[Eb]; lia)
mutual
theorem dm.rep {n:Nat} {H:Hp}:∀ {v:V} {t:Tm},dm n H v t->Rep H v (tmD t)
 | _,_,.free h=>by rw[tmD]; exact .tup h (by show 1<=100000; decide) (.cons (.str _) .nil)
 | _,_,.never h=>by rw[tmD]; exact .tup h (by show 1<=100000; decide) (.cons (.str _) .nil)
 | _,_,.gives h _ _ _=>by rw[tmD]; exact .tup h (by show 3<=100000; decide) (.cons (.str _) (.cons (.int _) (.cons (.int _) .nil)))
 | _,_,.sum h hb _ _ l _ _ _=>by rw[tmD]; exact .tup h (by show 3<=100000; decide) (.cons (.str _) (.cons (oU hb l) (.cons (.int _) .nil)))
 | _,_,.crowd h hb _ _ l _ _ _ _ _=>by rw[tmD]; exact .tup h (by show 4<=100000; decide) (.cons (.str _) (.cons (oU hb l) (.cons (.int _) (.cons (.int _) .nil))))
 | _,_,.all h hb _ l6 rl=>by rw[tmD]; exact .tup h (by show 2<=100000; decide) (.cons (.str _) (.cons (.tup hb (by lia) (bK.rep rl)) .nil))
 | _,_,.any h hb _ l6 rl=>by rw[tmD]; exact .tup h (by show 2<=100000; decide) (.cons (.str _) (.cons (.tup hb (by lia) (bK.rep rl)) .nil))
theorem bK.rep {n:Nat} {H:Hp}:∀ {vs:List V} {ts:List Tm},bK n H vs ts->lW H vs (wL ts)
 | _,_,.nil=>by rw[wL]; exact .nil
 | _,_,.cons h r=>by rw[wL]; exact .cons (dm.rep h) (bK.rep r)
end
mutual
theorem qm:∀ t:Tm,(tmD t).dep<=2 * t.dep
 | .free=>by rw[tmD]; decide
 | .never=>by rw[tmD]; decide
 | .gives i k=>by rw[tmD]; simp [Dm.dep,fY,Tm.dep]
 | .sum c k=>by
  rw[tmD,Dm.dep,fY,fY,vJ]
  simp [Dm.dep,fY,Tm.dep]
 | .crowd c k m=>by
  rw[tmD,Dm.dep,fY,fY,vJ]
  simp [Dm.dep,fY,Tm.dep]
 | .all ts=>by
  have:=nT ts
  rw[tmD,Dm.dep,fY,fY,Dm.dep,Tm.dep]
  simp [Dm.dep,fY]
  lia
 | .any ts=>by
  have:=nT ts
  rw[tmD,Dm.dep,fY,fY,Dm.dep,Tm.dep]
  simp [Dm.dep,fY]
  lia
theorem nT:∀ ts:List Tm,fY (wL ts)<=2 * tdL ts
 | []=>by rw[wL,tdL,fY]; decide
 | t::r=>by
  have h1:=qm t
  have h2:=nT r
  rw[wL,fY,tdL]
  lia
end
theorem fM {t u:TS} {D:Ends} {σ:St} {H:Hp} (P:St->Hp->Prop) (h2:∀ σ H,P σ H->u D σ H) (h1:∀ N:St->Hp->Prop,(∀ σ H,P σ H->N σ H)->t { D with nx:=N } σ H):xq t u D σ H:=h1 (u D) h2
def rgD (x:Int × Tm):Dm:=.tup [.int x.1,tmD x.2]
theorem bV.rep {n:Nat} {H:Hp}:∀ {vs:List V} {p:Pl},bV n H vs p->lW H vs (p.map rgD)
 | _,_,.nil=>.nil
 | _,_,.cons h t r=>.cons (.tup h (by show 2<=100000; decide) (.cons (.int _) (.cons t.rep .nil))) (bV.rep r)
theorem sG.rep {n:Nat} {H:Hp} {a:Addr} {p:Pl} (h:sG n H a p):Rep H (.ref a) (.tup (p.map rgD)):=by
 obtain⟨ok,vs,h1,h2⟩:=h
 have:=h2.length
 have:=ok.2.1
 exact .tup h1 (by lia) h2.rep
theorem uy:∀ {p:Pl},(∀ x∈p,x.2.dep<=3)->fY (p.map rgD)<=7
 | [],_=>by simp [fY]
 | x::r,h=>by
  have h1:=qm x.2
  have h2:=h x Ek
  have h3:=uy fun y hy=>h y (En _ hy)
  rw[Hj,fY,rgD,Dm.dep,fY,fY]
  simp only[Dm.dep,fY]
  lia
abbrev yH:Stmt:=top 47
theorem iZ:aW ["_law_script","_law_cell","_law_drawn","_law_n","_law_term_here","_law_pledge_here","_law_turn","_law_found"] ["_law_script"] (aG yH):=⟨rfl,rfl,rfl,by decide+kernel,rfl,by decide+kernel,by decide+kernel⟩
def wQ (K:FT):Sp:=fun vs H Q _=>∃ (a:Addr) (ns:List Int),vs=[.ref a]/\SqL K H a (ns.map V.int)/\ns.length<=63/\∀ H',Q (.bl true) H'
theorem zK {k:Nat} (F:Fun K "law" "law" yH f fd) (B:Bt mg) (hk:10<=k)
  (D_law_draws:Df P w K mg base "_law_draws" 1 ["_law_cell","_law_parts"] (nF K)) (D_law_under:Df P w K mg base "_law_under" 1 ["_law_cell","_law_k"] nG) (D_law_same:Df P w K mg base "_law_same" 10 ["_law_found","_law_due"] (mD 10))
  (D_law_term:Df P w K mg base "_law_term" 5 ["_law_cell","_law_n","_law_deep","_law_most"] (lF 4)) (D_law_pledge:Df P w K mg base "_law_pledge" 6 ["_law_cell","_law_n","_law_one","_law_deep","_law_most"] rJ)
  (D_term_text:Df P w K mg base "term_text" 5 ["term"] (jE 4)) (D_pledge_text:Df P w K mg base "pledge_text" 6 ["pledge"] Bp) (D_law_term_text:Df P w K mg base "_law_term_text" 4 ["_law_term_here"] (jE 4)) (D_law_pledge_text:Df P w K mg base "_law_pledge_text" 5 ["_law_pledge_here"] Bp)
  (D_read_term:Df P w K mg base "read_term" k ["text"] BJ) (D_read_pledge:Df P w K mg base "read_pledge" (k+2) ["text"] Af):dw P w K mg base CX0 (k+3) f fd ["_law_script"] (wQ K):=by
 refine F.ok iZ (fun vs H Q E h=>?_) (fun cdv A outer s H vs Q E hr h=>?_)
 ·obtain⟨a,ns,rfl,_⟩:=h
  rfl
 ·obtain⟨a,ns0,rfl,hS,lN,q⟩:=h
  refine⟨_,(au (bc (i:=0) iZ.nd rfl (Ez rfl) (jh (r:=CV K) zA (pv 0) qW (iC aq)))
 (au (gP Gs rfl (gA (aO yt (pv 0) (cD (aa aq (aa aq aj))))) (aN (i:=1) iZ.nd rfl (Ez rfl)) (au (bc (i:=2) iZ.nd rfl (Ez rfl) (aV D_law_draws hr (aa (aO bT (pv 1) aq) (aa (cD (aa aq (aa aq aj))) aj))))
 (au (bc (i:=3) iZ.nd rfl (Ez rfl) (aO fW aq (aR (r:=gZ K) bf (pv 2) aq (fun _ _=>rfl))))
 (au (bc (i:=4) iZ.nd rfl (Ez rfl) (aV D_law_term hr (aa (pv 1) (aa (pv 3) (aa aq (aa aq aj))))))
 (au (bc (i:=5) iZ.nd rfl (Ez rfl) (aV D_law_pledge hr (aa (aV D_law_under hr (aa (pv 1) (aa aq aj))) (aa (pv 3) (aa (aO cF (aR (r:=gZ K) bf (pv 2) aq (fun _ _=>rfl)) (pv 3)) (aa aq (aa aq aj)))))))
 (aA (gP Gs rfl (dD rfl B.range_ (aa aq aj)) (aN (i:=6) iZ.nd rfl (Ez rfl)) (au (bx (cP (cJ (aV D_law_same hr (aa (cD (aa (aV D_term_text hr (aa (pv 4) aj)) (aa (aV D_pledge_text hr (aa (pv 5) aj)) aj))) (aa (cD (aa (aV D_law_term_text hr (aa (pv 4) aj)) (aa (aV D_law_pledge_text hr (aa (pv 5) aj)) aj))) aj))))) (aA (aJ iu)) aH)
 (au (bc (i:=7) iZ.nd rfl (Ez rfl) (cD (aa (aV D_read_term hr (aa (aV D_law_term_text hr (aa (pv 4) aj)) aj)) (aa (aV D_read_pledge hr (aa (aV D_law_pledge_text hr (aa (pv 5) aj)) aj)) aj))))
 (aA (bx (cP (cJ (aV D_law_same hr (aa (pv 7) (aa (cD (aa (pv 4) (aa (pv 5) aj))) aj))))) (aA (aJ iu)) aH)))))))))))
 (aA (aJ iu)))),?_⟩
  refine fM (fun σ H2=>∃ (p1:Addr) (ss:List Int),σ=[some (.ref p1),none,none,none,none,none,none,none]/\H2 p1=some (.lst (ss.map V.int))/\ss.length<=63) ?r1 ?s1
  case s1 =>
   intro N R
   refine⟨_,rfl,_,rfl,a,_,rfl,hS,fun p1 h1=>?_⟩
   obtain⟨ss,es,ls⟩:=xR ns0 none (some 63)
   refine R _ _ ⟨p1,ss,rfl,?_,by lia⟩
   rw[ao,es]
  case r1 =>
  rintro σ H1 ⟨p1,ss,rfl,e1,ls⟩
  refine⟨_,rfl,small (by show 2<=1000; decide),fun p2 h2=>?_⟩
  generalize eH2:upd H1 p2 _=H2
  obtain⟨g2,e2⟩:=aL eH2 h2
  refine⟨p1,p2,_,_,rfl,rfl,g2 _ _ e1,e2,small (by rw[Eb]; show ss.length+2<=1000; lia),fun p3 h3=>?_⟩
  rw[show ss.map V.int++[V.int 0,V.int 1]=(ss++[0,1]).map V.int by rw[Er]; rfl]
  generalize eH3:upd H2 p3 _=H3
  obtain⟨g3,e3⟩:=aL eH3 h3
  refine⟨p3,rfl,⟨_,SqL.of e3⟩,nW (K:=K) (a:=p3) (xs:=(ss++[0,1]).map V.int) (fun i σ H4=>(∃ v1 v2 v3 v4 v5 v6 v7:Option V,σ=[some (.ref p1),v1,v2,v3,v4,v5,v6,v7])/\bu H3 H4) ⟨⟨_,_,_,_,_,_,_,rfl⟩,bu.refl _⟩
   (fun i σ H4 _ h=>SqL.of (h.2 _ _ e3)) ?_ ?_⟩
  ·rintro i x σ H4 hx ⟨⟨v1,v2,v3,v4,v5,v6,v7,rfl⟩,s4⟩
   obtain⟨z,hz,rfl⟩:=int_at hx
   refine gN ?_
   refine fM (fun σ H5=>∃ (pd:Addr) (x0 x1:Int),σ=[some (.ref p1),some (.int z),some (.ref pd),v3,v4,v5,v6,v7]/\bu H4 H5/\H5 pd=some (.lst [.int x0,.int x1])/\0<=x0/\x0 < 12) ?q1 ?t1
   case t1 =>
    intro N R
    refine⟨_,rfl,_,_,rfl,rfl,small (by show 2<=1000; decide),fun pl hl=>?_⟩
    generalize eH5:upd H4 pl _=H5
    obtain⟨g5,e5⟩:=aL eH5 hl
    refine⟨z+1,pl,[12,60],rfl,SqL.of e5,by decide,by decide,fun pd hd=>?_⟩
    exact R _ _ ⟨pd,_,_,rfl,g5.trans (az hd _),ao,Fx _ (by decide),Fp _ (by decide)⟩
   case q1 =>
   rintro σ H5 ⟨pd,x0,x1,rfl,s5,ed,b0,b1⟩
   obtain⟨n,en⟩:∃ n:Nat,12 - x0=(n:Int):=⟨(12 - x0).toNat,by lia⟩
   refine fM (fun σ H6=>H6=H5/\σ=[some (.ref p1),some (.int z),some (.ref pd),some (.int (n:Int)),v4,v5,v6,v7]) ?q2 ?t2
   case t2 =>
    intro N R
    refine⟨_,rfl,pd,_,_,_,rfl,rfl,SqL.of ed,aB (k:=0) rfl,_,_,rfl,rfl,?_⟩
    refine R _ _ ⟨rfl,?_⟩
    show[some (V.ref p1),some (.int z),some (.ref pd),some (.int (12 - x0)),v4,v5,v6,v7]=_
    rw[en]
   case q2 =>
   rintro σ H6 ⟨rfl,rfl⟩
   have n1:1<=n:=by lia
   have n12:n<=12:=by lia
   refine fM (fun σ H7=>∃ (v:V) (t:Tm),σ=[some (.ref p1),some (.int z),some (.ref pd),some (.int (n:Int)),some v,v5,v6,v7]/\bu H6 H7/\dm n H7 v t/\t.dep<=4) ?q3 ?t3
   case t3 =>
    intro N R
    exact⟨_,rfl,_,rfl,z,n,4,9,rfl,n1,n12,by decide,by decide,by decide,by decide,fun v t H7 s7 rt hd=>R _ _ ⟨v,t,rfl,s7,rt,by lia⟩⟩
   case q3 =>
   rintro σ H7 ⟨v,t,rfl,s7,rt,td⟩
   refine fM (fun σ H8=>∃ (a:Addr) (p:Pl),σ=[some (.ref p1),some (.int z),some (.ref pd),some (.int (n:Int)),some v,some (.ref a),v6,v7]/\bu H7 H8/\sG n H8 a p/\∀ x∈p,x.2.dep<=3) ?q4 ?t4
   case t4 =>
    intro N R
    have m0:0<=x1 % (n:Int):=Fx _ (by lia)
    have m1:x1 % (n:Int) < (n:Int):=Fp _ (by lia)
    obtain⟨one,eo⟩:∃ m:Nat,x1 % (n:Int)=(m:Int):=⟨(x1 % (n:Int)).toNat,by lia⟩
    refine⟨_,rfl,z,1,rfl,by decide,_,rfl,_,rfl,pd,_,_,_,rfl,rfl,SqL.of (s7 _ _ ed),aB (k:=1) rfl,_,rfl,_,_,rfl,rfl,(by show (0:Int) < (n:Int); lia),?_⟩
    exact⟨yZ z 1,n,one,3,9,(by show[V.int (yZ z 1),V.int (n:Int),V.int (x1 % (n:Int)),V.int 3,V.int 9]=_; rw[eo]; rfl),n1,n12,by lia,by decide,by decide,by decide,by decide,fun a p H8 s8 rp hp=>R _ _ ⟨a,p,rfl,s8,rp,hp⟩⟩
   case q4 =>
   rintro σ H8 ⟨a,p,rfl,s8,rp,hp⟩
   have rt8:=rt.mono s8
   refine⟨_,rfl,by decide,by decide,lH (lo:=0) (n:=2) (fun j σ H9=>(∃ u6 u7:Option V,σ=[some (.ref p1),some (.int z),some (.ref pd),some (.int (n:Int)),some v,some (.ref a),u6,u7])/\bu H8 H9) ⟨⟨_,_,rfl⟩,bu.refl _⟩ ?_ ?_⟩
   ·rintro j σ H9 hj ⟨⟨u6,u7,rfl⟩,s9⟩
    refine gN ?_
    have rt9:=rt8.mono s9
    have rp9:=rp.mono s9
    refine fM (fun σ Ha=>σ=[some (.ref p1),some (.int z),some (.ref pd),some (.int (n:Int)),some v,some (.ref a),some (.int (0+(j:Int))),u7]/\bu H9 Ha) ?w1 ?y1
    case y1 =>
     intro N R
     refine⟨_,rfl,v,n,t,rfl,rt9,td,n12,by decide,fun Ha sa=>⟨_,rfl,a,p,n,rfl,rp9.mono sa,n12,fun Hb sb=>⟨small (by show 2<=1000; decide),fun q1 k1=>?_⟩⟩⟩
     generalize eHc:upd Hb q1 _=Hc
     obtain⟨gc,ec⟩:=aL eHc k1
     have sc:=sa.trans (sb.trans gc)
     refine⟨_,rfl,v,n,t,rfl,rt9.mono sc,td,n12,by decide,fun Hd sd=>⟨_,rfl,a,p,n,rfl,rp9.mono (sc.trans sd),n12,fun He se=>⟨small (by show 2<=1000; decide),fun q2 k2=>?_⟩⟩⟩
     generalize eHf:upd He q2 _=Hf
     obtain⟨gf,ef⟩:=aL eHf k2
     have sf:=sd.trans (se.trans gf)
     refine⟨.ref q1,.ref q2,.lst [.str (S (txT t)),.str (S (txP p))],rfl,.lst (sf _ _ ec) (by show 2<=100000; decide) (.cons (.str _) (.cons (.str _) .nil)),.lst ef (by show 2<=100000; decide) (.cons (.str _) (.cons (.str _) .nil)),by simp [Dm.dep,fY],fun Hg sg=>⟨_,rfl,cW (R _ _ ⟨rfl,sc.trans (sf.trans sg)⟩)⟩⟩
    case w1 =>
    rintro σ Ha ⟨rfl,sa⟩
    have rta:=rt9.mono sa
    have rpa:=rp9.mono sa
    refine fM (fun σ Hb=>∃ (fo a':Addr) (v':V),σ=[some (.ref p1),some (.int z),some (.ref pd),some (.int (n:Int)),some v,some (.ref a),some (.int (0+(j:Int))),some (.ref fo)]/\bu Ha Hb/\Hb fo=some (.lst [v',.ref a'])/\dm n Hb v' t/\sG n Hb a' p) ?w2 ?y2
    case y2 =>
     intro N R
     refine⟨_,rfl,v,n,t,rfl,rta,td,n12,by decide,fun Hb sb=>⟨t,v,n,rfl,rta.mono sb,td,n12,fun v' Hc sc rv=>⟨_,rfl,a,p,n,rfl,rpa.mono (sb.trans sc),n12,fun Hd sd=>⟨a,p,n,rfl,rpa.mono (sb.trans (sc.trans sd)),n12,fun a' He se rp'=>⟨small (by show 2<=1000; decide),fun fo hf=>?_⟩⟩⟩⟩⟩
     exact R _ _ ⟨fo,a',v',rfl,sb.trans (sc.trans (sd.trans (se.trans (az hf _)))),ao,rv.mono (sd.trans (se.trans (az hf _))),rp'.mono (az hf _)⟩
    case w2 =>
    rintro σ Hb ⟨fo,a',v',rfl,sb,ef,rv,rp'⟩
    refine⟨_,rfl,_,rfl,_,rfl,small (by show 2<=1000; decide),fun q3 k3=>?_⟩
    generalize eHc:upd Hb q3 _=Hc
    obtain⟨gc,ec⟩:=aL eHc k3
    have h1:=qm t
    have h2:=uy hp
    refine⟨.ref fo,.ref q3,.lst [tmD t,.tup (p.map rgD)],rfl,.lst (gc _ _ ef) (by show 2<=100000; decide) (.cons (rv.mono gc).rep (.cons (rp'.mono gc).rep .nil)),.lst ec (by show 2<=100000; decide) (.cons (rta.mono (sb.trans gc)).rep (.cons (rpa.mono (sb.trans gc)).rep .nil)),by simp only[Dm.dep,fY]; lia,fun Hd sd=>⟨_,rfl,cW ?_⟩⟩
    exact⟨⟨_,_,rfl⟩,s9.trans (sa.trans (sb.trans (gc.trans sd)))⟩
   ·rintro σ H9 ⟨⟨u6,u7,rfl⟩,s9⟩
    exact⟨⟨_,_,_,_,_,_,_,rfl⟩,s4.trans (s5.trans (s7.trans (s8.trans s9)))⟩
  ·rintro σ H4 _
   exact q H4
theorem all_mk {l:W.OpenLaw} {w:FP} {K:FT} {h:Gh} {mg:Str->Option Value} {fa fq0 fq1 fq2 fq3 fq4 fq5 fq6 fq7 fq8 fq9 fq10 fq11 fq12 fq13 fq14 fq15 fq16 fq17 fq18 fq19 fq20 fq21 fq22 fq23 fq24 fq25 fq26 fq27 fq28 fq29 fq30:Addr} (X:K.In h) (G:h.Ns EY mg) (hfa:mg "law" = some (.ref fa)) {tk_MOST_FOLK tk_MOST_STEP tk_MOST_SUM tk_MOST_DEPTH tk_FEWEST_PARTS tk_MOST_PARTS tk_MOST_RUNGS tk_FIGURES tk_MOST_FIGURES:K3}
  (qq0:HasDef K "is_number" iB fq0)
  (qq1:HasDef K "is_crowd" jL fq1)
  (qq2:HasDef K "are_parts" iR fq2)
  (qq3:HasDef K "is_term_within" dh fq3)
  (qq4:HasDef K "is_term" lD fq4)
  (qq5:HasDef K "mentions" ju fq5)
  (qq6:HasDef K "named" qR fq6)
  (qq7:HasDef K "is_rung" lA fq7)
  (qq8:HasDef K "is_pledge" iJ fq8)
  (qq9:HasDef K "crowd_text" gr fq9)
  (qq10:HasDef K "term_text" iw fq10)
  (qq11:HasDef K "pledge_text" fJ fq11)
  (qq12:HasDef K "read_number" fU fq12)
  (qq13:HasDef K "read_crowd" gk fq13)
  (qq14:HasDef K "read_plain" gG fq14)
  (qq15:HasDef K "split_outside" dH fq15)
  (qq16:HasDef K "read_within" fQ fq16)
  (qq17:HasDef K "read_term" iU fq17)
  (qq18:HasDef K "read_rung" ir fq18)
  (qq19:HasDef K "read_pledge" fc fq19)
  (qq20:HasDef K "_law_draws" iz fq20)
  (qq21:HasDef K "_law_same" jx fq21)
  (qq22:HasDef K "_law_under" iD fq22)
  (qq23:HasDef K "_law_crowd" iI fq23)
  (qq24:HasDef K "_law_term" jD fq24)
  (qq25:HasDef K "_law_renamed" fD fq25)
  (qq26:HasDef K "_law_mine" jH fq26)
  (qq27:HasDef K "_law_pledge" gj fq27)
  (qq28:HasDef K "_law_term_text" dF fq28)
  (qq29:HasDef K "_law_pledge_text" cR fq29)
  (qq30:HasDef K "law" yH fq30)
  (v_MOST_FOLK:Gw K EY "MOST_FOLK" = some (some (.int 12 tk_MOST_FOLK)))
  (v_MOST_STEP:Gw K EY "MOST_STEP" = some (some (.int 9 tk_MOST_STEP)))
  (v_MOST_SUM:Gw K EY "MOST_SUM" = some (some (.int 99 tk_MOST_SUM)))
  (v_MOST_DEPTH:Gw K EY "MOST_DEPTH" = some (some (.int 4 tk_MOST_DEPTH)))
  (v_FEWEST_PARTS:Gw K EY "FEWEST_PARTS" = some (some (.int 2 tk_FEWEST_PARTS)))
  (v_MOST_PARTS:Gw K EY "MOST_PARTS" = some (some (.int 6 tk_MOST_PARTS)))
  (v_MOST_RUNGS:Gw K EY "MOST_RUNGS" = some (some (.int 9 tk_MOST_RUNGS)))
  (v_FIGURES:Gw K EY "FIGURES" = some (some (.str "0123456789" tk_FIGURES)))
  (v_MOST_FIGURES:Gw K EY "MOST_FIGURES" = some (some (.int 9 tk_MOST_FIGURES)))
  (z_len:Gw K EY "len" = some none)
  (z_range:Gw K EY "range" = some none)
  (z_all:Gw K EY "all" = some none)
  (z_isinstance:Gw K EY "isinstance" = some none)
  (z_int:Gw K EY "int" = some none)
  (z_bool:Gw K EY "bool" = some none)
  (z_str:Gw K EY "str" = some none)
  (z_list:Gw K EY "list" = some none)
  (z_tuple:Gw K EY "tuple" = some none)
  (z_abs:Gw K EY "abs" = some none)
  (z_max:Gw K EY "max" = some none)
  (z_min:Gw K EY "min" = some none)
  (z_sum:Gw K EY "sum" = some none)
  (z_sorted:Gw K EY "sorted" = some none)
  (z_zip:Gw K EY "zip" = some none)
  (z_reversed:Gw K EY "reversed" = some none)
  (z_divmod:Gw K EY "divmod" = some none)
  (z_set:Gw K EY "set" = some none)
  (z_any:Gw K EY "any" = some none)
  (z_enumerate:Gw K EY "enumerate" = some none)
  : ∃ fd:Hy,(∀ (s:Eg) (v:Value),Ka s fd ⟨[v],[]⟩ [("_law_script",v)])/\∀ base:Gh,K.In base->base.Ns EY mg->dw l.prog w K mg base CX0 14 fa fd ["_law_script"] (wQ K):=by
 have e:=hfa.symm.trans (qq30.name X G)
 cases e
 have B:Bt mg:=⟨FN X G z_len,FN X G z_range,FN X G z_all,FN X G z_isinstance,FN X G z_int,FN X G z_bool,FN X G z_str,FN X G z_list,FN X G z_tuple,FN X G z_abs,FN X G z_max,FN X G z_min,FN X G z_sum,FN X G z_sorted,FN X G z_zip,FN X G z_reversed,FN X G z_divmod,FN X G z_set,FN X G z_any,FN X G z_enumerate⟩
 have c_MOST_FOLK:=JS X G v_MOST_FOLK
 have c_MOST_STEP:=JS X G v_MOST_STEP
 have c_MOST_SUM:=JS X G v_MOST_SUM
 have c_MOST_DEPTH:=JS X G v_MOST_DEPTH
 have c_FEWEST_PARTS:=JS X G v_FEWEST_PARTS
 have c_MOST_PARTS:=JS X G v_MOST_PARTS
 have c_MOST_RUNGS:=JS X G v_MOST_RUNGS
 have c_FIGURES:=JS X G v_FIGURES
 have c_MOST_FIGURES:=JS X G v_MOST_FIGURES
 obtain⟨_,Fq30,bq30⟩:=qq30.law (y:="_law_script") fun _ _ _ _ _ _ s v=>.of_eq rfl
 refine⟨_,bq30,fun base _ _=>?_⟩
 have dd:=fun {x:Str} {st:Stmt} {f:Addr} {ps:List Str} {sp:Sp} {k:Nat} (q:HasDef K x st f)=>q.df (P:=l.prog) (w:=w) (mg:=mg) (base:=base) (ps:=ps) (sp:=sp) (k:=k) X G
 have Dq20:=dd qq20 di fun _ F=>pG F B
 have Dq22:=dd qq22 di fun _ F=>pK F B
 have Dq23:=dd qq23 di fun _ F=>pX F B
 have S0:Df l.prog w K mg base "_law_same" 0 ["_law_found","_law_due"] (mD 0):=dd qq21 di fun _ _=>same_none
 have S1:=dd qq21 di fun _ F=>bQ F B S0
 have S2:=dd qq21 di fun _ F=>bQ F B S1
 have S3:=dd qq21 di fun _ F=>bQ F B S2
 have S4:=dd qq21 di fun _ F=>bQ F B S3
 have S5:=dd qq21 di fun _ F=>bQ F B S4
 have S6:=dd qq21 di fun _ F=>bQ F B S5
 have S7:=dd qq21 di fun _ F=>bQ F B S6
 have S8:=dd qq21 di fun _ F=>bQ F B S7
 have S9:=dd qq21 di fun _ F=>bQ F B S8
 have S10:=dd qq21 di fun _ F=>bQ F B S9
 have T0:Df l.prog w K mg base "_law_term" 1 ["_law_cell","_law_n","_law_deep","_law_most"] (lF 0):=dd qq24 tM fun _ _=>term_none
 have T1:=dd qq24 tM fun _ F=>fK F B Dq20 Dq22 Dq23 T0
 have T2:=dd qq24 tM fun _ F=>fK F B Dq20 Dq22 Dq23 T1
 have T3:=dd qq24 tM fun _ F=>fK F B Dq20 Dq22 Dq23 T2
 have T4:=dd qq24 tM fun _ F=>fK F B Dq20 Dq22 Dq23 T3
 have R0:Df l.prog w K mg base "_law_renamed" 0 ["_law_term_here","_law_row"] (sX K 0):=dd qq25 di fun _ _=>xn
 have R1:=dd qq25 di fun _ F=>eE F B R0
 have R2:=dd qq25 di fun _ F=>eE F B R1
 have R3:=dd qq25 di fun _ F=>eE F B R2
 have Dq26:=dd qq26 Aj fun _ F=>qC F B T3 R3
 have Dq27:=dd qq27 Aj fun _ F=>nH F B Dq20 Dq22 Dq23 Dq26
 have Dq0:=dd qq0 jW fun _ F=>pZ F B
 have Dq1:=dd qq1 jW fun _ F=>qX F B Dq0
 have W0:Df l.prog w K mg base "is_term_within" 1 ["many","thing","deep"] (gM 0):=dd qq3 jW fun _ _=>qU
 have P0:=dd qq2 jW fun _ F=>d8 F B c_FEWEST_PARTS c_MOST_PARTS (by decide) Dq0 W0
 have W1:=dd qq3 jW fun _ F=>cA F B c_MOST_STEP c_MOST_SUM c_MOST_FOLK (by decide) Dq0 Dq1 P0
 have P1:=dd qq2 jW fun _ F=>d8 F B c_FEWEST_PARTS c_MOST_PARTS (by decide) Dq0 W1
 have W2:=dd qq3 jW fun _ F=>cA F B c_MOST_STEP c_MOST_SUM c_MOST_FOLK (by decide) Dq0 Dq1 P1
 have P2:=dd qq2 jW fun _ F=>d8 F B c_FEWEST_PARTS c_MOST_PARTS (by decide) Dq0 W2
 have W3:=dd qq3 jW fun _ F=>cA F B c_MOST_STEP c_MOST_SUM c_MOST_FOLK (by decide) Dq0 Dq1 P2
 have P3:=dd qq2 jW fun _ F=>d8 F B c_FEWEST_PARTS c_MOST_PARTS (by decide) Dq0 W3
 have W4:=dd qq3 jW fun _ F=>cA F B c_MOST_STEP c_MOST_SUM c_MOST_FOLK (by decide) Dq0 Dq1 P3
 have Dq4:=dd qq4 di fun _ F=>t8 F B c_MOST_DEPTH W4
 have M0:Df l.prog w K mg base "mentions" 0 ["term"] (kO 0):=dd qq5 bind1 fun _ _=>uV
 have M1:=dd qq5 bind1 fun _ F=>fL F B M0
 have M2:=dd qq5 bind1 fun _ F=>fL F B M1
 have M3:=dd qq5 bind1 fun _ F=>fL F B M2
 have M4:=dd qq5 bind1 fun _ F=>fL F B M3
 have Dq6:=dd qq6 bind1 fun _ F=>xO F B M4
 have Dq7:=dd qq7 tM fun _ F=>ud F B c_MOST_STEP (by decide) Dq0 Dq4 Dq6
 have Dq8:=dd qq8 jW fun _ F=>pH F B c_MOST_RUNGS (by decide) Dq0 Dq7
 have Dq9:=dd qq9 bind1 fun _ F=>nu F B
 have X0:Df l.prog w K mg base "term_text" 1 ["term"] (jE 0):=dd qq10 bind1 fun _ _=>rR
 have Y0:Df l.prog w K mg base "_law_term_text" 0 ["_law_term_here"] (jE 0):=dd qq28 bind1 fun _ _=>rR
 have X1:=dd qq10 bind1 fun _ F=>dW F B (by decide) Dq9 X0
 have Y1:=dd qq28 bind1 fun _ F=>cH F B Y0
 have X2:=dd qq10 bind1 fun _ F=>dW F B (by decide) Dq9 X1
 have Y2:=dd qq28 bind1 fun _ F=>cH F B Y1
 have X3:=dd qq10 bind1 fun _ F=>dW F B (by decide) Dq9 X2
 have Y3:=dd qq28 bind1 fun _ F=>cH F B Y2
 have X4:=dd qq10 bind1 fun _ F=>dW F B (by decide) Dq9 X3
 have Y4:=dd qq28 bind1 fun _ F=>cH F B Y3
 have Dq11:=dd qq11 bind1 fun _ F=>lU F B X4
 have Dq29:=dd qq29 bind1 fun _ F=>jk F B Y4
 have Dq12:=dd qq12 bind1 fun _ F=>lO F B c_MOST_FIGURES c_FIGURES (by decide+kernel) Dq0
 have Dq13:=dd qq13 bind1 fun _ F=>mY F B Dq12
 have Dq14:=dd qq14 bind1 fun _ F=>nR F B Dq12 Dq13
 have Dq15:=dd qq15 di fun _ F=>jZ F B
 have V0:Df l.prog w K mg base "read_within" 4 ["text","deep"] (yQ 0):=dd qq16 di fun _ _=>zy
 have V1:=dd qq16 di fun _ F=>cX F B (by decide) Dq14 Dq15 V0
 have V2:=dd qq16 di fun _ F=>cX F B (by decide) Dq14 Dq15 V1
 have V3:=dd qq16 di fun _ F=>cX F B (by decide) Dq14 Dq15 V2
 have V4:=dd qq16 di fun _ F=>cX F B (by decide) Dq14 Dq15 V3
 have Dq17:=dd qq17 bind1 fun _ F=>pq F B c_MOST_DEPTH c_MOST_FOLK (by decide) V4 Dq4
 have Dq18:=dd qq18 bind1 fun _ F=>o9 F B (by decide) Dq12 Dq17
 have Dq19:=dd qq19 bind1 fun _ F=>lL F B c_MOST_FOLK Dq18 Dq8
 exact zK Fq30 B (by decide) Dq20 Dq22 S10 T4 Dq27 X4 Dq11 Y4 Dq29 Dq17 Dq19
theorem walk {l:W.OpenLaw} {q:Ft} {loose:List Str} {XP:(Str->Option Value)->Gh->Prop} {YP:FP->Gh->Prop} {d:DefRec} {K:Params->FT} (hn:l.most=some 63) (hdf:d.params.defaults=[])
  (hY:∀ (w:FP) (h:Gh),YP w h->(K w.params).In h)
  (F:∀ (w:FP) (mg:Str->Option Value) (fa:Addr) (h:Gh),(K w.params).In h->h.Ns EY mg->mg d.name=some (.ref fa) →
   ∃ fd:Hy,(∀ (s:Eg) (u:Value),Ka s fd ⟨[u],[]⟩ [("_law_script",u)])/\∀ base:Gh,(K w.params).In base->base.Ns EY mg->dw l.prog w (K w.params) mg base CX0 14 fa fd ["_law_script"] (wQ (K w.params))) :
  W.WalkO q loose XP YP l.row.toRowW d [] (fun f vs=>PySem.call f vs) :=
 L2.zm (n:=63) (k:=14) (x:="_law_script") (CX:=fun _=>CX0) (sp:=fun w=>wQ (K w.params)) hn (by decide) hdf ⟨rfl,by decide,by decide⟩ hY F (fun _ _ a ns hl _ hS=>⟨a,ns,rfl,hS,hl,fun _=>rfl⟩) fun _ _ _ _ _ z=>z
end My
end
open PySem PySem.W PyProof.Rows
namespace PySem.Challenge.cw_loveboon_k46_terms_and_pledges_written_holds
theorem tw14627259773775196345:True:=trivial
theorem tw8617982654425476444:True:=trivial
theorem tw10939532508735830972:True:=trivial
theorem tw10670876954846498762:True:=trivial
theorem tw14091739006929496614:True:=trivial
theorem tw4321931505425016826:True:=trivial
theorem tw6156239440348353027:True:=trivial
theorem tw16538327469750228822:True:=trivial
theorem tw17965146962473594611:True:=trivial
theorem tw13166498486665453206:True:=trivial
theorem tw18161803205024008293:True:=trivial
theorem tw923808062854121471:True:=trivial
theorem tw9133891044128365854:True:=trivial
theorem tw3891857172168718332:True:=trivial
theorem tw1396933992780727333:True:=trivial
theorem tw8168700704780106152:True:=trivial
theorem tw8625384986885084138:True:=trivial
theorem tw3128775986615887186:True:=trivial
theorem tw6639739688018473208:True:=trivial
theorem tw3897917229239356116:True:=trivial
end PySem.Challenge.cw_loveboon_k46_terms_and_pledges_written_holds
set_option maxRecDepth 100000 in
set_option maxHeartbeats 0 in
theorem PySem.Challenge.cw_loveboon_k46_terms_and_pledges_written_holds : PySem.Challenge.rw_loveboon_k46_terms_and_pledges_written.Holds := by
 w_on; o_law; k_head; (case hw=>w_witness2)
 k_fill
 refine My.walk (l:=PySem.Challenge.rw_loveboon_k46_terms_and_pledges_written) rfl rfl (fun w h Y=>W.kIn_of Y) ?F
 case F =>
  intro w mg fa h KX G hmg
  refine' My.all_mk KX G hmg ?qq0 ?qq1 ?qq2 ?qq3 ?qq4 ?qq5 ?qq6 ?qq7 ?qq8 ?qq9 ?qq10 ?qq11 ?qq12 ?qq13 ?qq14 ?qq15 ?qq16 ?qq17 ?qq18 ?qq19 ?qq20 ?qq21 ?qq22 ?qq23 ?qq24 ?qq25 ?qq26 ?qq27 ?qq28 ?qq29 ?qq30 ?v_MOST_FOLK ?v_MOST_STEP ?v_MOST_SUM ?v_MOST_DEPTH ?v_FEWEST_PARTS ?v_MOST_PARTS ?v_MOST_RUNGS ?v_FIGURES ?v_MOST_FIGURES ?z_len ?z_range ?z_all ?z_isinstance ?z_int ?z_bool ?z_str ?z_list ?z_tuple ?z_abs ?z_max ?z_min ?z_sum ?z_sorted ?z_zip ?z_reversed ?z_divmod ?z_set ?z_any ?z_enumerate
  (case qq0|qq1|qq2|qq3|qq4|qq5|qq6|qq7|qq8|qq9|qq10|qq11|qq12|qq13|qq14|qq15|qq16|qq17|qq18|qq19|qq20|qq21|qq22|qq23|qq24|qq25|qq26|qq27|qq28|qq29|qq30=>apply L2.HasDef.mk <;> k_is)
  (case v_MOST_FOLK|v_MOST_STEP|v_MOST_SUM|v_MOST_DEPTH|v_FEWEST_PARTS|v_MOST_PARTS|v_MOST_RUNGS|v_FIGURES|v_MOST_FIGURES|z_len|z_range|z_all|z_isinstance|z_int|z_bool|z_str|z_list|z_tuple|z_abs|z_max|z_min|z_sum|z_sorted|z_zip|z_reversed|z_divmod|z_set|z_any|z_enumerate=>k_is)
