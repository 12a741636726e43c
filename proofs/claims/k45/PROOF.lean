import PyProof.Rows.All
import Wide.All
import OpenK.AllK
import Wide.FinOn
import Lean
import PyProof.EqAt
import PyProof.EqKinds
import PyProof.TupleCall
import PyProof.NeKinds
import PySem.Challenge.RW_loveboon_k45_full_and_room_again
noncomputable section
open Array renaming getElem?_eq_getElem→Kw,length_toList→Le,getElem?_toList→Lx,getD_eq_getD_getElem?→Nv,getElem?_eq_none→Ow,append_assoc→Q5
open Bool renaming false_ne_true→J9,and_eq_true→Mr,and_false→Oq,false_and→Pj,or_true→Px,true_and→PN,eq_iff_iff→Qd,false_eq_true→SN,or_eq_true→Ua
open False renaming elim→K9
open ForInStep renaming yield→Qc
open Int renaming toNat_natCast→Mj,emod_lt_of_pos→Ov,emod_nonneg→Qa,zero_add→Ry
open List renaming length_map→J8,getElem?_eq_getElem→Kd,replicate→Kf,size_toArray→Km,mem_cons_of_mem→KC,mem_cons_self→KD,mem_append_right→KJ,getElem?_map→KQ,length_append→KR,length_cons→KZ,map_append→K3,length_replicate→K4,getD_eq_getElem?_getD→K6,mem_of_getElem?→K8,take_length→Ld,length_take→Lk,lookup_cons→Lr,take_zero→Lz,take_add_one→LC,length_filter_le→Mg,range→Ms,contains_cons→Mz,getElem_toArray→MK,replicate_succ→M7,append_nil→Nb,pairwise_cons→Nh,map_cons→Ni,length_range→Np,mem_singleton→Ny,getElem?_eq_none→NK,foldl_cons→NT,take_succ_cons→Oa,getElem?_replicate→Oj,filter_cons_of_pos→Ol,filter_cons_of_neg→Om,eq_nil_of_length_eq_zero→Ou,lookup→Ph,getElem_of_mem→Py,mem_append→PX,filter_append→Qg,flatten_cons→Qk,all_cons→Qw,mem_append_left→Qy,filterMap_cons→QD,getElem?_append_right→QX,drop_eq_getElem_cons→Q6,eraseIdx_nil→Q9,append_assoc→Ra,mem_cons→Rm,getElem?_set_self→Rx,of_mem_zip→RQ,getElem?_toArray→RV,replicate_succ'→R4,nodup_append→Th,map_nil→Ti,all_map→Tj,eraseIdxIfInBounds_toArray→Tr,not_mem_nil→TQ,length_drop→TV,getElem_inj→TX
open List.Pairwise renaming nil→Tn
open Nat renaming le_refl→Kc,lt_of_lt_of_le→Kg,ne_of_lt→Kz,le_trans→K7,zero_le→Lb,lt_irrefl→Ly,le_succ→M9,lt_succ_of_lt→Nm,le_of_lt→Nu,succ_ne_zero→Oh,lt_succ_self→Oi,ne_of_gt→Pr,lt_of_le_of_lt→Qf,lt_trans→Tg,succ_le_succ→TJ,not_lt_zero→T9
open Ne renaming symm→Mq
open Option.some renaming inj→La
open Or renaming inl→K5
open PyProof.Rows renaming IntsAre→Mi,step_dedup→MJ,callWith_type1→MP,AllBare→Rf,seqObj→RZ,callWith_builtin1→TF
open PyProof.Rows.F renaming plain_set_update_loop→Rt
open PySem renaming wpAny_bind→J3,Shared→J4,wpAny_pure→J7,wpAny→Ke,model→Kl,mainGlobals→Kp,Program→Kq,starEach→Kr,Str→KH,Around→KY,World→K1,bootBuiltins→Lf,rawInt→Lg,Heap→Lh,wpAny_newObj_type→Lj,wpAny_mono→Ln,mem_of_lookup→Lp,wpAny_Call_Name_kw→Ls,FuncData→LK,codeAny→LQ,wpAny_loadPart_at→Mh,eval→Mp,wpAny_setField→Mt,backTo→Mu,codeAny_builtin→Mw,wpAny_call_entry→MF,wpAny_holding→MT,foldedSetIterable→Nj,wpAny_isSubtype_exc→Nq,Scope→Nr,codeAny_mono→Nt,wpAny_of_eq→Nx,builtinLookup_eq_fast→Nz,Obj→NB,letOwnedTupleGo→NP,wpAny_truthy_bool→NZ,wpAny_standAt→N6,plainId_quiet→N7,wpAny_callSpecial?_slot→Ob,wpAny_askSetting→Oc,isSubtype_type→Od,compareOp→Oe,excClassObj→Ot,behindInMarks→Ox,pyNext→Oz,wpAny_setState_of→OD,Builtin→O2,wpAny_field→O3,wpAny_call→O4,keywordEach→O5,codeAny_call_builtin→O6,SetTable→Pa,standAt→Pk,intKind→Pn,checkBuiltinCall→Pq,wpAny_attempt→Pz,bindArgs→PB,binaryOp→PJ,typeLookup_type→PQ,getMethod→Qh,firstArgMember→Qi,wpAny_isInstance→Qm,pickOrder→Qn,assignEach→Qo,TriplesOk→Qp,Pos→Qs,holding→Qu,sliceBounds→Qx,wpAny_updateSeq→Qz,wpAny_passesOwn→QB,wpAny_setEntries_of→QC,noteFrame→QH,codeAmong→QJ,wpAny_tryCatch→QK,wpAny_seqItems→QL,wpAny_rule→QM,backToKw→QR,Result→QT,NameKind→QW,Env→QZ,wpAny_pyIter_list→Q7,leaving→Q8,wpAny_comprehension_free→Rh,attributeBase→Ri,argsOk→Rj,compPost→Ro,callWith→Rp,typeLookup→Ru,BindsTo→Rz,wpAny_specialOf→RB,wpAny_ite_false→RD,wpAny_execs_nil→RJ,codeAny_of_tree→RK,wpAny_newFunctionEnv→RX,pyIter→R0,assign→R1,Arguments→R6,signature?_of→Sd,call_meets→Ss,wpAny_pyIter_slot→SQ,relayAll→SX,compEnvC→S6,callerA→S7,GenState→Tp,plainObj_wpAny_Assign_Attribute→Tq,swapsWith→Tt,seqItems?→Tu,seqIndex?→Tv,noFill_tuple_add→Tw,wpAny_letGo→T3,sizeLine_eq→T4,wpAny_ite_split→T5,theTreesLotGoes→T6,spliced→Ub,setNext→Uc
open PySem.Around renaming under_plainId→MN
open PySem.Builtin.Builtins renaming bindParams→QG
open PySem.Builtin.List renaming listExtendWith→O1,listTooLong→Rn,listLengthHint→Ue
open PySem.Builtin.SmallTypes renaming newClass→Ud
open PySem.Calls renaming spliced_cons→Q4,spliced_nil→Rb
open PySem.Code renaming quiet_builtin→Q0
open PySem.F renaming plainAttrs_list→Nk,plain_max_loop→Oo,type_list_append→PK,slot_list_append→PL,args_tuple_add_2→Rk,entry_tuple_add→Rr,slot_tuple_add→Rv,entry_max_loop→TY
open PySem.Heap renaming get?_push_of_some→J6,lt_size→Kh,get?_push_size→Ko,get?_update_other→Kv,get?_update_self→KN,size_push→Mm,SameBut→Pu
open PySem.Heap.SameBut renaming update→Mf
open PySem.NameKind renaming free→M5,cell→Sq
open PySem.Obj renaming mapFields→Mv,mapSeq→Qt,data_mapFields→QV,isFreed_of_fields→RT,putSet→SM
open PySem.PassesOwn renaming never→M8
open PySem.SeqAt renaming EqAt→SJ
open PySem.SeqAt.EqAt renaming same→RL,str_int→Sw,of_refs→Sx,int_str→Sy
open PySem.SetTable renaming below→Ma,grown→O9
open PySem.SetTable.below renaming go→Qj
open PySem.SetTable.probe renaming go→Tc
open PySem.Str renaming ofString→QF
open PySem.Value renaming ref→Ku,none→LR,type→N8,int→Og,builtin→Sg,bool→Sv
open PySem.W renaming Frag→Ka,Frag→Ky,mg_none_of→Lq,findIn→Lw,keepIn→Ml,kia_one→Mx,emptyDict→M6,nsIn→Nf,instObj→NQ,fnOf→N5,hasDictIn→OJ,kitOne→O7,findIn→O8,looks_findIn→Pb,codeIn→Pg,callWith_K→Qe,methodCall_KW→Ql,plainGet→Qq,mg_of→Qv,takerIn→RM,kla_obj→RN,lookIn→R3,mg_of→R5,plainGet_of→R7,looks_clsIn→R8,callWith_K0→R9,Looks→Sh,fnOf→Su,plainOver→Td,methodObj→Te,isFn→Tf,handedIn→Tz,makesIn→T7,hideAll→T8
open PySem.W.Looks renaming here→Ng
open Sum renaming inr→S8,inl→S9
open True renaming intro→QS
set_option Elab.async false
set_option linter.all false
set_option maxRecDepth 100000
namespace L2
open PySem PySem.Spec PyProof.Rows
abbrev Key:=Sum Int KH
def Ie:Key->Value->Bool
 | .inl k,v=>Value.isInt k v
 | .inr x,v=>Value.isStrOf x v
def JV (w:K1):Key->Int
 | .inl k=>hashInt k
 | .inr x=>hashStr w x
theorem bM:∀ {k:Key} {v:Value},Ie k v=true->(∃ i t,k=S9 i/\v=Og i t)∨(∃ x t,k=S8 x/\v=Value.str x t)
 | .inl i,v,h=>by
  obtain⟨t,e⟩:=Value.isInt_shape (k:=i) (v:=v) h
  exact .inl ⟨i,t,rfl,e⟩
 | .inr x,v,h=>by
  obtain⟨t,e⟩:=Value.isStrOf_shape (x:=x) (v:=v) h
  exact .inr ⟨x,t,rfl,e⟩
theorem GC (a b:Int):decide ((S9 a:Key)=S9 b)=(a == b):=by
 by_cases e:a=b
 ·subst e; simp
 ·have h:¬ (S9 a:Key)=S9 b:=fun q=>e (Sum.inl.inj q)
  rw[decide_eq_false h]
  exact (beq_eq_false_iff_ne.mpr e).symm
theorem G8 (a b:KH):decide ((S8 a:Key)=S8 b)=decide (a=b):=by
 by_cases e:a=b
 ·subst e; simp
 ·have h:¬ (S8 a:Key)=S8 b:=fun q=>e (Sum.inr.inj q)
  rw[decide_eq_false h,decide_eq_false e]
theorem Gp (a:Int) (b:KH):decide ((S9 a:Key)=S8 b)=false:=decide_eq_false (fun q=>nomatch q)
theorem Il (a:KH) (b:Int):decide ((S8 a:Key)=S9 b)=false:=decide_eq_false (fun q=>nomatch q)
def w6 (prog:Kq) (w:K1):PySem.KeyKind prog w Key where
 is:=Ie
 hash:=JV w
 inj:=fun v a b ha hb=>by
  rcases bM ha with⟨i,t,rfl,rfl⟩ | ⟨x,t,rfl,rfl⟩
  ·rcases bM hb with⟨j,u,rfl,e⟩ | ⟨y,u,rfl,e⟩
   ·injection e with e1 _; rw[e1]
   ·exact nomatch e
  ·rcases bM hb with⟨j,u,rfl,e⟩ | ⟨y,u,rfl,e⟩
   ·exact nomatch e
   ·injection e with e1 _; rw[e1]
 byValue:=fun k v h=>by
  rcases bM h with⟨i,t,rfl,rfl⟩ | ⟨x,t,rfl,rfl⟩ <;> rfl
 pyHash:=fun hv h=>by
  rcases bM hv with⟨i,t,rfl,rfl⟩ | ⟨x,t,rfl,rfl⟩
  ·exact wpAny_pyHash_int h
  ·exact wpAny_pyHash_str h
 eqBool:=fun hu hv h=>by
  rcases bM hu with⟨i,t,rfl,rfl⟩ | ⟨x,t,rfl,rfl⟩
  ·rcases bM hv with⟨j,u,rfl,rfl⟩ | ⟨y,u,rfl,rfl⟩
   ·rw[GC] at h; exact wpAny_eqBool_int h
   ·rw[Gp] at h; exact Sy i t y u _ _ _ _ h
  ·rcases bM hv with⟨j,u,rfl,rfl⟩ | ⟨y,u,rfl,rfl⟩
   ·rw[Il] at h; exact Sw x t j u _ _ _ _ h
   ·rw[G8] at h; exact wpAny_eqBool_str h
 «strs»:=fun k x t v h=>by
  rcases bM h with⟨i,u,rfl,e⟩ | ⟨y,u,rfl,e⟩
  ·exact nomatch e
  ·injection e with e1 _
   subst e1
   cases v <;> rfl
end L2
namespace L2
open PySem PySem.Spec PyProof.Rows
inductive V where
 | non | bl (b:Bool) | int (i:Int) | str (x:KH) | byt (b:Array UInt8) | flt (b:UInt64) | ref (a:Addr) | ty (n:String)
 deriving DecidableEq
def RelV:V->Value->Prop
 | .non,u=>u=LR
 | .bl b,u=>u=Sv b
 | .int i,u=>∃ t,u=Og i t
 | .str x,u=>∃ t,u=Value.str x t
 | .byt b,u=>∃ t,u=Value.bytes b t
 | .flt b,u=>∃ t,u=Value.float b t
 | .ref a,u=>u=Ku a
 | .ty n,u=>u=N8 n
abbrev Vals:List V->List Value->Prop:=Paired RelV
theorem Vals.length {xs:List V} {us:List Value} (r:Vals xs us):xs.length=us.length:=Paired.length r
theorem Vals.get:∀ {xs:List V} {us:List Value} {i:Nat} {x:V},Vals xs us->xs[i]? = some x->∃ u,us[i]? = some u/\RelV x u
 | _,_,_,_,.nil,e=>by simp at e
 | _,_,0,_,.cons r _,e=>by simp at e; subst e; exact⟨_,rfl,r⟩
 | _,_,i+1,x,.cons _ t,e=>by
  obtain⟨u,h1,h2⟩:=Vals.get (i:=i) (x:=x) t (by simpa using e)
  exact⟨u,by simpa using h1,h2⟩
theorem Vals.set {x:V} {u:Value} (r:RelV x u):∀ {xs:List V} {us:List Value} (i:Nat),Vals xs us->Vals (xs.set i x) (us.set i u)
 | _,_,_,.nil=>.nil
 | _,_,0,.cons _ t=>.cons r t
 | _,_,i+1,.cons q t=>.cons q (Vals.set r i t)
theorem Vals.append:∀ {xs ys:List V} {us ws:List Value},Vals xs us->Vals ys ws->Vals (xs++ys) (us++ws)
 | _,_,_,_,.nil,s=>s
 | _,_,_,_,.cons r t,s=>.cons r (Vals.append t s)
theorem Vals.take:∀ {xs:List V} {us:List Value} (n:Nat),Vals xs us->Vals (xs.take n) (us.take n)
 | _,_,0,_=>.nil
 | _,_,_+1,.nil=>.nil
 | _,_,n+1,.cons r t=>.cons r (Vals.take n t)
theorem Vals.drop:∀ {xs:List V} {us:List Value} (n:Nat),Vals xs us->Vals (xs.drop n) (us.drop n)
 | _,_,0,r=>r
 | _,_,_+1,.nil=>.nil
 | _,_,n+1,.cons _ t=>Vals.drop n t
def wO:Option V->Option Value->Prop
 | some v,some u=>RelV v u
 | none,none=>True
 | _,_=>False
def KV {κ:Type}:List (κ × V)->List (κ × Value)->Prop:=Paired fun (p:κ × V) (q:κ × Value)=>p.1=q.1/\RelV p.2 q.2
def kV:Key->V
 | .inl i=>.int i
 | .inr x=>.str x
inductive HO where
 /-- a list -/
 | lst (xs:List V)
 /-- a tuple (never changes) -/
 | tup (xs:List V)
 /-- a dict whose keys are ints and texts; one whose keys are tuples of ints and texts (the empty one is both) -/
 | dK (kvs:List (Key × V)) | dT (kvs:List (List Key × V))
 /-- a set of ints: its members,its size -/
 | set (S:Int->Bool) (n:Nat)
 /-- an instance of the class at C,its dict at dx,its attributes -/
 | ins (C dx:Addr) (fs:List (KH × V))
 /-- the dict of the instance at x -/
 | own (x:Addr)
 /-- the dict of an exception -/
 | xd (fs:List (KH × V))
 /-- a bound method,f of x -/
 | met (f x:Addr)
 /-- a range object lo,lo+1,.. below hi -/
 | rng (lo hi:Int)
 /-- a thing that is known to the object (the script; a dict while a loop walks it): read,never written while it is so -/
 | frz (o:NB) (u:HO)
 /-- a code object's table -/
 | tbl (ps:Array Value)
 /-- any other thing,by what is true of its one object (a def of one's own: SetO a S n:=HO.ext fun h=>..) -/
 | ext (φ:Lh->Prop)
abbrev Hp:=Addr->Option HO
def upd (H:Hp) (a:Addr) (o:HO):Hp:=fun b=>if b=a then some o else H b
theorem ao {H:Hp} {a:Addr} {o:HO}:upd H a o a=some o:=by unfold upd; rw[if_pos rfl]
theorem aC {H:Hp} {a b:Addr} {o:HO} (h:b≠a):upd H a o b=H b:=by unfold upd; rw[if_neg h]
theorem my {H:Hp} {a:Addr} {o u:HO}:upd (upd H a o) a u=upd H a u:=by
 funext b; unfold upd; split <;> rfl
theorem bO {H:Hp} {a b:Addr} {o:HO} (h:H a=some o) (h':H b=none):a≠b:=by
 intro e; subst e; rw[h] at h'; cases h'
section
variable (P:Kq) (w:K1)
def dw (H:Hp) (h:Lh) (a:Addr):HO->Prop
 | .lst xs=>xs.length<=sizeLine/\∃ (its:List Value) (n:Nat),Vals xs its/\h.get? a=some { cls:=.type "list",data:=.seq its.toArray n }
 | .tup xs=>xs.length<=sizeLine/\∃ its:List Value,Vals xs its/\IsTup h a its.toArray
 | .dK kvs=>kvs.length<=sizeLine/\(a == sysModules)=false/\∃ vs,KV kvs vs/\h.DictOf (w6 P w) a vs
 | .dT kvs=>kvs.length<=sizeLine/\(a == sysModules)=false/\∃ xs:List (List Key × Addr × Value),
   Paired (fun (p:List Key × V) (q:List Key × Addr × Value)=>p.1=q.1/\H q.2.1=some (.tup (p.1.map kV))/\RelV p.2 q.2.2) kvs xs ∧
   ∃ o es ep,h.get? a=some o/\o.ExactDict/\o.data = .dict es ep/\es.toList=xs.map (entryOfKey (tupleKind (w6 P w)))/\(xs.map (·.1)).Nodup
 | .set S n=>h.SetOf (Pn P w) a S n
 | .ins C dx fs=>H dx=some (.own a)/\fs.length<=1000/\dx≠a/\h.get? a=some (NQ C dx) ∧
   ∃ mA,h.Ns1 dx mA/\(∀ f,wO (fs.lookup f) (mA f))/\PySem.Within mA (fs.map (·.1))
 | .own _=>∃ o,h.get? a=some o
 | .xd fs=>∃ mA,h.Ns1 a mA/\∀ f,wO (fs.lookup f) (mA f)
 | .rng lo hi=>∃ t u v,h.get? a=some { cls:=.type "range",data:=.fields #[.int lo t,.int hi u,.int 1 v] }
 | .frz o u=>h.get? a=some o/\dw H h a u
 | .tbl ps=>h.get? a=some { cls:=.none,data:=.fields ps }
 | .met f x=>h.get? a=some (Te (.ref f) (.ref x))
 | .ext φ=>φ h/\(∃ o,h.get? a=some o)/\∀ h1 h2:Lh,φ h1->(∀ o,h1.get? a=some o->h2.get? a=some o)->φ h2
def HOk (H:Hp) (h:Lh):Prop:=∀ a o,H a=some o->dw P w H h a o
end
section
variable {P:Kq} {w:K1} {H H':Hp} {h h':Lh} {a:Addr} {o:HO}
theorem dw.lt (x:dw P w H h a o):a < h.objs.size:=by
 cases o with
 | lst xs=>obtain⟨_,_,_,_,e⟩:=x; exact Kh e
 | tup xs=>obtain⟨_,_,_,p⟩:=x; exact p.lt
 | dK kvs=>obtain⟨_,_,_,_,o,_,_,e,_⟩:=x; exact Kh e
 | dT kvs=>obtain⟨_,_,_,_,o,_,_,e,_⟩:=x; exact Kh e
 | set S n=>obtain⟨o,_,_,_,e,_⟩:=x; exact Kh e
 | ins C dx fs=>obtain⟨_,_,_,e,_⟩:=x; exact Kh e
 | own y=>obtain⟨_,e⟩:=x; exact Kh e
 | xd fs=>obtain⟨_,⟨_,_,_,e,_⟩,_⟩:=x; exact Kh e
 | rng lo hi=>obtain⟨_,_,_,e⟩:=x; exact Kh e
 | frz ob u=>obtain⟨e,_⟩:=x; exact Kh e
 | tbl ps=>exact Kh (show h.get? a=some _ from x)
 | met f y=>exact Kh (show h.get? a=some _ from x)
 | ext φ=>obtain⟨_,⟨_,e⟩,_⟩:=x; exact Kh e
theorem Paired.Jv {α β:Type} {F G:α->β->Prop}:∀ {l₁:List α} {l₂:List β},Paired F l₁ l₂->(∀ a b,F a b->G a b)->Paired G l₁ l₂
 | _,_,.nil,_=>.nil
 | _,_,.cons r t,f=>.cons (f _ _ r) (Paired.Jv t f)
theorem dw.stay (x:dw P w H h a o) (k:∀ b u,(b=a∨H b=some (.own a))->h.get? b=some u->h'.get? b=some u)
  (ho:∀ b,H b=some (.own a)->H' b=some (.own a)) (ht:∀ b xs,H b=some (.tup xs)->H' b=some (.tup xs)):dw P w H' h' a o:=by
 induction o with
 | lst xs=>obtain⟨z,its,n,r,e⟩:=x; exact⟨z,its,n,r,k _ _ (.inl rfl) e⟩
 | tup xs=>obtain⟨z,its,r,ob,e,c⟩:=x; exact⟨z,its,r,ob,k _ _ (.inl rfl) e,c⟩
 | dK kvs=>obtain⟨z,y,vs,r,ob,es,ep,e,c⟩:=x; exact⟨z,y,vs,r,ob,es,ep,k _ _ (.inl rfl) e,c⟩
 | dT kvs =>
  obtain⟨z,y,xs,r,ob,es,ep,e,c⟩:=x
  exact⟨z,y,xs,Paired.Jv r fun p q z=>⟨z.1,ht _ _ z.2.1,z.2.2⟩,ob,es,ep,k _ _ (.inl rfl) e,c⟩
 | set S n=>obtain⟨ob,es,ep,t,e,c⟩:=x; exact⟨ob,es,ep,t,k _ _ (.inl rfl) e,c⟩
 | ins C dx fs =>
  obtain⟨d,z,ne,e,mA,⟨od,es,ep,e2,c⟩,r⟩:=x
  exact⟨ho _ d,z,ne,k _ _ (.inl rfl) e,mA,⟨od,es,ep,k _ _ (.inr d) e2,c⟩,r⟩
 | own y=>obtain⟨ob,e⟩:=x; exact⟨ob,k _ _ (.inl rfl) e⟩
 | xd fs=>obtain⟨mA,⟨od,es,ep,e,c⟩,r⟩:=x; exact⟨mA,⟨od,es,ep,k _ _ (.inl rfl) e,c⟩,r⟩
 | rng lo hi=>obtain⟨t,u,v,e⟩:=x; exact⟨t,u,v,k _ _ (.inl rfl) e⟩
 | frz ob u ih=>obtain⟨e,q⟩:=x; exact⟨k _ _ (.inl rfl) e,ih q⟩
 | tbl ps =>
  have e:h.get? a=some { cls:=.none,data:=.fields ps }:=x
  show h'.get? a=some { cls:=.none,data:=.fields ps }
  exact k a _ (.inl rfl) e
 | met f y =>
  have e:h.get? a=some (Te (.ref f) (.ref y)):=x
  show h'.get? a=some (Te (.ref f) (.ref y))
  exact k a _ (.inl rfl) e
 | ext φ=>obtain⟨p,⟨o,e⟩,st⟩:=x; exact⟨st _ _ p fun o q=>k _ _ (.inl rfl) q,⟨o,k _ _ (.inl rfl) e⟩,st⟩
theorem HOk.lt (x:HOk P w H h) (e:H a=some o):a < h.objs.size:=(x a o e).lt
theorem HOk.fresh (x:HOk P w H h) (e:h.objs.size<=a):H a=none:=by
 cases q:H a with
 | none=>rfl
 | some u=>exact absurd (Kg (x.lt q) e) (Ly _)
theorem HOk.kept (x:HOk P w H h) (k:∀ b u,h.get? b=some u->h'.get? b=some u):HOk P w H h':=fun a o e =>
 (x a o e).stay (fun b u _ q=>k b u q) (fun _ q=>q) fun _ _ q=>q
theorem HOk.laid (x:HOk P w H h) (k:∀ b u,h.get? b=some u->h'.get? b=some u) (hp:h.objs.size<=a) (new:dw P w (upd H a o) h' a o):HOk P w (upd H a o) h':=fun b u e=>by
 have hn:=x.fresh hp
 by_cases hb:b=a
 ·subst hb; rw[ao] at e; cases e; exact new
 ·rw[aC hb] at e
  exact (x b u e).stay (fun c v _ q=>k c v q) (fun c q=>by rw[aC (bO q hn)]; exact q) fun c xs q=>by rw[aC (bO q hn)]; exact q
end
def Rd (H:Hp) (a:Addr) (u:HO):Prop:=H a=some u∨∃ o,H a=some (.frz o u)
theorem Rd.ok {P:Kq} {w:K1} {H:Hp} {h:Lh} {a:Addr} {u:HO} (r:Rd H a u) (x:HOk P w H h):dw P w H h a u:=by
 rcases r with r | ⟨o,r⟩
 ·exact x a u r
 ·obtain⟨_,q⟩:=x a _ r
  exact q
def Mut:Option HO->Prop
 | some (.lst _)=>True
 | some (.dK _)=>True
 | some (.dT _)=>True
 | some (.set _ _)=>True
 | some (.ins _ _ _)=>True
 | some (.ext _)=>True
 | _=>False
section
variable {P:Kq} {w:K1} {H:Hp} {h h':Lh} {x e:Addr} {o':HO}
theorem HOk.write (ok:HOk P w H h) (mu:Mut (H x)) (he:e=x∨H e=some (.own x)) (k:∀ b u,b≠e->h.get? b=some u->h'.get? b=some u) (heo:∃ u,h'.get? e=some u)
  (new:dw P w (upd H x o') h' x o'):HOk P w (upd H x o') h':=fun b u q=>by
 have nown:∀ c y,H c=some (.own y)->c≠x:=fun c y r z=>by subst z; rw[r] at mu; exact mu
 have ntup:∀ c xs,H c=some (.tup xs)->c≠x:=fun c xs r z=>by subst z; rw[r] at mu; exact mu
 by_cases hb:b=x
 ·subst hb; rw[ao] at q; cases q; exact new
 ·rw[aC hb] at q
  by_cases hbe:b=e
  ·have q':H b=some (.own x):=by
    rcases he with z | z
    ·exact absurd (hbe.trans z) hb
    ·rw[hbe]; exact z
   rw[q] at q'; cases q'
   obtain⟨v,hv⟩:=heo
   exact⟨v,by rw[hbe]; exact hv⟩
  ·refine (ok b u q).stay (fun c v hc r=>k c v ?_ r) (fun c r=>by rw[aC (nown c b r)]; exact r) fun c xs r=>by rw[aC (ntup c xs r)]; exact r
   rcases hc with rfl | hc
   ·exact hbe
   ·rintro rfl
    rcases he with z | z
    ·exact nown c b hc z
    ·rw[hc] at z; cases z; exact hb rfl
end
structure Un (fs ex:List Addr) (H H':Hp) (h h':Lh):Prop where
 keep:∀ b o,h.get? b=some o->H b=none->b ∉ fs->b ∉ ex->h'.get? b=some o
 slot:∀ b o,h.get? b=some o->H b=none->b∈fs->b ∉ ex->∃ sl,h'.get? b=some { o with slots:=sl }
 free:∀ b o,h.get? b=some o->H b=none->b ∉ ex->H' b=none
 there:∀ b o,h.get? b=some o->b ∉ ex->∃ o',h'.get? b=some o'
 tups:∀ b xs,H b=some (.tup xs)->H' b=some (.tup xs)
 frzs:∀ b o u,H b=some (.frz o u)->H' b=some (.frz o u)
 tbls:∀ b ps,H b=some (.tbl ps)->∃ more,H' b=some (.tbl (ps++more))
section
variable {fs fs' ex ex':List Addr} {H H1 H2:Hp} {h h1 h2 h':Lh} {a x e:Addr} {o:HO}
theorem Un.any (u:Un fs ex H H1 h h1) {b:Addr} {ob:NB} (q:h.get? b=some ob) (n:H b=none) (hx:b ∉ ex):∃ sl,h1.get? b=some { ob with slots:=sl }:=by
 by_cases hb:b∈fs
 ·exact u.slot b ob q n hb hx
 ·exact⟨ob.slots,u.keep b ob q n hb hx⟩
theorem Un.trans (a:Un fs ex H H1 h h1) (b:Un fs ex H1 H2 h1 h2):Un fs ex H H2 h h2 where
 keep:=fun c ob q n hc hx=>b.keep c ob (a.keep c ob q n hc hx) (a.free c ob q n hx) hc hx
 slot:=fun c ob q n hc hx=>by
  obtain⟨sl,e1⟩:=a.slot c ob q n hc hx
  obtain⟨sl',e2⟩:=b.slot c _ e1 (a.free c ob q n hx) hc hx
  exact⟨sl',e2⟩
 free:=fun c ob q n hx=>by
  obtain⟨o',e1⟩:=a.there c ob q hx
  exact b.free c o' e1 (a.free c ob q n hx) hx
 there:=fun c ob q hx=>by
  obtain⟨o',e1⟩:=a.there c ob q hx
  exact b.there c o' e1 hx
 tups:=fun c xs q=>b.tups c xs (a.tups c xs q)
 frzs:=fun c ob xs q=>b.frzs c ob xs (a.frzs c ob xs q)
 tbls:=fun c ps q=>by
  obtain⟨m1,e1⟩:=a.tbls c ps q
  obtain⟨m2,e2⟩:=b.tbls c _ e1
  exact⟨m1++m2,by rw[e2,Q5]⟩
theorem Un.kept (k:∀ b u,h.get? b=some u->h'.get? b=some u):Un fs ex H H h h' :=
 ⟨fun b ob q _ _ _=>k b ob q,fun b ob q _ _ _=>⟨ob.slots,k b ob q⟩,fun _ _ _ n _=>n,fun b ob q _=>⟨ob,k b ob q⟩,fun _ _ q=>q,fun _ _ _ q=>q,fun _ ps q=>⟨#[],by rw[q]; simp⟩⟩
theorem Un.refl:Un fs ex H H h h:=Un.kept fun _ _ q=>q
theorem Un.laid (k:∀ b u,h.get? b=some u->h'.get? b=some u) (hp:h.objs.size<=a) (hn:H a=none):Un fs ex H (upd H a o) h h' where
 keep:=fun b u q _ _ _=>k b u q
 slot:=fun b u q _ _ _=>⟨u.slots,k b u q⟩
 free:=fun b u q n _=>by rw[aC (Kz (Kg (Kh q) hp))]; exact n
 there:=fun b u q _=>⟨u,k b u q⟩
 tups:=fun b xs q=>by rw[aC (bO q hn)]; exact q
 frzs:=fun b u xs q=>by rw[aC (bO q hn)]; exact q
 tbls:=fun b ps q=>⟨#[],by rw[aC (bO q hn),q]; simp⟩
theorem Un.write (mu:Mut (H x)) (he:e=x∨H e=some (.own x)) (k:∀ b u,b≠e->h.get? b=some u->h'.get? b=some u) (heo:∃ u,h'.get? e=some u):Un fs ex H (upd H x o) h h':=by
 have hx:∀ b,H b=none->b≠x:=fun b n z=>by subst z; rw[n] at mu; exact mu
 have hb:∀ b,H b=none->b≠e:=fun b n z=>by
  subst z
  rcases he with r | r
  ·exact hx b n r
  ·rw[n] at r; cases r
 have hm:∀ b u,H b=some u->¬ Mut (some u)->b≠x:=fun b u q nm z=>by subst z; rw[q] at mu; exact nm mu
 refine⟨fun b u q n _ _=>k b u (hb b n) q,fun b u q n _ _=>⟨u.slots,k b u (hb b n) q⟩,fun b u q n _=>by rw[aC (hx b n)]; exact n,fun b u q _=>?_,
  fun b xs q=>by rw[aC (hm b _ q fun z=>z)]; exact q,fun b u xs q=>by rw[aC (hm b _ q fun z=>z)]; exact q,fun b ps q=>⟨#[],by rw[aC (hm b _ q fun z=>z),q]; simp⟩⟩
 by_cases hbe:b=e
 ·subst hbe; exact heo
 ·exact⟨u,k b u hbe q⟩
end
def trk (h:Lh) (H:Hp):List Addr:=(Ms h.objs.size).filter fun a=>(H a).isSome
def Ci (h:Lh) (H:Hp):Lh:=T8 h (trk h H)
theorem xM (h:Lh) (H:Hp):(Ci h H).objs.size=h.objs.size:=PySem.W.hideAll_size _ _
theorem Ag {h:Lh} {H:Hp} {b:Addr} {o:NB} (e:h.get? b=some o) (n:H b=none):(Ci h H).get? b=some o :=
 PySem.W.hideAll_get _ e fun hm=>by
  have q:(H b).isSome=true:=(List.mem_filter.mp hm).2
  rw[n] at q; simp at q
theorem DY {h:Lh} {H:Hp} {b:Addr} {o:NB} (e:(Ci h H).get? b=some o):h.get? b=some o/\H b=none:=by
 have e':h.get? b=some o:=PySem.W.of_hideAll (trk h H) e
 refine⟨e',?_⟩
 cases q:H b with
 | none=>rfl
 | some x =>
  have hm:b∈trk h H:=List.mem_filter.mpr ⟨List.mem_range.mpr (Kh e'),by simp [q]⟩
  have z:(Ci h H).get? b=none:=PySem.W.hideAll_none (trk h H) hm
  rw[z] at e; cases e
def Ed (g h:Lh) (L:Addr):List (Addr × NB):=(Ms h.objs.size).filterMap fun a=>if a=L∨(g.get? a).isSome=true then none else (h.get? a).map fun o=>(a,o)
def rest (g h:Lh) (L d:Addr):List (Addr × NB):=(Ed g h L).filter fun p=>decide (p.1≠d)
end L2
namespace L2
open PySem PySem.Spec PyProof.Rows
structure Mod (K:Ka) (mg:KH->Option Value) (base:Lh):Prop where
 kin:K.In base
 glob:base.Ns Kp mg
 blt:∃ mb,base.Ns builtinsNs mb/\∀ x:KH,x≠"__name__"->mb x=Lf x
 nolimit:base.NoLimit
structure Cx where
 prog:Kq
 w:K1
 K:Ka
 mg:KH->Option Value
 base:Lh
 A:KY
 N:List KH
 s₀:J4
 H₀:Hp
 env:QZ
 outer:List QZ
 stack:List QZ
 ex:List Addr
 fn:KH->Bool
 calm:Bool
 pn:List (Addr × NB)
 xe:Value->J4->Prop
def frs (l:List QZ):List Addr:=l.filterMap (·.frame)
abbrev Cx.fs (X:Cx):List Addr:=frs X.outer
def Vis (sc:Nr) (x:KH):Prop:=sc.names.lookup x=some .local∨sc.names.lookup x=some .cell∨sc.names.lookup x=some .free
def Loc (sc:Nr) (x:KH):Prop:=sc.names.lookup x=some .local∨sc.names.lookup x=some .cell
def Look (env:QZ) (h:Lh) (m:KH->Option Value) (x:KH) (u:Value):Prop :=
 (env.kindOf x=some .local/\m x=some u)∨((env.kindOf x=some .cell∨env.kindOf x=some .free)/\∃ c,env.cells.lookup x=some c/\h.IsCell c (some u))
structure Cx.Ok (X:Cx):Prop where
 mod:Mod X.K X.mg X.base
 kind:X.env.scope.kind = .function
 glob:X.env.globals=Kp
 blt:X.env.builtins=builtinsNs
 above:X.s₀.heap.objs.size<=X.env.locals
 inj:∀ x y c,X.env.cells.lookup x=some c->X.env.cells.lookup y=some c->x=y
 has:∀ x,(X.env.kindOf x=some .cell∨X.env.kindOf x=some .free)->∃ c,X.env.cells.lookup x=some c
 cab:∀ x c,X.fn x=true->X.env.cells.lookup x=some c->X.s₀.heap.objs.size<=c
 hd:X.calm=true->X.A.handled=none
 frames:X.A.frames=some X.stack
 stk:X.stack=X.outer∨(X.stack=X.env::X.outer/\X.env.frame=some X.env.locals)
 exf:∀ b∈X.ex,b≠X.env.locals/\∀ x c,X.env.cells.lookup x=some c->c≠b
 bs:∀ b o,X.base.get? b=some o->X.s₀.heap.get? b=some o/\X.H₀ b=none
 bsz:X.base.objs.size<=X.s₀.heap.objs.size
 noex:∀ b o,X.base.get? b=some o->b ∉ X.ex
 exfs:∀ b∈X.ex,b ∉ X.fs
 m7:X.s₀.heap.FunFrames X.base X.outer
 frf:∀ b∈X.fs,X.H₀ b=none
structure Inv (X:Cx) (pins:List (Addr × NB)) (σ:List (Option V)) (H:Hp) (s:J4):Prop where
 ok:X.Ok
 os:s.os=X.s₀.os
 bare:Rf s.gens
 base:Un X.fs X.ex X.H₀ H X.s₀.heap s.heap
 loc:∃ m,s.heap.Ns X.env.locals m/\∀ (i:Nat) (x:KH) (v:V),X.N[i]? = some x->σ[i]? = some (some v)->Vis X.env.scope x->∃ u,RelV v u/\Look X.env s.heap m x u
 cell:∀ x c,X.env.cells.lookup x=some c->∃ v,s.heap.IsCell c v
 free:H X.env.locals=none
 freeC:∀ x c,X.env.cells.lookup x=some c->H c=none
 pin:∀ p∈X.pn++pins,s.heap.get? p.1=some p.2/\H p.1=none/\p.1≠X.env.locals/\p.1 ∉ X.fs/\∀ v,p.2.data≠.cell v
 hok:HOk X.prog X.w H s.heap
 len:σ.length=X.N.length
section
variable {X:Cx} {pins:List (Addr × NB)} {σ:List (Option V)} {H H':Hp} {s:J4} {h':Lh}
theorem Cx.Ok.JX (ok:X.Ok) {b:Addr} {o:NB} (e:X.base.get? b=some o):b ∉ X.fs:=fun hb=>by
 have:=(ok.m7.mem hb).1
 rw[e] at this; cases this
theorem Inv.bs (I:Inv X pins σ H s):∀ b o,X.base.get? b=some o->s.heap.get? b=some o/\H b=none:=fun b o e =>
 ⟨I.base.keep b o (I.ok.bs b o e).1 (I.ok.bs b o e).2 (I.ok.JX e) (I.ok.noex b o e),I.base.free b o (I.ok.bs b o e).1 (I.ok.bs b o e).2 (I.ok.noex b o e)⟩
theorem Inv.bk (I:Inv X pins σ H s):∀ b o,X.base.get? b=some o->s.heap.get? b=some o:=fun b o e=>(I.bs b o e).1
theorem Inv.mod (I:Inv X pins σ H s):Mod X.K X.mg X.base:=I.ok.mod
theorem Inv.kIn (I:Inv X pins σ H s):X.K.In s.heap:=I.ok.mod.kin.keeps I.bk
theorem Inv.fr (I:Inv X pins σ H s):∃ m,Fr X.base X.env.locals s.heap m :=
 let ⟨m,hn,_⟩:=I.loc
 ⟨m,hn,I.bk,K7 I.ok.bsz I.ok.above⟩
theorem Inv.lt (I:Inv X pins σ H s):X.env.locals < s.heap.objs.size:=let ⟨_,hn,_⟩:=I.loc; hn.lt
theorem Inv.sz (I:Inv X pins σ H s):X.s₀.heap.objs.size<=s.heap.objs.size:=K7 I.ok.above (Nu I.lt)
theorem Inv.JK (I:Inv X pins σ H s) {a:Addr} (h:s.heap.objs.size<=a):a ∉ X.fs:=fun hb=>by
 obtain⟨_,o,ho,_⟩:=I.ok.m7.mem hb
 exact absurd (Kg (Kh ho) (K7 I.sz h)) (Ly _)
theorem Inv.cne (I:Inv X pins σ H s):∀ x c,X.env.cells.lookup x=some c->c≠X.env.locals:=fun x c e z=>by
 obtain⟨v,o,ho,hd⟩:=I.cell x c e
 obtain⟨m,⟨o',es,ep,ho',hd',_⟩,_⟩:=I.loc
 rw[z,ho'] at ho; cases ho; rw[hd'] at hd; cases hd
theorem Inv.m7 (I:Inv X pins σ H s):s.heap.FunFrames X.base X.outer:=by
 have all:∀ (l:List QZ),(∀ b∈frs l,b∈X.fs)->X.s₀.heap.FunFrames X.base l->s.heap.FunFrames X.base l:=by
  intro l
  induction l with
  | nil=>intro _ _; trivial
  | cons env r ih =>
   intro hs hl
   obtain⟨hk,⟨L,o,hf,hn,ho,hd⟩,hr⟩:=hl
   have hL:L∈X.fs:=hs L (by unfold frs; rw[QD,hf]; exact KD)
   obtain⟨sl,e⟩:=I.base.slot L o ho (I.ok.frf L hL) hL fun z=>I.ok.exfs L z hL
   exact⟨hk,⟨L,_,hf,hn,e,hd⟩,ih (fun b hb=>hs b (by unfold frs; rw[QD,hf]; exact KC _ hb)) hr⟩
 exact all X.outer (fun _ hb=>hb) I.ok.m7
theorem Inv.stack (I:Inv X pins σ H s):s.heap.FunFrames X.base X.stack:=by
 rcases I.ok.stk with e | ⟨e,hf⟩
 ·rw[e]; exact I.m7
 ·rw[e]
  obtain⟨m,hn,_⟩:=I.loc
  refine .cons (by rw[I.ok.kind]; decide) hf hn ?_ I.m7
  exact Heap.get?_none_of_le (K7 I.ok.bsz I.ok.above)
theorem Inv.mY (I:Inv X pins σ H s):∀ b∈frs X.stack,b∈X.env.locals::X.fs:=fun b hb=>by
 rcases I.ok.stk with e | ⟨e,hf⟩
 ·rw[e] at hb; exact KC _ hb
 ·rw[e] at hb
  unfold frs at hb
  rw[QD,hf] at hb
  exact hb
theorem Inv.rQ (I:Inv X pins σ H s):∀ b∈frs X.stack,H b=none:=fun b hb=>by
 rcases List.mem_cons.mp (I.mY b hb) with e | hb
 ·rw[e]; exact I.free
 ·obtain⟨_,o,ho,_⟩:=I.ok.m7.mem hb
  exact I.base.free b o ho (I.ok.frf b hb) fun z=>I.ok.exfs b z hb
theorem Inv.step {g':Array Tp} {t':Nat} {d':Drawn} {ch:List Addr} (I:Inv X pins σ H s)
  (hch:∀ b∈ch,(b∈X.ex∨X.s₀.heap.objs.size<=b)/\b≠X.env.locals/\(∀ x c,X.env.cells.lookup x=some c->c≠b)/\∀ p∈X.pn++pins,p.1≠b)
  (keep:∀ b o,b≠X.env.locals->b ∉ X.fs->b ∉ ch->s.heap.get? b=some o->H b=none->h'.get? b=some o)
  (slot:∀ b o,b≠X.env.locals->b∈X.fs->b ∉ ch->s.heap.get? b=some o->H b=none->∃ sl,h'.get? b=some { o with slots:=sl }) (free:∀ b o,b ∉ ch->s.heap.get? b=some o->H b=none->H' b=none)
  (there:∀ b o,b ∉ ch->s.heap.get? b=some o->∃ o',h'.get? b=some o')
  (tups:∀ b xs,H b=some (.tup xs)->H' b=some (.tup xs)) (frzs:∀ b o u,H b=some (.frz o u)->H' b=some (.frz o u)) (tbls:∀ b ps,H b=some (.tbl ps)->∃ more,H' b=some (.tbl (ps++more)))
  (ns:∀ m,s.heap.Ns X.env.locals m->h'.Ns X.env.locals m) (hok:HOk X.prog X.w H' h') (hg:Rf g') :
  Inv X pins σ H' { s with heap:=h',gens:=g',drawn:=d',toks:=t' }:=by
 have neL:∀ b o,X.s₀.heap.get? b=some o->b≠X.env.locals:=fun b o e=>Kz (Kg (Kh e) I.ok.above)
 have neC:∀ b o,X.s₀.heap.get? b=some o->b ∉ X.ex->b ∉ ch:=fun b o e hx hb=>by
  rcases (hch b hb).1 with z | z
  ·exact hx z
  ·exact absurd (Kg (Kh e) z) (Ly _)
 have cellK:∀ x c,X.env.cells.lookup x=some c->∀ v,s.heap.IsCell c v->h'.IsCell c v:=fun x c e v ⟨o,ho,hd⟩=>by
  have nch:c ∉ ch:=fun z=>(hch c z).2.2.1 x c e rfl
  by_cases hc:c∈X.fs
  ·obtain⟨sl,q⟩:=slot c o (I.cne x c e) hc nch ho (I.freeC x c e)
   exact⟨_,q,hd⟩
  ·exact⟨o,keep c o (I.cne x c e) hc nch ho (I.freeC x c e),hd⟩
 refine⟨I.ok,I.os,hg,⟨fun b o e n hb hx=>?_,fun b o e n hb hx=>?_,fun b o e n hx=>?_,fun b o e hx=>?_,fun b xs e=>tups b xs (I.base.tups b xs e),fun b o xs e=>frzs b o xs (I.base.frzs b o xs e),fun b ps e=>?_⟩,?_,fun x c e=>?_,?_,fun x c e=>?_,fun p hp=>?_,hok,I.len⟩
 ·exact keep b o (neL b o e) hb (neC b o e hx) (I.base.keep b o e n hb hx) (I.base.free b o e n hx)
 ·obtain⟨sl,e1⟩:=I.base.slot b o e n hb hx
  obtain⟨sl',e2⟩:=slot b _ (neL b o e) hb (neC b o e hx) e1 (I.base.free b o e n hx)
  exact⟨sl',e2⟩
 ·obtain⟨o',e1⟩:=I.base.there b o e hx
  exact free b o' (neC b o e hx) e1 (I.base.free b o e n hx)
 ·obtain⟨o',e1⟩:=I.base.there b o e hx
  exact there b o' (neC b o e hx) e1
 ·obtain⟨m1,e1⟩:=I.base.tbls b ps e
  obtain⟨m2,e2⟩:=tbls b _ e1
  exact⟨m1++m2,by rw[e2,Q5]⟩
 ·obtain⟨m,hn,hl⟩:=I.loc
  refine⟨m,ns m hn,fun i x v e1 e2 e3=>?_⟩
  obtain⟨u,r,l⟩:=hl i x v e1 e2 e3
  refine⟨u,r,?_⟩
  rcases l with l | ⟨k,c,e,z⟩
  ·exact .inl l
  ·exact .inr ⟨k,c,e,cellK x c e _ z⟩
 ·obtain⟨v,z⟩:=I.cell x c e
  exact⟨v,cellK x c e v z⟩
 ·obtain⟨m,⟨o,_,_,ho,_⟩,_⟩:=I.loc
  exact free _ o (fun z=>(hch _ z).2.1 rfl) ho I.free
 ·obtain⟨v,o,ho,hd⟩:=I.cell x c e
  exact free c o (fun z=>(hch c z).2.2.1 x c e rfl) ho (I.freeC x c e)
 ·obtain⟨e,n,ne,nf,d⟩:=I.pin p hp
  have nch:p.1 ∉ ch:=fun z=>(hch p.1 z).2.2.2 p hp rfl
  exact⟨keep p.1 p.2 ne nf nch e n,free p.1 p.2 nch e n,ne,nf,d⟩
theorem Inv.un {t':Nat} (I:Inv X pins σ H s) (u:Un X.fs [] H H' s.heap h') (hok:HOk X.prog X.w H' h'):Inv X pins σ H' { s with heap:=h',toks:=t' }:=by
 obtain⟨m,⟨o,es,ep,ho,r⟩,_⟩:=id I.loc
 obtain⟨sl,hL⟩:=u.any ho I.free (by simp)
 exact I.step (g':=s.gens) (d':=s.drawn) (ch:=[]) (fun _ z=>nomatch z) (fun b o _ hb _ e n=>u.keep b o e n hb (by simp)) (fun b o _ hb _ e n=>u.slot b o e n hb (by simp)) (fun b o _ e n=>u.free b o e n (by simp)) (fun b o _ e=>u.there b o e (by simp)) u.tups u.frzs u.tbls (fun m' hm=>by
  obtain⟨o',es',ep',ho',r'⟩:=hm
  rw[ho] at ho'; cases ho'
  exact⟨_,es',ep',hL,r'⟩) hok I.bare
theorem Inv.call {g':Array Tp} {t':Nat} {d':Drawn} {ch:List Addr} (I:Inv X pins σ H s) (u:Un (frs X.stack) ch H H' s.heap h') (hok:HOk X.prog X.w H' h') (hg:Rf g')
  (hch:∀ b∈ch,(b∈X.ex∨X.s₀.heap.objs.size<=b)/\b≠X.env.locals/\(∀ x c,X.env.cells.lookup x=some c->c≠b)/\∀ p∈X.pn++pins,p.1≠b) :
  Inv X pins σ H' { s with heap:=h',gens:=g',drawn:=d',toks:=t' }:=by
 obtain⟨m,⟨o,es,ep,ho,r⟩,_⟩:=id I.loc
 obtain⟨sl,hL⟩:=u.any ho I.free fun z=>(hch _ z).2.1 rfl
 exact I.step (ch:=ch) hch (fun b o hL hb hc e n=>u.keep b o e n (fun z=>(List.mem_cons.mp (I.mY b z)).elim hL hb) hc) (fun b o _ _ hc e n=>u.any e n hc) (fun b o hc e n=>u.free b o e n hc) (fun b o hc e=>u.there b o e hc) u.tups u.frzs u.tbls (fun m' hm=>by
  obtain⟨o',es',ep',ho',r'⟩:=hm
  rw[ho] at ho'; cases ho'
  exact⟨_,es',ep',hL,r'⟩) hok hg
theorem Inv.turned {t':Nat} {it:Addr} (I:Inv X pins σ H s) (k:∀ b o,b≠it->s.heap.get? b=some o->h'.get? b=some o) (hn:H it=none) (hL:it≠X.env.locals)
  (h1:it∈X.ex∨X.s₀.heap.objs.size<=it) (h2:∀ x c,X.env.cells.lookup x=some c->c≠it) (h3:∀ p∈X.pn++pins,p.1≠it):Inv X pins σ H { s with heap:=h',toks:=t' }:=by
 have nit:∀ b u,H b=some u->b≠it:=fun b u e z=>by rw[z,hn] at e; cases e
 refine I.step (g':=s.gens) (d':=s.drawn) (ch:=[it]) (fun b hb=>?_) (fun b o _ _ hc e _=>k b o (fun z=>hc (by simp [z])) e) (fun b o _ _ hc e _=>⟨o.slots,k b o (fun z=>hc (by simp [z])) e⟩) (fun _ _ _ _ n=>n)
  (fun b o hc e=>⟨o,k b o (fun z=>hc (by simp [z])) e⟩) (fun _ _ e=>e) (fun _ _ _ e=>e) (fun b ps e=>⟨#[],by rw[e]; simp⟩) (fun m hm=>?_) (fun b u e=>?_) I.bare
 ·have e:b=it:=by simpa using hb
  subst e
  exact⟨h1,hL,h2,h3⟩
 ·obtain⟨o,es,ep,ho,r⟩:=hm
  exact⟨o,es,ep,k _ o (Mq hL) ho,r⟩
 ·refine (I.hok b u e).stay (fun c v hc q=>k c v ?_ q) (fun _ q=>q) fun _ _ q=>q
  rcases hc with z | z
  ·rw[z]; exact nit b u e
  ·exact nit c _ z
theorem Inv.tok (I:Inv X pins σ H s) (t:Nat):Inv X pins σ H { s with toks:=t }:=I.un (h':=s.heap) (t':=t) Un.refl I.hok
theorem Inv.kept {t':Nat} (I:Inv X pins σ H s) (k:∀ b u,s.heap.get? b=some u->h'.get? b=some u):Inv X pins σ H { s with heap:=h',toks:=t' }:=I.un (Un.kept k) (I.hok.kept k)
theorem Inv.laid {a:Addr} {o:HO} {t':Nat} (I:Inv X pins σ H s) (k:∀ b u,s.heap.get? b=some u->h'.get? b=some u) (hp:s.heap.objs.size<=a) (new:dw X.prog X.w (upd H a o) h' a o) :
  Inv X pins σ (upd H a o) { s with heap:=h',toks:=t' }:=I.un (Un.laid k hp (I.hok.fresh hp)) (I.hok.laid k hp new)
theorem Inv.write {x e:Addr} {o:HO} {t':Nat} (I:Inv X pins σ H s) (mu:Mut (H x)) (he:e=x∨H e=some (.own x)) (k:∀ b u,b≠e->s.heap.get? b=some u->h'.get? b=some u) (heo:∃ u,h'.get? e=some u)
  (new:dw X.prog X.w (upd H x o) h' x o):Inv X pins σ (upd H x o) { s with heap:=h',toks:=t' }:=I.un (Un.write mu he k heo) (I.hok.write mu he k heo new)
theorem Inv.xf {pins':List (Addr × NB)} (I:Inv X pins σ H s) (h:∀ p∈pins',s.heap.get? p.1=some p.2/\H p.1=none/\p.1≠X.env.locals/\p.1 ∉ X.fs/\∀ v,p.2.data≠.cell v):Inv X pins' σ H s :=
 ⟨I.ok,I.os,I.bare,I.base,I.loc,I.cell,I.free,I.freeC,fun p hp=>(List.mem_append.mp hp).elim (fun z=>I.pin p (Qy _ z)) (h p),I.hok,I.len⟩
theorem tZ {N:List KH} (hN:N.Nodup) {i j:Nat} {x:KH} (a:N[i]? = some x) (b:N[j]? = some x):i=j:=by
 obtain⟨h1,e1⟩:=List.getElem?_eq_some_iff.mp a
 obtain⟨h2,e2⟩:=List.getElem?_eq_some_iff.mp b
 exact (TX hN).mp (e1.trans e2.symm)
theorem pI {M:Model} {A:KY} {E:Value->J4->Prop} {i:Nat} {x:KH} {v:V} {u:Value} {Q:Unit->J4->Prop} (I:Inv X pins σ H s) (hN:X.N.Nodup) (hi:X.N[i]? = some x) (hx:Loc X.env.scope x) (r:RelV v u)
  (h:∀ s',Inv X pins (σ.set i (some v)) H s'->(∃ a,Pu a s.heap s'.heap/\(a=X.env.locals∨X.env.cells.lookup x=some a))->Q () s') (hf:X.fn x=true∨X.env.scope.names.lookup x=some .local:=by first | exact .inl rfl | exact .inr rfl | assumption):Ke M A (storeName X.env x u) Q E s:=by
 obtain⟨m,hn,hl⟩:=id I.loc
 have hcls:(X.env.scope.kind == .class || (X.env.scope.kind == .module && X.env.locals != X.env.globals))=false:=by rw[I.ok.kind]; rfl
 have hiσ:i < σ.length:=by rw[I.len]; exact (List.getElem?_eq_some_iff.mp hi).1
 have cne:=I.cne
 have tracked:∀ {a:Addr} {h':Lh},(∃ o,s.heap.get? a=some o/\H a=none)->Pu a s.heap h'->HOk X.prog X.w H h':=fun {a h'} ha hs b ob e=>by
  obtain⟨_,_,hfree⟩:=ha
  refine (I.hok b ob e).stay (fun c w' hc q=>(hs.2 c ?_).trans q) (fun _ q=>q) fun _ _ q=>q
  rintro rfl
  rcases hc with rfl | hc
  ·rw[hfree] at e; cases e
  ·rw[hfree] at hc; cases hc
 rcases hx with hk | hk
 ·refine wpAny_storeName_local hk hn (fun h' hn' hs=>?_) hcls
  obtain⟨oL,_,_,hoL,_⟩:=id hn
  refine h _ ⟨I.ok,I.os,I.bare,⟨fun b o e n hb hx=>?_,fun b o e n hb hx=>?_,I.base.free,fun b o e hx=>?_,I.base.tups,I.base.frzs,I.base.tbls⟩,⟨_,hn',fun j y v' e1 e2 e3=>?_⟩,fun y c e=>?_,I.free,I.freeC,fun p hp=>?_,tracked ⟨oL,hoL,I.free⟩ hs,by simpa using I.len⟩ ⟨_,hs,.inl rfl⟩
  ·exact (hs.2 b (Kz (Kg (Kh e) I.ok.above))).trans (I.base.keep b o e n hb hx)
  ·obtain⟨sl,e1⟩:=I.base.slot b o e n hb hx
   exact⟨sl,(hs.2 b (Kz (Kg (Kh e) I.ok.above))).trans e1⟩
  ·obtain⟨o',e1⟩:=I.base.there b o e hx
   exact⟨o',(hs.2 b (Kz (Kg (Kh e) I.ok.above))).trans e1⟩
  ·by_cases hj:j=i
   ·subst hj
    rw[hi] at e1; cases e1
    rw[Rx hiσ] at e2
    cases e2
    exact⟨u,r,.inl ⟨hk,by simp⟩⟩
   ·rw[List.getElem?_set_ne (Mq hj)] at e2
    obtain⟨u',r',q⟩:=hl j y v' e1 e2 e3
    refine⟨u',r',?_⟩
    rcases q with⟨k,e⟩ | ⟨k,c,e,z⟩
    ·refine .inl ⟨k,?_⟩
     have:y≠x:=fun e=>hj (tZ hN e1 (e▸hi))
     simp [this,e]
    ·exact .inr ⟨k,c,e,z.sameBut hs (cne y c e)⟩
  ·obtain⟨w',z⟩:=I.cell y c e
   exact⟨w',z.sameBut hs (cne y c e)⟩
  ·obtain⟨e,n,ne,nf,d⟩:=I.pin p hp
   exact⟨(hs.2 p.1 ne).trans e,n,ne,nf,d⟩
 ·have hfn:X.fn x=true:=by
   rcases hf with z | z
   ·exact z
   ·rw[z] at hk; cases hk
  obtain⟨c,hc⟩:=I.ok.has x (.inl hk)
  obtain⟨w',z⟩:=I.cell x c hc
  refine wpAny_storeName_cell I.ok.kind hk hc z (fun h' hc' hs=>?_)
  obtain⟨oc,hoc,hocd⟩:=id z
  refine h { s with heap:=h' } ⟨I.ok,I.os,I.bare,⟨fun b o e n hb hx=>?_,fun b o e n hb hx=>?_,I.base.free,fun b o e hx=>?_,I.base.tups,I.base.frzs,I.base.tbls⟩,⟨m,hn.sameBut hs (Mq (cne x c hc)),fun j y v' e1 e2 e3=>?_⟩,fun y c' e=>?_,I.free,I.freeC,fun p hp=>?_,tracked ⟨oc,hoc,I.freeC x c hc⟩ hs,by simpa using I.len⟩ ⟨c,hs,.inr hc⟩
  ·exact (hs.2 b (Kz (Kg (Kh e) (I.ok.cab x c hfn hc)))).trans (I.base.keep b o e n hb hx)
  ·obtain⟨sl,e1⟩:=I.base.slot b o e n hb hx
   exact⟨sl,(hs.2 b (Kz (Kg (Kh e) (I.ok.cab x c hfn hc)))).trans e1⟩
  ·obtain⟨o',e1⟩:=I.base.there b o e hx
   exact⟨o',(hs.2 b (Kz (Kg (Kh e) (I.ok.cab x c hfn hc)))).trans e1⟩
  ·by_cases hj:j=i
   ·subst hj
    rw[hi] at e1; cases e1
    rw[Rx hiσ] at e2
    cases e2
    exact⟨u,r,.inr ⟨.inl hk,c,hc,hc'⟩⟩
   ·rw[List.getElem?_set_ne (Mq hj)] at e2
    obtain⟨u',r',q⟩:=hl j y v' e1 e2 e3
    refine⟨u',r',?_⟩
    rcases q with q | ⟨k,c',e,z'⟩
    ·exact .inl q
    ·refine .inr ⟨k,c',e,z'.sameBut hs ?_⟩
     rintro rfl
     exact hj (tZ hN e1 (I.ok.inj _ _ _ e hc▸hi))
  ·by_cases hcc:c'=c
   ·subst hcc; exact⟨_,hc'⟩
   ·obtain⟨w2,z2⟩:=I.cell y c' e
    exact⟨w2,z2.sameBut hs hcc⟩
  ·obtain⟨e,n,ne,nf,d⟩:=I.pin p hp
   refine⟨(hs.2 p.1 ?_).trans e,n,ne,nf,d⟩
   intro q
   rw[q,hoc] at e
   have q':oc=p.2:=La e
   exact d w' (by rw[← q']; exact hocd)
theorem o8 {M:Model} {A:KY} {E:Value->J4->Prop} {i:Nat} {x:KH} {v:V} {u:Value} {Q:Unit->J4->Prop} (I:Inv X pins σ H s) (hN:X.N.Nodup) (hi:X.N[i]? = some x) (hx:Loc X.env.scope x) (r:RelV v u)
  (h:∀ s',Inv X pins (σ.set i (some v)) H s'->Q () s') (hf:X.fn x=true∨X.env.scope.names.lookup x=some .local:=by first | exact .inl rfl | exact .inr rfl | assumption):Ke M A (storeName X.env x u) Q E s :=
 pI I hN hi hx r (fun s' I' _=>h s' I') hf
theorem Inv.call' {s':J4} {ch:List Addr} (I:Inv X pins σ H s) (ho:s'.os=s.os) (u:Un (frs X.stack) ch H H' s.heap s'.heap) (hok:HOk X.prog X.w H' s'.heap) (hg:Rf s'.gens)
  (hch:∀ b∈ch,(b∈X.ex∨X.s₀.heap.objs.size<=b)/\b≠X.env.locals/\(∀ x c,X.env.cells.lookup x=some c->c≠b)/\∀ p∈X.pn++pins,p.1≠b):Inv X pins σ H' s':=by
 obtain⟨h',g',d',t',o'⟩:=s'
 have e:o'=s.os:=ho
 subst e
 exact I.call (g':=g') (t':=t') (d':=d') u hok hg hch
end
abbrev XK:=Value->Option Addr->Hp->Prop
abbrev St:=List (Option V)
abbrev VK:=V->Hp->Prop
abbrev TE:=St->Hp->VK->Prop
abbrev TT:=St->Hp->(Bool->Hp->Prop)->Prop
abbrev TA:=St->Hp->(List V->Hp->Prop)->Prop
structure Ends where
 nx:St->Hp->Prop
 rt:VK
 bk:St->Hp->Prop:=fun _ _=>False
 ct:St->Hp->Prop:=fun _ _=>False
abbrev TS:=Ends->St->Hp->Prop
inductive EP (X:Cx) (pins:List (Addr × NB)) (σ:St) (Q:VK) (u:Value) (s':J4):Prop where
 | mk (v:V) (H':Hp) (z0:Inv X pins σ H' s') (z1:RelV v u) (z2:Q v H'):EP X pins σ Q u s'
def TP (X:Cx) (pins:List (Addr × NB)) (σ:St) (Q:Bool->Hp->Prop) (b:Bool) (s':J4):Prop:=∃ H',Inv X pins σ H' s'/\Q b H'
inductive AP (X:Cx) (pins:List (Addr × NB)) (σ:St) (Q:List V->Hp->Prop) (us:List Value) (s':J4):Prop where
 | mk (vs:List V) (H':Hp) (z0:Inv X pins σ H' s') (z1:Vals vs us) (z2:Q vs H'):AP X pins σ Q us s'
def SP (X:Cx) (pins:List (Addr × NB)) (D:Ends) (f:Flow) (s':J4):Prop :=
 match f with
 | .next=>∃ σ' H',Inv X pins σ' H' s'/\D.nx σ' H'
 | .brk=>∃ σ' H',Inv X pins σ' H' s'/\D.bk σ' H'
 | .cont=>∃ σ' H',Inv X pins σ' H' s'/\D.ct σ' H'
 | .ret u=>∃ v σ' H',Inv X pins σ' H' s'/\RelV v u/\D.rt v H'
def PE (X:Cx) (e:Expr) (t:TE):Prop :=
 ∀ (pins:List (Addr × NB)) (s:J4) (σ:St) (H:Hp) (Q:VK),Inv X pins σ H s->t σ H Q->Ke (Kl X.prog X.w) X.A (Mp e X.env) (EP X pins σ Q) X.xe s
def PT (X:Cx) (e:Expr) (t:TT):Prop :=
 ∀ (pins:List (Addr × NB)) (s:J4) (σ:St) (H:Hp) (Q:Bool->Hp->Prop),Inv X pins σ H s->t σ H Q->Ke (Kl X.prog X.w) X.A (isTrue e X.env (Mp e X.env)) (TP X pins σ Q) X.xe s
def PW (X:Cx) (e:Expr) (t:TT):Prop :=
 ∀ (whole:Sem Value) (pins:List (Addr × NB)) (s:J4) (σ:St) (H:Hp) (Q:Bool->Hp->Prop),Inv X pins σ H s->t σ H Q->Ke (Kl X.prog X.w) X.A (isTrue e X.env whole) (TP X pins σ Q) X.xe s
theorem PW.pt {X:Cx} {e:Expr} {t:TT} (h:PW X e t):PT X e t:=h _
def PA (X:Cx) (es:List Expr) (t:TA):Prop :=
 ∀ (pos:Qs) (pins:List (Addr × NB)) (s:J4) (σ:St) (H:Hp) (Q:List V->Hp->Prop),Inv X pins σ H s->t σ H Q->Ke (Kl X.prog X.w) X.A (Ub (Mu pos (Kr es X.env))) (AP X pins σ Q) X.xe s
def PS (X:Cx) (st:Stmt) (t:TS):Prop :=
 ∀ (pins:List (Addr × NB)) (s:J4) (σ:St) (H:Hp) (D:Ends),Inv X pins σ H s->t D σ H->Ke (Kl X.prog X.w) X.A (exec st X.env) (SP X pins D) X.xe s
def PSs (X:Cx) (st:List Stmt) (t:TS):Prop :=
 ∀ (pins:List (Addr × NB)) (s:J4) (σ:St) (H:Hp) (D:Ends),Inv X pins σ H s->t D σ H->Ke (Kl X.prog X.w) X.A (execs st X.env) (SP X pins D) X.xe s
theorem thn {α:Type} {t:Sem α} {Q Q':α->J4->Prop} {M:Model} {A:KY} {E:Value->J4->Prop} {s:J4} (h:Ke M A t Q E s) (hQ:∀ a s,Q a s->Q' a s):Ke M A t Q' E s:=Ln h hQ fun _ _ x=>x
end L2
namespace L2
open PySem PySem.Spec PyProof.Rows
section
variable {X:Cx}
inductive ExB (x:V) (P:Bool->Prop):Prop where
 | mk (c:Bool) (z0:x = .bl c) (z1:P c):ExB x P
inductive G4 (i:Nat) (σ:St) (H:Hp) (Q:VK):Prop where
 | mk (v:V) (z0:σ[i]? = some (some v)) (z1:Q v H):G4 i σ H Q
def dH (i:Nat):TE:=fun σ H Q=>G4 i σ H Q
def tC (v:V):TE:=fun _ H Q=>Q v H
theorem CK {i:Nat} {x:KH} {pos:Qs} (hN:X.N[i]? = some x) (hv:Vis X.env.scope x) (hd:(x == ("__debug__" : KH))=false:=by decide) (hcd:(x == ("__classdict__" : KH))=false:=by decide):PE X (.Name x pos) (dH i):=by
 intro pins s σ H Q I h
 obtain⟨v,e,h⟩:=h
 obtain⟨m,hn,hl⟩:=I.loc
 obtain⟨u,r,l⟩:=hl i x v hN e hv
 have fin:EP X pins σ Q u s:=⟨v,H,I,r,h⟩
 rcases l with⟨hk,hm⟩ | ⟨hk,c,hc,hcell⟩
 ·exact wpAny_Name (wpAny_loadName_local I.ok.kind hk hn hm fin) hd
 ·rcases hk with hk | hk
  ·exact wpAny_Name (wpAny_loadName_cell I.ok.kind hk hc hcell fin) hd
  ·exact wpAny_Name (wpAny_loadName_free I.ok.kind hk hc hcell fin hcd) hd
theorem az {i j pos}:PE X (.Constant (.int i) j pos) (tC (.int i)):=fun _ _ _ H _ I h=>wpAny_Constant_int ⟨.int i,H,I.tok _,⟨_,rfl⟩,h⟩
theorem dU {b j pos}:PE X (.Constant (.bool b) j pos) (tC (.bl b)):=fun _ _ _ H _ I h=>Constant_bool ⟨.bl b,H,I,rfl,h⟩
theorem Ho {j pos}:PE X (.Constant .none j pos) (tC .non):=fun _ _ _ H _ I h=>Constant_none ⟨.non,H,I,rfl,h⟩
theorem bf {x j pos}:PE X (.Constant (.str x) j pos) (tC (.str x)):=fun _ _ _ H _ I h=>Calls.Constant_str ⟨.str x,H,I.tok _,⟨_,rfl⟩,h⟩
def Gl (X:Cx) (x:KH):Prop:=X.env.kindOf x=some .globalImplicit
theorem fG {E:Value->J4->Prop} {pins:List (Addr × NB)} {s:J4} {σ:St} {H:Hp} {x:KH} {u:Value} {pos:Qs} {Q:Value->J4->Prop} (I:Inv X pins σ H s) (hg:Gl X x) (hm:X.mg x=some u) (h:Q u s)
  (hd:(x == ("__debug__" : KH))=false:=by decide):Ke (Kl X.prog X.w) X.A (Mp (.Name x pos) X.env) Q E s :=
 Calls.Name_function_global I.ok.kind hg (Calls.loadGlobal_global (by rw[I.ok.glob]; exact I.mod.glob.keeps I.bk) hm h) hd
theorem fD {E:Value->J4->Prop} {pins:List (Addr × NB)} {s:J4} {σ:St} {H:Hp} {x:KH} {u:Value} {pos:Qs} {Q:Value->J4->Prop} (I:Inv X pins σ H s) (hg:Gl X x) (hm:X.mg x=none) (hv:Lf x=some u) (h:Q u s)
  (hn:x≠"__name__":=by decide) (hd:(x == ("__debug__" : KH))=false:=by decide):Ke (Kl X.prog X.w) X.A (Mp (.Name x pos) X.env) Q E s:=by
 obtain⟨mb,h1,h2⟩:=I.mod.blt
 exact Calls.Name_function_global I.ok.kind hg (Calls.loadGlobal_builtin (by rw[I.ok.glob]; exact I.mod.glob.keeps I.bk) hm (by rw[I.ok.blt]; exact h1.keeps I.bk) ((h2 x hn).trans hv) h) hd
theorem Eu {x:KH} {v:V} {u:Value} {pos:Qs} (hg:Gl X x) (hm:X.mg x=some u) (r:RelV v u) (hd:(x == ("__debug__" : KH))=false:=by decide):PE X (.Name x pos) (tC v) :=
 fun _ _ _ H _ I h=>fG I hg hm ⟨v,H,I,r,h⟩ hd
theorem Et {x:KH} {v:V} {u:Value} {pos:Qs} (hg:Gl X x) (hm:X.mg x=none) (hv:Lf x=some u) (r:RelV v u) (hn:x≠"__name__":=by decide) (hd:(x == ("__debug__" : KH))=false:=by decide):PE X (.Name x pos) (tC v) :=
 fun _ _ _ H _ I h=>fD I hg hm hv ⟨v,H,I,r,h⟩ hn hd
variable {a b:Expr} {ta tb:TE} {pos:Qs}
def PC (X:Cx) (op:CmpOp) (a b:Expr) (t:TE):Prop :=
 ∀ (pins:List (Addr × NB)) (s:J4) (σ:St) (H:Hp) (Q:VK),Inv X pins σ H s->t σ H Q →
  Ke (Kl X.prog X.w) X.A (Mp a X.env) (fun v s₁=>Ke (Kl X.prog X.w) X.A (Mp b X.env) (fun u s₂=>Ke (Kl X.prog X.w) X.A (Oe op v u) (EP X pins σ Q) X.xe s₂) X.xe s₁) X.xe s
theorem uw (b:Expr) {op:CmpOp} (h:op≠.In) (h2:op≠.NotIn):Ox op b=false:=by
 have e1:(op == CmpOp.In)=false:=by cases op <;> first | rfl | exact absurd rfl h
 have e2:(op == CmpOp.NotIn)=false:=by cases op <;> first | rfl | exact absurd rfl h2
 cases b <;> simp [Ox,e1,e2]
def J2 (ta:TE):TE:=fun σ H Q=>ta σ H fun x H1=>Q (.bl (decide (x = .non))) H1
theorem RelV.Bp {x:V} {v:Value} (r:RelV x v):(v == LR)=decide (x = .non):=by
 cases x with
 | non=>cases r; rfl
 | bl _=>cases r; rfl
 | int _=>obtain⟨t,rfl⟩:=r; rfl
 | str _=>obtain⟨t,rfl⟩:=r; rfl
 | byt _=>obtain⟨t,rfl⟩:=r; rfl
 | flt _=>obtain⟨t,rfl⟩:=r; rfl
 | ref _=>cases r; rfl
 | ty _=>cases r; rfl
theorem Dn {j pos'} (ha:PE X a ta):PC X .Is a (.Constant .none j pos') (J2 ta):=by
 intro pins s σ H Q I h
 refine thn (ha pins s σ H _ I h) fun v s1 ⟨x,H1,I1,r1,q1⟩=>?_
 exact Constant_none (is_none_gen ⟨.bl _,H1,I1,by rw[r1.Bp]; rfl,q1⟩)
def tB (t:TE):TT:=fun σ H Q=>t σ H fun x H1=>ExB x fun c=>Q c H1
theorem Gw {op:CmpOp} {t:TE} (h:PC X op a b t) (h1:Ox op b=false:=by first | exact uw _ (by decide) (by decide) | rfl):PE X (.Compare a [op] [b] pos) t:=fun pins s σ H Q I hw=>wpAny_Compare1 (h pins s σ H Q I hw) h1
theorem Hd {op:CmpOp} {t:TE} (h:PC X op a b t) (h1:Ox op b=false:=by first | exact uw _ (by decide) (by decide) | rfl):PT X (.Compare a [op] [b] pos) (tB t):=by
 intro pins s σ H Q I hw
 refine wpAny_isTrue_Compare1 (thn (h pins s σ H _ I hw) fun v s1 h1=>thn h1 fun u s2 h2=>thn h2 fun c s3 ⟨x,H1,I1,r1,q1⟩=>?_) h1
 obtain⟨d,rfl,q⟩:=q1
 cases r1
 exact NZ ⟨H1,I1,q⟩
theorem bR {e:Expr} {t:TE} (h:PE X e t) (he:∀ whole,isTrue e X.env whole=(do let v ← whole; Pk e.pos; Qu [v] (truthy v)):=by intro _; rfl):PT X e (tB t):=by
 intro pins s σ H Q I hw
 refine isTrue_plain (thn (h pins s σ H _ I hw) fun v s1 ⟨x,H1,I1,r1,q1⟩=>?_) (he _)
 obtain⟨d,rfl,q⟩:=q1
 cases r1
 exact NZ ⟨H1,I1,q⟩
variable {tA tB':TT} {rest:List Expr}
def JN (t u:TT):TT:=fun σ H Q=>t σ H fun c H1=>if c=true then u σ H1 Q else Q false H1
def tOr (t u:TT):TT:=fun σ H Q=>t σ H fun c H1=>if c=true then Q true H1 else u σ H1 Q
def Gn (t:TT):TT:=fun σ H Q=>t σ H fun c H1=>Q (!c) H1
theorem za (ha:PT X a tA):PW X (.BoolOp .And [a] pos) tA:=by
 intro wh pins s σ H Q I h
 refine isTrue_and (thn (ha pins s σ H Q I h) fun c s1 e=>?_)
 cases c with
 | true=>exact isTrue_and_nil e
 | false=>exact e
theorem fM (ha:PT X a tA):PW X (.BoolOp .Or [a] pos) tA:=by
 intro wh pins s σ H Q I h
 refine isTrue_or (thn (ha pins s σ H Q I h) fun c s1 e=>?_)
 cases c with
 | false=>exact isTrue_or_nil e
 | true=>exact e
theorem Dq (ha:PT X a tA) (hb:PW X (.BoolOp .And (b::rest) pos) tB'):PW X (.BoolOp .And (a::b::rest) pos) (JN tA tB'):=by
 intro wh pins s σ H Q I h
 refine isTrue_and (thn (ha pins s σ H _ I h) fun c s1 ⟨H1,I1,q1⟩=>?_)
 cases c with
 | true=>exact hb wh pins s1 σ H1 Q I1 q1
 | false=>exact⟨H1,I1,q1⟩
theorem jV (ha:PT X a tA) (hb:PW X (.BoolOp .Or (b::rest) pos) tB'):PW X (.BoolOp .Or (a::b::rest) pos) (tOr tA tB'):=by
 intro wh pins s σ H Q I h
 refine isTrue_or (thn (ha pins s σ H _ I h) fun c s1 ⟨H1,I1,q1⟩=>?_)
 cases c with
 | true=>exact⟨H1,I1,q1⟩
 | false=>exact hb wh pins s1 σ H1 Q I1 q1
theorem cJ (ha:PT X a tA):PT X (.UnaryOp .Not a pos) (Gn tA):=by
 intro pins s σ H Q I h
 exact isTrue_not (ha pins s σ H (fun c H1=>Q (!c) H1) I h)
def Jm (ta tb:TE):TE:=fun σ H Q=>ta σ H fun x H1=>ExB x fun c=>if c=true then tb σ H1 Q else Q (.bl false) H1
def Iz (ta:TE):TE:=fun σ H Q=>ta σ H fun x H1=>ExB x fun c=>Q (.bl (!c)) H1
theorem iR {op} {t:TE} (h:PE X a t):PE X (.BoolOp op [a] pos) t:=fun pins s σ H Q I hw=>BoolOp_one (h pins s σ H Q I hw)
theorem dq (ha:PE X a ta) (hb:PE X (.BoolOp .And (b::rest) pos) tb):PE X (.BoolOp .And (a::b::rest) pos) (Jm ta tb):=by
 intro pins s σ H Q I h
 refine BoolOp_and (thn (ha pins s σ H _ I h) fun v s1 ⟨x,H1,I1,r1,q1⟩=>?_)
 obtain⟨c,rfl,q1⟩:=q1
 cases r1
 refine NZ ?_
 cases c with
 | true=>exact hb pins s1 σ H1 Q I1 q1
 | false=>exact⟨.bl false,H1,I1,rfl,q1⟩
theorem GR (ha:PE X a ta):PE X (.UnaryOp .Not a pos) (Iz ta):=by
 intro pins s σ H Q I h
 refine UnaryOp_ (thn (ha pins s σ H _ I h) fun v s1 ⟨x,H1,I1,r1,q1⟩=>?_)
 obtain⟨c,rfl,q1⟩:=q1
 cases r1
 exact not_of (NZ ⟨.bl (!c),H1,I1,rfl,q1⟩)
def tIf (t:TT) (ta tb:TE):TE:=fun σ H Q=>t σ H fun c H1=>if c=true then ta σ H1 Q else tb σ H1 Q
theorem uV {c:Expr} (hc:PT X c tA) (ha:PE X a ta) (hb:PE X b tb):PE X (.IfExp c a b pos) (tIf tA ta tb):=by
 intro pins s σ H Q I h
 refine wpAny_IfExp (thn (hc pins s σ H _ I h) fun d s1 ⟨H1,I1,q1⟩=>?_)
 cases d with
 | true=>exact ha pins s1 σ H1 Q I1 q1
 | false=>exact hb pins s1 σ H1 Q I1 q1
end
end L2
namespace L2
open PySem PySem.Spec PyProof.Rows
def SqL (K:Ka) (H:Hp) (a:Addr) (xs:List V):Prop :=
 Rd H a (.lst xs) ∨
  ∃ (o:NB) (its:Array Value) (n:Nat),K.lookup a=some o/\o.cls = .type "list"/\o.dict=none/\o.data = .seq its n/\its.size<=sizeLine/\Vals xs its.toList
def SqT (K:Ka) (H:Hp) (a:Addr) (xs:List V):Prop :=
 Rd H a (.tup xs) ∨
  ∃ (o:NB) (its:Array Value) (n:Nat),K.lookup a=some o/\o.cls = .type "tuple"/\o.data = .seq its n/\its.size<=sizeLine/\Vals xs its.toList
def JS:Value->Option V
 | .none=>some .non
 | .bool b=>some (.bl b)
 | .int i _=>some (.int i)
 | .str x _=>some (.str x)
 | .bytes b _=>some (.byt b)
 | .float b _=>some (.flt b)
 | .ref a=>some (.ref a)
 | .type n=>some (.ty n)
 | _=>none
theorem RelV.abs {x:V} {u:Value} (r:RelV x u):JS u=some x:=by
 cases x with
 | non=>cases r; rfl
 | bl _=>cases r; rfl
 | int _=>obtain⟨t,rfl⟩:=r; rfl
 | str _=>obtain⟨t,rfl⟩:=r; rfl
 | byt _=>obtain⟨t,rfl⟩:=r; rfl
 | flt _=>obtain⟨t,rfl⟩:=r; rfl
 | ref _=>cases r; rfl
 | ty _=>cases r; rfl
theorem RelV.inj {x y:V} {u:Value} (r:RelV x u) (q:RelV y u):x=y:=La (r.abs.symm.trans q.abs)
theorem Vals.inj:∀ {xs ys:List V} {us:List Value},Vals xs us->Vals ys us->xs=ys
 | _,_,_,.nil,.nil=>rfl
 | _,_,_,.cons r t,.cons r' t'=>by rw[r.inj r',Vals.inj t t']
section
variable {X:Cx} {pins:List (Addr × NB)} {σ:St} {H:Hp} {s:J4} {a:Addr} {xs ys:List V}
theorem SqL.of {K:Ka} (h:H a=some (.lst xs)):SqL K H a xs:=.inl (.inl h)
theorem SqT.of {K:Ka} (h:H a=some (.tup xs)):SqT K H a xs:=.inl (.inl h)
theorem Inv.list (I:Inv X pins σ H s) (h:SqL X.K H a xs):∃ its:List Value,Vals xs its/\PlainL s.heap a its.toArray/\xs.length<=sizeLine:=by
 rcases h with h | ⟨o,its,n,hk,hc,hd,hs,hz,r⟩
 ·obtain⟨z,its,n,r,e⟩:=h.ok I.hok
  exact⟨its,r,⟨_,n,e,rfl,rfl,rfl⟩,z⟩
 ·refine⟨its.toList,r,⟨o,n,I.kIn a o hk,hc,hd,by simpa using hs⟩,?_⟩
  have e:=r.length
  simp only[Le] at e
  lia
theorem Inv.tuple (I:Inv X pins σ H s) (h:SqT X.K H a xs):∃ its:List Value,Vals xs its/\IsTup s.heap a its.toArray/\xs.length<=sizeLine:=by
 rcases h with h | ⟨o,its,n,hk,hc,hs,hz,r⟩
 ·obtain⟨z,its,r,p⟩:=h.ok I.hok
  exact⟨its,r,p,z⟩
 ·refine⟨its.toList,r,⟨o,I.kIn a o hk,hc,n,by simpa using hs⟩,?_⟩
  have e:=r.length
  simp only[Le] at e
  lia
theorem Inv.BR (I:Inv X pins σ H s) (h:SqL X.K H a xs) (h':SqL X.K H a ys):xs=ys:=by
 obtain⟨its,r,⟨o,n,e,_,_,d⟩,_⟩:=I.list h
 obtain⟨its',r',⟨o',n',e',_,_,d'⟩,_⟩:=I.list h'
 rw[e] at e'; cases e'
 rw[d] at d'
 injection d' with d1 _
 have:its=its':=by simpa using congrArg Array.toList d1
 subst this
 exact r.inj r'
theorem Inv.pQ (I:Inv X pins σ H s) (h:SqT X.K H a xs) (h':SqT X.K H a ys):xs=ys:=by
 obtain⟨its,r,⟨o,e,_,n,d⟩,_⟩:=I.tuple h
 obtain⟨its',r',⟨o',e',_,n',d'⟩,_⟩:=I.tuple h'
 rw[e] at e'; cases e'
 rw[d] at d'
 injection d' with d1 _
 have:its=its':=by simpa using congrArg Array.toList d1
 subst this
 exact r.inj r'
end
abbrev Cx.wish (X:Cx) (E:Value->J4->Prop):Cx:={ X with xe:=E }
abbrev Cx.nox (X:Cx):Cx:=X.wish fun _ _=>False
theorem Cx.Ok.wish {X:Cx} (ok:X.Ok) (E:Value->J4->Prop):(X.wish E).Ok :=
 ⟨ok.mod,ok.kind,ok.glob,ok.blt,ok.above,ok.inj,ok.has,ok.cab,ok.hd,ok.frames,ok.stk,ok.exf,ok.bs,ok.bsz,ok.noex,ok.exfs,ok.m7,ok.frf⟩
theorem Cx.Ok.jJ {X:Cx} {E:Value->J4->Prop} (ok:(X.wish E).Ok):X.Ok :=
 ⟨ok.mod,ok.kind,ok.glob,ok.blt,ok.above,ok.inj,ok.has,ok.cab,ok.hd,ok.frames,ok.stk,ok.exf,ok.bs,ok.bsz,ok.noex,ok.exfs,ok.m7,ok.frf⟩
section
variable {X:Cx} {pins:List (Addr × NB)} {σ:St} {H:Hp} {s:J4} {E:Value->J4->Prop}
theorem Inv.wish (I:Inv X pins σ H s) (E:Value->J4->Prop):Inv (X.wish E) pins σ H s:=⟨I.ok.wish E,I.os,I.bare,I.base,I.loc,I.cell,I.free,I.freeC,I.pin,I.hok,I.len⟩
theorem Inv.jJ (I:Inv (X.wish E) pins σ H s):Inv X pins σ H s:=⟨I.ok.jJ,I.os,I.bare,I.base,I.loc,I.cell,I.free,I.freeC,I.pin,I.hok,I.len⟩
theorem SP.jJ {D:Ends} {f:Flow} {s':J4} (h:SP (X.wish E) pins D f s'):SP X pins D f s':=by
 cases f with
 | next=>obtain⟨σ',H',I,q⟩:=h; exact⟨σ',H',I.jJ,q⟩
 | brk=>obtain⟨σ',H',I,q⟩:=h; exact⟨σ',H',I.jJ,q⟩
 | cont=>obtain⟨σ',H',I,q⟩:=h; exact⟨σ',H',I.jJ,q⟩
 | ret u=>obtain⟨v,σ',H',I,r,q⟩:=h; exact⟨v,σ',H',I.jJ,r,q⟩
theorem PSs.nox {st:List Stmt} {t:TS} (h:PSs X.nox st t):PSs X st t:=fun pins s σ H D I hw =>
 Ln (h pins s σ H D (I.wish _) hw) (fun _ _ q=>q.jJ) fun _ _ z=>K9 z
end
section
variable {X:Cx} {st:Stmt} {rest:List Stmt} {t u:TS} {e:Expr} {te:TE} {pos:Qs}
def qH:TS:=fun D σ H=>D.nx σ H
def wU (t u:TS):TS:=fun D σ H=>t { D with nx:=u D } σ H
theorem aJ:PSs X [] qH:=fun _ _ σ H _ I h=>RJ ⟨σ,H,I,h⟩
theorem ak (h1:PS X st t) (h2:PSs X rest u):PSs X (st::rest) (wU t u):=by
 intro pins s σ H D I h
 refine wpAny_execs_cons (thn (h1 pins s σ H { D with nx:=u D } I h) fun f s1 q=>?_)
 cases f with
 | next =>
  obtain⟨σ',H',I',q⟩:=q
  exact h2 pins s1 σ' H' D I' q
 | ret v=>exact q
 | brk=>exact q
 | cont=>exact q
theorem aq (h1:PS X st t):PSs X [st] t:=by
 intro pins s σ H D I h
 refine wpAny_execs_cons (thn (h1 pins s σ H D I h) fun f s1 q=>?_)
 cases f with
 | next=>exact RJ q
 | ret v=>exact q
 | brk=>exact q
 | cont=>exact q
theorem Inv.quiet {pins:List (Addr × NB)} {σ:St} {H:Hp} {s:J4} (I:Inv X pins σ H s):interactive X.env=false:=by simp [interactive,I.ok.kind]
def Am (te:TE):TS:=fun D σ H=>te σ H fun _ H1=>D.nx σ H1
theorem bJ (he:PE X e te) (hs:Tt e none pos.line X.env=pure false:=by rfl):PS X (.Expr e pos) (Am te):=by
 intro pins s σ H D I h
 exact wpAny_Expr_any (thn (he pins s σ H _ I h) fun v s1 ⟨x,H1,I1,r1,q1⟩=>⟨σ,H1,I1,q1⟩) I.quiet hs
def Ge (te:TE):TS:=fun D σ H=>te σ H D.rt
theorem aH (he:PE X e te):PS X (.Return (some e) pos) (Ge te):=by
 intro pins s σ H D I h
 exact wpAny_Return_some (thn (he pins s σ H _ I h) fun v s1 ⟨x,H1,I1,r1,q1⟩=>⟨x,σ,H1,I1,r1,q1⟩)
def Ds (c:TT) (t u:TS):TS:=fun D σ H=>c σ H fun b H1=>if b=true then t D σ H1 else u D σ H1
theorem bc {c:Expr} {a b:List Stmt} {tc:TT} (hc:PT X c tc) (ha:PSs X a t) (hb:PSs X b u):PS X (.If c a b pos) (Ds tc t u):=by
 intro pins s σ H D I h
 refine wpAny_If (thn (hc pins s σ H _ I h) fun d s1 ⟨H1,I1,q1⟩=>?_)
 cases d with
 | true=>exact ha pins s1 σ H1 D I1 q1
 | false=>exact hb pins s1 σ H1 D I1 q1
def Ig:TS:=fun _ _ _=>False
theorem je:PS X st Ig:=fun _ _ _ _ _ _ h=>h.elim
end
abbrev TG:=V->St->Hp->(St->Hp->Prop)->Prop
abbrev TGs:=List V->St->Hp->(St->Hp->Prop)->Prop
def PG (X:Cx) (target:Expr) (t:TG):Prop :=
 ∀ (pins:List (Addr × NB)) (s:J4) (σ:St) (H:Hp) (v:V) (u:Value) (Q:St->Hp->Prop),Inv X pins σ H s->RelV v u->t v σ H Q →
  Ke (Kl X.prog X.w) X.A (R1 target X.env u) (fun _ s'=>∃ σ' H',Inv X pins σ' H' s'/\Q σ' H') X.xe s
def PGs (X:Cx) (ts:List Expr) (t:TGs):Prop :=
 ∀ (pins:List (Addr × NB)) (s:J4) (σ:St) (H:Hp) (vs:List V) (us:List Value) (Q:St->Hp->Prop),Inv X pins σ H s->Vals vs us->t vs σ H Q →
  Ke (Kl X.prog X.w) X.A (assignInOrder ((Qo ts X.env).map (·.2)) us) (fun _ s'=>∃ σ' H',Inv X pins σ' H' s'/\Q σ' H') X.xe s
section
variable {X:Cx} {pos:Qs}
def iz (i:Nat):TG:=fun v σ H Q=>Q (σ.set i (some v)) H
theorem aQ {i:Nat} {x:KH} (hN:X.N.Nodup) (hi:X.N[i]? = some x) (hx:Loc X.env.scope x) (hf:X.fn x=true∨X.env.scope.names.lookup x=some .local:=by first | exact .inl rfl | exact .inr rfl | assumption):PG X (.Name x pos) (iz i):=by
 intro pins s σ H v u Q I r h
 exact wpAny_assign_Name (o8 I hN hi hx r (fun s' I'=>⟨_,H,I',h⟩) hf)
def Ju:TGs:=fun vs σ H Q=>vs=[]/\Q σ H
inductive DP (t:TG) (u:TGs) (vs:List V) (σ:St) (H:Hp) (Q:St->Hp->Prop):Prop where
 | mk (v:V) (r:List V) (z0:vs=v::r) (z1:t v σ H fun σ' H'=>u r σ' H' Q):DP t u vs σ H Q
def Ft (t:TG) (u:TGs):TGs:=fun vs σ H Q=>DP t u vs σ H Q
theorem ie:PGs X [] Ju:=by
 intro pins s σ H vs us Q I r h
 obtain⟨e,h⟩:=h
 subst e
 cases r
 exact assignInOrder_nil ⟨σ,H,I,h⟩
theorem bG {e:Expr} {es:List Expr} {t:TG} {u:TGs} (h1:PG X e t) (h2:PGs X es u)
  (hs:(Qo (e::es) X.env).map (·.2)=R1 e X.env::(Qo es X.env).map (·.2):=by rfl):PGs X (e::es) (Ft t u):=by
 intro pins s σ H vs us Q I r h
 obtain⟨v,vr,e1,h⟩:=h
 subst e1
 cases r with
 | cons r rr =>
  rw[hs]
  refine assignInOrder_cons (thn (h1 pins s σ H _ _ _ I r h) fun _ s1 ⟨σ1,H1,I1,q1⟩=>?_)
  exact h2 pins s1 σ1 H1 _ _ Q I1 rr q1
inductive Hc (K:Ka) (n:Nat) (t:TGs) (v:V) (σ:St) (H:Hp) (Q:St->Hp->Prop):Prop where
 | mk (a:Addr) (xs:List V) (z0:v = .ref a) (z1:SqT K H a xs) (z2:xs.length=n) (z3:t xs σ H Q):Hc K n t v σ H Q
def Jj (K:Ka) (n:Nat) (t:TGs):TG:=fun v σ H Q=>Hc K n t v σ H Q
theorem Ii {es:List Expr} {k:Nat} {t:TGs} {n:Nat} (hc:X.calm=true) (h:PGs X es t)
  (hn:(Qo es X.env).length=n:=by rfl) (hst:(Qo es X.env).findIdx? (·.1)=none:=by rfl):PG X (.Tuple es k pos) (Jj X.K n t):=by
 intro pins s σ H v u Q I r hw
 obtain⟨a,xs,e1,hq,hl,hw⟩:=hw
 subst e1
 cases r
 obtain⟨its,rv,ht,hz⟩:=I.tuple hq
 refine assign_Tuple_tuple (I.ok.hd hc) ht (by simp [hn,← hl,rv.length]) hst fun h' hx=>?_
 have I1:Inv X pins σ H { s with heap:=h' }:=I.kept (t':=s.toks) fun b o e=>hx b o (Kz (Kh e)) e
 exact h pins _ σ H xs _ Q I1 (by simpa using rv) hw
def Di (te:TE) (g:TG):TS:=fun D σ H=>te σ H fun x H1=>g x σ H1 D.nx
theorem zU {tg e:Expr} {te:TE} {g:TG} (he:PE X e te) (hg:PG X tg g) (hs:swapsWithSole [tg] e pos.line X.env=pure false:=by rfl) (hw:swappedStores [tg] e X.env=pure none:=by rfl)
  (h1:(Qo [tg] X.env).map (·.2)=[R1 tg X.env]:=by rfl):PS X (.Assign [tg] e pos) (Di te g):=by
 intro pins s σ H D I h
 refine wpAny_Assign_stores (thn (he pins s σ H _ I h) fun v s1 ⟨x,H1,I1,r1,q1⟩=>?_) hs hw
 rw[h1]
 exact thn (hg pins s1 σ H1 x v _ I1 r1 q1) fun _ s2 q=>q
theorem aY {i:Nat} {x:KH} {e:Expr} {te:TE} {pos':Qs} (hN:X.N.Nodup) (hi:X.N[i]? = some x) (hx:Loc X.env.scope x) (he:PE X e te) (hs:Tt e (some (.Name x pos')) pos.line X.env=pure false:=by rfl) (hf:X.fn x=true∨X.env.scope.names.lookup x=some .local:=by first | exact .inl rfl | exact .inr rfl | assumption) :
  PS X (.Assign [.Name x pos'] e pos) (Di te (iz i)):=by
 intro pins s σ H D I h
 refine wpAny_Assign_Name (thn (he pins s σ H _ I h) fun v s1 ⟨y,H1,I1,r1,q1⟩=>?_) hs
 exact o8 I1 hN hi hx r1 (fun s2 I2=>⟨_,H1,I2,q1⟩) hf
end
section
variable {X:Cx} {pos:Qs}
end
structure It where
 go:Nat->Hp->Prop
 yld:Nat->Hp->V->Hp->Prop
 stop:Nat->Hp->Prop
def uO (X:Cx) (pins:List (Addr × NB)) (H:Hp) (b:Addr):Prop :=
 H b=none/\b≠X.env.locals/\b ∉ X.fs/\(b∈X.ex∨X.s₀.heap.objs.size<=b)/\(∀ x c,X.env.cells.lookup x=some c->c≠b)/\∀ p∈X.pn++pins,p.1≠b
theorem Inv.Gr {X:Cx} {pins:List (Addr × NB)} {σ:St} {H H':Hp} {s:J4} {b:Addr} (I:Inv X pins σ H s) (hb:s.heap.objs.size<=b) (hn:H' b=none):uO X pins H' b:=by
 refine⟨hn,Pr (Kg I.lt hb),I.JK hb,.inr (K7 I.sz hb),fun x c e z=>?_,fun p hp z=>?_⟩
 ·obtain⟨v,q⟩:=I.cell x c e
  exact absurd (Kg q.lt (by rw[z]; exact hb)) (Ly _)
 ·exact absurd (Kg (Kh (I.pin p hp).1) (by rw[z]; exact hb)) (Ly _)
structure Turn (P:Kq) (w:K1) (K:Ka) (tg:Expr) (J:It) (fp:List Addr) (it:Addr) (tn:Nat->Lh->Prop):Prop where
 mem:it∈fp
 obj:∀ i h,tn i h->∀ b∈fp,∃ o,h.get? b=some o/\∀ v,o.data≠.cell v
 keep:∀ i h h',tn i h->(∀ b∈fp,∀ o,h.get? b=some o->h'.get? b=some o)->tn i h'
 item:∀ (X:Cx),X.prog=P->X.w=w->X.K=K->X.calm=true->∀ (i:Nat) (pins:List (Addr × NB)) (s:J4) (σ:St) (H:Hp) (E:Value->J4->Prop),Inv X pins σ H s->(∀ b∈fp,uO X pins H b)->tn i s.heap->J.go i H →
  Ke (Kl P w) X.A (Oz (.ref it)) (fun r s1=>∃ u,r=some u ∧
   Ke (Kl P w) X.A (NP tg (.ref it) u) (fun _ s2=>∃ x H',Inv X pins σ H' s2/\RelV x u/\J.yld i H x H'/\tn (i+1) s2.heap/\∀ b∈fp,H' b=none) E s1) E s
 done:∀ (X:Cx),X.prog=P->X.w=w->X.K=K->X.calm=true->∀ (i:Nat) (pins:List (Addr × NB)) (s:J4) (σ:St) (H:Hp) (E:Value->J4->Prop),Inv X pins σ H s->(∀ b∈fp,uO X pins H b)->tn i s.heap->J.stop i H →
  Ke (Kl P w) X.A (Oz (.ref it)) (fun r s1=>r=none/\Inv X pins σ H s1) E s
 self:∀ (A:KY) (i:Nat) (s:J4) (Q:Value->J4->Prop) (E:Value->J4->Prop),tn i s.heap->Q (.ref it) s->Ke (Kl P w) A (R0 (.ref it)) Q E s
abbrev TI:=St->Hp->(It->Hp->Prop)->Prop
def PIE (X:Cx) (pins:List (Addr × NB)) (σ:St) (tg:Expr) (R:It->Hp->Prop) (itv:Value) (s2:J4):Prop :=
 ∃ (it:Addr) (fp:List Addr) (tn:Nat->Lh->Prop) (J:It) (H':Hp),itv = .ref it/\Inv X pins σ H' s2/\Turn X.prog X.w X.K tg J fp it tn/\tn 0 s2.heap/\(∀ b∈fp,uO X pins H' b)/\R J H'
def PI (X:Cx) (tg iter:Expr) (wi:TI):Prop :=
 ∀ (pins:List (Addr × NB)) (s:J4) (σ:St) (H:Hp) (R:It->Hp->Prop),Inv X pins σ H s->wi σ H R →
  Ke (Kl X.prog X.w) X.A (Mp iter X.env) (fun v s1=>Ke (Kl X.prog X.w) X.A (R0 v) (PIE X pins σ tg R) X.xe s1) X.xe s
theorem Bb {M : Model} {A : KY} {E : Value → J4 → Prop} {s : J4} {tg : Expr} {it : Addr} {u : Value} {o : NB} {n : String} {vs : Array Value} {Q : Unit → J4 → Prop} (ho : s.heap.get? it = some o) (hc : o.cls = .type n) (hd : o.data = .fields vs)
    (hn : ["enumerate", "zip", "dict_itemiterator", "dict_reverseitemiterator", "odict_iterator", "itertools.zip_longest", "itertools.pairwise"].contains n = false) (hQ : Q () s) : Ke M A (NP tg (.ref it) u) Q E s := by
  unfold NP
  cases tg <;> first
    | exact J7 hQ
    | (cases u <;> first
        | exact J7 hQ
        | (refine J3 (wpAny_load ho ?_)
           rw [hc, hd]
           show Ke M A (if (["enumerate", "zip", "dict_itemiterator", "dict_reverseitemiterator", "odict_iterator", "itertools.zip_longest", "itertools.pairwise"].contains n && vs[0]? == some (Lg _)) = true then _ else _) Q E s
           rw [if_neg (by intro h; rw [hn, Pj] at h; cases h)]
           exact J7 hQ))
def Itl (K:Ka) (a:Addr):It :=
 ⟨fun i H=>∃ xs x,SqL K H a xs/\xs[i]? = some x,fun i H x H'=>H'=H/\∀ xs,SqL K H a xs->xs[i]? = some x,fun i H=>∃ xs,SqL K H a xs/\xs.length<=i⟩
def Itt (K:Ka) (a:Addr):It :=
 ⟨fun i H=>∃ xs x,SqT K H a xs/\xs[i]? = some x,fun i H x H'=>H'=H/\∀ xs,SqT K H a xs->xs[i]? = some x,fun i H=>∃ xs,SqT K H a xs/\xs.length<=i⟩
def Itr (lo:Int) (n:Nat):It:=⟨fun i _=>i < n,fun i H x H'=>H'=H/\x = .int (lo+i),fun i _=>n<=i⟩
theorem zT {P:Kq} {w:K1} {K:Ka} {tg:Expr} (a it:Addr):Turn P w K tg (Itl K a) [it] it (fun i h=>h.IsListIter it a i) where
 mem:=by simp
 obj:=fun i h st b hb=>by
  have e:b=it:=by simpa using hb
  subst e
  obtain⟨o,e,c,d⟩:=st
  exact⟨o,e,fun v z=>by rw[d] at z; cases z⟩
 keep:=fun i h h' st k=>st.at fun o e=>k it (by simp) o e
 item:=by
  intro X hP hw hK hc i pins s σ H E I hf st hg
  subst hP hw hK
  obtain⟨xs,x,hq,hx⟩:=hg
  obtain⟨its,rv,p,hz⟩:=I.list hq
  obtain⟨u,hu,ru⟩:=rv.get hx
  obtain⟨f0,f1,f2,f3,f4,f5⟩:=hf it (by simp)
  refine wpAny_pyNext_list_item st p.isList (x:=u) (by simpa using hu) fun h' st' sb=>?_
  have I1:Inv X pins σ H { s with heap:=h' }:=I.turned (t':=s.toks) (fun b o hb e=>(sb.2 b hb).trans e) f0 f1 f3 f4 f5
  obtain⟨o,e,c,d⟩:=id st'
  exact⟨u,rfl,Bb (s:={ s with heap:=h' }) e c d (by decide) ⟨x,H,I1,ru,⟨rfl,fun ys hy=>by rw[I.BR hy hq]; exact hx⟩,st',fun b hb=>(hf b hb).1⟩⟩
 done:=by
  intro X hP hw hK hc i pins s σ H E I hf st hg
  subst hP hw hK
  obtain⟨xs,hq,hx⟩:=hg
  obtain⟨its,rv,p,hz⟩:=I.list hq
  obtain⟨f0,f1,f2,f3,f4,f5⟩:=hf it (by simp)
  have hl:=rv.length
  exact wpAny_pyNext_list_end (I.ok.hd hc) st p.isList (by simp; lia) fun h' eb=>⟨rfl,I.turned (t':=s.toks) (fun b o hb e=>eb b o hb e) f0 f1 f3 f4 f5⟩
 self:=fun _ _ _ _ _ st h=>wpAny_pyIter_listiter st h
theorem wy {P:Kq} {w:K1} {K:Ka} {tg:Expr} (a it:Addr):Turn P w K tg (Itt K a) [it] it (fun i h=>h.IsTupleIter it a i) where
 mem:=by simp
 obj:=fun i h st b hb=>by
  have e:b=it:=by simpa using hb
  subst e
  obtain⟨o,e,c,d⟩:=st
  exact⟨o,e,fun v z=>by rw[d] at z; cases z⟩
 keep:=fun i h h' st k=>st.at fun o e=>k it (by simp) o e
 item:=by
  intro X hP hw hK hc i pins s σ H E I hf st hg
  subst hP hw hK
  obtain⟨xs,x,hq,hx⟩:=hg
  obtain⟨its,rv,p,hz⟩:=I.tuple hq
  obtain⟨u,hu,ru⟩:=rv.get hx
  obtain⟨f0,f1,f2,f3,f4,f5⟩:=hf it (by simp)
  refine wpAny_pyNext_tuple_item st (show s.heap.IsTuple a its.toArray from p) (x:=u) (by simpa using hu) fun h' st' sb=>?_
  have I1:Inv X pins σ H { s with heap:=h' }:=I.turned (t':=s.toks) (fun b o hb e=>(sb.2 b hb).trans e) f0 f1 f3 f4 f5
  obtain⟨o,e,c,d⟩:=id st'
  exact⟨u,rfl,Bb (s:={ s with heap:=h' }) e c d (by decide) ⟨x,H,I1,ru,⟨rfl,fun ys hy=>by rw[I.pQ hy hq]; exact hx⟩,st',fun b hb=>(hf b hb).1⟩⟩
 done:=by
  intro X hP hw hK hc i pins s σ H E I hf st hg
  subst hP hw hK
  obtain⟨xs,hq,hx⟩:=hg
  obtain⟨its,rv,p,hz⟩:=I.tuple hq
  obtain⟨f0,f1,f2,f3,f4,f5⟩:=hf it (by simp)
  have hl:=rv.length
  exact wpAny_pyNext_tuple_end (I.ok.hd hc) st (show s.heap.IsTuple a its.toArray from p) (by simp; lia) fun h' eb=>⟨rfl,I.turned (t':=s.toks) (fun b o hb e=>eb b o hb e) f0 f1 f3 f4 f5⟩
 self:=fun _ _ _ _ _ st h=>wpAny_pyIter_tupleiter st h
theorem wC {P:Kq} {w:K1} {K:Ka} {tg:Expr} (it:Addr) (lo:Int) (n:Nat):Turn P w K tg (Itr lo n) [it] it (fun i h=>IsRangeIter h it (lo+(i:Nat) * 1) ((n:Int) - (i:Nat)) 1) where
 mem:=by simp
 obj:=fun i h st b hb=>by
  have e:b=it:=by simpa using hb
  subst e
  exact⟨_,st,fun v z=>by
   have z':Data.fields _=Data.cell v:=z
   cases z'⟩
 keep:=fun i h h' st k=>k it (by simp) _ st
 item:=by
  intro X hP hw hK hc i pins s σ H E I hf st hg
  subst hP hw hK
  obtain⟨f0,f1,f2,f3,f4,f5⟩:=hf it (by simp)
  have W:=Walks.range (prog:=X.prog) (w:=X.w) (I.ok.hd hc) it lo 1 n
  refine W.item i s _ _ hg st fun v h' tk hv st' kk=>?_
  obtain⟨t,rfl⟩:=hv
  have I1:Inv X pins σ H { s with heap:=h',toks:=tk }:=I.turned (fun b o hb e=>kk b o (by simpa using hb) e) f0 f1 f3 f4 f5
  refine⟨_,rfl,Bb (s:={ s with heap:=h',toks:=tk }) (n:="range_iterator") st' rfl rfl (by decide) ⟨.int (lo+i),H,I1,⟨t,?_⟩,⟨rfl,rfl⟩,st',fun b hb=>(hf b hb).1⟩⟩
  rw[Int.mul_one]
 done:=by
  intro X hP hw hK hc i pins s σ H E I hf st hg
  subst hP hw hK
  obtain⟨f0,f1,f2,f3,f4,f5⟩:=hf it (by simp)
  exact wpAny_pyNext_range_end (I.ok.hd hc) st (by have:n<=i:=hg; lia) fun h' eb=>⟨rfl,I.turned (t':=s.toks) (fun b o hb e=>eb b o hb e) f0 f1 f3 f4 f5⟩
 self:=fun _ _ _ _ _ st h=>wpAny_pyIter_rangeiter st h
end L2
namespace L2
open PySem PySem.Spec PyProof.Rows
section
variable {X:Cx} {tg:Expr}
def Ao (K:Ka) (tl:TE):TI:=fun σ H R=>tl σ H fun x H1=>∃ a,x = .ref a/\(∃ xs,SqL K H1 a xs)/\R (Itl K a) H1
def JG (K:Ka) (tl:TE):TI:=fun σ H R=>tl σ H fun x H1=>∃ a,x = .ref a/\(∃ xs,SqT K H1 a xs)/\R (Itt K a) H1
theorem jC {l:Expr} {tl:TE} (hl:PE X l tl):PI X tg l (Ao X.K tl):=by
 intro pins s σ H R I h
 refine thn (hl pins s σ H _ I h) fun v s1 ⟨x,H1,I1,r1,q1⟩=>?_
 obtain⟨a,e,⟨xs,hq⟩,q⟩:=q1
 subst e
 cases r1
 obtain⟨its,rv,p,hz⟩:=I1.list hq
 refine Q7 p.isList ?_
 refine⟨s1.heap.objs.size,[s1.heap.objs.size],_,_,H1,rfl,I1.kept (t':=s1.toks) fun b o e=>J6 _ e,zT a _,⟨_,Ko _ rfl,rfl,rfl⟩,fun b hb=>?_,q⟩
 have e:b=s1.heap.objs.size:=by simpa using hb
 subst e
 exact I1.Gr (Kc _) (I1.hok.fresh (Kc _))
theorem fu {l:Expr} {tl:TE} (hl:PE X l tl):PI X tg l (JG X.K tl):=by
 intro pins s σ H R I h
 refine thn (hl pins s σ H _ I h) fun v s1 ⟨x,H1,I1,r1,q1⟩=>?_
 obtain⟨a,e,⟨xs,hq⟩,q⟩:=q1
 subst e
 cases r1
 obtain⟨its,rv,p,hz⟩:=I1.tuple hq
 refine wpAny_pyIter_tuple (show s1.heap.IsTuple a its.toArray from p) ?_
 refine⟨s1.heap.objs.size,[s1.heap.objs.size],_,_,H1,rfl,I1.kept (t':=s1.toks) fun b o e=>J6 _ e,wy a _,⟨_,Ko _ rfl,rfl,rfl⟩,fun b hb=>?_,q⟩
 have e:b=s1.heap.objs.size:=by simpa using hb
 subst e
 exact I1.Gr (Kc _) (I1.hok.fresh (Kc _))
theorem Bg {pins:List (Addr × NB)} {σ:St} {H:Hp} {s:J4} {R:It->Hp->Prop} {E:Value->J4->Prop} {lo hi:Int} {t u v:Tok} {tk:Nat} (I:Inv X pins σ H s) (h1 : -(2 ^ 62)<=lo) (h2:lo < 2 ^ 62) (h3 : -(2 ^ 62)<=hi) (h4:hi < 2 ^ 62)
  (q:R (Itr lo (hi - lo).toNat) H):Ke (Kl X.prog X.w) X.A (R0 (.ref s.heap.objs.size)) (PIE X pins σ tg R) E { s with heap:=s.heap.push { cls:=.type "range",data:=.fields #[.int lo t,.int hi u,.int 1 v] },toks:=tk }:=by
 refine wpAny_pyIter_range (IsRange.new ..) (small_one h1 h2 h3 h4) ?_
 have I1:Inv X pins σ H { s with heap:=s.heap.push { cls:=.type "range",data:=.fields #[.int lo t,.int hi u,.int 1 v] },toks:=tk }:=I.kept fun b o e=>J6 _ e
 refine⟨(s.heap.push { cls:=.type "range",data:=.fields #[.int lo t,.int hi u,.int 1 v] }).objs.size,[(s.heap.push { cls:=.type "range",data:=.fields #[.int lo t,.int hi u,.int 1 v] }).objs.size],_,_,H,rfl,
  I1.kept (t':=tk) fun b o e=>J6 _ e,wC _ lo (hi - lo).toNat,?_,fun b hb=>?_,q⟩
 ·have e1:lo+((0:Nat):Int) * 1=lo:=by simp
  have e2:(((hi - lo).toNat:Nat):Int) - ((0:Nat):Int)=Builtin.Range.rangeSize lo hi 1:=by rw[rangeSize_one]; split <;> lia
  show IsRangeIter _ _ (lo+((0:Nat):Int) * 1) ((((hi - lo).toNat:Nat):Int) - ((0:Nat):Int)) 1
  rw[e1,e2]
  exact Ko _ rfl
 ·have e:b=(s.heap.push { cls:=.type "range",data:=.fields #[.int lo t,.int hi u,.int 1 v] }).objs.size:=by simpa using hb
  subst e
  exact I1.Gr (Kc _) (I1.hok.fresh (Kc _))
def IW (ta:TA):TI:=fun σ H R=>ta σ H fun vs H1=>∃ j:Int,vs=[.int j]/\-(2 ^ 62)<=j/\j < 2 ^ 62/\R (Itr 0 j.toNat) H1
theorem jc {a:Expr} {ta:TA} {p pos:Qs} (hg:Gl X "range") (hm:X.mg "range" = none) (ha:PA X [a] ta) (hs:Kr [a] X.env=[(false,Mp a X.env)]:=by rfl):PI X tg (.Call (.Name "range" p) [a] [] pos) (IW ta):=by
 intro pins s σ H R I h
 refine Call_ (fD I hg hm boot_range (MP (thn (ha pos pins s σ H _ I h) fun us s1 ⟨vs,H1,I1,r1,q1⟩=>?_) hs rfl))
 obtain⟨j,e,q1,q2,q⟩:=q1
 subst e
 cases r1 with
 | cons r rr =>
  cases rr
  obtain⟨t,rfl⟩:=r
  exact call_range_1 (Bg I1 (by lia) (by lia) q1 q2 (by simpa using q))
def JZ (wi:TI) (g:TG) (tb:TS):TS:=fun D σ H=>wi σ H fun J H1=>∃ W:Nat->Nat->St->Hp->Prop,(∃ m,W 0 m σ H1)/\∀ i m σ H,W i m σ H →
 (J.stop i H/\D.nx σ H)∨(J.go i H/\∃ N:St->Hp->Prop,(∀ σ' H',N σ' H'->∃ m',m' < m/\W (i+1) m' σ' H')/\∀ x H',J.yld i H x H'->g x σ H' fun σ2 H2=>tb { D with nx:=N,ct:=N,bk:=D.nx } σ2 H2)
def jE (fp:List Addr) (h:Lh):List (Addr × NB):=fp.filterMap fun b=>(h.get? b).map fun o=>(b,o)
theorem cG {fp:List Addr} {h:Lh} {b:Addr} {o:NB} (hb:b∈fp) (e:h.get? b=some o):(b,o)∈jE fp h:=List.mem_filterMap.mpr ⟨b,hb,by rw[e]; rfl⟩
theorem xu {fp:List Addr} {h:Lh} {p:Addr × NB} (hp:p∈jE fp h):p.1∈fp/\h.get? p.1=some p.2:=by
 obtain⟨b,hb,e⟩:=List.mem_filterMap.mp hp
 cases q:h.get? b with
 | none=>rw[q] at e; cases e
 | some o =>
  rw[q] at e
  have e':(b,o)=p:=La e
  subst e'
  exact⟨hb,q⟩
theorem Inv.pinned {pins:List (Addr × NB)} {σ:St} {H:Hp} {s:J4} {fp:List Addr} (I:Inv X pins σ H s) (hf:∀ b∈fp,uO X pins H b) (ho:∀ b∈fp,∃ o,s.heap.get? b=some o/\∀ v,o.data≠.cell v):Inv X (pins++jE fp s.heap) σ H s :=
 I.xf fun p hp=>(List.mem_append.mp hp).elim (fun z=>I.pin p (KJ _ z)) fun z=>by
  obtain⟨hb,e⟩:=xu z
  obtain⟨f0,f1,f2,_⟩:=hf p.1 hb
  obtain⟨o,e',d⟩:=ho p.1 hb
  rw[e] at e'; cases e'
  exact⟨e,f0,f1,f2,d⟩
theorem Inv.gn {pins pl:List (Addr × NB)} {σ:St} {H:Hp} {s:J4} (I:Inv X (pins++pl) σ H s):Inv X pins σ H s:=I.xf fun p hp=>I.pin p (KJ _ (Qy _ hp))
theorem gJ {iter:Expr} {body:List Stmt} {wi:TI} {g:TG} {tb:TS} {pos:Qs} (hp:PassesOwn (Kl X.prog X.w) X.A X.env X.xe) (hc:X.calm=true) (hi:PI X tg iter wi) (hg:PG X tg g) (hb:PSs X body tb)
  (hs:∀ x,Nj iter X.env x=pure x:=by intro _; rfl):PS X (.For tg iter body [] pos) (JZ wi g tb):=by
 intro pins s σ H D I h
 refine wpAny_For (thn (hi pins s σ H _ I h) fun v s1 h1=>thn h1 fun itv s2 h2=>?_) hs
 obtain⟨it,fp,tn,J,H2,e,I2,T,st2,f2,W,⟨m0,w0⟩,turn⟩:=h2
 subst e
 have stat:∀ {H':Hp},(∀ b∈fp,H' b=none)->∀ b∈fp,uO X pins H' b:=fun hn b hb=>⟨hn b hb,(f2 b hb).2⟩
 refine codeAny_forLoop_any (fun n s'=>∃ i σ' H',Inv X pins σ' H' s'/\tn i s'.heap/\(∀ b∈fp,H' b=none)/\W i n σ' H') ?_ m0 ⟨0,σ,H2,I2,st2,fun b hb=>(f2 b hb).1,w0⟩
 rintro n s3 ⟨i,σ3,H3,I3,st3,fr3,w3⟩
 rcases turn i n σ3 H3 w3 with⟨stop,qn⟩ | ⟨go,N,hN,step⟩
 ·refine QB hp (thn (T.done X rfl rfl rfl hc i pins s3 σ3 H3 X.xe I3 (stat fr3) st3 stop) fun r s4 ⟨hr,I4⟩=>?_)
  subst hr
  exact RJ ⟨σ3,H3,I4,qn⟩
 ·refine QB hp (thn (T.item X rfl rfl rfl hc i pins s3 σ3 H3 X.xe I3 (stat fr3) st3 go) fun r s4 ⟨u,hr,h4⟩=>?_)
  subst hr
  refine QB hp (thn h4 fun _ s5 ⟨x,H5,I5,r5,y5,st5,fr5⟩=>?_)
  have I5':=I5.pinned (stat fr5) (T.obj _ _ st5)
  refine QB hp (thn (hg _ s5 σ3 H5 x u _ I5' r5 (step x H5 y5)) fun _ s6 ⟨σ6,H6,I6,q6⟩=>?_)
  refine QB hp (thn (hb _ s6 σ6 H6 _ I6 q6) fun f s7 q7=>?_)
  have again:∀ {σ7:St} {H7:Hp},Inv X (pins++jE fp s5.heap) σ7 H7 s7->N σ7 H7->∃ m,m < n/\∃ i σ' H',Inv X pins σ' H' s7/\tn i s7.heap/\(∀ b∈fp,H' b=none)/\W i m σ' H':=fun {σ7 H7} I7 n7=>by
   obtain⟨m',hm,w7⟩:=hN σ7 H7 n7
   refine⟨m',hm,i+1,σ7,H7,I7.gn,T.keep _ _ _ st5 fun b hb o e=>(I7.pin (b,o) (KJ _ (KJ _ (cG hb e)))).1,fun b hb=>?_,w7⟩
   obtain⟨o,e,d⟩:=T.obj _ _ st5 b hb
   exact (I7.pin (b,o) (KJ _ (KJ _ (cG hb e)))).2.1
  cases f with
  | next=>obtain⟨σ7,H7,I7,n7⟩:=q7; exact again I7 n7
  | cont=>obtain⟨σ7,H7,I7,n7⟩:=q7; exact again I7 n7
  | brk=>obtain⟨σ7,H7,I7,q7⟩:=q7; exact⟨σ7,H7,I7.gn,q7⟩
  | ret v=>obtain⟨x7,σ7,H7,I7,r7,q7⟩:=q7; exact⟨x7,σ7,H7,I7.gn,r7,q7⟩
end
theorem j0 {K:Ka} {a:Addr} {xs:List V} {g:TG} {tb:TS} {D:Ends} {σ:St} {H:Hp} (Pv:Nat->St->Hp->Prop) (h0:Pv 0 σ H) (hl:∀ i σ H,i<=xs.length->Pv i σ H->SqL K H a xs)
  (hs:∀ i x σ H,xs[i]? = some x->Pv i σ H->g x σ H fun σ2 H2=>tb { D with nx:=Pv (i+1),ct:=Pv (i+1),bk:=D.nx } σ2 H2) (hd:∀ σ H,Pv xs.length σ H->D.nx σ H) :
  ∃ W:Nat->Nat->St->Hp->Prop,(∃ m,W 0 m σ H)/\∀ i m σ H,W i m σ H →
   ((Itl K a).stop i H/\D.nx σ H)∨((Itl K a).go i H/\∃ N:St->Hp->Prop,(∀ σ' H',N σ' H'->∃ m',m' < m/\W (i+1) m' σ' H')/\∀ x H',(Itl K a).yld i H x H'->g x σ H' fun σ2 H2=>tb { D with nx:=N,ct:=N,bk:=D.nx } σ2 H2):=by
 refine⟨fun i m σ H=>m=xs.length - i/\i<=xs.length/\Pv i σ H,⟨xs.length,by simp,Lb _,h0⟩,?_⟩
 rintro i m σ H ⟨rfl,hi,p⟩
 have q:=hl i σ H hi p
 by_cases hlt:i < xs.length
 ·refine .inr ⟨⟨xs,xs[i],q,by simp [hlt]⟩,Pv (i+1),fun σ' H' p'=>⟨xs.length - (i+1),by lia,rfl,hlt,p'⟩,fun x H' y=>?_⟩
  obtain⟨e,y⟩:=y
  subst e
  exact hs i x σ _ (y xs q) p
 ·have e:i=xs.length:=by lia
  subst e
  exact .inl ⟨⟨xs,q,Kc _⟩,hd σ H p⟩
theorem lK {K:Ka} {a:Addr} {xs:List V} {g:TG} {tb:TS} {D:Ends} {σ:St} {H:Hp} (Pv:Nat->St->Hp->Prop) (h0:Pv 0 σ H) (hl:∀ i σ H,i<=xs.length->Pv i σ H->SqT K H a xs)
  (hs:∀ i x σ H,xs[i]? = some x->Pv i σ H->g x σ H fun σ2 H2=>tb { D with nx:=Pv (i+1),ct:=Pv (i+1),bk:=D.nx } σ2 H2) (hd:∀ σ H,Pv xs.length σ H->D.nx σ H) :
  ∃ W:Nat->Nat->St->Hp->Prop,(∃ m,W 0 m σ H)/\∀ i m σ H,W i m σ H →
   ((Itt K a).stop i H/\D.nx σ H)∨((Itt K a).go i H/\∃ N:St->Hp->Prop,(∀ σ' H',N σ' H'->∃ m',m' < m/\W (i+1) m' σ' H')/\∀ x H',(Itt K a).yld i H x H'->g x σ H' fun σ2 H2=>tb { D with nx:=N,ct:=N,bk:=D.nx } σ2 H2):=by
 refine⟨fun i m σ H=>m=xs.length - i/\i<=xs.length/\Pv i σ H,⟨xs.length,by simp,Lb _,h0⟩,?_⟩
 rintro i m σ H ⟨rfl,hi,p⟩
 have q:=hl i σ H hi p
 by_cases hlt:i < xs.length
 ·refine .inr ⟨⟨xs,xs[i],q,by simp [hlt]⟩,Pv (i+1),fun σ' H' p'=>⟨xs.length - (i+1),by lia,rfl,hlt,p'⟩,fun x H' y=>?_⟩
  obtain⟨e,y⟩:=y
  subst e
  exact hs i x σ _ (y xs q) p
 ·have e:i=xs.length:=by lia
  subst e
  exact .inl ⟨⟨xs,q,Kc _⟩,hd σ H p⟩
theorem ye {lo:Int} {n:Nat} {g:TG} {tb:TS} {D:Ends} {σ:St} {H:Hp} (Pv:Nat->St->Hp->Prop) (h0:Pv 0 σ H)
  (hs:∀ i σ H,i < n->Pv i σ H->g (.int (lo+i)) σ H fun σ2 H2=>tb { D with nx:=Pv (i+1),ct:=Pv (i+1),bk:=D.nx } σ2 H2) (hd:∀ σ H,Pv n σ H->D.nx σ H) :
  ∃ W:Nat->Nat->St->Hp->Prop,(∃ m,W 0 m σ H)/\∀ i m σ H,W i m σ H →
   ((Itr lo n).stop i H/\D.nx σ H)∨((Itr lo n).go i H/\∃ N:St->Hp->Prop,(∀ σ' H',N σ' H'->∃ m',m' < m/\W (i+1) m' σ' H')/\∀ x H',(Itr lo n).yld i H x H'->g x σ H' fun σ2 H2=>tb { D with nx:=N,ct:=N,bk:=D.nx } σ2 H2):=by
 refine⟨fun i m σ H=>m=n - i/\i<=n/\Pv i σ H,⟨n,by simp,Lb _,h0⟩,?_⟩
 rintro i m σ H ⟨rfl,hi,p⟩
 by_cases hlt:i < n
 ·refine .inr ⟨hlt,Pv (i+1),fun σ' H' p'=>⟨n - (i+1),by lia,rfl,hlt,p'⟩,fun x H' y=>?_⟩
  obtain⟨e,y⟩:=y
  subst e y
  exact hs i σ _ hlt p
 ·have e:i=n:=by lia
  subst e
  exact .inl ⟨Kc _,hd σ H p⟩
end L2
namespace L2
open PySem PySem.Spec PyProof.Rows
abbrev R2:=V->V->Hp->VK->Prop
def OpR (X:Cx) (f:Value->Value->Sem Value) (r:R2):Prop :=
 ∀ (pins:List (Addr × NB)) (s:J4) (σ:St) (H:Hp) (x y:V) (v u:Value) (Q:VK),Inv X pins σ H s->RelV x v->RelV y u->r x y H Q →
  Ke (Kl X.prog X.w) X.A (f v u) (EP X pins σ Q) X.xe s
def jk (X:Cx) (f:Value) (r:List V->Hp->VK->Prop):Prop :=
 ∀ (pins:List (Addr × NB)) (s:J4) (σ:St) (H:Hp) (xs:List V) (us:List Value) (Q:VK),Inv X pins σ H s->Vals xs us->r xs H Q →
  Ke (Kl X.prog X.w) X.A (call f us) (EP X pins σ Q) X.xe s
def tOp (r:R2) (ta tb:TE):TE:=fun σ H Q=>ta σ H fun x H1=>tb σ H1 fun y H2=>r x y H2 Q
inductive RII (C:Int->Int->Prop) (g:Int->Int->V) (x:V) (y:V) (H:Hp) (Q:VK):Prop where
 | mk (i:Int) (j:Int) (z0:x = .int i) (z1:y = .int j) (z2:C i j) (z3:Q (g i j) H):RII C g x y H Q
def rI (C:Int->Int->Prop) (g:Int->Int->V):R2:=fun x y H Q=>RII C g x y H Q
inductive Jt (g:Int->Int->V) (x:V) (y:V) (H:Hp) (Q:VK):Prop where
 | mk (i:Int) (j:Int) (z0:x = .int i) (z1:y = .int j) (z2:Q (g i j) H):Jt g x y H Q
def rI0 (g:Int->Int->V):R2:=fun x y H Q=>Jt g x y H Q
section
variable {X:Cx} {a b c:Expr} {ta tb tc:TE} {pos:Qs}
theorem Jo (ha:PE X a ta) (hb:PE X b tb) {pins:List (Addr × NB)} {s:J4} {σ:St} {H:Hp} {R:V->V->Hp->Prop} (I:Inv X pins σ H s)
  (h:ta σ H fun x H1=>tb σ H1 fun y H2=>R x y H2) {Q:Value->J4->Prop} {f:Value->Value->Sem Value}
  (hf:∀ v u s2 x y H2,Inv X pins σ H2 s2->RelV x v->RelV y u->R x y H2->Ke (Kl X.prog X.w) X.A (f v u) Q X.xe s2) :
  Ke (Kl X.prog X.w) X.A (Mp a X.env) (fun v s₁=>Ke (Kl X.prog X.w) X.A (Mp b X.env) (fun u s₂=>Ke (Kl X.prog X.w) X.A (f v u) Q X.xe s₂) X.xe s₁) X.xe s:=by
 refine thn (ha pins s σ H _ I h) fun v s1 ⟨x,H1,I1,r1,q1⟩=>?_
 refine thn (hb pins s1 σ H1 _ I1 q1) fun u s2 ⟨y,H2,I2,r2,q2⟩=>?_
 exact hf v u s2 x y H2 I2 r1 r2 q2
theorem bD {op:Operator} {r:R2} (ho:OpR X (PJ op) r) (ha:PE X a ta) (hb:PE X b tb):PE X (.BinOp a op b pos) (tOp r ta tb):=by
 intro pins s σ H Q I h
 exact wpAny_BinOp (Jo ha hb I h fun v u s2 x y H2 I2 rx ry q=>ho pins s2 σ H2 x y v u Q I2 rx ry q)
theorem opI {f:Value->Value->Sem Value} {C:Int->Int->Prop} {g:Int->Int->Int}
  (rule:∀ (i j:Int) (t u:Tok) (s:J4) (Q:Value->J4->Prop) (E:Value->J4->Prop),C i j->Q (.int (g i j) s.toks) { s with toks:=s.toks+1 }->Ke (Kl X.prog X.w) X.A (f (.int i t) (.int j u)) Q E s) :
  OpR X f (rI C fun i j=>.int (g i j)):=by
 intro pins s σ H x y v u Q I rx ry h
 obtain⟨i,j,rfl,rfl,hc,q⟩:=h
 obtain⟨t,rfl⟩:=rx
 obtain⟨t',rfl⟩:=ry
 exact rule i j t t' s _ _ hc ⟨.int (g i j),H,I.tok _,⟨_,rfl⟩,q⟩
theorem Js {f:Value->Value->Sem Value} {g:Int->Int->Int}
  (rule:∀ (i j:Int) (t u:Tok) (s:J4) (Q:Value->J4->Prop) (E:Value->J4->Prop),Q (.int (g i j) s.toks) { s with toks:=s.toks+1 }->Ke (Kl X.prog X.w) X.A (f (.int i t) (.int j u)) Q E s) :
  OpR X f (rI0 fun i j=>.int (g i j)):=by
 intro pins s σ H x y v u Q I rx ry h
 obtain⟨i,j,rfl,rfl,q⟩:=h
 obtain⟨t,rfl⟩:=rx
 obtain⟨t',rfl⟩:=ry
 exact rule i j t t' s _ _ ⟨.int (g i j),H,I.tok _,⟨_,rfl⟩,q⟩
theorem Ir {f:Value->Value->Sem Value} {g:Int->Int->Bool}
  (rule:∀ (i j:Int) (t u:Tok) (s:J4) (Q:Value->J4->Prop) (E:Value->J4->Prop),Q (.bool (g i j)) s->Ke (Kl X.prog X.w) X.A (f (.int i t) (.int j u)) Q E s) :
  OpR X f (rI0 fun i j=>.bl (g i j)):=by
 intro pins s σ H x y v u Q I rx ry h
 obtain⟨i,j,rfl,rfl,q⟩:=h
 obtain⟨t,rfl⟩:=rx
 obtain⟨t',rfl⟩:=ry
 exact rule i j t t' s _ _ ⟨.bl (g i j),H,I,rfl,q⟩
def JC (i j:Int):Prop:=0 < j/\j < 1073741824
def JT (i j:Int):Prop:=0<=j/\j<=1000000/\i.natAbs < 2 ^ 64
def Jf (i j:Int):Prop:=(-(2 ^ 64) < i/\i < 2 ^ 64)∨(-(2 ^ 64) < j/\j < 2 ^ 64)
theorem Jf.ok {i j:Int} (h:Jf i j):IntMulOk i j:=by
 rcases h with⟨h1,h2⟩ | ⟨h1,h2⟩
 ·exact .of_left (intBits_le_64 h1 h2)
 ·exact .of_right (intBits_le_64 h1 h2)
theorem fj:OpR X (PJ .Add) (rI0 fun i j=>.int (i+j)):=Js fun _ _ _ _ _ _ _ q=>add_int q
theorem kJ:OpR X (PJ .Sub) (rI0 fun i j=>.int (i - j)):=Js fun _ _ _ _ _ _ _ q=>sub_int q
theorem kI:OpR X (PJ .Mult) (rI Jf fun i j=>.int (i * j)):=opI fun _ _ _ _ _ _ _ hc q=>mul_int q hc.ok
theorem zf:OpR X (PJ .FloorDiv) (rI JC fun i j=>.int (i / j)):=opI fun i j _ _ _ _ _ hc q=>by
 have h1:(0:Int) < j:=hc.1
 have h2:j < 1073741824:=hc.2
 exact floordiv_int (by lia) (by rw[Int.fdiv_eq_ediv_of_nonneg i (by lia)]; exact q) (.inl (PyProof.noPylong_small (by lia)))
theorem jO:OpR X (PJ .Mod) (rI (fun _ j=>0 < j) fun i j=>.int (i % j)):=opI fun i j _ _ _ _ _ hc q=>by
 have h1:(0:Int) < j:=hc
 exact mod_int' (by lia) (by rw[Int.fmod_eq_emod_of_nonneg i (by lia)]; exact q)
theorem yO:OpR X (PJ .Pow) (rI JT fun i j=>.int (i ^ j.toNat)):=opI fun _ _ _ _ _ _ _ hc q=>pow_int_small hc.1 hc.2.1 hc.2.2 q
end
def Jr:V->V->Bool
 | .non,.non=>true | .non,.int _=>true | .int _,.non=>true | .non,.bl _=>true | .bl _,.non=>true | .non,.str _=>true | .str _,.non=>true
 | .int _,.int _=>true | .bl _,.bl _=>true | .str _,.str _=>true | .byt _,.byt _=>true
 | .int _,.str _=>true | .str _,.int _=>true | .bl _,.str _=>true | .str _,.bl _=>true
 | _,_=>false
def rEq:R2:=fun x y H Q=>Jr x y=true/\Q (.bl (decide (x=y))) H
def rNe:R2:=fun x y H Q=>Jr x y=true/\Q (.bl (!decide (x=y))) H
theorem xq {i j:Int}:decide (V.int i=V.int j)=(i == j):=by
 rw[Qd]
 simp
theorem DN {i j:Bool}:decide (V.bl i=V.bl j)=(i == j):=by
 rw[Qd]
 simp
theorem Ad {i j:KH}:decide (V.str i=V.str j)=(i == j):=by
 rw[Qd]
 simp
theorem yp {i j:Array UInt8}:decide (V.byt i=V.byt j)=(i.toList == j.toList):=by
 rw[Qd]
 cases i
 cases j
 simp
section
variable {X:Cx} {a b c:Expr} {ta tb tc:TE} {pos:Qs}
theorem bC {pins:List (Addr × NB)} {σ:St} {H:Hp} {s:J4} {Q:VK} {k k':Bool} (I:Inv X pins σ H s) (q:Q (.bl k) H) (e:k=k'):EP X pins σ Q (.bool k') s:=by
 subst e
 exact⟨.bl k,H,I,rfl,q⟩
theorem cH:OpR X (Oe .Eq) rEq:=by
 intro pins s σ H x y v u Q I rx ry h
 obtain⟨hs,q⟩:=h
 cases x with
 | non =>
  cases rx
  cases y with
  | non=>cases ry; exact PySem.EqNone.eq_none_none (bC I q (by simp))
  | bl j=>cases ry; exact PySem.EqNone.eq_none_bool (bC I q (by simp))
  | int j=>obtain⟨t',rfl⟩:=ry; exact PySem.EqNone.eq_none_int (bC I q (by simp))
  | str j=>obtain⟨t',rfl⟩:=ry; exact PySem.EqNone.eq_none_str (bC I q (by simp))
  | _=>exact absurd (show false=true from hs) J9
 | bl i =>
  cases rx
  cases y with
  | non=>cases ry; exact PySem.EqNone.eq_bool_none (bC I q (by simp))
  | bl j=>cases ry; exact eq_bool (bC I q DN)
  | str j=>obtain⟨t',rfl⟩:=ry; exact PySem.EqMixed.eq_bool_str (bC I q (by simp))
  | _=>exact absurd (show false=true from hs) J9
 | int i =>
  obtain⟨t,rfl⟩:=rx
  cases y with
  | non=>cases ry; exact PySem.EqNone.eq_int_none (bC I q (by simp))
  | int j=>obtain⟨t',rfl⟩:=ry; exact eq_int (bC I q xq)
  | str j=>obtain⟨t',rfl⟩:=ry; exact PySem.EqMixed.eq_int_str (bC I q (by simp))
  | _=>exact absurd (show false=true from hs) J9
 | str i =>
  obtain⟨t,rfl⟩:=rx
  cases y with
  | non=>cases ry; exact PySem.EqNone.eq_str_none (bC I q (by simp))
  | bl j=>cases ry; exact PySem.EqMixed.eq_str_bool (bC I q (by simp))
  | int j=>obtain⟨t',rfl⟩:=ry; exact PySem.EqMixed.eq_str_int (bC I q (by simp))
  | str j=>obtain⟨t',rfl⟩:=ry; exact eq_str (bC I q Ad)
  | _=>exact absurd (show false=true from hs) J9
 | byt i =>
  obtain⟨t,rfl⟩:=rx
  cases y with
  | byt j=>obtain⟨t',rfl⟩:=ry; exact PySem.W.eq_bytes (bC I q yp)
  | _=>exact absurd (show false=true from hs) J9
 | _=>cases y <;> exact absurd (show false=true from hs) J9
theorem su:OpR X (Oe .NotEq) rNe:=by
 intro pins s σ H x y v u Q I rx ry h
 obtain⟨hs,q⟩:=h
 cases x with
 | non =>
  cases rx
  cases y with
  | non=>cases ry; exact PySem.EqNone.ne_none_none (bC I q (by simp))
  | bl j=>cases ry; exact PySem.EqNone.ne_none_bool (bC I q (by simp))
  | int j=>obtain⟨t',rfl⟩:=ry; exact PySem.EqNone.ne_none_int (bC I q (by simp))
  | str j=>obtain⟨t',rfl⟩:=ry; exact PySem.EqNone.ne_none_str (bC I q (by simp))
  | _=>exact absurd (show false=true from hs) J9
 | bl i =>
  cases rx
  cases y with
  | non=>cases ry; exact PySem.EqNone.ne_bool_none (bC I q (by simp))
  | bl j=>cases ry; exact ne_bool (bC I q (congrArg not DN))
  | str j=>obtain⟨t',rfl⟩:=ry; exact PySem.EqMixed.ne_bool_str (bC I q (by simp))
  | _=>exact absurd (show false=true from hs) J9
 | int i =>
  obtain⟨t,rfl⟩:=rx
  cases y with
  | non=>cases ry; exact PySem.EqNone.ne_int_none (bC I q (by simp))
  | int j=>obtain⟨t',rfl⟩:=ry; exact ne_int (bC I q (congrArg not xq))
  | str j=>obtain⟨t',rfl⟩:=ry; exact PySem.EqMixed.ne_int_str (bC I q (by simp))
  | _=>exact absurd (show false=true from hs) J9
 | str i =>
  obtain⟨t,rfl⟩:=rx
  cases y with
  | non=>cases ry; exact PySem.EqNone.ne_str_none (bC I q (by simp))
  | bl j=>cases ry; exact PySem.EqMixed.ne_str_bool (bC I q (by simp))
  | int j=>obtain⟨t',rfl⟩:=ry; exact PySem.EqMixed.ne_str_int (bC I q (by simp))
  | str j=>obtain⟨t',rfl⟩:=ry; exact ne_str (bC I q (congrArg not Ad))
  | _=>exact absurd (show false=true from hs) J9
 | byt i =>
  obtain⟨t,rfl⟩:=rx
  cases y with
  | byt j=>obtain⟨t',rfl⟩:=ry; exact PySem.W.ne_bytes (bC I q (congrArg not yp))
  | _=>exact absurd (show false=true from hs) J9
 | _=>cases y <;> exact absurd (show false=true from hs) J9
theorem tO:OpR X (Oe .Lt) (rI0 fun i j=>.bl (decide (i < j))):=Ir fun _ _ _ _ _ _ _ q=>lt_int q
theorem GF:OpR X (Oe .LtE) (rI0 fun i j=>.bl (decide (i<=j))):=Ir fun _ _ _ _ _ _ _ q=>le_int q
theorem HX:OpR X (Oe .Gt) (rI0 fun i j=>.bl (decide (j < i))):=Ir fun _ _ _ _ _ _ _ q=>gt_int q
theorem qL:OpR X (Oe .GtE) (rI0 fun i j=>.bl (decide (j<=i))):=Ir fun _ _ _ _ _ _ _ q=>ge_int q
theorem aN (b:Expr) {op:CmpOp} (h:op≠.In:=by decide) (h2:op≠.NotIn:=by decide):Ox op b=false:=by
 have e1:(op == CmpOp.In)=false:=by cases op <;> first | rfl | exact absurd rfl h
 have e2:(op == CmpOp.NotIn)=false:=by cases op <;> first | rfl | exact absurd rfl h2
 cases b <;> simp [Ox,e1,e2]
theorem cA {op:CmpOp} {r:R2} (ho:OpR X (Oe op) r) (ha:PE X a ta) (hb:PE X b tb) (hm:Ox op b=false):PE X (.Compare a [op] [b] pos) (tOp r ta tb):=by
 intro pins s σ H Q I h
 exact wpAny_Compare1 (Jo ha hb I h fun v u s2 x y H2 I2 rx ry q=>ho pins s2 σ H2 x y v u Q I2 rx ry q) hm
def wk (t:TE):TT:=fun σ H Q=>t σ H fun x H'=>ExB x fun k=>Q k H'
theorem aK {op:CmpOp} {r:R2} (ho:OpR X (Oe op) r) (ha:PE X a ta) (hb:PE X b tb) (hm:Ox op b=false):PT X (.Compare a [op] [b] pos) (wk (tOp r ta tb)):=by
 intro pins s σ H Q I h
 refine wpAny_isTrue_Compare1 (thn (ha pins s σ H _ I h) fun v s1 ⟨x,H1,I1,r1,q1⟩=>thn (hb pins s1 σ H1 _ I1 q1) fun u s2 ⟨y,H2,I2,r2,q2⟩ =>
  thn (ho pins s2 σ H2 x y v u _ I2 r1 r2 q2) fun c s3 ⟨z,H3,I3,r3,k,e,q3⟩=>?_) hm
 subst e
 cases r3
 exact NZ ⟨H3,I3,q3⟩
theorem pD:(sizeLine:Nat) < 2 ^ 63:=by rw[T4]; decide
theorem vals1 {x:V} {us:List Value} (r:Vals [x] us):∃ u,us=[u]/\RelV x u:=by
 cases r with
 | cons r1 r2=>cases r2; exact⟨_,rfl,r1⟩
theorem vals2 {x y:V} {us:List Value} (r:Vals [x,y] us):∃ u w',us=[u,w']/\RelV x u/\RelV y w':=by
 cases r with
 | cons r1 r2 =>
  cases r2 with
  | cons r3 r4=>cases r4; exact⟨_,_,rfl,r1,r3⟩
theorem nZ:jk X (.builtin "abs") (fun xs H Q=>∃ i,xs=[.int i]/\Q (.int (if i < 0 then -i else i)) H):=by
 intro pins s σ H xs us Q I r h
 obtain⟨i,rfl,q⟩:=h
 obtain⟨u,rfl,t,rfl⟩:=vals1 r
 exact call_abs_int fun u tk=>⟨.int (if i < 0 then -i else i),H,I.tok _,⟨_,rfl⟩,q⟩
end
end L2
namespace L2
open PySem PySem.Spec PyProof.Rows
structure FT (h:Lh) (x dx C:Addr) (mA:KH->Option Value):Prop where
 obj:h.get? x=some (NQ C dx)
 ns:h.Ns1 dx mA
 ne:dx≠x
theorem qP {h:Lh} {dx:Addr} {mA:KH->Option Value} (n:h.Ns1 dx mA):∃ od,h.get? dx=some od/\∀ name,R3 name od=some (mA name):=by
 obtain⟨o,es,ep,ho,hd,hk,_,hm⟩:=n
 refine⟨o,ho,fun name=>?_⟩
 have e:=hm name
 unfold nsFind findBy at e
 rw[← Array.find?_toList] at e
 unfold R3
 rw[hd]
 dsimp only
 split
 ·rename_i y q
  rw[q] at e
  exact congrArg some e
 ·rename_i q
  rw[q] at e
  have a:es.toList.any (·.refKey)=false:=by
   rw[List.any_eq_false]
   intro y hy
   obtain⟨z,t,hkey⟩:=hk y (Array.mem_toList_iff.mp hy)
   simp [DictEntry.refKey,hkey]
  have a':¬ es.toList.any (·.refKey)=true:=by rw[a]; exact J9
  rw[if_neg a']
  exact congrArg some e
theorem FT.look {h:Lh} {x dx C:Addr} {mA:KH->Option Value} (I:FT h x dx C mA):∃ od,PySem.W.InstAt h x (NQ C dx) C (some od)/\∀ name,R3 name od=some (mA name) :=
 let ⟨od,ho,hl⟩:=qP I.ns
 ⟨od,⟨I.obj,rfl,rfl,ho⟩,hl⟩
section
variable {prog:Kq} {w:K1} {A:KY} {E:Value->J4->Prop} {s:J4} {K:Ka} {x dx C f:Addr} {mA:KH->Option Value} {name:KH} {v:Value}
theorem get_map {expr:Bool} {Q:Value->J4->Prop} (X:K.In s.heap) (I:FT s.heap x dx C mA) (hg:Qq K C name=true) (hh:OJ K C=true)
  (ha:Lw K (.ref C) name=some none) (hv:mA name=some v) (hv':Tz v=true) (h:Q v { s with toks:=s.toks+1 }) :
  Ke (Kl prog w) A (getAttr (.ref x) name expr) Q E s:=by
 obtain⟨od,J,hl⟩:=I.look
 exact PySem.W.get_value X J (R7 hg).1 (PySem.W.findObj_own hh ha rfl (by rw[hl,hv])) hv' h
theorem Cr {pl:Sem Bool} {Q:Value × List Value->J4->Prop} (X:K.In s.heap) (I:FT s.heap x dx C mA) (hg:Qq K C name=true)
  (hf:Lw K (.ref C) name=some (some (.ref f))) (ht:Tf K (.ref f)=true) (hv:mA name=none) (h:Q (.ref f,[.ref x]) s) :
  Ke (Kl prog w) A (Qh (.ref x) name pl) Q E s:=by
 obtain⟨od,J,hl⟩:=I.look
 exact PySem.W.method_fn X J (R7 hg).1 (R7 hg).2 hf (beq_iff_eq.mp ht) (by show (R3 name od).map (·.isSome)=some false; rw[hl,hv]; rfl) h
theorem Fw {ns:List KH} {Q:Unit->J4->Prop} (X:K.In s.heap) (I:FT s.heap x dx C mA)
  (hs:Lw K (.ref C) "__setattr__" = some (some (.builtin "object.__setattr__"))) (hp:Td K C=true) (ht:RM K C name=some none) (hh:OJ K C=true)
  (hw:PySem.Within mA ns) (hsz:ns.length<=sizeLine)
  (h:∀ h',FT h' x dx C (fun y=>if y=name then some v else mA y)->Pu dx s.heap h'->Q () { s with heap:=h',toks:=s.toks+2 }) :
  Ke (Kl prog w) A (setAttr (.ref x) name v) Q E s:=by
 obtain⟨od,J,hl⟩:=I.look
 refine PySem.W.set_plain X J hs (PySem.W.osa_open (s:={ s with toks:=s.toks+1 }) (r:=none) X J hp ht fun b=>?_)
 obtain⟨cd,hc,hd'⟩:=PySem.W.any_some hh
 have hx:s.heap.get? x=some ⟨.ref C,some dx,.plain,#[]⟩:=I.obj
 refine J3 (J7 (J3 (J3 (wpAny_loadPart hx (J3 (Ng (s:={ s with toks:=s.toks+1 }) (R8 X hc) ?_))))))
 rw[hd']
 refine J7 (a:=some dx) (J3 (J7 (J3 ?_)))
 refine wpAny_nsSet1 (s:={ s with toks:=s.toks+1 }) I.ns fun h' hn2 hs2=>?_
 obtain⟨oD,esD,epD,hoD,hdD,hcD⟩:=hn2.count (PySem.Within.cons name v hw)
 refine J3 (wpAny_lookBehind hoD (by rw[hdD]; exact pastItsLine_dict (K7 hcD (by rw[KZ]; lia))) ?_)
 exact J7 (h _ ⟨(hs2.2 _ (Mq I.ne)).trans I.obj,hn2,I.ne⟩ hs2)
theorem Cm {R:QT->J4->Prop} {vs:List Value} {kw:List (KH × Value)} (X:K.In s.heap) (hm:T7 K C=true)
  (hi:Lw K (.ref C) "__init__" = some (some (.ref f))) (hf:PySem.W.typeIn K (.ref f)=some (.type "function"))
  (h:LQ (Kl prog w) (A.under (.builtin "type.__call__" ⟨.ref C::vs,kw⟩)) (.call (.ref f) ⟨.ref (s.heap.objs.size+1)::vs,kw⟩) (PySem.W.InitBack (s.heap.objs.size+1) R)
   {s with heap:=(s.heap.push M6).push (NQ C s.heap.objs.size) }) :
  LQ (Kl prog w) A (.call (.ref C) ⟨vs,kw⟩) R s:=by
 obtain⟨hh,g,d,t,os⟩:=s
 exact PySem.W.make_core (PySem.W.makes_of X hm) (Pb X hi) (fun self=>PySem.W.bind_fn X self hf) (.inl rfl) h
end
def nA (f:KH) (v:V):List (KH × V)->List (KH × V)
 | []=>[(f,v)]
 | (g,x)::r=>if g=f then (g,v)::r else (g,x)::nA f v r
theorem lC (f g:KH) (v:V):∀ fs:List (KH × V),(nA f v fs).lookup g=if g=f then some v else fs.lookup g
 | []=>by
  show Ph g [(f,v)]=_
  by_cases h:g=f
  ·have hb:(g == f)=true:=beq_iff_eq.mpr h
   simp only[Ph,hb,if_pos h]
  ·have hb:(g == f)=false:=beq_eq_false_iff_ne.mpr h
   simp only[Ph,hb,if_neg h]
 | (k,x)::r=>by
  have ih:=lC f g v r
  rw[show nA f v ((k,x)::r)=(if k=f then (k,v)::r else (k,x)::nA f v r) from rfl]
  by_cases hk:k=f
  ·rw[if_pos hk]
   by_cases h:g=k
   ·have hb:(g == k)=true:=beq_iff_eq.mpr h
    simp only[Ph,hb,if_pos (h.trans hk)]
   ·have hb:(g == k)=false:=beq_eq_false_iff_ne.mpr h
    simp only[Ph,hb,if_neg (fun e:g=f=>h (e.trans hk.symm))]
  ·rw[if_neg hk]
   by_cases h:g=k
   ·have hb:(g == k)=true:=beq_iff_eq.mpr h
    simp only[Ph,hb,if_neg (fun e:g=f=>hk (h.symm.trans e))]
   ·have hb:(g == k)=false:=beq_eq_false_iff_ne.mpr h
    simp only[Ph,hb]
    exact ih
theorem lO (f:KH) (v:V):∀ fs:List (KH × V),f∈(nA f v fs).map (·.1)/\∀ g,g∈fs.map (·.1)->g∈(nA f v fs).map (·.1)
 | []=>⟨by simp [nA],fun g h=>by simp at h⟩
 | (k,x)::r=>by
  obtain⟨i1,i2⟩:=lO f v r
  rw[show nA f v ((k,x)::r)=(if k=f then (k,v)::r else (k,x)::nA f v r) from rfl]
  by_cases hk:k=f
  ·rw[if_pos hk]
   subst hk
   exact⟨by simp,fun g h=>by simpa using h⟩
  ·rw[if_neg hk]
   refine⟨?_,fun g h=>?_⟩
   ·rw[Ni]
    exact KC _ i1
   ·rw[Ni] at h ⊢
    rcases List.mem_cons.mp h with e | e
    ·exact List.mem_cons.mpr (.inl e)
    ·exact KC _ (i2 g e)
theorem lA (f:KH) (v:V):∀ fs:List (KH × V),(nA f v fs).length<=fs.length+1
 | []=>by simp [nA]
 | (k,x)::r=>by
  have ih:=lA f v r
  rw[show nA f v ((k,x)::r)=(if k=f then (k,v)::r else (k,x)::nA f v r) from rfl]
  by_cases hk:k=f
  ·rw[if_pos hk,KZ,KZ]; lia
  ·rw[if_neg hk,KZ,KZ]; lia
theorem wO.some_of {v:V} {o:Option Value} (r:wO (some v) o):∃ u,o=some u/\RelV v u:=by
 cases o with
 | none=>exact (show False from r).elim
 | some u=>exact⟨u,rfl,r⟩
theorem wO.none_of {o:Option Value} (r:wO none o):o=none:=by
 cases o with
 | none=>rfl
 | some u=>exact (show False from r).elim
theorem rH {v:V} {u:Value} (r:RelV v u):Tz u=true:=by
 cases v with
 | non=>cases (show u=LR from r); rfl
 | bl b=>cases (show u=Sv b from r); rfl
 | int i=>obtain⟨t,e⟩:=(show ∃ t,u=Og i t from r); cases e; rfl
 | str x=>obtain⟨t,e⟩:=(show ∃ t,u=Value.str x t from r); cases e; rfl
 | byt b=>obtain⟨t,e⟩:=(show ∃ t,u=Value.bytes b t from r); cases e; rfl
 | flt b=>obtain⟨t,e⟩:=(show ∃ t,u=Value.float b t from r); cases e; rfl
 | ref a=>cases (show u=Ku a from r); rfl
 | ty n=>cases (show u=N8 n from r); rfl
section
variable {P:Kq} {w:K1} {H H':Hp} {h h':Lh} {a C dx:Addr} {fs fs':List (KH × V)}
theorem oO (hok:HOk P w H h) (e:H a=some (.ins C dx fs)):∃ mA,FT h a dx C mA/\(∀ f,wO (fs.lookup f) (mA f))/\PySem.Within mA (fs.map (·.1))/\fs.length<=1000/\H dx=some (.own a):=by
 obtain⟨d,z,ne,ob,mA,n,r,q⟩:=(show dw P w H h a (.ins C dx fs) from hok a _ e)
 exact⟨mA,⟨ob,n,ne⟩,r,q,z,d⟩
end
structure Cls (K:Ka) (C:Addr):Prop where
 pg:Qq K C Str.empty=true
 hd:OJ K C=true
 po:Td K C=true
 sa:Lw K (.ref C) "__setattr__" = some (some (.builtin "object.__setattr__"))
theorem Cls.get {K:Ka} {C:Addr} (c:Cls K C) (f:KH):Qq K C f=true:=c.pg
def d8 (K:Ka) (C:Addr) (f:KH):Prop:=Lw K (.ref C) f=some none
theorem d8.taker {K:Ka} {C:Addr} {f:KH} (n:d8 K C f):RM K C f=some none:=by
 unfold RM
 rw[show Lw K (.ref C) f=some none from n]
 rfl
structure Meth (K:Ka) (C:Addr) (m:KH) (f:Addr):Prop where
 at_:Lw K (.ref C) m=some (some (.ref f))
 fn:Tf K (.ref f)=true
 kp:Ml K (.ref f)=true
section
variable {X:Cx} {pins:List (Addr × NB)} {σ:St} {H:Hp} {s:J4} {a C dx:Addr} {fs:List (KH × V)} {f:KH} {v:V} {A:KY} {E:Value->J4->Prop}
theorem wK {b:Bool} {Q:Value->J4->Prop} (I:Inv X pins σ H s) (e:H a=some (.ins C dx fs)) (c:Cls X.K C) (n:d8 X.K C f) (l:fs.lookup f=some v)
  (h:∀ u s',Inv X pins σ H s'->RelV v u->Q u s'):Ke (Kl X.prog X.w) A (getAttr (.ref a) f b) Q E s:=by
 obtain⟨mA,O,r,_,_,_⟩:=oO I.hok e
 obtain⟨u,hu,ru⟩:=wO.some_of (v:=v) (o:=mA f) (by rw[← l]; exact r f)
 exact get_map I.kIn O (c.get f) c.hd n hu (rH ru) (h u _ (I.tok _) ru)
theorem nF {m:KH} {g:Addr} {pl:Sem Bool} {Q:Value × List Value->J4->Prop} (I:Inv X pins σ H s) (e:H a=some (.ins C dx fs)) (c:Cls X.K C) (k:Meth X.K C m g) (l:fs.lookup m=none)
  (h:Q (.ref g,[.ref a]) s):Ke (Kl X.prog X.w) A (Qh (.ref a) m pl) Q E s:=by
 obtain⟨mA,O,r,_,_,_⟩:=oO I.hok e
 have hn:mA m=none:=wO.none_of (by rw[← l]; exact r m)
 exact Cr I.kIn O (c.get m) k.at_ k.fn hn h
theorem vG {y:V} {u:Value} {Q:Unit->J4->Prop} (I:Inv X pins σ H s) (e:H a=some (.ins C dx fs)) (c:Cls X.K C) (n:d8 X.K C f) (hl:fs.length < 1000) (ry:RelV y u)
  (h:∀ s',Inv X pins σ (upd H a (.ins C dx (nA f y fs))) s'->Q () s'):Ke (Kl X.prog X.w) A (setAttr (.ref a) f u) Q E s:=by
 obtain⟨mA,O,r,wi,_,ho⟩:=oO I.hok e
 have hz:(fs.map (·.1)).length<=sizeLine:=by rw[J8,T4]; lia
 refine Fw I.kIn O c.sa c.po n.taker c.hd wi hz fun h' O' sb=>h _ ?_
 have hd:∃ o,h'.get? dx=some o:=let ⟨o,_,_,e',_⟩:=O'.ns; ⟨o,e'⟩
 refine I.write (x:=a) (e:=dx) (by rw[e]; exact QS) (.inr ho) (fun b q hb z=>(sb.2 b hb).trans z) hd ?_
 refine⟨by rw[aC O.ne]; exact ho,?_,O.ne,O'.obj,_,O'.ns,fun g=>?_,fun g hg=>?_⟩
 ·have:=lA f y fs; lia
 ·show wO ((nA f y fs).lookup g) (if g=f then some u else mA g)
  rw[lC]
  by_cases q:g=f
  ·rw[if_pos q,if_pos q]; exact ry
  ·rw[if_neg q,if_neg q]; exact r g
 ·by_cases q:g=f
  ·rw[q]; exact (lO f y fs).1
  ·refine (lO f y fs).2 g (wi g fun z=>hg ?_)
   show (if g=f then some u else mA g)=none
   rw[if_neg q]; exact z
theorem Inv.made (I:Inv X pins σ H s):Inv X pins σ (upd (upd H s.heap.objs.size (.own (s.heap.objs.size+1))) (s.heap.objs.size+1) (.ins C s.heap.objs.size []))
  {s with heap:=(s.heap.push M6).push (NQ C s.heap.objs.size) }:=by
 have e1:(s.heap.push M6).get? s.heap.objs.size=some M6:=Ko s.heap rfl
 have e2:((s.heap.push M6).push (NQ C s.heap.objs.size)).get? (s.heap.objs.size+1)=some (NQ C s.heap.objs.size):=by
  have:=Ko (s.heap.push M6) (o:=NQ C s.heap.objs.size) rfl
  rwa [Mm] at this
 have e3:(s.heap.push M6).Ns s.heap.objs.size (fun _=>none):=⟨M6,#[],_,e1,rfl,(fun e he=>absurd he (by simp)),fun _=>rfl⟩
 have I1:=I.laid (a:=s.heap.objs.size) (o:=.own (s.heap.objs.size+1)) (h':=s.heap.push M6) (t':=s.toks) (fun b u q=>J6 _ q) (Kc _) ⟨_,e1⟩
 refine I1.laid (a:=s.heap.objs.size+1) (o:=.ins C s.heap.objs.size []) (t':=s.toks) (fun b u q=>J6 _ q) (Nat.le_of_eq (Mm _ _)) ?_
 have ne:s.heap.objs.size≠s.heap.objs.size+1:=Kz (Oi _)
 refine⟨by rw[aC ne,ao],Lb _,ne,e2,fun _=>none,(Heap.Ns1.of_empty e3).at fun o q=>J6 _ q,fun _=>QS,fun y hy=>absurd rfl hy⟩
theorem zu {prog:Kq} {w:K1} {env:QZ} {e:Expr} {f:KH} {pos:Qs} {s:J4} {Q:Value->J4->Prop} (hb:Ri e f env (Mp e env)=Mp e env)
  (h:Ke (Kl prog w) A (Mp e env) (fun o s₁=>Ke (Kl prog w) A (getAttr o f true) Q E s₁) E s):Ke (Kl prog w) A (Mp (.Attribute e f pos) env) Q E s :=
 Attribute_any_ h (by rw[arm_eval_Attribute,hb])
end
def Jx (K:Ka) (ta:TE) (f:KH):TE:=fun σ H Q=>ta σ H fun x H1=>∃ a C dx fs v,x = .ref a/\H1 a=some (.ins C dx fs)/\Cls K C/\d8 K C f/\fs.lookup f=some v/\Q v H1
def JL (K:Ka) (ta tv:TE) (f:KH):TS:=fun D σ H=>tv σ H fun y H1=>ta σ H1 fun x H2=>∃ a C dx fs,x = .ref a/\H2 a=some (.ins C dx fs)/\Cls K C/\d8 K C f/\fs.length < 1000 ∧
 D.nx σ (upd H2 a (.ins C dx (nA f y fs)))
section
variable {X:Cx} {o e value:Expr} {f:KH} {pos pos' tpos:Qs} {ta tv:TE}
theorem Hm (he:PE X e ta) (hb:Ri e f X.env (Mp e X.env)=Mp e X.env):PE X (.Attribute e f pos) (Jx X.K ta f):=by
 intro pins s σ H Q I h
 refine zu hb (thn (he pins s σ H _ I h) fun u s1 ⟨x,H1,I1,rx,a,C,dx,fs,v,ex,ea,c,n,l,q⟩=>?_)
 subst ex
 obtain rfl:u=Ku a:=rx
 exact wK I1 ea c n l fun u' s2 I2 ru=>⟨v,H1,I2,ru,q⟩
theorem jd (ha:PE X o ta) (hv:PE X value tv) (hs:Tt value (some (.Attribute o f pos')) pos.line X.env=pure false):PS X (.Assign [.Attribute o f pos'] value pos) (JL X.K ta tv f):=by
 intro pins s σ H D I h
 refine Tq (thn (hv pins s σ H _ I h) fun u s1 ⟨y,H1,I1,ry,q⟩=>thn (ha pins s1 σ H1 _ I1 q) fun ov s2 ⟨x,H2,I2,rx,a,C,dx,fs,ex,ea,c,n,l,q2⟩=>?_) hs
 subst ex
 obtain rfl:ov=Ku a:=rx
 exact vG I2 ea c n l ry fun s3 I3=>⟨σ,_,I3,q2⟩
end
section
variable {X:Cx} {pins:List (Addr × NB)} {σ:St} {H:Hp} {s:J4} {A:KY} {E:Value->J4->Prop} {Q:Value->J4->Prop} {c:Value} {b:Bool}
inductive vV (K:Ka) (H:Hp):V->Value->Prop where
 | non:vV K H .non (.type "NoneType")
 | bl (x:Bool):vV K H (.bl x) (.type "bool")
 | int (i:Int):vV K H (.int i) (.type "int")
 | str (x:KH):vV K H (.str x) (.type "str")
 | flt (x:UInt64):vV K H (.flt x) (.type "float")
 | lst {a:Addr} {xs:List V} (e:H a=some (.lst xs)):vV K H (.ref a) (.type "list")
 | frz {a:Addr} {o:NB} {xs:List V} (e:H a=some (.frz o (.lst xs))):vV K H (.ref a) (.type "list")
 | tup {a:Addr} {xs:List V} (e:H a=some (.tup xs)):vV K H (.ref a) (.type "tuple")
 | dK {a:Addr} {kvs:List (Key × V)} (e:H a=some (.dK kvs)):vV K H (.ref a) (.type "dict")
 | dT {a:Addr} {kvs:List (List Key × V)} (e:H a=some (.dT kvs)):vV K H (.ref a) (.type "dict")
 | ins {a C dx:Addr} {fs:List (KH × V)} (e:H a=some (.ins C dx fs)) (cl:Cls K C) (ha:Lw K (.ref C) "__class__" = some (some (.builtin "object.__class__")))
   (hn:PySem.W.specialIn K (.builtin "object.__class__") "__get__" = some (some (.builtin "getset_descriptor.__get__"))) (htk:PySem.W.takesIn K (.builtin "object.__class__")=some true)
   (hm:PySem.W.mroIn K C (.type "object")=some true):vV K H (.ref a) (.ref C)
theorem xJ {x:V} {u t:Value} (I:Inv X pins σ H s) (rx:RelV x u) (ty:vV X.K H x t) (e:PySem.W.kitOne X.K t c=some b) (h:∀ tk,Q (.bool b) { s with toks:=tk }) :
  Ke (Kl X.prog X.w) A (call (.builtin "isinstance") [u,c]) Q E s:=by
 cases ty with
 | non=>cases (show u=LR from rx); exact Mx PySem.W.kitx_none I.kIn QS e (fun z=>nomatch z) h
 | bl y=>cases (show u=Sv y from rx); exact Mx PySem.W.kitx_bool I.kIn QS e (fun z=>nomatch z) h
 | int i=>obtain⟨t,q⟩:=(show ∃ t,u=Og i t from rx); cases q; exact Mx PySem.W.kitx_int I.kIn QS e (fun z=>nomatch z) h
 | str y=>obtain⟨t,q⟩:=(show ∃ t,u=Value.str y t from rx); cases q; exact Mx PySem.W.kitx_str I.kIn QS e (fun z=>nomatch z) h
 | flt y=>obtain⟨t,q⟩:=(show ∃ t,u=Value.float y t from rx); cases q; exact Mx PySem.W.kitx_float I.kIn QS e (fun z=>nomatch z) h
 | @lst a xs ea =>
  cases (show u=Ku a from rx)
  obtain⟨_,_,n,_,h1⟩:=(show dw X.prog X.w H s.heap a (.lst xs) from I.hok a _ ea)
  exact Mx PySem.W.kitx_list I.kIn ⟨_,h1,rfl⟩ e (fun z=>nomatch z) h
 | @frz a ob xs ea =>
  cases (show u=Ku a from rx)
  obtain⟨_,_,_,n,_,h1⟩:=(show dw X.prog X.w H s.heap a (.frz ob (.lst xs)) from I.hok a _ ea)
  exact Mx PySem.W.kitx_list I.kIn ⟨_,h1,rfl⟩ e (fun z=>nomatch z) h
 | @tup a xs ea =>
  cases (show u=Ku a from rx)
  obtain⟨_,_,_,p⟩:=(show dw X.prog X.w H s.heap a (.tup xs) from I.hok a _ ea)
  obtain⟨o,h1,h2,_⟩:=p
  exact Mx PySem.W.kitx_tuple I.kIn ⟨o,h1,h2⟩ e (fun z=>nomatch z) h
 | @dK a kvs ea =>
  cases (show u=Ku a from rx)
  obtain⟨_,_,vs,_,p⟩:=(show dw X.prog X.w H s.heap a (.dK kvs) from I.hok a _ ea)
  obtain⟨o,es,ep,h1,h2,_⟩:=p
  exact Mx PySem.W.kitx_dict I.kIn ⟨o,h1,h2.1⟩ e (fun z=>nomatch z) h
 | @dT a kvs ea =>
  cases (show u=Ku a from rx)
  obtain⟨_,_,xs,_,o,es,ep,h1,h2,_⟩:=(show dw X.prog X.w H s.heap a (.dT kvs) from I.hok a _ ea)
  exact Mx PySem.W.kitx_dict I.kIn ⟨o,h1,h2.1⟩ e (fun z=>nomatch z) h
 | @ins a C dx fs ea cl ha hn htk hm =>
  cases (show u=Ku a from rx)
  obtain⟨mA,O,_⟩:=oO I.hok ea
  obtain⟨od,J,_⟩:=O.look
  exact Mx (PySem.W.kitx_own (cl.get _) cl.hd ha hn htk hm) I.kIn J e (fun z=>nomatch z) h
end
end L2
namespace L2
open PySem PySem.Spec PyProof.Rows
structure cT (k:Nat) (A:KY):Prop where
 hd:A.handled=none
 dp:A.depth+3 * k+5 < recursionLimit
 un:A.units+16 * k+200 < cLine
theorem cT.mono {j k:Nat} {A:KY} (r:cT k A) (h:j<=k):cT j A:=⟨r.hd,by have:=r.dp; lia,by have:=r.un; lia⟩
theorem cT.deeper {k:Nat} {A:KY} (r:cT (k+1) A) (env:QZ):cT k (A.deeper env) :=
 ⟨r.hd,by have:=r.dp; show A.depth+1+3 * k+5 < _; lia,by have:=r.un; show A.units+3+16 * k+200 < _; lia⟩
theorem vU {A:KY} {C:Addr} {us:List Value} {kw:List (KH × Value)}:(A.under (.builtin "type.__call__" ⟨.ref C::us,kw⟩)).depth=A.depth+1:=by
 first | rfl | simp [Around.under,Code.weight,Code.isCreation,Code.isGuard,Code.isCaller,Code.frames,Code.isFrame,guardIds]
theorem vI {A:KY} {C:Addr} {us:List Value} {kw:List (KH × Value)}:(A.under (.builtin "type.__call__" ⟨.ref C::us,kw⟩)).units=A.units+1:=by
 first | rfl | simp [Around.under,Code.cUnits,Code.frames,Code.isFrame]
theorem cT.make {k:Nat} {A:KY} (r:cT (k+1) A) (C:Addr) (us:List Value) (kw:List (KH × Value)):cT k (A.under (.builtin "type.__call__" ⟨.ref C::us,kw⟩)) :=
 ⟨r.hd,by have:=r.dp; rw[vU]; lia,by have:=r.un; rw[vI]; lia⟩
theorem cT.depth {k:Nat} {A:KY} (r:cT k A):A.depth < recursionLimit:=by have:=r.dp; lia
theorem cT.units {k:Nat} {A:KY} (r:cT k A):A.units+64 < cLine:=by have:=r.un; lia
theorem cT.Dt {k:Nat} {A:KY} (r:cT k A):A.units < cLine:=by have:=r.un; lia
def dW:TA:=fun _ H Q=>Q [] H
def aW (ta:TE) (tr:TA):TA:=fun σ H Q=>ta σ H fun x H1=>tr σ H1 fun xs H2=>Q (x::xs) H2
section
variable {X:Cx} {e:Expr} {es:List Expr} {te:TE} {t:TA} {pos:Qs}
theorem aj:PA X [] dW:=fun _ _ _ _ H Q I h=>Rb ⟨[],H,I,.nil,h⟩
theorem aa (ha:PE X e te) (hr:PA X es t) (hs:Kr (e::es) X.env=(false,Mp e X.env)::Kr es X.env:=by rfl):PA X (e::es) (aW te t):=by
 intro pos pins s σ H Q I h
 rw[hs]
 show Ke _ _ (Ub ((false,Mp e X.env)::Mu pos (Kr es X.env))) _ _ s
 refine Q4 (thn (ha pins s σ H _ I h) fun u s1 ⟨x,H1,I1,r1,q1⟩=>?_)
 exact thn (hr pos pins s1 σ H1 _ I1 q1) fun us s2 ⟨xs,H2,I2,r2,q2⟩=>⟨x::xs,H2,I2,.cons r1 r2,q2⟩
def mZ (t:TA):TE:=fun σ H Q=>t σ H fun xs H1=>xs.length<=sizeLine/\∀ p,H1 p=none->Q (.ref p) (upd H1 p (.tup xs))
def Jz (t:TA):TE:=fun σ H Q=>t σ H fun xs H1=>xs.length<=sizeLine/\∀ p,H1 p=none->Q (.ref p) (upd H1 p (.lst xs))
theorem bA {x1} (h:PA X es t):PE X (.Tuple es x1 pos) (mZ t):=by
 intro pins s σ H Q I hq
 refine wpAny_Tuple_spliced (thn (h pos pins s σ H _ I hq) fun us s1 ⟨xs,H1,I1,r,z,q⟩=>⟨by rw[← r.length]; exact z,?_⟩)
 have hf:H1 s1.heap.objs.size=none:=I1.hok.fresh (Kc _)
 refine⟨.ref s1.heap.objs.size,upd H1 s1.heap.objs.size (.tup xs),I1.laid (t':=s1.toks) (fun b u e=>J6 _ e) (Kc _) ?_,rfl,q _ hf⟩
 exact⟨z,us,r,⟨_,Ko _ rfl,rfl,_,rfl⟩⟩
theorem dI (h:PA X es t):PE X (.List es pos) (Jz t):=by
 intro pins s σ H Q I hq
 refine wpAny_List_spliced (thn (h pos pins s σ H _ I hq) fun us s1 ⟨xs,H1,I1,r,z,q⟩=>⟨by rw[← r.length]; exact z,?_⟩)
 have hf:H1 s1.heap.objs.size=none:=I1.hok.fresh (Kc _)
 refine⟨.ref s1.heap.objs.size,upd H1 s1.heap.objs.size (.lst xs),I1.laid (t':=s1.toks) (fun b u e=>J6 _ e) (Kc _) ?_,rfl,q _ hf⟩
 exact⟨z,us,0,r,Ko _ rfl⟩
end
abbrev Sp:=List V->Hp->VK->XK->Prop
abbrev CXT:=List QZ->Hp->J4->XK->Value->J4->Prop
structure Af (P:Kq) (w:K1) (K:Ka) (mg:KH->Option Value) (base:Lh) (A:KY) (outer:List QZ) (s:J4) (H:Hp):Prop where
 frames:A.frames=some outer
 mod:Mod K mg base
 bs:∀ b o,base.get? b=some o->s.heap.get? b=some o/\H b=none
 bsz:base.objs.size<=s.heap.objs.size
 m7:s.heap.FunFrames base outer
 frf:∀ b∈frs outer,H b=none
 hok:HOk P w H s.heap
 bare:Rf s.gens
def CE (outer:List QZ) (P:Kq) (w:K1) (H:Hp) (s:J4) (Q:VK) (u:Value) (s':J4):Prop :=
 ∃ v H',s'.os=s.os/\Rf s'.gens/\Un (frs outer) [] H H' s.heap s'.heap/\HOk P w H' s'.heap/\RelV v u/\Q v H'
def CR (CX:CXT) (outer:List QZ) (P:Kq) (w:K1) (H:Hp) (s:J4) (Q:VK) (E:XK) (r:QT) (s':J4):Prop :=
 match r with
 | .ok (.ret u)=>CE outer P w H s Q u s'
 | .ok _=>False
 | .error e=>CX outer H s E e s'
structure bL (P:Kq) (w:K1) (K:Ka) (mg:KH->Option Value) (base:Lh) (CX:CXT) (k:Nat) (f:Addr) (fd:LK) (ps:List KH) (sp:Sp):Prop where
 len:∀ vs H Q E,sp vs H Q E->vs.length=ps.length
 run:∀ (A:KY) (outer:List QZ) (s:J4) (H:Hp) (args:Args) (us:List Value) (vs:List V) (Q:VK) (E:XK),cT k A->Af P w K mg base A outer s H->Rz s fd args (ps.zip us)->Vals vs us->sp vs H Q E →
  LQ (Kl P w) A (.call (.ref f) args) (CR CX outer P w H s Q E) s
theorem Af.make {P:Kq} {w:K1} {K:Ka} {mg:KH->Option Value} {base:Lh} {A:KY} {outer:List QZ} {s:J4} {H:Hp} (e:Af P w K mg base A outer s H) (C:Addr) (us:List Value) (kw:List (KH × Value)) :
  Af P w K mg base (A.under (.builtin "type.__call__" ⟨.ref C::us,kw⟩)) outer s H:=⟨by first | exact e.frames | (simpa [Around.under,Code.envs,Code.isFrame,pushEnvs] using e.frames),e.mod,e.bs,e.bsz,e.m7,e.frf,e.hok,e.bare⟩
section
variable {X:Cx} {pins:List (Addr × NB)} {σ:St} {H:Hp} {s s':J4}
theorem Inv.env0 (I:Inv X pins σ H s):Af X.prog X.w X.K X.mg X.base X.A X.stack s H :=
 ⟨I.ok.frames,I.ok.mod,I.bs,K7 I.ok.bsz I.sz,I.stack,I.rQ,I.hok,I.bare⟩
theorem Inv.after {Q:VK} {u:Value} (I:Inv X pins σ H s) (h:CE X.stack X.prog X.w H s Q u s'):EP X pins σ Q u s':=by
 obtain⟨v,H',os,bare,un,hok,r,q⟩:=h
 obtain⟨hh,g,d,t,os'⟩:=s'
 obtain rfl:os'=s.os:=os
 exact⟨v,H',I.call (h':=hh) (g':=g) (d':=d) (t':=t) (ch:=[]) un hok bare (fun b z=>absurd z (by simp)),r,q⟩
end
def oU (sp:Sp) (dvs:List V) (E:XK) (t:TA):TE:=fun σ H Q=>t σ H fun vs H1=>sp (vs++dvs) H1 Q E
def jz (C:Addr) (m:KH) (sp:Sp) (dvs:List V) (E:XK) (ta:TE) (t:TA):TE:=fun σ H Q=>ta σ H fun x H1=>∃ a dx fs,x = .ref a/\H1 a=some (.ins C dx fs)/\fs.lookup m=none ∧
 t σ H1 fun vs H2=>sp (x::(vs++dvs)) H2 Q E
def BP (C:Addr) (sp:Sp) (dvs:List V) (E:XK) (t:TA):TE:=fun σ H Q=>t σ H fun vs H1=>∀ x dx,H1 x=none->H1 dx=none->dx≠x →
 sp (.ref x::(vs++dvs)) (upd (upd H1 dx (.own x)) x (.ins C dx [])) (fun v H2=>v = .non/\Q (.ref x) H2) E
def Binds (K:Ka) (fd:LK) (ps:List KH) (ds:List Value):Prop :=
 ∀ (s:J4) (us:List Value),K.In s.heap->(us++ds).length=ps.length->Rz s fd ⟨us,[]⟩ (ps.zip (us++ds))
theorem Binds.all {K:Ka} {fd:LK} {ps:List KH} (h:∀ us:List Value,us.length=ps.length->PB fd ⟨us,[]⟩=pure (ps.zip us)):Binds K fd ps []:=fun s us _ hl=>by
 rw[Nb] at hl ⊢
 exact .of_eq (h us hl)
def Passes (CX:CXT) (X:Cx) (E:XK):Prop:=∀ (pins:List (Addr × NB)) (σ:St) (H:Hp) (s:J4) (e:Value) (s':J4),Inv X pins σ H s->CX X.stack H s E e s'->X.xe e s'
section
variable {X:Cx} {CX:CXT} {k:Nat} {f C:Addr} {fd:LK} {ps:List KH} {sp:Sp} {dvs:List V} {ds:List Value} {E:XK} {x m:KH} {p pos apos:Qs} {e o:Expr} {es:List Expr} {ta:TE} {t:TA}
theorem uT {pins:List (Addr × NB)} {σ:St} {H:Hp} {s:J4} {Q:VK} {us:List Value} {vs:List V} (F:bL X.prog X.w X.K X.mg X.base CX k f fd ps sp) (hr:cT k X.A) (hb:Binds X.K fd ps ds) (hd:Vals dvs ds) (hx:Passes CX X E)
  (I:Inv X pins σ H s) (r:Vals vs us) (h:sp (vs++dvs) H Q E):Ke (Kl X.prog X.w) X.A (call (.ref f) us) (EP X pins σ Q) X.xe s:=by
 have r2:Vals (vs++dvs) (us++ds):=r.append hd
 have hl:(us++ds).length=ps.length:=by rw[← r2.length]; exact F.len _ _ _ _ h
 refine O4 (Nt (F.run X.A X.stack s H ⟨us,[]⟩ (us++ds) (vs++dvs) Q E hr I.env0 (hb s us I.kIn hl) r2 h) fun r s' hq=>?_)
 cases r with
 | error e=>exact hx pins σ H s e s' I hq
 | ok fl =>
  cases fl with
  | ret u=>exact I.after hq
  | next=>exact K9 hq
  | brk=>exact K9 hq
  | cont=>exact K9 hq
theorem yd (F:bL X.prog X.w X.K X.mg X.base CX k f fd ps sp) (hr:cT k X.A) (hg:Gl X x) (hm:X.mg x=some (.ref f)) (hk:Ml X.K (.ref f)=true) (hb:Binds X.K fd ps ds) (hd:Vals dvs ds) (hx:Passes CX X E)
  (ha:PA X (e::es) t) (hdb:(x == ("__debug__" : KH))=false:=by decide) (he:Kr (e::es) X.env=(false,Mp e X.env)::Kr es X.env:=by rfl) (hpl:(Mu pos (Kr es X.env)).any (·.1)=false:=by rfl) :
  PE X (.Call (.Name x p) (e::es) [] pos) (oU sp dvs E t):=by
 intro pins s σ H Q I h
 refine Ls (fG I hg hm ?_ hdb)
 refine Qe (h₀:=X.base) I.ok.mod.kin hk (thn (ha pos pins s σ H _ I h) fun us s1 ⟨vs,H1,I1,r,q⟩=>⟨I1.kIn,?_⟩) he hpl
 exact uT F hr hb hd hx I1 r q
theorem zA {pl:Sem Bool} (he:PE X o ta) (c:Cls X.K C) (hm:Meth X.K C m f) (F:bL X.prog X.w X.K X.mg X.base CX k f fd ps sp) (hr:cT k X.A) (hb:Binds X.K fd ps ds) (hd:Vals dvs ds) (hx:Passes CX X E) (ha:PA X (e::es) t)
  (hst:Kr (e::es) X.env=(false,Mp e X.env)::Kr es X.env:=by rfl) (hpl:(Mu pos (Kr es X.env)).any (·.1)=false:=by rfl)
  (ht:Mp (.Call (.Attribute o m apos) (e::es) [] pos) X.env=(do
   let ov ← Mp o X.env
   Pk apos.atName
   let (f,first) ← Qu [ov] (Qh ov m pl)
   Rp pos f first (Mu pos (Kr (e::es) X.env)) (QR pos (O5 [] X.env))):=by rfl) :
  PE X (.Call (.Attribute o m apos) (e::es) [] pos) (jz C m sp dvs E ta t):=by
 intro pins s σ H Q I h
 refine Ql (pl:=pl) (thn (he pins s σ H _ I h) fun u s1 ⟨x,H1,I1,rx,a,dx,fs,ex,ea,l,q⟩=>?_) ht
 subst ex
 obtain rfl:u=Ku a:=rx
 refine nF I1 ea c hm l ?_
 refine Qe (first:=[.ref a]) (h₀:=X.base) I.ok.mod.kin hm.kp (thn (ha pos pins s1 σ H1 _ I1 q) fun us s2 ⟨vs,H2,I2,r,q2⟩=>⟨I2.kIn,?_⟩) hst hpl
 exact uT (us:=.ref a::us) (vs:=.ref a::vs) F hr hb hd hx I2 (.cons rfl r) q2
theorem uP {pl:Sem Bool} (he:PE X o ta) (c:Cls X.K C) (hm:Meth X.K C m f) (F:bL X.prog X.w X.K X.mg X.base CX k f fd ps sp) (hr:cT k X.A) (hb:Binds X.K fd ps ds) (hd:Vals dvs ds) (hx:Passes CX X E)
  (ht:Mp (.Call (.Attribute o m apos) [] [] pos) X.env=(do
   let ov ← Mp o X.env
   Pk apos.atName
   let (f,first) ← Qu [ov] (Qh ov m pl)
   Rp pos f first (Mu pos (Kr [] X.env)) (QR pos (O5 [] X.env))):=by rfl) :
  PE X (.Call (.Attribute o m apos) [] [] pos) (jz C m sp dvs E ta dW):=by
 intro pins s σ H Q I h
 refine Ql (pl:=pl) (thn (he pins s σ H _ I h) fun u s1 ⟨x,H1,I1,rx,a,dx,fs,ex,ea,l,q⟩=>?_) ht
 subst ex
 obtain rfl:u=Ku a:=rx
 refine nF I1 ea c hm l ?_
 exact R9 (first:=[.ref a]) I1.kIn hm.kp (uT (us:=[.ref a]) (vs:=[.ref a]) F hr hb hd hx I1 (.cons rfl .nil) q)
structure Mk (K:Ka) (C f:Addr):Prop where
 makes:T7 K C=true
 init:Lw K (.ref C) "__init__" = some (some (.ref f))
 fn:Tf K (.ref f)=true
 kp:Ml K (.ref C)=true
theorem tY {pins:List (Addr × NB)} {σ:St} {H:Hp} {s:J4} {Q:VK} {us:List Value} {vs:List V} (M:Mk X.K C f) (F:bL X.prog X.w X.K X.mg X.base CX k f fd ps sp) (hr:cT (k+1) X.A) (hb:Binds X.K fd ps ds) (hd:Vals dvs ds)
  (hx:Passes CX X E) (I:Inv X pins σ H s) (r:Vals vs us)
  (h:∀ x dx,H x=none->H dx=none->dx≠x->sp (.ref x::(vs++dvs)) (upd (upd H dx (.own x)) x (.ins C dx [])) (fun v H2=>v = .non/\Q (.ref x) H2) E) :
  Ke (Kl X.prog X.w) X.A (call (.ref C) us) (EP X pins σ Q) X.xe s:=by
 have hq:=h (s.heap.objs.size+1) s.heap.objs.size (I.hok.fresh (M9 _)) (I.hok.fresh (Kc _)) (Kz (Oi _))
 have I2:=Inv.made (C:=C) I
 have r2:Vals (V.ref (s.heap.objs.size+1)::(vs++dvs)) (Ku (s.heap.objs.size+1)::(us++ds)):=.cons rfl (r.append hd)
 have hl:(Ku (s.heap.objs.size+1)::us++ds).length=ps.length:=by
  have e:=r2.length
  rw[F.len _ _ _ _ hq] at e
  exact e.symm
 refine O4 (Cm (f:=f) I.kIn M.makes M.init (beq_iff_eq.mp M.fn) (Nt (F.run _ X.stack _ _ ⟨Ku (s.heap.objs.size+1)::us,[]⟩ (Ku (s.heap.objs.size+1)::(us++ds)) _ _ E (hr.make C us [])
  (I2.env0.make C us []) (hb _ (Ku (s.heap.objs.size+1)::us) I2.kIn hl) r2 hq) fun r s' hq'=>?_))
 cases r with
 | error e=>exact hx pins σ _ _ e s' I2 hq'
 | ok fl =>
  cases fl with
  | ret u =>
   obtain⟨v,H',I3,rv,ev,q3⟩:=I2.after hq'
   subst ev
   exact⟨rv,⟨V.ref (s.heap.objs.size+1),H',I3,rfl,q3⟩⟩
  | next=>exact K9 hq'
  | brk=>exact K9 hq'
  | cont=>exact K9 hq'
theorem EY (M:Mk X.K C f) (F:bL X.prog X.w X.K X.mg X.base CX k f fd ps sp) (hr:cT (k+1) X.A) (hg:Gl X x) (hm:X.mg x=some (.ref C)) (hb:Binds X.K fd ps ds) (hd:Vals dvs ds) (hx:Passes CX X E)
  (ha:PA X (e::es) t) (hdb:(x == ("__debug__" : KH))=false:=by decide) (he:Kr (e::es) X.env=(false,Mp e X.env)::Kr es X.env:=by rfl) (hpl:(Mu pos (Kr es X.env)).any (·.1)=false:=by rfl) :
  PE X (.Call (.Name x p) (e::es) [] pos) (BP C sp dvs E t):=by
 intro pins s σ H Q I h
 refine Ls (fG I hg hm ?_ hdb)
 refine Qe (h₀:=X.base) I.ok.mod.kin M.kp (thn (ha pos pins s σ H _ I h) fun us s1 ⟨vs,H1,I1,r,q⟩=>⟨I1.kIn,?_⟩) he hpl
 exact tY M F hr hb hd hx I1 r q
theorem Aj (M:Mk X.K C f) (F:bL X.prog X.w X.K X.mg X.base CX k f fd ps sp) (hr:cT (k+1) X.A) (hg:Gl X x) (hm:X.mg x=some (.ref C)) (hb:Binds X.K fd ps ds) (hd:Vals dvs ds) (hx:Passes CX X E)
  (hdb:(x == ("__debug__" : KH))=false:=by decide):PE X (.Call (.Name x p) [] [] pos) (BP C sp dvs E dW):=by
 intro pins s σ H Q I h
 refine Ls (fG I hg hm ?_ hdb)
 exact R9 I.kIn M.kp (tY (us:=[]) M F hr hb hd hx I .nil h)
end
section
variable {X:Cx} {CX:CXT} {k:Nat} {f C:Addr} {fd:LK} {ps ks:List KH} {sp:Sp} {E:XK} {x m:KH} {p pos apos kpos:Qs} {e o:Expr} {es:List Expr} {kws:List Keyword} {te ta:TE} {t tk:TA} {nm:Option KH}
variable {g:List Value->List Value->List Value} {gV:List V->List V->List V}
end
structure aG (N P:List KH) (sc:Nr):Prop where
 kind:sc.kind = .function
 co:sc.isCoroutine=false
 gen:sc.isGenerator=false
 nd:N.Nodup
 pre:N.take P.length=P
 par:∀ x∈P,sc.names.lookup x=some .local∨sc.names.lookup x=some .cell
 nofree:∀ y∈sc.names,y.2≠.free
theorem qx {kindOf:KH->Option QW} {x:KH}:∀ {binds:List (KH × Value)} {m:KH->Option Value},(∀ v,(x,v) ∉ binds)->bindL kindOf binds m x=m x
 | [],_,_=>rfl
 | (n,v)::r,m,h=>by
  unfold bindL
  rw[qx fun w hw=>h w (KC _ hw)]
  split
  ·have:x≠n:=by rintro rfl; exact h v KD
   simp [this]
  ·rfl
theorem pF {kindOf:KH->Option QW} {x:KH}:∀ {binds:List (KH × Value)} {m:KH->Option Value},(∀ v,(x,v) ∉ binds)->bindC kindOf binds m x=m x
 | [],_,_=>rfl
 | (n,v)::r,m,h=>by
  unfold bindC
  rw[pF fun w hw=>h w (KC _ hw)]
  split
  ·rfl
  ·have:x≠n:=by rintro rfl; exact h v KD
   simp [this]
theorem qK {kindOf:KH->Option QW} {x:KH} {v:Value}:∀ {P:List KH} {vs:List Value} {i:Nat} {m:KH->Option Value},P.Nodup->P[i]? = some x->vs[i]? = some v->kindOf x=some .local →
  bindL kindOf (P.zip vs) m x=some v
 | [],_,_,_,_,h,_,_=>by simp at h
 | _::_,[],_,_,_,_,h,_=>by simp at h
 | p::P,w::vs,0,m,nd,h1,h2,hk=>by
  simp at h1 h2; subst h1; subst h2
  show bindL kindOf ((p,w)::P.zip vs) m p=_
  unfold bindL
  rw[qx fun v hv=>(List.nodup_cons.mp nd).1 (RQ hv).1,if_pos hk]
  simp
 | p::P,w::vs,i+1,m,nd,h1,h2,hk=>by
  show bindL kindOf ((p,w)::P.zip vs) m x=_
  unfold bindL
  exact qK (i:=i) (List.nodup_cons.mp nd).2 (by simpa using h1) (by simpa using h2) hk
theorem pA {kindOf:KH->Option QW} {x:KH} {v:Value}:∀ {P:List KH} {vs:List Value} {i:Nat} {m:KH->Option Value},P.Nodup->P[i]? = some x->vs[i]? = some v->kindOf x≠some .local →
  bindC kindOf (P.zip vs) m x=some v
 | [],_,_,_,_,h,_,_=>by simp at h
 | _::_,[],_,_,_,_,h,_=>by simp at h
 | p::P,w::vs,0,m,nd,h1,h2,hk=>by
  simp at h1 h2; subst h1; subst h2
  show bindC kindOf ((p,w)::P.zip vs) m p=_
  unfold bindC
  rw[pF fun v hv=>(List.nodup_cons.mp nd).1 (RQ hv).1,if_neg hk]
  simp
 | p::P,w::vs,i+1,m,nd,h1,h2,hk=>by
  show bindC kindOf ((p,w)::P.zip vs) m x=_
  unfold bindC
  exact pA (i:=i) (List.nodup_cons.mp nd).2 (by simpa using h1) (by simpa using h2) hk
def start (N:List KH) (vs:List V):St:=vs.map some++Kf (N.length - vs.length) none
def rK (CX:CXT) (P:Kq) (w:K1) (K:Ka) (mg:KH->Option Value) (base:Lh) (N:List KH) (qual:KH) (scope:Nr) (f:Addr) (cd:Value) (A:KY) (outer:List QZ) (s:J4) (H:Hp) (E:XK):Cx where
 prog:=P
 w:=w
 K:=K
 mg:=mg
 base:=base
 A:=A.deeper (envOfC qual scope s.heap.objs.size f cd)
 N:=N
 s₀:=s
 H₀:=H
 env:=envOfC qual scope s.heap.objs.size f cd
 outer:=outer
 stack:=envOfC qual scope s.heap.objs.size f cd::outer
 ex:=[]
 calm:=true
 fn:=fun _=>true
 pn:=[]
 xe:=fun e s'=>Ke (Kl P w) (A.deeper (envOfC qual scope s.heap.objs.size f cd)) (Q8 (envOfC qual scope s.heap.objs.size f cd) e) (fun _ s''=>CX outer H s E e s'') (fun e' s''=>CX outer H s E e' s'') s'
theorem uh {sc:Nr} {n:Nat} {x:KH} (h:sc.names.lookup x=some .cell):∃ c,(cellsFrom n sc.names []).lookup x=some c:=by
 have q:=PySem.W.cellsFrom_some sc.names n [] (.inl h)
 exact Option.isSome_iff_exists.mp q
theorem qF {CX:CXT} {P:Kq} {w:K1} {K:Ka} {mg:KH->Option Value} {base:Lh} {N ps:List KH} {qual:KH} {scope:Nr} {f:Addr} {cd:Value} {A:KY} {outer:List QZ} {s s1:J4} {H:Hp} {E:XK} {us:List Value} {vs:List V}
  (S:aG N ps scope) (hd:A.handled=none) (e0:Af P w K mg base A outer s H) (hl:vs.length=ps.length) (r:Vals vs us)
  (x:InCallC s s.heap.objs.size (bindL (envOfC qual scope s.heap.objs.size f cd).kindOf (ps.zip us) fun _=>none) (cellsFrom (s.heap.objs.size+1) scope.names []) (bindC (envOfC qual scope s.heap.objs.size f cd).kindOf (ps.zip us) fun _=>none) s1) :
  Inv (rK CX P w K mg base N qual scope f cd A outer s H E) [] (start N vs) H s1:=by
 have hpl:ps.length<=N.length:=by have:=congrArg List.length S.pre; rw[Lk] at this; lia
 obtain⟨h1,tk,rfl,hk⟩:=x.done
 have noA:∀ b:Addr,b ∉ (rK CX P w K mg base N qual scope f cd A outer s H E).ex:=fun b z=>absurd (show b∈([]:List Addr) from z) (by simp)
 refine⟨⟨e0.mod,S.kind,rfl,rfl,Kc _,fun y z c h1 h2=>?_,fun y hy=>?_,fun y c _ h=>?_,fun _=>hd,Around.frames_deeper e0.frames,.inr ⟨rfl,rfl⟩,fun b z=>absurd z (noA b),e0.bs,e0.bsz,fun b _ _=>noA b,fun b z=>absurd z (noA b),e0.m7,e0.frf⟩,
  rfl,e0.bare,Un.kept hk,⟨_,x.toInCall.ns,fun i y v h1 h2 h3=>?_⟩,fun y c h=>⟨_,x.cell y c h⟩,e0.hok.fresh (Kc _),fun y c h=>?_,fun p hp=>absurd (show p∈([]:List (Addr × NB)) from hp) (by simp),e0.hok.kept hk,?_⟩
 ·exact name_of_addr x.apart (Lp h1) (Lp h2)
 ·have hy:scope.names.lookup y=some .cell∨scope.names.lookup y=some .free:=hy
  rcases hy with hy | hy
  ·exact uh hy
  ·exact absurd rfl (S.nofree _ (Lp hy))
 ·exact Nu (x.above y c (Lp h))
 ·have hi:i < vs.length:=by
   unfold start at h2
   by_cases hi:i < vs.length
   ·exact hi
   ·rw[QX (by simpa using hi)] at h2
    rw[Oj] at h2
    split at h2 <;> cases h2
  have ha:vs[i]? = some v:=by
   unfold start at h2
   rw[List.getElem?_append_left (by simpa using hi),KQ] at h2
   cases e:vs[i]? with
   | none=>rw[e] at h2; cases h2
   | some a=>rw[e] at h2; cases h2; rfl
  obtain⟨u,hu,rv⟩:=r.get ha
  have hp:ps[i]? = some y:=by
   rw[← S.pre,List.getElem?_take_of_lt (by lia)]; exact h1
  have ndP:ps.Nodup:=by rw[← S.pre]; exact S.nd.sublist (List.take_sublist _ _)
  refine⟨u,rv,?_⟩
  rcases S.par y (K8 hp) with k | k
  ·exact .inl ⟨k,qK ndP hp hu k⟩
  ·obtain⟨c,e⟩:=uh (n:=s.heap.objs.size+1) k
   refine .inr ⟨.inl k,c,e,?_⟩
   have q:=x.cell y c e
   rw[pA ndP hp hu (by show scope.names.lookup y≠_; rw[k]; decide)] at q
   exact q
 ·exact e0.hok.fresh (Nu (x.above y c (Lp h)))
 ·unfold start
  show _=N.length
  rw[KR,J8,K4]
  lia
theorem FP {CX:CXT} {P:Kq} {w:K1} {K:Ka} {mg:KH->Option Value} {base:Lh} {k:Nat} {f:Addr} {name qual:KH} {params:R6} {body:List Stmt} {scope:Nr} {dV kV doc pm cdv ct oc:Value} {an od:Option Addr}
  {osl:Array (Option Value)} {N ps:List KH} {sp:Sp} (lk:K.lookup f=some ⟨oc,od,.func (N5 name qual params body scope dV kV doc pm an cdv ct),osl⟩) (hcd:Pg K cdv qual=true) (S:aG N ps scope)
  (len:∀ vs H Q E,sp vs H Q E->vs.length=ps.length)
  (hbody:∀ (A:KY) (outer:List QZ) (s:J4) (H:Hp) (vs:List V) (Q:VK) (E:XK),cT k (A.deeper (envOfC qual scope s.heap.objs.size f cdv))->sp vs H Q E →
   ∃ t,PSs (rK CX P w K mg base N qual scope f cdv A outer s H E) body t/\t { nx:=fun _ H'=>Q .non H',rt:=Q } (start N vs) H) :
  bL P w K mg base CX (k+1) f (N5 name qual params body scope dV kV doc pm an cdv ct) ps sp:=by
 refine⟨len,fun A outer s H args us vs Q E hr e0 hb r hsp=>?_⟩
 have hl:=len _ _ _ _ hsp
 have KX:K.In s.heap:=e0.mod.kin.keeps fun b o e=>(e0.bs b o e).1
 have lim:s.heap.NoLimit:=e0.mod.nolimit.keeps fun b o e=>(e0.bs b o e).1
 have hkind:∀ y∈ps.zip us,scope.names.lookup y.1=some .local∨(scope.names.lookup y.1=some .cell/\((cellsFrom (s.heap.objs.size+1) scope.names []).lookup y.1).isSome=true):=fun⟨n,v⟩ hy=>by
  rcases S.par n (RQ hy).1 with q | q
  ·exact .inl q
  ·exact .inr ⟨q,PySem.W.cellsFrom_some _ _ _ (.inl q)⟩
 refine codeAny_call_function hr.depth (KX _ _ lk) rfl S.co S.gen rfl (PySem.W.codeRec_of KX hcd) (hb _ _ _ _ ?_)
 refine wpAny_newFunctionEnv_cells S.kind hkind fun env he s1 x=>?_
 subst he
 refine⟨lim.keeps x.toInCall.keep,codeAny_func ?_⟩
 obtain⟨t,ht,hq⟩:=hbody A outer s H vs Q E (hr.deeper _) hsp
 have I:Inv (rK CX P w K mg base N qual scope f cdv A outer s H E) [] (start N vs) H s1:=qF S hr.hd e0 hl r x
 refine Ln (ht [] s1 (start N vs) H _ I hq) (fun fl s' hs=>?_) fun e s' hs=>hs
 have fin:∀ {σ':St} {H':Hp} {v:V} {u:Value},Inv (rK CX P w K mg base N qual scope f cdv A outer s H E) [] σ' H' s'->RelV v u->Q v H'->CE outer P w H s Q u s' :=
  fun {σ' H' v u} J rv q=>⟨v,H',J.os,J.bare,J.base,J.hok,rv,q⟩
 cases fl with
 | ret u =>
  obtain⟨v,σ',H',J,rv,q⟩:=hs
  exact fin J rv q
 | next =>
  obtain⟨σ',H',J,q⟩:=hs
  exact fin (v:=V.non) (u:=LR) J rfl q
 | brk =>
  obtain⟨_,_,_,q⟩:=hs
  exact K9 q
 | cont =>
  obtain⟨_,_,_,q⟩:=hs
  exact K9 q
end L2
namespace L2
open PySem PySem.Spec PyProof.Rows
section
variable {X:Cx} {x:KH} {p pos:Qs} {e:Expr} {es:List Expr} {t:TA} {id T:String} {r:List V->Hp->VK->Prop}
def tCB (r:List V->Hp->VK->Prop) (t:TA):TE:=fun σ H Q=>t σ H fun vs H1=>r vs H1 Q
theorem aA (hc:jk X (.builtin id) r) (hg:Gl X x) (hm:X.mg x=none) (hv:Lf x=some (.builtin id)) (ha:PA X (e::es) t) (hn:x≠"__name__":=by decide) (hdb:(x == ("__debug__" : KH))=false:=by decide)
  (he:Kr (e::es) X.env=(false,Mp e X.env)::Kr es X.env:=by rfl) (hpl:(Mu pos (Kr es X.env)).any (·.1)=false:=by rfl):PE X (.Call (.Name x p) (e::es) [] pos) (tCB r t):=by
 intro pins s σ H Q I h
 refine Ls (fD I hg hm hv ?_ hn hdb)
 exact TF (thn (ha pos pins s σ H _ I h) fun us s1 ⟨vs,H1,I1,r1,q1⟩=>hc pins s1 σ H1 vs us Q I1 r1 q1) he hpl
theorem fV (hc:jk X (.type T) r) (hg:Gl X x) (hm:X.mg x=none) (hv:Lf x=some (.type T)) (ha:PA X (e::es) t) (hn:x≠"__name__":=by decide) (hdb:(x == ("__debug__" : KH))=false:=by decide)
  (he:Kr (e::es) X.env=(false,Mp e X.env)::Kr es X.env:=by rfl) (hpl:(Mu pos (Kr es X.env)).any (·.1)=false:=by rfl):PE X (.Call (.Name x p) (e::es) [] pos) (tCB r t):=by
 intro pins s σ H Q I h
 refine Ls (fD I hg hm hv ?_ hn hdb)
 exact MP (thn (ha pos pins s σ H _ I h) fun us s1 ⟨vs,H1,I1,r1,q1⟩=>hc pins s1 σ H1 vs us Q I1 r1 q1) he hpl
end
end L2
namespace HT
open PySem PyProof.Rows
section
open PySem.SeqAt
open PySem.AutoSeq1 (wpAny_loadPart')
open PySem.MeetsSeq PySem.MeetsSeq2 PySem.MeetsSeq3
end
section
variable {prog:Kq} {w:K1} {A:KY} {E:Value->J4->Prop} {s:J4}
theorem Ey {t b:Addr} {vs ws:List Value} {Q:Value->J4->Prop} (ht:IsTup s.heap t vs.toArray) (hb:IsTup s.heap b ws.toArray) (hv:vs≠[])
  (h1:ws=[]->Q (.ref t) s) (h2:ws≠[]->Q (.ref s.heap.objs.size) { s with heap:=s.heap.push { cls:=.type "tuple",data:=.seq (vs++ws).toArray } })
  (hsz:vs.length+ws.length<=sizeLine):Ke (Kl prog w) A (PJ .Add (.ref t) (.ref b)) Q E s:=by
 obtain⟨⟨cls,dd,data,sl⟩,ho,hc,n,hd⟩:=id ht
 obtain⟨⟨cls2,dd2,data2,sl2⟩,ho2,hc2,n2,hd2⟩:=id hb
 simp only at hc hd hc2 hd2
 subst hc hd hc2 hd2
 have e:vs.toArray++ws.toArray=(vs++ws).toArray:=by simp
 by_cases hw:ws=[]
 ·exact concat_meets ⟨_,ho,rfl⟩ ⟨_,ho2,rfl⟩ Tw seq_tuple_add Rv Rr (Rk _ _)
   (tuple_addW1 t b vs.toArray ws.toArray n n2 dd dd2 sl sl2 (by simpa using hv) (by simp [hw])) ⟨ho,ho2,h1 hw⟩
 ·refine concat_meets ⟨_,ho,rfl⟩ ⟨_,ho2,rfl⟩ Tw seq_tuple_add Rv Rr (Rk _ _)
   (tuple_addW2 t b vs.toArray ws.toArray n n2 dd dd2 sl sl2 (by simpa using hv) (by simpa using hw) (by rw[Km,Km]; exact hsz)) ⟨ho,ho2,?_⟩
  rw[e]
  exact h2 hw
def sIx (n d:Nat):Option Int->Nat
 | none=>d
 | some v=>if v < 0 then (v+(n:Int)).toNat else min v.toNat n
end
end HT
namespace L2
open PySem PySem.Spec PyProof.Rows
abbrev TO:=St->Hp->(Option Int->Hp->Prop)->Prop
def PO (X:Cx) (e:Option Expr) (t:TO):Prop :=
 ∀ (pins:List (Addr × NB)) (s:J4) (σ:St) (H:Hp) (Q:Option Int->Hp->Prop),Inv X pins σ H s->t σ H Q →
  Ke (Kl X.prog X.w) X.A (evalPart e X.env) (fun u s'=>∃ o H',Inv X pins σ H' s'/\IsPart u o/\Q o H') X.xe s
def Eo:TO:=fun _ H Q=>Q none H
def Ji (t:TE):TO:=fun σ H Q=>t σ H fun x H1=>∃ i,x = .int i/\Q (some i) H1
theorem intsAre_of {ns:List Int}:∀ {us:List Value},Vals (ns.map V.int) us->Mi us ns:=by
 induction ns with
 | nil=>intro us r; rw[Ti] at r; cases r; exact .nil
 | cons n ns ih =>
  intro us r
  rw[Ni] at r
  cases r with
  | cons r1 r2 =>
   obtain⟨t,e⟩:=r1
   subst e
   exact .cons n t (ih r2)
section
variable {X:Cx} {e:Expr} {te:TE} {lo hi:Option Expr} {tl th:TO} {pos p2:Qs}
theorem yt:PO X none Eo:=by
 intro pins s σ H Q I h
 rw[evalPart_none]
 exact J7 ⟨none,H,I,.none,h⟩
theorem yR (h:PE X e te):PO X (some e) (Ji te):=by
 intro pins s σ H Q I hw
 rw[evalPart_some]
 refine thn (h pins s σ H _ I hw) fun u s1 ⟨x,H1,I1,r1,q1⟩=>?_
 obtain⟨i,rfl,q⟩:=q1
 obtain⟨t,rfl⟩:=r1
 exact⟨some i,H1,I1,.int i t,q⟩
def SlR (X:Cx) (r:V->Option Int->Option Int->Hp->VK->Prop):Prop :=
 ∀ (pins:List (Addr × NB)) (s:J4) (σ:St) (H:Hp) (x:V) (v vl vu:Value) (lo hi:Option Int) (sl:Addr) (Q:VK),Inv X pins σ H s->RelV x v->s.heap.IsSliceOf sl vl vu .none->IsPart vl lo->IsPart vu hi->r x lo hi H Q →
  ∃ T id,Ru (.type T) "__getitem__" = pure (some (.builtin id))/\s.TypeIs v T/\Ke (Kl X.prog X.w) X.A (getItem v (.ref sl)) (EP X pins σ Q) X.xe s
def tSl (r:V->Option Int->Option Int->Hp->VK->Prop) (te:TE) (tl th:TO):TE:=fun σ H Q=>te σ H fun x H1=>tl σ H1 fun l H2=>th σ H2 fun u H3=>r x l u H3 Q
theorem vm {r:V->Option Int->Option Int->Hp->VK->Prop} (hr:SlR X r) (he:PE X e te) (hl:PO X lo tl) (hu:PO X hi th):PE X (.Subscript e (.Slice lo hi none p2) pos) (tSl r te tl th):=by
 intro pins s σ H Q I h
 refine Subscript_ (thn (he pins s σ H _ I h) fun v s1 ⟨x,H1,I1,r1,q1⟩=>?_)
 refine wpAny_Slice (thn (hl pins s1 σ H1 _ I1 q1) fun vl s2 ⟨l,H2,I2,pl,q2⟩=>thn (hu pins s2 σ H2 _ I2 q2) fun vu s3 ⟨u,H3,I3,pu,q3⟩=>?_)
 rw[evalPart_none]
 refine J7 ?_
 have I4:Inv X pins σ H3 { s3 with heap:=s3.heap.push { cls:=.type "slice",data:=.fields #[vl,vu,.none] } }:=I3.kept (t':=s3.toks) fun b ob q=>J6 _ q
 obtain⟨T,id,hT,ht,hg⟩:=hr pins { s3 with heap:=s3.heap.push { cls:=.type "slice",data:=.fields #[vl,vu,.none] } } σ H3 x v vl vu l u s3.heap.objs.size Q I4 r1 (Heap.IsSliceOf.new ..) pl pu q3
 show Ke (Kl X.prog X.w) X.A (subscriptTail e (.Slice lo hi none p2) v (.ref s3.heap.objs.size)) (EP X pins σ Q) X.xe { s3 with heap:=s3.heap.push { cls:=.type "slice",data:=.fields #[vl,vu,.none] } }
 exact tail_any (ops:=[.ref s3.heap.objs.size,v]) ht hT hg (by with_unfolding_all rfl)
def Gf (xs:List V) (lo hi:Option Int):List V:=(xs.drop (HT.sIx xs.length 0 lo)).take (HT.sIx xs.length xs.length hi - HT.sIx xs.length 0 lo)
theorem rY (xs:List V) (lo hi:Option Int):(Gf xs lo hi).length<=xs.length:=by
 unfold Gf
 rw[Lk,TV]
 lia
def Iw (K:Ka):R2:=fun x y H Q=>∃ a b xs ys,x = .ref a/\y = .ref b/\SqT K H a xs/\SqT K H b ys/\xs≠[]/\xs.length+ys.length<=sizeLine ∧
 (ys=[]->Q (.ref a) H)/\(ys≠[]->∀ p,H p=none->Q (.ref p) (upd H p (.tup (xs++ys))))
theorem Vals.sY {xs:List V} {us:List Value} (r:Vals xs us):us=[] ↔ xs=[]:=by
 cases r with
 | nil=>simp
 | cons _ _=>simp
theorem Fy:OpR X (PJ .Add) (Iw X.K):=by
 intro pins s σ H x y v u Q I rx ry h
 obtain⟨a,b,xs,ys,rfl,rfl,ha,hb,hx,hz,q1,q2⟩:=h
 cases rx
 cases ry
 obtain⟨its,r1,p1,_⟩:=I.tuple ha
 obtain⟨its2,r2,p2,_⟩:=I.tuple hb
 refine HT.Ey p1 p2 (fun z=>hx (r1.sY.mp z)) (fun z=>⟨.ref a,H,I,rfl,q1 (r2.sY.mp z)⟩) (fun z=>?_) (by rw[← r1.length,← r2.length]; exact hz)
 refine⟨.ref s.heap.objs.size,_,I.laid (t':=s.toks) (o:=.tup (xs++ys)) (fun b ob q=>J6 _ q) (Kc _) ?_,rfl,q2 (fun w=>z (r2.sY.mpr w)) _ (I.hok.fresh (Kc _))⟩
 exact⟨by rw[KR]; exact hz,_,r1.append r2,IsTup.new _ _⟩
end
end L2
namespace L2
open PySem PySem.Spec PyProof.Rows
def ixN (n:Nat) (i:Int):Option Nat:=if 0<=i then (if i < n then some i.toNat else none) else if -(n:Int)<=i then some (i+n).toNat else none
def atI {α:Type} (xs:List α) (i:Int):Option α:=(ixN xs.length i).bind fun j=>xs[j]?
theorem Eh {n:Nat} {i:Int} {j:Nat} (h:ixN n i=some j):Tv i n=some j/\j < n/\-(n:Int)<=i/\i < n:=by
 unfold ixN at h
 by_cases h0:0<=i
 ·rw[if_pos h0] at h
  by_cases h1:i < n
  ·rw[if_pos h1] at h
   have e:i.toNat=j:=La h
   exact⟨by rw[seqIndex_of h0 h1,e],by lia,by lia,h1⟩
  ·rw[if_neg h1] at h; cases h
 ·rw[if_neg h0] at h
  by_cases h1 : -(n:Int)<=i
  ·rw[if_pos h1] at h
   have e:(i+n).toNat=j:=La h
   exact⟨by rw[seqIndex_neg (by lia) h1,e],by lia,h1,by lia⟩
  ·rw[if_neg h1] at h; cases h
theorem sr {α:Type} {xs:List α} {i:Int} {v:α} (h:atI xs i=some v):∃ j,Tv i xs.length=some j/\xs[j]? = some v/\j < xs.length/\-(xs.length:Int)<=i/\i < xs.length:=by
 unfold atI at h
 cases e:ixN xs.length i with
 | none=>rw[e] at h; cases h
 | some j =>
  rw[e] at h
  obtain⟨h1,h2,h3,h4⟩:=Eh e
  exact⟨j,h1,h,h2,h3,h4⟩
theorem jq {α:Type} {xs:List α} {j:Nat} {v:α} (h:xs[j]? = some v):atI xs (j:Int)=some v:=by
 have hj:j < xs.length:=(List.getElem?_eq_some_iff.mp h).1
 have e:ixN xs.length (j:Int)=some j:=by
  unfold ixN
  rw[if_pos (by lia),if_pos (by lia)]; simp
 unfold atI; rw[e]; exact h
def Fp (b:Expr):Prop:=∀ o i,subscripted b false o i=operate [o,i] (getItem o i)
def IxR (X:Cx) (r:R2):Prop :=
 ∀ (value slice:Expr) (pins:List (Addr × NB)) (s:J4) (σ:St) (H:Hp) (x y:V) (v u:Value) (Q:VK),Inv X pins σ H s->RelV x v->RelV y u->r x y H Q →
  subscripted slice false v u=operate [v,u] (getItem v u)->Ke (Kl X.prog X.w) X.A (subscriptTail value slice v u) (EP X pins σ Q) X.xe s
def MtR (X:Cx) (id:String) (r:V->List V->Hp->VK->Prop):Prop :=
 ∀ (pins:List (Addr × NB)) (s:J4) (σ:St) (H:Hp) (x:V) (xs:List V) (v:Value) (us:List Value) (Q:VK),Inv X pins σ H s->RelV x v->Vals xs us->r x xs H Q →
  Ke (Kl X.prog X.w) X.A (call (.builtin id) (v::us)) (EP X pins σ Q) X.xe s
section
variable {X:Cx} {a b:Expr} {ta tb:TE} {pos:Qs}
theorem IxR.or {r r':R2} (h:IxR X r) (h':IxR X r'):IxR X (fun x y H Q=>r x y H Q∨r' x y H Q):=by
 intro value slice pins s σ H x y v u Q I rx ry q hs
 rcases q with q | q
 ·exact h value slice pins s σ H x y v u Q I rx ry q hs
 ·exact h' value slice pins s σ H x y v u Q I rx ry q hs
theorem bK {r:R2} (hr:IxR X r) (ha:PE X a ta) (hb:PE X b tb) (hs:Fp b):PE X (.Subscript a b pos) (tOp r ta tb):=by
 intro pins s σ H Q I h
 exact Subscript_ (Jo ha hb I h fun v u s2 x y H2 I2 rx ry q=>hr a b pins s2 σ H2 x y v u Q I2 rx ry q (hs _ _))
inductive GQ (K:Ka) (x:V) (y:V) (H:Hp) (Q:VK):Prop where
 | mk (p:Addr) (xs:List V) (i:Int) (v:V) (z0:x = .ref p) (z1:y = .int i) (z2:SqL K H p xs) (z3:atI xs i=some v) (z4:Q v H):GQ K x y H Q
def An (K:Ka):R2:=fun x y H Q=>GQ K x y H Q
inductive Ib (K:Ka) (x:V) (y:V) (H:Hp) (Q:VK):Prop where
 | mk (p:Addr) (xs:List V) (i:Int) (v:V) (z0:x = .ref p) (z1:y = .int i) (z2:SqT K H p xs) (z3:atI xs i=some v) (z4:Q v H):Ib K x y H Q
def gB (K:Ka):R2:=fun x y H Q=>Ib K x y H Q
def Jq:R2:=fun x y H Q=>∃ z i c,x = .str z/\y = .int i/\z.length<=sizeLine/\atI z.cps.toList i=some c/\Q (.str ⟨#[c]⟩) H
theorem gU:IxR X (An X.K):=by
 intro value slice pins s σ H x y v u Q I rx ry h hs
 obtain⟨p,xs,i,z,rfl,rfl,hq,he,q⟩:=h
 cases rx
 obtain⟨t,rfl⟩:=ry
 obtain⟨its,r,pl,hz⟩:=I.list hq
 obtain⟨j,h1,h2,h3,h4,h5⟩:=sr he
 obtain⟨w,ew,rw'⟩:=r.get h2
 have hl:=r.length
 have hn:=pD
 have fin:EP X pins σ Q w s:=⟨z,H,I,rw',q⟩
 by_cases h0:0<=i
 ·have hj:i.toNat=j:=by
   rw[seqIndex_of h0 h5] at h1
   exact La h1
  exact item_listR pl.isList h0 (by lia) (by rw[hj]; simpa using ew) fin hs
 ·have hj:(i+(its.toArray.size:Int)).toNat=j:=by
   rw[seqIndex_neg (by lia) h4] at h1
   rw[Km,← hl]
   exact La h1
  exact subscriptTail_builtinR (x:=w) pl.isList.typeIs slot_list_getitem.lookup
   (wpAny_getItem_list_neg (Q:=fun r s'=>r=w/\EP X pins σ Q r s') pl.isList (by lia) (by rw[Km] <;> lia) (by lia) (by rw[hj]; simpa using ew) ⟨rfl,fin⟩) hs
theorem bz:IxR X (gB X.K):=by
 intro value slice pins s σ H x y v u Q I rx ry h hs
 obtain⟨p,xs,i,z,rfl,rfl,hq,he,q⟩:=h
 cases rx
 obtain⟨t,rfl⟩:=ry
 obtain⟨its,r,pl,hz⟩:=I.tuple hq
 obtain⟨j,h1,h2,h3,h4,h5⟩:=sr he
 obtain⟨w,ew,rw'⟩:=r.get h2
 have hl:=r.length
 have hn:=pD
 have fin:EP X pins σ Q w s:=⟨z,H,I,rw',q⟩
 exact subscriptTail_builtinR (x:=w) pl.typeIs slot_tuple_getitem.lookup
  (getItem_tuple (j:=j) (Q:=fun r s'=>r=w/\EP X pins σ Q r s') pl (by lia) (by lia) (by rw[Km,← hl]; exact h1) (by simpa using ew) ⟨rfl,fin⟩) hs
theorem Ih:IxR X Jq:=by
 intro value slice pins s σ H x y v u Q I rx ry h hs
 obtain⟨z,i,c,rfl,rfl,hz,he,q⟩:=h
 obtain⟨t,rfl⟩:=rx
 obtain⟨t',rfl⟩:=ry
 obtain⟨j,h1,h2,h3,h4,h5⟩:=sr he
 have hl:z.cps.toList.length=z.length:=by simp [Str.length]
 rw[hl] at h1 h4 h5
 have hn:=pD
 exact tail_any (typeIs_str s z t) slot_str_getitem.lookup (getItem_str (c:=c) (by
  have e1:decide (i < -(2 ^ 63:Int))=false:=decide_eq_false (by lia)
  have e2:decide (i ≥ 2 ^ 63)=false:=decide_eq_false (by lia)
  rw[e1,e2,Bool.or_false]) (by rw[h1]; simpa using h2) ⟨.str ⟨#[c]⟩,H,I.tok _,⟨_,rfl⟩,q⟩) hs
def rIx (K:Ka):R2:=fun x y H Q=>An K x y H Q∨gB K x y H Q∨Jq x y H Q
theorem Dk:IxR X (rIx X.K):=gU.or (bz.or Ih)
theorem rG (lo hi:Option Int) (n:Nat):(Qx lo hi none n).1=((HT.sIx n 0 lo:Nat):Int)/\(Qx lo hi none n).2.1=((HT.sIx n n hi:Nat):Int)/\(Qx lo hi none n).2.2=1:=by
 refine⟨?_,?_,rfl⟩
 ·cases lo with
  | none=>simp [Qx,HT.sIx]
  | some i =>
   simp only[Qx,HT.sIx,Option.getD_none,show (1:Int) > 0 by decide,if_true]
   by_cases h:i < 0
   ·simp only[h,if_true] <;> lia
   ·simp only[h,if_false] <;> lia
 ·cases hi with
  | none=>simp [Qx,HT.sIx]
  | some i =>
   simp only[Qx,HT.sIx,Option.getD_none,show (1:Int) > 0 by decide,if_true]
   by_cases h:i < 0
   ·simp only[h,if_true] <;> lia
   ·simp only[h,if_false] <;> lia
theorem oK (its:List Value) (lo hi:Option Int):slicePick its.toArray lo hi none=((its.drop (HT.sIx its.length 0 lo)).take (HT.sIx its.length its.length hi - HT.sIx its.length 0 lo)).toArray:=by
 obtain⟨h1,h2,h3⟩:=rG lo hi its.toArray.size
 unfold slicePick
 rw[h1,h2,h3]
 simp only[sliceRange_one,pick_run,Km] <;> rfl
inductive HQ (K:Ka) (x:V) (lo:Option Int) (hi:Option Int) (H:Hp) (Q:VK):Prop where
 | mk (a:Addr) (xs:List V) (z0:x = .ref a) (z1:SqL K H a xs) (z2:∀ p,H p=none->Q (.ref p) (upd H p (.lst (Gf xs lo hi)))):HQ K x lo hi H Q
def Jh (K:Ka):V->Option Int->Option Int->Hp->VK->Prop:=fun x lo hi H Q=>HQ K x lo hi H Q
theorem wW:SlR X (Jh X.K):=by
 intro pins s σ H x v vl vu lo hi sl Q I rx hs pl pu h
 obtain⟨a,xs,rfl,hx,q⟩:=h
 cases rx
 obtain⟨its,r,ht,hz⟩:=I.list hx
 have hlen:=r.length
 refine⟨"list",_,slot_list_getitem.lookup,ht.isList.typeIs,?_⟩
 refine wpAny_getItem_list_slice ht.isList hs pl pu .none (by simp) ?_ (by rw[Km] <;> lia)
 rw[oK,← hlen]
 refine⟨.ref s.heap.objs.size,_,I.laid (t':=s.toks) (o:=.lst (Gf xs lo hi)) (fun b ob q=>J6 _ q) (Kc _) ?_,rfl,q _ (I.hok.fresh (Kc _))⟩
 exact⟨K7 (rY xs lo hi) hz,_,0,(r.drop (HT.sIx xs.length 0 lo)).take (HT.sIx xs.length xs.length hi - HT.sIx xs.length 0 lo),Ko _ rfl⟩
def mV:V->Bool
 | .non=>true
 | .bl _=>true
 | .int _=>true
 | .str _=>true
 | _=>false
def eqV:V->V->Bool
 | .non,.non=>true
 | .bl a,.bl b=>a == b
 | .bl a,.int b=>(if a then 1 else 0) == b
 | .int a,.bl b=>a == (if b then 1 else 0)
 | .int a,.int b=>a == b
 | .str a,.str b=>a == b
 | _,_=>false
theorem Ij {A:KY} {s:J4} {y x:V} {u v:Value} (ry:RelV y u) (rx:RelV x v) (fy:mV y=true) (fx:mV x=true):SJ A s u v (eqV y x):=by
 cases y with
 | non =>
  cases ry
  cases x with
  | non=>cases rx; exact RL _
  | bl b=>cases rx; exact SeqAt.EqAt.none_bool b
  | int b=>obtain⟨t,rfl⟩:=rx; exact SeqAt.EqAt.none_int b t
  | str b=>obtain⟨t,rfl⟩:=rx; exact SeqAt.EqAt.none_str b t
  | _=>exact absurd (show false=true from fx) J9
 | bl a =>
  cases ry
  cases x with
  | non=>cases rx; exact SeqAt.EqAt.bool_none a
  | bl b=>cases rx; exact SeqAt.EqAt.bool_bool a b
  | int b=>obtain⟨t,rfl⟩:=rx; exact SeqAt.EqAt.bool_int a b t
  | str b=>obtain⟨t,rfl⟩:=rx; exact SeqAt.EqAt.bool_str a b t
  | _=>exact absurd (show false=true from fx) J9
 | int a =>
  obtain⟨t',rfl⟩:=ry
  cases x with
  | non=>cases rx; exact SeqAt.EqAt.int_none a t'
  | bl b=>cases rx; exact SeqAt.EqAt.int_bool a t' b
  | int b=>obtain⟨t,rfl⟩:=rx; exact SeqAt.EqAt.int_int a t' b t
  | str b=>obtain⟨t,rfl⟩:=rx; exact Sy a t' b t
  | _=>exact absurd (show false=true from fx) J9
 | str a =>
  obtain⟨t',rfl⟩:=ry
  cases x with
  | non=>cases rx; exact SeqAt.EqAt.str_none a t'
  | bl b=>cases rx; exact SeqAt.EqAt.str_bool a t' b
  | int b=>obtain⟨t,rfl⟩:=rx; exact Sw a t' b t
  | str b=>obtain⟨t,rfl⟩:=rx; exact SeqAt.EqAt.str_str a t' b t
  | _=>exact absurd (show false=true from fx) J9
 | _=>exact absurd (show false=true from fy) J9
def eqU (x:V) (u:Value):Bool:=match u with
 | .none=>eqV .non x
 | .bool b=>eqV (.bl b) x
 | .int i _=>eqV (.int i) x
 | .str z _=>eqV (.str z) x
 | _=>false
theorem Dr {x y:V} {u:Value} (r:RelV y u) (f:mV y=true):eqU x u=eqV y x:=by
 cases y with
 | non=>cases r; rfl
 | bl b=>cases r; rfl
 | int i=>obtain⟨t,rfl⟩:=r; rfl
 | str z=>obtain⟨t,rfl⟩:=r; rfl
 | _=>exact absurd (show false=true from f) J9
theorem lZ {x:V}:∀ {xs:List V} {us:List Value},Vals xs us->xs.all mV=true->us.any (eqU x)=xs.any fun y=>eqV y x
 | _,_,.nil,_=>rfl
 | y::xs,u::us,.cons r t,f=>by
  rw[Qw,Mr] at f
  rw[List.any_cons,List.any_cons,Dr r f.1,lZ t f.2]
theorem iU {A:KY} {s:J4} {x:V} {v:Value} (rx:RelV x v) (fx:mV x=true):∀ {xs:List V} {us:List Value},Vals xs us->xs.all mV=true->∀ u∈us,SJ A s u v (eqU x u)
 | _,_,.nil,_=>fun u hu=>by cases hu
 | y::xs,u::us,.cons r t,f=>fun u' hu=>by
  rw[Qw,Mr] at f
  rcases List.mem_cons.mp hu with rfl | hu
  ·rw[Dr r f.1]; exact Ij r rx f.1 fx
  ·exact iU rx fx t f.2 u' hu
def inV (x:V) (xs:List V):Bool:=xs.any fun y=>eqV y x
inductive Jw (K:Ka) (neg:Bool) (x:V) (y:V) (H:Hp) (Q:VK):Prop where
 | mk (p:Addr) (xs:List V) (z0:y = .ref p) (z1:(SqL K H p xs∨SqT K H p xs)) (z2:mV x=true) (z3:xs.all mV=true) (z4:Q (.bl (if neg then !inV x xs else inV x xs)) H):Jw K neg x y H Q
def rIn (K:Ka) (neg:Bool):R2:=fun x y H Q=>Jw K neg x y H Q
theorem jb:OpR X (Oe .In) (rIn X.K false):=by
 intro pins s σ H x y v u Q I rx ry h
 obtain⟨p,xs,rfl,hq,fx,fs,q⟩:=h
 cases ry
 rcases hq with hq | hq
 ·obtain⟨its,r,pl,hz⟩:=I.list hq
  refine SeqAt.in_listAt (eqU x) pl.isList (fun w hw=>iU rx fx r fs w (by simpa using hw)) ⟨.bl _,H,I,rfl,?_⟩
  rw[show its.toArray.any (eqU x)=its.any (eqU x) by simp,lZ r fs]
  exact q
 ·obtain⟨its,r,pl,hz⟩:=I.tuple hq
  refine SeqAt.in_tupleAt (eqU x) pl (fun w hw=>iU rx fx r fs w (by simpa using hw)) ⟨.bl _,H,I,rfl,?_⟩
  rw[show its.toArray.any (eqU x)=its.any (eqU x) by simp,lZ r fs]
  exact q
theorem fZ:OpR X (Oe .NotIn) (rIn X.K true):=by
 intro pins s σ H x y v u Q I rx ry h
 obtain⟨p,xs,rfl,hq,fx,fs,q⟩:=h
 cases ry
 rcases hq with hq | hq
 ·obtain⟨its,r,pl,hz⟩:=I.list hq
  refine SeqAt.notIn_listAt (eqU x) pl.isList (fun w hw=>iU rx fx r fs w (by simpa using hw)) ⟨.bl _,H,I,rfl,?_⟩
  rw[show its.toArray.any (eqU x)=its.any (eqU x) by simp,lZ r fs]
  exact q
 ·obtain⟨its,r,pl,hz⟩:=I.tuple hq
  refine SeqAt.notIn_tupleAt (eqU x) pl (fun w hw=>iU rx fx r fs w (by simpa using hw)) ⟨.bl _,H,I,rfl,?_⟩
  rw[show its.toArray.any (eqU x)=its.any (eqU x) by simp,lZ r fs]
  exact q
theorem qY:jk X (.builtin "len") (fun xs H Q=>∃ p ys,xs=[.ref p]/\(SqL X.K H p ys∨SqT X.K H p ys)/\Q (.int ys.length) H):=by
 intro pins s σ H xs us Q I r h
 obtain⟨p,ys,rfl,hq,q⟩:=h
 obtain⟨u,rfl,rx⟩:=vals1 r
 cases rx
 have hn:=pD
 rcases hq with hq | hq
 ·obtain⟨its,r',pl,hz⟩:=I.list hq
  have hlen:=r'.length
  exact Calls.call_len_list pl.isList (by simp only[Km] <;> lia) ⟨.int ys.length,H,I.tok _,⟨s.toks+1,by rw[Km,hlen]⟩,q⟩
 ·obtain⟨its,r',pl,hz⟩:=I.tuple hq
  have hlen:=r'.length
  exact len_tuple pl (by simp only[Km] <;> lia) ⟨.int ys.length,H,I.tok _,⟨s.toks+1,by rw[Km,hlen]⟩,q⟩
theorem pH:jk X (.type "list") (fun xs H Q=>∃ p ys,xs=[.ref p]/\(SqL X.K H p ys∨SqT X.K H p ys)/\∀ l,H l=none->Q (.ref l) (upd H l (.lst ys))):=by
 intro pins s σ H xs us Q I r h
 obtain⟨p,ys,rfl,hq,q⟩:=h
 obtain⟨u,rfl,rx⟩:=vals1 r
 cases rx
 have fin:∀ (its:List Value),Vals ys its->ys.length<=sizeLine->∀ (h':Lh) (c':Nat),(∀ b o',s.heap.get? b=some o'->h'.get? b=some o') →
   h'.get? s.heap.objs.size=some { cls:=.type "list",dict:=none,data:=.seq its.toArray c',slots:=#[] }->EP X pins σ Q (.ref s.heap.objs.size) { s with heap:=h' }:=fun its r' hz h' c' kp e =>
  ⟨.ref s.heap.objs.size,_,I.laid (t':=s.toks) kp (Kc _) (show dw X.prog X.w _ h' _ (.lst ys) from ⟨hz,its,c',r',e⟩),rfl,q _ (I.hok.fresh (Kc _))⟩
 rcases hq with hq | hq
 ·obtain⟨its,r',pl,hz⟩:=I.list hq
  have hlen:=r'.length
  obtain⟨o,ho,hc,n,hd⟩:=pl.isList
  exact call_list_seq p (.inl rfl) ho hc hd (fun h' c' kp e=>fin its r' hz h' c' kp e) (by simp only[Km] <;> lia)
 ·obtain⟨its,r',pl,hz⟩:=I.tuple hq
  have hlen:=r'.length
  obtain⟨o,ho,hc,n,hd⟩:=pl
  exact call_list_seq p (.inr rfl) ho hc hd (fun h' c' kp e=>fin its r' hz h' c' kp e) (by simp only[Km] <;> lia)
theorem oG:jk X (.type "tuple") (fun xs H Q=>∃ p ys,xs=[.ref p]/\((SqL X.K H p ys/\∀ l,H l=none->Q (.ref l) (upd H l (.tup ys)))∨(SqT X.K H p ys/\Q (.ref p) H))):=by
 intro pins s σ H xs us Q I r h
 obtain⟨p,ys,rfl,h⟩:=h
 obtain⟨u,rfl,rx⟩:=vals1 r
 cases rx
 rcases h with⟨hq,q⟩ | ⟨hq,q⟩
 ·obtain⟨its,r',pl,hz⟩:=I.list hq
  have hlen:=r'.length
  refine call_tuple_list pl.isList (fun h' kp=>?_) (by simp only[Km] <;> lia)
  have I1:Inv X pins σ H { s with heap:=h' }:=I.kept (t':=s.toks) kp
  have I2:Inv X pins σ (upd H h'.objs.size (.tup ys)) { s with heap:=h'.push { cls:=.type "tuple",data:=.seq its.toArray } } :=
   I1.laid (t':=s.toks) (fun b o e=>J6 _ e) (Kc _) (show dw X.prog X.w _ _ _ (.tup ys) from ⟨hz,its,r',IsTup.new _ _⟩)
  exact⟨.ref h'.objs.size,_,I2,rfl,q _ (I1.hok.fresh (Kc _))⟩
 ·obtain⟨its,r',pl,hz⟩:=I.tuple hq
  exact call_tuple_same pl ⟨.ref p,H,I,rfl,q⟩
def tyV (K:Ka) (T:String) (x:V) (H:Hp):Prop:=match x with
 | .str _=>T = "str"
 | .int _=>T = "int"
 | .ref p=>(T = "list"/\∃ xs,SqL K H p xs)∨(T = "tuple"/\∃ o,K.lookup p=some o/\o.cls = .type "tuple"/\o.dict=none) ∨
   (T = "dict"/\((∃ kvs,H p=some (.dK kvs))∨∃ kvs,H p=some (.dT kvs)))∨(T = "set"/\∃ S n,H p=some (.set S n))
 | _=>False
theorem Gj {pins:List (Addr × NB)} {σ:St} {H:Hp} {s:J4} {T:String} {x:V} {v:Value} (I:Inv X pins σ H s) (r:RelV x v) (ty:tyV X.K T x H) :
  s.TypeIs v T/\∀ a,v = .ref a->∃ ob,s.heap.get? a=some ob/\ob.dict=none:=by
 cases x with
 | str z =>
  obtain⟨t,rfl⟩:=r
  cases (show T = "str" from ty)
  exact⟨typeIs_str s z t,fun _ e=>nomatch e⟩
 | int i =>
  obtain⟨t,rfl⟩:=r
  cases (show T = "int" from ty)
  exact⟨typeIs_int s i t,fun _ e=>nomatch e⟩
 | ref p =>
  cases r
  rcases ty with⟨rfl,xs,hq⟩ | ⟨rfl,o,hk,hc,hd⟩ | ⟨rfl,hk⟩ | ⟨rfl,S,n,hk⟩
  ·obtain⟨its,_,pl,_⟩:=I.list hq
   refine⟨pl.isList.typeIs,fun a e=>?_⟩
   cases e
   obtain⟨o,n,e,c,hd,_⟩:=pl
   exact⟨o,e,hd⟩
  ·refine⟨⟨o,I.kIn p o hk,hc⟩,fun a e=>?_⟩
   cases e
   exact⟨o,I.kIn _ o hk,hd⟩
  ·have z:∃ o,s.heap.get? p=some o/\o.ExactDict:=by
    rcases hk with⟨kvs,hk⟩ | ⟨kvs,hk⟩
    ·obtain⟨_,_,_,_,o,_,_,e,ex,_⟩:=I.hok p _ hk
     exact⟨o,e,ex⟩
    ·obtain⟨_,_,_,_,o,_,_,e,ex,_⟩:=I.hok p _ hk
     exact⟨o,e,ex⟩
   obtain⟨o,e,ex⟩:=z
   refine⟨⟨o,e,ex.1⟩,fun a e2=>?_⟩
   cases e2
   exact⟨o,e,ex.2.1⟩
  ·obtain⟨o,_,_,_,e,ex,_⟩:=I.hok p _ hk
   refine⟨⟨o,e,ex.1⟩,fun a e2=>?_⟩
   cases e2
   exact⟨o,e,ex.2.1⟩
 | _=>exact K9 ty
def tBM (K:Ka) (T:String) (r:V->List V->Hp->VK->Prop) (to:TE) (t:TA):TE:=fun σ H Q=>to σ H fun x H1=>tyV K T x H1/\t σ H1 fun xs H2=>r x xs H2 Q
variable {o e:Expr} {es:List Expr} {to:TE} {t:TA} {name:KH} {apos cpos:Qs} {T id:String} {r:V->List V->Hp->VK->Prop}
theorem vC (pa:PlainAttrs T) (slot:Slot T name id) (hty:typeOf (.builtin id)=pure (.type "method_descriptor")) (hm:MtR X id r) (ho:PE X o to) (ha:PA X (e::es) t)
  (hbase:Ri o name X.env (Mp o X.env)=Mp o X.env:=by rfl)
  (hfew:((Mu cpos (Kr (e::es) X.env)).all (fun x=>!x.1) && (QR cpos (O5 [] X.env)).all (fun x=>x.1.isSome)
   && decide ((e::es).length+([]:List Keyword).length+(if ([]:List Keyword).isEmpty then 0 else 1) < 30))=true:=by rfl)
  (hline:(apos.endLine == cpos.line)=true:=by rfl) (hs:Kr (e::es) X.env=(false,Mp e X.env)::Kr es X.env:=by rfl) (hplain:(Mu cpos (Kr es X.env)).any (·.1)=false:=by rfl) :
  PE X (.Call (.Attribute o name apos) (e::es) [] cpos) (tBM X.K T r to t):=by
 intro pins s σ H Q I h
 refine wpAny_Call_method_late hbase hfew hline rfl (thn (ho pins s σ H _ I h) fun v s1 ⟨x,H1,I1,r1,ty,q1⟩=>?_)
 obtain⟨h1,h2⟩:=Gj I1 r1 ty
 refine⟨T,id,pa,slot,hty,h1,h2,?_⟩
 have hA:=ha cpos pins s1 σ H1 _ I1 q1
 rw[hs] at hA ⊢
 refine Calls.callWith_builtin (by show (false || (Mu cpos (Kr es X.env)).any (·.1))=false; rw[hplain] <;> rfl) (Calls.evalArgs_plain ?_)
 exact thn hA fun us s2 ⟨vs,H2,I2,r2,q2⟩=>hm pins s2 σ H2 x vs v us Q I2 r1 r2 q2
/- xs.append(e),list.index on a module's tuple .. are MtR facts of 06m -/
end
end L2
namespace L2
open PySem PySem.Spec PyProof.Rows
def MtM (X:Cx) (id:String) (r:V->List V->Hp->VK->Prop):Prop :=
 ∀ (pins:List (Addr × NB)) (s:J4) (σ:St) (H:Hp) (x:V) (xs:List V) (v:Value) (us:List Value) (Q:VK),Inv X pins σ H s->RelV x v->Vals xs us->r x xs H Q →
  Ke (Kl X.prog X.w) X.A (call (.builtin id) (v::us)) (EP X pins σ Q) X.xe s
theorem Vals.one:∀ {x:V} {us:List Value},Vals [x] us->∃ u,us=[u]/\RelV x u
 | _,_,.cons r .nil=>⟨_,rfl,r⟩
theorem Vals.two:∀ {x y:V} {us:List Value},Vals [x,y] us->∃ u v,us=[u,v]/\RelV x u/\RelV y v
 | _,_,_,.cons r (.cons q .nil)=>⟨_,_,rfl,r,q⟩
theorem Vals.eraseIdx:∀ {xs:List V} {us:List Value} (i:Nat),Vals xs us->Vals (xs.eraseIdx i) (us.eraseIdx i)
 | _,_,_,.nil=>.nil
 | _,_,0,.cons _ t=>t
 | _,_,i+1,.cons r t=>.cons r (Vals.eraseIdx i t)
theorem Vals.rep {xs:List V} {us:List Value} (h:Vals xs us):∀ k:Nat,Vals (Kf k xs).flatten (Kf k us).flatten
 | 0=>.nil
 | k+1=>by
  rw[M7,M7,Qk,Qk]
  exact Vals.append h (Vals.rep h k)
theorem lU {α:Type}:∀ (l:List α) (i:Nat),(l.eraseIdx i).length<=l.length
 | [],_=>Kc _
 | _::_,0=>M9 _
 | _::r,i+1=>TJ (lU r i)
theorem foldl_rep (its:List Value):∀ (k:Nat) (acc:List Value),
  List.foldl (fun x1 x2=>x1++x2) acc.toArray (Kf k its.toArray)=(acc++(Kf k its).flatten).toArray
 | 0,acc=>by simp
 | k+1,acc=>by
  have e:acc.toArray++its.toArray=(acc++its).toArray:=by simp
  have e2:(acc++its)++(Kf k its).flatten=acc++(Kf (k+1) its).flatten:=by
   rw[M7,Qk,Ra]
  rw[← e2,← foldl_rep its k (acc++its),← e,M7,NT]
section
variable {X:Cx} {pins:List (Addr × NB)} {σ:St} {H:Hp} {s:J4} {l b:Addr} {xs ys zs:List V}
theorem Inv.Jd {its its':List Value} {n:Nat} {f:Array Value->Array Value} {t':Nat} (I:Inv X pins σ H s) (hH:H l=some (.lst xs))
  (e:s.heap.get? l=some { cls:=.type "list",data:=.seq its.toArray n }) (hf:f its.toArray=its'.toArray) (hv:Vals ys its') (hz:ys.length<=sizeLine) :
  Inv X pins σ (upd H l (.lst ys)) { s with heap:=s.heap.update l (Qt f),toks:=t' }:=by
 have q:=PySem.IsL.update e f
 rw[hf] at q
 refine I.write (x:=l) (e:=l) (by rw[hH]; exact trivial) (.inl rfl) (fun b' u hb hu=>(Kv s.heap (Qt f) (Mq hb)).trans hu) ⟨_,q⟩ ?_
 exact⟨hz,its',_,hv,q⟩
theorem Inv.Iu {its:List Value} {t':Nat} (I:Inv X pins σ H s) (hv:Vals ys its) (hz:ys.length<=sizeLine) :
  Inv X pins σ (upd H s.heap.objs.size (.lst ys)) { s with heap:=s.heap.push { cls:=.type "list",data:=.seq its.toArray },toks:=t' } :=
 I.laid (fun _ _ q=>J6 _ q) (Kc _) ⟨hz,its,0,hv,Ko _ rfl⟩
theorem Inv.fresh (I:Inv X pins σ H s):H s.heap.objs.size=none:=I.hok.fresh (Kc _)
theorem Inv.Gb (I:Inv X pins σ H s) (hH:H l=some (.lst xs)):xs.length<=sizeLine/\∃ (its:List Value) (n:Nat),Vals xs its/\xs.length=its.length/\s.heap.get? l=some { cls:=.type "list",data:=.seq its.toArray n }:=by
 obtain⟨z,its,n,r,e⟩:=I.hok l _ hH
 exact⟨z,its,n,r,r.length,e⟩
theorem Bo {n:Nat} (h:n<=sizeLine):Rn n=false:=by
 unfold Rn
 exact decide_eq_false (by lia)
end
section
variable {X:Cx}
inductive uQ (x:V) (vs:List V) (H:Hp) (Q:VK):Prop where
 | mk (l:Addr) (xs:List V) (y:V) (z0:x = .ref l) (z1:vs=[y]) (z2:H l=some (.lst xs)) (z3:xs.length < sizeLine) (z4:Q .non (upd H l (.lst (xs++[y])))):uQ  x vs H Q
def ym:V->List V->Hp->VK->Prop:=fun x vs H Q=>uQ  x vs H Q
theorem eE:MtM X "list.append" ym:=by
 intro pins s σ H x vs v us Q I rx rv h
 obtain⟨l,xs,y,rfl,rfl,hH,hz,q⟩:=h
 cases rx
 obtain⟨u,rfl,ru⟩:=rv.one
 obtain⟨z,its,n,r,hl,e⟩:=I.Gb hH
 refine Ss F.slot_list_append ⟨_,e,rfl⟩ F.entry_list_append (F.args_list_append_2 _ _) (PySem.list_append l its.toArray n u (by rw[Km]; lia)) ⟨e,?_⟩
 refine⟨.non,_,I.Jd (its':=its++[u]) hH e (by simp) (r.append (.cons ru .nil)) ?_,rfl,q⟩
 rw[KR,List.length_singleton]
 lia
def zy:V->List V->Hp->VK->Prop:=fun x vs H Q=>∃ l xs i k y,x = .ref l/\vs=[.int i]/\H l=some (.lst xs)/\-(2 ^ 63)<=i/\i < 2 ^ 63/\Tv i xs.length=some k/\xs[k]? = some y/\Q y (upd H l (.lst (xs.eraseIdx k)))
theorem Bj:MtM X "list.pop" zy:=by
 intro pins s σ H x vs v us Q I rx rv h
 obtain⟨l,xs,i,k,y,rfl,rfl,hH,h1,h2,hk,hy,q⟩:=h
 cases rx
 obtain⟨u,rfl,ru⟩:=rv.one
 obtain⟨t,rfl⟩:=ru
 obtain⟨z,its,n,r,hl,e⟩:=I.Gb hH
 obtain⟨w,hw,rw'⟩:=r.get hy
 refine Ss F.slot_list_pop ⟨_,e,rfl⟩ F.entry_list_pop (F.args_list_pop_2 _ _)
  (MeetsSeq.list_pop_at l its.toArray n i t k w (fitsIndex_both h1 h2) (by rw[Km,← hl]; exact hk) (by rw[← Lx]; exact hw) (by rw[Km]; lia)) ⟨e,?_⟩
 refine⟨y,_,I.Jd (its':=its.eraseIdx k) hH e ?_ (r.eraseIdx k) ?_,rw',q⟩
 ·show its.toArray.eraseIdxIfInBounds k=(its.eraseIdx k).toArray
  rw[Tr]
 ·have:=lU xs k
  lia
inductive HF (x:V) (y:V) (H:Hp) (Q:VK):Prop where
 | mk (l:Addr) (b:Addr) (xs:List V) (zs:List V) (z0:x = .ref l) (z1:y = .ref b) (z2:H l=some (.lst xs)) (z3:H b=some (.lst zs)) (z4:xs.length+zs.length<=sizeLine) (z5:∀ p,H p=none->Q (.ref p) (upd H p (.lst (xs++zs)))):HF  x y H Q
def JH:R2:=fun x y H Q=>HF  x y H Q
theorem Gs:OpR X (PJ .Add) JH:=by
 intro pins s σ H x y v u Q I rx ry h
 obtain⟨l,b,xs,zs,rfl,rfl,hH,hB,hz,q⟩:=h
 cases rx
 cases ry
 obtain⟨z,its,n,r,hl,e⟩:=I.Gb hH
 obtain⟨z2,its2,n2,r2,hl2,e2⟩:=I.Gb hB
 refine PySem.P.add_list e e2 ?_ (by rw[Km,Km]; lia)
 have ea:its.toArray++its2.toArray=(its++its2).toArray:=by simp
 rw[ea]
 exact⟨.ref _,_,I.Iu (t':=s.toks) (r.append r2) (by rw[KR]; lia),rfl,q _ I.fresh⟩
def J0:R2:=fun x y H Q=>∃ l k xs,x = .ref l/\y = .int k/\H l=some (.lst xs)/\-(2 ^ 63)<=k/\k < 2 ^ 63/\xs.length * k.toNat<=sizeLine ∧
 ∀ p,H p=none->Q (.ref p) (upd H p (.lst (Kf k.toNat xs).flatten))
theorem len_rep {α:Type} (xs:List α) (k:Nat):(Kf k xs).flatten.length=k * xs.length:=by
 induction k with
 | zero=>simp
 | succ k ih=>rw[M7,Qk,KR,ih,Nat.succ_mul,Nat.add_comm]
theorem Hl:OpR X (PJ .Mult) J0:=by
 intro pins s σ H x y v u Q I rx ry h
 obtain⟨l,k,xs,rfl,rfl,hH,h1,h2,hz,q⟩:=h
 cases rx
 obtain⟨t,rfl⟩:=ry
 obtain⟨z,its,n,r,hl,e⟩:=I.Gb hH
 have hlen:its.toArray.size * k.toNat<=sizeLine:=by rw[Km,← hl]; exact hz
 have hcap:¬ its.toArray.size * k.toNat > (2 ^ 63 - 1) / 8:=by
  have:(sizeLine:Nat)<=(2 ^ 63 - 1) / 8:=by decide
  lia
 have hfit:¬ (!Builtin.List.listFitsIndex k)=true:=by
  rw[fitsIndex_both h1 h2]
  exact J9
 have hlong:¬ Rn (its.toArray.size * k.toNat)=true:=by
  rw[Bo hlen]
  exact J9
 have hnew:List.foldl (fun x1 x2=>x1++x2) #[] (Kf (if its.toArray.isEmpty=true then 0 else k.toNat) its.toArray)=(Kf k.toNat its).flatten.toArray:=by
  have f0:∀ m:Nat,List.foldl (fun x1 x2=>x1++x2) #[] (Kf m its.toArray)=(Kf m its).flatten.toArray:=fun m=>by
   have:=foldl_rep its m []
   rw[List.nil_append] at this
   exact this
  rw[f0]
  cases its with
  | nil=>simp
  | cons a r'=>rw[if_neg (by simp)]
 refine wpAny_binaryOp_repeat_ref (T:="list") (U:="int") (by decide) ⟨_,e,rfl⟩ (fun s'=>typeIs_int s' k t) noFill_list_mul F.fills_int_mul F.slot_int_rmul repeat_list F.slot_int_index.lookup
  (Ss F.slot_int_rmul (typeIs_int s k t) F.entry_int_rmul (F.args_int_rmul_2 _ _) (int___rmul___int_list k t l its.toArray n)
   ⟨e,rfl,⟨_,e,rfl⟩,Ss F.slot_list_mul ⟨_,e,rfl⟩ F.entry_list_mul (F.args_list_mul_2 _ _) (AutoListH.list___mul___list_int_3 l its.toArray n k t hfit hcap hlong) ⟨e,?_⟩⟩)
 rw[hnew]
 exact⟨.ref _,_,I.Iu (t':=s.toks) (r.rep k.toNat) (by rw[len_rep,Nat.mul_comm]; exact hz),rfl,q _ I.fresh⟩
end
section
variable {prog:Kq} {w:K1} {A:KY} {E:Value->J4->Prop} {s:J4}
set_option maxRecDepth 100000 in
end
section
variable {X:Cx}
end
end L2
namespace Att
open PySem PySem.W PySem.Calls PyProof.Rows
theorem lE {P:Params} {h:Lh}:∀ (ns:List Int) (vs:List Value),WellAll P h vs (ns.map WData.int)->Mi vs ns:=by
 intro ns
 induction ns with
 | nil =>
  intro vs w
  rw[Ti] at w
  cases w
  exact .nil
 | cons n ns ih =>
  intro vs w
  rw[Ni] at w
  cases w with
  | cons a b =>
   cases a
   exact .cons _ _ (ih _ b)
theorem zN {l:OpenLaw} {n:Nat} (hn:l.most=some n) {P:Params} {h:Lh} {args:List WData} {vals:List Value}
  (hpre:l.row.toRowW.claim.pre args=true) (hwl:WellAll P h vals args) :
  ∃ a vs ns,vals=[Ku a]/\args=[WData.list (ns.map WData.int)]/\h.get? a=some { cls:=.type "list",data:=.seq vs.toArray }/\Mi vs ns/\ns.length<=n:=by
 have hsh:WShape.hasAll [] args [.list .int]=true:=(pre_splitW hpre).1
 have hc:l.pre.holds [] { args:=args }=true:=(pre_splitW hpre).2
 obtain⟨d,r,rfl,h1,h2⟩:=hasAllW_cons hsh
 obtain rfl:=hasAllW_nil h2
 obtain⟨xs,rfl,h3⟩:=hasW_list h1
 obtain⟨ns,rfl⟩:=items_int h3
 have hlen:ns.length<=n:=by
  unfold OpenLaw.pre at hc
  have h4:(WTm.not (.lt (.lit (.int (n:Int))) (.len (.arg 0)))).holds [] { args:=[.list (ns.map .int)] }=true:=by
   have h4:=(holds_andW hc).1
   rw[hn] at h4
   exact h4
  have h5:=condW_of h4 (w_not (w_lt w_lit (w_len_list (w_arg rfl))))
  rw[J8] at h5
  refine Nat.le_of_not_lt fun q=>?_
  have q':(n:Int) < ((ns.length:Nat):Int):=by lia
  first
   | (rw[decide_eq_true q'] at h5; exact absurd h5 (by decide))
   | (simp at h5; lia)
 cases hwl with
 | cons w1 w2 =>
  cases w2
  cases w1 with
  | list ho hall=>exact⟨_,_,ns,rfl,rfl,ho,lE ns _ hall,hlen⟩
theorem xK (l:OpenLaw) (args:List WData):l.row.toRowW.claim.post args (.bool true) args=true :=
 postW_of (r:=l.row.toRowW) (X:=(true == true))
  (show WShape.has [] (.bool true) .bool=true by first | rfl | decide | simp [WShape.has,WShape.arms,WShape.armsAll])
  (show (WTm.eq .res (.lit (.bool true))).value [] { args:=args,res:=some (.bool true),after:=args }=some (.bool (true == true)) from w_eq_bool (w_res rfl) w_lit) rfl
theorem sX {l:OpenLaw} {n:Nat} {q:Kq} {loose:List KH} {XP:(KH->Option Value)->Lh->Prop} {YP:K1->Lh->Prop} {d:DefRec}
  (hn:l.most=some n) (hdf:d.params.defaults=[])
  (call:∀ (w:K1) (s₀ s₁:J4) (mg mb:KH->Option Value) (fa:Addr) (o:NB) (pm cd doc:Value) (a:Addr) (vs:List Value) (ns:List Int),
   Ground q loose [] XP w s₀ mg mb s₁.heap->YP w s₁.heap →
   s₁.heap.get? fa=some o->o.data = .func (docDef d.name d.params d.body d.scope pm cd doc)->s₁.heap.CodeRec cd d.name->mg d.name=some (.ref fa) →
   s₁.heap.get? a=some { cls:=.type "list",data:=.seq vs.toArray }->Mi vs ns->ns.length<=n->s₁.gens = #[] →
   LQ (Kl l.prog w) S7 (.call (.ref fa) ⟨[.ref a],[]⟩) (fun r s'=>r = .ok (.ret (.bool true))/\OldK s₁.heap s'.heap/\s'.os=s₁.os/\Rf s'.gens) s₁) :
  WalkO q loose XP YP l.row.toRowW d [] (fun f vs=>PySem.call f vs):=by
 intro w s₀ s₁ mg mb G Y fa o pm cd doc dV kV ho hd hcd hD hmg hg args vals as hpre hlay hrd hwl hlo
 obtain rfl:dV = .none:=Dflts.none hD hdf
 obtain rfl:kV = .none:=Dflts.noKw hD
 obtain⟨a,vs,ns,rfl,rfl,hobj,hints,hlen⟩:=zN hn hpre hwl
 refine enter_call (Nt (call w s₀ s₁ mg mb fa o pm cd doc a vs ns G Y ho (fd_plain hd) hcd hmg hobj hints hlen hg) fun r s' hq=>?_)
 obtain⟨rfl,h2,h3,h4⟩:=hq
 exact⟨.inl ⟨.bool true,.bool true,[],rfl,fun _=>rfl,.bool true,xK l _,fun _=>⟨Tn,fun _ hm=>(nomatch hm)⟩⟩,h2,h3,h4⟩
section
variable {prog:Kq} {w:K1} {A:KY} {E:Value->J4->Prop} {s:J4} {K:Frag}
theorem Fi {R:QT->J4->Prop} {name qual:KH} {params:R6} {body:List Stmt} {scope:Nr} {dV kV doc pm cdv ct oc:Value} {an od:Option Addr} {osl:Array (Option Value)} {f:Addr} {args:Args} {binds:List (KH × Value)}
  (X:K.In s.heap) (hlim:s.heap.NoLimit) (ho:K.lookup f=some ⟨oc,od,.func (fnOf name qual params body scope dV kV doc pm an cdv ct),osl⟩) (hcd:codeIn K cdv qual=true) (hroom:A.depth < recursionLimit)
  (hbind:Rz s (fnOf name qual params body scope dV kV doc pm an cdv ct) args binds)
  (hkind:(binds.all fun y=>scope.names.lookup y.1 == some .local || scope.names.lookup y.1 == some .cell)=true)
  (h:∀ s₁,InCallC s s.heap.objs.size (bindL (envOfC qual scope s.heap.objs.size f cdv).kindOf binds fun _=>none) (cellsFrom (s.heap.objs.size+1) scope.names [])
    (bindC (envOfC qual scope s.heap.objs.size f cdv).kindOf binds fun _=>none) s₁ →
   Ke (Kl prog w) (A.deeper (envOfC qual scope s.heap.objs.size f cdv)) (execs body (envOfC qual scope s.heap.objs.size f cdv))
    (fun fl s'=>R (.ok (.ret (match fl with | .ret v=>v | _=>.none))) s')
    (fun e s'=>Ke (Kl prog w) (A.deeper (envOfC qual scope s.heap.objs.size f cdv)) (Q8 (envOfC qual scope s.heap.objs.size f cdv) e) (fun _ s''=>R (.error e) s'') (fun e' s''=>R (.error e') s'') s') s₁)
  (hco:scope.isCoroutine=false) (hgen:scope.isGenerator=false) (hk:scope.kind = .function):LQ (Kl prog w) A (.call (.ref f) args) R s:=by
 refine codeAny_call_function hroom (X _ _ ho) rfl hco hgen rfl (codeRec_of X hcd) (hbind _ _ _ _ ?_)
 refine wpAny_newFunctionEnv_cells hk (kindsX hkind _) fun env he s₁ x=>?_
 subst he
 exact⟨hlim.keeps x.toInCall.keep,codeAny_func (h s₁ x)⟩
end
end Att
namespace L2
open PySem PySem.Spec PyProof.Rows
theorem iV:∀ {vs:List Value} {ns:List Int},Mi vs ns->Vals (ns.map V.int) vs
 | _,_,.nil=>.nil
 | _,_,.cons n t h=>.cons ⟨t,rfl⟩ (iV h)
end L2
namespace L2
open PySem PySem.Spec PyProof.Rows
end L2
namespace L2
open PySem PySem.Spec PyProof.Rows
def inClass (s:Stmt) (j:Nat):Stmt:=match s with
 | .ClassDef _ _ _ body _ _ _ _ _ _ _=>body.getD j (.Pass ⟨0,0,0,0⟩)
 | _=>.Pass ⟨0,0,0,0⟩
def bU (s:Stmt):R6:=match s with
 | .FunctionDef _ a _ _ _ _ _ _ _ _=>a
 | _=>{ posonlyargs:=[],args:=[],vararg:=none,kwonlyargs:=[],kw_defaults:=[],kwarg:=none,defaults:=[] }
def bw (s:Stmt):List Stmt:=match s with
 | .FunctionDef _ _ b _ _ _ _ _ _ _=>b
 | _=>[]
def au (s:Stmt):Nr:=match s with
 | .FunctionDef _ _ _ _ _ _ sc _ _ _=>sc
 | _=>{ kind:=.function,names:=[],isGenerator:=false,isCoroutine:=false }
abbrev CX0:CXT:=fun _ _ _ _ _ _=>False
abbrev E0:XK:=fun _ _ _=>False
theorem mL {X:Cx}:Passes CX0 X E0:=fun _ _ _ _ _ _ _ h=>h.elim
structure Fun (K:Ka) (x qual:KH) (st:Stmt) (f:Addr) (fd:LK):Prop where
 ex:∃ (oc:Value) (od:Option Addr) (kV doc pm:Value) (an:Option Addr) (cdv ct:Value) (osl:Array (Option Value)),
  fd=N5 x qual (bU st) (bw st) (au st) .none kV doc pm an cdv ct/\K.lookup f=some ⟨oc,od,.func fd,osl⟩/\Pg K cdv qual=true
 kp:Ml K (.ref f)=true
section
variable {P:Kq} {w:K1} {K:Ka} {mg:KH->Option Value} {base:Lh}
theorem Fun.ok {x qual:KH} {st:Stmt} {f:Addr} {fd:LK} {N ps:List KH} {k:Nat} {sp:Sp} (F:Fun K x qual st f fd) (S:aG N ps (au st)) (len:∀ vs H Q E,sp vs H Q E->vs.length=ps.length)
  (hbody:∀ (cdv:Value) (A:KY) (outer:List QZ) (s:J4) (H:Hp) (vs:List V) (Q:VK) (E:XK),cT k (A.deeper (envOfC qual (au st) s.heap.objs.size f cdv))->sp vs H Q E →
   ∃ t,PSs (rK CX0 P w K mg base N qual (au st) f cdv A outer s H E).nox (bw st) t/\t { nx:=fun _ H'=>Q .non H',rt:=Q } (start N vs) H):bL P w K mg base CX0 (k+1) f fd ps sp:=by
 obtain⟨oc,od,kV,doc,pm,an,cdv,ct,osl,rfl,lk,hcd⟩:=F.ex
 refine FP lk hcd S len fun A outer s H vs Q E hr hsp=>?_
 obtain⟨t,h,q⟩:=hbody cdv A outer s H vs Q E hr hsp
 exact⟨t,h.nox,q⟩
theorem Fun.binds {x qual:KH} {st:Stmt} {f:Addr} {fd:LK} {ps:List KH} (F:Fun K x qual st f fd)
  (h:∀ (kV doc pm:Value) (an:Option Addr) (cdv ct:Value) (us:List Value),us.length=ps.length->PB (N5 x qual (bU st) (bw st) (au st) .none kV doc pm an cdv ct) ⟨us,[]⟩=pure (ps.zip us)):Binds K fd ps []:=by
 obtain⟨oc,od,kV,doc,pm,an,cdv,ct,osl,rfl,lk,hcd⟩:=F.ex
 exact .all (h kV doc pm an cdv ct)
theorem lV {x qual:KH} {st:Stmt} {f:Addr} {oc:Value} {od an:Option Addr} {osl:Array (Option Value)} {kV doc pm cdv ct:Value} (l:K.lookup f=some ⟨oc,od,.func (N5 x qual (bU st) (bw st) (au st) .none kV doc pm an cdv ct),osl⟩)
  (c:Pg K cdv qual=true) (k:Ml K (.ref f)=true):Fun K x qual st f (N5 x qual (bU st) (bw st) (au st) .none kV doc pm an cdv ct):=⟨⟨oc,od,kV,doc,pm,an,cdv,ct,osl,rfl,l,c⟩,k⟩
end
theorem bu {n:Nat} (h:n<=1000):n < sizeLine:=Qf h (by decide)
section
variable {X:Cx}
theorem pv (i:Nat) {x:KH} {pos:Qs} (hN:X.N[i]? = some x:=by rfl) (hv:Vis X.env.scope x:=by first | exact K5 rfl | exact Or.inr (K5 rfl) | exact Or.inr (Or.inr rfl)) (hd:(x == ("__debug__" : KH))=false:=by decide)
  (hcd:(x == ("__classdict__" : KH))=false:=by decide):PE X (.Name x pos) (dH i):=CK hN hv hd hcd
end
theorem cj {A B:Prop} (h:B):if false=true then A else B:=by
 rw[if_neg J9]
 exact h
theorem dF {A B:Prop} (h:A):if true=true then A else B:=by
 rw[if_pos rfl]
 exact h
theorem wR {c A B:Prop} [Decidable c] (h1:c->A) (h2:¬ c->B):if c then A else B:=by
 by_cases h:c
 ·rw[if_pos h]
  exact h1 h
 ·rw[if_neg h]
  exact h2 h
def aR (H H':Hp):Prop:=∀ b o,H b=some o->H' b=some o
theorem aR.refl (H:Hp):aR H H:=fun _ _ h=>h
theorem aR.trans {H H1 H2:Hp} (a:aR H H1) (b:aR H1 H2):aR H H2:=fun c o h=>b c o (a c o h)
theorem aR.free {H H':Hp} (e:aR H H') {l:Addr} (h:H' l=Option.none):H l=Option.none:=by
 cases q:H l with
 | none=>rfl
 | some o =>
  rw[e l o q] at h
  cases h
theorem aR.seq {K:Ka} {H H':Hp} {a:Addr} {xs:List V} (e:aR H H') (h:SqL K H a xs):SqL K H' a xs:=by
 rcases h with (h | ⟨o,h⟩) | h
 ·exact .inl (.inl (e _ _ h))
 ·exact .inl (.inr ⟨o,e _ _ h⟩)
 ·exact .inr h
end L2
set_option maxHeartbeats 4000000
namespace L2
open PySem PySem.Spec PyProof.Rows
theorem zz {env:QZ}:∀ {names:List (KH × QW)} {x:KH},names.lookup x=some .free →
  (names.map fun (n,k)=>if (k == M5 && env.scope.kind == .function && env.kindOf n == some .cell) then (n,Sq) else (n,k)).lookup x=some .cell ∨
  (names.map fun (n,k)=>if (k == M5 && env.scope.kind == .function && env.kindOf n == some .cell) then (n,Sq) else (n,k)).lookup x=some .free
 | [],_,h=>by simp at h
 | (n,k)::r,x,h=>by
  have ih:=@zz env r x
  rw[Ni]
  cases hx:x == n with
  | true =>
   rw[Lr,hx] at h
   cases h
   by_cases hc:(M5 == M5 && env.scope.kind == .function && env.kindOf n == some .cell)=true
   ·refine .inl ?_
    dsimp only
    rw[if_pos hc,Lr,hx]
   ·refine .inr ?_
    dsimp only
    rw[if_neg hc,Lr,hx]
  | false =>
   rw[Lr,hx] at h
   dsimp only
   by_cases hc:(k == M5 && env.scope.kind == .function && env.kindOf n == some .cell)=true
   ·rw[if_pos hc,Lr,hx]; exact ih h
   ·rw[if_neg hc,Lr,hx]; exact ih h
theorem tQ {env:QZ}:∀ {names:List (KH × QW)} {x:KH} {k':QW},
  (names.map fun (n,k)=>if (k == M5 && env.scope.kind == .function && env.kindOf n == some .cell) then (n,Sq) else (n,k)).lookup x=some k'->names.lookup x=some k'∨names.lookup x=some .free
 | [],_,_,h=>by simp at h
 | (n,k)::r,x,k',h=>by
  have ih:=@tQ env r x k'
  rw[Ni] at h
  dsimp only at h
  cases hx:x == n with
  | true =>
   rw[Lr,hx]
   by_cases hc:(k == M5 && env.scope.kind == .function && env.kindOf n == some .cell)=true
   ·have hk:k = .free:=by
     rw[Mr,Mr] at hc
     exact eq_of_beq hc.1.1
    exact .inr (by rw[hk])
   ·rw[if_neg hc,Lr,hx] at h
    exact .inl h
  | false =>
   rw[Lr,hx]
   by_cases hc:(k == M5 && env.scope.kind == .function && env.kindOf n == some .cell)=true
   ·rw[if_pos hc,Lr,hx] at h; exact ih h
   ·rw[if_neg hc,Lr,hx] at h; exact ih h
theorem tM {env:QZ}:∀ (names:List (KH × QW)) (acc:List (KH × Addr)),(∀ y∈names,y.2 = .free->∃ c,env.cells.lookup y.1=some c)->(∀ n c,acc.lookup n=some c->env.cells.lookup n=some c) →
  ∃ cl,(forIn names acc (fun (x:KH × QW) (r:List (KH × Addr))=>(match x with | (name,kind)=>if (kind == M5)=true then (do let c ← cellOf env name; pure (Qc ((name,c)::r))) else pure (Qc r):Sem (ForInStep (List (KH × Addr))))))=pure cl ∧
   (∀ n c,cl.lookup n=some c->env.cells.lookup n=some c)/\(∀ n c,acc.lookup n=some c->∃ c',cl.lookup n=some c')/\∀ y∈names,y.2 = .free->∃ c,cl.lookup y.1=some c
 | [],acc,_,h=>⟨acc,by rw[List.forIn_nil],h,fun _ c e=>⟨c,e⟩,fun y hy=>by simp at hy⟩
 | (n,k)::r,acc,hf,h=>by
  rw[List.forIn_cons]
  dsimp only
  by_cases hk:(k == M5)=true
  ·rw[if_pos hk]
   have hk':k = .free:=eq_of_beq hk
   obtain⟨c,hc⟩:=hf (n,k) KD hk'
   have hc:env.cells.lookup n=some c:=hc
   have ec:cellOf env n=pure c:=by unfold cellOf; rw[hc]
   have h2:∀ m d,((n,c)::acc).lookup m=some d->env.cells.lookup m=some d:=fun m d e=>by
    rw[Lr] at e
    cases hx:m == n with
    | true=>rw[hx] at e; cases e; rw[eq_of_beq hx]; exact hc
    | false=>rw[hx] at e; exact h m d e
   obtain⟨cl,e1,e2,e3,e4⟩:=tM r ((n,c)::acc) (fun y hy=>hf y (KC _ hy)) h2
   refine⟨cl,by rw[ec,pure_bind,pure_bind]; exact e1,e2,fun m d e=>?_,fun y hy hyf=>?_⟩
   ·refine (match hx:m == n with | true=>e3 m c (by rw[Lr,hx]) | false=>e3 m d (by rw[Lr,hx]; exact e))
   ·rcases List.mem_cons.mp hy with rfl | hy
    ·exact e3 n c (by rw[Lr,beq_self_eq_true])
    ·exact e4 y hy hyf
  ·rw[if_neg hk]
   obtain⟨cl,e1,e2,e3,e4⟩:=tM r acc (fun y hy=>hf y (KC _ hy)) h
   refine⟨cl,by rw[pure_bind]; exact e1,e2,e3,fun y hy hyf=>?_⟩
   rcases List.mem_cons.mp hy with rfl | hy
   ·exact absurd (by rw[show k=M5 from hyf]; rfl) hk
   ·exact e4 y hy hyf
theorem oM {scope:Nr} {env:QZ} (h:∀ y∈scope.names,y.2 = .free->∃ c,env.cells.lookup y.1=some c) :
  ∃ cl,closureFor scope env=pure cl/\(∀ n c,cl.lookup n=some c->env.cells.lookup n=some c)/\∀ y∈scope.names,y.2 = .free->∃ c,cl.lookup y.1=some c:=by
 obtain⟨cl,e1,e2,_,e4⟩:=tM scope.names [] h (fun _ _ e=>by simp at e)
 refine⟨cl,?_,e2,e4⟩
 unfold closureFor
 first
  | exact e1
  | (rw[← bind_pure (x:=pure cl),← e1]; rfl)
  | (simp only[bind_pure]; exact e1)
def aU (X:Cx) (scope:Nr) (cl:List (KH × Addr)) (C:Addr) (N:List KH) (s:J4) (H:Hp) (fp:List Addr):Cx :=
 {X with N:=N,s₀:=s,H₀:=H,env:=S6 scope cl C X.env,outer:=X.stack,ex:=fp,fn:=fun _=>false,pn:=[],xe:=fun _ _=>False }
structure jN (X:Cx) (scope:Nr) (F:List KH) (cap:List Nat):Prop where
 kind:scope.kind = .function
 cell:∀ y∈scope.names,y.2≠.cell
 nms:∀ y∈scope.names,y.2 = .local->scope.names.lookup y.1=some .local
 fr:∀ y∈scope.names,y.2 = .free->X.env.kindOf y.1=some .cell∨X.env.kindOf y.1=some .free
 len:cap.length=F.length
 at':∀ (k:Nat) (x:KH),F[k]? = some x->∃ i,cap[k]? = some i/\X.N[i]? = some x/\scope.names.lookup x=some .free
def PTs (X:Cx) (ifs:List Expr) (t:TT):Prop :=
 ∀ (pins:List (Addr × NB)) (s:J4) (σ:St) (H:Hp) (Q:Bool->Hp->Prop),Inv X pins σ H s->t σ H Q →
  Ke (Kl X.prog X.w) X.A (forIn ifs true fun c r=>if r=true then do let ok ← isTrue c X.env (Mp c X.env); pure (Qc ok) else pure (Qc r)) (TP X pins σ Q) X.xe s
def FJ:TT:=fun _ H Q=>Q true H
theorem kW {X:Cx}:PTs X [] FJ:=fun _ _ _ H _ I h=>wpAny_tests_nil ⟨H,I,h⟩
theorem jB {X:Cx} {c:Expr} {t:TT} (hc:PT X c t):PTs X [c] t:=fun pins s σ H Q I h=>wpAny_tests_one (hc pins s σ H Q I h)
theorem v7 {prog:Kq} {w:K1} {A:KY} {R:QT->J4->Prop} {s:J4} {elt target iter:Expr} {ifs:List Expr} {scope:Nr} {pos:Qs} {it acc:Value} {env:QZ} (I:Nat->J4->Prop)
  (turn:∀ n s,I n s->Ke (Kl prog w) A (Oz it) (fun r s₁=>match r with
   | none=>R (.ok .next) s₁
   | some v=>Ke (Kl prog w) A (NP target it v) (fun _ s₀=>Ke (Kl prog w) A (R1 target env v) (fun _ s₂ =>
     Ke (Kl prog w) A (forIn ifs true fun c r=>if r=true then do let ok ← isTrue c env (Mp c env); pure (Qc ok) else pure (Qc r)) (fun ok s₃ =>
      if ok=true then Ke (Kl prog w) A (Mp elt env) (fun x s₄=>Ke (Kl prog w) A (call (.builtin "list.append") [acc,x]) (fun _ s₅=>∃ m,m < n/\I m s₅) (fun _ _=>False) s₄) (fun _ _=>False) s₃
      else ∃ m,m < n/\I m s₃) (fun _ _=>False) s₂) (fun _ _=>False) s₀) (fun _ _=>False) s₁) (fun _ _=>False) s)
  (n:Nat) (h:I n s):LQ (Kl prog w) A (.compLoop (.ListComp elt [⟨target,iter,ifs,0⟩] scope pos) 0 it acc env) R s:=by
 have no:∀ {E:Value->J4->Prop} (x:Value) (s':J4),(fun (_:Value) (_:J4)=>False) x s'->E x s':=fun _ _ z=>z.elim
 refine codeAny_loop rfl I (fun n s hI=>?_) n h
 refine (show Ke (Kl prog w) A ((compTurn (.ListComp elt [⟨target,iter,ifs,0⟩] scope pos) 0 it acc env).onRaise (fun x=>do QH x env; T6 x)) _ _ s from wpAny_noted ?_)
 rw[compTurn_list]
 refine J3 (N6 (J3 (Ln (turn n s hI) (fun r s₁ h₁=>?_) no)))
 cases r with
 | none=>exact J7 h₁
 | some v =>
  refine J3 (Ln h₁ (fun _ s₀ h₀=>J3 (Ln h₀ (fun _ s₂ h₂=>J3 (Ln h₂ (fun ok s₃ h₃=>?_) no)) no)) no)
  cases ok with
  | false=>exact J7 ⟨rfl,h₃⟩
  | true=>exact J3 (J3 (Ln h₃ (fun x s₄ h₄=>J3 (Ln h₄ (fun _ s₅ h₅=>J7 (J7 ⟨rfl,h₅⟩)) no)) no))
def ji (D:Addr) (σ0:St) (J:It) (g:TG) (tt:TT) (te:TE) (H1:Hp) (Q:Hp->Prop):Prop :=
 ∃ W:Nat->Nat->List V->St->Hp->Prop,(∃ m,W 0 m [] σ0 (upd H1 D (.lst []))) ∧
  ∀ i m ys σ' H',W i m ys σ' H'->H' D=some (.lst ys)/\((J.stop i H'/\Q H')∨(J.go i H'/\∃ N:List V->St->Hp->Prop,(∀ zs σ2 H2,N zs σ2 H2->∃ m',m' < m/\W (i+1) m' zs σ2 H2) ∧
   ∀ x H2,J.yld i H' x H2->g x σ' H2 fun σ3 H3=>tt σ3 H3 fun b H4=>if b=true then te σ3 H4 fun y H5=>H5 D=some (.lst ys)/\ys.length < sizeLine/\N (ys++[y]) σ3 (upd H5 D (.lst (ys++[y]))) else N ys σ3 H4))
def Dy (n:Nat) (cap:List Nat) (σ:St):St:=Kf n none++cap.map fun i=>(σ[i]?).join
def Jc (n:Nat) (cap:List Nat) (wi:TI) (g:TG) (tt:TT) (te:TE):TE:=fun σ H Q=>wi σ H fun J H1=>∀ D,H1 D=none->ji D (Dy n cap σ) J g tt te H1 fun H2=>Q (.ref D) H2
section
variable {X:Cx} {elt tg iter:Expr} {ifs:List Expr} {scope:Nr} {pos:Qs} {L F:List KH} {cap:List Nat} {wi:TI} {g:TG} {tt:TT} {te:TE}
theorem rU {pins:List (Addr × NB)} {σ:St} {H:Hp} {s:J4} (I:Inv X pins σ H s) {b:Addr} (h1:b≠X.env.locals) (h2:b ∉ X.fs):b ∉ frs X.stack:=fun z=>(List.mem_cons.mp (I.mY b z)).elim h1 h2
theorem ni {cl:List (KH × Addr)} {pins:List (Addr × NB)} {σ:St} {H:Hp} {s:J4} {fp:List Addr} {h₁:Lh} {tk:Nat} (ok:jN X scope F cap) (I:Inv X pins σ H s) (hfp:∀ b∈fp,uO X pins H b/\b < s.heap.objs.size)
  (sub:∀ n c,cl.lookup n=some c->X.env.cells.lookup n=some c) (all:∀ y∈scope.names,y.2 = .free->∃ c,cl.lookup y.1=some c)
  (ns:h₁.Ns s.heap.objs.size fun _=>none) (kp:∀ b o,s.heap.get? b=some o->h₁.get? b=some o) :
  Inv (aU X scope cl s.heap.objs.size (L++F) s H fp) [] (Dy L.length cap σ) H { s with heap:=h₁,toks:=tk }:=by
 have frk:∀ x,scope.names.lookup x=some .free->X.env.kindOf x=some .cell∨X.env.kindOf x=some .free:=fun x e=>ok.fr (x,.free) (Lp e) rfl
 have okX:(aU X scope cl s.heap.objs.size (L++F) s H fp).Ok:=by
  refine⟨I.ok.mod,ok.kind,I.ok.glob,I.ok.blt,Kc _,fun x y c e1 e2=>I.ok.inj x y c (sub x c e1) (sub y c e2),fun x hx=>?_,fun x c hx _=>?_,I.ok.hd,I.ok.frames,.inl rfl,fun b hb=>?_,I.bs,K7 I.ok.bsz I.sz,fun b o e hb=>?_,fun b hb=>?_,I.stack,I.rQ⟩
  ·have e:scope.names.lookup x=some .free:=by
    rcases hx with hx | hx
    ·rcases tQ (env:=X.env) (show _=some Sq from hx) with e | e
     ·exact absurd rfl (ok.cell _ (Lp e))
     ·exact e
    ·rcases tQ (env:=X.env) (show _=some M5 from hx) with e | e <;> exact e
   exact all (x,.free) (Lp e) rfl
  ·exact absurd (show false=true from hx) J9
  ·exact⟨Kz (hfp b hb).2,fun x c e=>(hfp b hb).1.2.2.2.2.1 x c (sub x c e)⟩
  ·obtain⟨_,_,_,f3,_⟩:=(hfp b hb).1
   rcases f3 with z | z
   ·exact I.ok.noex b o e z
   ·exact absurd (Kg (Kh e) (K7 I.ok.bsz z)) (Ly _)
  ·obtain⟨_,f1,f2,_⟩:=(hfp b hb).1
   exact rU I f1 f2
 refine⟨okX,rfl,I.bare,Un.kept kp,⟨_,ns,fun i x v e1 e2 e3=>?_⟩,fun x c e=>?_,I.hok.fresh (Kc _),fun x c e=>I.freeC x c (sub x c e),fun p hp=>absurd (show p∈([]:List (Addr × NB)) from hp) (by simp),I.hok.kept kp,?_⟩
 ·have e1:(L++F)[i]? = some x:=e1
  have e2:(Kf L.length none++cap.map fun i=>(σ[i]?).join)[i]? = some (some v):=e2
  have hL:¬ i < L.length:=fun hi=>by
   rw[List.getElem?_append_left (by simpa using hi),Oj] at e2
   split at e2 <;> cases e2
  have hi:L.length<=i:=Nat.le_of_not_lt hL
  rw[QX hi] at e1
  rw[QX (by simpa using hi),K4,KQ] at e2
  obtain⟨j,hj,hN,hk⟩:=ok.at' _ _ e1
  rw[hj] at e2
  have e4:(σ[j]?).join=some v:=by simpa using e2
  have e5:σ[j]? = some (some v):=by
   cases q:σ[j]? with
   | none=>rw[q] at e4; cases e4
   | some a=>rw[q] at e4; exact congrArg some e4
  obtain⟨m,hn,hl⟩:=I.loc
  have kd:=frk x hk
  obtain⟨u,r,lk⟩:=hl j x v hN e5 (kd.elim (fun z=>.inr (.inl z)) fun z=>.inr (.inr z))
  obtain⟨c,hc,hcell⟩:∃ c,X.env.cells.lookup x=some c/\s.heap.IsCell c (some u):=by
   rcases lk with⟨z,_⟩ | ⟨_,c,z1,z2⟩
   ·rcases kd with y | y <;> (rw[y] at z; cases z)
   ·exact⟨c,z1,z2⟩
  obtain⟨c',hc'⟩:=all (x,.free) (Lp hk) rfl
  have ec:c'=c:=by
   have:=sub x c' hc'
   rw[hc] at this
   exact (La this).symm
  subst ec
  obtain⟨o,ho,hd⟩:=hcell
  exact⟨u,r,.inr ⟨(zz (env:=X.env) hk),c',hc',o,kp _ _ ho,hd⟩⟩
 ·obtain⟨v,o,ho,hd⟩:=I.cell x c (sub x c e)
  exact⟨v,o,kp _ _ ho,hd⟩
 ·show (Kf L.length (none:Option V)++cap.map fun i=>(σ[i]?).join).length=(L++F).length
  rw[KR,KR,K4,J8,ok.len]
theorem uL {cl:List (KH × Addr)} {pins:List (Addr × NB)} {σ:St} {s2:J4} {H2:Hp} {it:Addr} {fp:List Addr} {tn:Nat->Lh->Prop} {J:It} {use:Option (Value->Sem Unit)} {QQ:Value->J4->Prop} {Z:Hp->Prop} {E:Value->J4->Prop}
  (hc:X.calm=true) (ok:jN X scope F cap)
  (sub:∀ n c,cl.lookup n=some c->X.env.cells.lookup n=some c) (all:∀ y∈scope.names,y.2 = .free->∃ c,cl.lookup y.1=some c)
  (hg:∀ cl C s H fp,PG (aU X scope cl C (L++F) s H fp) tg g) (ht:∀ cl C s H fp,PTs (aU X scope cl C (L++F) s H fp) ifs tt) (he:∀ cl C s H fp,PE (aU X scope cl C (L++F) s H fp) elt te)
  (I2:Inv X pins σ H2 s2) (T:Turn X.prog X.w X.K tg J fp it tn) (st2:tn 0 s2.heap) (f2:∀ b∈fp,uO X pins H2 b)
  (q2:ji s2.heap.objs.size (Dy L.length cap σ) J g tt te H2 Z)
  (fin:∀ (C:Addr) (s':J4) (H':Hp),Z H'->Inv X pins σ H' s'->(∃ m,s'.heap.Ns C m)->H' C=none->C≠X.env.locals->X.s₀.heap.objs.size<=C->(∀ x c,X.env.cells.lookup x=some c->c≠C)->(∀ p∈X.pn++pins,p.1≠C) →
   Ro (Kl X.prog X.w) X.A E use QQ (.ref s2.heap.objs.size) C (.ok .next) s') :
  Ke (Kl X.prog X.w) X.A (newList []) (fun acc s₃=>Ke (Kl X.prog X.w) X.A (newFunctionEnv scope X.env.globals cl [] X.env.qual none .none (some X.env)) (fun cenv s₄ =>
   LQ (Kl X.prog X.w) X.A (.compStart (.ListComp elt [⟨tg,iter,ifs,0⟩] scope pos) 0 (.ref it) acc { cenv with scope:=relabel scope X.env }) (Ro (Kl X.prog X.w) X.A E use QQ acc cenv.locals) s₄) E s₃) E s2:=by
 have hD:H2 s2.heap.objs.size=none:=I2.fresh
 refine Lj (RX ok.cell (by intro y hy; simp at hy) (fun h₁ hns₁ hsb₁=>?_) ok.kind)
 dsimp only at hns₁ hsb₁ ⊢
 have I3:Inv X pins σ (upd H2 s2.heap.objs.size (.lst [])) { s2 with heap:=s2.heap.push { cls:=.type "list",data:=.seq ([]:List Value).toArray } }:=I2.Iu (t':=s2.toks) (ys:=[]) (its:=[]) .nil (Lb _)
 have blt:∀ b∈fp,b < s2.heap.objs.size:=fun b hb=>let ⟨_,e,_⟩:=T.obj 0 _ st2 b hb; Kh e
 have szC:(s2.heap.push { cls:=.type "list",data:=.seq ([]:List Value).toArray }).objs.size=s2.heap.objs.size+1:=Mm _ _
 generalize hs3:({ s2 with heap:=s2.heap.push { cls:=.type "list",data:=.seq ([]:List Value).toArray } }:J4)=s3 at I3
 have es3:s3.heap=s2.heap.push { cls:=.type "list",data:=.seq ([]:List Value).toArray }:=by rw[← hs3]
 have eos:s3.os=s2.os:=by rw[← hs3]
 have fok:∀ b∈fp,uO X pins (upd H2 s2.heap.objs.size (.lst [])) b/\b < s3.heap.objs.size:=fun b hb=>by
  obtain⟨f0,fr⟩:=f2 b hb
  refine⟨⟨by rw[aC (Kz (blt b hb))]; exact f0,fr⟩,?_⟩
  rw[es3,szC]
  exact Nm (blt b hb)
 have hkp:∀ b o,s3.heap.get? b=some o->h₁.get? b=some o:=fun b o e=>by
  have e':b < s3.heap.objs.size:=Kh e
  rw[es3] at e e'
  exact (hsb₁.2 b (Kz e')).trans (J6 _ e)
 have hns:h₁.Ns s3.heap.objs.size fun _=>none:=by
  rw[es3]
  exact hns₁
 have I4:∀ tk,Inv (aU X scope cl s3.heap.objs.size (L++F) s3 (upd H2 s2.heap.objs.size (.lst [])) fp) [] (Dy L.length cap σ) (upd H2 s2.heap.objs.size (.lst [])) { s3 with heap:=h₁,toks:=tk }:=fun tk =>
  ni (L:=L) ok I3 fok sub all hns hkp
 have stat:∀ {H':Hp},(∀ b∈fp,H' b=none)->∀ b∈fp,uO (aU X scope cl s3.heap.objs.size (L++F) s3 (upd H2 s2.heap.objs.size (.lst [])) fp) [] H' b:=fun {H'} hn b hb=>by
  obtain⟨⟨_,g1,g2,g3,g4,g5⟩,g6⟩:=fok b hb
  exact⟨hn b hb,Kz g6,rU I3 g1 g2,.inl hb,fun x c e=>g4 x c (sub x c e),fun p hp=>absurd (show p∈([]:List (Addr × NB)) from hp) (by simp)⟩
 have loop:∀ tk,LQ (Kl X.prog X.w) X.A (.compLoop (.ListComp elt [⟨tg,iter,ifs,0⟩] scope pos) 0 (.ref it) (.ref s2.heap.objs.size) (S6 scope cl s3.heap.objs.size X.env))
   (Ro (Kl X.prog X.w) X.A E use QQ (.ref s2.heap.objs.size) s3.heap.objs.size) { s3 with heap:=h₁,toks:=tk }:=fun tk=>by
  obtain⟨W,⟨m0,w0⟩,turn⟩:=q2
  have st3:tn 0 h₁:=T.keep 0 _ _ st2 fun b hb o e=>hkp b o (by rw[es3]; exact J6 _ e)
  refine v7 (fun n s'=>∃ i ys σ' H',Inv (aU X scope cl s3.heap.objs.size (L++F) s3 (upd H2 s2.heap.objs.size (.lst [])) fp) [] σ' H' s'/\tn i s'.heap/\(∀ b∈fp,H' b=none)/\W i n ys σ' H') ?_ m0
   ⟨0,[],_,_,I4 tk,st3,fun b hb=>(fok b hb).1.1,w0⟩
  rintro n s5 ⟨i,ys,σ5,H5,I5,st5,fr5,w5⟩
  obtain⟨hDl,alt⟩:=turn i n ys σ5 H5 w5
  rcases alt with⟨stop,qz⟩ | ⟨go,N,hN,step⟩
  ·refine thn (T.done (aU X scope cl s3.heap.objs.size (L++F) s3 (upd H2 s2.heap.objs.size (.lst [])) fp) rfl rfl rfl hc i [] s5 σ5 H5 _ I5 (stat fr5) st5 stop) fun r s6 ⟨hr,I6⟩=>?_
   subst hr
   have un:Un (frs X.stack) fp H2 H5 s2.heap s6.heap:=by
    have u1:Un (frs X.stack) fp H2 (upd H2 s2.heap.objs.size (.lst [])) s2.heap s3.heap:=by
     rw[es3]
     exact Un.laid (fun _ _ q=>J6 _ q) (Kc _) hD
    exact u1.trans I6.base
   have J1:Inv X pins σ H5 s6:=I2.call' (I6.os.trans eos) un I6.hok I6.bare fun b hb=>by
    obtain⟨_,g1,_,g3,g4,g5⟩:=f2 b hb
    exact⟨g3,g1,g4,g5⟩
   have hC:s2.heap.objs.size<=s3.heap.objs.size:=by rw[es3,szC]; exact M9 _
   obtain⟨m,hm,_⟩:=I6.loc
   refine fin s3.heap.objs.size s6 H5 qz J1 ⟨m,hm⟩ I6.free (Pr (Kg I2.lt hC)) (K7 I2.sz hC) (fun x c e z=>?_) (fun p hp z=>?_)
   ·obtain⟨v,q⟩:=I2.cell x c e
    exact absurd (Kg q.lt (by rw[z]; exact hC)) (Ly _)
   ·exact absurd (Kg (Kh (I2.pin p hp).1) (by rw[z]; exact hC)) (Ly _)
  ·refine thn (T.item (aU X scope cl s3.heap.objs.size (L++F) s3 (upd H2 s2.heap.objs.size (.lst [])) fp) rfl rfl rfl hc i [] s5 σ5 H5 _ I5 (stat fr5) st5 go) fun r s6 ⟨u,hr,h6⟩=>?_
   subst hr
   refine thn h6 fun _ s7 ⟨x,H7,I7,r7,y7,st7,fr7⟩=>?_
   have I7':=I7.pinned (stat fr7) (T.obj _ _ st7)
   refine thn (hg _ _ _ _ _ _ s7 σ5 H7 x u _ I7' r7 (step x H7 y7)) fun _ s8 ⟨σ8,H8,I8,q8⟩=>?_
   have again:∀ {σ9:St} {H9:Hp} {s9:J4} {zs:List V},Inv (aU X scope cl s3.heap.objs.size (L++F) s3 (upd H2 s2.heap.objs.size (.lst [])) fp) ([]++jE fp s7.heap) σ9 H9 s9->N zs σ9 H9 →
     ∃ m,m < n/\∃ i ys σ' H',Inv (aU X scope cl s3.heap.objs.size (L++F) s3 (upd H2 s2.heap.objs.size (.lst [])) fp) [] σ' H' s9/\tn i s9.heap/\(∀ b∈fp,H' b=none)/\W i m ys σ' H':=fun {σ9 H9 s9 zs} I9 n9=>by
    obtain⟨m',hm,w9⟩:=hN zs σ9 H9 n9
    refine⟨m',hm,i+1,zs,σ9,H9,I9.gn,T.keep _ _ _ st7 fun b hb o e=>(I9.pin (b,o) (KJ _ (KJ _ (cG hb e)))).1,fun b hb=>?_,w9⟩
    obtain⟨o,e,d⟩:=T.obj _ _ st7 b hb
    exact (I9.pin (b,o) (KJ _ (KJ _ (cG hb e)))).2.1
   refine thn (ht _ _ _ _ _ _ s8 σ8 H8 _ I8 q8) fun okb s9 ⟨H9,I9,q9⟩=>?_
   cases okb with
   | false =>
    rw[if_neg J9] at q9 ⊢
    exact again I9 q9
   | true =>
    rw[if_pos rfl] at q9 ⊢
    refine thn (he _ _ _ _ _ _ s9 σ8 H9 _ I9 q9) fun y s10 ⟨yv,H10,I10,r10,e10,z10,n10⟩=>?_
    refine thn (eE _ s10 σ8 H10 (.ref s2.heap.objs.size) [yv] (.ref s2.heap.objs.size) [y] (fun _ H'=>N (ys++[yv]) σ8 H') I10 rfl (.cons r10 .nil) ⟨_,ys,yv,rfl,rfl,e10,z10,n10⟩) fun _ s11 ⟨_,H11,I11,_,n11⟩=>?_
    exact again I11 n11
 have eC:(s2.heap.push { cls:=.type "list",data:=.seq ([]:List Value).toArray }).objs.size=s3.heap.objs.size:=by rw[es3]
 have goal:∀ tk,LQ (Kl X.prog X.w) X.A (.compStart (.ListComp elt [⟨tg,iter,ifs,0⟩] scope pos) 0 (.ref it) (.ref s2.heap.objs.size) (S6 scope cl s3.heap.objs.size X.env))
   (Ro (Kl X.prog X.w) X.A E use QQ (.ref s2.heap.objs.size) s3.heap.objs.size) { s3 with heap:=h₁,toks:=tk }:=fun tk =>
  codeAny_compStart_list (loop tk) (T.self _ 0 _ _ _ (T.keep 0 _ _ st2 fun b hb o e=>hkp b o (by rw[es3]; exact J6 _ e)) (loop tk))
 have g0:=goal (s2.toks+([]:List (KH × Value)).length)
 subst hs3
 exact g0
theorem eQ (hc:X.calm=true) (ok:jN X scope F cap) (hi:PI X tg iter wi)
  (hg:∀ cl C s H fp,PG (aU X scope cl C (L++F) s H fp) tg g) (ht:∀ cl C s H fp,PTs (aU X scope cl C (L++F) s H fp) ifs tt) (he:∀ cl C s H fp,PE (aU X scope cl C (L++F) s H fp) elt te)
  (hs:∀ x,Nj iter X.env x=pure x:=by intro _; rfl):PE X (.ListComp elt [⟨tg,iter,ifs,0⟩] scope pos) (Jc L.length cap wi g tt te):=by
 intro pins s σ H Q I h
 obtain⟨cl,e1,e2,e3⟩:=oM (scope:=scope) (env:=X.env) (fun y hy hf=>I.ok.has _ (ok.fr y hy hf))
 rw[eval_ListComp]
 refine Rh (use:=none) rfl hs e1 ok.kind ok.nms (thn (hi pins s σ H _ I h) fun v s1 h1=>thn h1 fun itv s2 h2=>?_)
 obtain⟨it,fp,tn,J,H2,e,I2,T,st2,f2,q2⟩:=h2
 subst e
 refine uL (Z:=fun H'=>Q (.ref s2.heap.objs.size) H') hc ok e2 e3 hg ht he I2 T st2 f2 (q2 _ I2.fresh) fun C s' H' z J m hCf hCl hCs hCc hCp=>?_
 ·obtain⟨m,hm⟩:=m
  exact⟨m,hm,fun h' hs'=>⟨.ref _,H',J.turned (t':=s'.toks) (fun b o hb e=>(hs'.2 b hb).trans e) hCf hCl (.inr hCs) hCc hCp,rfl,z⟩⟩
def DR (n:Nat) (cap:List Nat) (wi:TI) (g:TG) (tt:TT) (te:TE) (j:Nat):TS:=fun D σ H=>wi σ H fun J H1=>∀ d,H1 d=none->ji d (Dy n cap σ) J g tt te H1 fun H2=>D.nx (σ.set j (some (.ref d))) H2
theorem xZ {j:Nat} {y:KH} {py spos:Qs} (hN:X.N.Nodup) (hj:X.N[j]? = some y) (hy:Loc X.env.scope y) (hc:X.calm=true) (ok:jN X scope F cap) (hi:PI X tg iter wi)
  (hg:∀ cl C s H fp,PG (aU X scope cl C (L++F) s H fp) tg g) (ht:∀ cl C s H fp,PTs (aU X scope cl C (L++F) s H fp) ifs tt) (he:∀ cl C s H fp,PE (aU X scope cl C (L++F) s H fp) elt te)
  (hsw:Tt (.ListComp elt [⟨tg,iter,ifs,0⟩] scope pos) (some (.Name y py)) spos.line X.env=pure true:=by rfl)
  (hs:∀ x,Nj iter X.env x=pure x:=by intro _; rfl) (hf:X.fn y=true∨X.env.scope.names.lookup y=some .local:=by first | exact .inl rfl | exact .inr rfl | assumption) :
  PS X (.Assign [.Name y py] (.ListComp elt [⟨tg,iter,ifs,0⟩] scope pos) spos) (DR L.length cap wi g tt te j):=by
 intro pins s σ H D I h
 obtain⟨cl,e1,e2,e3⟩:=oM (scope:=scope) (env:=X.env) (fun y hy hf=>I.ok.has _ (ok.fr y hy hf))
 rw[exec_Assign_Name_used _ _ _ _ hsw]
 refine J3 (N6 (J3 ?_))
 show Ke (Kl X.prog X.w) X.A (do let _ ← comprehension (.ListComp elt [⟨tg,iter,ifs,0⟩] scope pos) scope X.env _ (newList []) false (Mp iter X.env) (some (R1 (.Name y py) X.env))) _ _ s
 refine J3 (Ln (Rh (use:=some (R1 (.Name y py) X.env)) (Q:=fun _ s'=>SP X pins D .next s') rfl hs e1 ok.kind ok.nms
  (thn (hi pins s σ H _ I h) fun v s1 h1=>thn h1 fun itv s2 h2=>?_)) (fun _ s' hq=>J7 (J7 hq)) fun _ _ e=>e)
 obtain⟨it,fp,tn,J,H2,e,I2,T,st2,f2,q2⟩:=h2
 subst e
 refine uL (Z:=fun H'=>D.nx (σ.set j (some (.ref s2.heap.objs.size))) H') hc ok e2 e3 hg ht he I2 T st2 f2 (q2 _ I2.fresh) fun C s' H' z J m hCf hCl hCs hCc hCp=>?_
 obtain⟨m,hm⟩:=m
 refine wpAny_assign_Name (pI J hN hj hy (v:=.ref s2.heap.objs.size) rfl (fun s5 I5 hs5=>?_) hf)
 obtain⟨a,sb,ha⟩:=hs5
 have hne:C≠a:=by
  rcases ha with rfl | ha
  ·exact hCl
  ·exact Mq (hCc y a ha)
 exact⟨m,hm.sameBut sb hne,fun h' hs'=>⟨_,H',I5.turned (t':=s5.toks) (fun b o hb e=>(hs'.2 b hb).trans e) hCf hCl (.inr hCs) hCc hCp,z⟩⟩
end
end L2
namespace L2
open PySem PySem.Spec PyProof.Rows
structure Df (P:Kq) (w:K1) (K:Ka) (mg:KH->Option Value) (base:Lh) (x:KH) (k:Nat) (ps:List KH) (sp:Sp):Prop where
 ex:∃ (f:Addr) (fd:LK),bL P w K mg base CX0 k f fd ps sp/\mg x=some (.ref f)/\Ml K (.ref f)=true/\Binds K fd ps []
section
variable {X:Cx} {k j:Nat} {x:KH} {ps:List KH} {sp:Sp} {p pos:Qs} {e:Expr} {es:List Expr} {t:TA}
theorem bh (D:Df X.prog X.w X.K X.mg X.base x k ps sp) (hr:cT j X.A) (ha:PA X (e::es) t) (hk:k<=j:=by first | decide | exact Kc _ | lia) (hg:Gl X x:=by rfl)
  (hdb:(x == ("__debug__" : KH))=false:=by decide) (he:Kr (e::es) X.env=(false,Mp e X.env)::Kr es X.env:=by rfl) (hpl:(Mu pos (Kr es X.env)).any (·.1)=false:=by rfl) :
  PE X (.Call (.Name x p) (e::es) [] pos) (oU sp [] E0 t):=by
 obtain⟨f,fd,F,hm,hkp,hb⟩:=D.ex
 exact yd F (hr.mono hk) hg hm hkp hb .nil mL ha hdb he hpl
theorem jX {i:Int} {tk:Tok} (hm:X.mg x=some (.int i tk)) (hg:Gl X x:=by rfl) (hd:(x == ("__debug__" : KH))=false:=by decide):PE X (.Name x pos) (tC (.int i)):=Eu hg hm ⟨_,rfl⟩ hd
theorem fX {T:String} (hm:X.mg x=none) (hv:Lf x=some (.type T)) (hg:Gl X x:=by rfl) (hn:x≠"__name__":=by decide) (hd:(x == ("__debug__" : KH))=false:=by decide):PE X (.Name x pos) (tC (.ty T)):=Et hg hm hv rfl hn hd
inductive G6 (K:Ky) (xs:List V) (H:Hp) (Q:VK):Prop where
 | mk (x:V) (T:String) (t:Value) (b:Bool) (z0:xs=[x,.ty T]) (z1:vV K H x t) (z2:O7 K t (.type T)=some b) (z3:Q (.bl b) H):G6 K xs H Q
def ph (K:Ky):List V->Hp->VK->Prop:=fun xs H Q=>G6 K xs H Q
theorem bH:jk X (.builtin "isinstance") (ph X.K):=by
 intro pins s σ H xs us Q I r h
 obtain⟨x,T,t,b,rfl,ty,e,q⟩:=h
 obtain⟨u,v,rfl,ru,rv⟩:=vals2 r
 cases (show v=N8 T from rv)
 exact xJ I ru ty e fun tk=>⟨.bl b,H,I.tok tk,rfl,q⟩
def ik (K:Ky):List V->Hp->VK->Prop:=fun xs H Q=>∃ (p:Addr) (ys:List V),xs=[.ref p]/\(SqL K H p ys∨SqT K H p ys)/\Q (.int ys.length) H
theorem aO:jk X (.builtin "len") (ik X.K):=qY
def rO (K:Ky):List V->Hp->VK->Prop:=fun xs H Q=>∃ (p:Addr) (ys:List V),xs=[.ref p]/\(SqL K H p ys∨SqT K H p ys)/\∀ l,H l=none->Q (.ref l) (upd H l (.lst ys))
theorem mX:jk X (.type "list") (rO X.K):=pH
def vq (K:Ky):List V->Hp->VK->Prop:=fun xs H Q=>∃ (p:Addr) (ys:List V),xs=[.ref p]/\((SqL K H p ys/\∀ l,H l=none->Q (.ref l) (upd H l (.tup ys)))∨(SqT K H p ys/\Q (.ref p) H))
theorem gZ:jk X (.type "tuple") (vq X.K):=oG
theorem gK:∀ bs:List Bool,(Ms bs.length).all (fun i=>bs.getD i true)=bs.all fun b=>b
 | []=>rfl
 | b::r=>by
  have ih:=gK r
  rw[KZ,List.range_succ_eq_map,Qw,Tj,Qw,← ih]
  rfl
inductive CZ (K:Ky) (xs:List V) (H:Hp) (Q:VK):Prop where
 | mk (p:Addr) (bs:List Bool) (z0:xs=[.ref p]) (z1:SqL K H p (bs.map V.bl)) (z2:Q (.bl (bs.all fun b=>b)) H):CZ K xs H Q
def Ex (K:Ky):List V->Hp->VK->Prop:=fun xs H Q=>CZ K xs H Q
theorem rF (hc:X.calm=true):jk X (.builtin "all") (Ex X.K):=by
 intro pins s σ H xs us Q I r h
 obtain⟨p,bs,rfl,hq,q⟩:=h
 obtain⟨u,rfl,ru⟩:=vals1 r
 cases ru
 obtain⟨its,rv,pl,hz⟩:=I.list hq
 have hlen:bs.length=its.length:=by simpa using rv.length
 refine call_all_walk (Q7 pl.isList ?_)
 have I1:Inv X pins σ H { s with heap:=s.heap.push { cls:=.type "list_iterator",data:=.fields #[.ref p,.int 0 0] } }:=I.kept (t':=s.toks) fun b o e=>J6 _ e
 have hne:p≠s.heap.objs.size:=by
  obtain⟨o,ho,_⟩:=pl.isList
  exact Kz (Kh ho)
 refine⟨s.heap.objs.size,_,_,_,_,_,fun i=>bs.getD i true,rfl,Walks.list (A:=X.A.in1) (I.ok.hd hc) s.heap.objs.size p hne its.toArray,⟨⟨_,Ko _ rfl,rfl,rfl⟩,?_⟩,?_,fun h' tk hk=>?_⟩
 ·obtain⟨o,ho,hr⟩:=pl.isList
  exact⟨o,J6 _ ho,hr⟩
 ·intro i v s' Q' E' hP hQ
  have hP:its[i]? = some v:=by simpa using hP
  have hi:i < bs.length:=by
   rw[hlen]
   exact (List.getElem?_eq_some_iff.mp hP).1
  obtain⟨u',hu',ru'⟩:=rv.get (i:=i) (x:=V.bl bs[i]) (by rw[KQ,Kd hi]; rfl)
  rw[hP] at hu'
  cases hu'
  cases (show v=Sv bs[i] from ru')
  refine NZ ?_
  have eg:bs.getD i true=bs[i]:=by rw[K6,Kd hi]; rfl
  have hQ':Q' (bs.getD i true) s':=hQ
  rw[eg] at hQ'
  exact hQ'
 ·have f:=I.Gr (b:=s.heap.objs.size) (H':=H) (Kc _) I.fresh
  have eall:(Ms its.toArray.size).all (fun i=>bs.getD i true)=bs.all fun b=>b:=by
   have el:its.toArray.size=bs.length:=by rw[Km,hlen]
   rw[el]
   exact gK bs
  rw[eall]
  exact⟨.bl _,H,I1.turned (t':=tk) (it:=s.heap.objs.size) (fun b o hb e=>hk b o (by simpa using hb) e) f.1 f.2.1 f.2.2.2.1 f.2.2.2.2.1 f.2.2.2.2.2,rfl,q⟩
end
end L2
namespace L2
open PySem PySem.Spec PyProof.Rows
def xX (osc:Nr) (oN:List KH) (sc:Nr) (F:List KH) (cap:List Nat):Bool :=
 decide (sc.kind = .function) && sc.names.all (fun y=>!decide (y.2 = .cell)) && sc.names.all (fun y=>!decide (y.2 = .local) || decide (sc.names.lookup y.1=some .local)) &&
 sc.names.all (fun y=>!decide (y.2 = .free) || decide (osc.names.lookup y.1=some .cell) || decide (osc.names.lookup y.1=some .free)) && decide (cap.length=F.length) &&
 (Ms F.length).all fun k=>(decide (F[k]? = none) || decide ((cap[k]?.bind fun i=>oN[i]?)=F[k]?)) && decide ((F[k]?.bind fun x=>sc.names.lookup x)=some .free)
theorem cz {X:Cx} {osc sc:Nr} {oN F:List KH} {cap:List Nat} (ho:X.env.scope=osc) (hN:X.N=oN) (h:xX osc oN sc F cap=true):jN X sc F cap:=by
 unfold xX at h
 simp only[Mr] at h
 obtain⟨⟨⟨⟨⟨h1,h2⟩,h3⟩,h4⟩,h5⟩,h6⟩:=h
 refine⟨of_decide_eq_true h1,fun y hy e=>?_,fun y hy e=>?_,fun y hy e=>?_,of_decide_eq_true h5,fun k x e=>?_⟩
 ·have:=List.all_eq_true.mp h2 y hy
  rw[e] at this
  exact absurd this (by decide)
 ·have:=List.all_eq_true.mp h3 y hy
  rw[decide_eq_true e] at this
  exact of_decide_eq_true (by simpa using this)
 ·have:=List.all_eq_true.mp h4 y hy
  rw[decide_eq_true e] at this
  have z:decide (osc.names.lookup y.1=some .cell)=true∨decide (osc.names.lookup y.1=some .free)=true:=by
   rw[Bool.not_true,Bool.false_or,Ua] at this
   exact this
  show X.env.scope.names.lookup y.1=_∨X.env.scope.names.lookup y.1=_
  rw[ho]
  exact z.elim (fun q=>.inl (of_decide_eq_true q)) fun q=>.inr (of_decide_eq_true q)
 ·have hk:k < F.length:=(List.getElem?_eq_some_iff.mp e).1
  have q:=List.all_eq_true.mp h6 k (List.mem_range.mpr hk)
  rw[e,Mr] at q
  obtain⟨q1,q2⟩:=q
  have q1:(cap[k]?.bind fun i=>oN[i]?)=some x:=by
   rw[Ua] at q1
   rcases q1 with z | z
   ·exact absurd (of_decide_eq_true z) (by simp)
   ·exact of_decide_eq_true z
  have q2:sc.names.lookup x=some .free:=of_decide_eq_true q2
  cases hc:cap[k]? with
  | none=>rw[hc] at q1; cases q1
  | some i =>
   rw[hc] at q1
   exact⟨i,rfl,by rw[hN]; exact q1,q2⟩
theorem bV {X:Cx} {scope:Nr} {cl:List (KH × Addr)} {C:Addr} {N:List KH} {s:J4} {H:Hp} {fp:List Addr} (h:N.Nodup):(aU X scope cl C N s H fp).N.Nodup:=h
section
variable {K:Ky} {a D:Addr} {xs:List V} {g:TG} {tt:TT} {te:TE} {H1:Hp} {Q:Hp->Prop} {σ0:St}
theorem gq (Pv:Nat->List V->St->Hp->Prop) (h0:Pv 0 [] σ0 (upd H1 D (.lst []))) (hl:∀ i ys σ H,i<=xs.length->Pv i ys σ H->SqT K H a xs/\H D=some (.lst ys))
  (hs:∀ i ys x σ H,xs[i]? = some x->Pv i ys σ H->g x σ H fun σ3 H3=>tt σ3 H3 fun b H4=>if b=true then te σ3 H4 fun y H5=>H5 D=some (.lst ys)/\ys.length < sizeLine/\Pv (i+1) (ys++[y]) σ3 (upd H5 D (.lst (ys++[y]))) else Pv (i+1) ys σ3 H4)
  (hd:∀ ys σ H,Pv xs.length ys σ H->Q H):ji D σ0 (Itt K a) g tt te H1 Q:=by
 refine⟨fun i m ys σ H=>m=xs.length - i/\i<=xs.length/\Pv i ys σ H,⟨xs.length,by simp,Lb _,h0⟩,?_⟩
 rintro i m ys σ H ⟨rfl,hi,p⟩
 obtain⟨q,qD⟩:=hl i ys σ H hi p
 refine⟨qD,?_⟩
 by_cases hlt:i < xs.length
 ·refine .inr ⟨⟨xs,xs[i],q,by simp [hlt]⟩,Pv (i+1),fun zs σ' H' p'=>⟨xs.length - (i+1),by lia,rfl,hlt,p'⟩,fun x H' y=>?_⟩
  obtain⟨e,y⟩:=y
  subst e
  exact hs i ys x σ _ (y xs q) p
 ·have e:i=xs.length:=by lia
  subst e
  exact .inl ⟨⟨xs,q,Kc _⟩,hd ys σ H p⟩
theorem rD (Pv:Nat->List V->St->Hp->Prop) (h0:Pv 0 [] σ0 (upd H1 D (.lst []))) (hl:∀ i ys σ H,i<=xs.length->Pv i ys σ H->SqL K H a xs/\H D=some (.lst ys))
  (hs:∀ i ys x σ H,xs[i]? = some x->Pv i ys σ H->g x σ H fun σ3 H3=>tt σ3 H3 fun b H4=>if b=true then te σ3 H4 fun y H5=>H5 D=some (.lst ys)/\ys.length < sizeLine/\Pv (i+1) (ys++[y]) σ3 (upd H5 D (.lst (ys++[y]))) else Pv (i+1) ys σ3 H4)
  (hd:∀ ys σ H,Pv xs.length ys σ H->Q H):ji D σ0 (Itl K a) g tt te H1 Q:=by
 refine⟨fun i m ys σ H=>m=xs.length - i/\i<=xs.length/\Pv i ys σ H,⟨xs.length,by simp,Lb _,h0⟩,?_⟩
 rintro i m ys σ H ⟨rfl,hi,p⟩
 obtain⟨q,qD⟩:=hl i ys σ H hi p
 refine⟨qD,?_⟩
 by_cases hlt:i < xs.length
 ·refine .inr ⟨⟨xs,xs[i],q,by simp [hlt]⟩,Pv (i+1),fun zs σ' H' p'=>⟨xs.length - (i+1),by lia,rfl,hlt,p'⟩,fun x H' y=>?_⟩
  obtain⟨e,y⟩:=y
  subst e
  exact hs i ys x σ _ (y xs q) p
 ·have e:i=xs.length:=by lia
  subst e
  exact .inl ⟨⟨xs,q,Kc _⟩,hd ys σ H p⟩
theorem gA {lo:Int} {n:Nat} (Pv:Nat->List V->St->Hp->Prop) (h0:Pv 0 [] σ0 (upd H1 D (.lst []))) (hl:∀ i ys σ H,i<=n->Pv i ys σ H->H D=some (.lst ys))
  (hs:∀ i ys σ H,i < n->Pv i ys σ H->g (.int (lo+i)) σ H fun σ3 H3=>tt σ3 H3 fun b H4=>if b=true then te σ3 H4 fun y H5=>H5 D=some (.lst ys)/\ys.length < sizeLine/\Pv (i+1) (ys++[y]) σ3 (upd H5 D (.lst (ys++[y]))) else Pv (i+1) ys σ3 H4)
  (hd:∀ ys σ H,Pv n ys σ H->Q H):ji D σ0 (Itr lo n) g tt te H1 Q:=by
 refine⟨fun i m ys σ H=>m=n - i/\i<=n/\Pv i ys σ H,⟨n,by simp,Lb _,h0⟩,?_⟩
 rintro i m ys σ H ⟨rfl,hi,p⟩
 refine⟨hl i ys σ H hi p,?_⟩
 by_cases hlt:i < n
 ·refine .inr ⟨hlt,Pv (i+1),fun zs σ' H' p'=>⟨n - (i+1),by lia,rfl,hlt,p'⟩,fun x H' y=>?_⟩
  obtain⟨e,y⟩:=y
  subst e y
  exact hs i ys σ _ hlt p
 ·have e:i=n:=by lia
  subst e
  exact .inl ⟨Kc _,hd ys σ H p⟩
end
structure Bt (mg:KH->Option Value):Prop where
 len_:mg "len" = none
 range_:mg "range" = none
 all_:mg "all" = none
 isinstance_:mg "isinstance" = none
 int_:mg "int" = none
 bool_:mg "bool" = none
 str_:mg "str" = none
 list_:mg "list" = none
 tuple_:mg "tuple" = none
 abs_:mg "abs" = none
 max_:mg "max" = none
 min_:mg "min" = none
 sum_:mg "sum" = none
 sorted_:mg "sorted" = none
 zip_:mg "zip" = none
 reversed_:mg "reversed" = none
 divmod_:mg "divmod" = none
 set_:mg "set" = none
 any_:mg "any" = none
 enumerate_:mg "enumerate" = none
theorem bI:Lf "len" = some (.builtin "len"):=PySem.boot_len
theorem Dl:Lf "all" = some (.builtin "all"):=by decide+kernel
theorem aM:Lf "isinstance" = some (.builtin "isinstance"):=by decide+kernel
theorem xx:Lf "abs" = some (.builtin "abs"):=by decide+kernel
theorem Ik:Lf "sum" = some (.builtin "sum"):=by decide+kernel
theorem yC:Lf "int" = some (.type "int"):=by decide+kernel
theorem sS:Lf "bool" = some (.type "bool"):=by decide+kernel
theorem Cz:Lf "str" = some (.type "str"):=by decide+kernel
theorem oh:Lf "list" = some (.type "list"):=by decide+kernel
theorem cP:Lf "tuple" = some (.type "tuple"):=by decide+kernel
theorem cR (K:Ky) (T:String):O7 K (.type T) (.type T)=some true:=by
 unfold PySem.W.kitOne
 rw[if_pos (beq_self_eq_true _)]
theorem gW (K:Ky):O7 K (.type "int") (.type "bool")=some false:=by kernel_rfl
theorem mD (K:Ky):O7 K (.type "bool") (.type "int")=some true:=by kernel_rfl
theorem wB (K:Ky):O7 K (.type "int") (.type "str")=some false:=by kernel_rfl
theorem sW (K:Ky):O7 K (.type "bool") (.type "str")=some false:=by kernel_rfl
theorem pq (K:Ky):O7 K (.type "tuple") (.type "str")=some false:=by kernel_rfl
theorem tL (K:Ky):O7 K (.type "list") (.type "str")=some false:=by kernel_rfl
theorem qw (K:Ky):O7 K (.type "tuple") (.type "int")=some false:=by kernel_rfl
theorem tX (K:Ky):O7 K (.type "list") (.type "int")=some false:=by kernel_rfl
theorem iI (K:Ky):O7 K (.type "tuple") (.type "list")=some false:=by kernel_rfl
theorem iW (K:Ky):O7 K (.type "list") (.type "tuple")=some false:=by kernel_rfl
theorem wN (K:Ky):O7 K (.type "str") (.type "int")=some false:=by kernel_rfl
end L2
namespace L2
open PySem PySem.Spec PyProof.Rows
inductive Dm where
 | non | bl (b:Bool) | int (i:Int) | str (x:KH) | tup (ds:List Dm) | lst (ds:List Dm)
mutual
def Dm.dep:Dm->Nat
 | .tup ds=>jF ds+1
 | .lst ds=>jF ds+1
 | _=>0
def jF:List Dm->Nat
 | []=>0
 | d::r=>max d.dep (jF r)
end
mutual
inductive Rep (H:Hp):V->Dm->Prop where
 | non:Rep H .non .non
 | bl (b:Bool):Rep H (.bl b) (.bl b)
 | int (i:Int):Rep H (.int i) (.int i)
 | str (x:KH):Rep H (.str x) (.str x)
 | tup {a:Addr} {xs:List V} {ds:List Dm}:H a=some (.tup xs)->xs.length<=100000->jf H xs ds->Rep H (.ref a) (.tup ds)
 | lst {a:Addr} {xs:List V} {ds:List Dm}:H a=some (.lst xs)->xs.length<=100000->jf H xs ds->Rep H (.ref a) (.lst ds)
inductive jf (H:Hp):List V->List Dm->Prop where
 | nil:jf H [] []
 | cons {v:V} {d:Dm} {vs:List V} {ds:List Dm}:Rep H v d->jf H vs ds->jf H (v::vs) (d::ds)
end
mutual
theorem Rep.mono {H H':Hp} (e:aR H H'):∀ {v:V} {d:Dm},Rep H v d->Rep H' v d
 | _,_,.non=>.non
 | _,_,.bl b=>.bl b
 | _,_,.int i=>.int i
 | _,_,.str x=>.str x
 | _,_,.tup h l r=>.tup (e _ _ h) l (jf.mono e r)
 | _,_,.lst h l r=>.lst (e _ _ h) l (jf.mono e r)
theorem jf.mono {H H':Hp} (e:aR H H'):∀ {vs:List V} {ds:List Dm},jf H vs ds->jf H' vs ds
 | _,_,.nil=>.nil
 | _,_,.cons h r=>.cons (Rep.mono e h) (jf.mono e r)
end
theorem jf.length {H:Hp}:∀ {vs:List V} {ds:List Dm},jf H vs ds->vs.length=ds.length
 | _,_,.nil=>rfl
 | _,_,.cons _ r=>by rw[KZ,KZ,jf.length r]
theorem jf.get {H:Hp}:∀ {vs:List V} {ds:List Dm} {i:Nat},jf H vs ds->i < vs.length->∃ v d,vs[i]? = some v/\ds[i]? = some d/\Rep H v d
 | _,_,_,.nil,h=>absurd h (T9 _)
 | _,_,0,.cons h _,_=>⟨_,_,rfl,rfl,h⟩
 | _,_,i+1,.cons _ r,h=>by
  obtain⟨v,d,e1,e2,e3⟩:=jf.get (i:=i) r (Nat.lt_of_succ_lt_succ h)
  exact⟨v,d,by simpa using e1,by simpa using e2,e3⟩
theorem j4:∀ {ds:List Dm} {i:Nat} {d:Dm},ds[i]? = some d->d.dep<=jF ds
 | [],_,_,h=>by simp at h
 | d::r,0,_,h=>by
  cases (show some d=some _ from h)
  rw[jF]
  exact Nat.le_max_left _ _
 | d::r,i+1,_,h=>by
  rw[jF]
  exact K7 (j4 (i:=i) (ds:=r) (by simpa using h)) (Nat.le_max_right _ _)
section
variable {X:Cx}
inductive Gq (K:Ky) (x:V) (y:V) (H:Hp) (Q:VK):Prop where
 | mk (a b:Addr) (xs:List V) (z0:x = .ref a) (z1:y = .ref b) (z2:SqL K H a xs) (z3:SqL K H b []) (z4:Q (.bl (!xs.isEmpty)) H):Gq K x y H Q
def Jy (K:Ky):R2:=fun x y H Q=>Gq K x y H Q
theorem GJ (hu:X.A.units < cLine):OpR X (Oe .NotEq) (Jy X.K):=by
 intro pins s σ H x y v u Q I rx ry h
 obtain⟨a,b,xs,rfl,rfl,ha,hb,q⟩:=h
 cases rx
 cases ry
 obtain⟨its,r1,p1,_⟩:=I.list ha
 obtain⟨its2,r2,p2,_⟩:=I.list hb
 cases r2
 cases r1 with
 | nil=>exact SeqAt.RcNeAt.lists (e:=fun _=>true) p1.isList p2.isList rfl hu (fun j h1 _=>absurd h1 (by simp)) X.prog X.w X.xe _ ⟨.bl false,H,I,rfl,q⟩
 | cons r t=>exact SeqAt.RcNeAt.lists_lengths p1.isList p2.isList (by simp) hu X.prog X.w X.xe _ ⟨.bl true,H,I,rfl,q⟩
end
end L2
namespace L2
open PySem PySem.Spec PyProof.Rows
section
variable {prog:Kq} {w:K1} {A:KY} {E:Value->J4->Prop} {s:J4}
end
end L2
namespace L2
open PySem PySem.Spec PyProof.Rows
theorem iG {X:Cx} {pos:Qs} {K:Ky} {es:List Expr} {k:Nat} {t:TGs} (n:Nat) (hK:X.K=K) (hc:X.calm=true) (h:PGs X es t)
  (hn:(Qo es X.env).length=n:=by rfl) (hst:(Qo es X.env).findIdx? (·.1)=none:=by rfl):PG X (.Tuple es k pos) (Jj K n t):=by
 subst hK
 exact Ii hc h hn hst
section
variable {X:Cx}
inductive yE (K:Ky) (x:V) (y:V) (H:Hp) (Q:VK):Prop where
 | mk (a b:Addr) (xs ys:List V) (z0:x = .ref a) (z1:y = .ref b) (z2:SqT K H a xs) (z3:SqT K H b ys) (z4:xs.length+ys.length<=sizeLine) (z5:(xs=[]->Q (.ref b) H)) (z6:(xs≠[]->ys=[]->Q (.ref a) H)) (z7:(xs≠[]->ys≠[]->∀ p,H p=none->Q (.ref p) (upd H p (.tup (xs++ys))))):yE K x y H Q
def nJ (K:Ky):R2:=fun x y H Q=>yE K x y H Q
theorem j6:OpR X (PJ .Add) (nJ X.K):=by
 intro pins s σ H x y v u Q I rx ry h
 obtain⟨a,b,xs,ys,rfl,rfl,ha,hb,hz,q0,q1,q2⟩:=h
 by_cases hx:xs=[]
 ·subst hx
  cases rx
  cases ry
  obtain⟨its,r1,p1,_⟩:=I.tuple ha
  obtain⟨its2,r2,p2,_⟩:=I.tuple hb
  cases r1
  obtain⟨⟨c1,d1,dt1,sl1⟩,ho,hc,n,hd⟩:=id p1
  obtain⟨⟨c2,d2,dt2,sl2⟩,ho2,hc2,n2,hd2⟩:=id p2
  simp only at hc hd hc2 hd2
  subst hc hd hc2 hd2
  exact concat_meets ⟨_,ho,rfl⟩ ⟨_,ho2,rfl⟩ Tw seq_tuple_add Rv Rr (Rk _ _) (tuple_addW0 a b _ _ n n2 d1 d2 sl1 sl2 rfl) ⟨ho,ho2,⟨.ref b,H,I,rfl,q0 rfl⟩⟩
 ·exact Fy pins s σ H _ _ v u Q I rx ry ⟨a,b,xs,ys,rfl,rfl,ha,hb,hx,hz,q1 hx,q2 hx⟩
end
end L2
namespace L2
open PySem PySem.Spec PyProof.Rows
section
variable {X:Cx}
inductive Dv (K:Ky) (xs:List V) (H:Hp) (Q:VK):Prop where
 | mk (p:Addr) (ns:List Int) (z0:xs=[.ref p]) (z1:SqL K H p (ns.map V.int)) (z2:Q (.int ns.sum) H):Dv K xs H Q
def Gv (K:Ky):List V->Hp->VK->Prop:=fun xs H Q=>Dv K xs H Q
theorem zW (hc:X.calm=true):jk X (.builtin "sum") (Gv X.K):=by
 intro pins s σ H xs us Q I r h
 obtain⟨p,ns,rfl,hq,q⟩:=h
 obtain⟨u,rfl,ru⟩:=vals1 r
 cases ru
 obtain⟨its,rv,pl,hz⟩:=I.list hq
 have hi:Mi its ns:=intsAre_of rv
 obtain⟨zs,hx⟩:=hi.allInts.items
 have hl':s.heap.IsList p (intItems zs):=hx▸pl.isList
 refine sum_intListG (I.ok.hd hc) hl' fun h' tk t' hk=>?_
 have e1:ns=zs.toList.map (·.1):=by
  rw[← nums_intItems,← hx]
  exact (show numsOf its.toArray.toList=ns from hi.numsOf).symm
 have e2:preSum (numAt zs) zs.size=ns.sum:=by
  rw[preSum_eq,List.take_of_length_le (by simp),e1]
 rw[e2]
 exact⟨.int _,H,I.kept (t':=tk) hk,⟨_,rfl⟩,q⟩
end
end L2
namespace L2
open PySem PySem.Spec PyProof.Rows
end L2
namespace L2
open PySem
def Ris (xs:Array Nat):Prop:=xs.toList.Pairwise (· < ·)
theorem vh {xs:Array Nat} (h:Ris xs) {i j x y:Nat} (hij:i < j) (hi:xs[i]? = some x) (hj:xs[j]? = some y):x < y:=by
 rw[← Lx] at hi hj
 obtain⟨li,ei⟩:=List.getElem?_eq_some_iff.mp hi
 obtain⟨lj,ej⟩:=List.getElem?_eq_some_iff.mp hj
 have:=List.pairwise_iff_getElem.mp h i j li lj hij
 rw[ei,ej] at this
 exact this
theorem nQ {xs:Array Nat} (h:Ris xs) (j:Nat):∀ (fuel lo hi:Nat),hi - lo<=fuel->lo<=hi->hi<=xs.size->(∀ i x,i < lo->xs[i]? = some x->x < j)->(∀ i x,hi<=i->xs[i]? = some x->j<=x) →
  Qj xs j fuel lo hi<=xs.size/\(∀ i x,i < Qj xs j fuel lo hi->xs[i]? = some x->x < j)/\(∀ i x,Qj xs j fuel lo hi<=i->xs[i]? = some x->j<=x)
 | 0,lo,hi,hf,hl,hs,h1,h2=>by
  rw[Qj]
  have e:lo=hi:=by lia
  subst e
  exact⟨hs,h1,h2⟩
 | fuel+1,lo,hi,hf,hl,hs,h1,h2=>by
  rw[Qj]
  by_cases hlt:lo < hi
  ·rw[if_pos hlt]
   dsimp only
   have hm1:lo<=(lo+hi) / 2:=by lia
   have hm2:(lo+hi) / 2 < hi:=by lia
   have hms:(lo+hi) / 2 < xs.size:=by lia
   generalize (lo+hi) / 2=m at *
   have eg:xs[m]? = some xs[m]:=Kw hms
   have ed:xs.getD m j=xs[m]:=by rw[Nv,eg]; rfl
   rw[ed]
   by_cases hc:xs[m] < j
   ·rw[if_pos hc]
    refine nQ h j fuel (m+1) hi (by lia) (by lia) hs (fun i x hi' e=>?_) h2
    by_cases hm:i=m
    ·subst hm
     rw[eg] at e
     cases e
     exact hc
    ·exact Tg (vh h (show i < m by lia) e eg) hc
   ·rw[if_neg hc]
    refine nQ h j fuel lo m (by lia) hm1 (by lia) h1 (fun i x hi' e=>?_)
    by_cases hm:i=m
    ·subst hm
     rw[eg] at e
     cases e
     lia
    ·have:=vh h (show m < i by lia) eg e
     lia
  ·rw[if_neg hlt]
   have e:lo=hi:=by lia
   subst e
   exact⟨hs,h1,h2⟩
theorem ou {xs:Array Nat} (h:Ris xs) (j:Nat):Ma xs j<=xs.size/\(∀ i x,i < Ma xs j->xs[i]? = some x->x < j)/\(∀ i x,Ma xs j<=i->xs[i]? = some x->j<=x):=by
 unfold Ma
 refine nQ h j xs.size 0 xs.size (by lia) (Lb _) (Kc _) (fun i x hi=>absurd hi (T9 _)) fun i x hi e=>?_
 rw[Ow hi] at e
 cases e
theorem below_at {xs:Array Nat} (h:Ris xs) {i x:Nat} (e:xs[i]? = some x):Ma xs (x+1)=i+1:=by
 obtain⟨h1,h2,h3⟩:=ou h (x+1)
 have hi:i < xs.size:=(Array.getElem?_eq_some_iff.mp e).1
 generalize Ma xs (x+1)=p at *
 rcases Nat.lt_trichotomy p (i+1) with hp | hp | hp
 ·have:=h3 i x (by lia) e
  lia
 ·exact hp
 ·have hs:i+1 < xs.size:=by lia
  have:=vh h (Oi i) e (Kw hs)
  have:=h2 (i+1) _ hp (Kw hs)
  lia
theorem vJ {xs:Array Nat} (h:Ris xs):Ma xs 0=0:=by
 obtain⟨h1,h2,h3⟩:=ou h 0
 generalize Ma xs 0=p at *
 rcases Nat.eq_zero_or_pos p with hp | hp
 ·exact hp
 ·have hs:0 < xs.size:=by lia
  have:=h2 0 _ hp (Kw hs)
  lia
theorem Fe {xs:Array Nat} (h:Ris xs) {j:Nat} (hj:xs[Ma xs j]?≠some j):Ris (SetTable.insertAt xs (Ma xs j) j):=by
 obtain⟨h1,h2,h3⟩:=ou h j
 unfold Ris
 rw[SetTable.toList_insertAt]
 generalize hp:Ma xs j=p at *
 have hh:xs.toList.Pairwise (· < ·):=h
 have hlt:∀ x∈xs.toList.take p,x < j:=fun x hx=>by
  obtain⟨i,hi,e⟩:=Py hx
  rw[Lk] at hi
  rw[List.getElem_take] at e
  exact h2 i x (by lia) (by rw[← Lx,Kd (by lia),e])
 have hgt:∀ x∈xs.toList.drop p,j < x:=fun x hx=>by
  obtain⟨i,hi,e⟩:=Py hx
  rw[TV] at hi
  rw[List.getElem_drop] at e
  have ex:xs[p+i]? = some x:=by rw[← Lx,Kd (by lia),e]
  have:=h3 (p+i) x (by lia) ex
  rcases Nat.lt_or_ge j x with q | q
  ·exact q
  ·have ejx:x=j:=by lia
   subst ejx
   by_cases hi0:i=0
   ·subst hi0
    exact absurd ex hj
   ·have hps:p < xs.size:=by
     have:=(Array.getElem?_eq_some_iff.mp ex).1
     lia
    have:=vh h (show p < p+i by lia) (Kw hps) ex
    have:=h3 p _ (Kc _) (Kw hps)
    lia
 rw[List.pairwise_append]
 refine⟨hh.sublist (List.take_sublist _ _),List.pairwise_cons.mpr ⟨hgt,hh.sublist (List.drop_sublist _ _)⟩,fun a ha b hb=>?_⟩
 rcases List.mem_cons.mp hb with rfl | hb
 ·exact hlt a ha
 ·exact Tg (hlt a ha) (hgt b hb)
def mG (t:Pa) (j:Nat):Prop:=t.place[Ma t.place j]?≠some j
theorem nC {t:Pa} {j:Nat} (h:t.slot j = .empty∨t.slot j = .dummy):mG t j:=by
 intro e
 unfold SetTable.slot at h
 dsimp only at h
 rw[e,if_pos (by exact beq_self_eq_true _)] at h
 rcases h with h | h <;> cases h
theorem jj {t:Pa} {f:Nat->Int} {h:Int}:∀ (fuel:Nat) (p:SetTable.Probe) {j:Nat} {d:Option Nat},(∀ x,p.dummy=some x->mG t x)->Tc t f h fuel p=some (.empty j d)->mG t j/\∀ x,d=some x->mG t x
 | 0,_,_,_,_,e=>by rw[Tc] at e; cases e
 | fuel+1,p,j,d,hd,e=>by
  rw[Tc] at e
  have adv:∀ q:SetTable.Probe,(t.advance q).dummy=q.dummy:=fun q=>by
   unfold SetTable.advance
   split <;> rfl
  cases hs:t.slot p.j with
  | empty =>
   rw[hs] at e
   cases e
   exact⟨nC (.inl hs),hd⟩
  | dummy =>
   rw[hs] at e
   dsimp only at e
   refine jj fuel _ (fun x hx=>?_) e
   rw[adv] at hx
   cases hx
   exact nC (.inr hs)
  | live i =>
   rw[hs] at e
   dsimp only at e
   by_cases hc:(f i == h)=true
   ·rw[if_pos hc] at e
    cases e
   ·rw[if_neg hc] at e
    exact jj fuel _ (fun x hx=>by rw[adv] at hx; exact hd x hx) e
theorem sO {t:Pa} {h:Int} {j:Nat} {b:Bool} (e:t.freeSlot h=some (j,b)):mG t j:=by
 unfold SetTable.freeSlot SetTable.probe at e
 split at e
 ·rename_i j' d hp
  obtain⟨h1,h2⟩:=jj _ _ (fun x hx=>by cases hx) hp
  cases e
  cases d with
  | none=>exact h1
  | some x=>exact h2 x rfl
 ·cases e
structure TOk (b:Bool) (t:Pa):Prop where
 led:t.led=b
 ris:t.plain=true->Ris t.place
theorem zp (b:Bool):TOk b (.fresh 0 0 b):=⟨rfl,fun _=>Tn⟩
theorem fc {b:Bool} {t:Pa} (h:TOk b t) (n:Nat):TOk b (t.standIn n):=⟨h.led,fun z=>by cases z⟩
theorem wI {b:Bool} {t:Pa} (h:TOk b t) (es:Array (Int × Value)) (k:Int) (x:Value):TOk b (layNew t es k x).2.1:=by
 unfold layNew
 split
 ·rename_i slot wd e
  dsimp only
  unfold SetTable.orStandIn
  have ht:TOk b (t.put slot).1:=⟨h.led,fun z=>Fe (h.ris z) (sO e)⟩
  split
  ·exact ht
  ·exact fc ht _
 ·exact fc h _
theorem Cw (owner:Array (Option Nat)):∀ l:List Nat,l.Pairwise (· < ·)->((l.filterMap fun j=>(owner.getD j none).map (j,·)).map (·.1)).Pairwise (· < ·):=fun l hl=>by
 have hs:List.Sublist ((l.filterMap fun j=>(owner.getD j none).map (j,·)).map (·.1)) l:=by
  induction l with
  | nil=>exact List.Sublist.slnil
  | cons a r ih =>
   have ih:=ih (List.pairwise_cons.mp hl).2
   rw[QD]
   cases e:owner.getD a none with
   | none=>exact ih.cons _
   | some k=>exact ih.cons₂ _
 exact hl.sublist hs
theorem pN {b:Bool} {t:Pa} (h:TOk b t) (es:Array (Int × Value)) (m:Nat):TOk b (SX t es m).2.1:=by
 unfold SX
 split
 ·rename_i t' order e
  dsimp only
  split
  ·unfold SetTable.relaid SetTable.laid at e
   cases ho:SetTable.layClean (SetTable.sizeAbove m - 1) (es.map (·.1)) with
   | none=>rw[ho] at e; cases e
   | some owner =>
    rw[ho] at e
    cases e
    exact⟨h.led,fun _=>Cw owner _ List.pairwise_lt_range⟩
  ·exact fc h _
 ·exact fc h _
end L2
namespace L2
open PySem PySem.Spec PyProof.Rows
section
variable {P:Kq} {w:K1} {A:KY} {E:Value->J4->Prop} {s:J4}
def jl (P:Kq) (w:K1) (b:Bool) (h:Lh) (a:Addr) (ks:List Int):Prop :=
 ∃ o es ep t,h.get? a=some o/\o.ExactSet/\o.data = .set es ep t/\ElemsOf (Pn P w) es.toList/\t.fits es.size=true/\TOk b t/\∃ ns,Mi (es.toList.map (·.2)) ns/\ns.Perm ks
theorem dD {l l':List Value} (p:l.Perm l'):∀ {ns:List Int},Mi l ns->∃ ms,Mi l' ms/\ms.Perm ns:=by
 induction p with
 | nil=>intro ns h; exact⟨ns,h,.refl _⟩
 | cons x p ih =>
  intro ns h
  cases h with
  | cons n t r =>
   obtain⟨ms,h1,h2⟩:=ih r
   exact⟨n::ms,.cons n t h1,h2.cons n⟩
 | swap x y l =>
  intro ns h
  cases h with
  | cons n t r =>
   cases r with
   | cons m u r=>exact⟨m::n::_,.cons m u (.cons n t r),.swap _ _ _⟩
 | trans p q ih1 ih2 =>
  intro ns h
  obtain⟨ms,h1,h2⟩:=ih1 h
  obtain⟨ks,h3,h4⟩:=ih2 h1
  exact⟨ks,h3,h4.trans h2⟩
theorem jL {k:Int} {t:Tok}:∀ {l:List Value} {ns:List Int},Mi l ns->Mi (l++[.int k t]) (ns++[k])
 | _,_,.nil=>.cons k t .nil
 | _,_,.cons n u r=>.cons n u (jL r)
theorem lM {k:Int}:∀ {l:List Value} {ns:List Int},Mi l ns->(k∈ns ↔ ∃ v∈l,(Pn P w).is k v=true)
 | _,_,.nil=>by simp
 | _,_,.cons n t r=>by
  have ih:=lM (k:=k) r
  have e:(Pn P w).is k (.int n t)=decide (k=n):=KeyKind.is_eq_decide (intKind_is _ _ _ _) k
  rw[Rm,ih]
  constructor
  ·rintro (h | ⟨v,hv,q⟩)
   ·exact⟨_,KD,by rw[e]; exact decide_eq_true h⟩
   ·exact⟨v,KC _ hv,q⟩
  ·rintro⟨v,hv,q⟩
   rcases List.mem_cons.mp hv with rfl | hv
   ·rw[e] at q
    exact .inl (of_decide_eq_true q)
   ·exact .inr ⟨v,hv,q⟩
theorem jM {b:Bool} {h:Lh} {a:Addr} {o:NB} {es es':Array (Int × Value)} {ep:Nat} {t t':Pa} {ks:List Int} (ho:h.get? a=some o) (hx:o.ExactSet) (hd:o.data = .set es ep t)
  (hel:ElemsOf (Pn P w) es'.toList) (hf:t'.fits es'.size=true) (tk:TOk b t') (hn:∃ ns,Mi (es'.toList.map (·.2)) ns/\ns.Perm ks) :
  (h.update a (SM es' t')).get? a=some { o with data:=.set es' (ep+1) t' }/\jl P w b (h.update a (SM es' t')) a ks:=by
 have g:(h.update a (SM es' t')).get? a=some { o with data:=.set es' (ep+1) t' }:=by
  have q:=KN (SM es' t') ho (by rw[putSet_of es' t' hd]; rfl)
  rwa [putSet_of es' t' hd] at q
 exact⟨g,_,es',ep+1,t',g,hx,rfl,hel,hf,tk,hn⟩
theorem FQ {b:Bool} {a:Addr} {ks:List Int} {k:Int} {t0:Tok} {Q:Bool->J4->Prop} (hS:jl P w b s.heap a ks) (hroom:ks.length+1 < scanBound)
  (h:∀ h' r,Pu a s.heap h'->jl P w b h' a (step_dedup ks k)->Q r { s with heap:=h' }):Ke (Kl P w) A (setAddHashed a (.int k t0) ((Pn P w).hash k)) Q E s:=by
 obtain⟨o,es,ep,t,ho,hx,hd,hel,hf,tk,ns,hi,hp⟩:=hS
 have key:(Pn P w).is k (.int k t0)=true:=intKind_is _ _ _ _
 have hlen:es.size=ks.length:=by
  rw[← hp.length_eq,← hi.length,J8,Le]
 have hb:es.size < scanBound:=by lia
 have hm:=lM (P:=P) (w:=w) (k:=k) hi
 unfold setAddHashed setAddHashedIn
 refine MT (J3 (OD ho hd hf ?_))
 dsimp only
 rw[byScan_of rfl hb hel]
 simp only[↓reduceIte]
 unfold setAddByScan
 refine J3 (J3 (QM (J3 (wpAny_setScan_of key ho hd hf hel ?_))))
 cases hr:es.toList.findIdx? (fun e=>(Pn P w).is k e.2) with
 | some j =>
  dsimp only
  obtain⟨hj,q,_⟩:=List.findIdx?_eq_some_iff_getElem.mp hr
  have hk:k∈ks:=hp.mem_iff.mp (hm.mpr ⟨es.toList[j].2,List.mem_map.mpr ⟨_,List.getElem_mem hj,rfl⟩,q⟩)
  have es0:step_dedup ks k=ks:=by
   unfold step_dedup
   have hany:(ks.any fun x=>x == k)=true:=List.any_eq_true.mpr ⟨k,hk,beq_self_eq_true k⟩
   rw[if_pos hany]
  have q':=h s.heap false (Heap.SameBut.refl a s.heap) (by rw[es0]; exact⟨o,es,ep,t,ho,hx,hd,hel,hf,tk,ns,hi,hp⟩)
  exact J7 (J7 q')
 | none =>
  dsimp only
  have hk:k ∉ ks:=fun z=>by
   obtain⟨v,hv,q⟩:=hm.mp (hp.mem_iff.mpr z)
   obtain⟨e,he,rfl⟩:=List.mem_map.mp hv
   rw[List.findIdx?_eq_none_iff.mp hr e he] at q
   cases q
  have es0:step_dedup ks k=ks++[k]:=by
   unfold step_dedup
   rw[if_neg]
   intro z
   obtain⟨x,hx',e⟩:=List.any_eq_true.mp z
   exact hk (by rw[← eq_of_beq e]; exact hx')
  rw[es0] at h
  have pm:=layNew_perm t es ((Pn P w).hash k) (.int k t0)
  have ft:=layNew_fits t es ((Pn P w).hash k) (.int k t0)
  have tk1:=wI tk es ((Pn P w).hash k) (.int k t0)
  generalize layNew t es ((Pn P w).hash k) (.int k t0)=L at pm ft tk1 ⊢
  obtain⟨es1,t1,wd,gv⟩:=L
  dsimp only at pm ft tk1 ⊢
  rw[Array.toList_push] at pm
  have hel1:ElemsOf (Pn P w) es1.toList:=(hel.push key rfl).perm pm
  have hn1:∃ ns,Mi (es1.toList.map (·.2)) ns/\ns.Perm (ks++[k]):=by
   have i1:Mi ((es.toList++[((Pn P w).hash k,Og k t0)]).map (·.2)) (ns++[k]):=by
    rw[K3]
    exact jL hi
   obtain⟨ms,h1,h2⟩:=dD (pm.symm.map (·.2)) i1
   exact⟨ms,h1,h2.trans (hp.append (.refl _))⟩
  have hs1:es1.size<=sizeLine:=by
   have:es1.size=es.size+1:=by rw[← Le,pm.length_eq,KR,Le]; rfl
   exact fits_of_scanBound (by lia)
  have gw:∀ (b:Bool) {s₁:J4} {Q':Unit->J4->Prop},Q' () s₁->Ke (Kl P w) A (match b with | true=>rule "set.scan.the-table-gave-way" | false=>pure ()) Q' E s₁:=fun b s₁ Q' hq=>by
   cases b
   ·exact J7 hq
   ·exact QM hq
  have tail:∀ (g:Bool->Sem Unit) (R:Option Bool->J4->Prop) (t2:Pa),(∀ (b:Bool) (s₁:J4) (Q':Unit->J4->Prop),Q' () s₁->Ke (Kl P w) A (g b) Q' E s₁)->t2.fits es1.size=true->TOk b t2 →
    (∀ h',Pu a s.heap h'->jl P w b h' a (ks++[k])->R (some true) { s with heap:=h' })->Ke (Kl P w) A (do
    storeSet a es1 t2
    if (!wd && t2.tooFull)=true then do
      g (SX t2 es1 (O9 es1.size)).2.2
      storeSet a (SX t2 es1 (O9 es1.size)).1 (SX t2 es1 (O9 es1.size)).2.1
      pure (some true)
     else pure (some true)) R E s:=fun g R t2 hg f2 k2 hR=>by
   refine J3 (wpAny_storeSet_of ho hd ?_ hs1)
   obtain⟨ho1,hS1⟩:=jM (P:=P) (w:=w) ho hx hd hel1 f2 k2 hn1
   have sb1:=Mf s.heap a (SM es1 t2)
   split
   ·have pr:=relayAll_perm t2 es1 (O9 es1.size)
    have fr:=relayAll_fits t2 es1 (O9 es1.size)
    have tr:=pN k2 es1 (O9 es1.size)
    generalize SX t2 es1 (O9 es1.size)=R at pr fr tr ⊢
    obtain⟨es2,t3,g2⟩:=R
    dsimp only at pr fr tr ⊢
    have hn2:∃ ns,Mi (es2.toList.map (·.2)) ns/\ns.Perm (ks++[k]):=by
     obtain⟨ns1,i1,p1⟩:=hn1
     obtain⟨ms,h1,h2⟩:=dD (pr.symm.map (·.2)) i1
     exact⟨ms,h1,h2.trans p1⟩
    have hs2:es2.size<=sizeLine:=by
     have:es2.size=es1.size:=by rw[← Le,pr.length_eq,Le]
     lia
    refine J3 (hg _ _ _ (J3 (wpAny_storeSet_of ho1 rfl ?_ hs2)))
    obtain⟨_,hS2⟩:=jM (P:=P) (w:=w) ho1 hx rfl (hel1.perm pr) fr tr hn2
    exact J7 (hR _ (sb1.trans (Mf _ a _)) hS2)
   ·exact J7 (hR _ sb1 hS1)
  refine J3 (gw _ ?_)
  split
  ·refine J3 ?_
   rw[hashByValue_scannable 8 rfl]
   refine J7 (tail _ _ _ (fun b s₁ Q' hq=>gw b hq) ?_ ?_ fun h' sb hS=>J7 (h h' true sb hS))
   ·exact ft
   ·exact tk1
  ·exact J3 (J7 (tail _ _ _ (fun b s₁ Q' hq=>gw b hq) ft tk1 fun h' sb hS=>J7 (h h' true sb hS)))
end
end L2
namespace L2
open PySem PySem.Spec PyProof.Rows
theorem ju {P:Kq} {w:K1} {b:Bool} {h h':Lh} {a:Addr} {ks:List Int} (hk:∀ o,h.get? a=some o->h'.get? a=some o) (hS:jl P w b h a ks):jl P w b h' a ks:=by
 obtain⟨o,es,ep,t,ho,r⟩:=hS
 exact⟨o,es,ep,t,hk o ho,r⟩
section
variable {P:Kq} {w:K1} {A:KY} {R:QT->J4->Prop} {I:Addr} {fp wr:List Addr} {G:Array Tp->Array Tp->Prop} {n:Nat} {Pv:Nat->Value->Prop} {St:Nat->J4->Prop} {b:Bool}
theorem BJ (W:WalksS P w A.in1 I fp wr G n Pv St) (S:Addr) (hS:S ∉ fp) (val:Nat->Int) (hv:∀ i v,Pv i v->∃ t,v = .int (val i) t) (hb:n+1 < scanBound) :
  ∀ (k i:Nat) (s:J4),n - i=k->i<=n->St i s->jl P w b s.heap S (firstMet val i)->(∀ s',Moved (S::wr) G s s'->jl P w b s'.heap S (firstMet val n)->R (.ok (.ret .none)) s') →
   LQ (Kl P w) A (.builtin "set.update.loop" ⟨[.ref S,.ref I],[]⟩) R s:=by
 have nw:S ∉ wr:=fun z=>hS (W.sub _ z)
 have sub:∀ x∈wr,x∈S::wr:=fun x hx=>KC _ hx
 intro k
 induction k with
 | zero =>
  intro i s hk hi st hs hR
  obtain rfl:i=n:=by lia
  refine Mw F.entry_set_update_loop ?_
  rw[MN Rt _]
  refine (show Ke _ A.in1 (Oz (.ref I) >>= _) _ _ s from J3 (W.done s _ _ st fun s' hm=>?_))
  exact (show Ke _ A.in1 (ret LR) _ _ s' from J7 (hR s' (hm.mono sub) (ju (fun o e=>hm.heap S o nw e) hs)))
 | succ k ih =>
  intro i s hk hi st hs hR
  have lt:i < n:=by lia
  refine Mw F.entry_set_update_loop ?_
  rw[MN Rt _]
  refine (show Ke _ A.in1 (Oz (.ref I) >>= _) _ _ s from J3 (W.item i s _ _ lt st fun v s' hP st' hm=>?_))
  obtain⟨t,rfl⟩:=hv i v hP
  have hs':=ju (h':=s'.heap) (fun o e=>hm.heap S o nw e) hs
  have room:(firstMet val i).length+1 < scanBound:=by
   have:=firstMet_length_le val i
   lia
  refine (show Ke _ A.in1 (Qu [Og (val i) t] (setAdd S (.int (val i) t)) >>= _) _ _ s' from J3 (MT ?_))
  unfold setAdd
  refine MT (J3 ((Pn P w).pyHash (k:=val i) (intKind_is _ _ _ _) ?_))
  refine FQ (s:={ s' with toks:=s'.toks+1 }) hs' room fun h' r sb hn=>?_
  rw[← firstMet_succ] at hn
  refine J7 ⟨N7 Rt _,ih (i+1) _ (by lia) lt (W.frame _ s' _ _ st' (M9 _) fun x hx o e=>?_) hn fun s'' hm'' hs''=>?_⟩
  ·rw[sb.2 x (fun z:x=S=>hS (by rw[← z]; exact hx))]
   exact e
  ·refine hR s'' (Moved.trans W.gtrans ((hm.mono sub).then_heap (M9 _) fun x o hx e=>?_) hm'') hs''
   rw[sb.2 x (fun z:x=S=>hx (by rw[z]; exact KD))]
   exact e
end
end L2
namespace L2
open PySem PySem.Spec PyProof.Rows
section
variable {P:Kq} {w:K1} {A:KY} {E:Value->J4->Prop} {s:J4}
def Bs (w:K1):Bool:=!w.params.followText "set-order"
def newS (w:K1):NB:={ cls:=.type "set",dict:=none,data:=.set #[] 0 (.fresh 0 0 (Bs w)) }
theorem DW (a:Value) {Q₁:Value->J4->Prop} (h:Q₁ (.ref s.heap.objs.size) { s with heap:=s.heap.push (newS w) }) :
  LQ (Kl P w) A (.call (.builtin "set.__new__") ⟨[.type "set",a],[]⟩) (wants Q₁ E) s:=by
 refine RK (show Ke _ A.in1 (do Pq "set.__new__" ⟨[.type "set",a],[]⟩; again (.builtin "set.__new__" ⟨[.type "set",a],[]⟩)) _ _ s from ?_)
 refine J3 (Nx (PySem.F.newCall_set_1 a) (J7 ⟨N7 PySem.F.plain_set_new _,Mw PySem.F.entry_set_new ?_⟩))
 rw[MN PySem.F.plain_set_new _]
 unfold O2.«set.__new__» Builtin.Frozenset.newClass; have hsub:=sub_set_self; obtain⟨hp,g,d,tk,os⟩:=s
 dsimp only
 wp_walk
 refine Oc (J7 ?_)
 dsimp only
 simp only[newObj]; refine J3 (wpAny_alloc (J7 ?_))
 exact J7 h
end
end L2
namespace L2
open PySem PySem.Spec PyProof.Rows
section
variable {P:Kq} {w:K1} {A:KY} {E:Value->J4->Prop} {s:J4}
set_option maxRecDepth 100000 in
set_option maxHeartbeats 3200000 in
theorem tW {l:Addr} {items:Array Value} {ns:List Int} {Q:Value->J4->Prop} (hh:A.handled=none) (hl:s.heap.IsList l items) (hi:Mi items.toList ns) (hb:items.size+1 < scanBound)
  (h:∀ (h':Lh) (tk:Nat),jl P w (Bs w) h' s.heap.objs.size (firstMet (fun i=>ns.getD i 0) items.size)->(∀ b o,b < s.heap.objs.size->s.heap.get? b=some o->h'.get? b=some o)->Q (.ref s.heap.objs.size) { s with heap:=h',toks:=tk }) :
  Ke (Kl P w) A (call (.type "set") [.ref l]) Q E s:=by
 obtain⟨c,tl,hmro⟩:=PySem.F.called_set.mro
 have hmade:=PySem.F.called_set.made
 have hsub:=PySem.F.called_set.sub
 refine O4 (RK (show Ke _ _ (callAny (.type "set") _) _ _ _ from J7 ⟨Q0 _ (by decide+kernel),Mw PySem.F.entry_type_call ?_⟩))
 rw[Around.under_plain (weight_type_call_type "set" [.ref l] []) rfl]
 have h1:=PySem.F.called_set.notType
 have h2:=PySem.F.called_set.canCreate
 have hct:=PySem.F.typeCall_set_1 (.ref l)
 repeat (any_goals (first | assumption | wp_step))
 refine Nt (DW (.ref l) (E:=E) (Q₁:=fun obj s₁=>obj = .ref s.heap.objs.size/\s₁={ s with heap:=s.heap.push (newS w) }) ⟨rfl,rfl⟩) fun r s₁ hr=>?_
 cases r with
 | error e=>exact hr
 | ok fl =>
  cases fl with
  | ret obj =>
   obtain⟨rfl,rfl⟩:=hr
   have gS:(s.heap.push (newS w)).get? s.heap.objs.size=some (newS w):=Ko _ rfl
   have hT:Shared.TypeIs { s with heap:=s.heap.push (newS w) } (.ref s.heap.objs.size) "set":=⟨_,gS,rfl⟩
   have hli:=PySem.F.called_set.init.lookup
   have hbi:=PySem.F.called_set.init.bind (.ref s.heap.objs.size)
   repeat (any_goals (first | assumption | wp_step))
   refine Nt (O6 (R:=wants (fun r s₂=>r = .none/\∃ h' tk,s₂={ s with heap:=h',toks:=tk }/\jl P w (Bs w) h' s.heap.objs.size (firstMet (fun i=>ns.getD i 0) items.size) ∧
     (∀ b o,b < s.heap.objs.size->s.heap.get? b=some o->h'.get? b=some o)) E) PySem.F.called_set.init.plain PySem.F.entry_set_init (check_set_init_1 hT ?_)) fun r₂ s₂ hr₂=>?_
   ·obtain⟨ol,hol,hcl,nl,hdl⟩:=hl
    obtain⟨ocls,odict,odata,oslots⟩:=ol
    simp only at hcl hdl
    subst hcl hdl
    have hol':(s.heap.push (newS w)).get? l=some { cls:=.type "list",dict:=odict,data:=.seq items nl,slots:=oslots }:=J6 _ hol
    have hsls:=PySem.F.sub_list_set
    have hslf:=PySem.F.sub_list_frozenset
    have hne:(N8 "list" == N8 "dict")=false:=by decide
    have hl1:(s.heap.push (newS w)).IsList l items:=⟨_,hol',rfl,nl,rfl⟩
    have gS':(s.heap.push (newS w)).get? s.heap.objs.size=some { cls:=.type "set",dict:=none,data:=.set #[] 0 (.fresh 0 0 (Bs w)) }:=gS
    unfold O2.«set.__init__» noKeywords Builtin.Frozenset.updateFrom; generalize hPI:R0=PI
    wp_walk
    subst hPI
    refine Q7 hl1 (J3 (wpAny_runValue ?_))
    have hlS:l < s.heap.objs.size:=Kh hol
    have hh3:A.in1.in1.in1.handled=none:=by simp [hh]
    have hneI:l≠(s.heap.push (newS w)).objs.size:=by
     rw[Mm]
     exact Kz (Nm hlS)
    have hSf:s.heap.objs.size ∉ [(s.heap.push (newS w)).objs.size,l]:=by
     rw[Mm,Rm,Ny]
     rintro (z | z)
     ·exact absurd z (Kz (Oi _))
     ·exact absurd z (Pr hlS)
    refine BJ (b:=Bs w) ((Walks.list hh3 _ l hneI items).toS) s.heap.objs.size hSf (fun i=>ns.getD i 0) (fun i v hv=>IntsAre.int_at hi i v (by rw[Lx]; exact hv)) hb (items.size - 0) 0 _ (by lia) (Lb _)
     ⟨⟨_,Ko _ rfl,rfl,rfl⟩,(hl1.push _)⟩ ?hS0 ?hR
    case hS0=>exact⟨newS w,#[],0,_,J6 _ gS,⟨rfl,rfl,rfl⟩,rfl,(fun e he=>by simp at he),rfl,zp _,[],.nil,.refl _⟩
    case hR =>
     intro s' hm hS'
     obtain⟨h',g',d',tk',os'⟩:=s'
     obtain rfl:g'=s.gens:=hm.gens
     obtain rfl:d'=s.drawn:=hm.drawn
     obtain rfl:os'=s.os:=hm.os
     refine (show Ke _ _ _ _ _ _ from J7 (show Ke _ _ (ret LR) _ _ _ from J7 ⟨rfl,h',tk',rfl,hS',fun b o hb e=>?_⟩))
     refine hm.heap b o ?_ (J6 _ (J6 _ e))
     rw[Rm,Ny,Mm]
     rintro (z | z)
     ·exact absurd z (Kz hb)
     ·exact absurd z (Kz (Nm hb))
   ·cases r₂ with
    | error e=>exact hr₂
    | ok fl₂ =>
     cases fl₂ with
     | ret r =>
      obtain⟨rfl,h',tk,rfl,hS',hk'⟩:=hr₂
      repeat (any_goals (first | assumption | wp_step))
      exact h h' tk hS' hk'
     | _=>exact hr₂.elim
  | _=>exact hr.elim
end
end L2
namespace L2
open PySem PySem.Spec PyProof.Rows
theorem pO:Manifest.owners.lookup (String.ofList ['r','o','t','a','r','e','t','i','_','t','e','s'].reverse)=some Manifest.sig_set_iterator:=by kernel_rfl
theorem aV:Slot "set_iterator" "__next__" "set_iterator.__next__" :=
 .of (owner:="set_iterator") (n:="__next__") (by rw[PQ,Nz]; kernel_rfl) (by decide+kernel) (by decide+kernel) (by decide+kernel) (by first | exact .inl (by decide+kernel) | exact .inr (by decide+kernel)) (by rw[Od]; kernel_rfl)
theorem cW:entryFor table "set_iterator.__next__" = some O2.«set_iterator.__next__»:=entryFor_of_tree (by kernel_rfl)
theorem dh (a:Value):Rj "set_iterator.__next__" ⟨[a],[]⟩:=by
 unfold Rj
 rw[Sd (id:="set_iterator.__next__") (n:=['_','_','t','x','e','n','_','_']) (o:=['r','o','t','a','r','e','t','i','_','t','e','s']) (by kernel_rfl) pO]
 kernel_rfl
theorem fK:Slot "set_iterator" "__iter__" "set_iterator.__iter__" :=
 .of (owner:="set_iterator") (n:="__iter__") (by rw[PQ,Nz]; kernel_rfl) (by decide+kernel) (by decide+kernel) (by decide+kernel) (by first | exact .inl (by decide+kernel) | exact .inr (by decide+kernel)) (by rw[Od]; kernel_rfl)
theorem jQ:entryFor table "set_iterator.__iter__" = some O2.«dict_keyiterator.__iter__»:=entryFor_alias (id':="dict_keyiterator.__iter__") (by kernel_rfl) rfl (by decide+kernel) (by kernel_rfl)
theorem kY (a:Value):Rj "set_iterator.__iter__" ⟨[a],[]⟩:=by
 unfold Rj
 rw[Sd (id:="set_iterator.__iter__") (n:=['_','_','r','e','t','i','_','_']) (o:=['r','o','t','a','r','e','t','i','_','t','e','s']) (by kernel_rfl) pO]
 kernel_rfl
theorem mC:entryFor table "set.__iter__" = some O2.«frozenset.__iter__»:=entryFor_alias (id':="frozenset.__iter__") (by kernel_rfl) rfl (by decide+kernel) (by kernel_rfl)
theorem jt {α:Type}:∀ (l:List α) (j:Nat) (h:j < l.length),(l[j]::l.eraseIdx j).Perm l
 | a::r,0,_=>.refl _
 | a::r,j+1,h=>by
  have ih:=jt r j (Nat.lt_of_succ_lt_succ h)
  rw[List.getElem_cons_succ,List.eraseIdx_cons_succ]
  exact (List.Perm.swap _ _ _).trans (ih.cons a)
theorem pX {α:Type} (nx:Nat->Nat):∀ (fuel k:Nat) (left:List α) (out:Array α),left.length<=fuel->(pickOrder.go nx fuel k left out).toList.Perm (out.toList++left)
 | 0,k,left,out,h=>by
  rw[pickOrder.go]
  have e:left=[]:=Ou (by lia)
  subst e
  rw[Nb]
 | fuel+1,k,left,out,h=>by
  rw[pickOrder.go]
  cases hl:left with
  | nil =>
   simp
  | cons a r =>
   have hlen:nx k % (a::r).length < (a::r).length:=Nat.mod_lt _ (by simp)
   rw[Kd hlen]
   dsimp only
   generalize nx k % (a::r).length=j at hlen ⊢
   have ih:=pX nx fuel (k+1) ((a::r).eraseIdx j) (out.push (a::r)[j]) (by rw[List.length_eraseIdx_of_lt hlen,← hl]; lia)
   refine ih.trans ?_
   rw[Array.toList_push,Ra]
   refine List.Perm.append (.refl _) ?_
   show ((a::r)[j]::(a::r).eraseIdx j).Perm (a::r)
   exact jt _ j hlen
theorem kZ {α:Type} (nx:Nat->Nat) (xs:Array α):(Qn nx xs).toList.Perm xs.toList:=by
 unfold Qn
 have:=pX nx xs.size 0 xs.toList #[] (by rw[Le]; exact Kc _)
 simpa using this
section
variable {P:Kq} {w:K1} {A:KY} {E:Value->J4->Prop} {s:J4}
theorem qi {α:Type} {Q:List α->J4->Prop}:∀ (n:Nat) (xs:List α) (s:J4),xs.length=n->(∀ ys d,ys.Perm xs->Q ys { s with drawn:=d })->Ke (Kl P w) A (drawOrder n xs) Q E s
 | 0,xs,s,h,hq=>by
  rw[drawOrder]
  have e:xs=[]:=Ou h
  subst e
  exact J7 (hq [] s.drawn (.refl _))
 | n+1,[],s,h,hq=>by cases h
 | n+1,x::xs,s,h,hq=>by
  rw[drawOrder]
  ·refine J3 (fun Γ p hΓ=>?_)
   show Sem.wp _ _ (.choose .order (x::xs).length .pure) _ _ _ _
   rw[Sem.wp_choose]
   refine⟨by simp,?_⟩
   rw[Sem.wp_pure]
   generalize (Kl P w).w.draws .order (s.drawn.get .order)=z
   have hlen:z % (x::xs).length < (x::xs).length:=Nat.mod_lt _ (by simp)
   generalize z % (x::xs).length=j at hlen ⊢
   show Ke _ _ _ _ _ _
   rw[Kd hlen]
   dsimp only
   refine J3 (qi n ((x::xs).eraseIdx j) _ (by rw[List.length_eraseIdx_of_lt hlen]; rw[KZ] at h ⊢; lia) fun ys d p=>J7 ?_)
   exact hq _ d ((p.cons _).trans (jt _ j hlen))
  ·simp
end
end L2
namespace L2
open PySem PySem.Spec PyProof.Rows
def SIt (h:Lh) (I S:Addr) (f:Value) (i n ep:Nat):Prop:=h.get? I=some { cls:=.type "set_iterator",dict:=none,data:=.fields #[f,.int i 0,.ref S,.int n 0,.int ep 0],slots:=#[] }
section
variable {P:Kq} {w:K1} {A:KY} {E:Value->J4->Prop} {s:J4} {I S:Addr} {o:NB} {es:Array (Int × Value)} {ep:Nat} {t:Pa}
theorem oV {sl:Int} {tk:Tok} {i:Nat} {Q:Option Value->J4->Prop} {r:Option (Value × Nat)} (hh:A.handled=none) (hI:SIt s.heap I S (.int sl tk) i es.size ep) (hS:s.heap.get? S=some o) (hd:o.data = .set es ep t) (hf:t.fits es.size=true)
  (hn:∀ (A:KY) (E:Value->J4->Prop) (Q:Option (Value × Nat)->J4->Prop),Q r s->Ke (Kl P w) A (Uc S sl.toNat i ep) Q E s)
  (hs:∀ x j h',r=some (x,j)->SIt h' I S (.int (j:Nat) 0) (i+1) es.size ep->Pu I s.heap h'->Q (some x) { s with heap:=h' }) (he:∀ h',r=none->Heap.ExtBut I s.heap h'->Q none { s with heap:=h' }):Ke (Kl P w) A (Oz (.ref I)) Q E s:=by
 have hT:s.TypeIs (.ref I) "set_iterator":=⟨_,hI,rfl⟩
 unfold Oz
 refine J3 (Pz (Ob (name:=QF "__next__") hT aV (MF aV hT cW ?_ (dh _))))
 refine (show Ke _ _ (fieldsOf (.ref I) >>= _) _ _ s from J3 (wpAny_fieldsOf hI rfl ?_))
 refine (show Ke _ _ (setEntries S >>= _) _ _ s from J3 (QC hS hd hf ?_))
 rw[if_neg (by simp)]
 refine (show Ke _ _ (Uc S sl.toNat (i:Int).toNat (ep:Int).toNat >>= _) _ _ s from J3 ?_)
 rw[Mj,Mj]
 refine hn _ _ _ ?_
 cases hr:r with
 | some xj =>
  obtain⟨x,j⟩:=xj
  dsimp only
  refine J3 (Mt hI rfl (by simp) ?_)
  have g1:=KN (Mv (·.setIfInBounds 0 (Lg (j:Int)))) hI rfl
  refine J3 (Mt g1 rfl (by simp) ?_)
  have g2:=KN (Mv (·.setIfInBounds 1 (Lg ((i:Int)+1)))) g1 rfl
  refine J7 ⟨x,rfl,J7 (hs x j _ hr ?_ ((Mf ..).trans (Mf ..)))⟩
  exact g2
 | none =>
  dsimp only
  refine J3 (Mt hI rfl (by simp) ?_)
  refine (show Ke _ _ (newExc (.type "StopIteration") [] >>= _) _ _ _ from J3 ?_)
  simp only[newExc,newTuple]
  refine J3 (Lj ?_ (by size_fits))
  refine J3 (m:=Qi _ _) (Nx (a:=LR) (by first | rfl | (simp only[Qi]; rfl)) (Lj ?_ (by size_fits)))
  simp only[raiseNew]
  refine J3 (wpAny_handled ?_)
  first | rw[show A.in1.handled=none from hh] | rw[hh]
  refine J3 (J7 (wpAny_throw ?_))
  refine J3 (Qm (T:="StopIteration") (b:=true) ⟨_,Ko _ rfl,rfl⟩ isSubtype_stop (J7 ?_))
  exact he _ hr (((Mf ..).extBut.push _).push _)
end
end L2
namespace L2
open PySem PySem.Spec PyProof.Rows
section
variable {P:Kq} {w:K1} {A:KY} {E:Value->J4->Prop} {s:J4} {I S:Addr} {o:NB} {es:Array (Int × Value)} {ep:Nat} {t:Pa}
theorem qe {sl i:Nat} {Q:Option (Value × Nat)->J4->Prop} (hb:w.params.followText "set-order" = true) (hS:s.heap.get? S=some o) (hd:o.data = .set es ep t) (hf:t.fits es.size=true)
  (h:Q (((Qn (w.params.setOrder S ep) es)[i]?).map fun e=>(e.2,sl)) s):Ke (Kl P w) A (Uc S sl i ep) Q E s:=by
 unfold Uc
 refine J3 (OD hS hd hf ?_)
 dsimp only
 unfold setsByText
 refine J3 (J3 (Oc (J7 ?_)))
 rw[if_pos (show (Kl P w).w.params.followText "set-order" = true from hb),if_neg (by simp)]
 unfold setWalk
 refine J3 (J3 (OD hS hd hf ?_))
 dsimp only
 unfold setsByText
 refine J3 (J3 (Oc (J7 ?_)))
 rw[if_pos (show (Kl P w).w.params.followText "set-order" = true from hb)]
 exact J3 (Oc (J7 (J7 h)))
theorem m8 {sl i:Nat} {Q:Option (Value × Nat)->J4->Prop} (hb:w.params.followText "set-order" = false) (hS:s.heap.get? S=some o) (hd:o.data = .set es ep t) (hf:t.fits es.size=true) (hl:t.led=true)
  (hp:t.plain=true∨es.size<=1) (hi:Ma t.place sl=i)
  (h:Q (match es[i]?,t.place[i]? with | some (_,x),some j=>some (x,j+1) | _,_=>none) s):Ke (Kl P w) A (Uc S sl i ep) Q E s:=by
 unfold Uc
 refine J3 (OD hS hd hf ?_)
 dsimp only
 unfold setsByText
 refine J3 (J3 (Oc (J7 ?_)))
 rw[if_neg (show ¬ (Kl P w).w.params.followText "set-order" = true by rw[show (Kl P w).w.params.followText "set-order" = false from hb]; exact J9)]
 have hdr:(!t.plain && decide (es.size > 1))=false:=by
  rcases hp with q | q
  ·rw[q]
   rfl
  ·rw[decide_eq_false (by lia),Oq]
 refine RD (show decide ((!t.plain && decide (es.size > 1))=true)=false from decide_eq_false (by rw[hdr]; exact J9)) ?_
 refine J3 (show Ke _ _ (if (!t.led && !es.isEmpty)=true then unsupported "set:maker-not-led" else pure ()) _ _ _ from ?_)
 rw[hl]
 refine RD (decide_eq_false (by simp)) (J7 (J7 ?_))
 rw[hi]
 exact h
theorem n8 {f:Value} {i n:Nat} {Q:Value->J4->Prop} (hI:SIt s.heap I S f i n ep) (h:Q (.ref I) s):Ke (Kl P w) A (R0 (.ref I)) Q E s:=by
 have hT:s.TypeIs (.ref I) "set_iterator":=⟨_,hI,rfl⟩
 refine SQ hT fK (MF fK hT jQ (show Ke _ _ (ret (.ref I)) _ _ s from ?_) (kY _))
 exact J7 ⟨_,rfl,"set_iterator",_,hT,aV.lookup,h⟩
theorem yq (hh:A.handled=none) (hne:S≠I) (hb:w.params.followText "set-order" = true) (hd:o.data = .set es ep t) (hf:t.fits es.size=true) :
  Walks P w A I [I,S] [I] es.size (fun i v=>((Qn (w.params.setOrder S ep) es).toList.map (·.2))[i]? = some v) (fun i h=>(∃ (sl:Nat) (tk:Tok),SIt h I S (.int (sl:Int) tk) i es.size ep)/\h.get? S=some o) where
 sub:=fun b hb=>by simp at hb; simp [hb]
 frame:=fun i h h' st hk=>by
  obtain⟨⟨sl,tk,hI⟩,hS⟩:=st
  exact⟨⟨sl,tk,hk I (by simp) _ hI⟩,hk S (by simp) _ hS⟩
 item:=fun i s Q E hi st hQ=>by
  obtain⟨⟨sl,tk,hI⟩,hS⟩:=st
  have pl:(Qn (w.params.setOrder S ep) es).size=es.size:=by
   have:=(kZ (w.params.setOrder S ep) es).length_eq
   simpa using this
  have hx:(Qn (w.params.setOrder S ep) es)[i]? = some ((Qn (w.params.setOrder S ep) es)[i]'(by lia)):=Kw _
  generalize (Qn (w.params.setOrder S ep) es)[i]'(by lia)=x at hx
  refine oV (r:=some (x.2,sl)) hh hI hS hd hf (fun A E Q q=>?_) (fun v j h' hr hI' sb=>?_) (fun h' hr _=>by cases hr)
  ·refine qe hb hS hd hf ?_
   rw[Mj,hx]
   exact q
  ·cases hr
   refine hQ _ h' s.toks ?_ ⟨⟨sl,0,hI'⟩,sb.2 S hne▸hS⟩ fun b o' hb' e=>?_
   ·rw[KQ,Lx,hx]
    rfl
   ·rw[sb.2 b (fun z=>hb' (by rw[z]; exact List.mem_singleton.mpr rfl))]
    exact e
 done:=fun s Q E st hQ=>by
  obtain⟨⟨sl,tk,hI⟩,hS⟩:=st
  have pl:(Qn (w.params.setOrder S ep) es).size=es.size:=by
   have:=(kZ (w.params.setOrder S ep) es).length_eq
   simpa using this
  refine oV (r:=none) hh hI hS hd hf (fun A E Q q=>?_) (fun v j h' hr=>by cases hr) (fun h' _ hx=>?_)
  ·refine qe hb hS hd hf ?_
   rw[Ow (by lia)]
   exact q
  ·exact hQ h' s.toks fun b o' hb' e=>hx b o' (fun z=>hb' (by rw[z]; exact List.mem_singleton.mpr rfl)) e
 self:=fun i s Q E st hQ=>by
  obtain⟨⟨sl,tk,hI⟩,_⟩:=st
  exact n8 hI hQ
def slotAt (pl:Array Nat):Nat->Nat
 | 0=>0
 | i+1=>pl.getD i 0+1
theorem jG {pl:Array Nat} (h:Ris pl):∀ {i:Nat},i<=pl.size->Ma pl (slotAt pl i)=i
 | 0,_=>vJ h
 | i+1,hi=>by
  have e:pl[i]? = some (pl.getD i 0):=by
   rw[Kw (by lia),Nv,Kw (by lia)]
   rfl
  exact below_at h e
theorem wj (hh:A.handled=none) (hne:S≠I) (hb:w.params.followText "set-order" = false) (hd:o.data = .set es ep t) (hf:t.fits es.size=true) (hl:t.led=true) (hp:t.plain=true∨es.size<=1) (hr:Ris t.place) :
  Walks P w A I [I,S] [I] es.size (fun i v=>(es.toList.map (·.2))[i]? = some v) (fun i h=>(∃ tk:Tok,SIt h I S (.int (slotAt t.place i:Nat) tk) i es.size ep)/\h.get? S=some o) where
 sub:=fun b hb=>by simp at hb; simp [hb]
 frame:=fun i h h' st hk=>by
  obtain⟨⟨tk,hI⟩,hS⟩:=st
  exact⟨⟨tk,hk I (by simp) _ hI⟩,hk S (by simp) _ hS⟩
 item:=fun i s Q E hi st hQ=>by
  obtain⟨⟨tk,hI⟩,hS⟩:=st
  have ps:t.place.size=es.size:=by
   simp only[SetTable.fits,Mr,beq_iff_eq] at hf
   exact hf.1
  have hx:es[i]? = some es[i]:=Kw hi
  have hj:t.place[i]? = some (t.place.getD i 0):=by
   rw[Kw (by lia),Nv,Kw (by lia)]
   rfl
  generalize es[i]=x at hx
  obtain⟨k,v⟩:=x
  refine oV (r:=some (v,t.place.getD i 0+1)) hh hI hS hd hf (fun A E Q q=>?_) (fun u j h' hr hI' sb=>?_) (fun h' hr _=>by cases hr)
  ·refine m8 hb hS hd hf hl hp (i:=i) (by rw[Mj]; exact jG hr (by lia)) ?_
   rw[hx,hj]
   exact q
  ·cases hr
   refine hQ _ h' s.toks ?_ ⟨⟨0,hI'⟩,sb.2 S hne▸hS⟩ fun b o' hb' e=>?_
   ·rw[KQ,Lx,hx]
    rfl
   ·rw[sb.2 b (fun z=>hb' (by rw[z]; exact List.mem_singleton.mpr rfl))]
    exact e
 done:=fun s Q E st hQ=>by
  obtain⟨⟨tk,hI⟩,hS⟩:=st
  have ps:t.place.size=es.size:=by
   simp only[SetTable.fits,Mr,beq_iff_eq] at hf
   exact hf.1
  refine oV (r:=none) hh hI hS hd hf (fun A E Q q=>?_) (fun v j h' hr=>by cases hr) (fun h' _ hx=>?_)
  ·refine m8 hb hS hd hf hl hp (i:=es.size) (by rw[Mj]; exact jG hr (by lia)) ?_
   rw[Ow (Kc _)]
   exact q
  ·exact hQ h' s.toks fun b o' hb' e=>hx b o' (fun z=>hb' (by rw[z]; exact List.mem_singleton.mpr rfl)) e
 self:=fun i s Q E st hQ=>by
  obtain⟨⟨tk,hI⟩,_⟩:=st
  exact n8 hI hQ
end
end L2
namespace L2
open PySem PySem.Spec PyProof.Rows
section
variable {P:Kq} {w:K1} {A:KY} {E:Value->J4->Prop} {s:J4} {I S T:Addr} {o:NB} {es:Array (Int × Value)} {ep:Nat} {t:Pa}
def cF (pl:List Nat):List Value:=pl.map fun j:Nat=>Lg (j:Int)
theorem wD {pl:List Nat} (hh:A.handled=none) (hne:S≠I) (hnt:T≠I) (hd:o.data = .set es ep t) (hf:t.fits es.size=true) (hp:pl.Perm (Ms es.size)) :
  Walks P w A I [I,S,T] [I] es.size (fun i v=>(pl.map fun j=>(es.getD j (0,.none)).2)[i]? = some v) (fun i h=>SIt h I S (.ref T) i es.size ep/\h.get? S=some o/\h.IsTuple T (cF pl).toArray) where
 sub:=fun b hb=>by simp at hb; simp [hb]
 frame:=fun i h h' st hk=>by
  obtain⟨hI,hS,o',ho',r⟩:=st
  exact⟨hk I (by simp) _ hI,hk S (by simp) _ hS,o',hk T (by simp) _ ho',r⟩
 item:=fun i s Q E hi st hQ=>by
  obtain⟨hI,hS,hT⟩:=st
  have lp:pl.length=es.size:=by rw[hp.length_eq,Np]
  have hT0:s.TypeIs (.ref I) "set_iterator":=⟨_,hI,rfl⟩
  obtain⟨j,hj⟩:∃ j,pl[i]? = some j:=⟨pl[i],Kd (by lia)⟩
  have hj2:j < es.size:=List.mem_range.mp (hp.mem_iff.mp (K8 hj))
  have hx:es[j]? = some (es.getD j (0,.none)):=by
   rw[Kw hj2,Nv,Kw hj2]
   rfl
  obtain⟨ot,hot,hct,nt,hdt⟩:=id hT
  unfold Oz
  refine J3 (Pz (Ob (name:=QF "__next__") hT0 aV (MF aV hT0 cW ?_ (dh _))))
  refine (show Ke _ _ (fieldsOf (.ref I) >>= _) _ _ s from J3 (wpAny_fieldsOf hI rfl ?_))
  refine (show Ke _ _ (setEntries S >>= _) _ _ s from J3 (QC hS hd hf ?_))
  rw[if_neg (by simp)]
  refine (show Ke _ _ (Tu (.ref T) >>= _) _ _ s from J3 (QL hot hdt ?_))
  have hpl:(cF pl).toArray[(i:Int).toNat]? = some (.int (j:Int) 0):=by
   rw[Mj,RV]
   show (pl.map fun j:Nat=>Lg (j:Int))[i]? = _
   rw[KQ,hj]
   rfl
  dsimp only
  rw[hpl]
  dsimp only
  refine J3 (show Ke _ _ (setNextDrawn S (j:Int).toNat (ep:Int).toNat) _ _ _ from ?_)
  unfold setNextDrawn
  refine J3 (OD hS hd hf ?_)
  dsimp only
  rw[Mj,Mj,if_neg (by simp),hx]
  refine J7 (J3 (Mt hI rfl (by simp) ?_))
  have g1:=KN (Mv (·.setIfInBounds 1 (Lg ((i:Int)+1)))) hI rfl
  refine J7 ⟨_,rfl,J7 (hQ _ _ s.toks ?_ ⟨g1,?_,?_⟩ fun b o' hb' e=>?_)⟩
  ·rw[KQ,hj]
   rfl
  ·rw[Kv _ _ (Mq hne)]
   exact hS
  ·exact⟨ot,by rw[Kv _ _ (Mq hnt)]; exact hot,hct,nt,hdt⟩
  ·rw[Kv _ _ (fun z:I=b=>hb' (by rw[z]; exact List.mem_singleton.mpr rfl))]
   exact e
 done:=fun s Q E st hQ=>by
  obtain⟨hI,hS,hT⟩:=st
  have lp:pl.length=es.size:=by rw[hp.length_eq,Np]
  have hT0:s.TypeIs (.ref I) "set_iterator":=⟨_,hI,rfl⟩
  obtain⟨ot,hot,hct,nt,hdt⟩:=id hT
  unfold Oz
  refine J3 (Pz (Ob (name:=QF "__next__") hT0 aV (MF aV hT0 cW ?_ (dh _))))
  refine (show Ke _ _ (fieldsOf (.ref I) >>= _) _ _ s from J3 (wpAny_fieldsOf hI rfl ?_))
  refine (show Ke _ _ (setEntries S >>= _) _ _ s from J3 (QC hS hd hf ?_))
  rw[if_neg (by simp)]
  refine (show Ke _ _ (Tu (.ref T) >>= _) _ _ s from J3 (QL hot hdt ?_))
  have hpl:(cF pl).toArray[(es.size:Int).toNat]? = none:=by
   rw[Mj,RV]
   show (pl.map fun j:Nat=>Lg (j:Int))[es.size]? = _
   rw[KQ,NK (by lia)]
   rfl
  dsimp only
  rw[hpl]
  dsimp only
  refine J3 (Mt hI rfl (by simp) ?_)
  have g1:=KN (Mv (·.setIfInBounds 0 (Lg 0))) hI rfl
  refine J3 (Mt g1 rfl (by simp) ?_)
  refine (show Ke _ _ (newExc (.type "StopIteration") [] >>= _) _ _ _ from J3 ?_)
  simp only[newExc,newTuple]
  refine J3 (Lj ?_ (by size_fits))
  refine J3 (m:=Qi _ _) (Nx (a:=LR) (by first | rfl | (simp only[Qi]; rfl)) (Lj ?_ (by size_fits)))
  simp only[raiseNew]
  refine J3 (wpAny_handled ?_)
  first | rw[show A.in1.handled=none from hh] | rw[hh]
  refine J3 (J7 (wpAny_throw ?_))
  refine J3 (Qm (T:="StopIteration") (b:=true) ⟨_,Ko _ rfl,rfl⟩ isSubtype_stop (J7 ?_))
  refine hQ _ s.toks fun b o' hb' e=>?_
  have hbI:b≠I:=fun z=>hb' (by rw[z]; exact List.mem_singleton.mpr rfl)
  exact ((((Mf ..).trans (Mf ..)).extBut.push _).push _) b o' hbI e
 self:=fun i s Q E st hQ=>n8 st.1 hQ
end
end L2
namespace L2
open PySem PySem.Spec PyProof.Rows
section
variable {P:Kq} {w:K1} {A:KY} {E:Value->J4->Prop} {s:J4} {S:Addr}
theorem Al {Q:Bool->J4->Prop} (hT:s.TypeIs (.ref S) "set") (h:Q false s):Ke (Kl P w) A (Ue (.ref S)) Q E s:=by
 unfold Ue; refine J3 (RB hT PySem.F.slot_set_len.lookup ?_)
 generalize hid:("set.__len__" : String)=id0
 wp_delta
 rw[show splitId id0=some ("set","__len__") from by subst hid; decide+kernel]
 subst hid
 refine J3 (Qm (T:="set") (b:=true) hT (by rw[Od]; kernel_rfl) ?_)
 refine T5 (fun z=>absurd z (by decide)) (fun _=>T5 (fun _=>?_) (fun z=>absurd (by decide+kernel) z))
 exact J3 (wpAny_typeOf hT (J7 h))
theorem Ca {b:Bool} {ks:List Int} {Q:Value->J4->Prop} (hh:A.handled=none) (hb:b=Bs w) (hS:jl P w b s.heap S ks) (hz:ks.length<=sizeLine)
  (h:∀ (I:Addr) (fp:List Addr) (n:Nat) (vs:List Value) (ns:List Int) (St:Nat->Lh->Prop) (s':J4),Walks P w A I fp [I] n (fun i v=>vs[i]? = some v) St->St 0 s'.heap->Mi vs ns->ns.Perm ks->vs.length=n->(∀ x∈fp,x=S∨s.heap.objs.size<=x)->s.heap.objs.size<=I →
   s'.os=s.os->s'.gens=s.gens->(∀ b o,s.heap.get? b=some o->s'.heap.get? b=some o)->Q (.ref I) s'):Ke (Kl P w) A (R0 (.ref S)) Q E s:=by
 obtain⟨o,es,ep,t,ho,hx,hd,hel,hf,tk,ns,hi,hp⟩:=hS
 have hT:s.TypeIs (.ref S) "set":=⟨o,ho,hx.1⟩
 have hlt:S < s.heap.objs.size:=Kh ho
 refine SQ hT PySem.F.slot_set_iter (MF PySem.F.slot_set_iter hT mC ?_ (PySem.F.args_set_iter_1 _))
 refine (show Ke _ _ (Builtin.Frozenset.sizeOf S >>= _) _ _ s from ?_)
 unfold Builtin.Frozenset.sizeOf
 refine J3 (J3 (QC ho hd hf (J7 ?_)))
 unfold setDrawn setsByText
 refine J3 (J3 (OD ho hd hf ?_))
 dsimp only
 refine J3 (J3 (Oc (J7 (J7 ?_))))
 have hps:t.place.size=es.size:=by
  simp only[SetTable.fits,Mr,beq_iff_eq] at hf
  exact hf.1
 have hlen:(es.toList.map (·.2)).length=es.size:=by rw[J8,Le]
 have hez:es.size<=sizeLine:=by
  have h1:=hi.length
  have h2:=hp.length_eq
  lia
 have start:∀ (vs:List Value) (ns':List Int) (St:Nat->Lh->Prop),Walks P w A s.heap.objs.size [s.heap.objs.size,S] [s.heap.objs.size] es.size (fun i v=>vs[i]? = some v) St->(∀ h,SIt h s.heap.objs.size S (.int (0:Nat) 0) 0 es.size ep->h.get? S=some o->St 0 h) →
   Mi vs ns'->ns'.Perm ks->vs.length=es.size->Ke (Kl P w) A.in1 (do
    let first ← pure (Lg 0)
    let e ← setEpoch S
    let r ← newFields "set_iterator" [first,Lg 0,Ku S,Lg (es.size:Int),Lg (e:Int)]
    ret r) (fun fin s'=>∃ v,fin=Fin.done (Flow.ret v)/\∃ T' r,s'.TypeIs v T'/\Ru (N8 T') (QF "__next__")=pure (some r)/\Q v s') E s:=fun vs ns' St W hst hi' hp' hl'=>by
  refine J3 (J7 (J3 (wpAny_setEpoch_of ho hd hf (J3 (Lj (J7 ?_))))))
  have g:(s.heap.push { cls:=.type "set_iterator",data:=.fields [Lg 0,Lg 0,Ku S,Lg (es.size:Int),Lg (ep:Int)].toArray }).get? s.heap.objs.size=some { cls:=.type "set_iterator",data:=.fields [Lg 0,Lg 0,Ku S,Lg (es.size:Int),Lg (ep:Int)].toArray }:=Ko _ rfl
  refine⟨_,rfl,"set_iterator",_,⟨_,g,rfl⟩,aV.lookup,?_⟩
  refine h s.heap.objs.size [s.heap.objs.size,S] es.size vs ns' St _ W (hst _ g (J6 _ ho)) hi' hp' hl' (fun x hx'=>?_) (Kc _) rfl rfl fun b' o' e=>J6 _ e
  rcases List.mem_cons.mp hx' with rfl | hx'
  ·exact .inr (Kc _)
  ·exact .inl (List.mem_singleton.mp hx')
 have hne:S≠s.heap.objs.size:=Kz hlt
 cases hB:w.params.followText "set-order" with
 | true =>
  refine RD (decide_eq_false (show ¬ (!w.params.followText "set-order" && (!t.plain && decide (es.size > 1)))=true by rw[hB]; exact J9)) ?_
  have pp:=kZ (w.params.setOrder S ep) es
  obtain⟨ms,h1,h2⟩:=dD (pp.symm.map (·.2)) hi
  exact start _ ms _ (yq hh hne hB hd hf) (fun h' q1 q2=>⟨⟨0,0,q1⟩,q2⟩) h1 (h2.trans hp) (by rw[J8,pp.length_eq,Le])
 | false =>
  have hled:t.led=true:=by
   rw[tk.led,hb]
   unfold Bs
   rw[hB]
   rfl
  cases hD:(!t.plain && decide (es.size > 1)) with
  | false =>
   refine RD (decide_eq_false (show ¬ (!w.params.followText "set-order" && (!t.plain && decide (es.size > 1)))=true by rw[hD,Oq]; exact J9)) ?_
   have hpl:t.plain=true∨es.size<=1:=by
    rw[Bool.and_eq_false_iff] at hD
    rcases hD with q | q
    ·exact .inl (by simpa using q)
    ·exact .inr (by have:=of_decide_eq_false q; lia)
   have hris:Ris t.place:=by
    rcases hpl with q | q
    ·exact tk.ris q
    ·unfold Ris
     have hl1:t.place.toList.length<=1:=by rw[Le]; lia
     generalize t.place.toList=l at hl1
     match l,hl1 with
     | [],_=>exact Tn
     | [x],_=>exact List.pairwise_singleton _ _
   exact start _ ns _ (wj hh hne hB hd hf hled hpl hris) (fun h' q1 q2=>⟨⟨0,q1⟩,q2⟩) hi hp hlen
  | true =>
   refine wpAny_ite_true (decide_eq_true (show (!w.params.followText "set-order" && (!t.plain && decide (es.size > 1)))=true by rw[hD,hB]; rfl)) ?_
   refine J3 (qi es.size (Ms es.size) s Np fun pl d pp=>?_)
   simp only[newTuple]
   have lp:pl.length=es.size:=by rw[pp.length_eq,Np]
   refine J3 (Lj ?_ (show (cF pl).toArray.size<=sizeLine by unfold cF; rw[Km,J8]; lia))
   have sz1:(s.heap.push { cls:=.type "tuple",data:=.seq (cF pl).toArray }).objs.size=s.heap.objs.size+1:=Mm _ _
   have gT:(s.heap.push { cls:=.type "tuple",data:=.seq (cF pl).toArray }).get? s.heap.objs.size=some { cls:=.type "tuple",data:=.seq (cF pl).toArray }:=Ko _ rfl
   have ho1:(s.heap.push { cls:=.type "tuple",data:=.seq (cF pl).toArray }).get? S=some o:=J6 _ ho
   refine J3 (wpAny_setEpoch_of (o:=o) (es:=es) (t:=t) ho1 hd hf (J3 (Lj (J7 ?_))))
   have g:((s.heap.push { cls:=.type "tuple",data:=.seq (cF pl).toArray }).push { cls:=.type "set_iterator",data:=.fields [Ku s.heap.objs.size,Lg 0,Ku S,Lg (es.size:Int),Lg (ep:Int)].toArray }).get? (s.heap.push { cls:=.type "tuple",data:=.seq (cF pl).toArray }).objs.size=some { cls:=.type "set_iterator",data:=.fields [Ku s.heap.objs.size,Lg 0,Ku S,Lg (es.size:Int),Lg (ep:Int)].toArray }:=Ko _ rfl
   refine⟨_,rfl,"set_iterator",_,⟨_,g,rfl⟩,aV.lookup,?_⟩
   have hne1:S≠(s.heap.push { cls:=.type "tuple",data:=.seq (cF pl).toArray }).objs.size:=by
    rw[sz1]
    exact Kz (Nm hlt)
   have hne2:s.heap.objs.size≠(s.heap.push { cls:=.type "tuple",data:=.seq (cF pl).toArray }).objs.size:=by
    rw[sz1]
    exact Kz (Oi _)
   have hv:(pl.map fun j=>(es.getD j (0,.none)).2).Perm (es.toList.map (·.2)):=by
    refine (pp.map _).trans ?_
    have e:(Ms es.size).map (fun j=>(es.getD j (0,LR)).2)=es.toList.map (·.2):=by
     apply List.ext_getElem?
     intro i
     have ea:es.toList[i]? = es[i]?:=Lx
     rw[KQ,KQ,ea]
     by_cases hi':i < es.size
     ·rw[List.getElem?_range hi',Kw hi']
      simp [Nv,Kw hi']
     ·have er:(Ms es.size)[i]? = none:=NK (by rw[Np]; lia)
      rw[er,Ow (by lia)]
      rfl
    rw[e]
   have le1:s.heap.objs.size<=(s.heap.push { cls:=.type "tuple",data:=.seq (cF pl).toArray }).objs.size:=by
    rw[sz1]
    exact M9 _
   obtain⟨ms,h1,h2⟩:=dD hv.symm hi
   refine h _ [(s.heap.push { cls:=.type "tuple",data:=.seq (cF pl).toArray }).objs.size,S,s.heap.objs.size] es.size _ ms _ _ (wD (T:=s.heap.objs.size) hh hne1 hne2 hd hf pp) ⟨g,J6 _ ho1,_,J6 _ gT,rfl,0,rfl⟩ h1 (h2.trans hp) (by rw[J8]; exact lp) (fun x hx'=>?_) le1 rfl rfl fun b' o' e=>J6 _ (J6 _ e)
   rcases List.mem_cons.mp hx' with rfl | hx'
   ·exact .inr le1
   ·rcases List.mem_cons.mp hx' with rfl | hx'
    ·exact .inl rfl
    ·exact .inr (by rw[List.mem_singleton.mp hx']; exact Kc _)
theorem tu {ks:List Int} {Q:List Value->J4->Prop} (hh:A.handled=none) (hS:jl P w (Bs w) s.heap S ks) (hz:ks.length<=sizeLine)
  (h:∀ (vs:List Value) (ns:List Int) (s':J4),Mi vs ns->ns.Perm ks->s.heap.objs.size<=s'.heap.objs.size->s'.os=s.os->s'.gens=s.gens->(∀ b o,s.heap.get? b=some o->s'.heap.get? b=some o)->Q vs s'):Ke (Kl P w) A (collect (.ref S)) Q E s:=by
 obtain⟨o,es,ep,t,ho,hx,_⟩:=id hS
 have hlt:S < s.heap.objs.size:=Kh ho
 have hSl:s.heap.objs.size≠S:=Pr hlt
 unfold collect
 refine J3 (wpAny_runValue (Mw PySem.F.entry_proto_collect ?_))
 rw[MN PySem.F.plain_proto_collect _]
 refine (show Ke _ A.in1 (newList [] >>= fun l=>again (.builtin "list.__iadd__" ⟨[l,.ref S],[]⟩)) _ _ s from J3 (Lj ?_))
 refine J7 ⟨N7 PySem.F.plain_list_iadd _,Mw PySem.F.entry_list_iadd ?_⟩
 rw[MN PySem.F.plain_list_iadd _]
 generalize hN:s.heap.push { cls:=.type "list",data:=.seq ([]:List Value).toArray }=h1
 have gL:h1.get? s.heap.objs.size=some { cls:=.type "list",data:=.seq ([]:List Value).toArray }:=by rw[← hN]; exact Ko _ rfl
 have k1:∀ b o,s.heap.get? b=some o->h1.get? b=some o:=fun b o e=>by rw[← hN]; exact J6 _ e
 have sz1:h1.objs.size=s.heap.objs.size+1:=by rw[← hN]; exact Mm _ _
 have hT:Shared.TypeIs { s with heap:=h1 } (.ref S) "set":=⟨o,k1 _ _ ho,hx.1⟩
 refine (show Ke _ A.in1 (O1 (.ref s.heap.objs.size) (.ref S) (.ref s.heap.objs.size)) _ _ { s with heap:=h1 } from ?_)
 unfold O1; refine J3 (wpAny_typeOf hT ?_)
 have q1:Builtin.List.listSameRef (.ref s.heap.objs.size) (.ref S)=false:=by simp [Builtin.List.listSameRef,hSl]
 have q2:(N8 "set" == N8 "list")=false:=by decide
 have q3:(N8 "set" == N8 "tuple")=false:=by decide
 simp only[q1,q2,q3,Bool.or_false,SN,if_false]
 refine J3 (Ca (s:={ s with heap:=h1 }) hh rfl (ju (fun o e=>k1 S o e) hS) hz fun I fp n vs ns St s2 W st hi hp hl hfp hI os2 gs2 k2=>?_)
 have gL2:=k2 _ _ gL
 have hTs:s2.TypeIs (.ref S) "set":=⟨o,k2 _ _ (k1 _ _ ho),hx.1⟩
 have hLf:s.heap.objs.size ∉ fp:=fun z=>by
  rcases hfp _ z with q | q
  ·exact hSl q
  ·have q':h1.objs.size<=s.heap.objs.size:=q
   rw[sz1] at q'
   exact absurd q' (Nat.not_succ_le_self _)
 have hz':n<=sizeLine:=by
  have e1:=hi.length
  have e2:=hp.length_eq
  lia
 have key:∀ (R:QT->J4->Prop),(∀ (s':J4) (c':Nat),s'.heap.get? s.heap.objs.size=some { cls:=.type "list",dict:=none,data:=.seq vs.toArray c',slots:=#[] }->s'.os=s.os->s'.gens=s.gens->(∀ b o,s.heap.get? b=some o->s'.heap.get? b=some o)->R (.ok (.ret (.ref s.heap.objs.size))) s') →
   ∀ (h':Lh) (c tk:Nat),St 0 h'->(∀ b o,b≠s.heap.objs.size->s2.heap.get? b=some o->h'.get? b=some o)->h'.get? s.heap.objs.size=some { cls:=.type "list",data:=.seq #[] c } →
   LQ (Kl P w) A (.builtin "list.extend.loop" ⟨[.ref s.heap.objs.size,.ref I,.ref s.heap.objs.size],[]⟩) R { s2 with heap:=h',toks:=tk }:=fun R hR h' c tk st' kp gl=>by
  refine codeAny_extend_loopS W.toS hz' s.heap.objs.size hLf _ n 0 _ #[] c rfl (Lb _) st' gl (ItemsOf.nil _) fun s' acc' c' hm gL' hacc=>?_
  have eacc:acc'=vs.toArray:=by
   apply Array.ext_getElem?
   intro j
   have ev:vs.toArray[j]? = vs[j]?:=RV
   rw[ev]
   by_cases hj:j < acc'.size
   ·have e:=hacc.2 j acc'[j] (Kw hj)
    rw[Kw hj]
    exact e.symm
   ·rw[Ow (by lia),NK (by have:=hacc.1; lia)]
  rw[eacc] at gL'
  refine hR s' c' gL' (hm.os.trans os2) (hm.gens.trans gs2) fun b o' e=>?_
  have hbl:b < s.heap.objs.size:=Kh e
  refine hm.heap b o' ?_ (kp b o' (Kz hbl) (k2 _ _ (k1 _ _ e)))
  rw[Rm,Ny]
  rintro (z | z)
  ·exact absurd z (Kz hbl)
  ·have q:h1.objs.size<=I:=hI
   rw[sz1,← z] at q
   exact absurd (Kg hbl (Nat.le_of_succ_le q)) (Ly _)
 refine J3 (MT (Al hTs ?_))
 have fin:∀ (s':J4) (c':Nat),s'.heap.get? s.heap.objs.size=some { cls:=.type "list",dict:=none,data:=.seq vs.toArray c',slots:=#[] }->s'.os=s.os->s'.gens=s.gens->(∀ b o,s.heap.get? b=some o->s'.heap.get? b=some o) →
   Ke (Kl P w) A (load s.heap.objs.size >>= fun o=>match o.data with | .seq xs _=>pure xs.toList | _=>unsupported "internal:collect") Q E s':=fun s' c' g e1 e2 e3=>J3 (wpAny_load g (J7 (h vs ns s' hi hp (Nu (Kh g)) e1 e2 e3)))
 refine T5 (fun _=>?_) (fun _=>J7 ⟨N7 PySem.F.plain_extend_loop _,key _ (fun s' c' g e1 e2 e3=>fin s' c' g e1 e2 e3) s2.heap _ s2.toks st (fun b o _ e=>e) gL2⟩)
 refine J3 (QM (J3 (show Ke _ _ (updateSeq s.heap.objs.size (·.push .none) >>= fun _=>updateSeq s.heap.objs.size (·.pop)) _ _ _ from ?_)))
 refine J3 (Qz gL2 rfl ?_)
 have g3:=KN (Qt (·.push LR)) gL2 rfl
 refine Qz (hz:=by seq_fits) g3 rfl ?_
 have g4:=KN (Qt (·.pop)) g3 rfl
 have oth:∀ b o',b≠s.heap.objs.size->s2.heap.get? b=some o'->((s2.heap.update s.heap.objs.size (Qt (·.push LR))).update s.heap.objs.size (Qt (·.pop))).get? b=some o':=fun b o' hb e=>by
  rw[Kv _ _ (Mq hb),Kv _ _ (Mq hb)]
  exact e
 exact J7 ⟨N7 PySem.F.plain_extend_loop _,key _ (fun s' c' g e1 e2 e3=>fin s' c' g e1 e2 e3) _ _ s2.toks (W.frame 0 _ _ st fun b hb o' e=>oth b o' (fun z=>hLf (by rw[← z]; exact hb)) e) oth g4⟩
end
end L2
namespace L2
open PySem PySem.Spec PyProof.Rows
section
variable {P:Kq} {w:K1} {A:KY} {E:Value->J4->Prop} {s:J4} {S:Addr}
theorem vH {ks:List Int} {Q:Value->J4->Prop} (hh:A.handled=none) (hS:jl P w (Bs w) s.heap S ks) (h64:ks.length < 64)
  (h:∀ (l:Addr) (vs:List Value) (ns:List Int) (c:Nat) (s':J4),Mi vs ns->ns.Perm ks->ns.Pairwise (·<=·)->s'.heap.get? l=some { cls:=.type "list",data:=.seq vs.toArray c }->s.heap.objs.size<=l->s'.os=s.os->s'.gens=s.gens →
   (∀ b o,s.heap.get? b=some o->s'.heap.get? b=some o)->Q (.ref l) s'):Ke (Kl P w) A (call (.builtin "sorted") [.ref S]) Q E s:=by
 refine Calls.call_function_entry kind_sorted plain_sorted entry_sorted (args_sorted1 _) ?_
 unfold O2.«sorted»; refine J3 (m:=checkCount "sorted" 1 1 _) (J7 ?_)
 refine J3 (tu hh hS (Nu (Kg h64 (by decide))) fun vs ns s1 hi hp hsz os1 gs1 k1=>?_)
 have hl:vs.length < 64:=by
  have e1:=hi.length
  have e2:=hp.length_eq
  lia
 refine J3 (wpAny_newList ?_)
 have g1:(s1.heap.push (RZ "list" vs.toArray 0)).get? s1.heap.objs.size=some (RZ "list" vs.toArray 0):=Ko _ rfl
 refine J3 (MT (MF slot_list_sort ⟨_,g1,rfl⟩ entry_list_sort (list_sort_tree g1 hi hl fun out ns' a1 a2 a3=>⟨_,rfl,?_⟩) (args_list_sort _)))
 obtain⟨c,hc⟩:=sortedHeap_at (out:=out) g1
 refine J7 ⟨_,rfl,h s1.heap.objs.size out.toList ns' c _ a1 (a2.trans hp) a3 ?_ hsz os1 gs1 fun b o e=>?_⟩
 ·exact hc
 ·have e1:=k1 b o e
  have lt:=Kh e1
  rw[sortedHeap_old (Kz lt) (by rw[Mm]; exact Nm lt)]
  exact J6 _ e1
end
end L2
namespace L2
open PySem PySem.Spec PyProof.Rows
def ddI (ns:List Int):List Int:=firstMet (fun i=>ns.getD i 0) ns.length
theorem Inv.HH {X:Cx} {pins:List (Addr × NB)} {σ:St} {H:Hp} {s s':J4} {l:Addr} {ys:List V} {its:List Value} {c:Nat} (I:Inv X pins σ H s) (ho:s'.os=s.os) (hg:s'.gens=s.gens) (k:∀ b u,s.heap.get? b=some u->s'.heap.get? b=some u)
  (hl:s.heap.objs.size<=l) (hv:Vals ys its) (hz:ys.length<=sizeLine) (g:s'.heap.get? l=some { cls:=.type "list",data:=.seq its.toArray c }):Inv X pins σ (upd H l (.lst ys)) s':=by
 have J:=I.laid (t':=s.toks) (o:=.lst ys) k hl ⟨hz,its,c,hv,g⟩
 exact⟨J.ok,ho.trans I.os,by rw[hg]; exact I.bare,J.base,J.loc,J.cell,J.free,J.freeC,J.pin,J.hok,J.len⟩
def tSS (K:Ky) (te:TA):TE:=fun σ H Q=>te σ H fun xs H1=>∃ (a:Addr) (ns:List Int),xs=[.ref a]/\SqL K H1 a (ns.map V.int)/\ns.length<=4000/\(ddI ns).length < 64/\∀ ms:List Int,ms.Perm (ddI ns)->ms.Pairwise (·<=·)->∀ l,H1 l=none->Q (.ref l) (upd H1 l (.lst (ms.map V.int)))
theorem qO {X:Cx} {e:Expr} {te:TA} {p1 p2 q1 q2:Qs} (hc:X.calm=true) (hg1:Gl X "sorted") (hm1:X.mg "sorted" = none) (hg2:Gl X "set") (hm2:X.mg "set" = none) (ha:PA X [e] te)
  (hb1:Lf "sorted" = some (.builtin "sorted"):=by decide+kernel) (hb2:Lf "set" = some (.type "set"):=by decide+kernel)
  (he1:Kr [.Call (.Name "set" p2) [e] [] q2] X.env=(false,Mp (.Call (.Name "set" p2) [e] [] q2) X.env)::Kr [] X.env:=by rfl) (hp1:(Mu q1 (Kr [] X.env)).any (·.1)=false:=by rfl)
  (he2:Kr [e] X.env=(false,Mp e X.env)::Kr [] X.env:=by rfl) (hp2:(Mu q2 (Kr [] X.env)).any (·.1)=false:=by rfl) :
  PE X (.Call (.Name "sorted" p1) [.Call (.Name "set" p2) [e] [] q2] [] q1) (tSS X.K te):=by
 intro pins s σ H Q I h
 refine Ls (fD I hg1 hm1 hb1 ?_ (by decide) (by decide))
 refine TF ?_ he1 hp1
 rw[he1]
 refine (show Ke _ _ (Ub ((false,Mp (.Call (.Name "set" p2) [e] [] q2) X.env)::Mu q1 (Kr [] X.env))) _ _ s from Q4 ?_)
 refine Ls (fD I hg2 hm2 hb2 ?_ (by decide) (by decide))
 refine MP (thn (ha q2 pins s σ H _ I h) fun us s1 ⟨vs,H1,I1,r1,q⟩=>?_) he2 hp2
 obtain⟨a,ns,rfl,hq,hl,h64,hQ⟩:=q
 obtain⟨u,rfl,ru⟩:=vals1 r1
 cases ru
 obtain⟨its,rv,pl,_⟩:=I1.list hq
 have hi:Mi its ns:=intsAre_of rv
 have hsz:its.toArray.size=ns.length:=by rw[Km]; exact hi.length
 refine tW (I1.ok.hd hc) pl.isList hi (by rw[hsz]; exact Qf (TJ hl) (by decide)) fun h' tk hS hk=>?_
 rw[hsz] at hS
 have I2:Inv X pins σ H1 { s1 with heap:=h',toks:=tk }:=I1.kept (t':=tk) fun b o e=>hk b o (Kh e) e
 refine (show Ke _ _ (Ub []) _ _ _ from Rb ?_)
 refine vH (I1.ok.hd hc) hS h64 fun l vs ms c s3 hi3 hp3 hw3 g3 hl3 os3 gs3 k3=>?_
 have hml:(ms.map V.int).length<=sizeLine:=by
  rw[J8,hp3.length_eq]
  exact Nu (Kg h64 (by decide))
 exact⟨.ref l,_,I2.HH os3 gs3 k3 hl3 (iV hi3) hml g3,rfl,hQ ms hp3 hw3 l (I2.hok.fresh hl3)⟩
end L2
namespace L2
open PySem PySem.Spec PyProof.Rows
mutual
def eqD:Dm->Dm->Bool
 | .tup ds,.tup es=>u0 ds es
 | .lst ds,.lst es=>u0 ds es
 | .tup _,_=>false
 | .lst _,_=>false
 | .non,.non=>true
 | .bl a,.bl b=>a == b
 | .bl a,.int b=>(if a then 1 else 0) == b
 | .int a,.bl b=>a == (if b then 1 else 0)
 | .int a,.int b=>a == b
 | .str a,.str b=>a == b
 | _,_=>false
def u0:List Dm->List Dm->Bool
 | [],[]=>true
 | d::ds,e::es=>eqD d e && u0 ds es
 | _,_=>false
end
mutual
theorem o6:∀ d:Dm,eqD d d=true
 | .non=>by rw[eqD]
 | .bl b=>by rw[eqD]; exact beq_self_eq_true b
 | .int i=>by rw[eqD]; exact beq_self_eq_true i
 | .str x=>by rw[eqD]; exact beq_self_eq_true x
 | .tup ds=>by rw[eqD]; exact iK ds
 | .lst ds=>by rw[eqD]; exact iK ds
theorem iK:∀ ds:List Dm,u0 ds ds=true
 | []=>by rw[u0]
 | d::r=>by rw[u0,o6 d,iK r]; rfl
end
mutual
theorem Fq {H:Hp}:∀ {v:V} {d e:Dm},Rep H v d->Rep H v e->d=e
 | _,_,_,.non,h=>by cases h; rfl
 | _,_,_,.bl b,h=>by cases h; rfl
 | _,_,_,.int i,h=>by cases h; rfl
 | _,_,_,.str x,h=>by cases h; rfl
 | _,_,_,.tup h _ r,h2=>by
  cases h2 with
  | tup h' _ r' =>
   rw[h] at h'
   cases h'
   rw[iM r r']
  | lst h' _ _ =>
   rw[h] at h'
   cases h'
 | _,_,_,.lst h _ r,h2=>by
  cases h2 with
  | lst h' _ r' =>
   rw[h] at h'
   cases h'
   rw[iM r r']
  | tup h' _ _ =>
   rw[h] at h'
   cases h'
theorem iM {H:Hp}:∀ {vs:List V} {ds es:List Dm},jf H vs ds->jf H vs es->ds=es
 | _,_,_,.nil,h=>by cases h; rfl
 | _,_,_,.cons h r,h2=>by
  cases h2 with
  | cons h' r'=>rw[Fq h h',iM r r']
end
theorem eG : ∀ ds es : List Dm, ((Ms (min ds.length es.length)).all (fun j => eqD (ds.getD j .non) (es.getD j .non)) && ds.length == es.length) = u0 ds es
  | [], [] => by rw [u0]; rfl
  | [], e :: es => by rw [u0]; · rfl
                      all_goals simp
  | d :: ds, [] => by rw [u0]; · rfl
                      all_goals simp
  | d :: ds, e :: es => by
    have ih := eG ds es
    have em : min (d :: ds).length (e :: es).length = min ds.length es.length + 1 := by rw [KZ, KZ]; lia
    have el : ((d :: ds).length == (e :: es).length) = (ds.length == es.length) := by simp
    rw [em, List.range_succ_eq_map, Qw, Tj, el, u0, ← ih, Bool.and_assoc]
    rfl
theorem vp {ds es:List Dm} (h:ds.length≠es.length):u0 ds es=false:=by
 rw[← eG]
 have:(ds.length == es.length)=false:=by simpa using h
 rw[this,Oq]
theorem qX {ds es:List Dm} (h:ds.length=es.length):(Ms ds.length).all (fun j=>eqD (ds.getD j .non) (es.getD j .non))=u0 ds es:=by
 rw[← eG,← h,Nat.min_self,beq_self_eq_true,Bool.and_true]
section
variable {X:Cx} {pins:List (Addr × NB)} {s:J4} {σ:St} {H:Hp}
theorem gk {vs:List V} {ds:List Dm} {its:List Value} (r:jf H vs ds) (rv:Vals vs its) {j:Nat} (h:j < its.length):∃ v,vs[j]? = some v/\RelV v its[j]/\Rep H v (ds.getD j .non):=by
 have l1:=rv.length
 obtain⟨v,d,e1,e2,e3⟩:=r.get (i:=j) (by lia)
 obtain⟨u,hu,ru⟩:=rv.get e1
 rw[Kd h] at hu
 cases hu
 exact⟨v,e1,ru,by rw[K6,e2]; exact e3⟩
theorem oR {ds:List Dm} {j:Nat} (h:j < ds.length):(ds.getD j .non).dep<=jF ds:=by
 rw[K6,Kd h]
 exact j4 (Kd h)
theorem fL (I : Inv X pins σ H s) (d e : Dm) (v u : V) (x y : Value) (A : KY) (hd : d.dep = 0) (hu : A.units < cLine) (rv : Rep H v d) (ru : Rep H u e) (rx : RelV v x) (ry : RelV u y) : SJ A s x y (eqD d e) := by
  cases rv with
  | tup h l r => rw [Dm.dep] at hd; lia
  | lst h l r => rw [Dm.dep] at hd; lia
  | non =>
    cases rx
    cases ru with
    | tup h l r => cases ry; obtain ⟨its, _, p, _⟩ := I.tuple (SqT.of h); rw [eqD]; · exact SeqAt.EqAt.none_tuple (show s.heap.IsTuple _ its.toArray from p) hu
                   all_goals simp
    | lst h l r => cases ry; obtain ⟨its, _, p, _⟩ := I.list (SqL.of h); rw [eqD]; · exact SeqAt.EqAt.none_list p.isList hu
                   all_goals simp
    | non => cases ry; rw [eqD]; exact RL _
    | bl b => cases ry; rw [eqD]; · exact SeqAt.EqAt.none_bool b
              all_goals simp
    | int b => obtain ⟨t, rfl⟩ := ry; rw [eqD]; · exact SeqAt.EqAt.none_int b t
               all_goals simp
    | str b => obtain ⟨t, rfl⟩ := ry; rw [eqD]; · exact SeqAt.EqAt.none_str b t
               all_goals simp
  | bl a =>
    cases rx
    cases ru with
    | tup h l r => cases ry; obtain ⟨its, _, p, _⟩ := I.tuple (SqT.of h); rw [eqD]; · exact SeqAt.EqAt.bool_tuple a (show s.heap.IsTuple _ its.toArray from p) hu
                   all_goals simp
    | lst h l r => cases ry; obtain ⟨its, _, p, _⟩ := I.list (SqL.of h); rw [eqD]; · exact SeqAt.EqAt.bool_list a p.isList hu
                   all_goals simp
    | non => cases ry; rw [eqD]; · exact SeqAt.EqAt.bool_none a
             all_goals simp
    | bl b => cases ry; rw [eqD]; exact SeqAt.EqAt.bool_bool a b
    | int b => obtain ⟨t, rfl⟩ := ry; rw [eqD]; exact SeqAt.EqAt.bool_int a b t
    | str b => obtain ⟨t, rfl⟩ := ry; rw [eqD]; · exact SeqAt.EqAt.bool_str a b t
               all_goals simp
  | int a =>
    obtain ⟨t', rfl⟩ := rx
    cases ru with
    | tup h l r => cases ry; obtain ⟨its, _, p, _⟩ := I.tuple (SqT.of h); rw [eqD]; · exact SeqAt.EqAt.int_tuple a t' (show s.heap.IsTuple _ its.toArray from p) hu
                   all_goals simp
    | lst h l r => cases ry; obtain ⟨its, _, p, _⟩ := I.list (SqL.of h); rw [eqD]; · exact SeqAt.EqAt.int_list a t' p.isList hu
                   all_goals simp
    | non => cases ry; rw [eqD]; · exact SeqAt.EqAt.int_none a t'
             all_goals simp
    | bl b => cases ry; rw [eqD]; exact SeqAt.EqAt.int_bool a t' b
    | int b => obtain ⟨t, rfl⟩ := ry; rw [eqD]; exact SeqAt.EqAt.int_int a t' b t
    | str b => obtain ⟨t, rfl⟩ := ry; rw [eqD]; · exact Sy a t' b t
               all_goals simp
  | str a =>
    obtain ⟨t', rfl⟩ := rx
    cases ru with
    | tup h l r => cases ry; obtain ⟨its, _, p, _⟩ := I.tuple (SqT.of h); rw [eqD]; · exact SeqAt.EqAt.str_tuple a t' (show s.heap.IsTuple _ its.toArray from p) hu
                   all_goals simp
    | lst h l r => cases ry; obtain ⟨its, _, p, _⟩ := I.list (SqL.of h); rw [eqD]; · exact SeqAt.EqAt.str_list a t' p.isList hu
                   all_goals simp
    | non => cases ry; rw [eqD]; · exact SeqAt.EqAt.str_none a t'
             all_goals simp
    | bl b => cases ry; rw [eqD]; · exact SeqAt.EqAt.str_bool a t' b
              all_goals simp
    | int b => obtain ⟨t, rfl⟩ := ry; rw [eqD]; · exact Sw a t' b t
               all_goals simp
    | str b => obtain ⟨t, rfl⟩ := ry; rw [eqD]; exact SeqAt.EqAt.str_str a t' b t
theorem BL (I : Inv X pins σ H s) : ∀ (n : Nat) (d e : Dm) (v u : V) (x y : Value) (A : KY), d.dep ≤ n → A.units + n < cLine → Rep H v d → Rep H u e → RelV v x → RelV u y → SJ A s x y (eqD d e) := by
  intro n
  induction n with
  | zero =>
    intro d e v u x y A hd hu rv ru rx ry
    exact fL I d e v u x y A (by lia) (by lia) rv ru rx ry
  | succ n ih =>
    intro d e v u x y A hd hu rv ru rx ry
    have hu0 : A.units < cLine := by lia
    have hu1 : A.in1.units + n < cLine := by show A.units + 1 + n < cLine; lia
    cases rv with
    | @tup a xs ds h l r =>
      cases rx
      rw [Dm.dep] at hd
      obtain ⟨its, vl, p, _⟩ := I.tuple (SqT.of h)
      have p : s.heap.IsTuple a its.toArray := p
      cases ru with
      | @tup b ys es h' l' r' =>
        cases ry
        by_cases hab : a = b
        · subst hab
          rw [h] at h'
          cases h'
          rw [iM r r', o6]
          exact RL _
        · obtain ⟨its', vl', p', _⟩ := I.tuple (SqT.of h')
          have p' : s.heap.IsTuple b its'.toArray := p'
          have q := SeqAt.RcAt.tuples (e := fun j => eqD (ds.getD j .non) (es.getD j .non)) p p' hu0 fun j h1 h2 => by
            have h1 : j < its.length := by simpa using h1
            have h2 : j < its'.length := by simpa using h2
            obtain ⟨v1, _, r1, p1⟩ := gk r vl h1
            obtain ⟨v2, _, r2, p2⟩ := gk r' vl' h2
            rw [MK, MK]
            refine ih _ _ v1 v2 _ _ _ ?_ hu1 p1 p2 r1 r2
            have := oR (ds := ds) (j := j) (by have := r.length; have := vl.length; lia)
            lia
          have el : its.toArray.size = ds.length := by rw [Km, ← vl.length, r.length]
          have el' : its'.toArray.size = es.length := by rw [Km, ← vl'.length, r'.length]
          rw [el, el', eG] at q
          rw [eqD]
          exact Sx hab q
      | lst h' l' r' => cases ry; obtain ⟨its', _, p', _⟩ := I.list (SqL.of h'); rw [eqD]; · exact SeqAt.EqAt.tuple_list p p'.isList hu0
                        all_goals simp
      | non => cases ry; rw [eqD]; · exact SeqAt.EqAt.tuple_none p hu0
               all_goals simp
      | bl b => cases ry; rw [eqD]; · exact SeqAt.EqAt.tuple_bool b p hu0
                all_goals simp
      | int b => obtain ⟨t, rfl⟩ := ry; rw [eqD]; · exact SeqAt.EqAt.tuple_int b t p hu0
                 all_goals simp
      | str b => obtain ⟨t, rfl⟩ := ry; rw [eqD]; · exact SeqAt.EqAt.tuple_str b t p hu0
                 all_goals simp
    | @lst a xs ds h l r =>
      cases rx
      rw [Dm.dep] at hd
      obtain ⟨its, vl, p, _⟩ := I.list (SqL.of h)
      cases ru with
      | @lst b ys es h' l' r' =>
        cases ry
        by_cases hab : a = b
        · subst hab
          rw [h] at h'
          cases h'
          rw [iM r r', o6]
          exact RL _
        · obtain ⟨its', vl', p', _⟩ := I.list (SqL.of h')
          have el : its.toArray.size = ds.length := by rw [Km, ← vl.length, r.length]
          have el' : its'.toArray.size = es.length := by rw [Km, ← vl'.length, r'.length]
          rw [eqD]
          by_cases hl : ds.length = es.length
          · have q := SeqAt.RcAt.lists (e := fun j => eqD (ds.getD j .non) (es.getD j .non)) p.isList p'.isList (by rw [el, el']; exact hl) hu0 fun j h1 h2 => by
              have h1 : j < its.length := by simpa using h1
              have h2 : j < its'.length := by simpa using h2
              obtain ⟨v1, _, r1, p1⟩ := gk r vl h1
              obtain ⟨v2, _, r2, p2⟩ := gk r' vl' h2
              rw [MK, MK]
              refine ih _ _ v1 v2 _ _ _ ?_ hu1 p1 p2 r1 r2
              have := oR (ds := ds) (j := j) (by have := r.length; have := vl.length; lia)
              lia
            rw [el, qX hl] at q
            exact Sx hab q
          · rw [vp hl]
            exact Sx hab (SeqAt.RcAt.lists_lengths p.isList p'.isList (by rw [el, el']; simpa using hl) hu0)
      | tup h' l' r' => cases ry; obtain ⟨its', _, p', _⟩ := I.tuple (SqT.of h'); rw [eqD]; · exact SeqAt.EqAt.list_tuple p.isList (show s.heap.IsTuple _ its'.toArray from p') hu0
                        all_goals simp
      | non => cases ry; rw [eqD]; · exact SeqAt.EqAt.list_none p.isList hu0
               all_goals simp
      | bl b => cases ry; rw [eqD]; · exact SeqAt.EqAt.list_bool b p.isList hu0
                all_goals simp
      | int b => obtain ⟨t, rfl⟩ := ry; rw [eqD]; · exact SeqAt.EqAt.list_int b t p.isList hu0
                 all_goals simp
      | str b => obtain ⟨t, rfl⟩ := ry; rw [eqD]; · exact SeqAt.EqAt.list_str b t p.isList hu0
                 all_goals simp
    | non => exact fL I _ e _ u _ y A rfl hu0 .non ru rx ry
    | bl b => exact fL I _ e _ u _ y A rfl hu0 (.bl b) ru rx ry
    | int i => exact fL I _ e _ u _ y A rfl hu0 (.int i) ru rx ry
    | str z => exact fL I _ e _ u _ y A rfl hu0 (.str z) ru rx ry
end
end L2
namespace L2
open PySem PySem.Spec PyProof.Rows
section
variable {X:Cx} {k:Nat}
inductive Dj (n:Nat) (x:V) (y:V) (H:Hp) (Q:VK):Prop where
 | mk (a b:Addr) (xs ys:List V) (ds es:List Dm) (z0:x = .ref a) (z1:y = .ref b) (z2:H a=some (.tup xs)) (z3:H b=some (.tup ys)) (z4:jf H xs ds) (z5:jf H ys es) (z6:jF ds<=n) (z7:Q (.bl (u0 ds es)) H):Dj n x y H Q
def Ff (n:Nat):R2:=fun x y H Q=>Dj n x y H Q
theorem Fx {pins:List (Addr × NB)} {s:J4} {σ:St} {H:Hp} {a b:Addr} {xs ys:List V} {ds es:List Dm} {n:Nat} (I:Inv X pins σ H s) (ha:H a=some (.tup xs)) (hb:H b=some (.tup ys)) (ra:jf H xs ds) (rb:jf H ys es) (hd:jF ds<=n) (hu:X.A.units+1+n < cLine) :
  ∃ its its':List Value,s.heap.IsTuple a its.toArray/\s.heap.IsTuple b its'.toArray/\its.toArray.size=ds.length/\its'.toArray.size=es.length/\∀ j (h1:j < its.toArray.size) (h2:j < its'.toArray.size),SJ X.A.in1 s its.toArray[j] its'.toArray[j] (eqD (ds.getD j .non) (es.getD j .non)):=by
 obtain⟨its,vl,p,_⟩:=I.tuple (SqT.of ha)
 obtain⟨its',vl',p',_⟩:=I.tuple (SqT.of hb)
 refine⟨its,its',p,p',by rw[Km,← vl.length,ra.length],by rw[Km,← vl'.length,rb.length],fun j h1 h2=>?_⟩
 have h1:j < its.length:=by simpa using h1
 have h2:j < its'.length:=by simpa using h2
 obtain⟨v1,_,r1,p1⟩:=gk ra vl h1
 obtain⟨v2,_,r2,p2⟩:=gk rb vl' h2
 rw[MK,MK]
 refine BL I n _ _ v1 v2 _ _ _ ?_ (show X.A.units+1+n < cLine from hu) p1 p2 r1 r2
 have:=oR (ds:=ds) (j:=j) (by have:=ra.length; have:=vl.length; lia)
 lia
theorem Fl {n:Nat} (hr:cT k X.A) (hn:n<=50):OpR X (Oe .Eq) (Ff n):=by
 intro pins s σ H x y v u Q I rx ry h
 obtain⟨a,b,xs,ys,ds,es,rfl,rfl,ha,hb,ra,rb,hd,q⟩:=h
 cases rx
 cases ry
 have hu:=hr.units
 obtain⟨its,its',p,p',e1,e2,ea⟩:=Fx I ha hb ra rb hd (by lia)
 have r:=SeqAt.RcAt.tuples (e:=fun j=>eqD (ds.getD j .non) (es.getD j .non)) p p' hr.Dt ea
 rw[e1,e2,eG] at r
 exact r X.prog X.w X.xe _ ⟨.bl _,H,I,rfl,q⟩
end
end L2
namespace L2
open PySem PySem.Spec PyProof.Rows
section
variable {X:Cx} {k:Nat}
end
end L2
namespace L2
open PySem PySem.Spec PyProof.Rows
def mxD (d:Int):List Int->Int
 | []=>d
 | a::r=>r.foldl max a
theorem jH:∀ (r:List Int) (a:Int),a<=r.foldl max a/\∀ b∈r,b<=r.foldl max a
 | [],a=>⟨Int.le_refl _,by simp⟩
 | c::r,a=>by
  obtain⟨h1,h2⟩:=jH r (max a c)
  rw[NT]
  refine⟨by lia,fun b hb=>?_⟩
  rcases List.mem_cons.mp hb with rfl | hb
  ·lia
  ·exact h2 b hb
theorem oJ {n:Int}:∀ {l:List Value} {ns:List Int} {j:Nat},Mi l ns->ns[j]? = some n->∃ t,l[j]? = some (.int n t)
 | _,_,j,.nil,h=>by simp at h
 | _,_,0,.cons _ _ _,h=>by
  cases (show some _=some n from h)
  exact⟨_,rfl⟩
 | _,_,j+1,.cons _ _ r,h=>by
  obtain⟨t,e⟩:=oJ (j:=j) r (by simpa using h)
  exact⟨t,by simpa using e⟩
def dkw (dk:Option (Int × Tok)):List (KH × Value):=dk.toList.map fun d=>(("default" : KH),Og d.1 d.2)
section
variable {prog:Kq} {w:K1} {A:KY} {R:QT->J4->Prop} {E:Value->J4->Prop} {s:J4}
theorem Aa {it l S:Addr} {items:Array Value} {ns:List Int} (hh:A.handled=none) (hi:Mi items.toList ns) (hne:l≠it) (hS1:S≠it) (hS2:S≠l) (kw:List (KH × Value)) :
  ∀ (k j:Nat) (s:J4) (b:Int) (t:Tok) (c:Nat),ns.length - j=k->j<=ns.length->s.heap.IsListIter it l j->s.heap.IsList l items →
   s.heap.get? S=some { cls:=.type "list",dict:=none,data:=.seq #[.int b t,.int b t] c,slots:=#[] } →
   (∀ t' h' tk,(∀ a o,a≠it->a≠S->s.heap.get? a=some o->h'.get? a=some o)->R (.ok (.ret (.int ((ns.drop j).foldl max b) t'))) { s with heap:=h',toks:=tk }) →
   LQ (Kl prog w) A (.builtin "max.loop" ⟨[.ref it,.none,.ref S],kw⟩) R s:=by
 have W:=Walks.list (prog:=prog) (w:=w) (A:=A.in1) hh it l hne items
 have hname:(toString "max"++toString ".loop" : String) = "max.loop":=by decide
 have hsz:items.size=ns.length:=by rw[← Le]; exact hi.length
 intro k
 induction k with
 | zero =>
  intro j s b t c hk hj h1 h2 hS hR
  refine Mw TY ?_; rw[MN Oo _]
  show Ke _ A.in1 (Tu (.ref S) >>= _) _ _ s; refine J3 (QL hS rfl ?_)
  have ej:j=items.size:=by lia
  show Ke _ A.in1 (tryCatch (Oz (.ref it)) _ >>= _) _ _ s; refine J3 (QK (W.done s _ _ (by rw[← ej]; exact⟨h1,h2⟩) fun h' tk hm=>?_))
  have hS':=hm S _ (by simpa using hS1) hS
  show Ke _ A.in1 (updateSeq S (fun _=>#[]) >>= _) _ _ _; refine J3 (Qz hS' rfl (J3 (T3 (J7 ?_))))
  rw[List.drop_of_length_le (by lia)] at hR
  exact hR t _ tk fun a o ha hb e=>(Kv _ _ (Mq hb)).trans (hm a o (by simpa using ha) e)
 | succ k ih =>
  intro j s b t c hk hj h1 h2 hS hR
  refine Mw TY ?_; rw[MN Oo _]
  show Ke _ A.in1 (Tu (.ref S) >>= _) _ _ s; refine J3 (QL hS rfl ?_)
  have hlt:j < ns.length:=by lia
  obtain⟨u,hu⟩:=oJ hi (Kd hlt)
  have ed:ns.drop j=ns[j]::ns.drop (j+1):=Q6 hlt
  show Ke _ A.in1 (tryCatch (Oz (.ref it)) _ >>= _) _ _ s; refine J3 (QK (W.item j s _ _ (by lia) ⟨h1,h2⟩ fun v h' tk hP st hm=>?_))
  obtain⟨g1,g2⟩:=st
  have ev:v = .int ns[j] u:=by
   have e:items[j]? = some v:=hP
   rw[← Lx,hu] at e
   exact (La e).symm
  subst ev
  have hS':=hm S _ (by simpa using hS1) hS
  show Ke _ A.in1 (tryCatch (Qu [Og ns[j] u,Og ns[j] u] (richCompare .Gt (.int ns[j] u) (.int b t) >>= _)) _ >>= _) _ _ _
  refine J3 (QK (MT (J3 ((CmpOf.ints_gt (P:=fun i v=>∃ t,v = .int (if i=0 then ns[j] else b) t) (fun i=>if i=0 then ns[j] else b) (fun _ _ h=>h)) 0 1 _ _ _ _ _ ⟨u,rfl⟩ ⟨t,rfl⟩ ?_))))
  refine J3 (MT (NZ (J3 (T3 (J7 ?_)))))
  show Ke _ A.in1 (if decide (ns[j] > b)=true then _ else _) _ _ _
  by_cases hb:ns[j] > b
  ·rw[if_pos (decide_eq_true hb)]
   refine J3 (Qz hS' rfl (J3 (T3 ?_)))
   rw[hname]
   refine J7 ⟨N7 Oo _,ih (j+1) _ ns[j] u _ (by lia) hlt ?_ ?_ (KN _ hS' rfl) fun t' h2 tk2 k2=>?_⟩
   ·exact g1.at fun o e=>(Kv _ _ hS1).trans e
   ·exact g2.at fun o e=>(Kv _ _ hS2).trans e
   ·have q:=hR t' h2 tk2 fun a o ha hb e=>k2 a o ha hb ((Kv _ _ (Mq hb)).trans (hm a o (by simpa using ha) e))
    rw[ed,NT,show max b ns[j]=ns[j] by lia] at q
    exact q
  ·rw[if_neg (by simpa using hb)]
   refine J3 (T3 ?_)
   rw[hname]
   refine J7 ⟨N7 Oo _,ih (j+1) _ b t c (by lia) hlt g1 g2 hS' fun t' h2 tk2 k2=>?_⟩
   have q:=hR t' h2 tk2 fun a o ha hb e=>k2 a o ha hb (hm a o (by simpa using ha) e)
   rw[ed,NT,show max b ns[j]=b by lia] at q
   exact q
theorem wQ {it l S:Addr} {items:Array Value} {ns:List Int} {c:Nat} (hh:A.handled=none) (hi:Mi items.toList ns) (hne:l≠it) (hS1:S≠it) (hS2:S≠l) (dk:Option (Int × Tok)) (hd:ns=[]->dk≠none)
  (h1:s.heap.IsListIter it l 0) (h2:s.heap.IsList l items) (hS:s.heap.get? S=some { cls:=.type "list",dict:=none,data:=.seq #[] c,slots:=#[] })
  (hR:∀ t' h' tk,(∀ a o,a≠it->a≠S->s.heap.get? a=some o->h'.get? a=some o)->R (.ok (.ret (.int (mxD ((dk.map (·.1)).getD 0) ns) t'))) { s with heap:=h',toks:=tk }) :
  LQ (Kl prog w) A (.builtin "max.loop" ⟨[.ref it,.none,.ref S],dkw dk⟩) R s:=by
 have W:=Walks.list (prog:=prog) (w:=w) (A:=A.in1) hh it l hne items
 have hname:(toString "max"++toString ".loop" : String) = "max.loop":=by decide
 have hsz:items.size=ns.length:=by rw[← Le]; exact hi.length
 refine Mw TY ?_; rw[MN Oo _]
 show Ke _ A.in1 (Tu (.ref S) >>= _) _ _ s; refine J3 (QL hS rfl ?_)
 show Ke _ A.in1 (tryCatch (Oz (.ref it)) _ >>= _) _ _ s
 cases ns with
 | nil =>
  have e0:items.size=0:=hsz
  refine J3 (QK (W.done s _ _ (by rw[e0]; exact⟨h1,h2⟩) fun h' tk hm=>?_))
  cases dk with
  | none=>exact absurd rfl (hd rfl)
  | some d =>
   refine J3 (QM ?_)
   exact J7 (hR d.2 h' tk fun a o ha hb e=>hm a o (by simpa using ha) e)
 | cons n r =>
  obtain⟨u,hu⟩:=oJ (n:=n) (j:=0) hi rfl
  refine J3 (QK (W.item 0 s _ _ (by rw[hsz]; exact Nat.succ_pos _) ⟨h1,h2⟩ fun v h' tk hP st hm=>?_))
  obtain⟨g1,g2⟩:=st
  have ev:v = .int n u:=by
   have e:items[0]? = some v:=hP
   rw[← Lx,hu] at e
   exact (La e).symm
  subst ev
  have hS':=hm S _ (by simpa using hS1) hS
  show Ke _ A.in1 (updateSeq S (fun _=>#[Og n u,Og n u]) >>= _) _ _ _
  refine J3 (Qz hS' rfl ?_)
  rw[hname]
  refine J7 ⟨N7 Oo _,Aa hh hi hne hS1 hS2 _ _ 1 _ n u _ rfl (TJ (Lb _)) ?_ ?_ (KN _ hS' rfl) fun t' h2 tk2 k2=>?_⟩
  ·exact g1.at fun o e=>(Kv _ _ hS1).trans e
  ·exact g2.at fun o e=>(Kv _ _ hS2).trans e
  ·exact hR t' h2 tk2 fun a o ha hb e=>k2 a o ha hb ((Kv _ _ (Mq hb)).trans (hm a o (by simpa using ha) e))
theorem yX (a v:Value):Rj "max" ⟨[a],[("default",v)]⟩:=by unfold Rj; kernel_rfl
theorem Ac (v:Value):QG "max" ["key","default"] 0 ⟨[],[("default",v)]⟩=pure [none,some v]:=by kernel_rfl
theorem HR {l:Addr} {items:Array Value} {ns:List Int} {Q:Value->J4->Prop} (hh:A.handled=none) (hl:s.heap.IsList l items) (hi:Mi items.toList ns) (dk:Option (Int × Tok)) (hd:ns=[]->dk≠none)
  (h:∀ t h' tk,(∀ a o,s.heap.get? a=some o->h'.get? a=some o)->Q (.int (mxD ((dk.map (·.1)).getD 0) ns) t) { s with heap:=h',toks:=tk }) :
  Ke (Kl prog w) A (call (.builtin "max") [.ref l] (dkw dk)) Q E s:=by
 have ha:Rj "max" ⟨[.ref l],dkw dk⟩:=by
  cases dk with
  | none=>exact F.args_max1 _
  | some d=>exact yX _ _
 have hb:QG "max" ["key","default"] 0 ⟨[],dkw dk⟩=pure [none,dk.map fun d=>.int d.1 d.2]:=by
  cases dk with
  | none=>rfl
  | some d=>exact Ac _
 have hname:(toString "max"++toString ".loop" : String) = "max.loop":=by decide
 refine O4 (O6 F.plain_max F.entry_max ?_)
 have main:Ke (Kl prog w) A.in1 (O2.«max» ⟨[.ref l],dkw dk⟩) (fun fin s'=>match fin with
   | .done f=>(match (Except.ok f:QT) with | .ok (.ret v)=>Q v s' | .ok _=>False | .error e=>E e s')
   | .again c'=>c'.quiet=true/\LQ (Kl prog w) A c' (fun r s'=>match r with | .ok (.ret v)=>Q v s' | .ok _=>False | .error e=>E e s') s') E s:=by
  show Ke _ A.in1 (QG "max" ["key","default"] 0 ⟨[],dkw dk⟩ >>= _) _ _ s
  refine J3 (Nx hb (J3 (J7 ?_)))
  refine J3 (Q7 hl (J3 (Lj ?_)))
  have lt:l < s.heap.objs.size:=by obtain⟨o,e,_⟩:=hl; exact Kh e
  have hs1:(s.heap.push { cls:=.type "list_iterator",data:=.fields #[.ref l,.int 0 0] }).objs.size=s.heap.objs.size+1:=Mm ..
  rw[hname]
  have ek:(dk.map fun d=>Og d.1 d.2).toList.map (fun d=>(("default" : KH),d))=dkw dk:=by cases dk <;> rfl
  refine J7 ⟨N7 Oo _,?_⟩
  show LQ _ A (.builtin "max.loop" ⟨[.ref s.heap.objs.size,.none,_],(dk.map fun d=>Og d.1 d.2).toList.map (fun d=>(("default" : KH),d))⟩) _ _
  rw[ek]
  refine wQ hh hi (Kz lt) (by rw[hs1]; exact Pr (Oi _)) (by rw[hs1]; exact Pr (Nm lt)) dk hd
   ⟨_,J6 _ (Ko _ rfl),rfl,rfl⟩ ((hl.push _).push _) (Ko _ rfl) fun t h' tk k=>?_
  exact h t h' tk fun a o e=>k a o (Kz (Kh e)) (by rw[hs1]; exact Kz (Nm (Kh e))) (J6 _ (J6 _ e))
 simp only[Pq,F.kind_max]
 cases hsig:Manifest.signature? "max" with
 | none=>exact J7 main
 | some sig =>
  have ha':Bind.checkArgs "max" sig ⟨[.ref l],dkw dk⟩=pure ():=by simpa only [Rj,hsig] using ha
  simp only[ha']
  exact J7 main
end
section
variable {X:Cx}
def Iv (K:Ky) (d:Int) (te:TA):TE:=fun σ H Q=>te σ H fun xs H1=>∃ (p:Addr) (ns:List Int),xs=[.ref p]/\SqL K H1 p (ns.map V.int)/\Q (.int (mxD d ns)) H1
theorem Ek {e:Expr} {te:TA} {d:Int} {j} {p pos kp cp:Qs} (hc:X.calm=true) (hg:Gl X "max") (hm:X.mg "max" = none) (ha:PA X [e] te)
  (hb:Lf "max" = some (.builtin "max"):=by decide+kernel)
  (he:Mu pos (Kr [e] X.env)=(false,Mp e X.env)::Mu pos (Kr [] X.env):=by rfl) (hp:(Mu pos (Kr [e] X.env)).any (·.1)=false:=by rfl) :
  PE X (.Call (.Name "max" p) [e] [⟨some "default",.Constant (.int d) j cp,kp⟩] pos) (Iv X.K d te):=by
 intro pins s σ H Q I h
 refine Ls (fD I hg hm hb ?_ (by decide) (by decide))
 refine callWith_kw (thn (ha pos pins s σ H _ I h) fun us s1 ⟨vs,H1,I1,r1,q⟩=>?_) he hp
 obtain⟨a,ns,rfl,hq,q⟩:=q
 obtain⟨u,rfl,ru⟩:=vals1 r1
 cases ru
 refine kws_cons (wpAny_Constant_int (kws_nil ?_))
 have I2:Inv X pins σ H1 { s1 with toks:=s1.toks+1 }:=I1.tok _
 obtain⟨its,rv,pl,hz⟩:=I2.list hq
 exact HR (I.ok.hd hc) pl.isList (show Mi its.toArray.toList ns from intsAre_of rv) (some (d,_)) (fun _ z=>nomatch z) fun t h' tk k=>⟨.int _,H1,I2.kept (t':=tk) k,⟨_,rfl⟩,q⟩
end
end L2
namespace L2
open PySem PySem.Spec PyProof.Rows
theorem xN:Manifest.owners.lookup (String.ofList ['d','e','s','r','e','v','e','r'].reverse)=some Manifest.sig_reversed:=by kernel_rfl
theorem cI:Slot "reversed" "__next__" "reversed.__next__" :=
 .of (owner:="reversed") (n:="__next__") (by rw[PQ,Nz]; kernel_rfl) (by decide+kernel) (by decide+kernel) (by decide+kernel) (by first | exact .inl (by decide+kernel) | exact .inr (by decide+kernel)) (by rw[Od]; kernel_rfl)
theorem o7:Slot "reversed" "__init__" "object.__init__" :=
 .of (owner:="object") (n:="__init__") (by rw[PQ,Nz]; kernel_rfl) (by decide+kernel) (by decide+kernel) (by decide+kernel) (by first | exact .inl (by decide+kernel) | exact .inr (by decide+kernel)) (by rw[Od]; kernel_rfl)
theorem gG:entryFor table "reversed.__next__" = some O2.«reversed.__next__»:=entryFor_of_tree (by kernel_rfl)
theorem iH (a:Value):Rj "reversed.__next__" ⟨[a],[]⟩:=by
 unfold Rj
 rw[Sd (id:="reversed.__next__") (n:=['_','_','t','x','e','n','_','_']) (o:=['d','e','s','r','e','v','e','r']) (by kernel_rfl) xN]
 kernel_rfl
theorem iQ:Slot "reversed" "__iter__" "reversed.__iter__" :=
 .of (owner:="reversed") (n:="__iter__") (by rw[PQ,Nz]; kernel_rfl) (by decide+kernel) (by decide+kernel) (by decide+kernel) (by first | exact .inl (by decide+kernel) | exact .inr (by decide+kernel)) (by rw[Od]; kernel_rfl)
theorem mO:entryFor table "reversed.__iter__" = some O2.«dict_keyiterator.__iter__»:=entryFor_alias (id':="dict_keyiterator.__iter__") (by kernel_rfl) rfl (by decide+kernel) (by kernel_rfl)
theorem oF (a:Value):Rj "reversed.__iter__" ⟨[a],[]⟩:=by
 unfold Rj
 rw[Sd (id:="reversed.__iter__") (n:=['_','_','r','e','t','i','_','_']) (o:=['d','e','s','r','e','v','e','r']) (by kernel_rfl) xN]
 kernel_rfl
theorem wA:TypeCalled "reversed" "reversed.__new__" "object.__init__" :=
 ⟨by decide+kernel,by decide+kernel,⟨_,_,F.mro_reversed⟩,F.made_reversed,by decide+kernel,by rw[Od]; kernel_rfl,o7⟩
theorem qy:Ru (.type "tuple") "__reversed__" = pure none:=by rw[PQ,Nz]; kernel_rfl
theorem qN:isSubtype (.type "tuple") (.type "dict")=pure false:=by rw[Od]; kernel_rfl
def RIt (h:Lh) (I t:Addr) (i:Int):Prop:=h.get? I=some { cls:=.type "reversed",dict:=none,data:=.fields #[.ref t,.int i 0],slots:=#[] }
theorem Bq (a:Value):Ud "reversed" ⟨[.type "reversed",a],[]⟩=pure (.type "reversed",[a]):=by
 unfold Ud
 simp only[isType,F.sub_reversed_self,pure_bind,Bool.not_true,SN,if_false]
theorem Ah (t:Addr) (items:Array Value) (hf:(items.size:Int) < 2 ^ 63) :
  Meets (O2.«reversed.__new__» ⟨[.type "reversed",.ref t],[]⟩) (fun _ R s=>IsTup s.heap t items/\R (.ok (.ret (.ref s.heap.objs.size))) { s with heap:=s.heap.push { cls:=.type "reversed",data:=.fields #[.ref t,.int ((items.size:Int) - 1) 0] },toks:=s.toks+1+1 }) :=
 .of_wp fun prog w A R s h=>by
  obtain⟨ht,h⟩:=h
  unfold O2.«reversed.__new__»
  refine J3 (Nx (Bq _) ?_)
  try dsimp only
  refine J3 (Nx (a:=()) (by first | rfl | kernel_rfl) (J3 (Nx (a:=()) (by first | rfl | kernel_rfl) ?_)))
  try dsimp only
  refine J3 (RB ht.typeIs qy ?_)
  try dsimp only
  refine (show Ke _ _ ((isInstance (.ref t) (.type "dict") >>= _) >>= _) _ _ s from J3 (J3 (Qm ht.typeIs qN ?_)))
  rw[if_neg J9]
  refine J3 (RB ht.typeIs slot_tuple_getitem.lookup ?_)
  dsimp only
  rw[if_pos (by decide+kernel)]
  refine J7 ?_
  rw[if_neg (by simp)]
  refine J3 (len_tuple ht hf ?_)
  refine J3 (Nx (a:=some ((items.size:Nat):Int)) rfl ?_)
  dsimp only
  refine J3 ?_
  refine (show Ke _ _ (newObj (.type "reversed") (.fields #[.ref t,Lg ((items.size:Int) - 1)])) _ _ _ from Lj ?_)
  exact J7 ⟨_,rfl,h⟩
section
variable {prog:Kq} {w:K1} {A:KY} {E:Value->J4->Prop} {s:J4}
theorem xH {t:Addr} {items:Array Value} {Q:Value->J4->Prop} (ht:IsTup s.heap t items) (hf:(items.size:Int) < 2 ^ 63)
  (h:Q (.ref s.heap.objs.size) { s with heap:=s.heap.push { cls:=.type "reversed",data:=.fields #[.ref t,.int ((items.size:Int) - 1) 0] },toks:=s.toks+1+1 }):Ke (Kl prog w) A (call (.type "reversed") [.ref t]) Q E s:=by
 refine callType_new wA (by decide) (F.typeCall_reversed_1 _) (F.newCall_reversed_1 _) (fun obj=>F.args_object_init_2 obj _) F.entry_reversed_new (Ah t items hf) ⟨ht,?_⟩
 exact⟨⟨_,Ko _ rfl,rfl⟩,h⟩
theorem Az {it t:Addr} {i:Nat} {items:Array Value} {x:Value} {Q:Option Value->J4->Prop} (hit:RIt s.heap it t (i:Int)) (ht:IsTup s.heap t items) (hi:(i:Int) < 2 ^ 63) (hx:items[i]? = some x)
  (hQ:∀ h',RIt h' it t ((i:Int) - 1)->Pu it s.heap h'->Q (some x) { s with heap:=h',toks:=s.toks+1 }):Ke (Kl prog w) A (Oz (.ref it)) Q E s:=by
 have hT:s.TypeIs (.ref it) "reversed":=⟨_,hit,rfl⟩
 unfold Oz
 refine J3 (Pz (Ob (name:=QF "__next__") hT cI (MF cI hT gG ?_ (iH _))))
 unfold O2.«reversed.__next__»
 refine J3 (Nx (a:=(Ku it,[])) rfl ?_)
 dsimp only
 refine J3 (O3 hit rfl (x:=.ref t) rfl (J3 (O3 hit rfl (x:=.int (i:Int) 0) rfl ?_)))
 dsimp only
 rw[if_neg (by lia)]
 refine J3 (RB ht.typeIs slot_tuple_getitem.lookup ?_)
 rw[if_neg (by simp)]
 refine J3 (wpAny_mkInt ?_)
 have hsz:i < items.size:=(Array.getElem?_eq_some_iff.mp hx).1
 have hk:Tv (i:Int) items.size=some i:=by
  have e0:¬ ((i:Int) < 0):=by lia
  unfold Tv
  simp only[if_neg e0]
  simp [hsz]
 refine J3 (Pz (getItem_tuple (s:={ s with toks:=s.toks+1 }) (show IsTup s.heap t items from ht) (by lia) hi hk hx ?_))
 dsimp only
 refine J3 (O3 (s:={ s with toks:=s.toks+1 }) hit rfl (x:=.int (i:Int) 0) rfl ?_)
 dsimp only
 refine J3 (Mt (s:={ s with toks:=s.toks+1 }) hit rfl (by simp) ?_)
 refine J7 ⟨x,rfl,J7 (hQ _ ?_ (Mf ..))⟩
 exact KN (Mv (·.setIfInBounds 1 (Lg ((i:Int) - 1)))) hit rfl
theorem Eb {it t:Addr} {Q:Option Value->J4->Prop} (hh:A.handled=none) (hit:RIt s.heap it t (-1)) (hQ:∀ h',Heap.ExtBut it s.heap h'->Q none { s with heap:=h' }):Ke (Kl prog w) A (Oz (.ref it)) Q E s:=by
 have hT:s.TypeIs (.ref it) "reversed":=⟨_,hit,rfl⟩
 unfold Oz
 refine J3 (Pz (Ob (name:=QF "__next__") hT cI (MF cI hT gG ?_ (iH _))))
 unfold O2.«reversed.__next__»
 refine J3 (Nx (a:=(Ku it,[])) rfl ?_)
 dsimp only
 refine J3 (O3 hit rfl (x:=.ref t) rfl (J3 (O3 hit rfl (x:=.int (-1) 0) rfl ?_)))
 dsimp only
 rw[if_pos (by decide)]
 refine J3 (QM ?_)
 refine J3 ?_
 refine (show Ke _ _ (setField (.ref it) 1 (Lg (-1)) >>= _) _ _ s from J3 (Mt hit rfl (by simp) ?_))
 have g1:=KN (Mv (·.setIfInBounds 1 (Lg (-1)))) hit rfl
 refine Mt g1 rfl (by simp) ?_
 refine J3 ?_
 refine (show Ke _ _ (newExc (.type "StopIteration") [] >>= _) _ _ _ from J3 ?_)
 simp only[newExc,newTuple]
 refine J3 (Lj ?_ (by size_fits))
 refine J3 (m:=Qi _ _) (Nx (a:=LR) (by first | rfl | (simp only[Qi]; rfl)) (Lj ?_ (by size_fits)))
 simp only[raiseNew]
 refine J3 (wpAny_handled ?_)
 first | rw[show A.in1.handled=none from hh] | rw[hh]
 refine J3 (J7 (wpAny_throw ?_))
 refine J3 (Qm (T:="StopIteration") (b:=true) ⟨_,Ko _ rfl,rfl⟩ isSubtype_stop (J7 ?_))
 exact hQ _ ((((Mf ..).trans (Mf ..)).extBut.push _).push _)
theorem uR {it t:Addr} {i:Int} {Q:Value->J4->Prop} (hI:RIt s.heap it t i) (h:Q (.ref it) s):Ke (Kl prog w) A (R0 (.ref it)) Q E s:=by
 have hT:s.TypeIs (.ref it) "reversed":=⟨_,hI,rfl⟩
 refine SQ hT iQ (MF iQ hT mO (show Ke _ _ (ret (.ref it)) _ _ s from ?_) (oF _))
 exact J7 ⟨_,rfl,"reversed",_,hT,cI.lookup,h⟩
end
def Itv (K:Ky) (a:Addr) (n:Nat):It :=
 ⟨fun i H=>i < n/\∃ xs x,SqT K H a xs/\xs.length=n/\xs[n - 1 - i]? = some x,fun i H x H'=>H'=H/\∀ xs,SqT K H a xs->xs[n - 1 - i]? = some x,fun i _=>i=n⟩
theorem Ai {P:Kq} {w:K1} {K:Ky} {tg:Expr} (a it:Addr) (n:Nat) (hn:(n:Int) < 2 ^ 63):Turn P w K tg (Itv K a n) [it] it (fun i h=>RIt h it a ((n:Int) - 1 - (i:Int))) where
 mem:=by simp
 obj:=fun i h st b hb=>by
  have e:b=it:=by simpa using hb
  subst e
  exact⟨_,st,fun v z=>by cases (show Data.fields _=Data.cell v from z)⟩
 keep:=fun i h h' st k=>k it (by simp) _ st
 item:=by
  intro X hP hw hK hc i pins s σ H E I hf st hg
  subst hP hw hK
  obtain⟨hin,xs,x,hq,hlen,hx⟩:=hg
  obtain⟨its,rv,p,hz⟩:=I.tuple hq
  obtain⟨u,hu,ru⟩:=rv.get hx
  obtain⟨f0,f1,f2,f3,f4,f5⟩:=hf it (by simp)
  have e:(n:Int) - 1 - (i:Int)=((n - 1 - i:Nat):Int):=by lia
  have st':RIt s.heap it a ((n - 1 - i:Nat):Int):=by rw[← e]; exact st
  refine Az st' p (by lia) (x:=u) (by simpa using hu) fun h' st2 sb=>?_
  have e2:((n - 1 - i:Nat):Int) - 1=(n:Int) - 1 - ((i+1:Nat):Int):=by lia
  rw[e2] at st2
  have I1:Inv X pins σ H { s with heap:=h',toks:=s.toks+1 }:=I.turned (t':=s.toks+1) (fun b o hb e=>(sb.2 b hb).trans e) f0 f1 f3 f4 f5
  exact⟨u,rfl,Bb (s:={ s with heap:=h',toks:=s.toks+1 }) st2 rfl rfl (by decide) ⟨x,H,I1,ru,⟨rfl,fun ys hy=>by rw[I.pQ hy hq]; exact hx⟩,st2,fun b hb=>(hf b hb).1⟩⟩
 done:=by
  intro X hP hw hK hc i pins s σ H E I hf st hg
  subst hP hw hK
  cases (show i=n from hg)
  obtain⟨f0,f1,f2,f3,f4,f5⟩:=hf it (by simp)
  have st':RIt s.heap it a (-1):=by
   have e:(n:Int) - 1 - (n:Int) = -1:=by lia
   rw[← e]; exact st
  exact Eb (I.ok.hd hc) st' fun h' eb=>⟨rfl,I.turned (t':=s.toks) (fun b o hb e=>eb b o hb e) f0 f1 f3 f4 f5⟩
 self:=fun _ _ _ _ _ st h=>uR st h
def JP (K:Ky) (ta:TA):TI:=fun σ H R=>ta σ H fun vs H1=>∃ a xs,vs=[.ref a]/\SqT K H1 a xs/\R (Itv K a xs.length) H1
theorem Ia {X:Cx} {tg:Expr} {a:Expr} {ta:TA} {p pos:Qs} (hg:Gl X "reversed") (hm:X.mg "reversed" = none) (ha:PA X [a] ta) (hs:Kr [a] X.env=[(false,Mp a X.env)]:=by rfl) :
  PI X tg (.Call (.Name "reversed" p) [a] [] pos) (JP X.K ta):=by
 intro pins s σ H R I h
 refine Call_ (fD I hg hm boot_reversed (MP (thn (ha pos pins s σ H _ I h) fun us s1 ⟨vs,H1,I1,r1,q1⟩=>?_) hs rfl))
 obtain⟨c,xs,e,hx,q⟩:=q1
 subst e
 obtain⟨u1,rfl,ru1⟩:=vals1 r1
 cases ru1
 obtain⟨its,rv,tp,hz⟩:=I1.tuple hx
 have hl:=rv.length
 have hn:=pD
 have hsz:((its.toArray.size:Nat):Int) < 2 ^ 63:=by rw[Km,← hl]; lia
 refine xH tp hsz ?_
 have g:RIt (s1.heap.push { cls:=.type "reversed",data:=.fields #[.ref c,.int ((its.toArray.size:Int) - 1) 0] }) s1.heap.objs.size c ((xs.length:Int) - 1 - ((0:Nat):Int)):=by
  have e:((xs.length:Int) - 1 - ((0:Nat):Int))=(its.toArray.size:Int) - 1:=by rw[Km,← hl]; lia
  rw[e]
  exact Ko _ rfl
 refine uR g ⟨s1.heap.objs.size,[s1.heap.objs.size],_,_,H1,rfl,I1.kept (t':=s1.toks+1+1) fun b o e=>J6 _ e,Ai c _ xs.length (by lia),g,fun b hb=>?_,q⟩
 have e:b=s1.heap.objs.size:=by simpa using hb
 subst e
 exact I1.Gr (Kc _) (I1.hok.fresh (Kc _))
theorem Ei {K:Ky} {a:Addr} {xs:List V} {g:TG} {tb:TS} {D:Ends} {σ:St} {H:Hp} (Pv:Nat->St->Hp->Prop) (h0:Pv 0 σ H) (hl:∀ i σ H,i<=xs.length->Pv i σ H->SqT K H a xs)
  (hs:∀ i x σ H,i < xs.length->xs[xs.length - 1 - i]? = some x->Pv i σ H->g x σ H fun σ2 H2=>tb { D with nx:=Pv (i+1),ct:=Pv (i+1),bk:=D.nx } σ2 H2) (hd:∀ σ H,Pv xs.length σ H->D.nx σ H) :
  ∃ W:Nat->Nat->St->Hp->Prop,(∃ m,W 0 m σ H)/\∀ i m σ H,W i m σ H →
   ((Itv K a xs.length).stop i H/\D.nx σ H)∨((Itv K a xs.length).go i H/\∃ N:St->Hp->Prop,(∀ σ' H',N σ' H'->∃ m',m' < m/\W (i+1) m' σ' H')/\∀ x H',(Itv K a xs.length).yld i H x H'->g x σ H' fun σ2 H2=>tb { D with nx:=N,ct:=N,bk:=D.nx } σ2 H2):=by
 refine⟨fun i m σ H=>m=xs.length - i/\i<=xs.length/\Pv i σ H,⟨xs.length,by simp,Lb _,h0⟩,?_⟩
 rintro i m σ H ⟨rfl,hi,p⟩
 have q1:=hl i σ H hi p
 by_cases hlt:i < xs.length
 ·refine .inr ⟨⟨hlt,xs,xs[xs.length - 1 - i],q1,rfl,Kd (by lia)⟩,Pv (i+1),fun σ' H' p'=>⟨xs.length - (i+1),by lia,rfl,hlt,p'⟩,fun v H' y=>?_⟩
  obtain⟨rfl,hx⟩:=y
  exact hs i v σ _ hlt (hx xs q1) p
 ·have e:i=xs.length:=by lia
  subst e
  exact .inl ⟨rfl,hd σ H p⟩
end L2
namespace L2
open PySem PySem.Spec PyProof.Rows
section
variable {prog:Kq} {w:K1} {A:KY} {E:Value->J4->Prop} {s:J4}
end
end L2
namespace L2
open PySem PySem.Spec PyProof.Rows
end L2
namespace L2
open PySem PySem.Spec PyProof.Rows
section
variable {X:Cx} {k:Nat}
end
end L2
namespace L2
open PySem PySem.Spec PyProof.Rows
theorem BV {X:Cx} {tg l:Expr} {tl:TE} (K:Ky) (hK:X.K=K) (hl:PE X l tl):PI X tg l (Ao K tl):=by
 subst hK
 exact jC hl
end L2
namespace L2
open PySem PySem.Spec PyProof.Rows
section
variable {prog:Kq} {w:K1} {A:KY} {E:Value->J4->Prop} {s:J4}
end
end L2
namespace L2
open PySem PySem.Spec PyProof.Rows
end L2
namespace L2
open PySem PySem.Spec PyProof.Rows
section
variable {X:Cx}
theorem Fb {ns:List Int} {us:List Value} (r:Vals (ns.map V.int) us) {i:Nat} {u:Value} (h:us[i]? = some u):∃ n t,ns[i]? = some n/\u = .int n t:=by
 have hl:=r.length
 rw[J8] at hl
 have hi:i < us.length:=(List.getElem?_eq_some_iff.mp h).1
 have hn:ns[i]? = some ns[i]:=Kd (by lia)
 obtain⟨w,hw,rw'⟩:=r.get (i:=i) (x:=.int ns[i]) (by rw[KQ,hn]; rfl)
 rw[h] at hw
 cases hw
 obtain⟨t,rfl⟩:=rw'
 exact⟨_,t,hn,rfl⟩
end
end L2
namespace L2
open PySem PySem.Spec PyProof.Rows
end L2
namespace L2
open PySem PySem.Spec PyProof.Rows
section
variable {X:Cx}
end
end L2
namespace L2
open PySem PySem.Spec PyProof.Rows
theorem sJ (elt t0 i0 t1 i1:Expr) (scope:Nr) (pos:Qs) (it acc:Value) (env:QZ) :
  compTurn (.ListComp elt [⟨t0,i0,[],0⟩,⟨t1,i1,[],0⟩] scope pos) 0 it acc env=(do
   Pk i0.pos
   match ← Oz it with
   | none=>pure (.done .next)
   | some v =>
    NP t0 it v
    R1 t0 env v
    let x ← Mp i1 env
    Pk i1.pos
    let x ← Nj i1 env x
    let _ ← runOwn (.compStart (.ListComp elt [⟨t0,i0,[],0⟩,⟨t1,i1,[],0⟩] scope pos) 1 (← Qu [x] (R0 x)) acc env) env
    again (.compLoop (.ListComp elt [⟨t0,i0,[],0⟩,⟨t1,i1,[],0⟩] scope pos) 0 it acc env)):=by rfl
theorem tG (elt t0 i0 t1 i1:Expr) (scope:Nr) (pos:Qs) (it acc:Value) (env:QZ) :
  compTurn (.ListComp elt [⟨t0,i0,[],0⟩,⟨t1,i1,[],0⟩] scope pos) 1 it acc env=(Pk i1.pos >>= fun _=>Oz it >>= fun r=>match r with
   | none=>pure (.done .next)
   | some v=>NP t1 it v >>= fun _=>R1 t1 env v >>= fun _ =>
    (Mp elt env >>= fun x=>call (.builtin "list.append") [acc,x] >>= fun _=>pure ()) >>= fun _ =>
     again (.compLoop (.ListComp elt [⟨t0,i0,[],0⟩,⟨t1,i1,[],0⟩] scope pos) 1 it acc env)):=by rfl
section
variable {prog:Kq} {w:K1} {A:KY} {R:QT->J4->Prop} {s:J4} {elt t0 i0 t1 i1:Expr} {scope:Nr} {pos:Qs} {it acc:Value} {env:QZ}
theorem qM (h0:LQ (Kl prog w) A (.compLoop (.ListComp elt [⟨t0,i0,[],0⟩,⟨t1,i1,[],0⟩] scope pos) 1 it acc env) R s)
  (h:Ke (Kl prog w) A (R0 it) (fun it' s'=>LQ (Kl prog w) A (.compLoop (.ListComp elt [⟨t0,i0,[],0⟩,⟨t1,i1,[],0⟩] scope pos) 1 it' acc env) R s') (notedBy (Kl prog w) A env fun x s'=>R (.error x) s') s) :
  LQ (Kl prog w) A (.compStart (.ListComp elt [⟨t0,i0,[],0⟩,⟨t1,i1,[],0⟩] scope pos) 1 it acc env) R s:=by
 refine RK ?_
 show Ke _ _ ((compStart (.ListComp elt [⟨t0,i0,[],0⟩,⟨t1,i1,[],0⟩] scope pos) 1 it acc env).onRaise (fun x=>do QH x env; Pk theWindowsPlace)) _ _ s
 refine wpAny_notedAt ?_
 unfold compStart
 show Ke _ _ (ask >>= _) _ _ s
 refine J3 (Oc (wpAny_ite ?_))
 split
 ·first
   | exact J3 (J7 (J7 (And.intro rfl h0)))
   | exact J7 (And.intro rfl h0)
 ·first
   | exact J3 (QM (J3 (N6 (J3 (Ln h (fun it' s' h'=>J7 (And.intro rfl h')) fun _ _ x=>x)))))
   | (refine J3 (QM ?_); show Ke _ _ (Pk i1.pos >>= _) _ _ s; exact J3 (N6 (J3 (Ln h (fun it' s' h'=>J7 (And.intro rfl h')) fun _ _ x=>x))))
abbrev noX:Value->J4->Prop:=fun _ _=>False
theorem dN {E:Value->J4->Prop} (x:Value) (s':J4) (z:noX x s'):E x s':=z.elim
theorem qg (hs1:∀ x,Nj i1 env x=pure x) (I:Nat->J4->Prop)
  (turn:∀ n s,I n s->Ke (Kl prog w) A (Oz it) (fun r s₁=>match r with
   | none=>R (.ok .next) s₁
   | some v=>Ke (Kl prog w) A (NP t0 it v) (fun _ s₀=>Ke (Kl prog w) A (R1 t0 env v) (fun _ s₂=>Ke (Kl prog w) A (Mp i1 env) (fun x s₃=>Ke (Kl prog w) A (R0 x) (fun it1 s₄ =>
     LQ (Kl prog w) A (.compStart (.ListComp elt [⟨t0,i0,[],0⟩,⟨t1,i1,[],0⟩] scope pos) 1 it1 acc env) (fun r s'=>match r with | .ok _=>∃ m,m < n/\I m s' | .error _=>False) s₄) noX s₃) noX s₂) noX s₀) noX s₁) noX s)
  (n:Nat) (h:I n s):LQ (Kl prog w) A (.compLoop (.ListComp elt [⟨t0,i0,[],0⟩,⟨t1,i1,[],0⟩] scope pos) 0 it acc env) R s:=by
 refine codeAny_loop rfl I (fun n s hI=>?_) n h
 refine (show Ke (Kl prog w) A ((compTurn (.ListComp elt [⟨t0,i0,[],0⟩,⟨t1,i1,[],0⟩] scope pos) 0 it acc env).onRaise (fun x=>do QH x env; T6 x)) _ _ s from wpAny_noted ?_)
 rw[sJ]
 refine J3 (N6 (J3 (Ln (turn n s hI) (fun r s₁ h₁=>?_) dN)))
 cases r with
 | none=>exact J7 h₁
 | some v =>
  refine J3 (Ln h₁ (fun _ s₀ h₀=>J3 (Ln h₀ (fun _ s₂ h₂=>J3 (Ln h₂ (fun x s₃ h₃=>J3 (N6 (J3 (Nx (hs1 x) (J3 (MT (Ln h₃ (fun it1 s₄ h₄=>?_) dN))))))) dN)) dN)) dN)
  refine J3 (wpAny_runOwn (Nt h₄ fun r s' hr=>?_))
  cases r with
  | ok f=>exact J7 ⟨rfl,hr⟩
  | error e=>exact hr.elim
theorem qU (I:Nat->J4->Prop)
  (turn:∀ n s,I n s->Ke (Kl prog w) A (Oz it) (fun r s₁=>match r with
   | none=>R (.ok .next) s₁
   | some v=>Ke (Kl prog w) A (NP t1 it v) (fun _ s₀=>Ke (Kl prog w) A (R1 t1 env v) (fun _ s₂=>Ke (Kl prog w) A (Mp elt env) (fun x s₄=>Ke (Kl prog w) A (call (.builtin "list.append") [acc,x]) (fun _ s₅=>∃ m,m < n/\I m s₅) noX s₄) noX s₂) noX s₀) noX s₁) noX s)
  (n:Nat) (h:I n s):LQ (Kl prog w) A (.compLoop (.ListComp elt [⟨t0,i0,[],0⟩,⟨t1,i1,[],0⟩] scope pos) 1 it acc env) R s:=by
 refine codeAny_loop rfl I (fun n s hI=>?_) n h
 refine (show Ke (Kl prog w) A ((compTurn (.ListComp elt [⟨t0,i0,[],0⟩,⟨t1,i1,[],0⟩] scope pos) 1 it acc env).onRaise (fun x=>do QH x env; T6 x)) _ _ s from wpAny_noted ?_)
 rw[tG]
 refine J3 (N6 (J3 (Ln (turn n s hI) (fun r s₁ h₁=>?_) dN)))
 cases r with
 | none=>exact J7 h₁
 | some v =>
  refine J3 (Ln h₁ (fun _ s₀ h₀=>J3 (Ln h₀ (fun _ s₂ h₂=>J3 (J3 (Ln h₂ (fun x s₄ h₄=>J3 (Ln h₄ (fun _ s₅ h₅=>J7 (J7 ⟨rfl,h₅⟩)) dN)) dN))) dN)) dN)
end
def kh (D:Addr) (σ0:St) (J:It) (g:TG) (wi1:TI) (g1:TG) (te:TE) (H1:Hp) (Q:Hp->Prop):Prop :=
 ∃ W:Nat->Nat->List V->St->Hp->Prop,(∃ m,W 0 m [] σ0 (upd H1 D (.lst []))) ∧
  ∀ i m ys σ' H',W i m ys σ' H'->((J.stop i H'/\Q H')∨(J.go i H'/\∃ N:List V->St->Hp->Prop,(∀ zs σ2 H2,N zs σ2 H2->∃ m',m' < m/\W (i+1) m' zs σ2 H2) ∧
   ∀ x H2,J.yld i H' x H2->g x σ' H2 fun σ3 H3=>wi1 σ3 H3 fun J1 H4 =>
    ∃ Y:Nat->Nat->List V->St->Hp->Prop,(∃ m,Y 0 m ys σ3 H4) ∧
     ∀ j m zs σ5 H5,Y j m zs σ5 H5->((J1.stop j H5/\N zs σ5 H5)∨(J1.go j H5/\∃ M:List V->St->Hp->Prop,(∀ zs σ6 H6,M zs σ6 H6->∃ m',m' < m/\Y (j+1) m' zs σ6 H6) ∧
      ∀ y H6,J1.yld j H5 y H6->g1 y σ5 H6 fun σ7 H7=>te σ7 H7 fun v H8=>H8 D=some (.lst zs)/\zs.length < sizeLine/\M (zs++[v]) σ7 (upd H8 D (.lst (zs++[v])))))))
def Gz (n:Nat) (cap:List Nat) (wi:TI) (g:TG) (wi1:TI) (g1:TG) (te:TE):TE:=fun σ H Q=>wi σ H fun J H1=>∀ D,H1 D=none->kh D (Dy n cap σ) J g wi1 g1 te H1 fun H2=>Q (.ref D) H2
section
variable {X:Cx} {elt t0 i0 t1 i1:Expr} {scope:Nr} {pos:Qs} {L F:List KH} {cap:List Nat} {wi wi1:TI} {g g1:TG} {te:TE}
theorem zZ {cl:List (KH × Addr)} {pins:List (Addr × NB)} {σ:St} {s2:J4} {H2:Hp} {it:Addr} {fp:List Addr} {tn:Nat->Lh->Prop} {J:It} {use:Option (Value->Sem Unit)} {QQ:Value->J4->Prop} {Z:Hp->Prop} {E:Value->J4->Prop}
  (hc:X.calm=true) (ok:jN X scope F cap)
  (sub:∀ n c,cl.lookup n=some c->X.env.cells.lookup n=some c) (all:∀ y∈scope.names,y.2 = .free->∃ c,cl.lookup y.1=some c)
  (hg:∀ cl C s H fp,PG (aU X scope cl C (L++F) s H fp) t0 g) (hi1:∀ cl C s H fp,PI (aU X scope cl C (L++F) s H fp) t1 i1 wi1) (hg1:∀ cl C s H fp,PG (aU X scope cl C (L++F) s H fp) t1 g1) (he:∀ cl C s H fp,PE (aU X scope cl C (L++F) s H fp) elt te)
  (hs1:∀ (env:QZ) x,Nj i1 env x=pure x)
  (I2:Inv X pins σ H2 s2) (T:Turn X.prog X.w X.K t0 J fp it tn) (st2:tn 0 s2.heap) (f2:∀ b∈fp,uO X pins H2 b)
  (q2:kh s2.heap.objs.size (Dy L.length cap σ) J g wi1 g1 te H2 Z)
  (fin:∀ (C:Addr) (s':J4) (H':Hp),Z H'->Inv X pins σ H' s'->(∃ m,s'.heap.Ns C m)->H' C=none->C≠X.env.locals->X.s₀.heap.objs.size<=C->(∀ x c,X.env.cells.lookup x=some c->c≠C)->(∀ p∈X.pn++pins,p.1≠C) →
   Ro (Kl X.prog X.w) X.A E use QQ (.ref s2.heap.objs.size) C (.ok .next) s') :
  Ke (Kl X.prog X.w) X.A (newList []) (fun acc s₃=>Ke (Kl X.prog X.w) X.A (newFunctionEnv scope X.env.globals cl [] X.env.qual none .none (some X.env)) (fun cenv s₄ =>
   LQ (Kl X.prog X.w) X.A (.compStart (.ListComp elt [⟨t0,i0,[],0⟩,⟨t1,i1,[],0⟩] scope pos) 0 (.ref it) acc { cenv with scope:=relabel scope X.env }) (Ro (Kl X.prog X.w) X.A E use QQ acc cenv.locals) s₄) E s₃) E s2:=by
 have hD:H2 s2.heap.objs.size=none:=I2.fresh
 refine Lj (RX ok.cell (by intro y hy; simp at hy) (fun h₁ hns₁ hsb₁=>?_) ok.kind)
 dsimp only at hns₁ hsb₁ ⊢
 have I3:Inv X pins σ (upd H2 s2.heap.objs.size (.lst [])) { s2 with heap:=s2.heap.push { cls:=.type "list",data:=.seq ([]:List Value).toArray } }:=I2.Iu (t':=s2.toks) (ys:=[]) (its:=[]) .nil (Lb _)
 have blt:∀ b∈fp,b < s2.heap.objs.size:=fun b hb=>let ⟨_,e,_⟩:=T.obj 0 _ st2 b hb; Kh e
 have szC:(s2.heap.push { cls:=.type "list",data:=.seq ([]:List Value).toArray }).objs.size=s2.heap.objs.size+1:=Mm _ _
 generalize hs3:({ s2 with heap:=s2.heap.push { cls:=.type "list",data:=.seq ([]:List Value).toArray } }:J4)=s3 at I3
 have es3:s3.heap=s2.heap.push { cls:=.type "list",data:=.seq ([]:List Value).toArray }:=by rw[← hs3]
 have eos:s3.os=s2.os:=by rw[← hs3]
 have fok:∀ b∈fp,uO X pins (upd H2 s2.heap.objs.size (.lst [])) b/\b < s3.heap.objs.size:=fun b hb=>by
  obtain⟨f0,fr⟩:=f2 b hb
  refine⟨⟨by rw[aC (Kz (blt b hb))]; exact f0,fr⟩,?_⟩
  rw[es3,szC]
  exact Nm (blt b hb)
 have hkp:∀ b o,s3.heap.get? b=some o->h₁.get? b=some o:=fun b o e=>by
  have e':b < s3.heap.objs.size:=Kh e
  rw[es3] at e e'
  exact (hsb₁.2 b (Kz e')).trans (J6 _ e)
 have hns:h₁.Ns s3.heap.objs.size fun _=>none:=by
  rw[es3]
  exact hns₁
 have I4:∀ tk,Inv (aU X scope cl s3.heap.objs.size (L++F) s3 (upd H2 s2.heap.objs.size (.lst [])) fp) [] (Dy L.length cap σ) (upd H2 s2.heap.objs.size (.lst [])) { s3 with heap:=h₁,toks:=tk }:=fun tk =>
  ni (L:=L) ok I3 fok sub all hns hkp
 have stat:∀ {H':Hp},(∀ b∈fp,H' b=none)->∀ b∈fp,uO (aU X scope cl s3.heap.objs.size (L++F) s3 (upd H2 s2.heap.objs.size (.lst [])) fp) [] H' b:=fun {H'} hn b hb=>by
  obtain⟨⟨_,g1,g2,g3,g4,g5⟩,g6⟩:=fok b hb
  exact⟨hn b hb,Kz g6,rU I3 g1 g2,.inl hb,fun x c e=>g4 x c (sub x c e),fun p hp=>absurd (show p∈([]:List (Addr × NB)) from hp) (by simp)⟩
 have loop:∀ tk,LQ (Kl X.prog X.w) X.A (.compLoop (.ListComp elt [⟨t0,i0,[],0⟩,⟨t1,i1,[],0⟩] scope pos) 0 (.ref it) (.ref s2.heap.objs.size) (S6 scope cl s3.heap.objs.size X.env))
   (Ro (Kl X.prog X.w) X.A E use QQ (.ref s2.heap.objs.size) s3.heap.objs.size) { s3 with heap:=h₁,toks:=tk }:=fun tk=>by
  obtain⟨W,⟨m0,w0⟩,turn⟩:=q2
  have st3:tn 0 h₁:=T.keep 0 _ _ st2 fun b hb o e=>hkp b o (by rw[es3]; exact J6 _ e)
  refine qg (hs1 _) (fun n s'=>∃ i ys σ' H',Inv (aU X scope cl s3.heap.objs.size (L++F) s3 (upd H2 s2.heap.objs.size (.lst [])) fp) [] σ' H' s'/\tn i s'.heap/\(∀ b∈fp,H' b=none)/\W i n ys σ' H') ?_ m0
   ⟨0,[],_,_,I4 tk,st3,fun b hb=>(fok b hb).1.1,w0⟩
  rintro n s5 ⟨i,ys,σ5,H5,I5,st5,fr5,w5⟩
  rcases turn i n ys σ5 H5 w5 with⟨stop,qz⟩ | ⟨go,N,hN,step⟩
  ·refine thn (T.done (aU X scope cl s3.heap.objs.size (L++F) s3 (upd H2 s2.heap.objs.size (.lst [])) fp) rfl rfl rfl hc i [] s5 σ5 H5 _ I5 (stat fr5) st5 stop) fun r s6 ⟨hr,I6⟩=>?_
   subst hr
   have un:Un (frs X.stack) fp H2 H5 s2.heap s6.heap:=by
    have u1:Un (frs X.stack) fp H2 (upd H2 s2.heap.objs.size (.lst [])) s2.heap s3.heap:=by
     rw[es3]
     exact Un.laid (fun _ _ q=>J6 _ q) (Kc _) hD
    exact u1.trans I6.base
   have J1:Inv X pins σ H5 s6:=I2.call' (I6.os.trans eos) un I6.hok I6.bare fun b hb=>by
    obtain⟨_,g1,_,g3,g4,g5⟩:=f2 b hb
    exact⟨g3,g1,g4,g5⟩
   have hC:s2.heap.objs.size<=s3.heap.objs.size:=by rw[es3,szC]; exact M9 _
   obtain⟨m,hm,_⟩:=I6.loc
   refine fin s3.heap.objs.size s6 H5 qz J1 ⟨m,hm⟩ I6.free (Pr (Kg I2.lt hC)) (K7 I2.sz hC) (fun x c e z=>?_) (fun p hp z=>?_)
   ·obtain⟨v,q⟩:=I2.cell x c e
    exact absurd (Kg q.lt (by rw[z]; exact hC)) (Ly _)
   ·exact absurd (Kg (Kh (I2.pin p hp).1) (by rw[z]; exact hC)) (Ly _)
  ·refine thn (T.item (aU X scope cl s3.heap.objs.size (L++F) s3 (upd H2 s2.heap.objs.size (.lst [])) fp) rfl rfl rfl hc i [] s5 σ5 H5 _ I5 (stat fr5) st5 go) fun r s6 ⟨u,hr,h6⟩=>?_
   subst hr
   refine thn h6 fun _ s7 ⟨x,H7,I7,r7,y7,st7,fr7⟩=>?_
   have I7':=I7.pinned (stat fr7) (T.obj _ _ st7)
   refine thn (hg _ _ _ _ _ _ s7 σ5 H7 x u _ I7' r7 (step x H7 y7)) fun _ s8 ⟨σ8,H8,I8,q8⟩=>?_
   have again:∀ {σ9:St} {H9:Hp} {s9:J4} {zs:List V},Inv (aU X scope cl s3.heap.objs.size (L++F) s3 (upd H2 s2.heap.objs.size (.lst [])) fp) ([]++jE fp s7.heap) σ9 H9 s9->N zs σ9 H9 →
     ∃ m,m < n/\∃ i ys σ' H',Inv (aU X scope cl s3.heap.objs.size (L++F) s3 (upd H2 s2.heap.objs.size (.lst [])) fp) [] σ' H' s9/\tn i s9.heap/\(∀ b∈fp,H' b=none)/\W i m ys σ' H':=fun {σ9 H9 s9 zs} I9 n9=>by
    obtain⟨m',hm,w9⟩:=hN zs σ9 H9 n9
    refine⟨m',hm,i+1,zs,σ9,H9,I9.gn,T.keep _ _ _ st7 fun b hb o e=>(I9.pin (b,o) (KJ _ (KJ _ (cG hb e)))).1,fun b hb=>?_,w9⟩
    obtain⟨o,e,d⟩:=T.obj _ _ st7 b hb
    exact (I9.pin (b,o) (KJ _ (KJ _ (cG hb e)))).2.1
   refine thn (hi1 _ _ _ _ _ _ s8 σ8 H8 _ I8 q8) fun v1 s9 h9=>thn h9 fun itv s10 h10=>?_
   obtain⟨it1,fp1,tn1,J1,H10,e,I10,T1,st10,f10,Y,⟨m1,y0⟩,turn1⟩:=h10
   subst e
   have stat1:∀ {H':Hp},(∀ b∈fp1,H' b=none)->∀ b∈fp1,uO (aU X scope cl s3.heap.objs.size (L++F) s3 (upd H2 s2.heap.objs.size (.lst [])) fp) ([]++jE fp s7.heap) H' b:=fun hn b hb=>⟨hn b hb,(f10 b hb).2⟩
   have loop1:LQ (Kl X.prog X.w) X.A (.compLoop (.ListComp elt [⟨t0,i0,[],0⟩,⟨t1,i1,[],0⟩] scope pos) 1 (.ref it1) (.ref s2.heap.objs.size) (S6 scope cl s3.heap.objs.size X.env))
     (fun r s'=>match r with | .ok _=>∃ m,m < n/\∃ i ys σ' H',Inv (aU X scope cl s3.heap.objs.size (L++F) s3 (upd H2 s2.heap.objs.size (.lst [])) fp) [] σ' H' s'/\tn i s'.heap/\(∀ b∈fp,H' b=none)/\W i m ys σ' H' | .error _=>False) s10:=by
    refine qU (fun k s'=>∃ j zs σ' H',Inv (aU X scope cl s3.heap.objs.size (L++F) s3 (upd H2 s2.heap.objs.size (.lst [])) fp) ([]++jE fp s7.heap) σ' H' s'/\tn1 j s'.heap/\(∀ b∈fp1,H' b=none)/\Y j k zs σ' H') ?_ m1
     ⟨0,ys,_,_,I10,st10,fun b hb=>(f10 b hb).1,y0⟩
    rintro k s11 ⟨j,zs,σ11,H11,I11,st11,fr11,w11⟩
    rcases turn1 j k zs σ11 H11 w11 with⟨stop1,n1⟩ | ⟨go1,M,hM,step1⟩
    ·refine thn (T1.done (aU X scope cl s3.heap.objs.size (L++F) s3 (upd H2 s2.heap.objs.size (.lst [])) fp) rfl rfl rfl hc j _ s11 σ11 H11 _ I11 (stat1 fr11) st11 stop1) fun r s12 ⟨hr,I12⟩=>?_
     subst hr
     exact again I12 n1
    ·refine thn (T1.item (aU X scope cl s3.heap.objs.size (L++F) s3 (upd H2 s2.heap.objs.size (.lst [])) fp) rfl rfl rfl hc j _ s11 σ11 H11 _ I11 (stat1 fr11) st11 go1) fun r s12 ⟨u1,hr,h12⟩=>?_
     subst hr
     refine thn h12 fun _ s13 ⟨x1,H13,I13,r13,y13,st13,fr13⟩=>?_
     have I13':=I13.pinned (stat1 fr13) (T1.obj _ _ st13)
     refine thn (hg1 _ _ _ _ _ _ s13 σ11 H13 x1 u1 _ I13' r13 (step1 x1 H13 y13)) fun _ s14 ⟨σ14,H14,I14,q14⟩=>?_
     refine thn (he _ _ _ _ _ _ s14 σ14 H14 _ I14 q14) fun y s15 ⟨yv,H15,I15,r15,e15,z15,n15⟩=>?_
     refine thn (eE _ s15 σ14 H15 (.ref s2.heap.objs.size) [yv] (.ref s2.heap.objs.size) [y] (fun _ H'=>M (zs++[yv]) σ14 H') I15 rfl (.cons r15 .nil) ⟨_,zs,yv,rfl,rfl,e15,z15,n15⟩) fun _ s16 ⟨_,H16,I16,_,n16⟩=>?_
     obtain⟨m',hm,w16⟩:=hM _ _ _ n16
     refine⟨m',hm,j+1,_,σ14,H16,I16.gn,T1.keep _ _ _ st13 fun b hb o e=>(I16.pin (b,o) (KJ _ (KJ _ (cG hb e)))).1,fun b hb=>?_,w16⟩
     obtain⟨o,e,d⟩:=T1.obj _ _ st13 b hb
     exact (I16.pin (b,o) (KJ _ (KJ _ (cG hb e)))).2.1
   exact qM loop1 (T1.self _ 0 _ _ _ st10 loop1)
 have eC:(s2.heap.push { cls:=.type "list",data:=.seq ([]:List Value).toArray }).objs.size=s3.heap.objs.size:=by rw[es3]
 have goal:∀ tk,LQ (Kl X.prog X.w) X.A (.compStart (.ListComp elt [⟨t0,i0,[],0⟩,⟨t1,i1,[],0⟩] scope pos) 0 (.ref it) (.ref s2.heap.objs.size) (S6 scope cl s3.heap.objs.size X.env))
   (Ro (Kl X.prog X.w) X.A E use QQ (.ref s2.heap.objs.size) s3.heap.objs.size) { s3 with heap:=h₁,toks:=tk }:=fun tk =>
  codeAny_compStart_list (loop tk) (T.self _ 0 _ _ _ (T.keep 0 _ _ st2 fun b hb o e=>hkp b o (by rw[es3]; exact J6 _ e)) (loop tk))
 have g0:=goal (s2.toks+([]:List (KH × Value)).length)
 subst hs3
 exact g0
theorem Aq (hc:X.calm=true) (ok:jN X scope F cap) (hi:PI X t0 i0 wi)
  (hg:∀ cl C s H fp,PG (aU X scope cl C (L++F) s H fp) t0 g) (hi1:∀ cl C s H fp,PI (aU X scope cl C (L++F) s H fp) t1 i1 wi1) (hg1:∀ cl C s H fp,PG (aU X scope cl C (L++F) s H fp) t1 g1) (he:∀ cl C s H fp,PE (aU X scope cl C (L++F) s H fp) elt te)
  (hs:∀ x,Nj i0 X.env x=pure x:=by intro _; rfl) (hs1:∀ (env:QZ) x,Nj i1 env x=pure x:=by intro _ _; rfl):PE X (.ListComp elt [⟨t0,i0,[],0⟩,⟨t1,i1,[],0⟩] scope pos) (Gz L.length cap wi g wi1 g1 te):=by
 intro pins s σ H Q I h
 obtain⟨cl,e1,e2,e3⟩:=oM (scope:=scope) (env:=X.env) (fun y hy hf=>I.ok.has _ (ok.fr y hy hf))
 rw[eval_ListComp]
 refine Rh (use:=none) rfl hs e1 ok.kind ok.nms (thn (hi pins s σ H _ I h) fun v s1 h1=>thn h1 fun itv s2 h2=>?_)
 obtain⟨it,fp,tn,J,H2,e,I2,T,st2,f2,q2⟩:=h2
 subst e
 refine zZ (Z:=fun H'=>Q (.ref s2.heap.objs.size) H') hc ok e2 e3 hg hi1 hg1 he hs1 I2 T st2 f2 (q2 _ I2.fresh) fun C s' H' z J m hCf hCl hCs hCc hCp=>?_
 obtain⟨m,hm⟩:=m
 exact⟨m,hm,fun h' hs'=>⟨.ref _,H',J.turned (t':=s'.toks) (fun b o hb e=>(hs'.2 b hb).trans e) hCf hCl (.inr hCs) hCc hCp,rfl,z⟩⟩
end
end L2
namespace L2
open PySem PySem.Spec PyProof.Rows
def vW (ta:TA):TE:=fun σ H Q=>ta σ H fun vs H1=>∃ n:Nat,vs=[.int (n:Int)]/\n<=1000/\∀ l,H1 l=none->Q (.ref l) (upd H1 l (.lst (((Ms n).map fun i:Nat=>(i:Int)).map V.int)))
theorem vX {n:Nat} {acc:Array Value} (h:ItemsOf (fun i v=>∃ t,v = .int (0+(i:Int) * 1) t) acc n):Vals (((Ms n).map fun i:Nat=>(i:Int)).map V.int) acc.toList:=by
 have key:∀ (m:Nat) (us:List Value),us.length=m->(∀ (j:Nat) (v:Value),us[j]? = some v->∃ t,v = .int (j:Int) t)->Vals (((Ms m).map fun i:Nat=>(i:Int)).map V.int) us:=by
  intro m
  induction m with
  | zero =>
   intro us hl _
   rw[List.length_eq_zero_iff.mp hl]
   exact .nil
  | succ m ih =>
   intro us hl hj
   rw[List.range_succ,K3,K3]
   have hm:m < us.length:=by lia
   have e:us=us.take m++[us[m]]:=by
    rw[List.take_append_getElem hm,List.take_of_length_le (by lia)]
   rw[e]
   have h1:=ih (us.take m) (by rw[Lk]; lia) fun j v hv=>by
    rw[List.getElem?_take] at hv
    split at hv
    ·exact hj j v hv
    ·cases hv
   obtain⟨t,ht⟩:=hj m us[m] (Kd hm)
   exact h1.append (.cons ⟨t,ht⟩ .nil)
 refine key n acc.toList (by rw[Le]; exact h.1) fun j v hv=>?_
 obtain⟨t,ht⟩:=h.2 j v (by rw[← Lx]; exact hv)
 exact⟨t,by rw[ht]; congr 1; lia⟩
theorem pZ {X:Cx} {e:Expr} {te:TA} {p1 p2 q1 q2:Qs} (hc:X.calm=true) (hg1:Gl X "list") (hm1:X.mg "list" = none) (hg2:Gl X "range") (hm2:X.mg "range" = none) (ha:PA X [e] te)
  (hb1:Lf "list" = some (.type "list"):=by decide+kernel) (hb2:Lf "range" = some (.type "range"):=by decide+kernel)
  (he1:Kr [.Call (.Name "range" p2) [e] [] q2] X.env=(false,Mp (.Call (.Name "range" p2) [e] [] q2) X.env)::Kr [] X.env:=by rfl) (hp1:(Mu q1 (Kr [] X.env)).any (·.1)=false:=by rfl)
  (he2:Kr [e] X.env=(false,Mp e X.env)::Kr [] X.env:=by rfl) (hp2:(Mu q2 (Kr [] X.env)).any (·.1)=false:=by rfl) :
  PE X (.Call (.Name "list" p1) [.Call (.Name "range" p2) [e] [] q2] [] q1) (vW te):=by
 intro pins s σ H Q I h
 refine Ls (fD I hg1 hm1 hb1 ?_ (by decide) (by decide))
 refine MP ?_ he1 hp1
 rw[he1]
 refine (show Ke _ _ (Ub ((false,Mp (.Call (.Name "range" p2) [e] [] q2) X.env)::Mu q1 (Kr [] X.env))) _ _ s from Q4 ?_)
 refine Ls (fD I hg2 hm2 hb2 ?_ (by decide) (by decide))
 refine MP (thn (ha q2 pins s σ H _ I h) fun us s1 ⟨vs,H1,I1,r1,q⟩=>?_) he2 hp2
 obtain⟨n,rfl,hn,hQ⟩:=q
 obtain⟨u,rfl,ru⟩:=vals1 r1
 obtain⟨t,rfl⟩:=ru
 refine call_range_1 ?_
 refine (show Ke _ _ (Ub []) _ _ _ from Rb ?_)
 have I2:Inv X pins σ H1 { s1 with heap:=s1.heap.push { cls:=.type "range",data:=.fields #[.int 0 s1.toks,.int (n:Int) t,.int 1 (s1.toks+1)] },toks:=s1.toks+1+1 }:=I1.kept fun b o e=>J6 _ e
 refine call_list_range (n:=n) (I1.ok.hd hc) (IsRange.new ..) (small_one (by decide) (by decide) (by lia) (by lia)) (by rw[rangeSize_one]; split <;> lia) (by lia) fun h' tk acc c hk hD hI=>?_
 refine⟨.ref _,_,I2.laid (t':=tk) (o:=.lst (((Ms n).map fun i:Nat=>(i:Int)).map V.int)) hk (Kc _) ⟨?_,acc.toList,c,vX hI,?_⟩,rfl,hQ _ (I2.hok.fresh (Kc _))⟩
 ·rw[J8,J8,Np]
  exact K7 hn (by decide)
 ·rw[Array.toArray_toList]
  exact hD
section
variable {X:Cx}
end
end L2
namespace L2
open PySem PySem.Spec PyProof.Rows
def In2 (D:Addr) (J1:It) (g1:TG) (te:TE) (N:List V->St->Hp->Prop) (ys:List V) (σ3:St) (H4:Hp):Prop :=
 ∃ Y:Nat->Nat->List V->St->Hp->Prop,(∃ m,Y 0 m ys σ3 H4) ∧
  ∀ j m zs σ5 H5,Y j m zs σ5 H5->((J1.stop j H5/\N zs σ5 H5)∨(J1.go j H5/\∃ M:List V->St->Hp->Prop,(∀ zs σ6 H6,M zs σ6 H6->∃ m',m' < m/\Y (j+1) m' zs σ6 H6) ∧
   ∀ y H6,J1.yld j H5 y H6->g1 y σ5 H6 fun σ7 H7=>te σ7 H7 fun v H8=>H8 D=some (.lst zs)/\zs.length < sizeLine/\M (zs++[v]) σ7 (upd H8 D (.lst (zs++[v])))))
theorem zq {K:Ky} {a D:Addr} {xs:List V} {g:TG} {wi1:TI} {g1:TG} {te:TE} {H1:Hp} {Q:Hp->Prop} {σ0:St} (Pv:Nat->List V->St->Hp->Prop) (h0:Pv 0 [] σ0 (upd H1 D (.lst [])))
  (hl:∀ i ys σ H,i<=xs.length->Pv i ys σ H->SqT K H a xs)
  (hs:∀ i ys x σ H,xs[i]? = some x->Pv i ys σ H->g x σ H fun σ3 H3=>wi1 σ3 H3 fun J1 H4=>In2 D J1 g1 te (Pv (i+1)) ys σ3 H4)
  (hd:∀ ys σ H,Pv xs.length ys σ H->Q H):kh D σ0 (Itt K a) g wi1 g1 te H1 Q:=by
 refine⟨fun i m ys σ H=>m=xs.length - i/\i<=xs.length/\Pv i ys σ H,⟨xs.length,by simp,Lb _,h0⟩,?_⟩
 rintro i m ys σ H ⟨rfl,hi,p⟩
 have q:=hl i ys σ H hi p
 by_cases hlt:i < xs.length
 ·refine .inr ⟨⟨xs,xs[i],q,by simp [hlt]⟩,Pv (i+1),fun zs σ' H' p'=>⟨xs.length - (i+1),by lia,rfl,hlt,p'⟩,fun x H' y=>?_⟩
  obtain⟨e,y⟩:=y
  subst e
  exact hs i ys x σ _ (y xs q) p
 ·have e:i=xs.length:=by lia
  subst e
  exact .inl ⟨⟨xs,q,Kc _⟩,hd ys σ H p⟩
theorem Br {K:Ky} {b D:Addr} {ws:List V} {g1:TG} {te:TE} {N:List V->St->Hp->Prop} {ys:List V} {σ3:St} {H4:Hp} (Pw:Nat->List V->St->Hp->Prop) (h0:Pw 0 ys σ3 H4)
  (hl:∀ j zs σ H,j<=ws.length->Pw j zs σ H->SqL K H b ws)
  (hs:∀ j zs y σ H,ws[j]? = some y->Pw j zs σ H->g1 y σ H fun σ7 H7=>te σ7 H7 fun v H8=>H8 D=some (.lst zs)/\zs.length < sizeLine/\Pw (j+1) (zs++[v]) σ7 (upd H8 D (.lst (zs++[v]))))
  (hd:∀ zs σ H,Pw ws.length zs σ H->N zs σ H):In2 D (Itl K b) g1 te N ys σ3 H4:=by
 refine⟨fun j m zs σ H=>m=ws.length - j/\j<=ws.length/\Pw j zs σ H,⟨ws.length,by simp,Lb _,h0⟩,?_⟩
 rintro j m zs σ H ⟨rfl,hj,p⟩
 have q:=hl j zs σ H hj p
 by_cases hlt:j < ws.length
 ·refine .inr ⟨⟨ws,ws[j],q,by simp [hlt]⟩,Pw (j+1),fun zs' σ' H' p'=>⟨ws.length - (j+1),by lia,rfl,hlt,p'⟩,fun y H' z=>?_⟩
  obtain⟨e,z⟩:=z
  subst e
  exact hs j zs y σ _ (z ws q) p
 ·have e:j=ws.length:=by lia
  subst e
  exact .inl ⟨⟨ws,q,Kc _⟩,hd zs σ H p⟩
end L2
namespace L2
open PySem PySem.Spec PyProof.Rows
section
variable {prog:Kq} {w:K1} {A:KY} {E:Value->J4->Prop} {s:J4}
end
section
variable {X:Cx}
end
end L2
namespace L2
open PySem PySem.Spec PyProof.Rows
section
variable {X:Cx} {elt t0 i0 t1 i1:Expr} {scope:Nr} {pos:Qs} {L F:List KH} {cap:List Nat} {wi wi1:TI} {g g1:TG} {te:TE}
end
end L2
namespace L2
open PySem PySem.Spec PyProof.Rows
section
variable {X:Cx} {tg:Expr}
end
end L2
namespace L2
open PySem PySem.Spec PyProof.Rows
section
variable {X:Cx} {elt tg iter:Expr} {ifs:List Expr} {scope:Nr} {pos:Qs} {x0:KH} {L F:List KH} {cap:List Nat} {wi:TI} {g:TG} {tt:TT} {te:TE}
end
end L2
namespace L2
open PySem PySem.Spec PyProof.Rows
end L2
namespace L2
open PySem PySem.Spec PyProof.Rows
section
variable {X:Cx}
end
end L2
namespace L2
open PySem PySem.Spec PyProof.Rows
section
variable {X:Cx}
end
end L2
namespace L2
open PySem PySem.Spec PyProof.Rows
section
variable {X:Cx} {CX:CXT} {k:Nat} {f C:Addr} {fd:LK} {ps:List KH} {sp:Sp} {dvs:List V} {ds:List Value} {E:XK} {c m:KH} {p pos apos:Qs} {e:Expr} {es:List Expr} {t:TA} {mc:Value}
structure wu (K:Ka) (C:Addr) (mc:Value) (m:KH) (f:Addr):Prop where
 ga:PySem.W.specialIn K (.ref C) "__getattribute__" = some (some (.builtin "type.__getattribute__"))
 rd:PySem.W.readsIn K C mc=true
 fd:PySem.W.findCls K (.ref C) mc m=some (.val (.ref f))
 kp:Ml K (.ref f)=true
 hd:Tz (.ref f)=true
theorem gj {pl:Sem Bool} (hg:Gl X c) (hm:X.mg c=some (.ref C)) (O:wu X.K C mc m f) (F:bL X.prog X.w X.K X.mg X.base CX k f fd ps sp) (hr:cT k X.A) (hb:Binds X.K fd ps ds) (hd:Vals dvs ds) (hx:Passes CX X E) (ha:PA X (e::es) t)
  (hdb:(c == ("__debug__" : KH))=false:=by decide) (hst:Kr (e::es) X.env=(false,Mp e X.env)::Kr es X.env:=by rfl) (hpl:(Mu pos (Kr es X.env)).any (·.1)=false:=by rfl)
  (ht:Mp (.Call (.Attribute (.Name c p) m apos) (e::es) [] pos) X.env=(do
   let ov ← Mp (.Name c p) X.env
   Pk apos.atName
   let (g,first) ← Qu [ov] (Qh ov m pl)
   Rp pos g first (Mu pos (Kr (e::es) X.env)) (QR pos (O5 [] X.env))):=by rfl) :
  PE X (.Call (.Attribute (.Name c p) m apos) (e::es) [] pos) (oU sp dvs E t):=by
 intro pins s σ H Q I h
 refine Ql (pl:=pl) (fG I hg hm ?_ hdb) ht
 refine PySem.W.method_cls I.kIn O.ga (PySem.W.cls_value I.kIn O.rd O.fd O.hd ?_)
 have I1:=I.tok (s.toks+1)
 refine Qe (first:=[]) (h₀:=X.base) I.ok.mod.kin O.kp (thn (ha pos pins _ σ H _ I1 h) fun us s1 ⟨vs,H1,I2,r,q⟩=>⟨I2.kIn,?_⟩) hst hpl
 exact uT F hr hb hd hx I2 r q
end
end L2
namespace L2
open PySem PySem.Spec PyProof.Rows
section
variable {P:Kq} {w:K1} {A:KY} {E:Value->J4->Prop} {hp:Lh} {g:Array Tp} {d:Drawn} {tk:Nat} {os:OsState}
variable {nm q:KH} {C N:Addr} {bs bm:List Value} {hdct:Bool} {sn:List KH} {sub:List Value} {ab:Bool} {col:Option Bool} {dd:Option Addr} {k0 k1 k2 k3 k5:Option Value} {newId:String}
abbrev jT (C t:Addr) (D:Option Addr):NB:={ cls:=.ref C,dict:=D,data:=.fields #[.ref t,.none,.none,.none,.bool false,.none] }
theorem yl {M:Model} {x t:Addr} {D:Option Addr} {ys:List Value} {Q:Unit->J4->Prop} (hC:hp.get? C=some (Ot nm q C N bs bm hdct sn sub ab col dd k0 k1 k2 k3 k5 newId)) (hv:bm.contains (.type "ValueError")=true)
  (hx:hp.get? x=some (jT C t D)) (hq:Q () ⟨hp,g,d,tk,os⟩):Ke M A (Pq "ValueError.__init__" ⟨.ref x::ys,[]⟩) Q E ⟨hp,g,d,tk,os⟩:=by
 have hv':(Ku C::bm).contains (.type "ValueError")=true:=by rw[Mz,hv,Px]
 have F:=PySem.F.excCall_ValueError
 have hns:=F.noStar
 simp only[Pq,F.initSplit,F.initKind,F.initRow]
 repeat (first | (with_reducible refine Mh hx ?_) | (with_reducible refine Mh hC ?_) | (with_reducible refine Nq hC ?_; rw[hv']) | wp_step)
 refine wpAny_onRaise ?_
 rw[show ∀ (a b:String) (n:Nat),Bind.check ⟨.positional,"*","ValueError",.self,[⟨"args",.varPos,false⟩]⟩ a b n (List.map (fun z=>z.fst) ({ pos:=Ku x::ys }:Args).kw)=pure () from fun a b n=>check_star_args _ _ _ _ _ _]
 exact J7 hq
theorem vY {x t:Addr} {D:Option Addr} {y:Value} {Q:Value->J4->Prop} (hC:hp.get? C=some (Ot nm q C N bs bm hdct sn sub ab col dd k0 k1 k2 k3 k5 newId)) (hv:bm.contains (.type "ValueError")=true)
  (hx:hp.get? x=some (jT C t D)) (h:∀ h',(∀ b o,b≠x->hp.get? b=some o->h'.get? b=some o)->h'.get? x=some (jT C hp.objs.size D)->Q .none ⟨h',g,d,tk,os⟩) :
  Ke (Kl P w) A (call (.builtin "ValueError.__init__") [.ref x,y]) Q E ⟨hp,g,d,tk,os⟩:=by
 have F:=PySem.F.excCall_ValueError
 refine O4 (O6 F.init.plain F.initEntry (yl hC hv hx ?_))
 have hx1:=J6 { cls:=.type "tuple",data:=.seq #[y] } hx
 wp_walk
 refine h _ (fun b o hb e=>?_) ?_
 ·rw[Kv _ _ (Mq hb)]
  exact J6 _ e
 ·rw[KN _ hx1 rfl]
  rfl
end
end L2
namespace L2
open PySem PySem.Spec PyProof.Rows
section
variable {P:Kq} {w:K1} {A:KY} {hp:Lh} {g:Array Tp} {d:Drawn} {tk:Nat} {os:OsState}
variable {nm q:KH} {C N:Addr} {bs bm:List Value} {hdct:Bool} {sn:List KH} {sub:List Value} {ab:Bool} {col:Option Bool} {dd:Option Addr} {k0 k1 k2 k3 k5:Option Value}
structure GP (bm:List Value):Prop where
 v:bm.contains (.type "ValueError")=true
 b:bm.contains (.type "BaseException")=true
 a:bm.contains (.type "AttributeError")=false
 n:bm.contains (.type "NameError")=false
theorem new_exc {R:QT->J4->Prop} (V:GP bm) (hC:hp.get? C=some (Ot nm q C N bs bm hdct sn sub ab col dd k0 k1 k2 k3 k5 "ValueError.__new__"))
  (hq:R (.ok (.ret (.ref (hp.objs.size+1)))) ⟨(hp.push { cls:=.type "tuple",data:=.seq #[] }).push (jT C hp.objs.size none),g,d,tk,os⟩) :
  LQ (Kl P w) A (.builtin "ValueError.__new__" ⟨[.ref C],[]⟩) R ⟨hp,g,d,tk,os⟩:=by
 have F:=PySem.F.excBase_ValueError
 have he:=F.ends
 have c1:(Ku C::bm).contains (.type "ValueError")=true:=by rw[Mz,V.v,Px]
 have c2:(Ku C::bm).contains (.type "AttributeError")=false:=by rw[Mz,V.a]; rfl
 have c3:(Ku C::bm).contains (.type "NameError")=false:=by rw[Mz,V.n]; rfl
 refine codeAny_builtinAt F.entry ?_
 unfold O2.«BaseException.__new__»
 refine PySem.wpAt_bind ?_
 show PySem.wpAt _ _ _ (stack >>= _) _ _ _
 refine PySem.wpAt_bind (PySem.wpAt_stack fun p below=>PySem.wpAt_of_wpAny ?_)
 wp_walk
 refine PySem.wpAt_of_wpAny ?_
 rw[F.owner]
 repeat (first | with_reducible refine wpAny_madeHere_exc F.canon hC ?_ | with_reducible refine Mh hC ?_ | (with_reducible refine Nq hC ?_; first | rw[c1] | rw[c2] | rw[c3]) | wp_step)
 show R _ _
 rw[Mm]
 exact hq
theorem Es {M:Model} {E:Value->J4->Prop} {Q:Unit->J4->Prop} (V:GP bm) (hC:hp.get? C=some (Ot nm q C N bs bm hdct sn sub ab col dd k0 k1 k2 k3 k5 "ValueError.__new__")) (hq:Q () ⟨hp,g,d,tk,os⟩) :
  Ke M A (Pq "ValueError.__new__" ⟨[.ref C],[]⟩) Q E ⟨hp,g,d,tk,os⟩:=by
 have F:=PySem.F.excBase_ValueError
 have c1:(Ku C::bm).contains (.type "ValueError")=true:=by rw[Mz,V.v,Px]
 have hs:=F.noStar
 simp only[Pq,F.newSplit,F.newKind,F.newRow]
 repeat (first | (refine Nq hC ?_; rw[c1]) | refine Mh hC ?_ | refine wpAny_madeBy_exc hC ?_ | refine wpAny_staticBase_exc hC ?_ | simp only[bne_self_eq_false,SN,if_false] | wp_step)
 exact hq
theorem Cq {f:Addr} {R:QT->J4->Prop} (V:GP bm) (hC:hp.get? C=some (Ot nm q C N bs bm hdct sn sub ab col dd k0 k1 k2 k3 k5 "ValueError.__new__"))
  (hl:∀ h',(∀ b o,hp.get? b=some o->h'.get? b=some o)->W.Looks (Kl P w) h' (Ru (.ref C) "__init__") (some (.ref f))) (hb:∀ h' self,(∀ b o,hp.get? b=some o->h'.get? b=some o)->W.Looks (Kl P w) h' (bindSpecial (.ref f) self) (.ref f,[self]))
  (hq:LQ (Kl P w) (A.under (.builtin "type.__call__" ⟨[.ref C],[]⟩)) (.call (.ref f) ⟨[.ref (hp.objs.size+1)],[]⟩) (W.InitBack (hp.objs.size+1) R) ⟨(hp.push { cls:=.type "tuple",data:=.seq #[] }).push (jT C hp.objs.size none),g,d,tk,os⟩) :
  LQ (Kl P w) A (.call (.ref C) ⟨[],[]⟩) R ⟨hp,g,d,tk,os⟩:=by
 have f1:=tc_lookup
 have f2:=tc_bind (.ref C)
 have hT:(⟨hp,g,d,tk,os⟩:J4).TypeIs (.ref C) "type":=⟨_,hC,rfl⟩
 refine RK ?_
 show Ke _ _ (callAny (.ref C) _) _ _ _
 repeat (any_goals (first | assumption | with_reducible refine Mh hC ?_ | wp_step))
 refine⟨rfl,?_⟩
 refine codeAny_call_builtin_at (Q0 _ (by decide+kernel)) entry_typeCall (wpAny_check_type_call_sub hC ?_)
 repeat (first | with_reducible refine Mh hC ?_ | with_reducible refine wpAny_madeBy_exc hC ?_ | wp_step)
 refine codeAny_call_builtin_code (Q0 _ PySem.F.excBase_ValueError.quiet) (Es V hC ?_)
 refine new_exc V hC ?_
 show Ke _ _ _ _ _ _
 have k1:∀ b o,hp.get? b=some o->((hp.push { cls:=.type "tuple",data:=.seq #[] }).push (jT C hp.objs.size none)).get? b=some o:=fun b o e=>J6 _ (J6 _ e)
 have hC1:=k1 _ _ hC
 have hx:((hp.push { cls:=.type "tuple",data:=.seq #[] }).push (jT C hp.objs.size none)).get? (hp.objs.size+1)=some (jT C hp.objs.size none):=by heap_get
 have cC:(Ku C::bm).contains (.ref C)=true:=by simp
 unfold isInstance
 repeat (first | with_reducible refine Mh hx ?_ | (with_reducible refine Nq hC1 ?_; rw[cC]) | wp_step)
 show Ke _ _ (Ru (.ref C) _) _ _ _
 refine Ng (hl _ k1) ?_
 refine MT (J3 ((hb _ _ k1).here ?_))
 refine J3 (O4 (Nt hq fun r s' z=>?_))
 cases r with
 | error e=>exact z
 | ok fl =>
  cases fl with
  | ret v =>
   obtain⟨ev,z⟩:=z
   subst ev
   exact J7 (J7 z)
  | next=>exact K9 z
  | brk=>exact K9 z
  | cont=>exact K9 z
end
end L2
namespace L2
open PySem PySem.Spec PyProof.Rows
theorem Bk (self:Value):PySem.refuseLoop self "__setattr__" [.type "ValueError",.type "Exception",.type "BaseException",.type "object"]=pure ():=by kernel_rfl
section
variable {P:Kq} {w:K1} {A:KY} {E:Value->J4->Prop} {K:Ky} {s:J4}
variable {nm q:KH} {C N x t:Addr} {bs bm:List Value} {hdct:Bool} {sn:List KH} {sub:List Value} {ab:Bool} {col:Option Bool} {dd:Option Addr} {k0 k1 k2 k3 k5:Option Value} {newId:String}
def mU:List Value->Bool
 | []=>false
 | a::r=>match a with
  | .ref _=>mU r
  | _=>a::r == [.type "ValueError",.type "Exception",.type "BaseException",.type "object"]
theorem iD {a:Value} {r:List Value} (h:mU (a::r)=true):(∃ c,a = .ref c/\mU r=true)∨a::r=[.type "ValueError",.type "Exception",.type "BaseException",.type "object"]:=by
 cases a <;> first | exact .inl ⟨_,rfl,h⟩ | exact .inr (eq_of_beq h)
theorem jK (self:Value):∀ {l:List Value},mU l=true->PySem.refuseLoop self "__setattr__" l=pure ()
 | [],h=>by cases h
 | a::r,h=>by
  rcases iD h with⟨c,rfl,h'⟩ | e
  ·rw[refuseLoop_ref]
   exact jK self h'
  ·rw[e]
   exact Bk self
theorem rz:∀ {l:List Value},mU l=true->l.contains (.type "object")=true
 | [],h=>by cases h
 | a::r,h=>by
  rcases iD h with⟨c,rfl,h'⟩ | e
  ·rw[Mz,rz h',Px]
  ·rw[e]
   rfl
theorem Ez {name:KH} {v:Value} {cd:ClassData} {Q:Unit->J4->Prop} (X:K.In s.heap) (hx:s.heap.get? x=some (jT C t none)) (hs:O8 K (.ref C) "__setattr__" = some (some (.builtin "object.__setattr__")))
  (hc:W.clsIn K C=some cd) (hu:mU cd.mro=true) (hdc:cd.hasDict=true) (hf:W.takerIn K C name=some none)
  (h:∀ h',(∀ b o,b≠x->s.heap.get? b=some o->h'.get? b=some o)->h'.get? x=some (jT C t (some s.heap.objs.size))->(∃ o,h'.get? s.heap.objs.size=some o)->h'.Ns1 s.heap.objs.size (fun y=>if y=name then some v else none)->∀ tk,Q () { s with heap:=h',toks:=tk }) :
  Ke (Kl P w) A (setAttr (.ref x) name v) Q E s:=by
 have J:PySem.W.InstAt s.heap x (jT C t none) C none:=⟨hx,rfl,rfl,trivial⟩
 have SF:=PySem.F.store_object
 have ne:cd.mro.isEmpty=false:=by cases q:cd.mro with | nil=>rw[q] at hu; cases hu | cons _ _=>rfl
 refine PySem.W.set_plain X J hs ?_
 have sub:Sh (Kl P w) s.heap (isInstance (.ref x) (.type "object")) true:=J.type.andThen (PySem.W.looks_mroIn X (by unfold PySem.W.mroIn; rw[hc,Option.bind_some,if_neg (by rw[ne]; decide),rz hu]))
 refine O6 SF.slot.plain SF.entry (@PySem.W.check_slot (Kl P w) _ _ { s with toks:=s.toks+1 } "object.__setattr__" "object" "__setattr__" (.ref x) [.str name s.toks,v] [] _ SF.kind SF.split sub (SF.args (.ref x) (.str name s.toks) v) ?_)
 obtain⟨attr,ha,hr⟩:=Option.bind_eq_some_iff.mp hf
 have hm:Sh (Kl P w) s.heap (mroOf (.ref C)) cd.mro:=(R8 X hc).andThen .now
 have L3:Sh (Kl P w) s.heap (Builtin.ObjectAttr.storeTaker? attr) none:=by
  cases attr with
  | none=>exact .now
  | some a =>
   obtain⟨b,hb,e⟩:=Option.map_eq_some_iff.mp hr
   refine (PySem.W.looks_takesIn X hb).andThen ?_
   cases b
   ·exact .now
   ·cases e
 rw[PySem.W.osa_eq,refuse_eq]
 obtain⟨hp,g,d,tk,os⟩:=s
 refine J3 (J3 (Ng (s:=⟨hp,g,d,tk+1,os⟩) J.type (J3 (Ng (s:=⟨hp,g,d,tk+1,os⟩) hm ?_))))
 rw[jK _ hu]
 refine J7 (J3 (Ng (s:=⟨hp,g,d,tk+1,os⟩) J.type (J3 (Ng (s:=⟨hp,g,d,tk+1,os⟩) (Pb X ha) (J3 (Ng (s:=⟨hp,g,d,tk+1,os⟩) L3 ?_))))))
 dsimp only
 unfold Builtin.ObjectAttr.storeInOwnDict
 refine J3 (J7 ?_)
 unfold Builtin.ObjectAttr.ownDictForStores instanceDict
 refine J3 (J3 (wpAny_loadPart hx (J3 (Ng (s:=⟨hp,g,d,tk+1,os⟩) (R8 X hc) ?_))))
 rw[hdc,if_neg (by decide)]
 have hx1:(hp.push { cls:=.type "dict",data:=.dict #[] }).get? x=some (jT C t none):=J6 _ hx
 have hne:x≠hp.objs.size:=Kz (Kh hx)
 show Ke _ _ (do let d ← alloc { cls:=.type "dict",data:=.dict #[] }; update x fun o=>{ o with dict:=some d }; dictMade (.ref C) x d) _ _ _
 refine J3 (wpAny_alloc (J3 (wpAny_update hx1 ?_)))
 wp_step
 refine J7 ?_
 dsimp only
 generalize eh:(hp.push { cls:=.type "dict",data:=.dict #[] }).update x (fun o=>{ o with dict:=some hp.objs.size })=h2
 have n2:h2.Ns1 hp.objs.size (fun _=>none):=by
  refine Heap.Ns1.at (Heap.Ns1.of_empty (Heap.Ns.new hp (.type "dict"))) fun o e=>?_
  rw[← eh,Kv _ _ hne]
  exact e
 have k2:∀ b o,b≠x->hp.get? b=some o->h2.get? b=some o:=fun b o hb e=>by
  rw[← eh,Kv _ _ (Mq hb)]
  exact J6 _ e
 have x2:h2.get? x=some (jT C t (some hp.objs.size)):=by
  rw[← eh,KN _ hx1 rfl]
 unfold Builtin.ObjectAttr.storeInDict
 refine J3 (J7 ?_)
 refine J3 (wpAny_nsSet1 (s:=⟨h2,g,d,tk+1,os⟩) n2 fun h' hn2 hs2=>?_)
 obtain⟨oD,esD,epD,hoD,hdD,hcD⟩:=hn2.count (PySem.Within.cons name v PySem.Within.nil)
 refine J3 (wpAny_lookBehind hoD (by rw[hdD]; exact pastItsLine_dict (K7 hcD (by show 1<=sizeLine+1; lia))) ?_)
 refine J7 (h _ (fun b o hb e=>?_) ((hs2.2 _ hne).trans x2) ⟨oD,hoD⟩ hn2 _)
 have hbn:b≠hp.objs.size:=Kz (Kh e)
 exact (hs2.2 _ hbn).trans (k2 b o hb e)
end
end L2
namespace L2
open PySem PySem.Spec PyProof.Rows
theorem DX (K:Ky):W.findCls K (.type "ValueError") (.type "type") "__init__" = some (.val (.builtin "ValueError.__init__")):=by kernel_rfl
theorem En:Lf "ValueError" = some (.type "ValueError"):=by decide+kernel
theorem El:typeOf (.type "ValueError")=pure (.type "type"):=by kernel_rfl
theorem FN:Manifest.isStub "ValueError" = false:=by decide+kernel
theorem Fj:W.handedIn (.builtin "ValueError.__init__")=true:=by decide+kernel
def xO (x C:Addr) (D:Option Addr):HO:=.ext fun h=>∃ t,h.get? x=some (jT C t D)
theorem Ew {P:Kq} {w:K1} {H:Hp} {h:Lh} {x C t:Addr} {D:Option Addr} (e:h.get? x=some (jT C t D)):dw P w H h x (xO x C D) :=
 ⟨⟨t,e⟩,⟨_,e⟩,fun h1 h2 ⟨t',e'⟩ k=>⟨t',k _ e'⟩⟩
structure Bf (K:Ka) (C f:Addr) (name:KH):Prop where
 obj:∃ nm q N bs bm hdct sn sub ab col dd k0 k1 k2 k3 k5,K.lookup C=some (Ot nm q C N bs bm hdct sn sub ab col dd k0 k1 k2 k3 k5 "ValueError.__new__")/\GP bm
 init:Lw K (.ref C) "__init__" = some (some (.ref f))
 fn:PySem.W.typeIn K (.ref f)=some (.type "function")
 kp:Ml K (.ref C)=true
 set:Lw K (.ref C) "__setattr__" = some (some (.builtin "object.__setattr__"))
 cls:∃ cd,PySem.W.clsIn K C=some cd/\mU cd.mro=true/\cd.hasDict=true
 tak:RM K C name=some none
section
variable {X:Cx} {p pos apos:Qs} {e:Expr} {es:List Expr} {t:TA} {f C:Addr}
def HN (K:Ky) (t:TA):TE:=fun σ H Q=>t σ H fun vs H1=>∃ (x C f:Addr) (n:KH) (D:Option Addr) (y:V),vs=[.ref x,y]/\H1 x=some (xO x C D)/\Bf K C f n/\Q .non (upd H1 x (xO x C D))
theorem Cd {pl:Sem Bool} (hg:Gl X "ValueError") (hm:X.mg "ValueError" = none) (ha:PA X (e::es) t)
  (hst:Kr (e::es) X.env=(false,Mp e X.env)::Kr es X.env:=by rfl) (hpl:(Mu pos (Kr es X.env)).any (·.1)=false:=by rfl)
  (ht:Mp (.Call (.Attribute (.Name "ValueError" p) "__init__" apos) (e::es) [] pos) X.env=(do
   let ov ← Mp (.Name "ValueError" p) X.env
   Pk apos.atName
   let (g,first) ← Qu [ov] (Qh ov "__init__" pl)
   Rp pos g first (Mu pos (Kr (e::es) X.env)) (QR pos (O5 [] X.env))):=by rfl) :
  PE X (.Call (.Attribute (.Name "ValueError" p) "__init__" apos) (e::es) [] pos) (HN X.K t):=by
 intro pins s σ H Q I h
 refine Ql (pl:=pl) (fD I hg hm En ?_) ht
 obtain⟨m,F⟩:=I.fr
 refine PySem.W.method_type F I.ok.mod.kin El FN (DX X.K) Fj ?_
 have I1:=I.tok (s.toks+1)
 refine callWith_builtin1 (thn (ha pos pins _ σ H _ I1 h) fun us s1 ⟨vs,H1,I2,r,x,C,f,n,D,y,ev,hx,XC,q⟩=>?_) hst hpl
 subst ev
 obtain⟨u,v,rfl,ru,rv⟩:=r.two
 obtain rfl:u=Ku x:=ru
 obtain⟨⟨t0,e0⟩,_⟩:=I2.hok x _ hx
 obtain⟨nm,q1,N,bs,bm,hdct,sn,sub,ab,col,dd,k0,k1,k2,k3,k5,lk,V⟩:=XC.obj
 obtain⟨hp,g,d,tk,os⟩:=s1
 refine vY (I2.kIn _ _ lk) V.v e0 fun h' k' e'=>?_
 exact⟨.non,_,I2.write (x:=x) (e:=x) (by rw[hx]; trivial) (.inl rfl) k' ⟨_,e'⟩ (Ew e'),rfl,q⟩
end
end L2
namespace L2
open PySem PySem.Spec PyProof.Rows
section
variable {X:Cx} {pos pos':Qs} {o value:Expr} {ta tv:TE} {f:KH}
def Jb (K:Ky) (ta tv:TE) (f:KH):TS:=fun D σ H=>tv σ H fun y H1=>ta σ H1 fun x H2=>∃ (a C fI:Addr),x = .ref a/\H2 a=some (xO a C none)/\Bf K C fI f/\∀ dx,H2 dx=none->D.nx σ (upd (upd H2 dx (.xd [(f,y)])) a (xO a C (some dx)))
theorem Ep (ha:PE X o ta) (hv:PE X value tv) (hs:Tt value (some (.Attribute o f pos')) pos.line X.env=pure false):PS X (.Assign [.Attribute o f pos'] value pos) (Jb X.K ta tv f):=by
 intro pins s σ H D I h
 refine Tq (thn (hv pins s σ H _ I h) fun u s1 ⟨y,H1,I1,ry,q⟩=>thn (ha pins s1 σ H1 _ I1 q) fun ov s2 ⟨x,H2,I2,rx,a,C,fI,ex,ea,XC,q2⟩=>?_) hs
 subst ex
 obtain rfl:ov=Ku a:=rx
 obtain⟨⟨t0,e0⟩,_⟩:=I2.hok a _ ea
 obtain⟨cd,hc,hu,hd⟩:=XC.cls
 refine Ez I2.kIn e0 XC.set hc hu hd XC.tak fun h' k' e' ho hn tk=>?_
 have fr:=I2.fresh
 have hne:a≠s2.heap.objs.size:=Kz (Kh e0)
 have e1:(h'.update a fun _=>jT C t0 none).get? a=some (jT C t0 none):=KN _ e' rfl
 have o1:∀ b,b≠a->(h'.update a fun _=>jT C t0 none).get? b=h'.get? b:=fun b hb=>Kv _ _ (Mq hb)
 have I3:=I2.laid (a:=s2.heap.objs.size) (o:=.xd [(f,y)]) (h':=h'.update a fun _=>jT C t0 none) (t':=tk) (fun b u' q'=>by
  by_cases hb:b=a
  ·subst hb
   rw[e0] at q'
   rw[e1]
   exact q'
  ·rw[o1 b hb]
   exact k' b u' hb q') (Kc _) ⟨_,hn.at (fun o z=>by rw[o1 _ (Mq hne)]; exact z),fun g=>by
    by_cases hg:g=f
    ·subst hg
     simp [Ph,wO]
     exact ry
    ·have:(g == f)=false:=beq_false_of_ne hg
     simp [Ph,this,hg,wO]⟩
 have I4:=I3.write (x:=a) (e:=a) (h':=h') (o:=xO a C (some s2.heap.objs.size)) (t':=tk) (by rw[aC hne,ea]; trivial) (.inl rfl) (fun b u' hb q'=>by rw[o1 b hb] at q'; exact q') ⟨_,e'⟩ (Ew e')
 exact⟨σ,_,I4,q2 _ fr⟩
end
end L2
namespace L2
open PySem PySem.Spec PyProof.Rows
section
variable {M:Model} {A:KY} {E:Value->J4->Prop} {env:QZ}
theorem Ab {s:J4} {z:Sem Value} {Q:Flow->J4->Prop} (hh:A.handled=none)
  (h:Ke M A z (fun v s1=>∃ (e t C:Addr) (D:Option Addr) (nm q:KH) (N:Addr) (bs bm:List Value) (hdct:Bool) (sn:List KH) (sub:List Value) (ab:Bool) (col:Option Bool) (dd:Option Addr) (k0 k1 k2 k3 k5:Option Value) (newId:String),v = .ref e/\s1.heap.get? C=some (Ot nm q C N bs bm hdct sn sub ab col dd k0 k1 k2 k3 k5 newId)/\bm.contains (.type "BaseException")=true/\s1.heap.get? e=some (jT C t D)/\E (.ref e) s1) E s):Ke M A (raiseStmt env (some z) none) Q E s:=by
 unfold raiseStmt
 refine J3 (Ln h (fun v s1 h1=>?_) fun _ _ y=>y)
 obtain⟨e,t,C,D,nm,q,N,bs,bm,hdct,sn,sub,ab,col,dd,k0,k1,k2,k3,k5,newId,rfl,hC,hb,he,hE⟩:=h1
 have c1:(Ku C::bm).contains (.type "BaseException")=true:=by rw[Mz,hb,Px]
 obtain⟨hp,g,d,tk,os⟩:=s1
 repeat (first | with_reducible refine Mh he ?_ | with_reducible refine Mh hC ?_ | (with_reducible refine Nq hC ?_; rw[c1]) | wp_step)
 exact wpAny_raiseNew_none hh hE
end
section
variable {X:Cx} {CX:CXT} {k:Nat} {f C:Addr} {fd:LK} {ps:List KH} {sp:Sp} {c n:KH} {p pos:Qs} {e:Expr} {te:TE} {E:XK}
def HY (C:Addr) (sp:Sp) (E:XK):TE:=fun _ H Q=>∀ x,H x=none->sp [.ref x] (upd H x (xO x C none)) (fun v H2=>v = .non/\Q (.ref x) H2) E
theorem Aw (XC:Bf X.K C f n) (F:bL X.prog X.w X.K X.mg X.base CX k f fd ps sp) (hr:cT (k+1) X.A) (hg:Gl X c) (hm:X.mg c=some (.ref C)) (hb:Binds X.K fd ps []) (hx:Passes CX X E)
  (hdb:(c == ("__debug__" : KH))=false:=by decide):PE X (.Call (.Name c p) [] [] pos) (HY C sp E):=by
 intro pins s σ H Q I h
 refine Ls (fG I hg hm ?_ hdb)
 refine R9 I.kIn XC.kp ?_
 obtain⟨nm,q1,N,bs,bm,hdct,sn,sub,ab,col,dd,k0,k1,k2,k3,k5,lk,VE⟩:=XC.obj
 have hq:=h (s.heap.objs.size+1) (I.hok.fresh (M9 _))
 have kk:∀ b o,s.heap.get? b=some o->((s.heap.push { cls:=.type "tuple",data:=.seq #[] }).push (jT C s.heap.objs.size none)).get? b=some o:=fun b o z=>J6 _ (J6 _ z)
 have ex:((s.heap.push { cls:=.type "tuple",data:=.seq #[] }).push (jT C s.heap.objs.size none)).get? (s.heap.objs.size+1)=some (jT C s.heap.objs.size none):=by
  have:=Ko (s.heap.push { cls:=.type "tuple",data:=.seq #[] }) (o:=jT C s.heap.objs.size none) rfl
  rwa [Mm] at this
 have I2:=I.laid (a:=s.heap.objs.size+1) (o:=xO (s.heap.objs.size+1) C none) (t':=s.toks) kk (M9 _) (Ew ex)
 have r2:Vals [V.ref (s.heap.objs.size+1)] [Ku (s.heap.objs.size+1)]:=.cons rfl .nil
 have hl:([Ku (s.heap.objs.size+1)]++[]).length=ps.length:=by
  have z:=r2.length
  rw[F.len _ _ _ _ hq] at z
  exact z.symm
 have hk:=I.kIn
 refine O4 ?_
 have mk:=Cq (P:=X.prog) (w:=X.w) (A:=X.A) (hp:=s.heap) (g:=s.gens) (d:=s.drawn) (tk:=s.toks) (os:=s.os) (f:=f) (R:=fun r s'=>match r with | .ok (.ret v)=>EP X pins σ Q v s' | .ok _=>False | .error e=>X.xe e s') VE (hk _ _ lk) (fun h' k'=>Pb (hk.keeps k') XC.init) (fun h' self k'=>PySem.W.bind_fn (hk.keeps k') self XC.fn)
 refine mk (Nt (F.run _ X.stack _ _ ⟨[Ku (s.heap.objs.size+1)],[]⟩ [Ku (s.heap.objs.size+1)] _ _ E (hr.make C [] []) (I2.env0.make C [] []) (hb _ [Ku (s.heap.objs.size+1)] I2.kIn hl) r2 hq) fun r s' hq'=>?_)
 cases r with
 | error e=>exact hx pins σ _ _ e s' I2 hq'
 | ok fl =>
  cases fl with
  | ret u =>
   obtain⟨v,H',I3,rv,ev,q3⟩:=I2.after hq'
   subst ev
   exact⟨rv,⟨V.ref (s.heap.objs.size+1),H',I3,rfl,q3⟩⟩
  | next=>exact K9 hq'
  | brk=>exact K9 hq'
  | cont=>exact K9 hq'
def Throws (X:Cx) (W:Addr->Addr->Addr->Hp->Prop):Prop:=∀ (pins:List (Addr × NB)) (σ:St) (H:Hp) (s:J4) (x C dx:Addr),Inv X pins σ H s->H x=some (xO x C (some dx))->W x C dx H->X.xe (.ref x) s
def GX (K:Ky) (W:Addr->Addr->Addr->Hp->Prop) (te:TE):TS:=fun _ σ H=>te σ H fun v H1=>∃ (x C f dx:Addr) (n:KH),v = .ref x/\H1 x=some (xO x C (some dx))/\Bf K C f n/\W x C dx H1
theorem Bv {W:Addr->Addr->Addr->Hp->Prop} (hc:X.calm=true) (he:PE X e te) (hw:Throws X W):PS X (.Raise (some e) none pos) (GX X.K W te):=by
 intro pins s σ H D I h
 rw[arm_exec_Raise]
 refine J3 (N6 ?_)
 have go:Ke (Kl X.prog X.w) X.A (Mp e X.env) (fun v s1=>∃ x C f dx n H1,v=Ku x/\Inv X pins σ H1 s1/\H1 x=some (xO x C (some dx))/\Bf X.K C f n/\W x C dx H1) X.xe s:=thn (he pins s σ H _ I h) fun u s1 ⟨v,H1,I1,r,x,C,f,dx,n,ev,hx,XC,hW⟩=>by
  subst ev
  exact⟨x,C,f,dx,n,H1,r,I1,hx,XC,hW⟩
 show Ke _ _ (raiseStmt X.env (some (do let v ← Mp e X.env; Pk pos; pure v)) none) _ _ _
 refine Ab (I.ok.hd hc) (J3 (thn go fun v s1 ⟨x,C,f,dx,n,H1,ev,I1,hx,XC,hW⟩=>J3 (N6 (J7 ?_))))
 obtain⟨⟨t0,e0⟩,_⟩:=I1.hok x _ hx
 obtain⟨nm,q1,N,bs,bm,hdct,sn,sub,ab,col,dd,k0,k1,k2,k3,k5,lk,VE⟩:=XC.obj
 exact⟨x,t0,C,some dx,nm,q1,N,bs,bm,hdct,sn,sub,ab,col,dd,k0,k1,k2,k3,k5,_,ev,I1.kIn _ _ lk,VE.b,e0,hw pins σ H1 s1 x C dx I1 hx hW⟩
end
end L2
namespace L2
open PySem PySem.Spec PyProof.Rows
structure Fly (B:Lh) (l:List QZ) (x C dx:Addr) (fl:Value) (h:Lh):Prop where
 stay:B.StaysIn h
 bx:B.get? x=none
 frs:h.FunFrames B l
 tr:∃ vs T oT ts sl,h.get? x=some { cls:=.ref C,dict:=some dx,data:=.fields vs,slots:=sl }/\vs[1]? = some (.ref T)/\B.get? T=none/\T≠x/\h.get? T=some oT/\oT.data = .fields ts/\ts[3]? = some fl
structure Up (h h':Lh):Prop where
 sl:h.UpToSlots h'
 th:∀ b o,h.get? b=some o->∃ o',h'.get? b=some o'
theorem Up.trans {h h1 h2:Lh} (a:Up h h1) (b:Up h1 h2):Up h h2:=⟨a.sl.trans b.sl,fun c o e=>let ⟨o1,e1⟩:=a.th c o e; b.th c o1 e1⟩
section
variable {M:Model} {A:KY} {E:Value->J4->Prop} {s:J4} {B:Lh} {env:QZ} {outer:List QZ} {L x C dx:Addr} {Q:Unit->J4->Prop}
theorem rE {vs:Array Value} {sl:Array (Option Value)} {head:Value} {hadNext:Bool} (hfr:A.frames=some (env::outer)) (hl:s.heap.FunFrames B (env::outer)) (hf:env.frame=some L)
  (ex:s.heap.get? x=some { cls:=.ref C,dict:=some dx,data:=.fields vs,slots:=sl }) (st:B.StaysIn s.heap) (bx:B.get? x=none) (sz:1 < vs.size)
  (h:∀ h',Fly B (env::outer) x C dx (Lg L) h'->Up s.heap h'->Q () { s with heap:=h' }) :
  Ke M A (do let a ← frameOf env; let pl ← entryPlaceOf L hadNext; let b ← EntryCells.newEntry head a .none (Lg L) .none pl; setField (.ref x) 1 b) Q E s:=by
 have nx:x ∉ (env::outer).filterMap (·.frame):=fun hm=>by
  obtain⟨_,o,ho,nf⟩:=hl.mem hm
  rw[ex] at ho
  cases ho
  exact nf vs rfl
 refine J3 (wpAny_frameOf_fun hfr hl hf fun h1 s1=>J3 (wpAny_entryPlaceOf fun pl hpl=>?_))
 unfold EntryCells.newEntry newFields
 refine J3 (Lj ?_ (hpl.sizeOk5 _ _ _ _ _))
 have e1:h1.get? x=_:=(s1.2.1 x nx).trans ex
 have st1:B.StaysIn h1:=fun b o z=>(s1.2.1 b fun hm=>by rw[(hl.mem hm).1] at z; cases z).trans (st b o z)
 generalize eo:({ cls:=.type "traceback",dict:=none,data:=.fields ([head,.ref L,.none,Lg L,.none]++(if pl.isEmpty then Kf 6 LR else pl)).toArray }:NB)=oT
 have dT:oT.data = .fields ([head,.ref L,.none,Lg L,.none]++(if pl.isEmpty then Kf 6 LR else pl)).toArray:=by rw[← eo]
 have e2:=J6 oT e1
 refine Mt e2 rfl sz (h _ ?_ ?_)
 all_goals
  have hTx:h1.objs.size≠x:=Pr (Kh e1)
  have keep:∀ b o,b≠x->h1.get? b=some o->((h1.push oT).update x (Mv (·.setIfInBounds 1 (Ku h1.objs.size)))).get? b=some o:=fun b o hb z=>by
   rw[Kv _ _ (Mq hb)]
   exact J6 _ z
  have nrec:∀ b o,s.heap.get? b=some o->(∀ vs,o.data≠.fields vs)->b≠x:=fun b o z nf q=>by
   rw[q,ex] at z
   cases z
   exact nf vs rfl
 ·refine⟨fun b o z=>keep b o (fun q=>by rw[q,bx] at z; cases z) (st1 b o z),bx,hl.of_keeps fun b o z nf=>?_,?_⟩
  ·obtain⟨sl',hs⟩:=s1.2.2 b o z
   exact⟨_,keep b _ (nrec b o z nf) hs,rfl⟩
  ·have e3:=KN (Mv (·.setIfInBounds 1 (Ku h1.objs.size))) e2 rfl
   have hT:((h1.push oT).update x (Mv (·.setIfInBounds 1 (Ku h1.objs.size)))).get? h1.objs.size=some oT:=by
    rw[Kv _ _ (Mq hTx)]
    exact Ko h1 (by rw[← eo]; rfl)
   refine⟨vs.setIfInBounds 1 (.ref h1.objs.size),h1.objs.size,oT,_,sl,e3,by simp [sz],st1.fresh,hTx,hT,dT,?_⟩
   rcases hpl with rfl | ⟨_,_,_,_,_,_,_,rfl⟩ <;> simp
 ·refine⟨fun b o z nf=>?_,fun b o z=>?_⟩
  ·obtain⟨sl',hs⟩:=s1.2.2 b o z
   exact⟨sl',keep b _ (nrec b o z nf) hs⟩
  ·by_cases hb:b=x
   ·subst hb
    exact⟨_,KN (Mv (·.setIfInBounds 1 (Ku h1.objs.size))) e2 rfl⟩
   ·obtain⟨sl',hs⟩:=s1.2.2 b o z
    exact⟨_,keep b _ hb hs⟩
theorem j5 {fl:Value} {l:List QZ} (F:Fly B l x C dx fl s.heap) (h:∀ h',Fly B l x C dx .none h'->Up s.heap h'->Q () { s with heap:=h' }):Ke M A (setFlight (.ref x) none) Q E s:=by
 obtain⟨st,bx,fr,vs,T,oT,ts,sl,ex,v1,bT,hTx,hT,dT,t3⟩:=F
 unfold setFlight
 refine J3 (O3 ex rfl v1 ?_)
 rw[if_pos (show (Ku T != LR)=true by simp)]
 have s3:3 < ts.size:=(Array.getElem?_eq_some_iff.mp t3).1
 refine Mt hT dT s3 (h _ ?_ ?_)
 all_goals
  have keep:∀ b o,b≠T->s.heap.get? b=some o->(s.heap.update T (Mv (·.setIfInBounds 3 ((none:Option Addr).elim LR fun f=>Lg f)))).get? b=some o:=fun b o hb z=>(Kv _ _ (Mq hb)).trans z
  have nrec:∀ b o,s.heap.get? b=some o->(∀ vs,o.data≠.fields vs)->b≠T:=fun b o z nf q=>by
   rw[q,hT] at z
   cases z
   exact nf ts dT
 ·refine⟨fun b o z=>keep b o (fun q=>by rw[q,bT] at z; cases z) (st b o z),bx,fr.of_keeps fun b o z nf=>⟨o,keep b o (nrec b o z nf) z,rfl⟩,vs,T,_,ts.setIfInBounds 3 .none,sl,keep x _ (Mq hTx) ex,v1,bT,hTx,KN _ hT (RT (QV dT _)),QV dT _,by simp [s3]⟩
 ·refine⟨fun b o z nf=>⟨o.slots,keep b o (nrec b o z nf) z⟩,fun b o z=>?_⟩
  by_cases hb:b=T
  ·subst hb
   exact⟨_,KN _ hT (RT (QV dT _))⟩
  ·exact⟨o,keep b o hb z⟩
theorem yP {t:Addr} (hfr:A.frames=some (env::outer)) (hl:s.heap.FunFrames B (env::outer)) (hf:env.frame=some L) (ex:s.heap.get? x=some (jT C t (some dx))) (st:B.StaysIn s.heap) (bx:B.get? x=none)
  (h:∀ h',Fly B (env::outer) x C dx .none h'->Up s.heap h'->Q () { s with heap:=h' }):Ke M A (Q8 env (.ref x)) Q E s:=by
 unfold Q8 QH
 simp only[hf]
 refine J3 (J3 (O3 ex rfl (x:=.none) rfl ?_))
 rw[if_neg (by decide)]
 refine rE hfr hl hf ex st bx (by show 1 < 6; decide) fun h1 F1 u1=>?_
 exact j5 (s:={ s with heap:=h1 }) F1 fun h2 F2 u2=>h h2 F2 (u1.trans u2)
theorem uH (hfr:A.frames=some (env::outer)) (hf:env.frame=some L) (F:Fly B (env::outer) x C dx .none s.heap)
  (h:∀ h',Fly B (env::outer) x C dx (Lg L) h'->Up s.heap h'->Q () { s with heap:=h' }):Ke M A (QH (.ref x) env) Q E s:=by
 obtain⟨st,bx,fr,vs,T,oT,ts,sl,ex,v1,bT,hTx,hT,dT,t3⟩:=F
 unfold QH
 simp only[hf]
 refine J3 (O3 ex rfl v1 ?_)
 rw[if_pos (show (Ku T != LR)=true by simp)]
 refine J3 (O3 hT dT t3 ?_)
 rw[if_neg (show ¬ ((LR == Lg L)=true) by simp [Lg])]
 refine J3 (Mt hT dT (Array.getElem?_eq_some_iff.mp t3).1 ?_)
 have keep:∀ b o,b≠T->s.heap.get? b=some o->(s.heap.update T (Mv (·.setIfInBounds 3 LR))).get? b=some o:=fun b o hb z=>(Kv _ _ (Mq hb)).trans z
 have nrec:∀ b o,s.heap.get? b=some o->(∀ vs,o.data≠.fields vs)->b≠T:=fun b o z nf q=>by
  rw[q,hT] at z
  cases z
  exact nf ts dT
 refine rE (s:={ s with heap:=s.heap.update T (Mv (·.setIfInBounds 3 LR)) }) hfr (fr.of_keeps fun b o z nf=>⟨o,keep b o (nrec b o z nf) z,rfl⟩) hf (keep x _ (Mq hTx) ex) (fun b o z=>keep b o (fun q=>by rw[q,bT] at z; cases z) (st b o z)) bx (Array.getElem?_eq_some_iff.mp v1).1 fun h1 F1 u1=>h h1 F1 ?_
 refine Up.trans ⟨fun b o z nf=>⟨o.slots,keep b o (nrec b o z nf) z⟩,fun b o z=>?_⟩ u1
 by_cases hb:b=T
 ·subst hb
  exact⟨_,KN _ hT (RT (QV dT _))⟩
 ·exact⟨o,keep b o hb z⟩
theorem vf (hfr:A.frames=some (env::outer)) (hf:env.frame=some L) (F:Fly B (env::outer) x C dx .none s.heap)
  (h:∀ h',Fly B (env::outer) x C dx .none h'->Up s.heap h'->Q () { s with heap:=h' }):Ke M A (Q8 env (.ref x)) Q E s:=by
 unfold Q8
 refine J3 (uH hfr hf F fun h1 F1 u1=>?_)
 exact j5 (s:={ s with heap:=h1 }) F1 fun h2 F2 u2=>h h2 F2 (u1.trans u2)
end
end L2
namespace L2
open PySem PySem.Spec PyProof.Rows
structure Lie (P:Kq) (w:K1) (outer:List QZ) (H:Hp) (s:J4) (x C dx:Addr) (H':Hp) (B:Lh) (s':J4):Prop where
 os:s'.os=s.os
 bare:Rf s'.gens
 fly:Fly B outer x C dx .none s'.heap
 un:Un (frs outer) [] H H' s.heap s'.heap
 hok:HOk P w H' s'.heap
 kb:∀ b o,s.heap.get? b=some o->H b=none->b ∉ frs outer->B.get? b=some o
 hb:∀ b u,H' b=some u->∃ o,s'.heap.get? b=some o/\B.get? b=some o
 xn:H' x=none
def XL (P:Kq) (w:K1):CXT:=fun outer H s E e s'=>∃ (x C dx:Addr) (H':Hp) (B:Lh),e = .ref x/\Lie P w outer H s x C dx H' B s'/\E (.ref C) (some dx) H'
def off (H:Hp) (x:Addr):Hp:=fun b=>if b=x then none else H b
theorem off_ne {H:Hp} {x b:Addr} (h:b≠x):off H x b=H b:=if_neg h
theorem oA {H:Hp} {x b:Addr} {u:HO} (h:off H x b=some u):b≠x/\H b=some u:=by
 unfold off at h
 split at h
 ·cases h
 ·rename_i z
  exact⟨z,h⟩
theorem j8 {P:Kq} {w:K1} {H H':Hp} {h h':Lh} (k:HOk P w H h) (sub:∀ b u,H' b=some u->H b=some u) (ow:∀ b a,H b=some (.own a)->H' b=some (.own a)) (tp:∀ b xs,H b=some (.tup xs)->H' b=some (.tup xs)) (keep:∀ b u o,H' b=some u->h.get? b=some o->h'.get? b=some o):HOk P w H' h':=fun b u e =>
 (k b u (sub b u e)).stay (fun c o hc q=>by
  rcases hc with rfl | hc
  ·exact keep c u o e q
  ·exact keep c _ o (ow c b hc) q) (fun c q=>ow c b q) tp
theorem oE {P:Kq} {w:K1} {H:Hp} {h:Lh} {a:Addr} {u:HO} (x:dw P w H h a u):∃ o,h.get? a=some o:=by
 cases u with
 | lst xs=>obtain⟨_,_,_,_,e⟩:=x; exact⟨_,e⟩
 | tup xs=>obtain⟨_,_,_,ob,e,_⟩:=x; exact⟨_,e⟩
 | dK kvs=>obtain⟨_,_,_,_,ob,_,_,e,_⟩:=x; exact⟨_,e⟩
 | dT kvs=>obtain⟨_,_,_,_,ob,_,_,e,_⟩:=x; exact⟨_,e⟩
 | set S n=>obtain⟨ob,_,_,_,e,_⟩:=x; exact⟨_,e⟩
 | ins C dx fs=>obtain⟨_,_,_,e,_⟩:=x; exact⟨_,e⟩
 | own y=>exact x
 | xd fs=>obtain⟨_,⟨od,_,_,e,_⟩,_⟩:=x; exact⟨_,e⟩
 | rng lo hi=>obtain⟨_,_,_,e⟩:=x; exact⟨_,e⟩
 | frz ob u=>exact⟨_,x.1⟩
 | tbl ps=>exact⟨_,x⟩
 | met f y=>exact⟨_,x⟩
 | ext φ=>exact x.2.1
section
variable {P:Kq} {w:K1} {K:Ky} {mg:KH->Option Value} {base:Lh} {N:List KH} {qual:KH} {scope:Nr} {f:Addr} {cd:Value} {A:KY} {outer:List QZ} {s₀:J4} {H₀:Hp} {E:XK}
theorem f9:Throws (rK (XL P w) P w K mg base N qual scope f cd A outer s₀ H₀ E) fun x C dx H=>E (.ref C) (some dx) (off H x):=by
 intro pins σ H s x C dx I hx hE
 obtain⟨⟨t,ex⟩,_⟩:=I.hok x _ hx
 have stk:=I.stack
 have fre:=I.rQ
 have xs:x ∉ frs (envOfC qual scope s₀.heap.objs.size f cd::outer):=fun z=>by rw[fre x z] at hx; cases hx
 have hin:∀ env∈(envOfC qual scope s₀.heap.objs.size f cd::outer),∀ b,env.frame=some b->b∈x::frs (envOfC qual scope s₀.heap.objs.size f cd::outer):=fun env he b hb=>KC _ (List.mem_filterMap.mpr ⟨env,he,hb⟩)
 have F:=PySem.W.funFrames_hide stk hin
 show Ke (Kl P w) _ (Q8 _ (.ref x)) _ _ s
 refine yP (B:=T8 s.heap (x::frs (envOfC qual scope s₀.heap.objs.size f cd::outer))) (outer:=outer) (L:=s₀.heap.objs.size) I.ok.frames F rfl ex (fun b o e=>PySem.W.of_hideAll _ e) (PySem.W.hideAll_none _ KD) fun h' F' u'=>?_
 have inB:∀ b o,s.heap.get? b=some o->b≠x->b ∉ frs (envOfC qual scope s₀.heap.objs.size f cd::outer)->(T8 s.heap (x::frs (envOfC qual scope s₀.heap.objs.size f cd::outer))).get? b=some o:=fun b o e h1 h2=>PySem.W.hideAll_get _ e fun z=>(List.mem_cons.mp z).elim h1 h2
 have tk:∀ b u,H b=some u->b ∉ frs (envOfC qual scope s₀.heap.objs.size f cd::outer):=fun b u e z=>by rw[fre b z] at e; cases e
 have old:∀ b o,s₀.heap.get? b=some o->H₀ b=none->b ∉ frs outer->s.heap.get? b=some o/\H b=none/\b ∉ frs (envOfC qual scope s₀.heap.objs.size f cd::outer):=fun b o e n hb=>by
  refine⟨I.base.keep b o e n hb (fun z=>nomatch z),I.base.free b o e n (fun z=>nomatch z),fun z=>?_⟩
  rcases List.mem_cons.mp (I.mY b z) with z | z
  ·have:=Kg (Kh e) I.ok.above
   rw[z] at this
   exact Ly _ this
  ·exact hb z
 have nx:∀ b u,H b=some u->u≠xO x C (some dx)->b≠x:=fun b u e ne z=>by
  subst z
  rw[hx] at e
  exact ne (La e).symm
 refine⟨x,C,dx,off H x,_,rfl,⟨I.os,I.bare,⟨F'.stay,F'.bx,F'.frs.2.2,F'.tr⟩,⟨fun b o e n hb _=>?_,fun b o e n hb _=>?_,fun b o e n _=>?_,fun b o e _=>?_,fun b xs' e=>?_,fun b o u e=>?_,fun b ps e=>?_⟩,?_,fun b o e n hb=>?_,fun b u e=>?_,if_pos rfl⟩,hE⟩
 ·obtain⟨e1,e2,e3⟩:=old b o e n hb
  exact F'.stay b o (inB b o e1 (fun z=>by rw[z,hx] at e2; cases e2) e3)
 ·obtain⟨sl,e1⟩:=I.base.slot b o e n hb (fun z=>nomatch z)
  obtain⟨_,o',ho',nf⟩:=I.ok.m7.mem hb
  have z:some o=some o':=e.symm.trans ho'
  cases z
  obtain⟨sl',e2⟩:=u'.sl b _ e1 nf
  exact⟨sl',e2⟩
 ·have z:=I.base.free b o e n (fun z=>nomatch z)
  unfold off
  split
  ·rfl
  ·exact z
 ·obtain⟨o1,e1⟩:=I.base.there b o e (fun z=>nomatch z)
  exact u'.th b o1 e1
 ·have z:=I.base.tups b xs' e
  rw[off_ne (nx b _ z (fun q=>nomatch q))]
  exact z
 ·have z:=I.base.frzs b o u e
  rw[off_ne (nx b _ z (fun q=>nomatch q))]
  exact z
 ·obtain⟨more,z⟩:=I.base.tbls b ps e
  exact⟨more,by rw[off_ne (nx b _ z (fun q=>nomatch q))]; exact z⟩
 ·refine j8 I.hok (fun b u e=>(oA e).2) (fun b a e=>by rw[off_ne (nx b _ e (fun q=>nomatch q))]; exact e) (fun b xs' e=>by rw[off_ne (nx b _ e (fun q=>nomatch q))]; exact e) fun b u o e q=>?_
  obtain⟨h1,h2⟩:=oA e
  exact F'.stay b o (inB b o q h1 (tk b u h2))
 ·obtain⟨e1,e2,e3⟩:=old b o e n hb
  exact inB b o e1 (fun z=>by rw[z,hx] at e2; cases e2) e3
 ·obtain⟨h1,h2⟩:=oA e
  obtain⟨o,e1⟩:=oE (I.hok b u h2)
  have e2:=inB b o e1 h1 (tk b u h2)
  exact⟨o,F'.stay b o e2,e2⟩
end
end L2
namespace L2
open PySem PySem.Spec PyProof.Rows
section
variable {P:Kq} {w:K1} {K:Ky} {mg:KH->Option Value} {base:Lh} {N:List KH} {qual:KH} {scope:Nr} {f:Addr} {cd:Value} {A:KY} {outer:List QZ} {s₀:J4} {H₀:Hp} {E:XK}
theorem pU:Passes (XL P w) (rK (XL P w) P w K mg base N qual scope f cd A outer s₀ H₀ E) E:=by
 intro pins σ H s e s' I hl
 obtain⟨x,C,dx,H',B,rfl,Li,hE⟩:=hl
 show Ke (Kl P w) _ (Q8 _ (.ref x)) _ _ s'
 refine vf (outer:=outer) (L:=s₀.heap.objs.size) I.ok.frames rfl Li.fly fun h' F' u'=>?_
 have old:∀ b o,s₀.heap.get? b=some o->H₀ b=none->b ∉ frs outer->s.heap.get? b=some o/\H b=none/\b ∉ frs (envOfC qual scope s₀.heap.objs.size f cd::outer):=fun b o e n hb=>by
  refine⟨I.base.keep b o e n hb (fun z=>nomatch z),I.base.free b o e n (fun z=>nomatch z),fun z=>?_⟩
  rcases List.mem_cons.mp (I.mY b z) with z | z
  ·have:=Kg (Kh e) I.ok.above
   rw[z] at this
   exact Ly _ this
  ·exact hb z
 have inS:∀ b,b∈frs outer->b∈frs (envOfC qual scope s₀.heap.objs.size f cd::outer):=fun b hb=>by
  obtain⟨en,h1,h2⟩:=List.mem_filterMap.mp hb
  exact List.mem_filterMap.mpr ⟨en,KC _ h1,h2⟩
 refine⟨x,C,dx,H',B,rfl,⟨Li.os.trans I.os,Li.bare,⟨F'.stay,F'.bx,F'.frs.2.2,F'.tr⟩,⟨fun b o e n hb _=>?_,fun b o e n hb _=>?_,fun b o e n _=>?_,fun b o e _=>?_,fun b xs' e=>Li.un.tups b xs' (I.base.tups b xs' e),fun b o u e=>Li.un.frzs b o u (I.base.frzs b o u e),fun b ps e=>?_⟩,?_,fun b o e n hb=>?_,fun b u e=>?_,Li.xn⟩,hE⟩
 ·obtain⟨e1,e2,e3⟩:=old b o e n hb
  exact F'.stay b o (Li.kb b o e1 e2 e3)
 ·obtain⟨sl,e1⟩:=I.base.slot b o e n hb (fun z=>nomatch z)
  have n1:=I.base.free b o e n (fun z=>nomatch z)
  obtain⟨_,o',ho',nf⟩:=I.ok.m7.mem hb
  have z:some o=some o':=e.symm.trans ho'
  cases z
  obtain⟨sl1,e2⟩:=Li.un.slot b _ e1 n1 (inS b hb) (fun z=>nomatch z)
  obtain⟨sl2,e3⟩:=u'.sl b _ e2 nf
  exact⟨sl2,e3⟩
 ·have n1:=I.base.free b o e n (fun z=>nomatch z)
  obtain⟨o1,e1⟩:=I.base.there b o e (fun z=>nomatch z)
  exact Li.un.free b o1 e1 n1 (fun z=>nomatch z)
 ·obtain⟨o1,e1⟩:=I.base.there b o e (fun z=>nomatch z)
  obtain⟨o2,e2⟩:=Li.un.there b o1 e1 (fun z=>nomatch z)
  exact u'.th b o2 e2
 ·obtain⟨m1,z⟩:=I.base.tbls b ps e
  obtain⟨m2,z2⟩:=Li.un.tbls b _ z
  exact⟨m1++m2,by rw[z2,Q5]⟩
 ·refine j8 Li.hok (fun _ _ e=>e) (fun _ _ e=>e) (fun _ _ e=>e) fun b u o e q=>?_
  obtain⟨o',e1,e2⟩:=Li.hb b u e
  rw[e1] at q
  cases q
  exact F'.stay b _ e2
 ·obtain⟨e1,e2,e3⟩:=old b o e n hb
  exact Li.kb b o e1 e2 e3
 ·obtain⟨o',e1,e2⟩:=Li.hb b u e
  exact⟨o',F'.stay b _ e2,e2⟩
end
end L2
namespace L2
open PySem PySem.Spec PyProof.Rows
theorem Lie.on {P:Kq} {w:K1} {l:List QZ} {H H':Hp} {s s':J4} {x C dx:Addr} {B B0 h':Lh} (Li:Lie P w l H s x C dx H' B s') (F':Fly B l x C dx .none h') (u':Up s'.heap h') (ff:s.heap.FunFrames B0 l) :
  Lie P w l H s x C dx H' B { s' with heap:=h' }:=by
 refine⟨Li.os,Li.bare,F',⟨fun b o e n hb _=>F'.stay b o (Li.kb b o e n hb),fun b o e n hb _=>?_,fun b o e n _=>Li.un.free b o e n (fun z=>nomatch z),fun b o e _=>?_,Li.un.tups,Li.un.frzs,Li.un.tbls⟩,?_,Li.kb,fun b u e=>?_,Li.xn⟩
 ·obtain⟨sl,e2⟩:=Li.un.slot b o e n hb (fun z=>nomatch z)
  obtain⟨_,o',ho',nf⟩:=ff.mem hb
  have z:some o=some o':=e.symm.trans ho'
  cases z
  obtain⟨sl2,e3⟩:=u'.sl b _ e2 nf
  exact⟨sl2,e3⟩
 ·obtain⟨o2,e2⟩:=Li.un.there b o e (fun z=>nomatch z)
  exact u'.th b o2 e2
 ·refine j8 Li.hok (fun _ _ e=>e) (fun _ _ e=>e) (fun _ _ e=>e) fun b u o e q=>?_
  obtain⟨o',e1,e2⟩:=Li.hb b u e
  rw[e1] at q
  cases q
  exact F'.stay b _ e2
 ·obtain⟨o',e1,e2⟩:=Li.hb b u e
  exact⟨o',F'.stay b _ e2,e2⟩
def cO (x C dx:Addr):HO:=.ext fun h=>∃ vs sl,h.get? x=some { cls:=.ref C,dict:=some dx,data:=.fields vs,slots:=sl }
theorem Jg {P:Kq} {w:K1} {H:Hp} {h:Lh} {x C dx:Addr} {vs:Array Value} {sl:Array (Option Value)} (e:h.get? x=some { cls:=.ref C,dict:=some dx,data:=.fields vs,slots:=sl }):dw P w H h x (cO x C dx) :=
 ⟨⟨vs,sl,e⟩,⟨_,e⟩,fun h1 h2 ⟨vs',sl',e'⟩ k=>⟨vs',sl',k _ e'⟩⟩
abbrev Cx.marked (X:Cx) (x:Addr):Cx:={ X with A:=X.A.mark (some (.ref x)),calm:=false,xe:=fun _ _=>False }
theorem Cx.Ok.marked {X:Cx} (ok:X.Ok) (x:Addr):(X.marked x).Ok :=
 ⟨ok.mod,ok.kind,ok.glob,ok.blt,ok.above,ok.inj,ok.has,ok.cab,(fun z=>nomatch z),ok.frames,ok.stk,ok.exf,ok.bs,ok.bsz,ok.noex,ok.exfs,ok.m7,ok.frf⟩
theorem Cx.Ok.unmarked {X:Cx} {x:Addr} (hd:X.calm=true->X.A.handled=none) (ok:(X.marked x).Ok):X.Ok :=
 ⟨ok.mod,ok.kind,ok.glob,ok.blt,ok.above,ok.inj,ok.has,ok.cab,hd,ok.frames,ok.stk,ok.exf,ok.bs,ok.bsz,ok.noex,ok.exfs,ok.m7,ok.frf⟩
section
variable {X:Cx} {pins:List (Addr × NB)} {σ:St} {H H':Hp} {s s':J4} {x C dx:Addr} {B:Lh}
theorem Inv.marked (I:Inv X pins σ H s) (x:Addr):Inv (X.marked x) pins σ H s:=⟨I.ok.marked x,I.os,I.bare,I.base,I.loc,I.cell,I.free,I.freeC,I.pin,I.hok,I.len⟩
theorem Inv.unmarked (I:Inv (X.marked x) pins σ H s) (hd:X.calm=true->X.A.handled=none):Inv X pins σ H s:=⟨I.ok.unmarked hd,I.os,I.bare,I.base,I.loc,I.cell,I.free,I.freeC,I.pin,I.hok,I.len⟩
theorem Lie.back (I:Inv X pins σ H s) (Li:Lie X.prog X.w X.stack H s x C dx H' B s'):Inv X pins σ (upd H' x (cO x C dx)) s':=by
 have J:=I.call' (s':=s') (ch:=[]) Li.os Li.un Li.hok Li.bare (fun b z=>nomatch z)
 obtain⟨vs,T,oT,ts,sl,ex,_⟩:=Li.fly.tr
 have xs:x ∉ frs X.stack:=fun z=>by
  obtain⟨_,o,ho,nf⟩:=Li.fly.frs.mem z
  rw[ex] at ho
  cases ho
  exact nf vs rfl
 have xl:x≠X.env.locals:=fun z=>by
  obtain⟨m,⟨o,es,ep,e,d,_⟩,_⟩:=J.loc
  rw[← z,ex] at e
  cases e
  cases d
 have out:∀ b o,s.heap.get? b=some o->H b=none->b≠x:=fun b o e n z=>by
  subst z
  have:=Li.kb b o e n xs
  rw[Li.fly.bx] at this
  cases this
 have hne:∀ b u,H' b=some u->b≠x:=fun b u e z=>by
  rw[z,Li.xn] at e
  cases e
 refine⟨J.ok,J.os,J.bare,⟨J.base.keep,J.base.slot,fun b o e n he=>?_,J.base.there,fun b xs' e=>?_,fun b o u e=>?_,fun b ps e=>?_⟩,J.loc,J.cell,?_,fun y c e=>?_,fun p hp=>?_,?_,J.len⟩
 ·have n1:=I.base.free b o e n he
  obtain⟨o1,e1⟩:=I.base.there b o e he
  rw[aC (out b o1 e1 n1)]
  exact J.base.free b o e n he
 ·have z:=J.base.tups b xs' e
  rw[aC (hne b _ z)]
  exact z
 ·have z:=J.base.frzs b o u e
  rw[aC (hne b _ z)]
  exact z
 ·obtain⟨m,z⟩:=J.base.tbls b ps e
  exact⟨m,by rw[aC (hne b _ z)]; exact z⟩
 ·rw[aC (Mq xl)]
  exact J.free
 ·obtain⟨v,o,ho,hd⟩:=J.cell y c e
  have:c≠x:=fun z=>by
   rw[z,ex] at ho
   cases ho
   cases hd
  rw[aC this]
  exact J.freeC y c e
 ·obtain⟨e1,e2,e3⟩:=J.pin p hp
  obtain⟨i1,i2,i3⟩:=I.pin p hp
  refine⟨e1,?_,e3⟩
  rw[aC (out _ _ i1 i2)]
  exact e2
 ·intro b u e
  by_cases hb:b=x
  ·subst hb
   rw[ao] at e
   cases e
   exact Jg ex
  ·rw[aC hb] at e
   refine (J.hok b u e).stay (fun _ _ _ q=>q) (fun c q=>?_) fun c xs' q=>?_
   ·rw[aC (hne c _ q)]
    exact q
   ·rw[aC (hne c _ q)]
    exact q
end
end L2
namespace L2
open PySem PySem.Spec PyProof.Rows
structure XRd (K:Ka) (C G:Addr) (f:KH):Prop where
 obj:∃ nm q N bs bm hdct sn sub ab col dd k0 k1 k2 k3 k5 id,K.lookup C=some (Ot nm q C N bs bm hdct sn sub ab col dd k0 k1 k2 k3 k5 id)/\(Ku C::bm).contains (.ref G)=true
 top:∃ nm q N bs bm hdct sn sub ab col dd k0 k1 k2 k3 k5 id,K.lookup G=some (Ot nm q G N bs bm hdct sn sub ab col dd k0 k1 k2 k3 k5 id)/\bm.contains (.type "BaseException")=true
 ga:Lw K (.ref C) "__getattribute__" = some (some (.builtin "BaseException.__getattribute__"))
 gh:Lw K (.ref C) "__getattr__" = some none
 up:∃ cd,PySem.W.clsIn K C=some cd/\mU cd.mro=true
 hd:OJ K C=true
 no:Lw K (.ref C) f=some none
section
variable {M:Model} {A:KY} {E:Value->J4->Prop} {K:Ky} {s:J4} {C G x dx:Addr} {f:KH} {vs:Array Value} {sl:Array (Option Value)}
theorem zJ {Q:Bool->J4->Prop} (X:K.In s.heap) (R:XRd K C G f) (he:s.heap.get? x=some { cls:=.ref C,dict:=some dx,data:=.fields vs,slots:=sl }) (hq:Q true s):Ke M A (excMatches (.ref x) (.ref G)) Q E s:=by
 obtain⟨n1,q1,N1,bs1,bm1,hd1,sn1,sub1,ab1,col1,dd1,a0,a1,a2,a3,a5,id1,l1,c1⟩:=R.obj
 obtain⟨n2,q2,N2,bs2,bm2,hd2,sn2,sub2,ab2,col2,dd2,b0,b1,b2,b3,b5,id2,l2,c2⟩:=R.top
 have h1:=X _ _ l1
 have h2:=X _ _ l2
 have cB:(Ku G::bm2).contains (.type "BaseException")=true:=by rw[Mz,c2,Px]
 have nt:=tc_notTuple
 obtain⟨hp,g,d,tk,os⟩:=s
 unfold excMatches
 repeat (first | with_reducible refine Mh he ?_ | with_reducible refine Mh h2 ?_ | (with_reducible refine Nq h2 ?_; rw[cB]) | (with_reducible refine Nq h1 ?_; rw[c1]) | wp_step)
 exact hq
end
theorem qb:∀ {l:List Value},mU l=true->l.contains (.type "BaseException")=true
 | [],h=>by cases h
 | a::r,h=>by
  rcases iD h with⟨c,rfl,h'⟩ | e
  ·rw[Mz,qb h',Px]
  ·rw[e]
   rfl
section
variable {prog:Kq} {w:K1} {A:KY} {E:Value->J4->Prop} {K:Ky} {s:J4} {C G x:Addr} {ox:NB} {od:Option NB} {f:KH} {expr:Bool} {v:Value}
theorem Fg {Q:Value->J4->Prop} (X:K.In s.heap) (R:XRd K C G f) (I:W.InstAt s.heap x ox C od) (hf:W.findObj K C od f=some (.value v)) (hh:W.handedIn v=true) (h:Q v { s with toks:=s.toks+1 }) :
  Ke (Kl prog w) A (getAttr (.ref x) f expr) Q E s:=by
 obtain⟨cd,hc,hu⟩:=R.up
 have ne:cd.mro.isEmpty=false:=by cases q:cd.mro with | nil=>rw[q] at hu; cases hu | cons _ _=>rfl
 have sub:Sh (Kl prog w) s.heap (isInstance (.ref x) (.type "BaseException")) true:=I.type.andThen (PySem.W.looks_mroIn X (by unfold PySem.W.mroIn; rw[hc,Option.bind_some,if_neg (by rw[ne]; decide),qb hu]))
 have L0:=I.type (M:=Kl prog w)
 have L1:=Pb (M:=Kl prog w) X R.ga
 have L2:=Pb (M:=Kl prog w) X R.gh
 have L3:=PySem.W.looks_find (M:=Kl prog w) X I hf
 obtain⟨hp,g,d,t,os⟩:=s
 unfold getAttr getAttrBy
 refine J3 (wpAny_mkText (MT (J3 (L0.at (J3 (L1.at ?_))))))
 show Ke _ _ (if (onTheHeap (Ku C) && (Sg "BaseException.__getattribute__" == Sg "object.__getattribute__"))=true then _ else getAttrByItsOwn (.ref x) (.str f t) (.ref C) (.builtin "BaseException.__getattribute__") true expr) _ _ _
 have nb:(Sg "BaseException.__getattribute__" == Sg "object.__getattribute__")=false:=by decide+kernel
 rw[nb,Oq,if_neg J9]
 unfold getAttrByItsOwn
 refine J3 (m:=hookBefore (.ref C)) (show Ke _ _ (Ru (.ref C) "__getattr__") _ _ _ from L2.at ?_)
 refine J3 (Pz (MT ?_))
 have ec:callGetattribute (.ref x) (.str f t) (.builtin "BaseException.__getattribute__") expr=boundAndCalled (.builtin "BaseException.__getattribute__") (.ref x) (.str f t):=by
  unfold callGetattribute
  rw[if_neg (by cases expr <;> decide)]
 rw[ec]
 unfold boundAndCalled
 rw[PySem.F.attr_ValueError.ga.bind (.ref x)]
 refine J3 (J7 (O4 (O6 PySem.F.attr_ValueError.ga.plain PySem.F.entry_bexc_ga (@PySem.W.check_slot (Kl prog w) _ _ ⟨hp,g,d,t+1,os⟩ "BaseException.__getattribute__" "BaseException" "__getattribute__" (.ref x) [.str f t] [] _ (by decide+kernel) (by decide+kernel) sub (PySem.F.args_bexc_ga _ _) ?_))))
 unfold O2.«object.__getattribute__»
 refine J3 (J7 (J3 (J7 (J3 (L0.at (J3 (L3.at ?_)))))))
 refine J7 ?_
 show Ke _ _ (handedOut v) _ _ _
 rw[PySem.W.handedOut_of hh]
 exact J7 h
end
section
variable {X:Cx} {e:Expr} {f:KH} {pos:Qs} {ta:TE}
def GD (K:Ky) (ta:TE) (f:KH):TE:=fun σ H Q=>ta σ H fun x H1=>∃ a C G dx fs v,x = .ref a/\H1 a=some (cO a C dx)/\H1 dx=some (.xd fs)/\XRd K C G f/\fs.lookup f=some v/\Q v H1
theorem Fo (he:PE X e ta) (hb:Ri e f X.env (Mp e X.env)=Mp e X.env):PE X (.Attribute e f pos) (GD X.K ta f):=by
 intro pins s σ H Q I h
 refine zu hb (thn (he pins s σ H _ I h) fun u s1 ⟨x,H1,I1,rx,a,C,G,dx,fs,v,ex,ea,ed,R,l,q⟩=>?_)
 subst ex
 obtain rfl:u=Ku a:=rx
 obtain⟨⟨vs,sl,e0⟩,_⟩:=I1.hok a _ ea
 obtain⟨mA,N,r⟩:=I1.hok dx _ ed
 obtain⟨u,hu,ru⟩:=wO.some_of (v:=v) (o:=mA f) (by rw[← l]; exact r f)
 obtain⟨od,ho,hl⟩:=qP N
 have J:PySem.W.InstAt s1.heap a { cls:=.ref C,dict:=some dx,data:=.fields vs,slots:=sl } C (some od):=⟨e0,rfl,rfl,ho⟩
 exact Fg I1.kIn R J (PySem.W.findObj_own R.hd R.no rfl (by rw[hl,hu])) (rH ru) ⟨v,H1,I1.tok _,ru,q⟩
end
theorem Inv.forget {X:Cx} {pins:List (Addr × NB)} {σ:St} {H:Hp} {s:J4} {h':Lh} {m':KH->Option Value} {tk:Nat} (I:Inv X pins σ H s) (hn:h'.Ns X.env.locals m') (hs:Pu X.env.locals s.heap h') :
  Inv X pins (Kf X.N.length none) H { s with heap:=h',toks:=tk }:=by
 have old:∀ b o,X.s₀.heap.get? b=some o->b≠X.env.locals:=fun b o e=>Kz (Kg (Kh e) I.ok.above)
 refine⟨I.ok,I.os,I.bare,⟨fun b o e n hb hx=>(hs.2 b (old b o e)).trans (I.base.keep b o e n hb hx),fun b o e n hb hx=>?_,I.base.free,fun b o e hx=>?_,I.base.tups,I.base.frzs,I.base.tbls⟩,⟨m',hn,fun j y v e1 e2=>?_⟩,fun y c e=>?_,I.free,I.freeC,fun p hp=>?_,fun b ob e=>?_,by simp⟩
 ·obtain⟨sl,e1⟩:=I.base.slot b o e n hb hx
  exact⟨sl,(hs.2 b (old b o e)).trans e1⟩
 ·obtain⟨o',e1⟩:=I.base.there b o e hx
  exact⟨o',(hs.2 b (old b o e)).trans e1⟩
 ·rw[Oj] at e2
  split at e2 <;> cases e2
 ·obtain⟨v,z⟩:=I.cell y c e
  exact⟨v,z.sameBut hs (I.cne y c e)⟩
 ·obtain⟨e1,e2,e3,e4⟩:=I.pin p hp
  exact⟨(hs.2 _ e3).trans e1,e2,e3,e4⟩
 ·refine (I.hok b ob e).stay (fun c o hc q=>(hs.2 c ?_).trans q) (fun _ q=>q) fun _ _ q=>q
  rintro rfl
  rcases hc with rfl | hc
  ·rw[I.free] at e; cases e
  ·rw[I.free] at hc; cases hc
section
variable {X:Cx} {pins:List (Addr × NB)} {σ:St} {H H':Hp} {s s':J4} {x C G dx:Addr} {B:Lh} {c n f:KH} {p p1 p2 p3 p4 pos:Qs} {k:Nat} {i:Nat} {D:Ends} {fs:List (KH × V)} {v:V}
theorem yK (I:Inv X pins σ H s) (Li:Lie X.prog X.w X.stack H s x C dx H' B s') (stk:X.stack=X.env::X.outer/\X.env.frame=some X.env.locals) (R:XRd X.K C G f) (hg:Gl X c) (hm:X.mg c=some (.ref G)) (hN:X.N.Nodup) (hi:X.N[i]? = some n)
  (hl:X.env.scope.names.lookup n=some .local) (ed:H' dx=some (.xd fs)) (l:fs.lookup f=some v) (q:∀ (u:HO) (a:Addr),upd H' x u a=none->D.rt (.ref a) (upd (upd H' x u) a (.tup [v])))
  (hd:(c == ("__debug__" : KH))=false:=by decide) (hd1:(n == ("__debug__" : KH))=false:=by decide) (hd2:(n == ("__classdict__" : KH))=false:=by decide) :
  Ke (Kl X.prog X.w) X.A (QH (.ref x) X.env) (fun _ s2=>Ke (Kl X.prog X.w) X.A (setFlight (.ref x) none) (fun _ s3 =>
   Ke (Kl X.prog X.w) X.A (handleBy (.ref x) X.env [.ExceptHandler (some (.Name c p)) (some n) [.Return (some (.Tuple [.Attribute (.Name n p1) f p2] k p3)) p4] pos]) (SP X pins D) X.xe s3) X.xe s2) X.xe s':=by
 have fr:X.A.frames=some (X.env::X.outer):=by rw[I.ok.frames,stk.1]
 have fl0:Fly B (X.env::X.outer) x C dx .none s'.heap:=stk.1▸Li.fly
 refine uH fr stk.2 fl0 fun h1 F1 u1=>?_
 refine j5 (s:={ s' with heap:=h1 }) F1 fun h2 F2 u2=>?_
 have fl2:Fly B X.stack x C dx .none h2:=stk.1.symm▸F2
 have L2:=Li.on fl2 (u1.trans u2) I.stack
 have I2:=(L2.back I).marked x
 obtain⟨vs,T,oT,ts,sl,ex2,_⟩:=F2.tr
 refine wpAny_handleBy_cons (codeAny_handlers_test ?_) (by intro q; cases q)
 refine fG I2 hg hm ?_ hd
 refine zJ I2.kIn R ex2 ?_
 rw[if_pos rfl]
 refine codeAny_handlers_suite_as ?_
 refine j5 (s:={ s' with heap:=h2 }) F2 fun h3 F3 u3=>?_
 have fl3:Fly B X.stack x C dx .none h3:=stk.1.symm▸F3
 have L3:=Li.on fl3 ((u1.trans u2).trans u3) I.stack
 have I3:=(L3.back I).marked x
 refine o8 (X:=X.marked x) (v:=.ref x) I3 hN hi (.inl hl) rfl (fun s4 I4=>?_) (.inr hl)
 have hiσ:i < σ.length:=by
  have:=I.len
  rw[this]
  exact (List.getElem?_eq_some_iff.mp hi).1
 have dxx:dx≠x:=fun z=>by
  rw[z,Li.xn] at ed
  cases ed
 have P:PSs (X.marked x) [.Return (some (.Tuple [.Attribute (.Name n p1) f p2] k p3)) p4] (Ge (mZ (aW (GD X.K (dH i) f) dW))) :=
  aq (aH (bA (aa (Fo (CK (X:=X.marked x) hi (.inl hl) hd1 hd2) rfl) aj)))
 refine Ln (P pins s4 (σ.set i (some (.ref x))) _ { nx:=fun _ _=>False,rt:=D.rt } I4 ?_) (fun fl s5 h5=>?_) fun _ _ z=>z.elim
 ·refine⟨.ref x,Rx hiσ,⟨x,C,G,dx,fs,v,rfl,ao,(aC dxx).trans ed,R,l,?_⟩⟩
  exact⟨by rw[T4]; show 1<=_; lia,fun a ha=>q _ a ha⟩
 ·cases fl with
  | next=>obtain⟨_,_,_,z⟩:=h5; exact K9 z
  | brk=>obtain⟨_,_,_,z⟩:=h5; exact K9 z
  | cont=>obtain⟨_,_,_,z⟩:=h5; exact K9 z
  | ret u =>
   obtain⟨v5,σ5,H5,I5,r5,q5⟩:=h5
   have J5:Inv X pins σ5 H5 s5:=I5.unmarked I.ok.hd
   obtain⟨m,hn,_⟩:=id J5.loc
   exact wpAny_nameGoes hl hn (by rw[I.ok.kind]; rfl) fun h6 m6 hn6 hs6=>⟨v5,_,H5,J5.forget hn6 hs6,r5,q5⟩
end
end L2
namespace L2
open PySem PySem.Spec PyProof.Rows
abbrev Cx.held (X:Cx) (pn:List (Addr × NB)) (E:Value->J4->Prop):Cx:={ X with pn:=pn,xe:=E }
section
variable {X:Cx} {pins ps qs:List (Addr × NB)} {σ:St} {H:Hp} {s:J4} {E:Value->J4->Prop}
theorem Inv.hold (I:Inv X pins σ H s):Inv (X.held (X.pn++pins) E) [] σ H s :=
 ⟨⟨I.ok.mod,I.ok.kind,I.ok.glob,I.ok.blt,I.ok.above,I.ok.inj,I.ok.has,I.ok.cab,I.ok.hd,I.ok.frames,I.ok.stk,I.ok.exf,I.ok.bs,I.ok.bsz,I.ok.noex,I.ok.exfs,I.ok.m7,I.ok.frf⟩,I.os,I.bare,I.base,I.loc,I.cell,I.free,I.freeC,fun p hp=>I.pin p (by simpa using hp),I.hok,I.len⟩
theorem Inv.lH (I:Inv (X.held (X.pn++pins) E) qs σ H s):Inv X pins σ H s :=
 ⟨⟨I.ok.mod,I.ok.kind,I.ok.glob,I.ok.blt,I.ok.above,I.ok.inj,I.ok.has,I.ok.cab,I.ok.hd,I.ok.frames,I.ok.stk,I.ok.exf,I.ok.bs,I.ok.bsz,I.ok.noex,I.ok.exfs,I.ok.m7,I.ok.frf⟩,I.os,I.bare,I.base,I.loc,I.cell,I.free,I.freeC,fun p hp=>I.pin p (Qy _ hp),I.hok,I.len⟩
theorem SP.lH {D:Ends} {f:Flow} (h:SP (X.held (X.pn++pins) E) qs D f s):SP X pins D f s:=by
 cases f with
 | next=>obtain⟨a,b,I,q⟩:=h; exact⟨a,b,I.lH,q⟩
 | brk=>obtain⟨a,b,I,q⟩:=h; exact⟨a,b,I.lH,q⟩
 | cont=>obtain⟨a,b,I,q⟩:=h; exact⟨a,b,I.lH,q⟩
 | ret u=>obtain⟨v,a,b,I,r,q⟩:=h; exact⟨v,a,b,I.lH,r,q⟩
end
def XW (K:Ky) (G:Addr) (f:KH) (R:VK):XK:=fun Cv dx' H=>∃ C dx fs v,Cv = .ref C/\dx'=some dx/\XRd K C G f/\H dx=some (.xd fs)/\fs.lookup f=some v/\∀ (x:Addr) (u:HO) (a:Addr),H x=none->upd H x u a=none->R (.ref a) (upd (upd H x u) a (.tup [v]))
def JQ (K:Ky) (G:Addr) (f:KH) (t:XK->TS):TS:=fun D σ H=>t (XW K G f D.rt) D σ H
section
variable {X:Cx} {G:Addr} {c n f:KH} {p p1 p2 p3 p4 pos pos':Qs} {k:Nat} {body:List Stmt} {t:XK->TS}
theorem G7 (i:Nat) (stk:X.stack=X.env::X.outer/\X.env.frame=some X.env.locals) (hg:Gl X c) (hm:X.mg c=some (.ref G)) (hN:X.N.Nodup) (hi:X.N[i]? = some n) (hl:X.env.scope.names.lookup n=some .local)
  (hb:∀ (pn:List (Addr × NB)) (E:Value->J4->Prop) (W:XK),Passes (XL X.prog X.w) (X.held pn E) W->PSs (X.held pn E) body (t W))
  (hd:(c == ("__debug__" : KH))=false:=by decide) (hd1:(n == ("__debug__" : KH))=false:=by decide) (hd2:(n == ("__classdict__" : KH))=false:=by decide) :
  PS X (.Try body [.ExceptHandler (some (.Name c p)) (some n) [.Return (some (.Tuple [.Attribute (.Name n p1) f p2] k p3)) p4] pos] [] [] pos') (JQ X.K G f t):=by
 intro pins s σ H D I h
 refine wpAny_Try_except ?_
 let E:Value->J4->Prop:=fun e s'=>∃ (pins':List (Addr × NB)) (σ':St) (H1:Hp) (s1:J4),Inv X pins σ' H1 s1/\XL X.prog X.w X.stack H1 s1 (XW X.K G f D.rt) e s'
 have P:Passes (XL X.prog X.w) (X.held (X.pn++pins) E) (XW X.K G f D.rt):=fun pins' σ' H1 s1 e s' J q=>⟨pins',σ',H1,s1,J.lH,q⟩
 refine Ln (hb _ E _ P [] s σ H D I.hold h) (fun fl s1 q=>?_) fun e s1 q=>?_
 ·have q':=q.lH
  cases fl with
  | next=>exact RJ q'
  | brk=>exact q'
  | cont=>exact q'
  | ret u=>exact q'
 ·obtain⟨_,σ',H1,s0,J,x,C,dx,H',B,rfl,Li,C',dx',fs,v,e1,e2,R,ed,l,w⟩:=q
  cases e1
  cases e2
  exact yK J Li stk R hg hm hN hi hl ed l (fun u a ha=>w x u a Li.xn ha) hd hd1 hd2
end
end L2
namespace L2
open PySem PySem.Spec PyProof.Rows
theorem BX {X:Cx} {E:XK} (st:X.stack=X.env::X.outer/\X.env.frame=some X.env.locals) (hex:X.ex=[])
  (hxe:∀ e s',Ke (Kl X.prog X.w) X.A (Q8 X.env e) (fun _ s2=>XL X.prog X.w X.outer X.H₀ X.s₀ E e s2) (fun e2 s2=>XL X.prog X.w X.outer X.H₀ X.s₀ E e2 s2) s'->X.xe e s'):Passes (XL X.prog X.w) X E:=by
 intro pins σ H s e s' I hl
 obtain⟨x,C,dx,H',B,rfl,Li,hE⟩:=hl
 have nex:∀ b,b ∉ X.ex:=fun b z=>by
  rw[hex] at z
  cases z
 have fl0:Fly B (X.env::X.outer) x C dx .none s'.heap:=st.1▸Li.fly
 refine hxe _ _ (vf (outer:=X.outer) (by rw[I.ok.frames,st.1]) st.2 fl0 fun h' F' u'=>?_)
 have old:∀ b o,X.s₀.heap.get? b=some o->X.H₀ b=none->b ∉ X.fs->s.heap.get? b=some o/\H b=none/\b ∉ frs X.stack:=fun b o e n hb=>by
  refine⟨I.base.keep b o e n hb (nex b),I.base.free b o e n (nex b),fun z=>?_⟩
  rcases List.mem_cons.mp (I.mY b z) with z | z
  ·have:=Kg (Kh e) I.ok.above
   rw[z] at this
   exact Ly _ this
  ·exact hb z
 have inS:∀ b,b∈X.fs->b∈frs X.stack:=fun b hb=>by
  obtain⟨en,h1,h2⟩:=List.mem_filterMap.mp hb
  rw[st.1]
  exact List.mem_filterMap.mpr ⟨en,KC _ h1,h2⟩
 refine⟨x,C,dx,H',B,rfl,⟨Li.os.trans I.os,Li.bare,⟨F'.stay,F'.bx,F'.frs.2.2,F'.tr⟩,⟨fun b o e n hb _=>?_,fun b o e n hb _=>?_,fun b o e n _=>?_,fun b o e _=>?_,fun b l e=>Li.un.tups b l (I.base.tups b l e),fun b o u e=>Li.un.frzs b o u (I.base.frzs b o u e),fun b ps e=>?_⟩,?_,fun b o e n hb=>?_,fun b u e=>?_,Li.xn⟩,hE⟩
 ·obtain⟨e1,e2,e3⟩:=old b o e n hb
  exact F'.stay b o (Li.kb b o e1 e2 e3)
 ·obtain⟨sl,e1⟩:=I.base.slot b o e n hb (nex b)
  have n1:=I.base.free b o e n (nex b)
  obtain⟨_,o',ho',nf⟩:=I.ok.m7.mem hb
  have z:some o=some o':=e.symm.trans ho'
  cases z
  obtain⟨sl1,e2⟩:=Li.un.slot b _ e1 n1 (inS b hb) (fun z=>nomatch z)
  obtain⟨sl2,e3⟩:=u'.sl b _ e2 nf
  exact⟨sl2,e3⟩
 ·obtain⟨o1,e1⟩:=I.base.there b o e (nex b)
  exact Li.un.free b o1 e1 (I.base.free b o e n (nex b)) (fun z=>nomatch z)
 ·obtain⟨o1,e1⟩:=I.base.there b o e (nex b)
  obtain⟨o2,e2⟩:=Li.un.there b o1 e1 (fun z=>nomatch z)
  exact u'.th b o2 e2
 ·obtain⟨m1,z⟩:=I.base.tbls b ps e
  obtain⟨m2,z2⟩:=Li.un.tbls b _ z
  exact⟨m1++m2,by rw[z2,Q5]⟩
 ·refine j8 Li.hok (fun _ _ e=>e) (fun _ _ e=>e) (fun _ _ e=>e) fun b u o e q=>?_
  obtain⟨o',e1,e2⟩:=Li.hb b u e
  rw[e1] at q
  cases q
  exact F'.stay b _ e2
 ·obtain⟨e1,e2,e3⟩:=old b o e n hb
  exact Li.kb b o e1 e2 e3
 ·obtain⟨o',e1,e2⟩:=Li.hb b u e
  exact⟨o',F'.stay b _ e2,e2⟩
def rJ (CX:CXT) (P:Kq) (w:K1) (K:Ky) (mg:KH->Option Value) (base:Lh) (N:List KH) (qual:KH) (scope:Nr) (f:Addr) (cd:Value) (cl:List (KH × Addr)) (A:KY) (outer:List QZ) (s:J4) (H:Hp) (E:XK):Cx :=
 let env:=PySem.W.envX qual scope s.heap.objs.size f cd cl
 {prog:=P,w:=w,K:=K,mg:=mg,base:=base,A:=A.deeper env,N:=N,s₀:=s,H₀:=H,env:=env,outer:=outer,stack:=env::outer,ex:=[],calm:=true,fn:=fun _=>false,pn:=[],
  xe:=fun e s'=>Ke (Kl P w) (A.deeper env) (Q8 env e) (fun _ s2=>CX outer H s E e s2) (fun e2 s2=>CX outer H s E e2 s2) s' }
theorem jm {P:Kq} {w:K1} {K:Ky} {mg:KH->Option Value} {base:Lh} {N:List KH} {qual:KH} {scope:Nr} {f:Addr} {cd:Value} {cl:List (KH × Addr)} {A:KY} {outer:List QZ} {s:J4} {H:Hp} {E:XK} :
  Passes (XL P w) (rJ (XL P w) P w K mg base N qual scope f cd cl A outer s H E) E :=
 BX (X:=rJ (XL P w) P w K mg base N qual scope f cd cl A outer s H E) ⟨rfl,rfl⟩ rfl fun _ _ z=>z
structure GZ (N:List KH) (sc:Nr):Prop where
 kind:sc.kind = .function
 co:sc.isCoroutine=false
 gen:sc.isGenerator=false
 cell:∀ y∈sc.names,y.2≠.cell
 fr:∀ x∈N,sc.names.lookup x=some .free
structure JW (N:List KH) (sc:Nr) (cl:List (KH × Addr)) (σ:St) (H:Hp) (h:Lh):Prop where
 inj:∀ x y c,cl.lookup x=some c->cl.lookup y=some c->x=y
 has:∀ y∈sc.names,y.2 = .free->∃ c,cl.lookup y.1=some c
 cells:∀ x c,cl.lookup x=some c->(∃ v,h.IsCell c v)/\H c=none
 vals:∀ (i:Nat) (x:KH) (v:V),N[i]? = some x->σ[i]? = some (some v)->∃ c u,cl.lookup x=some c/\h.IsCell c (some u)/\RelV v u
 len:σ.length=N.length
theorem Fz {CX:CXT} {P:Kq} {w:K1} {K:Ky} {mg:KH->Option Value} {base:Lh} {k:Nat} {N:List KH} {name qual:KH} {params:R6} {body:Expr} {scope:Nr} {cl:List (KH × Addr)} {pm ctv:Value} {c' f:Addr} {A:KY} {outer:List QZ} {s:J4} {σ:St} {H:Hp} {Q:VK} {E:XK} {te:TE}
  (hr:cT (k+1) A) (e0:Af P w K mg base A outer s H) (ho:s.heap.get? f=some (W.kla_obj name qual params body scope cl pm c' ctv)) (hcd:s.heap.CodeRec (.ref c') qual)
  (hb:PB (W.kla_fn name qual params body scope cl pm (.ref c') ctv) ⟨[],[]⟩=pure []) (S:GZ N scope) (C:JW N scope cl σ H s.heap)
  (hp:PE (rJ CX P w K mg base N qual scope f (.ref c') cl A outer s H E) body te) (h:te σ H Q):LQ (Kl P w) A (.call (.ref f) ⟨[],[]⟩) (CR CX outer P w H s Q E) s:=by
 have lim:s.heap.NoLimit:=e0.mod.nolimit.keeps fun b o e=>(e0.bs b o e).1
 refine PySem.W.kla_callFunE hr.depth ho rfl S.co S.gen rfl hcd ?_
 rw[hb]
 refine J7 (RX S.cell (fun y hy=>nomatch hy) (fun h1 ns sb=>⟨lim.fresh _ sb,?_⟩) S.kind)
 have kp:∀ b o,s.heap.get? b=some o->h1.get? b=some o:=fun b o e=>sb.extBut b o (Kz (Kh e)) (J6 _ e)
 have noA:∀ b:Addr,b ∉ (rJ CX P w K mg base N qual scope f (.ref c') cl A outer s H E).ex:=fun b z=>nomatch z
 have I:Inv (rJ CX P w K mg base N qual scope f (.ref c') cl A outer s H E) [] σ H { s with heap:=h1,toks:=s.toks+0 }:=by
  refine⟨⟨e0.mod,S.kind,rfl,rfl,Kc _,C.inj,fun y hy=>?_,fun y c z=>absurd (show false=true from z) J9,fun _=>hr.hd,Around.frames_deeper e0.frames,.inr ⟨rfl,rfl⟩,fun b z=>absurd z (noA b),e0.bs,e0.bsz,fun b _ _=>noA b,fun b z=>absurd z (noA b),e0.m7,e0.frf⟩,
   rfl,e0.bare,Un.kept kp,⟨_,ns,fun i y v q1 q2 _=>?_⟩,fun y c e=>?_,e0.hok.fresh (Kc _),fun y c e=>(C.cells y c e).2,(fun p z=>nomatch z),e0.hok.kept kp,C.len⟩
  ·rcases hy with hy | hy
   ·exact absurd rfl (S.cell _ (Lp (show scope.names.lookup y=some .cell from hy)))
   ·exact C.has _ (Lp (show scope.names.lookup y=some .free from hy)) rfl
  ·obtain⟨c,u,e1,⟨o,e2,e3⟩,r⟩:=C.vals i y v q1 q2
   exact⟨u,r,.inr ⟨.inr (S.fr y (K8 q1)),c,e1,o,kp _ _ e2,e3⟩⟩
  ·obtain⟨⟨v,o,e1,e2⟩,_⟩:=C.cells y c e
   exact⟨v,o,kp _ _ e1,e2⟩
 refine PySem.W.kla_codeExpr (Ln (hp [] _ σ H Q I h) (fun u s2 z=>?_) fun e s2 z=>z)
 obtain⟨v,H',J,r,q⟩:=z
 exact⟨v,H',J.os,J.bare,J.base,J.hok,r,q⟩
end L2
namespace L2
open PySem PySem.Spec PyProof.Rows
section
variable {CX:CXT} {P:Kq} {w:K1} {K:Ky} {mg:KH->Option Value} {base:Lh} {k:Nat}
theorem G5 {x qual:KH} {st:Stmt} {f:Addr} {fd:LK} {N ps:List KH} {A:KY} {outer:List QZ} {s:J4} {H:Hp} {us:List Value} {vs:List V} {Q:VK} {E:XK} (F:Fun K x qual st f fd) (S:aG N ps (au st)) (hr:cT (k+1) A) (e0:Af P w K mg base A outer s H)
  (hb:∀ (kV doc pm:Value) (an:Option Addr) (cdv ct:Value),PB (Su x qual (bU st) (bw st) (au st) .none kV doc pm an cdv ct) ⟨us,[]⟩=pure (ps.zip us)) (r:Vals vs us) (hl:vs.length=ps.length)
  (ht:∀ cdv,∃ t,PSs (rK CX P w K mg base N qual (au st) f cdv A outer s H E) (bw st) t/\t { nx:=fun _ H'=>Q .non H',rt:=Q } (start N vs) H) :
  LQ (Kl P w) A (.call (.ref f) ⟨us,[]⟩) (CR CX outer P w H s Q E) s:=by
 obtain⟨oc,od,kV,doc,pm,an,cdv,ct,osl,rfl,lk,hc⟩:=F.ex
 have KX:K.In s.heap:=e0.mod.kin.keeps fun b o e=>(e0.bs b o e).1
 have lim:s.heap.NoLimit:=e0.mod.nolimit.keeps fun b o e=>(e0.bs b o e).1
 have hkind:((ps.zip us).all fun y=>(au st).names.lookup y.1 == some .local || (au st).names.lookup y.1 == some .cell)=true:=List.all_eq_true.mpr fun⟨n,v⟩ hy=>by
  rcases S.par n (RQ hy).1 with q | q <;> simp [q]
 refine Att.Fi KX lim lk hc hr.depth (.of_eq (hb kV doc pm an cdv ct)) hkind (fun s1 x=>?_) S.co S.gen S.kind
 obtain⟨t,h1,h2⟩:=ht cdv
 have I:Inv (rK CX P w K mg base N qual (au st) f cdv A outer s H E) [] (start N vs) H s1:=qF S hr.hd e0 hl r x
 refine Ln (h1 [] s1 (start N vs) H _ I h2) (fun fl s2 z=>?_) fun e s2 z=>z
 cases fl with
 | ret u =>
  obtain⟨v,σ',H',J,rv,q⟩:=z
  exact⟨v,H',J.os,J.bare,J.base,J.hok,rv,q⟩
 | next =>
  obtain⟨σ',H',J,q⟩:=z
  exact⟨.non,H',J.os,J.bare,J.base,J.hok,rfl,q⟩
 | brk=>obtain⟨_,_,_,q⟩:=z; exact K9 q
 | cont=>obtain⟨_,_,_,q⟩:=z; exact K9 q
structure Hi (CX:CXT) (P:Kq) (w:K1) (K:Ka) (mg:KH->Option Value) (base:Lh) (k:Nat) (s₀:J4) (H₀:Hp) (fs:List Addr) (f:Addr) (sp:Hp->VK->XK->Prop):Prop where
 at_:∃ o fd,s₀.heap.get? f=some o/\o.data = .func fd/\H₀ f=none/\f ∉ fs
 run:∀ (A:KY) (outer:List QZ) (s:J4) (H:Hp) (Q:VK) (E:XK),cT k A->Af P w K mg base A outer s H->(∀ b o,s₀.heap.get? b=some o->H₀ b=none->b ∉ fs->s.heap.get? b=some o)->(∀ b o,s₀.heap.get? b=some o->H₀ b=none->(∃ sl,s.heap.get? b=some { o with slots:=sl })/\H b=none)->(∀ b o u,H₀ b=some (.frz o u)->H b=some (.frz o u))->sp H Q E →
  LQ (Kl P w) A (.call (.ref f) ⟨[],[]⟩) (CR CX outer P w H s Q E) s
end
section
variable {X:Cx} {CX:CXT} {k:Nat} {f:Addr} {sp:Hp->VK->XK->Prop} {E:XK} {x:KH} {p pos:Qs} {te:TE}
def JB (f:Addr) (sp:Hp->VK->XK->Prop) (E:XK) (te:TE):TE:=fun σ H Q=>te σ H fun v H1=>v = .ref f/\sp H1 Q E
theorem Gx (L:Hi CX X.prog X.w X.K X.mg X.base k X.s₀ X.H₀ X.fs f sp) (hex:X.ex=[]) (hr:cT k X.A) (hx:Passes CX X E) (he:PE X (.Name x p) te):PE X (.Call (.Name x p) [] [] pos) (JB f sp E te):=by
 intro pins s σ H Q I h
 refine Ls (thn (he pins s σ H _ I h) fun u s1 ⟨v,H1,I1,r,ev,q⟩=>?_)
 subst ev
 obtain rfl:u=Ku f:=r
 have nex:∀ b,b ∉ X.ex:=fun b z=>by
  rw[hex] at z
  cases z
 obtain⟨o,fd,e1,e2,e3,e4⟩:=L.at_
 have e5:=I1.base.keep f o e1 e3 e4 (nex f)
 refine callWith_function_kw (o:=o) (fd:=fd) (evalArgs_kw_nil rfl (wpAny_evalAll_nil ⟨⟨e5,e2⟩,?_⟩))
 refine O4 (Nt (L.run X.A X.stack s1 H1 Q E hr I1.env0 (fun b o e n hb=>I1.base.keep b o e n hb (nex b)) (fun b o e n=>⟨I1.base.any e n (nex b),I1.base.free b o e n (nex b)⟩) I1.base.frzs q) fun r2 s2 hq=>?_)
 cases r2 with
 | error e=>exact hx pins σ H1 s1 e s2 I1 hq
 | ok fl =>
  cases fl with
  | ret u=>exact I1.after hq
  | next=>exact K9 hq
  | brk=>exact K9 hq
  | cont=>exact K9 hq
end
end L2
namespace L2
open PySem PySem.Spec PyProof.Rows
def TabOk (H:Hp) (P:Addr) (q:KH):Prop:=∃ ps,H P=some (.tbl ps)/\Qp ps.toList/\∀ pos cv,QJ pos ps.toList=some cv->∃ c oc u vs t,cv = .ref c/\H c=some (.frz oc u)/\oc.data = .fields vs/\vs[1]? = some (.str q t)
def dY (H H1:Hp):Prop:=∀ b o,(∀ ps,o≠.tbl ps)->H b=some o->H1 b=some o
def Bm (P:Addr) (H H1:Hp):Prop:=∀ b o,b≠P->H b=some o->H1 b=some o
theorem Bm.t {P:Addr} {q:KH} {H H1:Hp} (h:TabOk H P q) (a:Bm P H H1):dY H H1:=fun b o n e=>a b o (fun z=>by
 obtain⟨ps,e1,_⟩:=h
 rw[z,e1] at e
 exact n ps (La e).symm) e
theorem dY.trans {H H1 H2:Hp} (a:dY H H1) (b:dY H1 H2):dY H H2:=fun c o n e=>b c o n (a c o n e)
theorem aR.t {H H1:Hp} (a:aR H H1):dY H H1:=fun c o _ e=>a c o e
theorem TabOk.same {H H1:Hp} {P:Addr} {q:KH} (a:aR H H1) (h:TabOk H P q):TabOk H1 P q:=by
 obtain⟨ps,e,t,f⟩:=h
 refine⟨ps,a _ _ e,t,fun pos cv z=>?_⟩
 obtain⟨c,oc,u,vs,tk,e1,e2,e3⟩:=f pos cv z
 exact⟨c,oc,u,vs,tk,e1,a _ _ e2,e3⟩
theorem yH {l:List Value} (h:Qp l):l=[]∨∃ i t j u d r,l = .int i t::.int j u::d::r/\Qp r:=by
 unfold Qp at h
 split at h
 ·exact .inl rfl
 ·exact .inr ⟨_,_,_,_,_,_,rfl,h⟩
 ·exact h.elim
theorem j7 {pos pos':Qs} {c cv:Value}:∀ (n:Nat) (l:List Value),l.length<=n->Qp l->(QJ pos' (l++[Lg pos.line,Lg pos.col,c])=some cv->QJ pos' l=some cv∨cv=c)/\Qp (l++[Lg pos.line,Lg pos.col,c])
 | 0,l,hn,h=>by
  cases Ou (Nat.le_zero.mp hn)
  refine⟨fun e=>?_,trivial⟩
  simp only[List.nil_append,Lg,QJ] at e
  split at e
  ·exact .inr (La e).symm
  ·cases e
 | n+1,l,hn,h=>by
  rcases yH h with rfl | ⟨i,t,j,u,d,r,rfl,hr⟩
  ·exact j7 n [] (Lb _) h
  ·obtain⟨h1,h2⟩:=j7 (pos:=pos) (pos':=pos') (c:=c) (cv:=cv) n r (by simp only[KZ] at hn; lia) hr
   refine⟨fun e=>?_,h2⟩
   simp only[List.cons_append,QJ] at e ⊢
   split at e
   ·rename_i z
    rw[if_pos z]
    exact .inl e
   ·rename_i z
    rw[if_neg z]
    exact h1 e
theorem vR {pos pos':Qs} {c cv:Value} (l:List Value) (h:Qp l) (e:QJ pos' (l++[Lg pos.line,Lg pos.col,c])=some cv):QJ pos' l=some cv∨cv=c:=(j7 l.length l (Kc _) h).1 e
theorem pP {pos:Qs} {c:Value} (l:List Value) (h:Qp l):Qp (l++[Lg pos.line,Lg pos.col,c]):=(j7 (pos':=pos) (cv:=c) l.length l (Kc _) h).2
section
variable {X:Cx} {pins:List (Addr × NB)} {σ:St} {H:Hp} {s:J4} {c P:Addr} {params:R6} {body:Expr} {scope:Nr} {lpos:Qs} {E:Value->J4->Prop} {Q:Value->J4->Prop}
theorem Ar (I:Inv X pins σ H s) (hT:TabOk H P (X.env.qual++"<lambda>")) (hcode:X.env.code = .ref c) (C:W.CodeHd X.base c P) (hB:X.base.BuiltinsAt X.mg P) (hdef:defaultsOf params X.env=([],[]))
  (hfr:∀ y∈scope.names,y.2 = .free->X.env.kindOf y.1=some .cell∨X.env.kindOf y.1=some .free)
  (h:∀ (f c':Addr) (ctv pm:Value) (cl:List (KH × Addr)) (H1:Hp) (s1:J4),Inv X pins σ H1 s1->Bm P H H1->TabOk H1 P (X.env.qual++"<lambda>")->(∀ b,H b=none->b < s.heap.objs.size->H1 b=none)->(∀ b o,s.heap.get? b=some o->H b=none->s1.heap.get? b=some o) →
   s1.heap.get? f=some (RN "<lambda>" (X.env.qual++"<lambda>") params body scope cl pm c' ctv)->H1 f=none->s.heap.objs.size<=f->(∃ oc u vs t,H1 c'=some (.frz oc u)/\oc.data = .fields vs/\vs[1]? = some (.str (X.env.qual++"<lambda>") t)) →
   (∀ n a,cl.lookup n=some a->X.env.cells.lookup n=some a)->(∀ y∈scope.names,y.2 = .free->∃ a,cl.lookup y.1=some a)->Q (.ref f) s1) :
  Ke (Kl X.prog X.w) X.A (Mp (.Lambda params body scope lpos) X.env) Q E s:=by
 obtain⟨ps,eP,tr,am⟩:=hT
 obtain⟨cl,hcl,sub,all⟩:=oM (scope:=scope) (env:=X.env) fun y hy z=>I.ok.has _ (hfr y hy z)
 have hP:s.heap.get? P=some (PySem.W.tabObj ps):=I.hok P _ eP
 have hns:s.heap.Ns Kp X.mg:=I.mod.glob.keeps I.bk
 have hgP:Kp≠P:=fun z=>by
  obtain⟨o,es,ep,e,d,_⟩:=hns
  rw[z,hP] at e
  cases e
  cases d
 refine PySem.W.kla_eval hdef ?_
 cases hit:QJ lpos ps.toList with
 | some cv =>
  obtain⟨c',oc,u,vs,t,rfl,e1,e2,e3⟩:=am _ _ hit
  refine PySem.W.kla_makeFunctionHit hcl I.ok.glob hns hcode (C.keeps I.bk) hP tr hit (hB.keeps I.bk) fun ctv h' tk kp sz=>?_
  have kp':∀ b o,s.heap.get? b=some o->(h'.push (RN "<lambda>" (X.env.qual++"<lambda>") params body scope cl ((X.mg "__name__").getD .none) c' ctv)).get? b=some o:=fun b o e=>J6 _ (kp b o e)
  refine h h'.objs.size c' ctv ((X.mg "__name__").getD .none) cl H _ (I.un (h':=h'.push (RN "<lambda>" (X.env.qual++"<lambda>") params body scope cl ((X.mg "__name__").getD .none) c' ctv)) (t':=tk) (Un.kept kp') (I.hok.kept kp')) (fun _ _ _ e=>e) ⟨ps,eP,tr,am⟩ (fun _ n _=>n) (fun b o e _=>kp' b o e) ?_ (I.hok.fresh sz) sz ⟨oc,u,vs,t,e1,e2,e3⟩ sub all
  exact Ko h' rfl
 | none =>
  refine PySem.W.kla_makeFunction hcl I.ok.glob hns hcode (C.keeps I.bk) hP tr hit hgP (hB.keeps I.bk) fun c' ctv h' tk kp l1 l2 cr hP'=>?_
  obtain⟨c2,oc,vs,t,ec,e1,e2,e3⟩:=cr
  cases ec
  have nP:c'≠P:=fun z=>by
   have:=Kh hP
   rw[← z] at this
   exact Ly _ (Kg this l1)
  have fr:=I.hok.fresh l1
  have lt:∀ b u,H b=some u->b < s.heap.objs.size:=fun b u e=>(I.hok b u e).lt
  have nb:∀ b o,s.heap.get? b=some o->b≠c':=fun b o e z=>by
   have:=Kh e
   rw[z] at this
   exact Ly _ (Kg this l1)
  have sz:s.heap.objs.size<=h'.objs.size:=K7 l1 (Nu l2)
  generalize ho:RN "<lambda>" (X.env.qual++"<lambda>") params body scope cl ((X.mg "__name__").getD .none) c' ctv=fo
  have kq:∀ b o,h'.get? b=some o->(h'.push fo).get? b=some o:=fun b o e=>J6 _ e
  have same:∀ b u,H b=some u->b≠P->upd (upd H P (.tbl (ps++#[Lg lpos.line,Lg lpos.col,.ref c']))) c' (.frz oc (.ext fun _=>True)) b=some u:=fun b u e n=>by
   rw[aC (fun z=>by rw[z,fr] at e; cases e),aC n]
   exact e
  have nt:∀ b u,H b=some u->(∀ ps,u≠.tbl ps)->b≠P:=fun b u e n z=>by
   rw[z,eP] at e
   exact n ps (La e).symm
  have un:Un X.fs [] H (upd (upd H P (.tbl (ps++#[Lg lpos.line,Lg lpos.col,.ref c']))) c' (.frz oc (.ext fun _=>True))) s.heap (h'.push fo):=by
   refine⟨fun b o e n _ _=>?_,fun b o e n _ _=>⟨o.slots,?_⟩,fun b o e n _=>?_,fun b o e _=>?_,fun b xs e=>same b _ e (nt b _ e (fun _ z=>nomatch z)),fun b o u e=>same b _ e (nt b _ e (fun _ z=>nomatch z)),fun b qs e=>?_⟩
   ·exact kq b o (kp b o (fun z=>by rw[z,eP] at n; cases n) e)
   ·exact kq b o (kp b o (fun z=>by rw[z,eP] at n; cases n) e)
   ·rw[aC (nb b o e),aC (fun z=>by rw[z,eP] at n; cases n)]
    exact n
   ·by_cases hb:b=P
    ·subst hb
     exact⟨_,kq _ _ hP'⟩
    ·exact⟨o,kq b o (kp b o hb e)⟩
   ·by_cases hb:b=P
    ·subst hb
     rw[eP] at e
     cases e
     exact⟨_,by rw[aC (Mq nP),ao]⟩
    ·exact⟨#[],by rw[same b _ e hb,Array.append_empty]⟩
  have hok:HOk X.prog X.w (upd (upd H P (.tbl (ps++#[Lg lpos.line,Lg lpos.col,.ref c']))) c' (.frz oc (.ext fun _=>True))) (h'.push fo):=fun b u e=>by
   by_cases hb:b=c'
   ·subst hb
    rw[ao] at e
    cases e
    exact⟨kq _ _ e1,trivial,⟨_,kq _ _ e1⟩,fun _ _ _ _=>trivial⟩
   ·rw[aC hb] at e
    by_cases hp:b=P
    ·subst hp
     rw[ao] at e
     cases e
     exact kq _ _ hP'
    ·rw[aC hp] at e
     refine (I.hok b u e).stay (fun d o hd q=>kq _ _ (kp d o (fun z=>?_) q)) (fun d q=>same d _ q (nt d _ q (fun _ z=>nomatch z))) fun d xs q=>same d _ q (nt d _ q (fun _ z=>nomatch z))
     rcases hd with rfl | hd
     ·exact hp z
     ·rw[z,eP] at hd
      cases hd
  have I1:=I.un (t':=tk) un hok
  have f0:upd (upd H P (.tbl (ps++#[Lg lpos.line,Lg lpos.col,.ref c']))) c' (.frz oc (.ext fun _=>True)) h'.objs.size=none:=by
   rw[aC (Mq (Kz l2)),aC (Mq (Kz (Kg (Kh hP) sz)))]
   exact I.hok.fresh sz
  refine h h'.objs.size c' ctv ((X.mg "__name__").getD .none) cl _ _ I1 (fun b o n e=>same b o e n) ⟨_,by rw[aC (Mq nP),ao],?_,fun pos cv z=>?_⟩ (fun b n l=>?_) (fun b o e n=>kq b o (kp b o (fun z=>by rw[z,eP] at n; cases n) e)) ?_ f0 sz ⟨oc,_,vs,t,ao,e2,e3⟩ sub all
  ·rw[Array.toList_append]
   exact pP _ tr
  ·rw[Array.toList_append] at z
   rcases vR _ tr z with z | z
   ·obtain⟨c1,oc1,u1,vs1,t1,a1,a2,a3⟩:=am pos cv z
    exact⟨c1,oc1,u1,vs1,t1,a1,same _ _ a2 (nt _ _ a2 (fun _ z=>nomatch z)),a3⟩
   ·exact⟨c',oc,_,vs,t,z,ao,e2,e3⟩
  ·have n1:b≠c':=fun z=>Ly _ (Kg (show c' < s.heap.objs.size from z▸l) l1)
   have n2:b≠P:=fun z=>by rw[z,eP] at n; cases n
   rw[aC n1,aC n2]
   exact n
  ·rw[← ho]
   exact Ko h' rfl
end
end L2
namespace L2
open PySem PySem.Spec PyProof.Rows
structure Ef (X:Cx) (scope:Nr) (N:List KH) (cap:List Nat):Prop where
 sc:GZ N scope
 fr:∀ y∈scope.names,y.2 = .free->X.env.kindOf y.1=some .cell∨X.env.kindOf y.1=some .free
 len:cap.length=N.length
 at':∀ (k:Nat) (x:KH),N[k]? = some x->∃ i,cap[k]? = some i/\X.N[i]? = some x
def Bu (cap:List Nat) (σ:St):St:=cap.map fun i=>(σ[i]?).join
def DK (P:Addr) (q:KH) (cap:List Nat) (tw:Addr->(Hp->VK->XK->Prop)->VK->Hp->Prop) (te:XK->TE):TE:=fun σ H Q=>TabOk H P q/\∀ f H1,dY H H1->TabOk H1 P q->tw f (fun H2 Q2 E2=>te E2 (Bu cap σ) H2 Q2) Q H1
def Jk (Rl:Hp->Hp->Prop) (P:Addr) (q:KH) (cap:List Nat) (tw:Addr->(Hp->VK->XK->Prop)->VK->Hp->Prop) (te:XK->TE):TE:=fun σ H Q=>TabOk H P q/\∀ f H1,Rl H H1->TabOk H1 P q->tw f (fun H2 Q2 E2=>te E2 (Bu cap σ) H2 Q2) Q H1
section
variable {X:Cx} {c P fW:Addr} {x qual n:KH} {st:Stmt} {fd:LK} {N NL:List KH} {cap:List Nat} {k:Nat} {params:R6} {body:Expr} {scope:Nr} {lpos p pos:Qs} {te:XK->TE} {tw:Addr->(Hp->VK->XK->Prop)->VK->Hp->Prop}
theorem Fv {Rl:Hp->Hp->Prop} (hR:∀ {H H1:Hp},TabOk H P (X.env.qual++"<lambda>")->Bm P H H1->Rl H H1) (F:Fun X.K x qual st fW fd) (S:aG N [n] (au st)) (hr:cT (k+1) X.A) (hg:Gl X x) (hm:X.mg x=some (.ref fW)) (L:Ef X scope NL cap)
  (hcode:X.env.code = .ref c) (C:W.CodeHd X.base c P) (hB:X.base.BuiltinsAt X.mg P)
  (hp:∀ (f:Addr) (cd:Value) (cl:List (KH × Addr)) (A:KY) (outer:List QZ) (s:J4) (H:Hp) (E:XK) (j:Nat),k=j+2->cT j (A.deeper (W.envX (X.env.qual++"<lambda>") scope s.heap.objs.size f cd cl))->PE (rJ (XL X.prog X.w) X.prog X.w X.K X.mg X.base NL (X.env.qual++"<lambda>") scope f cd cl A outer s H E) body (te E))
  (ht:∀ (f:Addr) (cdv:Value) (A:KY) (outer:List QZ) (s:J4) (H:Hp) (Q:VK) (j:Nat) (sp:Hp->VK->XK->Prop),k=j+1->cT k (A.deeper (envOfC qual (au st) s.heap.objs.size fW cdv))->Hi (XL X.prog X.w) X.prog X.w X.K X.mg X.base k s H (frs outer) f sp->tw f sp Q H →
   ∃ t,PSs (rK CX0 X.prog X.w X.K X.mg X.base N qual (au st) fW cdv A outer s H E0) (bw st) t/\t { nx:=fun _ H'=>Q .non H',rt:=Q } (start N [.ref f]) H)
  (hdef:defaultsOf params X.env=([],[]):=by rfl) (hla:∀ (pm cd ctv:Value) (cl:List (KH × Addr)),PB (W.kla_fn "<lambda>" (X.env.qual++"<lambda>") params body scope cl pm cd ctv) ⟨[],[]⟩=pure []:=by intros; rfl)
  (hb:∀ (kV doc pm:Value) (an:Option Addr) (cdv ct:Value) (u:Value),PB (Su x qual (bU st) (bw st) (au st) .none kV doc pm an cdv ct) ⟨[u],[]⟩=pure [(n,u)]:=by intros; rfl) (hk:k=(k - 2)+2:=by rfl)
  (hdb:(x == ("__debug__" : KH))=false:=by decide):PE X (.Call (.Name x p) [.Lambda params body scope lpos] [] pos) (Jk Rl P (X.env.qual++"<lambda>") cap tw te):=by
 intro pins s σ H Q I ⟨hT,h⟩
 refine Ls (fG I hg hm ?_ hdb)
 refine Qe (h₀:=X.base) I.ok.mod.kin F.kp ?_
 refine Q4 (Ar I hT hcode C hB hdef L.fr fun f c' ctv pm cl H1 s1 I1 sm tb fre kp ef nf lf cr sub all=>Rb ⟨I1.kIn,?_⟩)
 have nfs:f ∉ frs X.stack:=fun z=>by
  obtain⟨_,o,ho,_⟩:=I.stack.mem z
  exact Ly _ (Kg (Kh ho) lf)
 have LB:Hi (XL X.prog X.w) X.prog X.w X.K X.mg X.base k s1 H1 (frs X.stack) f fun H2 Q2 E2=>te E2 (Bu cap σ) H2 Q2:=by
  refine⟨⟨_,_,ef,rfl,nf,nfs⟩,fun A outer s3 H3 Q3 E3 room e3 k1 k2 k3 sp=>?_⟩
  obtain⟨oc,u,vs,t,f1,f2,f3⟩:=cr
  have cr3:s3.heap.CodeRec (.ref c') (X.env.qual++"<lambda>"):=⟨c',oc,vs,t,rfl,(e3.hok c' _ (k3 _ _ _ f1)).1,f2,f3⟩
  have room':cT ((k - 2)+1+1) A:=by rw[hk] at room; exact room
  have cel:∀ y a v,cl.lookup y=some a->s1.heap.IsCell a v->s3.heap.IsCell a v/\H3 a=none:=fun y a v e ⟨o,ho,hd⟩=>by
   obtain⟨⟨sl,e1⟩,e2⟩:=k2 a o ho (I1.freeC y a (sub y a e))
   exact⟨⟨_,e1,hd⟩,e2⟩
  refine Fz (N:=NL) room' e3 (k1 f _ ef nf nfs) cr3 (hla _ _ _ _) L.sc ⟨fun y z a e1 e2=>I.ok.inj y z a (sub y a e1) (sub z a e2),all,fun y a e=>?_,fun i y v e1 e2=>?_,?_⟩ (hp f (.ref c') cl A outer s3 H3 E3 (k - 2) hk ((room'.mono (M9 _)).deeper _)) sp
  ·obtain⟨v,z⟩:=I1.cell y a (sub y a e)
   obtain⟨z1,z2⟩:=cel y a v e z
   exact⟨⟨v,z1⟩,z2⟩
  ·unfold Bu at e2
   rw[KQ] at e2
   obtain⟨j,hj,hN⟩:=L.at' i y e1
   rw[hj] at e2
   have e4:(σ[j]?).join=some v:=by simpa using e2
   have e5:σ[j]? = some (some v):=by
    cases q:σ[j]? with
    | none=>rw[q] at e4; cases e4
    | some a=>rw[q] at e4; exact congrArg some e4
   have yf:=L.sc.fr y (K8 e1)
   have kd:=L.fr (y,.free) (Lp yf) rfl
   obtain⟨m,hn,hl⟩:=I1.loc
   obtain⟨u,r,lk⟩:=hl j y v hN e5 (kd.elim (fun z=>.inr (.inl z)) fun z=>.inr (.inr z))
   obtain⟨a,ha⟩:=all (y,.free) (Lp yf) rfl
   rcases lk with⟨z,_⟩ | ⟨_,a',z1,z2⟩
   ·rcases kd with w | w <;> (rw[w] at z; cases z)
   ·have:=sub y a ha
    rw[z1] at this
    cases this
    exact⟨a,u,ha,(cel y a _ ha z2).1,r⟩
  ·unfold Bu
   rw[J8,L.len]
 have hq:=h f H1 (hR hT sm) tb
 refine O4 (Nt (G5 (CX:=CX0) (k:=k) (Q:=Q) (E:=E0) F S hr I1.env0 (hb · · · · · · (.ref f)) (vs:=[.ref f]) (us:=[.ref f]) (.cons rfl .nil) rfl fun cdv=>ht f cdv X.A X.stack s1 H1 Q (k - 2+1) _ hk (hr.deeper _) LB hq) fun r s2 z=>?_)
 cases r with
 | error e=>exact K9 z
 | ok fl =>
  cases fl with
  | ret u=>exact I1.after z
  | next=>exact K9 z
  | brk=>exact K9 z
  | cont=>exact K9 z
theorem t8 (F:Fun X.K x qual st fW fd) (S:aG N [n] (au st)) (hr:cT (k+1) X.A) (hg:Gl X x) (hm:X.mg x=some (.ref fW)) (L:Ef X scope NL cap)
  (hcode:X.env.code = .ref c) (C:W.CodeHd X.base c P) (hB:X.base.BuiltinsAt X.mg P)
  (hp:∀ (f:Addr) (cd:Value) (cl:List (KH × Addr)) (A:KY) (outer:List QZ) (s:J4) (H:Hp) (E:XK) (j:Nat),k=j+2->cT j (A.deeper (W.envX (X.env.qual++"<lambda>") scope s.heap.objs.size f cd cl))->PE (rJ (XL X.prog X.w) X.prog X.w X.K X.mg X.base NL (X.env.qual++"<lambda>") scope f cd cl A outer s H E) body (te E))
  (ht:∀ (f:Addr) (cdv:Value) (A:KY) (outer:List QZ) (s:J4) (H:Hp) (Q:VK) (j:Nat) (sp:Hp->VK->XK->Prop),k=j+1->cT k (A.deeper (envOfC qual (au st) s.heap.objs.size fW cdv))->Hi (XL X.prog X.w) X.prog X.w X.K X.mg X.base k s H (frs outer) f sp->tw f sp Q H →
   ∃ t,PSs (rK CX0 X.prog X.w X.K X.mg X.base N qual (au st) fW cdv A outer s H E0) (bw st) t/\t { nx:=fun _ H'=>Q .non H',rt:=Q } (start N [.ref f]) H)
  (hdef:defaultsOf params X.env=([],[]):=by rfl) (hla:∀ (pm cd ctv:Value) (cl:List (KH × Addr)),PB (W.kla_fn "<lambda>" (X.env.qual++"<lambda>") params body scope cl pm cd ctv) ⟨[],[]⟩=pure []:=by intros; rfl)
  (hb:∀ (kV doc pm:Value) (an:Option Addr) (cdv ct:Value) (u:Value),PB (Su x qual (bU st) (bw st) (au st) .none kV doc pm an cdv ct) ⟨[u],[]⟩=pure [(n,u)]:=by intros; rfl) (hk:k=(k - 2)+2:=by rfl)
  (hdb:(x == ("__debug__" : KH))=false:=by decide):PE X (.Call (.Name x p) [.Lambda params body scope lpos] [] pos) (DK P (X.env.qual++"<lambda>") cap tw te):=Fv (fun h s=>s.t h) F S hr hg hm L hcode C hB hp ht hdef hla hb hk hdb
end
end L2
namespace L2
open PySem PySem.Spec PyProof.Rows
structure vQ (mg:KH->Option Value) (c T:Addr) (base:Lh):Prop where
 code:PySem.W.CodeHd base c T
 blt:base.BuiltinsAt mg T
theorem yx {P:Kq} {w:K1} {K:Ky} {mg mb:KH->Option Value} {k:Nat} {fa a c T:Addr} {fd:LK} {x q:KH} {sp:Sp} {s1:J4} {vs:List Value} {ns:List Int}
  (KX:K.In s1.heap) (hG:s1.heap.Ns Kp mg) (hB:s1.heap.Ns builtinsNs mb) (hbb:∀ x:KH,x≠"__name__"->mb x=Lf x) (hlim:s1.heap.NoLimit) (hg:s1.gens = #[])
  (ha:s1.heap.get? a=some { cls:=.type "list",data:=.seq vs.toArray }) (hi:Mi vs ns) (hl:ns.length<=sizeLine) (hr:cT k S7)
  (hT:s1.heap.get? T=some (W.tabObj #[])) (hC:W.CodeHd s1.heap c T) (hbm:s1.heap.BuiltinsAt mg T) (hno:W.noTabs K=true)
  (F:∀ base:Lh,K.In base->base.Ns Kp mg->vQ mg c T base->bL P w K mg base CX0 k fa fd [x] sp) (hbind:∀ (s:J4) (u:Value),Rz s fd ⟨[u],[]⟩ [(x,u)])
  (hsp:∀ H:Hp,TabOk H T q->SqL K H a (ns.map V.int)->sp [.ref a] H (fun v _=>v = .bl true) fun _ _ _=>False) :
  LQ (Kl P w) S7 (.call (.ref fa) ⟨[.ref a],[]⟩) (fun r s2=>r = .ok (.ret (.bool true))/\OldK s1.heap s2.heap/\s2.os=s1.os/\Rf s2.gens) s1:=by
 have aT:a≠T:=fun z=>by
  rw[z,hT] at ha
  cases ha
 have rv:=iV hi
 have nl:=hi.length
 have key:∀ Z:Hp,(∀ b u,Z b=some u->b=a/\u = .frz { cls:=.type "list",data:=.seq vs.toArray } (.lst (ns.map V.int)))->SqL K Z a (ns.map V.int)->(Z a≠none->K.lookup a=none) →
   LQ (Kl P w) S7 (.call (.ref fa) ⟨[.ref a],[]⟩) (fun r s2=>r = .ok (.ret (.bool true))/\OldK s1.heap s2.heap/\s2.os=s1.os/\Rf s2.gens) s1:=by
  intro Z hZ hS hK
  have H1:∀ b,b≠T->upd Z T (.tbl #[]) b=Z b:=fun b n=>aC n
  have hin:∀ {b:Addr} {o:NB},s1.heap.get? b=some o->b≠T->(Z b=none)->(Ci s1.heap (upd Z T (.tbl #[]))).get? b=some o:=fun e n z=>Ag e ((H1 _ n).trans z)
  have seqOnly:∀ {b:Addr} {o:NB},s1.heap.get? b=some o->(∀ its n,o.data≠.seq its n)->Z b=none:=fun {b o} e d=>by
   cases z:Z b with
   | none=>rfl
   | some u =>
    obtain⟨rfl,_⟩:=hZ b u z
    rw[ha] at e
    cases e
    exact absurd rfl (d _ _)
  have notT:∀ {b:Addr} {o:NB},s1.heap.get? b=some o->(∀ vs,o.data≠.fields vs)->b≠T:=fun {b o} e d z=>by
   rw[z,hT] at e
   cases e
   exact d _ rfl
  have nsK:∀ {b:Addr} {m:KH->Option Value},s1.heap.Ns b m->(Ci s1.heap (upd Z T (.tbl #[]))).Ns b m:=fun {b m} ⟨o,es,ep,e,d,r⟩ =>
   ⟨o,es,ep,hin e (notT e fun _ z=>by rw[d] at z; cases z) (seqOnly e fun _ _ z=>by rw[d] at z; cases z),d,r⟩
  have kb:K.In (Ci s1.heap (upd Z T (.tbl #[]))):=fun b o e=>hin (KX b o e) (fun z=>by
   subst z
   have e2:=KX _ _ e
   rw[hT] at e2
   cases e2
   have:=List.all_eq_true.mp hno (_,PySem.W.tabObj #[]) (PySem.W.mem_of_lookupK e)
   exact absurd (show false=true from this) J9) (by
   cases z:Z b with
   | none=>rfl
   | some u =>
    obtain⟨rfl,_⟩:=hZ b u z
    rw[hK (by rw[z]; simp)] at e
    cases e)
  have hd:vQ mg c T (Ci s1.heap (upd Z T (.tbl #[]))):=by
   obtain⟨o,ws,file,tf,flags,tg,inF,text,tt,e1,e2,e3,e4,r⟩:=hC
   obtain⟨bm,ob,b1,b2,b3,b4,b5,b6,b7,b8⟩:=hbm
   refine⟨⟨o,ws,file,tf,flags,tg,inF,text,tt,hin e1 (fun z=>?_) (seqOnly e1 fun _ _ z=>by rw[e3] at z; cases z),e2,e3,e4,r⟩,⟨bm,ob,b1,b2,b3,b4,hin b5 b4 (seqOnly b5 fun _ _ z=>by rw[b8] at z; cases z),b6,b7,b8⟩⟩
   rw[z,hT] at e1
   cases e1
   cases e2
  have hok:HOk P w (upd Z T (.tbl #[])) s1.heap:=fun b u e=>by
   by_cases hb:b=T
   ·subst hb
    rw[ao] at e
    cases e
    exact hT
   ·rw[aC hb] at e
    obtain⟨rfl,rfl⟩:=hZ b u e
    exact⟨ha,by rw[J8]; exact hl,vs,_,rv,ha⟩
  have e0:Af P w K mg (Ci s1.heap (upd Z T (.tbl #[]))) S7 [] s1 (upd Z T (.tbl #[])) :=
   ⟨rfl,⟨kb,nsK hG,⟨mb,nsK hB,hbb⟩,let ⟨mc,m1,m2⟩:=hlim; ⟨mc,nsK m1,m2⟩⟩,fun b o e=>DY e,Nat.le_of_eq (xM _ _),trivial,(fun b hb=>absurd (show b∈([]:List Addr) from hb) TQ),hok,.of_eq hg⟩
  have hS1:SqL K (upd Z T (.tbl #[])) a (ns.map V.int):=by
   rcases hS with (h | ⟨o,h⟩) | h
   ·exact .inl (.inl ((H1 a aT).trans h))
   ·exact .inl (.inr ⟨o,(H1 a aT).trans h⟩)
   ·exact .inr h
  refine Nt ((F _ kb (nsK hG) hd).run S7 [] s1 _ ⟨[.ref a],[]⟩ [.ref a] [.ref a] _ _ hr e0 (hbind s1 (.ref a)) (.cons rfl .nil) (hsp _ ⟨#[],ao,trivial,fun pos cv z=>by cases z⟩ hS1)) fun r s2 z=>?_
  cases r with
  | error e=>exact K9 z
  | ok fl =>
   cases fl with
   | next=>exact K9 z
   | brk=>exact K9 z
   | cont=>exact K9 z
   | ret u =>
    obtain⟨v,H2,os,bare,un,hok2,r2,rfl⟩:=z
    obtain rfl:u=Sv true:=r2
    have kept:∀ b o,s1.heap.get? b=some o->b≠T->s2.heap.get? b=some o:=fun b o e n=>by
     cases z:Z b with
     | none=>exact un.keep b o e ((H1 b n).trans z) (fun y=>nomatch y) fun y=>nomatch y
     | some u =>
      have z1:=(H1 b n).trans z
      obtain⟨rfl,rfl⟩:=hZ b u z
      obtain⟨e2,_⟩:=hok2 _ _ (un.frzs _ _ _ z1)
      rw[ha] at e
      cases e
      exact e2
    obtain⟨more,et⟩:=un.tbls T #[] ao
    have gT:s2.heap.get? T=some (PySem.W.tabObj (#[]++more)):=hok2 T _ et
    refine⟨rfl,⟨fun b o e=>?_,fun b o e=>?_⟩,os,bare⟩
    ·by_cases hb:b=T
     ·subst hb
      rw[hT] at e
      cases e
      exact .inr (.inl ⟨(hC.tab hT).isCodeTable,rfl,#[],more,rfl,gT⟩)
     ·exact .inl (kept b o e hb)
    ·by_cases hb:b=T
     ·subst hb
      exact⟨_,gT⟩
     ·exact⟨o,kept b o e hb⟩
 cases hk:K.lookup a with
 | some o =>
  have e:=KX a o hk
  rw[ha] at e
  cases e
  exact key (fun _=>none) (fun b u z=>by cases z) (.inr ⟨_,vs.toArray,_,hk,rfl,rfl,rfl,by rw[Km,nl]; exact hl,by simpa using rv⟩) fun z=>absurd rfl z
 | none =>
  exact key (upd (fun _=>none) a (.frz { cls:=.type "list",data:=.seq vs.toArray } (.lst (ns.map V.int)))) (fun b u z=>by
   by_cases hb:b=a
   ·subst hb
    rw[ao] at z
    exact⟨rfl,(La z).symm⟩
   ·rw[aC hb] at z
    cases z) (.inl (.inr ⟨{ cls:=.type "list",data:=.seq vs.toArray },ao⟩)) fun _=>hk
theorem Bc {l:W.OpenLaw} {n k:Nat} {qp:Kq} {loose:List KH} {XP:(KH->Option Value)->Lh->Prop} {YP:K1->Lh->Prop} {d:DefRec} {K:Params->Ky} {sp:K1->Sp} {x q:KH} {T:Addr}
  (hn:l.most=some n) (hn2:n<=sizeLine) (hdf:d.params.defaults=[]) (hr:cT k S7)
  (hY:∀ (w:K1) (h:Lh),YP w h->(K w.params).In h/\h.get? T=some (W.tabObj #[])) (hno:∀ w:K1,W.noTabs (K w.params)=true)
  (F:∀ (w:K1) (mg:KH->Option Value) (fa:Addr) (h:Lh),(K w.params).In h->h.Ns Kp mg->mg d.name=some (.ref fa) →
   ∃ (fd:LK) (c:Addr),PySem.W.codeHdIn (K w.params) c T=true/\(∀ (s:J4) (u:Value),Rz s fd ⟨[u],[]⟩ [(x,u)]) ∧
    ∀ base:Lh,(K w.params).In base->base.Ns Kp mg->vQ mg c T base->bL l.prog w (K w.params) mg base CX0 k fa fd [x] (sp w))
  (hsp:∀ (w:K1) (H:Hp) (a:Addr) (ns:List Int),ns.length<=n->TabOk H T q->SqL (K w.params) H a (ns.map V.int)->sp w [.ref a] H (fun v _=>v = .bl true) fun _ _ _=>False) :
  PySem.W.WalkO qp loose XP YP l.row.toRowW d [] (fun f vs=>PySem.call f vs):=by
 refine Att.sX hn hdf fun w s₀ s₁ mg mb fa o pm cd doc a vs ns G Y ho hd hcd hmg hobj hints hlen hg=>?_
 obtain⟨KX,hT⟩:=hY w _ Y
 obtain⟨fd,c,hc,hb,hF⟩:=F w mg fa _ KX G.T.g hmg
 have hC:=PySem.W.codeHd_of_K KX hc
 have hbm:s₁.heap.BuiltinsAt mg T:=by
  obtain⟨bm,ob,b1,b2,b3,b4,b5,b6⟩:=G.T.bmain
  refine⟨bm,ob,b1,b2,fun z=>?_,fun z=>?_,b3,b4,b5,b6⟩
  ·obtain⟨og,es,ep,e,d,_⟩:=G.T.g
   rw[z,e] at b3
   cases b3
   rw[d] at b6
   cases b6
  ·rw[z,hT] at b3
   cases b3
   cases b4
 exact yx KX G.T.g G.T.b G.T.builtins G.T.nolimit hg hobj hints (K7 hlen hn2) hr hT hC hbm (hno w) hF hb fun H h1 h2=>hsp w H a ns hlen h1 h2
end L2
namespace L2
open PySem PySem.Spec PyProof.Rows
structure Dx (P:Kq) (w:K1) (K:Ka) (mg:KH->Option Value) (base:Lh) (x:KH) (k:Nat) (ps:List KH) (sp:Sp):Prop where
 ex:∃ (f:Addr) (fd:LK),bL P w K mg base (XL P w) k f fd ps sp/\mg x=some (.ref f)/\Ml K (.ref f)=true/\Binds K fd ps []
theorem zx {P:Kq} {w:K1} {X:Cx}:Passes (XL P w) X E0:=fun _ _ _ _ _ _ _ ⟨_,_,_,_,_,_,_,z⟩=>z.elim
section
variable {X:Cx} {k j:Nat} {x:KH} {ps:List KH} {sp:Sp} {p pos:Qs} {e:Expr} {es:List Expr} {t:TA} {E:XK}
theorem GK (D:Dx X.prog X.w X.K X.mg X.base x k ps sp) (hr:cT j X.A) (hx:Passes (XL X.prog X.w) X E) (ha:PA X (e::es) t) (hk:k<=j:=by first | decide | exact Kc _ | lia) (hg:Gl X x:=by rfl)
  (hdb:(x == ("__debug__" : KH))=false:=by decide) (he:Kr (e::es) X.env=(false,Mp e X.env)::Kr es X.env:=by rfl) (hpl:(Mu pos (Kr es X.env)).any (·.1)=false:=by rfl) :
  PE X (.Call (.Name x p) (e::es) [] pos) (oU sp [] E t):=by
 obtain⟨f,fd,F,hm,hkp,hb⟩:=D.ex
 exact yd F (hr.mono hk) hg hm hkp hb .nil hx ha hdb he hpl
end
section
variable {P:Kq} {w:K1} {K:Ky} {mg:KH->Option Value} {base:Lh}
theorem Fun.okX {x qual:KH} {st:Stmt} {f:Addr} {fd:LK} {N ps:List KH} {k:Nat} {sp:Sp} (F:Fun K x qual st f fd) (S:aG N ps (au st)) (len:∀ vs H Q E,sp vs H Q E->vs.length=ps.length)
  (hb:∀ (cdv:Value) (A:KY) (outer:List QZ) (s:J4) (H:Hp) (vs:List V) (Q:VK) (E:XK),cT k (A.deeper (envOfC qual (au st) s.heap.objs.size f cdv))->sp vs H Q E →
   ∃ t,PSs (rK (XL P w) P w K mg base N qual (au st) f cdv A outer s H E) (bw st) t/\t { nx:=fun _ H2=>Q .non H2,rt:=Q } (start N vs) H):bL P w K mg base (XL P w) (k+1) f fd ps sp:=by
 obtain⟨oc,od,kV,doc,pm,an,cdv,ct,osl,rfl,lk,hc⟩:=F.ex
 exact FP lk hc S len fun A outer s H vs Q E hr hs=>hb cdv A outer s H vs Q E hr hs
end
theorem uN {X:Cx} {scope:Nr} {NL:List KH} {cap:List Nat} (c:jN X scope NL cap) (co:scope.isCoroutine=false:=by rfl) (gen:scope.isGenerator=false:=by rfl):Ef X scope NL cap :=
 ⟨⟨c.kind,co,gen,c.cell,fun x hx=>let ⟨_,hi⟩:=List.getElem?_of_mem hx; let ⟨_,_,_,z⟩:=c.at' _ x hi; z⟩,c.fr,c.len,fun k x e=>let ⟨i,a,b,_⟩:=c.at' k x e; ⟨i,a,b⟩⟩
structure Ip (K:Ka) (x qual:KH) (st:Stmt) (f:Addr) (fd:LK) (c:Addr):Prop where
 ex:∃ (oc:Value) (od:Option Addr) (kV doc pm:Value) (an:Option Addr) (ct:Value) (osl:Array (Option Value)),
  fd=N5 x qual (bU st) (bw st) (au st) .none kV doc pm an (.ref c) ct/\K.lookup f=some ⟨oc,od,.func fd,osl⟩/\Pg K (.ref c) qual=true
theorem Ip.ok {P:Kq} {w:K1} {K:Ky} {mg:KH->Option Value} {base:Lh} {x qual:KH} {st:Stmt} {f c:Addr} {fd:LK} {N ps:List KH} {k:Nat} {sp:Sp} (F:Ip K x qual st f fd c) (S:aG N ps (au st)) (len:∀ vs H Q E,sp vs H Q E->vs.length=ps.length)
  (hb:∀ (A:KY) (outer:List QZ) (s:J4) (H:Hp) (vs:List V) (Q:VK) (E:XK),cT k (A.deeper (envOfC qual (au st) s.heap.objs.size f (.ref c)))->sp vs H Q E →
   ∃ t,PSs (rK CX0 P w K mg base N qual (au st) f (.ref c) A outer s H E).nox (bw st) t/\t { nx:=fun _ H2=>Q .non H2,rt:=Q } (start N vs) H):bL P w K mg base CX0 (k+1) f fd ps sp:=by
 obtain⟨oc,od,kV,doc,pm,an,ct,osl,rfl,lk,hc⟩:=F.ex
 refine FP lk hc S len fun A outer s H vs Q E hr hs=>?_
 obtain⟨t,h1,h2⟩:=hb A outer s H vs Q E hr hs
 exact⟨t,h1.nox,h2⟩
end L2
namespace L2
open PySem PySem.Spec PyProof.Rows
section
variable {prog:Kq} {w:K1} {A:KY} {R:QT->J4->Prop} {E:Value->J4->Prop} {s:J4}
end
section
variable {X:Cx} {k:Nat}
end
end L2
namespace L2
open PySem PySem.Spec PyProof.Rows PySem.W
section
variable {prog:Kq} {w:K1} {A:KY} {E:Value->J4->Prop} {κ:SortKind} {it:Array Keyed} {s:J4}
end
section
variable {X:Cx}
end
end L2
namespace L2
open PySem PySem.Spec PyProof.Rows
section
variable {X:Cx} {k:Nat}
end
end L2
namespace L2
open PySem PySem.Spec PyProof.Rows
end L2
namespace L2
open PySem PySem.Spec PyProof.Rows
section
variable {prog:Kq} {w:K1} {A:KY} {R:QT->J4->Prop} {E:Value->J4->Prop} {s:J4}
end
section
variable {X:Cx}
end
end L2
namespace L2
open PySem PySem.Spec PyProof.Rows PySem.W
section
variable {n:Nat} {o:Nat->Nat->Bool} {cmp:Nat->Nat->(Bool->J4->Prop)->J4->Prop} {s:J4}
variable (tr:∀ i j k,i < n->j < n->k < n->o i j=true->o j k=true->o i k=true) (tot:∀ i j,i < n->j < n->i≠j->o i j=false->o j i=true)
variable (hc:∀ i j,i < n->j < n->∀ C:Bool->J4->Prop,C (o i j) s->cmp i j C s)
include tr in
include tr in
include tr tot hc in
include tr tot hc in
include tr tot hc in
include tr tot hc in
include tr tot hc in
include tr tot hc in
include tr tot hc in
end
end L2
namespace L2
open PySem PySem.Spec PyProof.Rows PySem.W PySem.SeqAt
open AutoSeq1 (wpAny_loadPart')
open MeetsSeq MeetsSeq2 MeetsSeq3
section
variable {prog:Kq} {w:K1} {A:KY} {E:Value->J4->Prop} {s:J4}
end
end L2
namespace L2
open PySem PySem.Spec PyProof.Rows PySem.W
section
variable {prog:Kq} {w:K1} {A:KY} {E:Value->J4->Prop} {s:J4}
end
end L2
namespace L2
open PySem PySem.Spec PyProof.Rows PySem.W
section
variable {prog:Kq} {w:K1} {A:KY} {E:Value->J4->Prop} {s:J4}
end
section
variable {X:Cx} {k:Nat}
end
end L2
namespace L2
open PySem PySem.Spec PyProof.Rows
inductive HasDef (K:Ka) (x:KH) (st:Stmt) (f:Addr):Prop where
 | mk {od an:Option Addr} {sl:Array (Option Value)} {oc kV dc pm cd ct:Value} (a:PySem.W.nsIn K Kp x=some (some (.ref f))) (l:K.lookup f=some ⟨oc,od,.func (N5 x x (bU st) (bw st) (au st) .none kV dc pm an cd ct),sl⟩) (c:Pg K cd x=true) (k:Ml K (.ref f)=true):HasDef K x st f
section
variable {P:Kq} {w:K1} {K:Ky} {mg:KH->Option Value} {base h:Lh} {x:KH} {st:Stmt} {f:Addr} {ps:List KH} {sp:Sp} {k:Nat}
theorem HasDef.name (q:HasDef K x st f) (X:K.In h) (G:h.Ns Kp mg):mg x=some (.ref f):=by
 obtain⟨a,l,c,k⟩:=q
 exact Qv X G a
theorem HasDef.df (q:HasDef K x st f) (X:K.In h) (G:h.Ns Kp mg) (hb:∀ fd,Fun K x x st f fd->Binds K fd ps []) (ok:∀ fd,Fun K x x st f fd->bL P w K mg base CX0 k f fd ps sp):Df P w K mg base x k ps sp:=by
 obtain⟨a,l,c,k⟩:=q
 have F:=lV l c k
 exact⟨⟨_,_,ok _ F,Qv X G a,k,hb _ F⟩⟩
theorem CW {α:Type}:∀ {us:List α},us.length=1->∃ x0,us=[x0]
 | [x0],_=>⟨x0,rfl⟩
theorem Ht {α:Type}:∀ {us:List α},us.length=2->∃ x0 x1,us=[x0,x1]
 | [x0,x1],_=>⟨x0,x1,rfl⟩
theorem Jp {α:Type}:∀ {us:List α},us.length=3->∃ x0 x1 x2,us=[x0,x1,x2]
 | [x0,x1,x2],_=>⟨x0,x1,x2,rfl⟩
theorem JM {α:Type}:∀ {us:List α},us.length=4->∃ x0 x1 x2 x3,us=[x0,x1,x2,x3]
 | [x0,x1,x2,x3],_=>⟨x0,x1,x2,x3,rfl⟩
theorem JR {α:Type}:∀ {us:List α},us.length=5->∃ x0 x1 x2 x3 x4,us=[x0,x1,x2,x3,x4]
 | [x0,x1,x2,x3,x4],_=>⟨x0,x1,x2,x3,x4,rfl⟩
theorem bind1 {a0:KH} (h:∀ (kV doc pm:Value) (an:Option Addr) (cdv ct x0:Value),PB (Su x x (bU st) (bw st) (au st) .none kV doc pm an cdv ct) ⟨[x0],[]⟩=pure [(a0,x0)]):∀ fd,Fun K x x st f fd->Binds K fd [a0] []:=fun _ F=>F.binds fun kV doc pm an cdv ct us hl=>by
 obtain⟨x0,rfl⟩:=CW hl
 exact h kV doc pm an cdv ct x0
theorem cM {a0 a1:KH} (h:∀ (kV doc pm:Value) (an:Option Addr) (cdv ct x0 x1:Value),PB (Su x x (bU st) (bw st) (au st) .none kV doc pm an cdv ct) ⟨[x0,x1],[]⟩=pure [(a0,x0),(a1,x1)]):∀ fd,Fun K x x st f fd->Binds K fd [a0,a1] []:=fun _ F=>F.binds fun kV doc pm an cdv ct us hl=>by
 obtain⟨x0,x1,rfl⟩:=Ht hl
 exact h kV doc pm an cdv ct x0 x1
theorem ir {a0 a1 a2:KH} (h:∀ (kV doc pm:Value) (an:Option Addr) (cdv ct x0 x1 x2:Value),PB (Su x x (bU st) (bw st) (au st) .none kV doc pm an cdv ct) ⟨[x0,x1,x2],[]⟩=pure [(a0,x0),(a1,x1),(a2,x2)]):∀ fd,Fun K x x st f fd->Binds K fd [a0,a1,a2] []:=fun _ F=>F.binds fun kV doc pm an cdv ct us hl=>by
 obtain⟨x0,x1,x2,rfl⟩:=Jp hl
 exact h kV doc pm an cdv ct x0 x1 x2
theorem IK {a0 a1 a2 a3:KH} (h:∀ (kV doc pm:Value) (an:Option Addr) (cdv ct x0 x1 x2 x3:Value),PB (Su x x (bU st) (bw st) (au st) .none kV doc pm an cdv ct) ⟨[x0,x1,x2,x3],[]⟩=pure [(a0,x0),(a1,x1),(a2,x2),(a3,x3)]):∀ fd,Fun K x x st f fd->Binds K fd [a0,a1,a2,a3] []:=fun _ F=>F.binds fun kV doc pm an cdv ct us hl=>by
 obtain⟨x0,x1,x2,x3,rfl⟩:=JM hl
 exact h kV doc pm an cdv ct x0 x1 x2 x3
end
end L2
namespace L2
open PySem PySem.Spec PyProof.Rows
structure Dm2 (P:Kq) (w:K1) (K:Ka) (mg:KH->Option Value) (base:Lh) (C:Addr) (m:KH) (k:Nat) (ps:List KH) (sp:Sp):Prop where
 ex:∃ (f:Addr) (fd:LK),bL P w K mg base CX0 k f fd ps sp/\Cls K C/\Meth K C m f/\Binds K fd ps []
structure Dk2 (P:Kq) (w:K1) (K:Ka) (mg:KH->Option Value) (base:Lh) (x:KH) (C:Addr) (k:Nat) (ps:List KH) (sp:Sp):Prop where
 ex:∃ (f:Addr) (fd:LK),bL P w K mg base CX0 k f fd ps sp/\Mk K C f/\mg x=some (.ref C)/\Binds K fd ps []
section
variable {X:Cx} {k j:Nat} {x m:KH} {C:Addr} {ps:List KH} {sp:Sp} {p pos apos:Qs} {o e:Expr} {es:List Expr} {to:TE} {t:TA} {f:KH}
theorem rZ {pl:Sem Bool} (D:Dm2 X.prog X.w X.K X.mg X.base C m k ps sp) (hr:cT j X.A) (ho:PE X o to) (ha:PA X (e::es) t) (hk:k<=j:=by first | decide | exact Kc _ | lia)
  (hst:Kr (e::es) X.env=(false,Mp e X.env)::Kr es X.env:=by rfl) (hpl:(Mu pos (Kr es X.env)).any (·.1)=false:=by rfl)
  (ht:Mp (.Call (.Attribute o m apos) (e::es) [] pos) X.env=(do
   let ov ← Mp o X.env
   Pk apos.atName
   let (f,first) ← Qu [ov] (Qh ov m pl)
   Rp pos f first (Mu pos (Kr (e::es) X.env)) (QR pos (O5 [] X.env))):=by rfl) :
  PE X (.Call (.Attribute o m apos) (e::es) [] pos) (jz C m sp [] E0 to t):=by
 obtain⟨f,fd,F,c,hm,hb⟩:=D.ex
 exact zA ho c hm F (hr.mono hk) hb .nil mL ha hst hpl ht
theorem Hg {pl:Sem Bool} (D:Dm2 X.prog X.w X.K X.mg X.base C m k ps sp) (hr:cT j X.A) (ho:PE X o to) (hk:k<=j:=by first | decide | exact Kc _ | lia)
  (ht:Mp (.Call (.Attribute o m apos) [] [] pos) X.env=(do
   let ov ← Mp o X.env
   Pk apos.atName
   let (f,first) ← Qu [ov] (Qh ov m pl)
   Rp pos f first (Mu pos (Kr [] X.env)) (QR pos (O5 [] X.env))):=by rfl) :
  PE X (.Call (.Attribute o m apos) [] [] pos) (jz C m sp [] E0 to dW):=by
 obtain⟨f,fd,F,c,hm,hb⟩:=D.ex
 exact uP ho c hm F (hr.mono hk) hb .nil mL ht
theorem wM (D:Dk2 X.prog X.w X.K X.mg X.base x C k ps sp) (hr:cT j X.A) (ha:PA X (e::es) t) (hk:k+1<=j:=by first | decide | exact Kc _ | lia) (hg:Gl X x:=by rfl)
  (hdb:(x == ("__debug__" : KH))=false:=by decide) (he:Kr (e::es) X.env=(false,Mp e X.env)::Kr es X.env:=by rfl) (hpl:(Mu pos (Kr es X.env)).any (·.1)=false:=by rfl) :
  PE X (.Call (.Name x p) (e::es) [] pos) (BP C sp [] E0 t):=by
 obtain⟨f,fd,F,M,hm,hb⟩:=D.ex
 exact EY M F (hr.mono hk) hg hm hb .nil mL ha hdb he hpl
theorem Hr (D:Dk2 X.prog X.w X.K X.mg X.base x C k ps sp) (hr:cT j X.A) (hk:k+1<=j:=by first | decide | exact Kc _ | lia) (hg:Gl X x:=by rfl)
  (hdb:(x == ("__debug__" : KH))=false:=by decide):PE X (.Call (.Name x p) [] [] pos) (BP C sp [] E0 dW):=by
 obtain⟨f,fd,F,M,hm,hb⟩:=D.ex
 exact Aj M F (hr.mono hk) hg hm hb .nil mL hdb
theorem aF (K:Ky) (hK:X.K=K) (he:PE X e to) (hb:Ri e f X.env (Mp e X.env)=Mp e X.env:=by rfl):PE X (.Attribute e f pos) (Jx K to f):=by
 subst hK
 exact Hm he hb
end
end L2
namespace L2
open PySem PySem.Spec PyProof.Rows
section
variable {prog:Kq} {w:K1} {A:KY} {E:Value->J4->Prop} {s:J4}
theorem Bd {t:Addr} {zs:List Value} {R:List Value->J4->Prop} (ht:s.heap.IsTuple t zs.toArray) (hz:zs.length<=sizeLine)
  (k:R zs { s with heap:=(s.heap.push (RZ "list" #[] 0)).update s.heap.objs.size (Qt (·++zs.toArray)) }):Ke (Kl prog w) A (collect (.ref t)) R E s:=by
 obtain⟨o,ho,hc,m,hd⟩:=id ht
 have old:(s.heap.push (RZ "list" #[] 0)).get? t=some o:=J6 _ ho
 have new:(s.heap.push (RZ "list" #[] 0)).get? s.heap.objs.size=some (RZ "list" #[] 0):=Ko _ rfl
 unfold collect
 apply J3
 apply wpAny_runValue
 apply Mw entry_proto_collect'
 apply J3 (m:=newList [])
 refine wpAny_newList ?_
 apply J7
 refine⟨Q0 _ (by decide+kernel),?_⟩
 apply Mw entry_list_iadd'
 show Ke _ _ (O1 _ _ _) _ _ _
 unfold O1
 apply J3
 refine wpAny_typeOf (T:="tuple") ⟨o,old,hc⟩ ?_
 rw[if_pos (by rw[show (N8 "tuple" == N8 "tuple")=true from rfl]; simp)]
 apply J3
 apply listItems_at old hd
 apply J3
 apply listItems_at (xs:=#[]) (n:=0) new rfl
 rw[if_neg (by simp)]
 apply J3
 refine listUpdate_at (xs:=#[]) (n:=0) new rfl ?_ (Lb _) ?_
 ·apply J7
  apply J3 (m:=load s.heap.objs.size)
  apply wpAny_load (get?_update_seq new _)
  show Ke _ _ (pure ((#[]:Array Value)++zs.toArray).toList) R E _
  have e:((#[]:Array Value)++zs.toArray).toList=zs:=by simp
  rw[e]
  exact J7 k
 ·have e:((#[]:Array Value)++zs.toArray).size=zs.length:=by simp
  show ((#[]:Array Value)++zs.toArray).size<=sizeLine+1
  rw[e]
  exact Nat.le_succ_of_le hz
theorem vO {t:Addr} {zs:List Value} {ns:List Int} {R:Value->J4->Prop} (ht:s.heap.IsTuple t zs.toArray) (hi:Mi zs ns) (h64:zs.length < 64)
  (k:∀ (out:Array Value) (ms:List Int),Mi out.toList ms->ms.Perm ns->ms.Pairwise (·<=·)->R (.ref (s.heap.objs.size+1)) { s with heap:=sortedAll s.heap zs out }):Ke (Kl prog w) A (call (.builtin "sorted") [.ref t]) R E s:=by
 apply Calls.call_function_entry kind_sorted plain_sorted entry_sorted (args_sorted1 _)
 unfold O2.«sorted»
 apply J3 (m:=checkCount "sorted" 1 1 _)
 apply J7
 apply J3
 apply Bd ht (Nu (Tg h64 (by decide)))
 apply J3
 refine wpAny_newList ?_ (hsz:=Nu (Tg h64 (by decide)))
 generalize eg:(s.heap.push (RZ "list" #[] 0)).update s.heap.objs.size (Qt (·++zs.toArray))=g
 have hg:g.objs.size=s.heap.objs.size+1:=by rw[← eg,Heap.size_update,size_push']
 have top:(g.push (RZ "list" zs.toArray 0)).get? (s.heap.objs.size+1)=some (RZ "list" zs.toArray 0):=by
  rw[← hg]
  exact Ko _ rfl
 show Ke _ _ _ _ _ { s with heap:=g.push (RZ "list" zs.toArray 0) }
 rw[hg]
 apply J3
 apply MT
 refine MF slot_list_sort ⟨_,top,rfl⟩ entry_list_sort ?_ (args_list_sort _)
 ·refine list_sort_tree top hi h64 fun out ms a1 a2 a3=>⟨_,rfl,?_⟩
  have:=k out ms a1 a2 a3
  unfold sortedAll at this
  rw[eg] at this
  exact J7 ⟨_,rfl,this⟩
end
section
variable {X:Cx}
inductive xG (K:Ky) (xs:List V) (H:Hp) (Q:VK):Prop where
 | mk (p:Addr) (ns:List Int) (z0:xs=[.ref p]) (z1:SqT K H p (ns.map V.int)) (z2:ns.length < 64) (z3:∀ ms:List Int,ms.Perm ns->ms.Pairwise (·<=·)->∀ l,H l=none->Q (.ref l) (upd H l (.lst (ms.map V.int)))):xG K xs H Q
def DQ (K:Ky):List V->Hp->VK->Prop:=fun xs H Q=>xG K xs H Q
theorem vZ:jk X (.builtin "sorted") (DQ X.K):=by
 intro pins s σ H xs us Q I r h
 obtain⟨p,ns,rfl,hq,h64,q⟩:=h
 obtain⟨u,rfl,ru⟩:=vals1 r
 cases ru
 obtain⟨its,rv,pl,hz⟩:=I.tuple hq
 have hi:Mi its ns:=intsAre_of rv
 refine vO pl hi (by have:=hi.length; lia) fun out ns' a1 a2 a3=>?_
 obtain⟨e,he⟩:=sortedAll_at s.heap its out
 have hml:(ns'.map V.int).length<=sizeLine:=by
  rw[J8,a2.length_eq]
  exact Nu (Kg h64 (by decide))
 exact⟨.ref _,_,I.HH rfl rfl (fun _ _=>sortedAll_old) (M9 _) (iV a1) hml he,rfl,q ns' a2 a3 _ (I.hok.fresh (M9 _))⟩
end
end L2
namespace L2
open PySem PySem.Spec PyProof.Rows
inductive fC (K:Ka) (x:KH) (C:Addr):Prop where
 | mk (a:PySem.W.nsIn K Kp x=some (some (.ref C))) (pg:Qq K C Str.empty=true) (hd:OJ K C=true) (po:Td K C=true) (sa:Lw K (.ref C) "__setattr__" = some (some (.builtin "object.__setattr__"))) (ms:T7 K C=true) (kp:Ml K (.ref C)=true):fC K x C
inductive bQ (K:Ka) (C:Addr) (m q:KH) (st:Stmt) (f:Addr):Prop where
 | mk {od an:Option Addr} {sl:Array (Option Value)} {oc kV dc pm cd ct:Value} (a:Lw K (.ref C) m=some (some (.ref f))) (fn:Tf K (.ref f)=true) (l:K.lookup f=some ⟨oc,od,.func (N5 m q (bU st) (bw st) (au st) .none kV dc pm an cd ct),sl⟩) (c:Pg K cd q=true) (k:Ml K (.ref f)=true):bQ K C m q st f
section
variable {P:Kq} {w:K1} {K:Ky} {mg:KH->Option Value} {base h:Lh} {x m q:KH} {st:Stmt} {C f:Addr} {ps:List KH} {sp:Sp} {k:Nat}
theorem fC.cl (c:fC K x C):Cls K C:=by
 obtain⟨_,pg,hd,po,sa,_,_⟩:=c
 exact⟨pg,hd,po,sa⟩
theorem bQ.dm (o:bQ K C m q st f) (c:fC K x C) (hb:∀ fd,Fun K m q st f fd->Binds K fd ps []) (ok:∀ fd,Fun K m q st f fd->bL P w K mg base CX0 k f fd ps sp):Dm2 P w K mg base C m k ps sp:=by
 obtain⟨a,fn,l,cd,k⟩:=o
 have F:=lV l cd k
 exact⟨⟨_,_,ok _ F,c.cl,⟨a,fn,k⟩,hb _ F⟩⟩
theorem bQ.dk (o:bQ K C "__init__" q st f) (c:fC K x C) (X:K.In h) (G:h.Ns Kp mg) (hb:∀ fd,Fun K "__init__" q st f fd->Binds K fd ps []) (ok:∀ fd,Fun K "__init__" q st f fd->bL P w K mg base CX0 k f fd ps sp):Dk2 P w K mg base x C k ps sp:=by
 obtain⟨a,fn,l,cd,k⟩:=o
 obtain⟨n,_,_,_,_,ms,kp⟩:=c
 have F:=lV l cd k
 exact⟨⟨_,_,ok _ F,⟨ms,a,fn,kp⟩,Qv X G n,hb _ F⟩⟩
end
end L2
namespace L2
open PySem PySem.Spec PyProof.Rows
structure Dmx (P:Kq) (w:K1) (K:Ka) (mg:KH->Option Value) (base:Lh) (C:Addr) (m:KH) (k:Nat) (ps:List KH) (sp:Sp):Prop where
 ex:∃ (f:Addr) (fd:LK),bL P w K mg base (XL P w) k f fd ps sp/\Cls K C/\Meth K C m f/\Binds K fd ps []
section
variable {X:Cx} {k j:Nat} {m:KH} {C:Addr} {ps:List KH} {sp:Sp} {pos apos:Qs} {o e:Expr} {es:List Expr} {to:TE} {t:TA} {E:XK}
theorem yz {pl:Sem Bool} (D:Dmx X.prog X.w X.K X.mg X.base C m k ps sp) (hr:cT j X.A) (hx:Passes (XL X.prog X.w) X E) (ho:PE X o to) (ha:PA X (e::es) t) (hk:k<=j:=by first | decide | exact Kc _ | lia)
  (hst:Kr (e::es) X.env=(false,Mp e X.env)::Kr es X.env:=by rfl) (hpl:(Mu pos (Kr es X.env)).any (·.1)=false:=by rfl)
  (ht:Mp (.Call (.Attribute o m apos) (e::es) [] pos) X.env=(do
   let ov ← Mp o X.env
   Pk apos.atName
   let (f,first) ← Qu [ov] (Qh ov m pl)
   Rp pos f first (Mu pos (Kr (e::es) X.env)) (QR pos (O5 [] X.env))):=by rfl) :
  PE X (.Call (.Attribute o m apos) (e::es) [] pos) (jz C m sp [] E to t):=by
 obtain⟨f,fd,F,c,hm,hb⟩:=D.ex
 exact zA ho c hm F (hr.mono hk) hb .nil hx ha hst hpl ht
theorem Fd {pl:Sem Bool} (D:Dmx X.prog X.w X.K X.mg X.base C m k ps sp) (hr:cT j X.A) (hx:Passes (XL X.prog X.w) X E) (ho:PE X o to) (hk:k<=j:=by first | decide | exact Kc _ | lia)
  (ht:Mp (.Call (.Attribute o m apos) [] [] pos) X.env=(do
   let ov ← Mp o X.env
   Pk apos.atName
   let (f,first) ← Qu [ov] (Qh ov m pl)
   Rp pos f first (Mu pos (Kr [] X.env)) (QR pos (O5 [] X.env))):=by rfl) :
  PE X (.Call (.Attribute o m apos) [] [] pos) (jz C m sp [] E to dW):=by
 obtain⟨f,fd,F,c,hm,hb⟩:=D.ex
 exact uP ho c hm F (hr.mono hk) hb .nil hx ht
end
section
variable {P:Kq} {w:K1} {K:Ky} {mg:KH->Option Value} {base h:Lh} {x m q:KH} {st:Stmt} {C f:Addr} {ps:List KH} {sp:Sp} {k:Nat}
theorem bQ.dmx (o:bQ K C m q st f) (c:fC K x C) (hb:∀ fd,Fun K m q st f fd->Binds K fd ps []) (ok:∀ fd,Fun K m q st f fd->bL P w K mg base (XL P w) k f fd ps sp):Dmx P w K mg base C m k ps sp:=by
 obtain⟨a,fn,l,cd,k⟩:=o
 have F:=lV l cd k
 exact⟨⟨_,_,ok _ F,c.cl,⟨a,fn,k⟩,hb _ F⟩⟩
theorem HasDef.dx (q:HasDef K x st f) (X:K.In h) (G:h.Ns Kp mg) (hb:∀ fd,Fun K x x st f fd->Binds K fd ps []) (ok:∀ fd,Fun K x x st f fd->bL P w K mg base (XL P w) k f fd ps sp):Dx P w K mg base x k ps sp:=by
 obtain⟨a,l,c,k⟩:=q
 have F:=lV l c k
 exact⟨⟨_,_,ok _ F,Qv X G a,k,hb _ F⟩⟩
end
section
variable {X:Cx}
inductive vA (x:V) (vs:List V) (H:Hp) (Q:VK):Prop where
 | mk (l:Addr) (ns:List Int) (k:Int) (j:Nat) (z0:x = .ref l) (z1:vs=[.int k]) (z2:H l=some (.lst (ns.map V.int))) (z3:ns[j]? = some k) (z4:(∀ i,i < j->ns[i]?≠some k)) (z5:Q .non (upd H l (.lst ((ns.map V.int).eraseIdx j)))):vA  x vs H Q
def xQ:V->List V->Hp->VK->Prop:=fun x vs H Q=>vA  x vs H Q
theorem xP:MtM X "list.remove" xQ:=by
 intro pins s σ H x vs v us Q I rx rv h
 obtain⟨l,ns,k,j,rfl,rfl,hH,hj,hno,q⟩:=h
 cases rx
 obtain⟨u1,rfl,r1⟩:=rv.one
 obtain⟨t,rfl⟩:=r1
 obtain⟨z,its,n,r,hl,e⟩:=I.Gb hH
 have hjn:j < ns.length:=(List.getElem?_eq_some_iff.mp hj).1
 have z0:=z
 rw[J8] at hl
 rw[T4,J8] at z
 have at_:∀ (i:Nat) (hi:i < its.length),∃ t,its[i] = .int (ns.getD i 0) t:=fun i hi=>by
  obtain⟨m,t,h1,h2⟩:=Fb r (Kd hi)
  exact⟨t,by rw[h2,K6,h1]; rfl⟩
 refine Ss F.slot_list_remove ⟨_,e,rfl⟩ F.entry_list_remove (F.args_list_remove_2 _ _)
  (MeetsSeq.list_remove l its.toArray n (.int k t) (isInt k) (fun y hy=>?_) j (by rw[Km]; lia) ?_ (fun i hi hlt=>?_) (by rw[Km,← hl,← J8 (f:=V.int)]; exact z0)) ⟨e,?_⟩
 ·have hy':y∈its:=by simpa using hy
  obtain⟨i,hi,rfl⟩:=Py hy'
  obtain⟨t',et⟩:=at_ i hi
  rw[et]
  exact MeetsSeq.EqGives.int _ k _ t
 ·obtain⟨t',et⟩:=at_ j (by lia)
  rw[MK,et,K6,hj]
  show isInt k (.int k t')=true
  simp [isInt]
 ·rw[Km] at hi
  obtain⟨t',et⟩:=at_ i hi
  rw[MK,et]
  have hn:ns[i]? = some ns[i]:=Kd (by lia)
  have:=hno i hlt
  rw[K6,hn]
  rw[hn] at this
  show isInt k (.int ns[i] t')=false
  simp [isInt]
  exact fun z=>this (by rw[z])
 ·refine⟨.non,_,I.Jd (its':=its.eraseIdx j) hH e ?_ (r.eraseIdx j) ?_,rfl,q⟩
  ·show its.toArray.eraseIdxIfInBounds j=(its.eraseIdx j).toArray
   rw[Tr]
  ·have:=lU (ns.map V.int) j
   lia
end
end L2
namespace L2
open PySem PySem.Spec PyProof.Rows
inductive dz (K:Ka) (x q:KH) (C fi:Addr) (st:Stmt) (bm:List Value):Prop where
 | mk {nm qn:KH} {N:Addr} {bs sub:List Value} {hdct ab:Bool} {sn:List KH} {col:Option Bool} {dd odi ani:Option Addr} {k0 k1 k2 k3 k5:Option Value} {cd:ClassData} {sli:Array (Option Value)} {oci kVi dci pmi cdi cti:Value}
  (ac:Nf K Kp x=some (some (.ref C))) (oc:K.lookup C=some (Ot nm qn C N bs bm hdct sn sub ab col dd k0 k1 k2 k3 k5 "ValueError.__new__")) (ve:GP bm) (ic:O8 K (.ref C) "__init__" = some (some (.ref fi))) (tc:W.typeIn K (.ref fi)=some (.type "function")) (pc:W.keepIn K (.ref C)=true)
  (sc:O8 K (.ref C) "__setattr__" = some (some (.builtin "object.__setattr__"))) (dc:W.clsIn K C=some cd) (uc:mU cd.mro=true) (hc:cd.hasDict=true) (kc:W.takerIn K C "word" = some none) (gc:O8 K (.ref C) "__getattribute__" = some (some (.builtin "BaseException.__getattribute__")))
  (gh:O8 K (.ref C) "__getattr__" = some none) (nc:O8 K (.ref C) "word" = some none) (li:K.lookup fi=some ⟨oci,odi,.func (Su "__init__" q (bU st) (bw st) (au st) .none kVi dci pmi ani cdi cti),sli⟩) (ci:W.codeIn K cdi q=true) (ki:W.keepIn K (.ref fi)=true):dz K x q C fi st bm
inductive eY (K:Ka) (x:KH) (st:Stmt) (f c T:Addr):Prop where
 | mk {od an:Option Addr} {sl:Array (Option Value)} {oc kV dc pm ct:Value} (a:PySem.W.nsIn K Kp x=some (some (.ref f))) (l:K.lookup f=some ⟨oc,od,.func (N5 x x (bU st) (bw st) (au st) .none kV dc pm an (.ref c) ct),sl⟩) (cc:Pg K (.ref c) x=true) (k:Ml K (.ref f)=true) (hd:PySem.W.codeHdIn K c T=true):eY K x st f c T
section
variable {K:Ky} {mg:KH->Option Value} {h:Lh} {x q x' q':KH} {C fi C' fi' f c T:Addr} {st st':Stmt} {bm bm':List Value}
theorem dz.name (o:dz K x q C fi st bm) (X:K.In h) (G:h.Ns Kp mg):mg x=some (.ref C):=by
 obtain⟨ac⟩:=o
 exact Qv X G ac
theorem dz.Io (o:dz K x q C fi st bm):Bf K C fi "word":=by
 obtain⟨ac,oc,ve,ic,tc,pc,sc,dc,uc,hc,kc⟩:=o
 exact⟨⟨_,_,_,_,_,_,_,_,_,_,_,_,_,_,_,_,oc,ve⟩,ic,tc,pc,sc,⟨_,dc,uc,hc⟩,kc⟩
theorem dz.fn (o:dz K x q C fi st bm):∃ fd,Fun K "__init__" q st fi fd:=by
 obtain⟨_,_,_,_,_,_,_,_,_,_,_,_,_,_,li,ci,ki⟩:=o
 exact⟨_,lV li ci ki⟩
theorem dz.kp (o:dz K x q C fi st bm):W.keepIn K (.ref fi)=true:=by
 obtain⟨_,_,_,_,_,_,_,_,_,_,_,_,_,_,_,_,ki⟩:=o
 exact ki
theorem dz.xrd (o:dz K x q C fi st bm) (b:dz K x' q' C' fi' st' bm') (mr:(Ku C::bm).contains (.ref C')=true):XRd K C C' "word":=by
 obtain⟨_,oc,_,_,_,_,_,dc,uc,hc,_,gc,gh,nc⟩:=o
 obtain⟨_,oc',ve'⟩:=b
 exact⟨⟨_,_,_,_,_,_,_,_,_,_,_,_,_,_,_,_,_,oc,mr⟩,⟨_,_,_,_,_,_,_,_,_,_,_,_,_,_,_,_,_,oc',ve'.b⟩,gc,gh,⟨_,dc,uc⟩,by unfold OJ; rw[dc]; exact hc,nc⟩
theorem HasDef.fn (o:HasDef K x st f):∃ fd,Fun K x x st f fd:=by
 obtain⟨a,l,c,k⟩:=o
 exact⟨_,lV l c k⟩
theorem eY.name (o:eY K x st f c T) (X:K.In h) (G:h.Ns Kp mg):mg x=some (.ref f):=by
 obtain⟨a⟩:=o
 exact Qv X G a
theorem eY.hd (o:eY K x st f c T):W.codeHdIn K c T=true:=by
 obtain⟨_,_,_,_,hd⟩:=o
 exact hd
theorem eY.law {y:KH} (o:eY K x st f c T) (hb:∀ (kV dc pm:Value) (an:Option Addr) (cd ct:Value) (s:J4) (v:Value),Rz s (Su x x (bU st) (bw st) (au st) .none kV dc pm an cd ct) ⟨[v],[]⟩ [(y,v)]):∃ fd,Ip K x x st f fd c/\∀ (s:J4) (v:Value),Rz s fd ⟨[v],[]⟩ [(y,v)]:=by
 obtain⟨a,l,cc,k,hd⟩:=o
 exact⟨_,⟨⟨_,_,_,_,_,_,_,_,rfl,l,cc⟩⟩,hb _ _ _ _ _ _⟩
end
end L2
namespace L2
open PySem PySem.Spec PyProof.Rows
section
variable {X:Cx}
end
end L2
namespace My
open PySem L2
variable {P:Kq} {w:K1} {K:Ky} {mg:KH->Option Value} {base:Lh} {f:Addr} {fd:LK}
def top (i:Nat):Stmt:=PySem.Challenge.pw_loveboon_k45_full_and_room_again.main.body.getD i (.Pass ⟨0,0,0,0⟩)
theorem aB {H:Hp} {p:Addr} (h:H p=none) (o:HO):aR H (upd H p o):=fun b u q=>by rw[aC (bO q h)]; exact q
theorem cg {H H':Hp} {p:Addr} (s:aR H H') (h:H p=none) (o:HO):aR H (upd H' p o):=fun b u q=>by rw[aC (bO q h)]; exact s b u q
theorem mW {K:Ky} {H H':Hp} {a:Addr} {xs:List V} (e:aR H H') (h:SqT K H a xs):SqT K H' a xs:=by
 rcases h with (h | ⟨o,h⟩) | h
 ·exact .inl (.inl (e _ _ h))
 ·exact .inl (.inr ⟨o,e _ _ h⟩)
 ·exact .inr h
theorem Dg {H:Hp} {p:Addr} {o o':HO}:upd (upd H p o) p o'=upd H p o':=by
 funext b
 unfold upd
 by_cases e:b=p
 ·rw[if_pos e,if_pos e]
 ·rw[if_neg e,if_neg e,if_neg e]
theorem small {n:Nat} (h:n<=1000):n<=sizeLine:=Nu (bu h)
theorem int_at {ns:List Int} {i:Nat} {x:V} (h:(ns.map V.int)[i]? = some x):∃ n,ns[i]? = some n/\x = .int n:=by
 rw[KQ] at h
 cases e:ns[i]? with
 | none=>rw[e] at h; cases h
 | some n=>rw[e] at h; exact⟨n,rfl,(La h).symm⟩
theorem yD {ns:List Int} {i:Nat} (h:i < ns.length):atI (ns.map V.int) (i:Int)=some (.int ns[i]):=jq (by rw[KQ,Kd h]; rfl)
theorem gT {i:Nat} {x:V} {σ:St} {H:Hp} {A B:St->Hp->Prop} (h:A (σ.set i (some x)) H):iz i x σ H (fun σ3 H3=>FJ σ3 H3 (fun b H4=>if b=true then A σ3 H4 else B σ3 H4)):=by
 show if true=true then A (σ.set i (some x)) H else B (σ.set i (some x)) H
 rw[if_pos rfl]
 exact h
theorem aX {H H1:Hp} {p:Addr} {o:HO} (e:upd H p o=H1) (h:H p=none):aR H H1/\H1 p=some o:=by
 subst e
 exact⟨aB h _,ao⟩
theorem aP {xs:List V} {k:Nat} {v:V} (h:xs[k]? = some v):atI xs (k:Int)=some v:=jq h
theorem o5 {ns:List Int} {k:Nat} {n:Int} (h:ns[k]? = some n):(ns.map V.int)[k]? = some (.int n):=by rw[KQ,h]; rfl
def vN (i:Nat):V:=.int (i:Int)
theorem lJ (c:List Nat):c.map vN=(c.map fun i:Nat=>(i:Int)).map V.int:=by rw[List.map_map]; rfl
theorem Bw {c:List Nat} {j:Nat} {x:V} (h:(c.map vN)[j]? = some x):∃ i,c[j]? = some i/\x=vN i:=by
 rw[KQ] at h
 cases e:c[j]? with
 | none=>rw[e] at h; cases h
 | some i=>rw[e] at h; exact⟨i,rfl,(La h).symm⟩
theorem cN {H:Hp} {D:Addr} {zs zs':List V} (h:H D=some (.lst zs)):∀ a xs,H a=some (HO.tup xs)->upd H D (.lst zs') a=some (HO.tup xs):=fun a xs q=>by
 rw[aC (fun z=>by rw[z,h] at q; cases q)]
 exact q
abbrev gQ:Stmt:=top 50
theorem bF:aG ["_law_cell_here","_law_parts","_law_one","_law_two","_law_six","_law_found","_law_part"] ["_law_cell_here","_law_parts"] (au gQ):=⟨rfl,rfl,rfl,by decide+kernel,rfl,by decide+kernel,by decide+kernel⟩
def nT (c:Int):Int:=(c * 48271+11) % 2147483647
def BW (c:Int):Int:=(nT c * nT c+40692 * nT c+c) % 2147483399
def Je (c:Int):Int:=(BW c * 16807+nT c) % 1000000007
def Ae (c:Int):Int:=if decide ((if c < 0 then -c else c) < 10 ^ (18:Int).toNat)=true then BW c+2147483399 * (Je c+1000000007 * nT c) else (if c < 0 then -c else c) - 10 ^ (18:Int).toNat
def xV:Int->List Int->List Int
 | _,[]=>[]
 | c,p::ps=>c % p::xV (c / p) ps
def divC:Int->List Int->Int
 | c,[]=>c
 | c,p::ps=>divC (c / p) ps
theorem lD (p:Int):∀ (ps:List Int) (c:Int),xV c (ps++[p])=xV c ps++[divC c ps % p]
 | [],_=>rfl
 | q::ps,c=>by
  show c % q::xV (c / q) (ps++[p])=c % q::(xV (c / q) ps++[divC (c / q) ps % p])
  rw[lD p ps]
theorem lY (p:Int):∀ (ps:List Int) (c:Int),divC c (ps++[p])=divC c ps / p
 | [],_=>rfl
 | q::ps,c=>lY p ps (c / q)
theorem dj:∀ (ps:List Int) (c:Int),(xV c ps).length=ps.length
 | [],_=>rfl
 | _::ps,_=>congrArg Nat.succ (dj ps _)
theorem gm:∀ {ps:List Int} {c:Int} {i:Nat} {p:Int},(∀ q∈ps,0 < q)->ps[i]? = some p->∃ v,(xV c ps)[i]? = some v/\0<=v/\v < p
 | [],_,_,_,_,h=>by simp at h
 | q::ps,c,0,p,hp,h=>by
  cases (show some q=some p from h)
  exact⟨c % q,rfl,Qa _ (by have:=hp q KD; lia),Ov _ (hp q KD)⟩
 | q::ps,c,i+1,p,hp,h=>by
  obtain⟨v,e,r⟩:=gm (ps:=ps) (c:=c / q) (i:=i) (fun z hz=>hp z (KC _ hz)) (by simpa using h)
  exact⟨v,by simpa [xV] using e,r⟩
def yG (c:Int) (ps:List Int):List Int:=xV (Ae c) ps
theorem Ga (c:Int):0<=nT c/\nT c < 2147483647:=⟨Qa _ (by decide),Ov _ (by decide)⟩
theorem Eg (c:Int):0<=BW c/\BW c < 2147483399:=⟨Qa _ (by decide),Ov _ (by decide)⟩
inductive vz (K:Ky) (vs:List V) (H:Hp) (Q:VK):Prop where
 | mk (c:Int) (p:Addr) (ps:List Int) (z0:vs=[.int c,.ref p]) (z1:SqL K H p (ps.map V.int)) (z2:(∀ q∈ps,0 < q/\q < 1073741824)) (z3:ps.length<=1000) (z4:∀ r,H r=none->Q (.ref r) (upd H r (.lst ((yG c ps).map V.int)))):vz K vs H Q
def tV (K:Ky):Sp:=fun vs H Q _=>vz K vs H Q
theorem qW (F:Fun K "_law_draws" "_law_draws" gQ f fd) (B:Bt mg) :
  bL P w K mg base CX0 1 f fd ["_law_cell_here","_law_parts"] (tV K):=by
 refine F.ok bF (fun vs H Q E h=>?_) (fun cdv A outer s H vs Q E hr h=>?_)
 ·obtain⟨c,p,ps,rfl,_⟩:=h
  rfl
 ·obtain⟨c,p,ps,rfl,hS,hp,hl,q⟩:=h
  refine⟨_,(ak (bc (aK tO (aA nZ rfl B.abs_ xx (aa (pv 0) aj)) (bD yO az az) (aN _)) (ak (aY (i:=2) bF.nd rfl (K5 rfl) (bD jO (bD fj (bD kI (pv 0) az) az) az))
 (ak (aY (i:=3) bF.nd rfl (K5 rfl) (bD jO (bD fj (bD fj (bD kI (pv 2) (pv 2)) (bD kI az (pv 2))) (pv 0)) az))
 (ak (aY (i:=4) bF.nd rfl (K5 rfl) (bD jO (bD fj (bD kI (pv 3) az) (pv 2)) az))
 (aq (aY (i:=0) bF.nd rfl (K5 rfl) (bD fj (pv 3) (bD kI az (bD fj (pv 4) (bD kI az (pv 2)))))))))) (aq (aY (i:=0) bF.nd rfl (K5 rfl) (bD kJ (aA nZ rfl B.abs_ xx (aa (pv 0) aj)) (bD yO az az)))))
 (ak (aY (i:=5) bF.nd rfl (K5 rfl) (dI aj))
 (ak (gJ M8 rfl (jC (pv 1)) (aQ (i:=6) bF.nd rfl (K5 rfl)) (ak (bJ (vC Nk PL PK eE (pv 5) (aa (bD jO (pv 0) (pv 6)) aj)))
 (aq (aY (i:=0) bF.nd rfl (K5 rfl) (bD zf (pv 0) (pv 6))))))
 (aq (aH (pv 5)))))),?_⟩
  have b1:=Ga c
  have b2:=Eg c
  refine⟨_,rfl,_,rfl,_,_,rfl,rfl,⟨by decide,by decide,by decide⟩,_,_,rfl,rfl,_,rfl,?_⟩
  refine wR (fun h=>?_) (fun h=>?_)
  ·refine⟨_,rfl,_,_,rfl,rfl,.inr ⟨by decide,by decide⟩,_,_,rfl,rfl,_,_,rfl,rfl,(by show (0:Int) < 2147483647; decide),?_⟩
   refine⟨_,rfl,_,rfl,_,_,rfl,rfl,.inl (show -(2 ^ 64) < nT c/\nT c < 2 ^ 64 from ⟨by lia,by lia⟩),_,rfl,_,_,rfl,rfl,.inl ⟨by decide,by decide⟩,_,_,rfl,rfl,_,rfl,_,_,rfl,rfl,_,_,rfl,rfl,(by show (0:Int) < 2147483399; decide),?_⟩
   refine⟨_,rfl,_,_,rfl,rfl,.inr ⟨by decide,by decide⟩,_,rfl,_,_,rfl,rfl,_,_,rfl,rfl,(by show (0:Int) < 1000000007; decide),?_⟩
   refine⟨_,rfl,_,rfl,_,rfl,_,_,rfl,rfl,.inl ⟨by decide,by decide⟩,_,_,rfl,rfl,_,_,rfl,rfl,.inl ⟨by decide,by decide⟩,_,_,rfl,rfl,?_⟩
   refine⟨small (Lb _),fun r hr0=>?_⟩
   refine⟨_,rfl,p,rfl,⟨_,(aB hr0 _).seq hS⟩,j0 (K:=K) (a:=p) (xs:=ps.map V.int) (fun i σ H2=>∃ (z:Int) (o t u v:Option V),z=divC (Ae c) (ps.take i)/\σ=[some (.int z),some (.ref p),o,t,u,some (.ref r),v] ∧
    H2=upd H r (.lst ((xV (Ae c) (ps.take i)).map V.int))) ⟨_,_,_,_,_,(if_pos h).symm,rfl,rfl⟩ ?_ ?_ ?_⟩
   ·rintro i σ H2 hi ⟨z,o,t,u,v,_,_,e⟩
    subst e
    exact (aB hr0 _).seq hS
   ·rintro i x σ H2 hx ⟨z,o,t,u,v,ez,rfl,rfl⟩
    obtain⟨d,hd,rfl⟩:=int_at hx
    obtain⟨h1,h2⟩:=hp d (K8 hd)
    have et:ps.take (i+1)=ps.take i++[d]:=by rw[LC,hd]; rfl
    refine⟨_,rfl,.inl ⟨rfl,_,SqL.of ao⟩,_,rfl,_,rfl,_,_,rfl,rfl,h1,r,_,_,rfl,rfl,ao,?_,_,rfl,_,rfl,_,_,rfl,rfl,⟨h1,h2⟩,_,_,_,_,_,?_,rfl,?_⟩
    ·rw[J8,dj,Lk]
     exact bu (by lia)
    ·rw[et,lY,ez]
    ·rw[Dg,et,lD,K3,ez]
     rfl
   ·rintro σ H2 ⟨z,o,t,u,v,_,rfl,rfl⟩
    refine⟨_,rfl,?_⟩
    have q':=q r hr0
    rw[J8,Ld]
    exact q'
  ·refine⟨_,rfl,_,rfl,_,_,rfl,rfl,⟨by decide,by decide,by decide⟩,_,_,rfl,rfl,?_⟩
   refine⟨small (Lb _),fun r hr0=>?_⟩
   refine⟨_,rfl,p,rfl,⟨_,(aB hr0 _).seq hS⟩,j0 (K:=K) (a:=p) (xs:=ps.map V.int) (fun i σ H2=>∃ (z:Int) (o t u v:Option V),z=divC (Ae c) (ps.take i)/\σ=[some (.int z),some (.ref p),o,t,u,some (.ref r),v] ∧
    H2=upd H r (.lst ((xV (Ae c) (ps.take i)).map V.int))) ⟨_,_,_,_,_,(if_neg h).symm,rfl,rfl⟩ ?_ ?_ ?_⟩
   ·rintro i σ H2 hi ⟨z,o,t,u,v,_,_,e⟩
    subst e
    exact (aB hr0 _).seq hS
   ·rintro i x σ H2 hx ⟨z,o,t,u,v,ez,rfl,rfl⟩
    obtain⟨d,hd,rfl⟩:=int_at hx
    obtain⟨h1,h2⟩:=hp d (K8 hd)
    have et:ps.take (i+1)=ps.take i++[d]:=by rw[LC,hd]; rfl
    refine⟨_,rfl,.inl ⟨rfl,_,SqL.of ao⟩,_,rfl,_,rfl,_,_,rfl,rfl,h1,r,_,_,rfl,rfl,ao,?_,_,rfl,_,rfl,_,_,rfl,rfl,⟨h1,h2⟩,_,_,_,_,_,?_,rfl,?_⟩
    ·rw[J8,dj,Lk]
     exact bu (by lia)
    ·rw[et,lY,ez]
    ·rw[Dg,et,lD,K3,ez]
     rfl
   ·rintro σ H2 ⟨z,o,t,u,v,_,rfl,rfl⟩
    refine⟨_,rfl,?_⟩
    have q':=q r hr0
    rw[J8,Ld]
    exact q'
abbrev jo:Stmt:=top 49
theorem sZ:aG ["_law_script","_law_k"] ["_law_script","_law_k"] (au jo):=⟨rfl,rfl,rfl,by decide+kernel,rfl,by decide+kernel,by decide+kernel⟩
inductive xR (K:Ky) (vs:List V) (H:Hp) (Q:VK):Prop where
 | mk (a:Addr) (ns:List Int) (k:Nat) (z0:vs=[.ref a,.int (k:Int)]) (z1:SqL K H a (ns.map V.int)) (z2:Q (.int (ns.getD k 0)) H):xR K vs H Q
def Dc (K:Ky):Sp:=fun vs H Q _=>xR K vs H Q
theorem rN (F:Fun K "_law_cell" "_law_cell" jo f fd) (B:Bt mg) :
  bL P w K mg base CX0 1 f fd ["_law_script","_law_k"] (Dc K):=by
 refine F.ok sZ (fun vs H Q E h=>?_) (fun cdv A outer s H vs Q E hr h=>?_)
 ·obtain⟨a,ns,k,rfl,_⟩:=h
  rfl
 ·obtain⟨a,ns,k,rfl,hS,q⟩:=h
  refine⟨_,(ak (bc (aK tO (pv 1) (aA (r:=ik K) aO rfl B.len_ bI (aa (pv 0) aj)) (aN _)) (aq (aH (bK (r:=An K) gU (pv 0) (pv 1) (fun _ _=>rfl)))) aJ)
 (aq (aH az))),?_⟩
  refine⟨_,rfl,_,rfl,a,_,rfl,.inl hS,_,_,rfl,rfl,_,rfl,?_⟩
  have el:(((ns.map V.int).length:Nat):Int)=(ns.length:Int):=by rw[J8]
  rw[el]
  refine wR (fun c=>?_) (fun c=>?_)
  ·have c':(k:Int) < (ns.length:Int):=of_decide_eq_true c
   have hk:k < ns.length:=by lia
   refine⟨_,rfl,_,rfl,a,_,_,_,rfl,rfl,hS,yD hk,?_⟩
   rw[K6,Kd hk] at q
   exact q
  ·have c':¬ (k:Int) < (ns.length:Int):=fun z=>c (decide_eq_true z)
   have hk:ns.length<=k:=by lia
   rw[K6,NK hk] at q
   exact q
abbrev jg:Stmt:=top 52
theorem tK:aG ["_law_found","_law_due"] ["_law_found","_law_due"] (au jg):=⟨rfl,rfl,rfl,by decide+kernel,rfl,by decide+kernel,by decide+kernel⟩
inductive xm (n:Nat) (vs:List V) (H:Hp) (Q:VK):Prop where
 | mk (x y:V) (d:Dm) (z0:vs=[x,y]) (z1:Rep H x d) (z2:Rep H y d) (z3:d.dep < n) (z4:∀ H',aR H H'->Q (.bl true) H'):xm n vs H Q
def gF (n:Nat):Sp:=fun vs H Q _=>xm n vs H Q
theorem Jl {x:V}:decide (x=x)=true:=decide_eq_true rfl
theorem uz (n:Nat):(Kf n true).all (fun b=>b)=true:=by
 induction n with
 | zero=>rfl
 | succ n ih=>rw[M7,Qw,ih]; rfl
theorem uy (n:Nat):(Kf n true).map V.bl=Kf n (V.bl true):=List.map_replicate
theorem di {n:Nat} (F:Fun K "_law_same" "_law_same" jg f fd) (B:Bt mg)
  (D_law_same:Df P w K mg base "_law_same" n ["_law_found","_law_due"] (gF n)):bL P w K mg base CX0 (n+1) f fd ["_law_found","_law_due"] (gF (n+1)):=by
 refine F.ok tK (fun vs H Q E h=>?_) (fun cdv A outer s H vs Q E hr h=>?_)
 ·obtain⟨x,y,d,rfl,_⟩:=h
  rfl
 ·obtain⟨x,y,d,rfl,rx,ry,hd,q⟩:=h
  refine⟨_,(ak (bc (Hd (Dn (pv 1))) (aq (aH (Gw (Dn (pv 0))))) aJ)
 (ak (bc (bR (aA (r:=ph K) bH rfl B.isinstance_ aM (aa (pv 1) (aa (fX B.str_ Cz) aj)))) (aq (aH (dq (aA (r:=ph K) bH rfl B.isinstance_ aM (aa (pv 0) (aa (fX B.str_ Cz) aj))) (iR (cA cH (pv 0) (pv 1) (aN _)))))) aJ)
 (ak (bc (bR (aA (r:=ph K) bH rfl B.isinstance_ aM (aa (pv 1) (aa (fX B.int_ yC) aj)))) (aq (aH (dq (aA (r:=ph K) bH rfl B.isinstance_ aM (aa (pv 0) (aa (fX B.int_ yC) aj))) (dq (cA cH (aA (r:=ph K) bH rfl B.isinstance_ aM (aa (pv 0) (aa (fX B.bool_ sS) aj))) (aA (r:=ph K) bH rfl B.isinstance_ aM (aa (pv 1) (aa (fX B.bool_ sS) aj))) (aN _)) (iR (cA cH (pv 0) (pv 1) (aN _))))))) aJ)
 (ak (bc (PW.pt (jV (aK su (aA (r:=ph K) bH rfl B.isinstance_ aM (aa (pv 1) (aa (fX B.list_ oh) aj))) (aA (r:=ph K) bH rfl B.isinstance_ aM (aa (pv 0) (aa (fX B.list_ oh) aj))) (aN _)) (fM (aK su (aA (r:=ph K) bH rfl B.isinstance_ aM (aa (pv 1) (aa (fX B.tuple_ cP) aj))) (aA (r:=ph K) bH rfl B.isinstance_ aM (aa (pv 0) (aa (fX B.tuple_ cP) aj))) (aN _))))) (aq (aH dU)) aJ)
 (aq (aH (dq (cA cH (aA (r:=ik K) aO rfl B.len_ bI (aa (pv 0) aj)) (aA (r:=ik K) aO rfl B.len_ bI (aa (pv 1) aj)) (aN _)) (iR (aA (r:=Ex K) (rF rfl) rfl B.all_ Dl (aa (eQ (L:=["_law_k"]) (F:=["_law_found","_law_due"]) (cap:=[0,1]) rfl (cz rfl rfl (by kernel_rfl)) (jc rfl B.range_ (aa (aA (r:=ik K) aO rfl B.len_ bI (aa (pv 1) aj)) aj)) (fun _ _ _ _ _=>(aQ (i:=0) (bV (by decide+kernel)) rfl (K5 rfl))) (fun _ _ _ _ _=>kW) (fun _ _ _ _ _=>(bh D_law_same hr (aa (bK (r:=rIx K) Dk (pv 1) (pv 0) (fun _ _=>rfl)) (aa (bK (r:=rIx K) Dk (pv 2) (pv 0) (fun _ _=>rfl)) aj))))) aj)))))))))),?_⟩
  cases rx with
  | non =>
   cases ry
   refine⟨_,rfl,_,rfl,dF ?_⟩
   exact⟨_,rfl,q H (aR.refl H)⟩
  | bl b =>
   cases ry
   refine⟨_,rfl,_,rfl,cj ?_⟩
   refine⟨_,rfl,_,_,_,_,rfl,.bl b,sW _,_,rfl,cj ?_⟩
   refine⟨_,rfl,_,_,_,_,rfl,.bl b,mD _,_,rfl,dF ?_⟩
   refine⟨_,rfl,_,_,_,_,rfl,.bl b,mD _,_,rfl,dF ?_⟩
   refine⟨_,rfl,_,_,_,_,rfl,.bl b,cR _ _,_,rfl,_,_,_,_,rfl,.bl b,cR _ _,rfl,_,rfl,dF ?_⟩
   refine⟨_,rfl,_,rfl,rfl,?_⟩
   have q':=q H (aR.refl H)
   rw[← Jl (x:=V.bl b)] at q'
   exact q'
  | int i =>
   cases ry
   refine⟨_,rfl,_,rfl,cj ?_⟩
   refine⟨_,rfl,_,_,_,_,rfl,.int i,wB _,_,rfl,cj ?_⟩
   refine⟨_,rfl,_,_,_,_,rfl,.int i,cR _ _,_,rfl,dF ?_⟩
   refine⟨_,rfl,_,_,_,_,rfl,.int i,cR _ _,_,rfl,dF ?_⟩
   refine⟨_,rfl,_,_,_,_,rfl,.int i,gW _,_,rfl,_,_,_,_,rfl,.int i,gW _,rfl,_,rfl,dF ?_⟩
   refine⟨_,rfl,_,rfl,rfl,?_⟩
   have q':=q H (aR.refl H)
   rw[← Jl (x:=V.int i)] at q'
   exact q'
  | str z =>
   cases ry
   refine⟨_,rfl,_,rfl,cj ?_⟩
   refine⟨_,rfl,_,_,_,_,rfl,.str z,cR _ _,_,rfl,dF ?_⟩
   refine⟨_,rfl,_,_,_,_,rfl,.str z,cR _ _,_,rfl,dF ?_⟩
   refine⟨_,rfl,_,rfl,rfl,?_⟩
   have q':=q H (aR.refl H)
   rw[← Jl (x:=V.str z)] at q'
   exact q'
  | @tup a xs ds ha la ra =>
   cases ry with
   | @tup b ys _ hb lb rb =>
    have ex:=ra.length
    have ey:=rb.length
    have hdl:jF ds < n:=by
     have hd':jF ds+1 < n+1:=by rw[Dm.dep] at hd; exact hd
     lia
    refine⟨_,rfl,_,rfl,cj ?_⟩
    refine⟨_,rfl,_,_,_,_,rfl,.tup hb,pq _,_,rfl,cj ?_⟩
    refine⟨_,rfl,_,_,_,_,rfl,.tup hb,qw _,_,rfl,cj ?_⟩
    refine⟨_,rfl,_,_,_,_,rfl,.tup hb,iI _,_,rfl,_,_,_,_,rfl,.tup ha,iI _,rfl,_,rfl,cj ?_⟩
    refine⟨_,rfl,_,_,_,_,rfl,.tup hb,cR _ _,_,rfl,_,_,_,_,rfl,.tup ha,cR _ _,rfl,_,rfl,cj ?_⟩
    refine⟨_,rfl,a,_,rfl,.inr (SqT.of ha),_,rfl,b,_,rfl,.inr (SqT.of hb),rfl,_,rfl,?_⟩
    have ec:decide (V.int (xs.length:Int)=V.int (ys.length:Int))=true:=decide_eq_true (by rw[ex,ey])
    rw[ec]
    refine dF ?_
    refine⟨_,rfl,b,_,rfl,.inr (SqT.of hb),_,rfl,by lia,by lia,fun D hD=>gA (lo:=0) (n:=ys.length) (fun i zs σ' H2=>(∃ v,σ'=[v,some (.ref a),some (.ref b)])/\zs=Kf i (V.bl true)/\aR H H2/\H2 D=some (.lst zs))
     ⟨⟨_,rfl⟩,rfl,aB hD _,ao⟩ (fun i zs σ' H2 _ h=>h.2.2.2) ?_ ?_⟩
    ·rintro i zs σ' H2 hi ⟨⟨v,rfl⟩,rfl,sm,hDl⟩
     obtain⟨v1,d1,e1,e2,r1⟩:=ra.get (i:=i) (by lia)
     obtain⟨v2,d2,e3,e4,r2⟩:=rb.get (i:=i) hi
     rw[e2] at e4
     cases e4
     have at1:atI xs (0+(i:Int))=some v1:=by rw[Ry]; exact jq e1
     have at2:atI ys (0+(i:Int))=some v2:=by rw[Ry]; exact jq e3
     refine gT ?_
     refine⟨_,rfl,_,rfl,.inr (.inl ⟨a,xs,_,v1,rfl,rfl,SqT.of (sm _ _ ha),at1,_,rfl,_,rfl,.inr (.inl ⟨b,ys,_,v2,rfl,rfl,SqT.of (sm _ _ hb),at2,v1,v2,d1,rfl,r1.mono sm,r2.mono sm,?_,fun H3 s3=>⟨s3 _ _ hDl,?_,⟨_,rfl⟩,?_,cg (sm.trans s3) hD _,ao⟩⟩)⟩)⟩
     ·exact Qf (j4 e2) hdl
     ·rw[K4]
      exact Kg (show i < 100000 by lia) (by decide)
     ·rw[R4]
    ·rintro zs σ' H2 ⟨_,rfl,sm,hDl⟩
     refine⟨D,Kf ys.length true,rfl,SqL.of (by rw[hDl,uy]),?_⟩
     rw[uz]
     exact q _ sm
  | @lst a xs ds ha la ra =>
   cases ry with
   | @lst b ys _ hb lb rb =>
    have ex:=ra.length
    have ey:=rb.length
    have hdl:jF ds < n:=by
     have hd':jF ds+1 < n+1:=by rw[Dm.dep] at hd; exact hd
     lia
    refine⟨_,rfl,_,rfl,cj ?_⟩
    refine⟨_,rfl,_,_,_,_,rfl,.lst hb,tL _,_,rfl,cj ?_⟩
    refine⟨_,rfl,_,_,_,_,rfl,.lst hb,tX _,_,rfl,cj ?_⟩
    refine⟨_,rfl,_,_,_,_,rfl,.lst hb,cR _ _,_,rfl,_,_,_,_,rfl,.lst ha,cR _ _,rfl,_,rfl,cj ?_⟩
    refine⟨_,rfl,_,_,_,_,rfl,.lst hb,iW _,_,rfl,_,_,_,_,rfl,.lst ha,iW _,rfl,_,rfl,cj ?_⟩
    refine⟨_,rfl,a,_,rfl,.inl (SqL.of ha),_,rfl,b,_,rfl,.inl (SqL.of hb),rfl,_,rfl,?_⟩
    have ec:decide (V.int (xs.length:Int)=V.int (ys.length:Int))=true:=decide_eq_true (by rw[ex,ey])
    rw[ec]
    refine dF ?_
    refine⟨_,rfl,b,_,rfl,.inl (SqL.of hb),_,rfl,by lia,by lia,fun D hD=>gA (lo:=0) (n:=ys.length) (fun i zs σ' H2=>(∃ v,σ'=[v,some (.ref a),some (.ref b)])/\zs=Kf i (V.bl true)/\aR H H2/\H2 D=some (.lst zs))
     ⟨⟨_,rfl⟩,rfl,aB hD _,ao⟩ (fun i zs σ' H2 _ h=>h.2.2.2) ?_ ?_⟩
    ·rintro i zs σ' H2 hi ⟨⟨v,rfl⟩,rfl,sm,hDl⟩
     obtain⟨v1,d1,e1,e2,r1⟩:=ra.get (i:=i) (by lia)
     obtain⟨v2,d2,e3,e4,r2⟩:=rb.get (i:=i) hi
     rw[e2] at e4
     cases e4
     have at1:atI xs (0+(i:Int))=some v1:=by rw[Ry]; exact jq e1
     have at2:atI ys (0+(i:Int))=some v2:=by rw[Ry]; exact jq e3
     refine gT ?_
     refine⟨_,rfl,_,rfl,.inl ( ⟨a,xs,_,v1,rfl,rfl,SqL.of (sm _ _ ha),at1,_,rfl,_,rfl,.inl ( ⟨b,ys,_,v2,rfl,rfl,SqL.of (sm _ _ hb),at2,v1,v2,d1,rfl,r1.mono sm,r2.mono sm,?_,fun H3 s3=>⟨s3 _ _ hDl,?_,⟨_,rfl⟩,?_,cg (sm.trans s3) hD _,ao⟩⟩)⟩)⟩
     ·exact Qf (j4 e2) hdl
     ·rw[K4]
      exact Kg (show i < 100000 by lia) (by decide)
     ·rw[R4]
    ·rintro zs σ' H2 ⟨_,rfl,sm,hDl⟩
     refine⟨D,Kf ys.length true,rfl,SqL.of (by rw[hDl,uy]),?_⟩
     rw[uz]
     exact q _ sm
theorem same_none:bL P w K mg base CX0 0 f fd ["_law_found","_law_due"] (gF 0):=by
 have no:∀ vs H Q E,¬ gF 0 vs H Q E:=fun vs H Q E h=>by
  obtain⟨x,y,d,_,_,_,h1,_⟩:=h
  lia
 exact⟨fun vs H Q E h=>absurd h (no vs H Q E),fun A outer s H args us vs Q E _ _ _ _ h=>absurd h (no vs H Q E)⟩
inductive Tm where
 | free | never | gives (i:Nat) (k:Int) | sum (c:List Nat) (k:Int) | crowd (c:List Nat) (k m:Int) | all (ts:List Tm) | any (ts:List Tm)
mutual
def Tm.dep:Tm->Nat
 | .all ts=>tdL ts+1
 | .any ts=>tdL ts+1
 | _=>1
def tdL:List Tm->Nat
 | []=>0
 | t::r=>max t.dep (tdL r)
end
mutual
def hF (g:List Int):Tm->Bool
 | .free=>true
 | .never=>false
 | .gives i k=>decide (k<=g.getD i 0)
 | .sum c k=>decide (k<=(c.map fun i=>g.getD i 0).sum)
 | .crowd c k m=>decide (m<=((c.filter fun i=>decide (k<=g.getD i 0)).length:Int))
 | .all ts=>uW g ts
 | .any ts=>ue g ts
def uW (g:List Int):List Tm->Bool
 | []=>true
 | t::r=>hF g t && uW g r
def ue (g:List Int):List Tm->Bool
 | []=>false
 | t::r=>hF g t || ue g r
end
mutual
inductive iT (n:Nat) (H:Hp):V->Tm->Prop where
 | free {a:Addr}:H a=some (.tup [.str "free"])->iT n H (.ref a) .free
 | never {a:Addr}:H a=some (.tup [.str "never"])->iT n H (.ref a) .never
 | gives {a:Addr} {i:Nat} {k:Int}:H a=some (.tup [.str "gives",vN i,.int k])->i < n->1<=k->k<=9->iT n H (.ref a) (.gives i k)
 | sum {a b:Addr} {c:List Nat} {k:Int}:H a=some (.tup [.str "sum",.ref b,.int k])->H b=some (.tup (c.map vN))->(∀ i∈c,i < n)->c.Pairwise (· < ·)->c.length<=20->2<=c.length->1<=k->k<=99->iT n H (.ref a) (.sum c k)
 | crowd {a b:Addr} {c:List Nat} {k m:Int}:H a=some (.tup [.str "crowd",.ref b,.int k,.int m])->H b=some (.tup (c.map vN))->(∀ i∈c,i < n)->c.Pairwise (· < ·)->c.length<=20->1<=c.length->1<=k->k<=9->1<=m->m<=12->iT n H (.ref a) (.crowd c k m)
 | all {a b:Addr} {vs:List V} {ts:List Tm}:H a=some (.tup [.str "all",.ref b])->H b=some (.tup vs)->2<=vs.length->vs.length<=6->cU n H vs ts->iT n H (.ref a) (.all ts)
 | any {a b:Addr} {vs:List V} {ts:List Tm}:H a=some (.tup [.str "any",.ref b])->H b=some (.tup vs)->2<=vs.length->vs.length<=6->cU n H vs ts->iT n H (.ref a) (.any ts)
inductive cU (n:Nat) (H:Hp):List V->List Tm->Prop where
 | nil:cU n H [] []
 | cons {v:V} {t:Tm} {vs:List V} {ts:List Tm}:iT n H v t->cU n H vs ts->cU n H (v::vs) (t::ts)
end
mutual
theorem iT.aZ {n:Nat} {H H':Hp} (e:∀ a xs,H a=some (HO.tup xs)->H' a=some (HO.tup xs)):∀ {v:V} {t:Tm},iT n H v t->iT n H' v t
 | _,_,.free h=>.free (e _ _ h)
 | _,_,.never h=>.never (e _ _ h)
 | _,_,.gives h a b c=>.gives (e _ _ h) a b c
 | _,_,.sum h h2 a b c d f g=>.sum (e _ _ h) (e _ _ h2) a b c d f g
 | _,_,.crowd h h2 a b c d f g i j=>.crowd (e _ _ h) (e _ _ h2) a b c d f g i j
 | _,_,.all h h2 a b r=>.all (e _ _ h) (e _ _ h2) a b (cU.aZ e r)
 | _,_,.any h h2 a b r=>.any (e _ _ h) (e _ _ h2) a b (cU.aZ e r)
theorem cU.aZ {n:Nat} {H H':Hp} (e:∀ a xs,H a=some (HO.tup xs)->H' a=some (HO.tup xs)):∀ {vs:List V} {ts:List Tm},cU n H vs ts->cU n H' vs ts
 | _,_,.nil=>.nil
 | _,_,.cons h r=>.cons (iT.aZ e h) (cU.aZ e r)
end
theorem iT.mono {n:Nat} {H H':Hp} (e:aR H H') {v:V} {t:Tm} (h:iT n H v t):iT n H' v t:=h.aZ fun a xs q=>e a _ q
theorem cU.length {n:Nat} {H:Hp}:∀ {vs:List V} {ts:List Tm},cU n H vs ts->vs.length=ts.length
 | _,_,.nil=>rfl
 | _,_,.cons _ r=>by rw[KZ,KZ,cU.length r]
theorem cU.get {n:Nat} {H:Hp}:∀ {vs:List V} {ts:List Tm} {i:Nat} {v:V},cU n H vs ts->vs[i]? = some v->∃ t,ts[i]? = some t/\iT n H v t
 | _,_,_,_,.nil,h=>by simp at h
 | _,_,0,_,.cons h _,e=>by
  cases (show some _=some _ from e)
  exact⟨_,rfl,h⟩
 | _,_,i+1,_,.cons _ r,e=>by
  obtain⟨t,e1,e2⟩:=cU.get (i:=i) r (by simpa using e)
  exact⟨t,by simpa using e1,e2⟩
theorem lR:∀ {ts:List Tm} {i:Nat} {t:Tm},ts[i]? = some t->t.dep<=tdL ts
 | [],_,_,h=>by simp at h
 | d::r,0,_,h=>by
  cases (show some d=some _ from h)
  rw[tdL]
  exact Nat.le_max_left _ _
 | d::r,i+1,_,h=>by
  rw[tdL]
  exact K7 (lR (i:=i) (ts:=r) (by simpa using h)) (Nat.le_max_right _ _)
theorem Tm.oX:∀ t:Tm,1<=t.dep
 | .free | .never | .gives .. | .sum .. | .crowd ..=>Kc 1
 | .all ts=>by rw[Tm.dep]; lia
 | .any ts=>by rw[Tm.dep]; lia
theorem qt:∀ {g:List Int} {ts:List Tm} {i:Nat} {t:Tm},ts[i]? = some t->uW g (ts.take (i+1))=(uW g (ts.take i) && hF g t)
 | _,[],_,_,h=>by simp at h
 | g,d::r,0,t,h=>by
  cases (show some d=some _ from h)
  rw[Oa,uW,Lz,Lz,uW,Bool.and_true,PN]
 | g,d::r,i+1,t,h=>by
  rw[Oa,uW,qt (i:=i) (ts:=r) (by simpa using h),Oa,uW,Bool.and_assoc]
theorem rC:∀ {g:List Int} {ts:List Tm} {i:Nat} {t:Tm},ts[i]? = some t->ue g (ts.take (i+1))=(ue g (ts.take i) || hF g t)
 | _,[],_,_,h=>by simp at h
 | g,d::r,0,t,h=>by
  cases (show some d=some _ from h)
  rw[Oa,ue,Lz,Lz,ue,Bool.or_false,Bool.false_or]
 | g,d::r,i+1,t,h=>by
  rw[Oa,ue,rC (i:=i) (ts:=r) (by simpa using h),Oa,ue,Bool.or_assoc]
theorem nD:∀ {g:List Int} {ts:List Tm} {i:Nat} {t:Tm},ts[i]? = some t->hF g t=false->uW g ts=false
 | _,[],_,_,h,_=>by simp at h
 | g,d::r,0,t,h,e=>by
  cases (show some d=some _ from h)
  rw[uW,e,Pj]
 | g,d::r,i+1,t,h,e=>by rw[uW,nD (i:=i) (ts:=r) (by simpa using h) e,Oq]
theorem rB:∀ {g:List Int} {ts:List Tm} {i:Nat} {t:Tm},ts[i]? = some t->hF g t=true->ue g ts=true
 | _,[],_,_,h,_=>by simp at h
 | g,d::r,0,t,h,e=>by
  cases (show some d=some _ from h)
  rw[ue,e,Bool.true_or]
 | g,d::r,i+1,t,h,e=>by rw[ue,rB (i:=i) (ts:=r) (by simpa using h) e,Px]
theorem bW {c A B:Prop} [Decidable c] (hc:¬ c) (h:B):if decide c=true then A else B:=by
 rw[decide_eq_false hc]
 exact cj h
theorem mK {c A B:Prop} [Decidable c] (hc:c) (h:A):if decide c=true then A else B:=by
 rw[decide_eq_true hc]
 exact dF h
theorem aL {a b:KH} (h:a≠b):¬ V.str a=V.str b:=fun z=>h (by cases z; rfl)
theorem atD {g:List Int} {i:Nat} (h:i < g.length):atI (g.map V.int) (i:Int)=some (.int (g.getD i 0)):=by
 rw[yD h,K6,Kd h]
 rfl
abbrev jA:Stmt:=top 23
abbrev gM:Stmt:=top 24
abbrev rT:Stmt:=top 25
theorem lG:aG ["parts","giving","part"] ["parts","giving"] (au jA):=⟨rfl,rfl,rfl,by decide+kernel,rfl,by decide+kernel,by decide+kernel⟩
theorem jP:aG ["parts","giving","part"] ["parts","giving"] (au gM):=⟨rfl,rfl,rfl,by decide+kernel,rfl,by decide+kernel,by decide+kernel⟩
theorem uv:aG ["term","giving","kind"] ["term","giving"] (au rT):=⟨rfl,rfl,rfl,by decide+kernel,rfl,by decide+kernel,by decide+kernel⟩
inductive uq (K:Ky) (d:Nat) (vs:List V) (H:Hp) (Q:VK):Prop where
 | mk (v:V) (g:Addr) (n:Nat) (t:Tm) (ns:List Int) (z0:vs=[v,.ref g]) (z1:iT n H v t) (z2:t.dep<=d) (z3:SqT K H g (ns.map V.int)) (z4:n<=ns.length) (z5:∀ H',aR H H'->Q (.bl (hF ns t)) H'):uq K d vs H Q
def gO (K:Ky) (d:Nat):Sp:=fun vs H Q _=>uq K d vs H Q
inductive zP (K:Ky) (d:Nat) (vs:List V) (H:Hp) (Q:VK):Prop where
 | mk (b g:Addr) (n:Nat) (us:List V) (ts:List Tm) (ns:List Int) (z0:vs=[.ref b,.ref g]) (z1:H b=some (.tup us)) (z2:cU n H us ts) (z3:tdL ts<=d) (z4:SqT K H g (ns.map V.int)) (z5:n<=ns.length) (z6:∀ H',aR H H'->Q (.bl (uW ns ts)) H'):zP K d vs H Q
def Dw (K:Ky) (d:Nat):Sp:=fun vs H Q _=>zP K d vs H Q
inductive zR (K:Ky) (d:Nat) (vs:List V) (H:Hp) (Q:VK):Prop where
 | mk (b g:Addr) (n:Nat) (us:List V) (ts:List Tm) (ns:List Int) (z0:vs=[.ref b,.ref g]) (z1:H b=some (.tup us)) (z2:cU n H us ts) (z3:tdL ts<=d) (z4:SqT K H g (ns.map V.int)) (z5:n<=ns.length) (z6:∀ H',aR H H'->Q (.bl (ue ns ts)) H'):zR K d vs H Q
def DG (K:Ky) (d:Nat):Sp:=fun vs H Q _=>zR K d vs H Q
theorem wL:bL P w K mg base CX0 0 f fd ["term","giving"] (gO K 0):=by
 have no:∀ vs H Q E,¬ gO K 0 vs H Q E:=fun vs H Q E h=>by
  obtain⟨v,g,n,t,ns,_,_,h1,_⟩:=h
  have:=t.oX
  lia
 exact⟨fun vs H Q E h=>absurd h (no vs H Q E),fun A outer s H args us vs Q E _ _ _ _ h=>absurd h (no vs H Q E)⟩
theorem eV {d k:Nat} (F:Fun K "all_hold" "all_hold" jA f fd) (B:Bt mg)
  (D_holds:Df P w K mg base "holds" k ["term","giving"] (gO K d)):bL P w K mg base CX0 (k+1) f fd ["parts","giving"] (Dw K d):=by
 refine F.ok lG (fun vs H Q E h=>?_) (fun cdv A outer s H vs Q E hr h=>?_)
 ·obtain⟨b,g,n,us,ts,ns,rfl,_⟩:=h
  rfl
 ·obtain⟨b,g,n,us,ts,ns,rfl,hb,rp,hd,hg,hn,q⟩:=h
  refine⟨_,(ak (gJ M8 rfl (fu (pv 0)) (aQ (i:=2) lG.nd rfl (K5 rfl)) (aq (bc (cJ (bR (bh D_holds hr (aa (pv 2) (aa (pv 1) aj))))) (aq (aH dU)) aJ)))
 (aq (aH dU))),?_⟩
  have el:=rp.length
  refine⟨_,rfl,b,rfl,⟨_,SqT.of hb⟩,lK (K:=K) (a:=b) (xs:=us) (fun i σ H2=>(∃ u,σ=[some (.ref b),some (.ref g),u])/\aR H H2/\uW ns (ts.take i)=true) ⟨⟨_,rfl⟩,aR.refl H,by rw[Lz,uW]⟩ (fun i σ H2 _ h=>mW h.2.1 (SqT.of hb)) ?_ ?_⟩
  ·rintro i x σ H2 hx ⟨⟨u,rfl⟩,sm,ab⟩
   obtain⟨t,ht,rt⟩:=rp.get hx
   refine⟨_,rfl,_,rfl,x,g,n,t,ns,rfl,rt.mono sm,K7 (lR ht) hd,mW sm hg,hn,fun H3 s3=>⟨_,rfl,?_⟩⟩
   cases e:hF ns t with
   | false =>
    have q':=q H3 (sm.trans s3)
    rw[nD ht e] at q'
    exact dF q'
   | true=>exact cj ⟨⟨_,rfl⟩,sm.trans s3,by rw[qt ht,ab,e]; rfl⟩
  ·rintro σ H2 ⟨⟨u,rfl⟩,sm,ab⟩
   have q':=q H2 sm
   rw[el,Ld] at ab
   rw[ab] at q'
   exact q'
theorem dJ {d k:Nat} (F:Fun K "any_holds" "any_holds" gM f fd) (B:Bt mg)
  (D_holds:Df P w K mg base "holds" k ["term","giving"] (gO K d)):bL P w K mg base CX0 (k+1) f fd ["parts","giving"] (DG K d):=by
 refine F.ok jP (fun vs H Q E h=>?_) (fun cdv A outer s H vs Q E hr h=>?_)
 ·obtain⟨b,g,n,us,ts,ns,rfl,_⟩:=h
  rfl
 ·obtain⟨b,g,n,us,ts,ns,rfl,hb,rp,hd,hg,hn,q⟩:=h
  refine⟨_,(ak (gJ M8 rfl (fu (pv 0)) (aQ (i:=2) jP.nd rfl (K5 rfl)) (aq (bc (bR (bh D_holds hr (aa (pv 2) (aa (pv 1) aj)))) (aq (aH dU)) aJ)))
 (aq (aH dU))),?_⟩
  have el:=rp.length
  refine⟨_,rfl,b,rfl,⟨_,SqT.of hb⟩,lK (K:=K) (a:=b) (xs:=us) (fun i σ H2=>(∃ u,σ=[some (.ref b),some (.ref g),u])/\aR H H2/\ue ns (ts.take i)=false) ⟨⟨_,rfl⟩,aR.refl H,by rw[Lz,ue]⟩ (fun i σ H2 _ h=>mW h.2.1 (SqT.of hb)) ?_ ?_⟩
  ·rintro i x σ H2 hx ⟨⟨u,rfl⟩,sm,ab⟩
   obtain⟨t,ht,rt⟩:=rp.get hx
   refine⟨_,rfl,_,rfl,x,g,n,t,ns,rfl,rt.mono sm,K7 (lR ht) hd,mW sm hg,hn,fun H3 s3=>⟨_,rfl,?_⟩⟩
   cases e:hF ns t with
   | true =>
    have q':=q H3 (sm.trans s3)
    rw[rB ht e] at q'
    exact dF q'
   | false=>exact cj ⟨⟨_,rfl⟩,sm.trans s3,by rw[rC ht,ab,e]; rfl⟩
  ·rintro σ H2 ⟨⟨u,rfl⟩,sm,ab⟩
   have q':=q H2 sm
   rw[el,Ld] at ab
   rw[ab] at q'
   exact q'
theorem j9 {d k:Nat} (F:Fun K "holds" "holds" rT f fd) (B:Bt mg)
  (D_all_hold:Df P w K mg base "all_hold" k ["parts","giving"] (Dw K d)) (D_any_holds:Df P w K mg base "any_holds" k ["parts","giving"] (DG K d)):bL P w K mg base CX0 (k+1) f fd ["term","giving"] (gO K (d+1)):=by
 refine F.ok uv (fun vs H Q E h=>?_) (fun cdv A outer s H vs Q E hr h=>?_)
 ·obtain⟨v,g,n,t,ns,rfl,_⟩:=h
  rfl
 ·obtain⟨v,g,n,t,ns,rfl,rt,hd,hg,hn,q⟩:=h
  refine⟨_,(ak (aY (i:=2) uv.nd rfl (K5 rfl) (bK (r:=gB K) bz (pv 0) az (fun _ _=>rfl)))
 (ak (bc (aK cH (pv 2) bf (aN _)) (aq (aH (cA qL (bK (r:=gB K) bz (pv 1) (bK (r:=gB K) bz (pv 0) az (fun _ _=>rfl)) (fun _ _=>rfl)) (bK (r:=gB K) bz (pv 0) az (fun _ _=>rfl)) (aN _)))) aJ)
 (ak (bc (aK cH (pv 2) bf (aN _)) (aq (aH (cA qL (aA (r:=Gv K) (zW rfl) rfl B.sum_ Ik (aa (eQ (L:=["one"]) (F:=["giving"]) (cap:=[1]) rfl (cz rfl rfl (by kernel_rfl)) (fu (bK (r:=gB K) bz (pv 0) az (fun _ _=>rfl))) (fun _ _ _ _ _=>(aQ (i:=0) (bV (by decide+kernel)) rfl (K5 rfl))) (fun _ _ _ _ _=>kW) (fun _ _ _ _ _=>(bK (r:=gB K) bz (pv 1) (pv 0) (fun _ _=>rfl)))) aj)) (bK (r:=gB K) bz (pv 0) az (fun _ _=>rfl)) (aN _)))) aJ)
 (ak (bc (aK cH (pv 2) bf (aN _)) (aq (aH (cA qL (aA (r:=ik K) aO rfl B.len_ bI (aa (eQ (L:=["one"]) (F:=["giving","term"]) (cap:=[1,0]) rfl (cz rfl rfl (by kernel_rfl)) (fu (bK (r:=gB K) bz (pv 0) az (fun _ _=>rfl))) (fun _ _ _ _ _=>(aQ (i:=0) (bV (by decide+kernel)) rfl (K5 rfl))) (fun _ _ _ _ _=>(jB (aK qL (bK (r:=gB K) bz (pv 1) (pv 0) (fun _ _=>rfl)) (bK (r:=gB K) bz (pv 2) az (fun _ _=>rfl)) (aN _)))) (fun _ _ _ _ _=>(pv 0))) aj)) (bK (r:=gB K) bz (pv 0) az (fun _ _=>rfl)) (aN _)))) aJ)
 (ak (bc (aK cH (pv 2) bf (aN _)) (aq (aH (bh D_all_hold hr (aa (bK (r:=gB K) bz (pv 0) az (fun _ _=>rfl)) (aa (pv 1) aj))))) aJ)
 (ak (bc (aK cH (pv 2) bf (aN _)) (aq (aH (bh D_any_holds hr (aa (bK (r:=gB K) bz (pv 0) az (fun _ _=>rfl)) (aa (pv 1) aj))))) aJ)
 (aq (aH (cA cH (pv 2) bf (aN _)))))))))),?_⟩
  cases rt with
  | @free a ha =>
   refine⟨_,rfl,a,_,_,_,rfl,rfl,SqT.of ha,aP (k:=0) rfl,?_⟩
   refine⟨_,rfl,rfl,_,rfl,bW (aL (by decide)) ?_⟩
   refine⟨_,rfl,rfl,_,rfl,bW (aL (by decide)) ?_⟩
   refine⟨_,rfl,rfl,_,rfl,bW (aL (by decide)) ?_⟩
   refine⟨_,rfl,rfl,_,rfl,bW (aL (by decide)) ?_⟩
   refine⟨_,rfl,rfl,_,rfl,bW (aL (by decide)) ?_⟩
   refine⟨_,rfl,rfl,?_⟩
   have q':=q H (aR.refl H)
   rw[hF] at q'
   rw[decide_eq_true rfl]
   exact q'
  | @never a ha =>
   refine⟨_,rfl,a,_,_,_,rfl,rfl,SqT.of ha,aP (k:=0) rfl,?_⟩
   refine⟨_,rfl,rfl,_,rfl,bW (aL (by decide)) ?_⟩
   refine⟨_,rfl,rfl,_,rfl,bW (aL (by decide)) ?_⟩
   refine⟨_,rfl,rfl,_,rfl,bW (aL (by decide)) ?_⟩
   refine⟨_,rfl,rfl,_,rfl,bW (aL (by decide)) ?_⟩
   refine⟨_,rfl,rfl,_,rfl,bW (aL (by decide)) ?_⟩
   refine⟨_,rfl,rfl,?_⟩
   have q':=q H (aR.refl H)
   rw[hF] at q'
   rw[decide_eq_false (aL (by decide))]
   exact q'
  | @gives a i k ha hi _ _ =>
   refine⟨_,rfl,a,_,_,_,rfl,rfl,SqT.of ha,aP (k:=0) rfl,?_⟩
   refine⟨_,rfl,rfl,_,rfl,mK rfl ?_⟩
   refine⟨_,rfl,_,rfl,a,_,_,_,rfl,rfl,SqT.of ha,aP (k:=1) rfl,g,_,_,_,rfl,rfl,hg,atD (by lia),_,rfl,a,_,_,_,rfl,rfl,SqT.of ha,aP (k:=2) rfl,_,_,rfl,rfl,?_⟩
   have q':=q H (aR.refl H)
   rw[hF] at q'
   exact q'
  | @sum a b c k ha hb hc _ hl _ _ _ =>
   refine⟨_,rfl,a,_,_,_,rfl,rfl,SqT.of ha,aP (k:=0) rfl,?_⟩
   refine⟨_,rfl,rfl,_,rfl,bW (aL (by decide)) ?_⟩
   refine⟨_,rfl,rfl,_,rfl,mK rfl ?_⟩
   refine⟨_,rfl,a,_,_,_,rfl,rfl,SqT.of ha,aP (k:=1) rfl,b,rfl,⟨_,SqT.of hb⟩,fun D hD=>gq (K:=K) (a:=b) (xs:=c.map vN) (fun i zs σ' H2=>(∃ u,σ'=[u,some (.ref g)])/\zs=((c.take i).map fun i=>ns.getD i 0).map V.int/\aR H H2/\H2 D=some (.lst zs))
    ⟨⟨_,rfl⟩,rfl,aB hD _,ao⟩ (fun i zs σ' H2 _ h=>⟨mW h.2.2.1 (SqT.of hb),h.2.2.2⟩) ?_ ?_⟩
   ·rintro j zs x σ' H2 hx ⟨⟨u,rfl⟩,e1,sm,hDl⟩
    obtain⟨i,hi,rfl⟩:=Bw hx
    have hin:i < n:=hc i (K8 hi)
    refine gT ?_
    refine⟨_,rfl,_,rfl,g,_,_,_,rfl,rfl,mW sm hg,atD (by lia),hDl,?_,⟨_,rfl⟩,?_,cg sm hD _,ao⟩
    ·rw[e1,J8,J8,Lk]
     exact bu (by lia)
    ·rw[e1,LC,hi,K3,K3]
     rfl
   ·rintro zs σ' H2 ⟨⟨u,rfl⟩,e1,sm,hDl⟩
    rw[J8,Ld] at e1
    refine⟨D,_,rfl,SqL.of (by rw[hDl,e1]),_,rfl,a,_,_,_,rfl,rfl,SqT.of (sm _ _ ha),aP (k:=2) rfl,_,_,rfl,rfl,?_⟩
    have q':=q H2 sm
    rw[hF] at q'
    exact q'
  | @crowd a b c k m ha hb hc _ hl _ _ _ _ _ =>
   refine⟨_,rfl,a,_,_,_,rfl,rfl,SqT.of ha,aP (k:=0) rfl,?_⟩
   refine⟨_,rfl,rfl,_,rfl,bW (aL (by decide)) ?_⟩
   refine⟨_,rfl,rfl,_,rfl,bW (aL (by decide)) ?_⟩
   refine⟨_,rfl,rfl,_,rfl,mK rfl ?_⟩
   refine⟨_,rfl,a,_,_,_,rfl,rfl,SqT.of ha,aP (k:=1) rfl,b,rfl,⟨_,SqT.of hb⟩,fun D hD=>gq (K:=K) (a:=b) (xs:=c.map vN) (fun i zs σ' H2=>(∃ u,σ'=[u,some (.ref g),some (.ref a)])/\zs=((c.take i).filter fun i=>decide (k<=ns.getD i 0)).map vN/\aR H H2/\H2 D=some (.lst zs))
    ⟨⟨_,rfl⟩,rfl,aB hD _,ao⟩ (fun i zs σ' H2 _ h=>⟨mW h.2.2.1 (SqT.of hb),h.2.2.2⟩) ?_ ?_⟩
   ·rintro j zs x σ' H2 hx ⟨⟨u,rfl⟩,e1,sm,hDl⟩
    obtain⟨i,hi,rfl⟩:=Bw hx
    have hin:i < n:=hc i (K8 hi)
    have et:c.take (j+1)=c.take j++[i]:=by rw[LC,hi]; rfl
    refine⟨_,rfl,_,rfl,g,_,_,_,rfl,rfl,mW sm hg,atD (by lia),_,rfl,a,_,_,_,rfl,rfl,SqT.of (sm _ _ ha),aP (k:=2) rfl,_,_,rfl,rfl,_,rfl,?_⟩
    refine wR (fun cc=>?_) (fun cc=>?_)
    ·refine⟨_,rfl,hDl,?_,⟨_,rfl⟩,?_,cg sm hD _,ao⟩
     ·rw[e1,J8]
      have:=Mg (fun i=>decide (k<=ns.getD i 0)) (c.take j)
      rw[Lk] at this
      exact bu (by lia)
     ·rw[e1,et,Qg,K3,List.filter_cons,if_pos cc]
      rfl
    ·refine⟨⟨_,rfl⟩,?_,sm,hDl⟩
     rw[e1,et,Qg,List.filter_cons,if_neg cc]
     simp
   ·rintro zs σ' H2 ⟨⟨u,rfl⟩,e1,sm,hDl⟩
    rw[J8,Ld] at e1
    refine⟨D,_,rfl,.inl (SqL.of (by rw[hDl,e1])),_,rfl,a,_,_,_,rfl,rfl,SqT.of (sm _ _ ha),aP (k:=3) rfl,_,_,rfl,rfl,?_⟩
    have q':=q H2 sm
    rw[hF] at q'
    rw[J8]
    exact q'
  | @all a b us ts ha hb _ _ rl =>
   refine⟨_,rfl,a,_,_,_,rfl,rfl,SqT.of ha,aP (k:=0) rfl,?_⟩
   refine⟨_,rfl,rfl,_,rfl,bW (aL (by decide)) ?_⟩
   refine⟨_,rfl,rfl,_,rfl,bW (aL (by decide)) ?_⟩
   refine⟨_,rfl,rfl,_,rfl,bW (aL (by decide)) ?_⟩
   refine⟨_,rfl,rfl,_,rfl,mK rfl ?_⟩
   refine⟨_,rfl,a,_,_,_,rfl,rfl,SqT.of ha,aP (k:=1) rfl,_,rfl,b,g,n,us,ts,ns,rfl,hb,rl,?_,hg,hn,fun H' s'=>?_⟩
   ·rw[Tm.dep] at hd
    lia
   ·have q':=q H' s'
    rw[hF] at q'
    exact q'
  | @any a b us ts ha hb _ _ rl =>
   refine⟨_,rfl,a,_,_,_,rfl,rfl,SqT.of ha,aP (k:=0) rfl,?_⟩
   refine⟨_,rfl,rfl,_,rfl,bW (aL (by decide)) ?_⟩
   refine⟨_,rfl,rfl,_,rfl,bW (aL (by decide)) ?_⟩
   refine⟨_,rfl,rfl,_,rfl,bW (aL (by decide)) ?_⟩
   refine⟨_,rfl,rfl,_,rfl,bW (aL (by decide)) ?_⟩
   refine⟨_,rfl,rfl,_,rfl,mK rfl ?_⟩
   refine⟨_,rfl,a,_,_,_,rfl,rfl,SqT.of ha,aP (k:=1) rfl,_,rfl,b,g,n,us,ts,ns,rfl,hb,rl,?_,hg,hn,fun H' s'=>?_⟩
   ·rw[Tm.dep] at hd
    lia
   ·have q':=q H' s'
    rw[hF] at q'
    exact q'
theorem gN {i:Nat} {x:V} {σ:St} {H:Hp} {P:St->Hp->Prop} (h:P (σ.set i (some x)) H):iz i x σ H P:=h
theorem nN {D:Ends} {σ:St} {H:Hp} (h:D.nx σ H):qH D σ H:=h
theorem uo (ns:List Int) (lo hi:Option Int):∃ ks:List Int,Gf (ns.map V.int) lo hi=ks.map V.int/\ks.length<=ns.length:=by
 unfold Gf
 generalize HT.sIx _ _ lo=x
 generalize HT.sIx _ _ hi=y
 refine⟨(ns.drop x).take (y - x),by rw[List.map_take,List.map_drop],?_⟩
 rw[Lk,TV]
 lia
theorem uX:∀ (ns acc:List Int),acc.Nodup->(ns.foldl MJ acc).Nodup
 | [],acc,h=>h
 | n::r,acc,h=>by
  rw[NT]
  refine uX r _ ?_
  unfold MJ
  split
  ·exact h
  ·rename_i z
   rw[Th]
   refine⟨h,by simp,fun a ha b hb e=>?_⟩
   rw[Ny] at hb
   subst hb
   subst e
   exact z (List.any_eq_true.mpr ⟨a,ha,beq_self_eq_true a⟩)
theorem Dd (ns:List Int):ddI ns=ns.foldl MJ []:=by
 unfold ddI PyProof.Rows.firstMet
 congr 1
 apply List.ext_getElem?
 intro i
 rw[KQ]
 by_cases h:i < ns.length
 ·rw[List.getElem?_range h,Kd h]
  simp [K6,Kd h]
 ·have e1:(Ms ns.length)[i]? = none:=NK (by rw[Np]; lia)
  rw[e1,NK (by lia)]
  rfl
theorem nj:∀ {a b:List Int},a.Perm b->a.Pairwise (·<=·)->b.Pairwise (·<=·)->a=b
 | [],b,p,_,_=>(List.Perm.nil_eq p)
 | x::a,[],p,_,_=>absurd p.length_eq (by simp)
 | x::a,y::b,p,ha,hb=>by
  rw[Nh] at ha hb
  have h1:x<=y:=by
   rcases List.mem_cons.mp (p.mem_iff.mpr KD) with h | h
   ·lia
   ·exact ha.1 y h
  have h2:y<=x:=by
   rcases List.mem_cons.mp (p.mem_iff.mp KD) with h | h
   ·lia
   ·exact hb.1 x h
  have e:x=y:=by lia
  subst e
  rw[nj (List.Perm.cons_inv p) ha.2 hb.2]
abbrev Pl:=List (Int × Tm)
inductive fU (n:Nat) (H:Hp):List V->Pl->Prop where
 | nil:fU n H [] []
 | cons {r:Addr} {k:Int} {v:V} {t:Tm} {vs:List V} {ps:Pl}:H r=some (.tup [.int k,v])->iT n H v t->fU n H vs ps->fU n H (.ref r::vs) ((k,t)::ps)
theorem fU.aZ {n:Nat} {H H':Hp} (e:∀ a xs,H a=some (HO.tup xs)->H' a=some (HO.tup xs)):∀ {vs:List V} {ps:Pl},fU n H vs ps->fU n H' vs ps
 | _,_,.nil=>.nil
 | _,_,.cons h t r=>.cons (e _ _ h) (t.aZ e) (fU.aZ e r)
theorem fU.length {n:Nat} {H:Hp}:∀ {vs:List V} {ps:Pl},fU n H vs ps->vs.length=ps.length
 | _,_,.nil=>rfl
 | _,_,.cons _ _ r=>by rw[KZ,KZ,fU.length r]
theorem fU.get {n:Nat} {H:Hp}:∀ {vs:List V} {ps:Pl} {i:Nat} {v:V},fU n H vs ps->vs[i]? = some v->∃ r k u t,v = .ref r/\H r=some (.tup [.int k,u])/\iT n H u t/\ps[i]? = some (k,t)
 | _,_,_,_,.nil,h=>by simp at h
 | _,_,0,_,.cons h t _,e=>by
  cases (show some _=some _ from e)
  exact⟨_,_,_,_,rfl,h,t,rfl⟩
 | _,_,i+1,_,.cons _ _ r,e=>by
  obtain⟨a,k,u,t,h1,h2,h3,h4⟩:=fU.get (i:=i) r (by simpa using e)
  exact⟨a,k,u,t,h1,h2,h3,by simpa using h4⟩
def okP (p:Pl):Prop:=p≠[]/\p.length<=9/\(p.map (·.1)).Pairwise (· < ·)/\∀ x∈p,1<=x.1/\x.1<=9/\x.2.dep<=4
def wV (n:Nat) (H:Hp) (a:Addr) (p:Pl):Prop:=okP p/\∃ vs,H a=some (.tup vs)/\fU n H vs p
theorem wV.aZ {n:Nat} {H H':Hp} {a:Addr} {p:Pl} (e:∀ a xs,H a=some (HO.tup xs)->H' a=some (HO.tup xs)) (h:wV n H a p):wV n H' a p:=by
 obtain⟨ok,vs,h1,h2⟩:=h
 exact⟨ok,vs,e _ _ h1,h2.aZ e⟩
def owS (g:List Int) (f:Int) (x:Int × Tm):Int:=if hF g x.2=true then x.1 else f
def owF (g:List Int) (p:Pl):Int:=p.foldl (owS g) 0
theorem Cg {g:List Int} {p:Pl} {i:Nat} {x:Int × Tm} (h:p[i]? = some x):owF g (p.take (i+1))=if hF g x.2=true then x.1 else owF g (p.take i):=by
 unfold owF
 rw[LC,h]
 show ((p.take i)++[x]).foldl (owS g) 0=_
 rw[List.foldl_append]
 rfl
abbrev yh:Stmt:=top 32
theorem sI:aG ["pledge","giving","step","term"] ["pledge","giving"] (au yh):=⟨rfl,rfl,rfl,by decide+kernel,rfl,by decide+kernel,by decide+kernel⟩
inductive xg (K:Ky) (vs:List V) (H:Hp) (Q:VK):Prop where
 | mk (a g:Addr) (n:Nat) (p:Pl) (ns:List Int) (z0:vs=[.ref a,.ref g]) (z1:wV n H a p) (z2:SqT K H g (ns.map V.int)) (z3:n<=ns.length) (z4:∀ H',aR H H'->Q (.int (owF ns p)) H'):xg K vs H Q
def Dz (K:Ky):Sp:=fun vs H Q _=>xg K vs H Q
theorem Er {k:Nat} (F:Fun K "owes" "owes" yh f fd) (B:Bt mg)
  (D_holds:Df P w K mg base "holds" k ["term","giving"] (gO K 4)):bL P w K mg base CX0 (k+1) f fd ["pledge","giving"] (Dz K):=by
 refine F.ok sI (fun vs H Q E h=>?_) (fun cdv A outer s H vs Q E hr h=>?_)
 ·obtain⟨a,g,n,p,ns,rfl,_⟩:=h
  rfl
 ·obtain⟨a,g,n,p,ns,rfl,⟨ok,vs,ha,rp⟩,hg,hn,q⟩:=h
  refine⟨_,(ak (gJ M8 rfl (Ia rfl B.reversed_ (aa (pv 0) aj)) (iG (K:=K) 2 rfl rfl (bG (aQ (i:=2) sI.nd rfl (K5 rfl)) (bG (aQ (i:=3) sI.nd rfl (K5 rfl)) ie))) (aq (bc (bR (bh D_holds hr (aa (pv 3) (aa (pv 1) aj)))) (aq (aH (pv 2))) aJ)))
 (aq (aH az))),?_⟩
  have el:=rp.length
  refine⟨_,rfl,a,vs,rfl,SqT.of ha,Ei (K:=K) (a:=a) (xs:=vs) (fun i σ H2=>(∃ u v,σ=[some (.ref a),some (.ref g),u,v])/\aR H H2/\owF ns p=owF ns (p.take (p.length - i)))
   ⟨⟨_,_,rfl⟩,aR.refl H,by rw[Nat.sub_zero,Ld]⟩ (fun i σ H2 _ h=>SqT.of (h.2.1 _ _ ha)) ?_ ?_⟩
  ·rintro i x σ H2 hi hx ⟨⟨u,v,rfl⟩,sm,ow⟩
   obtain⟨r,k0,y,t,rfl,hr0,rt,hp⟩:=rp.get hx
   have hm:=K8 hp
   have e1:p.length - i=vs.length - 1 - i+1:=by lia
   have e2:p.length - (i+1)=vs.length - 1 - i:=by lia
   rw[e1,Cg hp] at ow
   refine⟨r,_,rfl,SqT.of (sm _ _ hr0),rfl,_,_,rfl,_,_,rfl,rfl,?_⟩
   refine⟨_,rfl,_,rfl,y,g,n,t,ns,rfl,rt.mono sm,(ok.2.2.2 _ hm).2.2,mW sm hg,hn,fun H3 s3=>⟨_,rfl,?_⟩⟩
   cases e:hF ns t with
   | true =>
    refine dF ⟨_,rfl,?_⟩
    rw[if_pos e] at ow
    have q':=q H3 (sm.trans s3)
    rw[ow] at q'
    exact q'
   | false =>
    refine cj ⟨⟨_,_,rfl⟩,sm.trans s3,?_⟩
    rw[if_neg (by rw[e]; exact J9)] at ow
    rw[e2]
    exact ow
  ·rintro σ H2 ⟨⟨u,v,rfl⟩,sm,ow⟩
   rw[el,Nat.sub_self,Lz] at ow
   have q':=q H2 sm
   rw[ow] at q'
   exact q'
def Em (x:Nat):List Nat->List Nat
 | []=>[x]
 | y::r=>if x<=y then x::y::r else y::Em x r
def yM:List Nat->List Nat
 | []=>[]
 | x::r=>Em x (yM r)
theorem lQ (x:Nat):∀ l:List Nat,(Em x l).Perm (x::l)
 | []=>.refl _
 | y::r=>by
  rw[Em]
  split
  ·exact .refl _
  ·exact ((lQ x r).cons y).trans (.swap x y r)
theorem fP:∀ l:List Nat,(yM l).Perm l
 | []=>.refl _
 | x::r=>(lQ x _).trans ((fP r).cons x)
theorem mJ (x:Nat):∀ {l:List Nat},l.Pairwise (·<=·)->(Em x l).Pairwise (·<=·)
 | [],_=>by rw[Em]; simp
 | y::r,h=>by
  rw[Em]
  rw[Nh] at h
  split
  ·rw[Nh,Nh]
   refine⟨fun z hz=>?_,h⟩
   rcases List.mem_cons.mp hz with rfl | hz
   ·assumption
   ·have:=h.1 z hz
    lia
  ·rw[Nh]
   refine⟨fun z hz=>?_,mJ x h.2⟩
   rcases List.mem_cons.mp ((lQ x r).mem_iff.mp hz) with rfl | hz
   ·lia
   ·exact h.1 z hz
theorem lL:∀ l:List Nat,(yM l).Pairwise (·<=·)
 | []=>by rw[yM]; simp
 | x::r=>mJ x (lL r)
theorem FW {l:List Nat} {ms:List Int} (p:ms.Perm (l.map fun i:Nat=>(i:Int))) (h:ms.Pairwise (·<=·)):ms=(yM l).map fun i:Nat=>(i:Int):=by
 refine nj (p.trans ((fP l).map _).symm) h ?_
 rw[List.pairwise_map]
 exact (lL l).imp fun h=>by lia
theorem JF {b:Bool} {A B:Prop} (h:b=true) (a:A):if b=true then A else B:=by rw[if_pos h]; exact a
theorem BZ {b:Bool} {A B:Prop} (h:b=false) (a:B):if b=true then A else B:=by rw[if_neg (by rw[h]; exact J9)]; exact a
theorem CJ {x:Int}:∀ (ns acc:List Int),x∈ns.foldl MJ acc ↔ x∈acc∨x∈ns
 | [],acc=>by simp
 | n::r,acc=>by
  rw[NT,CJ r _]
  unfold MJ
  split
  ·rename_i h
   obtain⟨y,hy,ey⟩:=List.any_eq_true.mp h
   have e:=eq_of_beq ey
   constructor
   ·rintro (h | h)
    ·exact .inl h
    ·exact .inr (KC _ h)
   ·rintro (h | h)
    ·exact .inl h
    ·rcases List.mem_cons.mp h with rfl | h
     ·exact .inl (by rw[← e]; exact hy)
     ·exact .inr h
  ·constructor
   ·rintro (h | h)
    ·rcases List.mem_append.mp h with h | h
     ·exact .inl h
     ·exact .inr (by rw[List.mem_singleton.mp h]; exact KD)
    ·exact .inr (KC _ h)
   ·rintro (h | h)
    ·exact .inl (Qy _ h)
    ·rcases List.mem_cons.mp h with rfl | h
     ·exact .inl (KJ _ KD)
     ·exact .inr h
theorem aD {t u:TS} {D:Ends} {σ:St} {H:Hp} (P:St->Hp->Prop) (h2:∀ σ H,P σ H->u D σ H) (h1:∀ N:St->Hp->Prop,(∀ σ H,P σ H->N σ H)->t { D with nx:=N } σ H):wU t u D σ H:=h1 (u D) h2
theorem Ak {l:Addr} {xs:List V} {k:Nat} {y:V} {H:Hp} {Q:VK} (hl:H l=some (.lst xs)) (hk:k < xs.length) (h5:xs.length<=100) (hy:xs[k]? = some y) (q:Q y (upd H l (.lst (xs.eraseIdx k)))):zy (.ref l) [.int (k:Int)] H Q:=by
 refine⟨l,xs,(k:Int),k,y,rfl,rfl,hl,by lia,by lia,?_,hy,q⟩
 have hj:(if (k:Int) < 0 then (k:Int)+(xs.length:Int) else (k:Int))=(k:Int):=if_neg (by lia)
 have hd:((decide (0<=(k:Int)) && decide ((k:Int) < (xs.length:Int)))=true):=by
  rw[decide_eq_true (by lia),decide_eq_true (by lia)]
  rfl
 show (if (decide (0<=if (k:Int) < 0 then (k:Int)+(xs.length:Int) else (k:Int)) && decide ((if (k:Int) < 0 then (k:Int)+(xs.length:Int) else (k:Int)) < (xs.length:Int)))=true then some (if (k:Int) < 0 then (k:Int)+(xs.length:Int) else (k:Int)).toNat else none)=some k
 rw[hj,if_pos hd,Mj]
theorem Cu (z:Int) (n:Nat):(Kf n [V.int z]).flatten=(Kf n z).map V.int:=by
 induction n with
 | zero=>rfl
 | succ n ih=>rw[M7,Qk,ih,M7]; rfl
abbrev gY:Stmt:=top 53
theorem pJ:aG ["_law_cell_here","_law_many"] ["_law_cell_here","_law_many"] (au gY):=⟨rfl,rfl,rfl,by decide+kernel,rfl,by decide+kernel,by decide+kernel⟩
inductive ux (vs:List V) (H:Hp) (Q:VK):Prop where
 | mk (c:Int) (m:Nat) (z0:vs=[.int c,.int (m:Int)]) (z1:m<=100) (z2:∀ (r:Addr) (ns:List Int) (H':Hp),aR H H'->H r=none->ns.length=m->(∀ x∈ns,0<=x)->H' r=some (.lst (ns.map V.int))->Q (.ref r) H'):ux  vs H Q
def xT:Sp:=fun vs H Q _=>ux  vs H Q
theorem qm (F:Fun K "_law_picks" "_law_picks" gY f fd) (B:Bt mg)
  (D_law_draws:Df P w K mg base "_law_draws" 1 ["_law_cell_here","_law_parts"] (tV K)):bL P w K mg base CX0 2 f fd ["_law_cell_here","_law_many"] xT:=by
 refine F.ok pJ (fun vs H Q E h=>?_) (fun cdv A outer s H vs Q E hr h=>?_)
 ·obtain⟨c,m,rfl,_⟩:=h
  rfl
 ·obtain⟨c,m,rfl,hm,q⟩:=h
  refine⟨_,(ak (bc (aK qL (aA nZ rfl B.abs_ xx (aa (pv 0) aj)) (bD yO az az) (aN _)) (aq (aH (bh D_law_draws hr (aa (pv 0) (aa (bD Hl (dI (aa az aj)) (pv 1)) aj))))) aJ)
 (aq (aH (eQ (L:=["_law_k"]) (F:=["_law_cell_here"]) (cap:=[0]) rfl (cz rfl rfl (by kernel_rfl)) (jc rfl B.range_ (aa (pv 1) aj)) (fun _ _ _ _ _=>(aQ (i:=0) (bV (by decide+kernel)) rfl (K5 rfl))) (fun _ _ _ _ _=>kW) (fun _ _ _ _ _=>(bK (r:=An K) gU (bh D_law_draws hr (aa (bD fj (pv 1) (bD kI az (pv 0))) (aa (dI (aa az aj)) aj))) az (fun _ _=>rfl))))))),?_⟩
  have em:((m:Int)).toNat=m:=Mj m
  refine⟨_,rfl,_,rfl,_,_,rfl,rfl,⟨by decide,by decide,by decide⟩,_,_,rfl,rfl,_,rfl,?_⟩
  refine wR (fun h=>?_) (fun h=>?_)
  ·refine⟨_,rfl,small (by show 1<=1000; decide),fun p1 h1=>?_⟩
   generalize eH1:upd H p1 _=H1
   obtain⟨g1,e1⟩:=aX eH1 h1
   refine⟨_,rfl,p1,_,_,rfl,rfl,e1,by lia,by lia,small (by show 1 * ((m:Int)).toNat<=1000; lia),fun p2 h2=>?_⟩
   rw[Cu,em]
   generalize eH2:upd H1 p2 _=H2
   obtain⟨g2,e2⟩:=aX eH2 h2
   refine⟨c,p2,Kf m 27720,rfl,SqL.of e2,fun x hx=>by rw[(List.mem_replicate.mp hx).2]; decide,by rw[K4]; lia,fun r h3=>?_⟩
   have s12:aR H H2:=g1.trans g2
   refine q r _ _ (s12.trans (aB h3 _)) (s12.free h3) ?_ ?_ ao
   ·unfold yG
    rw[dj,K4]
   ·intro x hx
    obtain⟨i,hi,rfl⟩:=Py hx
    unfold yG at hi ⊢
    have hi':i < m:=by rw[dj,K4] at hi; exact hi
    obtain⟨v,e,b0,_⟩:=gm (c:=Ae c) (i:=i) (ps:=Kf m 27720) (p:=27720) (fun x hx=>by rw[(List.mem_replicate.mp hx).2]; decide) (by rw[Oj,if_pos hi'])
    rw[Kd hi] at e
    rw[La e]
    exact b0
  ·refine nN ?_
   dsimp only
   refine⟨_,rfl,_,rfl,by lia,by lia,fun D hD=>gA (lo:=0) (n:=((m:Int)).toNat) (fun i zs σ' H2=>(∃ u,σ'=[u,some (.int c)])/\aR H H2/\H2 D=some (.lst zs)/\∃ ns:List Int,zs=ns.map V.int/\ns.length=i/\∀ x∈ns,0<=x)
    ⟨⟨_,rfl⟩,aB hD _,ao,[],rfl,rfl,by simp⟩ (fun i zs σ' H2 _ h=>h.2.2.1) ?_ ?_⟩
   ·rintro i zs σ' H2 hi ⟨⟨u,rfl⟩,sm,eD,ns,ez,ln,hns⟩
    refine gT ?_
    refine⟨_,rfl,_,rfl,_,_,rfl,rfl,.inl ⟨by decide,by decide⟩,_,_,rfl,rfl,small (by show 1<=1000; decide),fun p1 h1=>?_⟩
    generalize eH3:upd H2 p1 _=H3
    obtain⟨g3,e3⟩:=aX eH3 h1
    refine⟨_,p1,[27720],rfl,SqL.of e3,by decide,by decide,fun r h4=>?_⟩
    generalize eH4:upd H3 r _=H4
    obtain⟨g4,e4⟩:=aX eH4 h4
    obtain⟨d0,k0,b0⟩:=gm (c:=Ae (c+101 * (0+(i:Int)))) (i:=0) (ps:=[27720]) (by decide) rfl
    have a0:=aP (o5 k0)
    have s24:aR H2 H4:=g3.trans g4
    refine⟨r,_,_,_,rfl,rfl,SqL.of e4,a0,s24 _ _ eD,bu (by rw[ez,J8]; lia),⟨_,rfl⟩,cg (sm.trans s24) hD _,ao,ns++[d0],?_,?_,?_⟩
    ·rw[ez,K3]
     rfl
    ·rw[KR,ln]
     rfl
    ·intro x hx
     rcases List.mem_append.mp hx with z | z
     ·exact hns x z
     ·rw[List.mem_singleton.mp z]
      exact b0.1
   ·rintro zs σ' H2 ⟨_,sm,eD,ns,ez,ln,hns⟩
    exact q D ns H2 sm hD (by lia) hns (by rw[eD,ez])
abbrev iB:Stmt:=top 2
def Hs (H:Hp) (x C dx:Addr) (w:KH):Hp:=upd (upd (upd H x (xO x C none)) dx (.xd [("word",.str w)])) x (xO x C (some dx))
theorem Hj {H:Hp} {x C dx:Addr} {w:KH}:Hs H x C dx w x=some (xO x C (some dx)):=ao
theorem Hh {H:Hp} {x C dx:Addr} {w:KH} (h:dx≠x):Hs H x C dx w dx=some (.xd [("word",.str w)]):=(aC h).trans ao
theorem Cy:aG ["self","word"] ["self","word"] (au (inClass iB 0)):=⟨rfl,rfl,rfl,by decide+kernel,rfl,by decide+kernel,by decide+kernel⟩
inductive uK (K:Ky) (vs:List V) (H:Hp) (Q:VK):Prop where
 | mk (x C f:Addr) (w:KH) (z0:vs=[.ref x,.str w]) (z1:H x=some (xO x C none)) (z2:Bf K C f "word") (z3:∀ dx,dx≠x->H dx=none->Q .non (Hs H x C dx w)):uK K vs H Q
def lr (K:Ky):Sp:=fun vs H Q _=>uK K vs H Q
theorem Ck (F:Fun K "__init__" "BoonError.__init__" (inClass iB 0) f fd) (hv:mg "ValueError" = none):bL P w K mg base CX0 1 f fd ["self","word"] (lr K):=by
 refine F.ok Cy (fun vs H Q E h=>?_) (fun cdv A outer s H vs Q E hr h=>?_)
 ·obtain⟨x,C,f,w,rfl,_⟩:=h
  rfl
 ·obtain⟨x,C,f,w,rfl,hx,XC,q⟩:=h
  refine⟨_,ak (bJ (Cd rfl hv (aa (pv 0) (aa (pv 1) aj)))) (aq (Ep (pv 0) (pv 1) rfl)),?_⟩
  refine⟨_,rfl,_,rfl,x,C,f,"word",none,_,rfl,hx,XC,?_⟩
  refine⟨_,rfl,_,rfl,x,C,f,rfl,ao,XC,fun dx hd=>?_⟩
  have n:dx≠x:=fun z=>by rw[z,ao] at hd; cases hd
  rw[aC n] at hd
  exact q dx n hd
inductive ur (K:Ky) (w:KH) (vs:List V) (H:Hp) (Q:VK):Prop where
 | mk (x C f:Addr) (z0:vs=[.ref x]) (z1:H x=some (xO x C none)) (z2:Bf K C f "word") (z3:∀ dx,dx≠x->H dx=none->Q .non (Hs H x C dx w)):ur K w vs H Q
def mj (K:Ky) (w:KH):Sp:=fun vs H Q _=>ur K w vs H Q
structure Xc (P:Kq) (w:K1) (K:Ky) (mg:KH->Option Value) (base:Lh) (c:KH) (C:Addr) (wd:KH):Prop where
 ex:∃ (f:Addr) (fd:LK),bL P w K mg base CX0 2 f fd ["self"] (mj K wd)/\mg c=some (.ref C)/\Bf K C f "word"/\Binds K fd ["self"] []
def thrown (C:Addr) (w:KH) (H:Hp) (E:XK):Prop:=∀ dx H1,aR H H1->H1 dx=some (.xd [("word",.str w)])->E (.ref C) (some dx) H1
section
variable {X:Cx} {c wd:KH} {C:Addr} {p pos pos':Qs} {E:XK} {j:Nat}
def Hf (C:Addr) (w:KH) (E:XK):TS:=fun _ _ H=>thrown C w H E
theorem iY (D:Xc X.prog X.w X.K X.mg X.base c C wd) (hr:cT j X.A) (hc:X.calm=true) (hw:Throws X fun x C dx H=>E (.ref C) (some dx) (off H x)) (hk:3<=j:=by decide) (hg:Gl X c:=by rfl) (hdb:(c == ("__debug__" : KH))=false:=by decide) :
  PS X (.Raise (some (.Call (.Name c p) [] [] pos)) none pos') (Hf C wd E):=by
 obtain⟨f,fd,F,hm,XC,hb⟩:=D.ex
 intro pins s σ H De I h
 refine Bv (W:=fun x C dx H=>E (.ref C) (some dx) (off H x)) hc (Aw XC F (hr.mono hk) hg hm hb mL hdb) hw pins s σ H De I fun x hx=>?_
 refine⟨x,C,f,rfl,ao,XC,fun dx n hd=>⟨rfl,x,C,f,dx,"word",rfl,Hj,XC,?_⟩⟩
 rw[aC n] at hd
 refine h dx _ (fun b u e=>?_) ?_
 ·have e1:upd H x (xO x C none) b=some u:=by rw[aC (bO e hx)]; exact e
  have n1:b≠x:=bO e hx
  have n2:b≠dx:=bO e hd
  rw[off_ne n1]
  unfold Hs
  rw[aC n1,aC n2,aC n1]
  exact e1
 ·rw[off_ne n]
  exact Hh n
end
abbrev iw:Stmt:=top 3
theorem yS:aG ["self"] ["self"] (au (inClass iw 0)):=⟨rfl,rfl,rfl,by decide+kernel,rfl,by decide+kernel,by decide+kernel⟩
theorem zE {f fB CB:Addr} {mc:Value} {fd fdB:LK} (F:Fun K "__init__" "BadPledge.__init__" (inClass iw 0) f fd) (hB:mg "BoonError" = some (.ref CB)) (O:wu K CB mc "__init__" fB)
  (FB:bL P w K mg base CX0 1 fB fdB ["self","word"] (lr K)) (bB:Binds K fdB ["self","word"] []):bL P w K mg base CX0 2 f fd ["self"] (mj K "bad pledge"):=by
 refine F.ok yS (fun vs H Q E h=>?_) (fun cdv A outer s H vs Q E hr h=>?_)
 ·obtain⟨x,C,f,rfl,_⟩:=h
  rfl
 ·obtain⟨x,C,f,rfl,hx,XC,q⟩:=h
  refine⟨_,aq (bJ (gj rfl hB O FB hr bB .nil mL (aa (pv 0) (aa bf aj)))),?_⟩
  exact⟨_,rfl,x,C,f,_,rfl,hx,XC,fun dx n hd=>q dx n hd⟩
abbrev oH:Stmt:=top 4
theorem yN:aG ["self"] ["self"] (au (inClass oH 0)):=⟨rfl,rfl,rfl,by decide+kernel,rfl,by decide+kernel,by decide+kernel⟩
theorem yu {f fB CB:Addr} {mc:Value} {fd fdB:LK} (F:Fun K "__init__" "NoFolk.__init__" (inClass oH 0) f fd) (hB:mg "BoonError" = some (.ref CB)) (O:wu K CB mc "__init__" fB)
  (FB:bL P w K mg base CX0 1 fB fdB ["self","word"] (lr K)) (bB:Binds K fdB ["self","word"] []):bL P w K mg base CX0 2 f fd ["self"] (mj K "no folk"):=by
 refine F.ok yN (fun vs H Q E h=>?_) (fun cdv A outer s H vs Q E hr h=>?_)
 ·obtain⟨x,C,f,rfl,_⟩:=h
  rfl
 ·obtain⟨x,C,f,rfl,hx,XC,q⟩:=h
  refine⟨_,aq (bJ (gj rfl hB O FB hr bB .nil mL (aa (pv 0) (aa bf aj)))),?_⟩
  exact⟨_,rfl,x,C,f,_,rfl,hx,XC,fun dx n hd=>q dx n hd⟩
abbrev xY:Stmt:=top 5
theorem yg:aG ["self"] ["self"] (au (inClass xY 0)):=⟨rfl,rfl,rfl,by decide+kernel,rfl,by decide+kernel,by decide+kernel⟩
theorem yW {f fB CB:Addr} {mc:Value} {fd fdB:LK} (F:Fun K "__init__" "Gone.__init__" (inClass xY 0) f fd) (hB:mg "BoonError" = some (.ref CB)) (O:wu K CB mc "__init__" fB)
  (FB:bL P w K mg base CX0 1 fB fdB ["self","word"] (lr K)) (bB:Binds K fdB ["self","word"] []):bL P w K mg base CX0 2 f fd ["self"] (mj K "gone"):=by
 refine F.ok yg (fun vs H Q E h=>?_) (fun cdv A outer s H vs Q E hr h=>?_)
 ·obtain⟨x,C,f,rfl,_⟩:=h
  rfl
 ·obtain⟨x,C,f,rfl,hx,XC,q⟩:=h
  refine⟨_,aq (bJ (gj rfl hB O FB hr bB .nil mL (aa (pv 0) (aa bf aj)))),?_⟩
  exact⟨_,rfl,x,C,f,_,rfl,hx,XC,fun dx n hd=>q dx n hd⟩
abbrev zX:Stmt:=top 8
theorem xr:aG ["self"] ["self"] (au (inClass zX 0)):=⟨rfl,rfl,rfl,by decide+kernel,rfl,by decide+kernel,by decide+kernel⟩
theorem wY {f fB CB:Addr} {mc:Value} {fd fdB:LK} (F:Fun K "__init__" "Full.__init__" (inClass zX 0) f fd) (hB:mg "BoonError" = some (.ref CB)) (O:wu K CB mc "__init__" fB)
  (FB:bL P w K mg base CX0 1 fB fdB ["self","word"] (lr K)) (bB:Binds K fdB ["self","word"] []):bL P w K mg base CX0 2 f fd ["self"] (mj K "full"):=by
 refine F.ok xr (fun vs H Q E h=>?_) (fun cdv A outer s H vs Q E hr h=>?_)
 ·obtain⟨x,C,f,rfl,_⟩:=h
  rfl
 ·obtain⟨x,C,f,rfl,hx,XC,q⟩:=h
  refine⟨_,aq (bJ (gj rfl hB O FB hr bB .nil mL (aa (pv 0) (aa bf aj)))),?_⟩
  exact⟨_,rfl,x,C,f,_,rfl,hx,XC,fun dx n hd=>q dx n hd⟩
abbrev cZ:Stmt:=top 51
theorem c7:aG ["_law_asked","e"] ["_law_asked"] (au cZ):=⟨rfl,rfl,rfl,by decide+kernel,rfl,by decide+kernel,by decide+kernel⟩
def twWord (K:Ky) (G:Addr):Addr->(Hp->VK->XK->Prop)->VK->Hp->Prop:=fun _ sp Q H=>sp H (fun v H2=>[V.str "told",v].length<=sizeLine/\∀ a,H2 a=none->Q (.ref a) (upd H2 a (.tup [.str "told",v]))) (XW K G "word" Q)
theorem oZ {fW G:Addr} {k:Nat} (m_BoonError:mg "BoonError" = some (.ref G)) (f:Addr) (cdv:Value) (A:KY) (outer:List QZ) (s:J4) (H:Hp) (Q:VK) (j:Nat) (sp:Hp->VK->XK->Prop) (_:k=j+1)
  (hr:cT k (A.deeper (PyProof.Rows.envOfC "_law_word" (au cZ) s.heap.objs.size fW cdv))) (L:Hi (XL P w) P w K mg base k s H (frs outer) f sp) (h:twWord K G f sp Q H) :
  ∃ t,PSs (rK CX0 P w K mg base ["_law_asked","e"] "_law_word" (au cZ) fW cdv A outer s H E0) (bw cZ) t/\t { nx:=fun _ H'=>Q .non H',rt:=Q } (start ["_law_asked","e"] [.ref f]) H:=by
 refine⟨_,aq (G7 1 ⟨rfl,rfl⟩ rfl m_BoonError c7.nd rfl rfl fun pn E W hx=>aq (aH (bA (aa bf (aa (Gx L rfl hr hx (pv 0)) aj))))),?_⟩
 exact⟨_,rfl,rfl,h⟩
mutual
def mnF:Tm->List Nat
 | .free=>[]
 | .never=>[]
 | .gives i _=>[i]
 | .sum c _=>c
 | .crowd c _ _=>c
 | .all ts=>mnL ts
 | .any ts=>mnL ts
def mnL:List Tm->List Nat
 | []=>[]
 | t::r=>mnF t++mnL r
end
theorem jD:∀ (ts us:List Tm),mnL (ts++us)=mnL ts++mnL us
 | [],us=>by rw[mnL]; rfl
 | t::r,us=>by rw[List.cons_append,mnL,mnL,jD r us,Ra]
theorem uJ {ts:List Tm} {i:Nat} {t:Tm} (h:ts[i]? = some t):mnL (ts.take (i+1))=mnL (ts.take i)++mnF t:=by
 rw[LC,h,jD]
 show _++mnL [t]=_
 rw[mnL,mnL,Nb]
theorem uf:∀ {c:List Nat} {n:Nat},c.Pairwise (· < ·)->(∀ i∈c,i < n)->c.length<=n:=by
 have key:∀ (c:List Nat) (a n:Nat),c.Pairwise (· < ·)->(∀ i∈c,a<=i/\i < n)->c.length<=n - a:=by
  intro c
  induction c with
  | nil=>intro a n _ _; exact Lb _
  | cons x r ih =>
   intro a n hp hb
   rw[Nh] at hp
   have hx:=hb x KD
   have:=ih (x+1) n hp.2 fun i hi=>⟨hp.1 i hi,(hb i (KC _ hi)).2⟩
   rw[KZ]
   lia
 intro c n hp hb
 have:=key c 0 n hp fun i hi=>⟨Lb _,hb i hi⟩
 lia
mutual
theorem Du {n:Nat} {H:Hp} (hn:n<=12):∀ (d:Nat) {v:V} {t:Tm},iT n H v t->t.dep<=d+1->(mnF t).length<=12 * 6 ^ d
 | d,_,_,.free _,_=>by rw[mnF]; exact Lb _
 | d,_,_,.never _,_=>by rw[mnF]; exact Lb _
 | d,_,_,.gives _ _ _ _,_=>by
  rw[mnF]
  have:0 < 6 ^ d:=Nat.pow_pos (by decide)
  show 1<=_
  lia
 | d,_,_,.sum _ _ hc hp _ _ _ _,_=>by
  rw[mnF]
  have:=uf hp hc
  have:0 < 6 ^ d:=Nat.pow_pos (by decide)
  lia
 | d,_,_,.crowd _ _ hc hp _ _ _ _ _ _,_=>by
  rw[mnF]
  have:=uf hp hc
  have:0 < 6 ^ d:=Nat.pow_pos (by decide)
  lia
 | 0,_,_,.all (vs:=vs) (ts:=ts) _ _ l2 _ rl,hd=>by
  have:=nM rl l2
  rw[Tm.dep] at hd
  lia
 | d+1,_,_,.all (ts:=ts) _ _ _ l6 rl,hd=>by
  rw[mnF]
  rw[Tm.dep] at hd
  have h1:=rP hn d rl (by lia)
  have h2:=rl.length
  have h3:ts.length * (12 * 6 ^ d)<=6 * (12 * 6 ^ d):=Nat.mul_le_mul_right _ (by lia)
  rw[Nat.pow_succ]
  lia
 | 0,_,_,.any (vs:=vs) (ts:=ts) _ _ l2 _ rl,hd=>by
  have:=nM rl l2
  rw[Tm.dep] at hd
  lia
 | d+1,_,_,.any (ts:=ts) _ _ _ l6 rl,hd=>by
  rw[mnF]
  rw[Tm.dep] at hd
  have h1:=rP hn d rl (by lia)
  have h2:=rl.length
  have h3:ts.length * (12 * 6 ^ d)<=6 * (12 * 6 ^ d):=Nat.mul_le_mul_right _ (by lia)
  rw[Nat.pow_succ]
  lia
theorem rP {n:Nat} {H:Hp} (hn:n<=12):∀ (d:Nat) {vs:List V} {ts:List Tm},cU n H vs ts->tdL ts<=d+1->(mnL ts).length<=ts.length * (12 * 6 ^ d)
 | d,_,_,.nil,_=>by rw[mnL]; exact Lb _
 | d,_,_,.cons (ts:=ts) h r,hd=>by
  rw[tdL] at hd
  have h1:=Du hn d h (by lia)
  have h2:=rP hn d r (by lia)
  rw[mnL,KR,KZ,Nat.add_mul,Nat.one_mul]
  lia
theorem nM {n:Nat} {H:Hp}:∀ {vs:List V} {ts:List Tm},cU n H vs ts->2<=vs.length->1<=tdL ts
 | _,_,.nil,h=>by simp at h
 | _,_,.cons (t:=t) _ _,_=>by
  rw[tdL]
  have:=t.oX
  lia
end
mutual
theorem HJ {n:Nat} {H:Hp}:∀ {v:V} {t:Tm},iT n H v t->∀ i∈mnF t,i < n
 | _,_,.free _=>fun i hi=>by rw[mnF] at hi; cases hi
 | _,_,.never _=>fun i hi=>by rw[mnF] at hi; cases hi
 | _,_,.gives _ h _ _=>fun i hi=>by rw[mnF] at hi; rw[List.mem_singleton.mp hi]; exact h
 | _,_,.sum _ _ hc _ _ _ _ _=>fun i hi=>by rw[mnF] at hi; exact hc i hi
 | _,_,.crowd _ _ hc _ _ _ _ _ _ _=>fun i hi=>by rw[mnF] at hi; exact hc i hi
 | _,_,.all _ _ _ _ rl=>fun i hi=>by rw[mnF] at hi; exact yw rl i hi
 | _,_,.any _ _ _ _ rl=>fun i hi=>by rw[mnF] at hi; exact yw rl i hi
theorem yw {n:Nat} {H:Hp}:∀ {vs:List V} {ts:List Tm},cU n H vs ts->∀ i∈mnL ts,i < n
 | _,_,.nil=>fun i hi=>by rw[mnL] at hi; cases hi
 | _,_,.cons h r=>fun i hi=>by
  rw[mnL] at hi
  rcases List.mem_append.mp hi with z | z
  ·exact HJ h i z
  ·exact yw r i z
end
theorem JD {d:Nat} (h:d<=4):12 * 6 ^ (d - 1)<=2592:=by
 have:6 ^ (d - 1)<=6 ^ 3:=Nat.pow_le_pow_right (by decide) (by lia)
 have:(6:Nat) ^ 3=216:=by decide
 lia
theorem vB {n d:Nat} {H:Hp} {v:V} {t:Tm} (hn:n<=12) (h4:d<=4) (r:iT n H v t) (hd:t.dep<=d):(mnF t).length<=2592:=by
 have:=t.oX
 exact K7 (Du hn (d - 1) r (by lia)) (JD h4)
theorem HB {ts:List Tm} (i:Nat):(mnL (ts.take i)).length<=(mnL ts).length:=by
 have:=congrArg List.length (jD (ts.take i) (ts.drop i))
 rw[List.take_append_drop,KR] at this
 lia
inductive zG (d:Nat) (vs:List V) (H:Hp) (Q:VK):Prop where
 | mk (v:V) (n:Nat) (t:Tm) (z0:vs=[v]) (z1:iT n H v t) (z2:t.dep<=d) (z3:d<=4) (z4:n<=12) (z5:∀ (r:Addr) (H':Hp),aR H H'->H r=none->H' r=some (.lst ((mnF t).map vN))->Q (.ref r) H'):zG d vs H Q
def mz (d:Nat):Sp:=fun vs H Q _=>zG d vs H Q
theorem zO {ps:List KH}:bL P w K mg base CX0 0 f fd ps (mz 0):=by
 have no:∀ vs H Q E,¬ mz 0 vs H Q E:=fun vs H Q E h=>by
  obtain⟨v,n,t,_,_,h1,_⟩:=h
  have:=t.oX
  lia
 exact⟨fun vs H Q E h=>absurd h (no vs H Q E),fun A outer s H args us vs Q E _ _ _ _ h=>absurd h (no vs H Q E)⟩
abbrev jn:Stmt:=top 26
theorem kO:aG ["term","kind"] ["term"] (au jn):=⟨rfl,rfl,rfl,by decide+kernel,rfl,by decide+kernel,by decide+kernel⟩
theorem eZ {d:Nat} (F:Fun K "mentions" "mentions" jn f fd) (B:Bt mg)
  (D_mentions:Df P w K mg base "mentions" d ["term"] (mz d)):bL P w K mg base CX0 (d+1) f fd ["term"] (mz (d+1)):=by
 refine F.ok kO (fun vs H Q E h=>?_) (fun cdv A outer s H vs Q E hr h=>?_)
 ·obtain⟨v,n,t,rfl,_⟩:=h
  rfl
 ·obtain⟨v,n,t,rfl,rt,hd,h4,hn,q⟩:=h
  refine⟨_,(ak (aY (i:=1) kO.nd rfl (K5 rfl) (bK (r:=gB K) bz (pv 0) az (fun _ _=>rfl)))
 (ak (bc (aK cH (pv 1) bf (aN _)) (aq (aH (dI (aa (bK (r:=gB K) bz (pv 0) az (fun _ _=>rfl)) aj)))) aJ)
 (ak (bc (PW.pt (jV (aK cH (pv 1) bf (aN _)) (fM (aK cH (pv 1) bf (aN _))))) (aq (aH (fV (r:=rO K) mX rfl B.list_ oh (aa (bK (r:=gB K) bz (pv 0) az (fun _ _=>rfl)) aj)))) aJ)
 (ak (bc (PW.pt (jV (aK cH (pv 1) bf (aN _)) (fM (aK cH (pv 1) bf (aN _))))) (aq (aH (Aq (L:=["part","one"]) (F:=[]) (cap:=[]) rfl (cz rfl rfl (by kernel_rfl)) (fu (bK (r:=gB K) bz (pv 0) az (fun _ _=>rfl))) (fun _ _ _ _ _=>(aQ (i:=0) (bV (by decide+kernel)) rfl (K5 rfl))) (fun _ _ _ _ _=>(BV K rfl (bh D_mentions hr (aa (pv 0) aj)))) (fun _ _ _ _ _=>(aQ (i:=1) (bV (by decide+kernel)) rfl (K5 rfl))) (fun _ _ _ _ _=>(pv 1))))) aJ)
 (aq (aH (dI aj))))))),?_⟩
  have small':=vB hn h4 rt hd
  have parts:∀ {b:Addr} {us:List V} {ts:List Tm},H b=some (.tup us)->cU n H us ts->tdL ts<=d->(mnL ts).length<=2592->∀ {σ':St} {D:Addr},H D=none->(∀ H2,aR H H2->H2 D=some (.lst ((mnL ts).map vN))->Q (.ref D) H2) →
    kh D [none,none] (Itt K b) (iz 0) (Ao K (oU (mz d) [] E0 (aW (dH 0) dW))) (iz 1) (dH 1) H (fun H2=>Q (.ref D) H2):=by
   intro b us ts hb rl hdl lm σ' D hD hq
   have el:=rl.length
   refine zq (K:=K) (a:=b) (xs:=us) (fun i zs σ' H2=>(∃ u v,σ'=[u,v])/\aR H H2/\H2 D=some (.lst zs)/\zs=(mnL (ts.take i)).map vN) ⟨⟨_,_,rfl⟩,aB hD _,ao,by rw[Lz,mnL]; rfl⟩ (fun i zs σ' H2 _ h=>SqT.of (h.2.1 _ _ hb)) ?_ ?_
   ·rintro i zs x σ' H2 hx ⟨⟨u,v,rfl⟩,sm,eD,ez⟩
    obtain⟨t',ht,rt'⟩:=rl.get hx
    refine⟨_,rfl,x,n,t',rfl,rt'.mono sm,K7 (lR ht) hdl,by lia,hn,fun r H3 s3 fr er=>?_⟩
    have hrD:r≠D:=fun z=>by rw[z,eD] at fr; cases fr
    refine⟨r,rfl,⟨_,SqL.of er⟩,Br (K:=K) (b:=r) (ws:=(mnF t').map vN) (fun j ws σ' H4=>(∃ u,σ'=[some x,u])/\aR H H4/\H4 r=some (.lst ((mnF t').map vN))/\H4 D=some (.lst ws)/\ws=(mnL (ts.take i)++(mnF t').take j).map vN)
     ⟨⟨_,rfl⟩,sm.trans s3,er,s3 _ _ eD,by rw[Lz,Nb]; exact ez⟩ (fun j ws σ' H4 _ h=>SqL.of h.2.2.1) ?_ ?_⟩
    ·rintro j ws y σ' H4 hy ⟨⟨u,rfl⟩,s4,er4,eD4,ew⟩
     obtain⟨m,hm,rfl⟩:=Bw hy
     have hlen:ws.length<=2592:=by
      have h1:=HB (ts:=ts) (i+1)
      rw[uJ ht,KR] at h1
      rw[ew,J8,KR,Lk]
      lia
     refine⟨_,rfl,eD4,Qf hlen (by decide),⟨_,rfl⟩,cg s4 hD _,?_,ao,?_⟩
     ·rw[aC hrD]
      exact er4
     ·rw[ew,LC,hm,← Ra]
      show _=List.map vN ((mnL (ts.take i)++(mnF t').take j)++[m])
      rw[K3 (l₁:=mnL (ts.take i)++(mnF t').take j)]
      rfl
    ·rintro ws σ' H4 ⟨⟨u,rfl⟩,s4,er4,eD4,ew⟩
     rw[J8,Ld,← uJ ht] at ew
     exact⟨⟨_,_,rfl⟩,s4,eD4,ew⟩
   ·rintro zs σ' H2 ⟨_,sm,eD,ez⟩
    rw[el,Ld] at ez
    exact hq H2 sm (by rw[eD,ez])
  cases rt with
  | @free a ha =>
   refine⟨_,rfl,a,_,_,_,rfl,rfl,SqT.of ha,aP (k:=0) rfl,?_⟩
   refine⟨_,rfl,rfl,_,rfl,bW (aL (by decide)) ?_⟩
   refine⟨_,rfl,rfl,_,rfl,bW (aL (by decide)) ⟨_,rfl,rfl,_,rfl,bW (aL (by decide)) ?_⟩⟩
   refine⟨_,rfl,rfl,_,rfl,bW (aL (by decide)) ⟨_,rfl,rfl,_,rfl,bW (aL (by decide)) ?_⟩⟩
   exact⟨small (by show 0<=1000; decide),fun r h0=>q r _ (aB h0 _) h0 (by rw[ao,mnF]; rfl)⟩
  | @never a ha =>
   refine⟨_,rfl,a,_,_,_,rfl,rfl,SqT.of ha,aP (k:=0) rfl,?_⟩
   refine⟨_,rfl,rfl,_,rfl,bW (aL (by decide)) ?_⟩
   refine⟨_,rfl,rfl,_,rfl,bW (aL (by decide)) ⟨_,rfl,rfl,_,rfl,bW (aL (by decide)) ?_⟩⟩
   refine⟨_,rfl,rfl,_,rfl,bW (aL (by decide)) ⟨_,rfl,rfl,_,rfl,bW (aL (by decide)) ?_⟩⟩
   exact⟨small (by show 0<=1000; decide),fun r h0=>q r _ (aB h0 _) h0 (by rw[ao,mnF]; rfl)⟩
  | @gives a i k ha hi k1 k9 =>
   refine⟨_,rfl,a,_,_,_,rfl,rfl,SqT.of ha,aP (k:=0) rfl,?_⟩
   refine⟨_,rfl,rfl,_,rfl,mK rfl ?_⟩
   exact⟨_,rfl,a,_,_,_,rfl,rfl,SqT.of ha,aP (k:=1) rfl,small (by show 1<=1000; decide),fun r h0=>q r _ (aB h0 _) h0 (by rw[ao,mnF]; rfl)⟩
  | @sum a b c k ha hb hc hp l20 l2 k1 k99 =>
   refine⟨_,rfl,a,_,_,_,rfl,rfl,SqT.of ha,aP (k:=0) rfl,?_⟩
   refine⟨_,rfl,rfl,_,rfl,bW (aL (by decide)) ?_⟩
   refine⟨_,rfl,rfl,_,rfl,mK rfl (dF ?_)⟩
   exact⟨_,rfl,a,_,_,_,rfl,rfl,SqT.of ha,aP (k:=1) rfl,b,_,rfl,.inr (SqT.of hb),fun r h0=>q r _ (aB h0 _) h0 (by rw[ao,mnF])⟩
  | @crowd a b c k mm ha hb hc hp l20 l1 k1 k9 m1 m12 =>
   refine⟨_,rfl,a,_,_,_,rfl,rfl,SqT.of ha,aP (k:=0) rfl,?_⟩
   refine⟨_,rfl,rfl,_,rfl,bW (aL (by decide)) ?_⟩
   refine⟨_,rfl,rfl,_,rfl,bW (aL (by decide)) ⟨_,rfl,rfl,_,rfl,mK rfl ?_⟩⟩
   exact⟨_,rfl,a,_,_,_,rfl,rfl,SqT.of ha,aP (k:=1) rfl,b,_,rfl,.inr (SqT.of hb),fun r h0=>q r _ (aB h0 _) h0 (by rw[ao,mnF])⟩
  | @all a b us ts ha hb l2 l6 rl =>
   have hdl:tdL ts<=d:=by rw[Tm.dep] at hd; lia
   rw[mnF] at small'
   refine⟨_,rfl,a,_,_,_,rfl,rfl,SqT.of ha,aP (k:=0) rfl,?_⟩
   refine⟨_,rfl,rfl,_,rfl,bW (aL (by decide)) ?_⟩
   refine⟨_,rfl,rfl,_,rfl,bW (aL (by decide)) ⟨_,rfl,rfl,_,rfl,bW (aL (by decide)) ?_⟩⟩
   refine⟨_,rfl,rfl,_,rfl,mK rfl (dF ?_)⟩
   exact⟨_,rfl,a,_,_,_,rfl,rfl,SqT.of ha,aP (k:=1) rfl,b,rfl,⟨_,SqT.of hb⟩,fun D hD=>parts (σ':=[]) hb rl hdl small' hD fun H2 sm eD=>q D H2 sm hD (by rw[eD,mnF])⟩
  | @any a b us ts ha hb l2 l6 rl =>
   have hdl:tdL ts<=d:=by rw[Tm.dep] at hd; lia
   rw[mnF] at small'
   refine⟨_,rfl,a,_,_,_,rfl,rfl,SqT.of ha,aP (k:=0) rfl,?_⟩
   refine⟨_,rfl,rfl,_,rfl,bW (aL (by decide)) ?_⟩
   refine⟨_,rfl,rfl,_,rfl,bW (aL (by decide)) ⟨_,rfl,rfl,_,rfl,bW (aL (by decide)) ?_⟩⟩
   refine⟨_,rfl,rfl,_,rfl,bW (aL (by decide)) ⟨_,rfl,rfl,_,rfl,mK rfl ?_⟩⟩
   exact⟨_,rfl,a,_,_,_,rfl,rfl,SqT.of ha,aP (k:=1) rfl,b,rfl,⟨_,SqT.of hb⟩,fun D hD=>parts (σ':=[]) hb rl hdl small' hD fun H2 sm eD=>q D H2 sm hD (by rw[eD,mnF])⟩
def nmI (c:List Nat) (ms:List Int):Prop:=ms.Perm (ddI (c.map fun i:Nat=>(i:Int)))/\ms.Pairwise (·<=·)
theorem yr:∀ (ns acc:List Int) (x:Int),x∈ns.foldl MJ acc->x∈acc∨x∈ns
 | [],acc,x,h=>.inl h
 | n::r,acc,x,h=>by
  rw[NT] at h
  rcases yr r _ x h with z | z
  ·unfold MJ at z
   split at z
   ·exact .inl z
   ·rcases List.mem_append.mp z with y | y
    ·exact .inl y
    ·rw[List.mem_singleton.mp y]
     exact .inr KD
  ·exact .inr (KC _ z)
theorem pC:∀ (n:Nat) (l:List Int),l.Nodup->(∀ x∈l,0<=x/\x < (n:Int))->l.length<=n
 | 0,l,_,h=>by
  cases l with
  | nil=>exact Lb _
  | cons x r =>
   have:=h x KD
   lia
 | n+1,l,nd,h=>by
  have h1:=pC n (l.erase (n:Int)) (nd.erase _) fun x hx=>by
   have hx':=List.mem_of_mem_erase hx
   have b:=h x hx'
   have ne:x≠(n:Int):=fun z=>by
    rw[z] at hx
    exact (List.Nodup.mem_erase_iff nd).mp hx |>.1 rfl
   lia
  have h2:l.length<=(l.erase (n:Int)).length+1:=by
   rw[List.length_erase]
   split <;> lia
  lia
theorem Im {c:List Nat} {n:Nat} (h:∀ i∈c,i < n):(ddI (c.map fun i:Nat=>(i:Int))).length<=n:=by
 rw[Dd]
 refine pC n _ (uX _ [] List.nodup_nil) fun x hx=>?_
 rcases yr _ [] x hx with z | z
 ·cases z
 ·obtain⟨i,hi,rfl⟩:=List.mem_map.mp z
  have:=h i hi
  lia
abbrev sy:Stmt:=top 27
theorem Cp:aG ["term"] ["term"] (au sy):=⟨rfl,rfl,rfl,by decide+kernel,rfl,by decide+kernel,by decide+kernel⟩
inductive um (vs:List V) (H:Hp) (Q:VK):Prop where
 | mk (v:V) (n:Nat) (t:Tm) (z0:vs=[v]) (z1:iT n H v t) (z2:t.dep<=4) (z3:n<=12) (z4:∀ (r:Addr) (ms:List Int) (H':Hp),aR H H'->H r=none->nmI (mnF t) ms->H' r=some (.lst (ms.map V.int))->Q (.ref r) H'):um  vs H Q
def zg:Sp:=fun vs H Q _=>um  vs H Q
theorem Ay {k:Nat} (F:Fun K "named" "named" sy f fd) (B:Bt mg)
  (D_mentions:Df P w K mg base "mentions" k ["term"] (mz 4)):bL P w K mg base CX0 (k+1) f fd ["term"] zg:=by
 refine F.ok Cp (fun vs H Q E h=>?_) (fun cdv A outer s H vs Q E hr h=>?_)
 ·obtain⟨v,n,t,rfl,_⟩:=h
  rfl
 ·obtain⟨v,n,t,rfl,rt,hd,hn,q⟩:=h
  refine⟨_,(aq (aH (qO rfl rfl B.sorted_ rfl B.set_ (aa (bh D_mentions hr (aa (pv 0) aj)) aj)))),?_⟩
  refine⟨_,rfl,v,n,t,rfl,rt,hd,by decide,hn,fun r H1 s1 fr er=>?_⟩
  have lm:=vB hn (Kc 4) rt hd
  have ld:=Im (HJ rt)
  refine⟨r,(mnF t).map fun i:Nat=>(i:Int),rfl,SqL.of (by rw[er,lJ]),by rw[J8]; lia,by lia,fun ms pm so l hl=>?_⟩
  exact q l ms _ (s1.trans (aB hl _)) (s1.free hl) ⟨pm,so⟩ ao
abbrev iu:Stmt:=top 13
abbrev jw:Stmt:=top 19
abbrev iy:Stmt:=top 20
abbrev cV:Stmt:=top 21
abbrev lF:Stmt:=top 22
theorem qd:aG ["thing","low","high"] ["thing","low","high"] (au iu):=⟨rfl,rfl,rfl,by decide+kernel,rfl,by decide+kernel,by decide+kernel⟩
theorem eH:aG ["many","thing","fewest","lowest_left","one"] ["many","thing","fewest"] (au jw):=⟨rfl,rfl,rfl,by decide+kernel,rfl,by decide+kernel,by decide+kernel⟩
theorem pK:aG ["many","thing","deep"] ["many","thing","deep"] (au iy):=⟨rfl,rfl,rfl,by decide+kernel,rfl,by decide+kernel,by decide+kernel⟩
theorem d7:aG ["many","thing","deep","kind"] ["many","thing","deep"] (au cV):=⟨rfl,rfl,rfl,by decide+kernel,rfl,by decide+kernel,by decide+kernel⟩
theorem wG:aG ["many","term"] ["many","term"] (au lF):=⟨rfl,rfl,rfl,by decide+kernel,rfl,by decide+kernel,by decide+kernel⟩
def isNum:V->Int->Int->Bool
 | .int i,lo,hi=>decide (lo<=i) && decide (i<=hi)
 | _,_,_=>false
inductive NV:V->Prop where
 | int (i:Int):NV (.int i)
 | str (x:KH):NV (.str x)
inductive vd (vs:List V) (H:Hp) (Q:VK):Prop where
 | mk (x:V) (lo hi:Int) (z0:vs=[x,.int lo,.int hi]) (z1:NV x) (z2:Q (.bl (isNum x lo hi)) H):vd  vs H Q
def eU:Sp:=fun vs H Q _=>vd  vs H Q
theorem pG (F:Fun K "is_number" "is_number" iu f fd) (B:Bt mg) :
  bL P w K mg base CX0 1 f fd ["thing","low","high"] eU:=by
 refine F.ok qd (fun vs H Q E h=>?_) (fun cdv A outer s H vs Q E hr h=>?_)
 ·obtain⟨x,lo,hi,rfl,_⟩:=h
  rfl
 ·obtain⟨x,lo,hi,rfl,pl,q⟩:=h
  refine⟨_,(aq (aH (dq (aA (r:=ph K) bH rfl B.isinstance_ aM (aa (pv 0) (aa (fX B.int_ yC) aj))) (dq (GR (aA (r:=ph K) bH rfl B.isinstance_ aM (aa (pv 0) (aa (fX B.bool_ sS) aj)))) (dq (cA GF (pv 1) (pv 0) (aN _)) (iR (cA GF (pv 0) (pv 2) (aN _)))))))),?_⟩
  cases pl with
  | int i =>
   refine⟨_,rfl,_,_,_,_,rfl,.int i,cR _ _,_,rfl,dF ?_⟩
   refine⟨_,rfl,_,_,_,_,rfl,.int i,gW _,_,rfl,_,rfl,dF ?_⟩
   refine⟨_,rfl,_,rfl,_,_,rfl,rfl,_,rfl,?_⟩
   have e:isNum (.int i) lo hi=(decide (lo<=i) && decide (i<=hi)):=rfl
   rw[e] at q
   cases c:decide (lo<=i) with
   | true =>
    rw[c] at q
    exact dF ⟨_,rfl,_,rfl,_,_,rfl,rfl,q⟩
   | false =>
    rw[c] at q
    exact cj q
  | str y=>exact⟨_,rfl,_,_,_,_,rfl,.str y,wN _,_,rfl,cj q⟩
theorem gf {k lo hi:Int} (h1:lo<=k) (h2:k<=hi):isNum (.int k) lo hi=true:=by
 show (decide (lo<=k) && decide (k<=hi))=true
 rw[decide_eq_true h1,decide_eq_true h2]
 rfl
theorem uA {i m:Nat} {lo:Int} (h:lo<=(i:Int)):isNum (.int (i:Int)) lo ((m:Int) - 1)=decide (i < m):=by
 show (decide (lo<=(i:Int)) && decide ((i:Int)<=(m:Int) - 1))=decide (i < m)
 rw[decide_eq_true h,PN]
 exact decide_eq_decide.mpr ⟨fun z=>by lia,fun z=>by lia⟩
def ltF (m:Nat) (c:List Nat):Bool:=c.all fun i=>decide (i < m)
theorem yj (m:Nat) (a b:List Nat):ltF m (a++b)=(ltF m a && ltF m b):=List.all_append
theorem yF {m:Nat} {c:List Nat}:ltF m c=true ↔ ∀ i∈c,i < m:=by
 unfold ltF
 rw[List.all_eq_true]
 exact⟨fun h i hi=>of_decide_eq_true (h i hi),fun h i hi=>decide_eq_true (h i hi)⟩
theorem G3 {m i:Nat} {c:List Nat} (h:i∈c) (hm:¬ i < m):ltF m c=false:=by
 cases e:ltF m c with
 | false=>rfl
 | true=>exact absurd (yF.mp e i h) hm
inductive zY (vs:List V) (H:Hp) (Q:VK):Prop where
 | mk (b:Addr) (c:List Nat) (m:Nat) (few:Int) (z0:vs=[.int (m:Int),.ref b,.int few]) (z1:H b=some (.tup (c.map vN))) (z2:c.Pairwise (· < ·)) (z3:few<=(c.length:Int)) (z4:Q (.bl (ltF m c)) H):zY  vs H Q
def CQ:Sp:=fun vs H Q _=>zY  vs H Q
theorem sV (F:Fun K "is_crowd" "is_crowd" jw f fd) (B:Bt mg)
  (D_is_number:Df P w K mg base "is_number" 1 ["thing","low","high"] eU):bL P w K mg base CX0 2 f fd ["many","thing","fewest"] CQ:=by
 refine F.ok eH (fun vs H Q E h=>?_) (fun cdv A outer s H vs Q E hr h=>?_)
 ·obtain⟨b,c,m,few,rfl,_⟩:=h
  rfl
 ·obtain⟨b,c,m,few,rfl,hb,hp,hf,q⟩:=h
  refine⟨_,(ak (bc (PW.pt (jV (cJ (bR (aA (r:=ph K) bH rfl B.isinstance_ aM (aa (pv 1) (aa (fX B.tuple_ cP) aj))))) (fM (aK tO (aA (r:=ik K) aO rfl B.len_ bI (aa (pv 1) aj)) (pv 2) (aN _))))) (aq (aH dU)) aJ)
 (ak (aY (i:=3) eH.nd rfl (K5 rfl) az)
 (ak (gJ M8 rfl (fu (pv 1)) (aQ (i:=4) eH.nd rfl (K5 rfl)) (ak (bc (cJ (bR (bh D_is_number hr (aa (pv 4) (aa (pv 3) (aa (bD kJ (pv 0) az) aj)))))) (aq (aH dU)) aJ)
 (aq (aY (i:=3) eH.nd rfl (K5 rfl) (bD fj (pv 4) az)))))
 (aq (aH dU))))),?_⟩
  refine⟨_,rfl,_,_,_,_,rfl,.tup hb,cR _ _,_,rfl,cj ?_⟩
  refine⟨_,rfl,b,_,rfl,.inr (SqT.of hb),_,rfl,_,_,rfl,rfl,_,rfl,?_⟩
  refine bW (by rw[J8]; lia) ?_
  refine⟨_,rfl,b,rfl,⟨_,SqT.of hb⟩,lK (K:=K) (a:=b) (xs:=c.map vN) (fun i σ H2=>H2=H/\∃ (lo:Int) (u:Option V),σ=[some (.int (m:Int)),some (.ref b),some (.int few),some (.int lo),u]/\(∀ x∈c.drop i,lo<=((x:Nat):Int))/\ltF m (c.take i)=true) ⟨rfl,0,_,rfl,fun x _=>by lia,by rw[Lz]; rfl⟩ (fun i σ H2 _ h2=>by rw[h2.1]; exact SqT.of hb) ?_ ?_⟩
  ·rintro i x σ H2 hx ⟨rfl,lo,u,rfl,hlo,hlt⟩
   obtain⟨y,hy,rfl⟩:=Bw hx
   have hi:i < c.length:=(List.getElem?_eq_some_iff.mp hy).1
   have ey:c[i]=y:=(List.getElem?_eq_some_iff.mp hy).2
   have ed:c.drop i=y::c.drop (i+1):=by rw[Q6 hi,ey]
   have hl:=hlo y (by rw[ed]; exact KD)
   refine⟨_,rfl,_,rfl,_,rfl,_,_,rfl,rfl,vN y,lo,(m:Int) - 1,rfl,.int _,_,rfl,?_⟩
   rw[show vN y=V.int (y:Int) from rfl,uA hl]
   by_cases hm:y < m
   ·rw[decide_eq_true hm]
    refine cj ⟨_,rfl,_,_,rfl,rfl,rfl,(y:Int)+1,_,rfl,fun x hx=>?_,?_⟩
    ·have h1:=hp.drop (i:=i)
     rw[ed,Nh] at h1
     have:=h1.1 x hx
     lia
    ·rw[LC,hy,yj,hlt,PN]
     show (decide (y < m) && true)=true
     rw[decide_eq_true hm]
     rfl
   ·rw[decide_eq_false hm]
    refine dF ?_
    rw[G3 (K8 hy) hm] at q
    exact q
  ·rintro σ H2 ⟨rfl,lo,u,rfl,hlo,hlt⟩
   rw[J8,Ld] at hlt
   rw[hlt] at q
   exact q
theorem ne0 {n:Nat} (h:n≠0):¬ V.int (n:Int)=V.int 0:=fun z=>h (by injection z with z; lia)
inductive qG (k:Nat) (vs:List V) (H:Hp) (Q:VK):Prop where
 | mk (v:V) (m dp:Nat) (z0:vs=[.int (m:Int),v,.int (dp:Int)]) (z1:1<=dp) (z2:dp<=k) (z3:((∃ (n:Nat) (t:Tm),iT n H v t/\t.dep<=dp/\∀ H',aR H H'->Q (.bl (ltF m (mnF t))) H')∨(∃ e:Addr,v = .ref e/\H e=some (.tup [])/\Q (.bl false) H))):qG k vs H Q
def gr (k:Nat):Sp:=fun vs H Q _=>qG k vs H Q
inductive t7 (k:Nat) (vs:List V) (H:Hp) (Q:VK):Prop where
 | mk (b:Addr) (us:List V) (ts:List Tm) (n m dp:Nat) (z0:vs=[.int (m:Int),.ref b,.int (dp:Int)]) (z1:dp<=k) (z2:H b=some (.tup us)) (z3:2<=us.length) (z4:us.length<=6) (z5:cU n H us ts) (z6:tdL ts<=dp) (z7:1<=dp) (z8:∀ H',aR H H'->Q (.bl (ltF m (mnL ts))) H'):t7 k vs H Q
def yo (k:Nat):Sp:=fun vs H Q _=>t7 k vs H Q
theorem zb (m:Nat):∀ ts:List Tm,(ts.map fun t=>ltF m (mnF t)).all (fun b=>b)=ltF m (mnL ts)
 | []=>by rw[mnL]; rfl
 | t::r=>by
  have ih:=zb m r
  rw[mnL,yj,← ih]
  rfl
theorem dB {n k:Nat} {t1 t2:Tok} (F:Fun K "are_parts" "are_parts" iy f fd) (B:Bt mg) (c_FEWEST_PARTS:mg "FEWEST_PARTS" = some (.int 2 t1)) (c_MOST_PARTS:mg "MOST_PARTS" = some (.int 6 t2))
  (hk:1<=k) (D_is_number:Df P w K mg base "is_number" 1 ["thing","low","high"] eU) (D_is_term_within:Df P w K mg base "is_term_within" k ["many","thing","deep"] (gr n)):bL P w K mg base CX0 (k+1) f fd ["many","thing","deep"] (yo n):=by
 refine F.ok pK (fun vs H Q E h=>?_) (fun cdv A outer s H vs Q E hr h=>?_)
 ·obtain⟨b,us,ts,n0,m,dp,rfl,_⟩:=h
  rfl
 ·obtain⟨b,us,ts,n0,m,dp,rfl,hdp,hb,l2,l6,rl,hd,d1,q⟩:=h
  refine⟨_,(ak (bc (PW.pt (jV (cJ (bR (aA (r:=ph K) bH rfl B.isinstance_ aM (aa (pv 1) (aa (fX B.tuple_ cP) aj))))) (fM (cJ (bR (bh D_is_number hr (aa (aA (r:=ik K) aO rfl B.len_ bI (aa (pv 1) aj)) (aa (jX c_FEWEST_PARTS) (aa (jX c_MOST_PARTS) aj))))))))) (aq (aH dU)) aJ)
 (aq (aH (aA (r:=Ex K) (rF rfl) rfl B.all_ Dl (aa (eQ (L:=["part"]) (F:=["many","deep"]) (cap:=[0,2]) rfl (cz rfl rfl (by kernel_rfl)) (fu (pv 1)) (fun _ _ _ _ _=>(aQ (i:=0) (bV (by decide+kernel)) rfl (K5 rfl))) (fun _ _ _ _ _=>kW) (fun _ _ _ _ _=>(bh D_is_term_within hr (aa (pv 1) (aa (pv 0) (aa (pv 2) aj)))))) aj))))),?_⟩
  have el:=rl.length
  refine⟨_,rfl,_,_,_,_,rfl,.tup hb,cR _ _,_,rfl,cj ?_⟩
  refine⟨_,rfl,b,_,rfl,.inr (SqT.of hb),.int (us.length:Int),2,6,rfl,.int _,_,rfl,?_⟩
  rw[gf (by lia) (by lia)]
  refine cj ⟨_,rfl,b,rfl,⟨_,SqT.of hb⟩,fun D hD=>gq (K:=K) (a:=b) (xs:=us) (fun i zs σ' H2=>(∃ u,σ'=[u,some (.int (m:Int)),some (.int (dp:Int))])/\zs=((ts.take i).map fun t=>ltF m (mnF t)).map V.bl/\aR H H2/\H2 D=some (.lst zs))
   ⟨⟨_,rfl⟩,rfl,aB hD _,ao⟩ (fun i zs σ' H2 _ h2=>⟨mW h2.2.2.1 (SqT.of hb),h2.2.2.2⟩) ?_ ?_⟩
  ·rintro i zs x σ' H2 hx ⟨⟨u,rfl⟩,e1,sm,hDl⟩
   have hi:i < us.length:=(List.getElem?_eq_some_iff.mp hx).1
   obtain⟨t,ht,rt⟩:=rl.get hx
   refine gT ?_
   refine⟨_,rfl,_,rfl,_,rfl,x,m,dp,rfl,d1,hdp,.inl ⟨n0,t,rt.mono sm,K7 (lR ht) hd,fun H3 s3=>⟨s3 _ _ hDl,?_,⟨_,rfl⟩,?_,cg (sm.trans s3) hD _,ao⟩⟩⟩
   ·rw[e1,J8,J8,Lk]
    exact bu (by lia)
   ·rw[e1,LC,ht,K3,K3]
    rfl
  ·rintro zs σ' H2 ⟨_,e1,sm,hDl⟩
   rw[el,Ld] at e1
   refine⟨D,ts.map fun t=>ltF m (mnF t),rfl,SqL.of (by rw[hDl,e1]),?_⟩
   rw[zb]
   exact q H2 sm
theorem rR:bL P w K mg base CX0 1 f fd ["many","thing","deep"] (gr 0):=by
 have no:∀ vs H Q E,¬ gr 0 vs H Q E:=fun vs H Q E h=>by
  obtain⟨v,m,dp,_,h1,h2,_⟩:=h
  lia
 exact⟨fun vs H Q E h=>absurd h (no vs H Q E),fun A outer s H args us vs Q E _ _ _ _ h=>absurd h (no vs H Q E)⟩
theorem cu {n k:Nat} {t1 t2 t3:Tok} (F:Fun K "is_term_within" "is_term_within" cV f fd) (B:Bt mg)
  (c_MOST_STEP:mg "MOST_STEP" = some (.int 9 t1)) (c_MOST_SUM:mg "MOST_SUM" = some (.int 99 t2)) (c_MOST_FOLK:mg "MOST_FOLK" = some (.int 12 t3)) (hk:2<=k) (D_is_number:Df P w K mg base "is_number" 1 ["thing","low","high"] eU) (D_is_crowd:Df P w K mg base "is_crowd" 2 ["many","thing","fewest"] CQ)
  (D_are_parts:Df P w K mg base "are_parts" k ["many","thing","deep"] (yo n)):bL P w K mg base CX0 (k+1) f fd ["many","thing","deep"] (gr (n+1)):=by
 refine F.ok d7 (fun vs H Q E h=>?_) (fun cdv A outer s H vs Q E hr h=>?_)
 ·obtain⟨v,m,dp,rfl,_⟩:=h
  rfl
 ·obtain⟨v,m,dp,rfl,d1,dk,h⟩:=h
  refine⟨_,(ak (bc (PW.pt (jV (aK tO (pv 2) az (aN _)) (jV (cJ (bR (aA (r:=ph K) bH rfl B.isinstance_ aM (aa (pv 1) (aa (fX B.tuple_ cP) aj))))) (fM (aK cH (aA (r:=ik K) aO rfl B.len_ bI (aa (pv 1) aj)) az (aN _)))))) (aq (aH dU)) aJ)
 (ak (aY (i:=3) d7.nd rfl (K5 rfl) (bK (r:=gB K) bz (pv 1) az (fun _ _=>rfl)))
 (ak (bc (PW.pt (jV (aK cH (pv 3) bf (aN _)) (fM (aK cH (pv 3) bf (aN _))))) (aq (aH (cA cH (aA (r:=ik K) aO rfl B.len_ bI (aa (pv 1) aj)) az (aN _)))) aJ)
 (ak (bc (aK cH (pv 3) bf (aN _)) (aq (aH (dq (cA cH (aA (r:=ik K) aO rfl B.len_ bI (aa (pv 1) aj)) az (aN _)) (dq (bh D_is_number hr (aa (bK (r:=gB K) bz (pv 1) az (fun _ _=>rfl)) (aa az (aa (bD kJ (pv 0) az) aj)))) (iR (bh D_is_number hr (aa (bK (r:=gB K) bz (pv 1) az (fun _ _=>rfl)) (aa az (aa (jX c_MOST_STEP) aj))))))))) aJ)
 (ak (bc (aK cH (pv 3) bf (aN _)) (aq (aH (dq (cA cH (aA (r:=ik K) aO rfl B.len_ bI (aa (pv 1) aj)) az (aN _)) (dq (bh D_is_crowd hr (aa (pv 0) (aa (bK (r:=gB K) bz (pv 1) az (fun _ _=>rfl)) (aa az aj)))) (iR (bh D_is_number hr (aa (bK (r:=gB K) bz (pv 1) az (fun _ _=>rfl)) (aa az (aa (jX c_MOST_SUM) aj))))))))) aJ)
 (ak (bc (aK cH (pv 3) bf (aN _)) (ak (bc (PW.pt (jV (aK su (aA (r:=ik K) aO rfl B.len_ bI (aa (pv 1) aj)) az (aN _)) (fM (cJ (bR (bh D_is_crowd hr (aa (pv 0) (aa (bK (r:=gB K) bz (pv 1) az (fun _ _=>rfl)) (aa az aj))))))))) (aq (aH dU)) aJ)
 (aq (aH (dq (bh D_is_number hr (aa (bK (r:=gB K) bz (pv 1) az (fun _ _=>rfl)) (aa az (aa (jX c_MOST_STEP) aj)))) (iR (bh D_is_number hr (aa (bK (r:=gB K) bz (pv 1) az (fun _ _=>rfl)) (aa az (aa (jX c_MOST_FOLK) aj))))))))) aJ)
 (ak (bc (PW.pt (jV (aK cH (pv 3) bf (aN _)) (fM (aK cH (pv 3) bf (aN _))))) (aq (aH (dq (cA cH (aA (r:=ik K) aO rfl B.len_ bI (aa (pv 1) aj)) az (aN _)) (iR (bh D_are_parts hr (aa (pv 0) (aa (bK (r:=gB K) bz (pv 1) az (fun _ _=>rfl)) (aa (bD kJ (pv 2) az) aj)))))))) aJ)
 (aq (aH dU))))))))),?_⟩
  refine⟨_,rfl,_,_,rfl,rfl,_,rfl,bW (by lia) ?_⟩
  rcases h with⟨n0,t,rt,hd,q⟩ | ⟨e,rfl,he,q⟩
  ·have q0:=q H (aR.refl H)
   cases rt with
   | @free a ha =>
    refine⟨_,rfl,_,_,_,_,rfl,.tup ha,cR _ _,_,rfl,cj ⟨_,rfl,a,_,rfl,.inr (SqT.of ha),rfl,_,rfl,bW (ne0 (Oh _)) ?_⟩⟩
    refine⟨_,rfl,a,_,_,_,rfl,rfl,SqT.of ha,aP (k:=0) rfl,?_⟩
    refine⟨_,rfl,rfl,_,rfl,mK rfl (dF ?_)⟩
    rw[mnF] at q0
    exact⟨_,rfl,a,_,rfl,.inr (SqT.of ha),rfl,q0⟩
   | @never a ha =>
    refine⟨_,rfl,_,_,_,_,rfl,.tup ha,cR _ _,_,rfl,cj ⟨_,rfl,a,_,rfl,.inr (SqT.of ha),rfl,_,rfl,bW (ne0 (Oh _)) ?_⟩⟩
    refine⟨_,rfl,a,_,_,_,rfl,rfl,SqT.of ha,aP (k:=0) rfl,?_⟩
    refine⟨_,rfl,rfl,_,rfl,bW (aL (by decide)) ⟨_,rfl,rfl,_,rfl,mK rfl ?_⟩⟩
    rw[mnF] at q0
    exact⟨_,rfl,a,_,rfl,.inr (SqT.of ha),rfl,q0⟩
   | @gives a i kk ha hi k1 k9 =>
    refine⟨_,rfl,_,_,_,_,rfl,.tup ha,cR _ _,_,rfl,cj ⟨_,rfl,a,_,rfl,.inr (SqT.of ha),rfl,_,rfl,bW (ne0 (Oh _)) ?_⟩⟩
    refine⟨_,rfl,a,_,_,_,rfl,rfl,SqT.of ha,aP (k:=0) rfl,?_⟩
    refine⟨_,rfl,rfl,_,rfl,bW (aL (by decide)) ⟨_,rfl,rfl,_,rfl,bW (aL (by decide)) ?_⟩⟩
    refine⟨_,rfl,rfl,_,rfl,mK rfl ?_⟩
    refine⟨_,rfl,a,_,rfl,.inr (SqT.of ha),rfl,_,rfl,mK rfl ?_⟩
    refine⟨_,rfl,a,_,_,_,rfl,rfl,SqT.of ha,aP (k:=1) rfl,_,rfl,_,_,rfl,rfl,vN i,0,(m:Int) - 1,rfl,.int _,_,rfl,?_⟩
    rw[show vN i=V.int (i:Int) from rfl,uA (by lia)]
    rw[mnF] at q0
    have e:ltF m [i]=decide (i < m):=by
     show (decide (i < m) && true)=_
     rw[Bool.and_true]
    rw[e] at q0
    refine wR (fun c=>?_) (fun c=>?_)
    ·rw[c] at q0
     refine⟨_,rfl,a,_,_,_,rfl,rfl,SqT.of ha,aP (k:=2) rfl,.int kk,1,9,rfl,.int _,?_⟩
     rw[gf k1 k9]
     exact q0
    ·rw[Bool.eq_false_iff.mpr c] at q0
     exact q0
   | @sum a b c kk ha hb hc hp l20 l2 k1 k99 =>
    refine⟨_,rfl,_,_,_,_,rfl,.tup ha,cR _ _,_,rfl,cj ⟨_,rfl,a,_,rfl,.inr (SqT.of ha),rfl,_,rfl,bW (ne0 (Oh _)) ?_⟩⟩
    refine⟨_,rfl,a,_,_,_,rfl,rfl,SqT.of ha,aP (k:=0) rfl,?_⟩
    refine⟨_,rfl,rfl,_,rfl,bW (aL (by decide)) ⟨_,rfl,rfl,_,rfl,bW (aL (by decide)) ?_⟩⟩
    refine⟨_,rfl,rfl,_,rfl,bW (aL (by decide)) ?_⟩
    refine⟨_,rfl,rfl,_,rfl,mK rfl ?_⟩
    refine⟨_,rfl,a,_,rfl,.inr (SqT.of ha),rfl,_,rfl,mK rfl ?_⟩
    refine⟨_,rfl,_,rfl,a,_,_,_,rfl,rfl,SqT.of ha,aP (k:=1) rfl,b,c,m,2,rfl,hb,hp,by lia,_,rfl,?_⟩
    rw[mnF] at q0
    refine wR (fun c=>?_) (fun c=>?_)
    ·rw[c] at q0
     refine⟨_,rfl,a,_,_,_,rfl,rfl,SqT.of ha,aP (k:=2) rfl,.int kk,1,99,rfl,.int _,?_⟩
     rw[gf k1 k99]
     exact q0
    ·rw[Bool.eq_false_iff.mpr c] at q0
     exact q0
   | @crowd a b c kk mm ha hb hc hp l20 l1 k1 k9 m1 m12 =>
    refine⟨_,rfl,_,_,_,_,rfl,.tup ha,cR _ _,_,rfl,cj ⟨_,rfl,a,_,rfl,.inr (SqT.of ha),rfl,_,rfl,bW (ne0 (Oh _)) ?_⟩⟩
    refine⟨_,rfl,a,_,_,_,rfl,rfl,SqT.of ha,aP (k:=0) rfl,?_⟩
    refine⟨_,rfl,rfl,_,rfl,bW (aL (by decide)) ⟨_,rfl,rfl,_,rfl,bW (aL (by decide)) ?_⟩⟩
    refine⟨_,rfl,rfl,_,rfl,bW (aL (by decide)) ?_⟩
    refine⟨_,rfl,rfl,_,rfl,bW (aL (by decide)) ?_⟩
    refine⟨_,rfl,rfl,_,rfl,mK rfl ?_⟩
    refine⟨_,rfl,a,_,rfl,.inr (SqT.of ha),rfl,_,rfl,BZ rfl ?_⟩
    refine⟨_,rfl,_,rfl,a,_,_,_,rfl,rfl,SqT.of ha,aP (k:=1) rfl,b,c,m,1,rfl,hb,hp,by lia,_,rfl,?_⟩
    rw[mnF] at q0
    cases z:ltF m c with
    | false =>
     rw[z] at q0
     exact dF q0
    | true =>
     rw[z] at q0
     refine cj ⟨_,rfl,a,_,_,_,rfl,rfl,SqT.of ha,aP (k:=2) rfl,.int kk,1,9,rfl,.int _,_,rfl,?_⟩
     rw[gf k1 k9]
     refine dF ⟨_,rfl,a,_,_,_,rfl,rfl,SqT.of ha,aP (k:=3) rfl,.int mm,1,12,rfl,.int _,?_⟩
     rw[gf m1 m12]
     exact q0
   | @all a b us ts ha hb l2 l6 rl =>
    have hdl:tdL ts+1<=dp:=by rw[Tm.dep] at hd; exact hd
    have t1:=nM rl l2
    refine⟨_,rfl,_,_,_,_,rfl,.tup ha,cR _ _,_,rfl,cj ⟨_,rfl,a,_,rfl,.inr (SqT.of ha),rfl,_,rfl,bW (ne0 (Oh _)) ?_⟩⟩
    refine⟨_,rfl,a,_,_,_,rfl,rfl,SqT.of ha,aP (k:=0) rfl,?_⟩
    refine⟨_,rfl,rfl,_,rfl,bW (aL (by decide)) ⟨_,rfl,rfl,_,rfl,bW (aL (by decide)) ?_⟩⟩
    refine⟨_,rfl,rfl,_,rfl,bW (aL (by decide)) ?_⟩
    refine⟨_,rfl,rfl,_,rfl,bW (aL (by decide)) ?_⟩
    refine⟨_,rfl,rfl,_,rfl,bW (aL (by decide)) ?_⟩
    refine⟨_,rfl,rfl,_,rfl,mK rfl (dF ?_)⟩
    refine⟨_,rfl,a,_,rfl,.inr (SqT.of ha),rfl,_,rfl,mK rfl ?_⟩
    refine⟨_,rfl,_,rfl,a,_,_,_,rfl,rfl,SqT.of ha,aP (k:=1) rfl,_,rfl,_,_,rfl,rfl,b,us,ts,n0,m,dp - 1,?_,by lia,hb,l2,l6,rl,by lia,by lia,fun H' s'=>?_⟩
    ·rw[show ((dp - 1:Nat):Int)=(dp:Int) - 1 by lia]
     rfl
    ·have q1:=q H' s'
     rw[mnF] at q1
     exact q1
   | @any a b us ts ha hb l2 l6 rl =>
    have hdl:tdL ts+1<=dp:=by rw[Tm.dep] at hd; exact hd
    have t1:=nM rl l2
    refine⟨_,rfl,_,_,_,_,rfl,.tup ha,cR _ _,_,rfl,cj ⟨_,rfl,a,_,rfl,.inr (SqT.of ha),rfl,_,rfl,bW (ne0 (Oh _)) ?_⟩⟩
    refine⟨_,rfl,a,_,_,_,rfl,rfl,SqT.of ha,aP (k:=0) rfl,?_⟩
    refine⟨_,rfl,rfl,_,rfl,bW (aL (by decide)) ⟨_,rfl,rfl,_,rfl,bW (aL (by decide)) ?_⟩⟩
    refine⟨_,rfl,rfl,_,rfl,bW (aL (by decide)) ?_⟩
    refine⟨_,rfl,rfl,_,rfl,bW (aL (by decide)) ?_⟩
    refine⟨_,rfl,rfl,_,rfl,bW (aL (by decide)) ?_⟩
    refine⟨_,rfl,rfl,_,rfl,bW (aL (by decide)) ⟨_,rfl,rfl,_,rfl,mK rfl ?_⟩⟩
    refine⟨_,rfl,a,_,rfl,.inr (SqT.of ha),rfl,_,rfl,mK rfl ?_⟩
    refine⟨_,rfl,_,rfl,a,_,_,_,rfl,rfl,SqT.of ha,aP (k:=1) rfl,_,rfl,_,_,rfl,rfl,b,us,ts,n0,m,dp - 1,?_,by lia,hb,l2,l6,rl,by lia,by lia,fun H' s'=>?_⟩
    ·rw[show ((dp - 1:Nat):Int)=(dp:Int) - 1 by lia]
     rfl
    ·have q1:=q H' s'
     rw[mnF] at q1
     exact q1
  ·refine⟨_,rfl,_,_,_,_,rfl,.tup he,cR _ _,_,rfl,cj ⟨_,rfl,e,_,rfl,.inr (SqT.of he),rfl,_,rfl,mK rfl q⟩⟩
inductive qQ (vs:List V) (H:Hp) (Q:VK):Prop where
 | mk (v:V) (m:Nat) (z0:vs=[.int (m:Int),v]) (z1:((∃ (n:Nat) (t:Tm),iT n H v t/\t.dep<=4/\∀ H',aR H H'->Q (.bl (ltF m (mnF t))) H')∨(∃ e:Addr,v = .ref e/\H e=some (.tup [])/\Q (.bl false) H))):qQ  vs H Q
def ud:Sp:=fun vs H Q _=>qQ  vs H Q
theorem wF {k:Nat} {t1:Tok} (F:Fun K "is_term" "is_term" lF f fd) (B:Bt mg) (c_MOST_DEPTH:mg "MOST_DEPTH" = some (.int 4 t1))
  (D_is_term_within:Df P w K mg base "is_term_within" k ["many","thing","deep"] (gr 4)):bL P w K mg base CX0 (k+1) f fd ["many","term"] ud:=by
 refine F.ok wG (fun vs H Q E h=>?_) (fun cdv A outer s H vs Q E hr h=>?_)
 ·obtain⟨v,m,rfl,_⟩:=h
  rfl
 ·obtain⟨v,m,rfl,h⟩:=h
  refine⟨_,(aq (aH (bh D_is_term_within hr (aa (pv 0) (aa (pv 1) (aa (jX c_MOST_DEPTH) aj)))))),?_⟩
  exact⟨_,rfl,_,rfl,v,m,4,rfl,by decide,by decide,h⟩
inductive Rg where
 | rung (k:Int) (t:Tm) | bad
inductive gR (n:Nat) (H:Hp):V->Rg->Prop where
 | rung {r:Addr} {k:Int} {v:V} {t:Tm}:H r=some (.tup [.int k,v])->iT n H v t->t.dep<=4->gR n H (.ref r) (.rung k t)
 | odd {r:Addr} {xs:List V}:H r=some (.tup xs)->xs.length≠2->gR n H (.ref r) .bad
 | text {r:Addr} {x:KH} {v:V}:H r=some (.tup [.str x,v])->gR n H (.ref r) .bad
 | hollow {r e:Addr} {k:Int}:H r=some (.tup [.int k,.ref e])->H e=some (.tup [])->gR n H (.ref r) .bad
theorem gR.aZ {n:Nat} {H H':Hp} {v:V} {g:Rg} (e:∀ a xs,H a=some (HO.tup xs)->H' a=some (HO.tup xs)):gR n H v g->gR n H' v g
 | .rung h t d=>.rung (e _ _ h) (t.aZ e) d
 | .odd h l=>.odd (e _ _ h) l
 | .text h=>.text (e _ _ h)
 | .hollow h h2=>.hollow (e _ _ h) (e _ _ h2)
theorem gR.mono {n:Nat} {H H':Hp} {v:V} {g:Rg} (e:aR H H') (h:gR n H v g):gR n H' v g:=h.aZ fun a xs q=>e a _ q
inductive iC (n:Nat) (H:Hp):List V->List Rg->Prop where
 | nil:iC n H [] []
 | cons {v:V} {g:Rg} {vs:List V} {gs:List Rg}:gR n H v g->iC n H vs gs->iC n H (v::vs) (g::gs)
theorem iC.aZ {n:Nat} {H H':Hp} (e:∀ a xs,H a=some (HO.tup xs)->H' a=some (HO.tup xs)):∀ {vs:List V} {gs:List Rg},iC n H vs gs->iC n H' vs gs
 | _,_,.nil=>.nil
 | _,_,.cons h r=>.cons (h.aZ e) (iC.aZ e r)
theorem iC.length {n:Nat} {H:Hp}:∀ {vs:List V} {gs:List Rg},iC n H vs gs->vs.length=gs.length
 | _,_,.nil=>rfl
 | _,_,.cons _ r=>by rw[KZ,KZ,iC.length r]
theorem iC.get {n:Nat} {H:Hp}:∀ {vs:List V} {gs:List Rg} {i:Nat} {v:V},iC n H vs gs->vs[i]? = some v->∃ g,gs[i]? = some g/\gR n H v g
 | _,_,_,_,.nil,h=>by simp at h
 | _,_,0,_,.cons h _,e=>by
  cases (show some _=some _ from e)
  exact⟨_,rfl,h⟩
 | _,_,i+1,_,.cons _ r,e=>by
  obtain⟨g,e1,e2⟩:=iC.get (i:=i) r (by simpa using e)
  exact⟨g,by simpa using e1,e2⟩
def rgF (m who:Nat) (lo:Int):Rg->Bool
 | .rung k t=>(decide (lo<=k) && decide (k<=9)) && (ltF m (mnF t) && !decide (who∈mnF t))
 | .bad=>false
def rgK:Rg->Int
 | .rung k _=>k
 | .bad=>0
def plF (m who:Nat):Int->List Rg->Bool
 | _,[]=>true
 | lo,g::r=>rgF m who lo g && plF m who (rgK g+1) r
def Gh (m who:Nat) (gs:List Rg):Bool:=(decide (1<=gs.length) && decide (gs.length<=9)) && plF m who 1 gs
theorem uC (x:Int):∀ ns:List Int,inV (.int x) (ns.map V.int)=decide (x∈ns)
 | []=>by rw[decide_eq_false (by simp)]; rfl
 | n::r=>by
  have ih:=uC x r
  show (eqV (.int n) (.int x) || inV (.int x) (r.map V.int))=_
  rw[ih]
  have e:eqV (.int n) (.int x)=(n == x):=rfl
  rw[e,Qd]
  simp only[Ua,decide_eq_true_eq,Rm,beq_iff_eq]
  exact⟨fun h=>h.elim (fun z=>.inl z.symm) .inr,fun h=>h.elim (fun z=>.inl z.symm) .inr⟩
theorem HW {c:List Nat} {ms:List Int} (h:nmI c ms) (x:Nat):(x:Int)∈ms ↔ x∈c:=by
 obtain⟨p,_⟩:=h
 rw[p.mem_iff,Dd,CJ]
 constructor
 ·rintro (h | h)
  ·cases h
  ·obtain⟨y,hy,e⟩:=List.mem_map.mp h
   have:x=y:=by lia
   rw[this]
   exact hy
 ·exact fun h=>.inr (List.mem_map.mpr ⟨x,h,rfl⟩)
theorem Ce (ns:List Int):(ns.map V.int).all mV=true:=by
 rw[Tj]
 exact List.all_eq_true.mpr fun _ _=>rfl
abbrev lW:Stmt:=top 30
abbrev ig:Stmt:=top 31
theorem jh:aG ["many","one","thing","lowest_step","step","term"] ["many","one","thing","lowest_step"] (au lW):=⟨rfl,rfl,rfl,by decide+kernel,rfl,by decide+kernel,by decide+kernel⟩
theorem dG:aG ["many","one","thing","lowest_step","rung"] ["many","one","thing"] (au ig):=⟨rfl,rfl,rfl,by decide+kernel,rfl,by decide+kernel,by decide+kernel⟩
inductive qI (vs:List V) (H:Hp) (Q:VK):Prop where
 | mk (v:V) (g:Rg) (n m who:Nat) (lo:Int) (z0:vs=[.int (m:Int),.int (who:Int),v,.int lo]) (z1:gR n H v g) (z2:n<=12) (z3:∀ H',aR H H'->Q (.bl (rgF m who lo g)) H'):qI  vs H Q
def uG:Sp:=fun vs H Q _=>qI  vs H Q
theorem ne2 {n:Nat} (h:n≠2):(!decide (V.int (n:Int)=V.int 2))=true:=by
 rw[decide_eq_false fun z=>h (by injection z with z; lia)]
 rfl
theorem vL {k:Nat} {t1:Tok} (F:Fun K "is_rung" "is_rung" lW f fd) (B:Bt mg) (c_MOST_STEP:mg "MOST_STEP" = some (.int 9 t1)) (hk:5<=k)
  (D_is_number:Df P w K mg base "is_number" 1 ["thing","low","high"] eU) (D_is_term:Df P w K mg base "is_term" k ["many","term"] ud) (D_named:Df P w K mg base "named" 5 ["term"] zg):bL P w K mg base CX0 (k+1) f fd ["many","one","thing","lowest_step"] uG:=by
 refine F.ok jh (fun vs H Q E h=>?_) (fun cdv A outer s H vs Q E hr h=>?_)
 ·obtain⟨v,g,n,m,who,lo,rfl,_⟩:=h
  rfl
 ·obtain⟨v,g,n,m,who,lo,rfl,rg,hn,q⟩:=h
  refine⟨_,(ak (bc (PW.pt (jV (cJ (bR (aA (r:=ph K) bH rfl B.isinstance_ aM (aa (pv 2) (aa (fX B.tuple_ cP) aj))))) (fM (aK su (aA (r:=ik K) aO rfl B.len_ bI (aa (pv 2) aj)) az (aN _))))) (aq (aH dU)) aJ)
 (ak (zU (pv 2) (iG (K:=K) 2 rfl rfl (bG (aQ (i:=4) jh.nd rfl (K5 rfl)) (bG (aQ (i:=5) jh.nd rfl (K5 rfl)) ie))))
 (aq (aH (dq (bh D_is_number hr (aa (pv 4) (aa (pv 3) (aa (jX c_MOST_STEP) aj)))) (dq (bh D_is_term hr (aa (pv 0) (aa (pv 5) aj))) (iR (cA (r:=rIn K true) fZ (pv 1) (bh D_named hr (aa (pv 5) aj)) rfl)))))))),?_⟩
  have q0:=q H (aR.refl H)
  cases rg with
  | @rung r kk u t hr0 rt hd =>
   refine⟨_,rfl,_,_,_,_,rfl,.tup hr0,cR _ _,_,rfl,cj ⟨_,rfl,r,_,rfl,.inr (SqT.of hr0),rfl,_,rfl,BZ rfl ?_⟩⟩
   refine⟨_,rfl,r,_,rfl,SqT.of hr0,rfl,_,_,rfl,_,_,rfl,rfl,?_⟩
   refine⟨_,rfl,_,rfl,.int kk,lo,9,rfl,.int _,_,rfl,?_⟩
   have er:rgF m who lo (.rung kk t)=(isNum (.int kk) lo 9 && (ltF m (mnF t) && !decide (who∈mnF t))):=rfl
   rw[er] at q q0
   refine wR (fun c=>?_) (fun c=>?_)
   ·rw[c,PN] at q
    refine⟨_,rfl,_,rfl,u,m,rfl,.inl ⟨n,t,rt,hd,fun H1 s1=>⟨_,rfl,?_⟩⟩⟩
    refine wR (fun c2=>?_) (fun c2=>?_)
    ·rw[c2,PN] at q
     refine⟨_,rfl,_,rfl,u,n,t,rfl,rt.mono s1,hd,hn,fun r1 ms H2 s2 f2 nm e2=>?_⟩
     refine⟨r1,_,rfl,.inl (SqL.of e2),rfl,Ce ms,?_⟩
     have q':=q H2 (s1.trans s2)
     rw[show (decide (who∈mnF t))=inV (.int (who:Int)) (ms.map V.int) by rw[uC]; exact decide_eq_decide.mpr (HW nm who).symm] at q'
     exact q'
    ·have q':=q H1 s1
     rw[Bool.eq_false_iff.mpr c2,Pj] at q'
     exact q'
   ·rw[Bool.eq_false_iff.mpr c,Pj] at q0
    exact q0
  | @odd r xs hr0 hl =>
   exact⟨_,rfl,_,_,_,_,rfl,.tup hr0,cR _ _,_,rfl,cj ⟨_,rfl,r,_,rfl,.inr (SqT.of hr0),rfl,_,rfl,JF (ne2 hl) q0⟩⟩
  | @text r x u hr0 =>
   refine⟨_,rfl,_,_,_,_,rfl,.tup hr0,cR _ _,_,rfl,cj ⟨_,rfl,r,_,rfl,.inr (SqT.of hr0),rfl,_,rfl,BZ rfl ?_⟩⟩
   refine⟨_,rfl,r,_,rfl,SqT.of hr0,rfl,_,_,rfl,_,_,rfl,rfl,?_⟩
   exact⟨_,rfl,_,rfl,.str x,lo,9,rfl,.str _,_,rfl,cj q0⟩
  | @hollow r e kk hr0 he =>
   refine⟨_,rfl,_,_,_,_,rfl,.tup hr0,cR _ _,_,rfl,cj ⟨_,rfl,r,_,rfl,.inr (SqT.of hr0),rfl,_,rfl,BZ rfl ?_⟩⟩
   refine⟨_,rfl,r,_,rfl,SqT.of hr0,rfl,_,_,rfl,_,_,rfl,rfl,?_⟩
   refine⟨_,rfl,_,rfl,.int kk,lo,9,rfl,.int _,_,rfl,?_⟩
   refine wR (fun c=>?_) (fun c=>?_)
   ·exact⟨_,rfl,_,rfl,.ref e,m,rfl,.inr ⟨e,rfl,he,_,rfl,cj q0⟩⟩
   ·exact q0
inductive lB (vs:List V) (H:Hp) (Q:VK):Prop where
 | mk (a:Addr) (us:List V) (gs:List Rg) (n m who:Nat) (z0:vs=[.int (m:Int),.int (who:Int),.ref a]) (z1:H a=some (.tup us)) (z2:iC n H us gs) (z3:n<=12) (z4:us.length<=20) (z5:1<=m) (z6:∀ H',aR H H'->Q (.bl (Gh m who gs)) H'):lB  vs H Q
def m5:Sp:=fun vs H Q _=>lB  vs H Q
theorem gR.good {n:Nat} {H:Hp} {v:V} {g:Rg} {m who:Nat} {lo:Int} (h:gR n H v g) (e:rgF m who lo g=true):∃ r kk u t,v = .ref r/\H r=some (.tup [.int kk,u])/\iT n H u t/\t.dep<=4/\g = .rung kk t:=by
 cases h with
 | rung h1 h2 h3=>exact⟨_,_,_,_,rfl,h1,h2,h3,rfl⟩
 | odd=>cases e
 | text=>cases e
 | hollow=>cases e
theorem rA {k:Nat} {t1:Tok} (F:Fun K "is_pledge" "is_pledge" ig f fd) (B:Bt mg) (c_MOST_RUNGS:mg "MOST_RUNGS" = some (.int 9 t1)) (hk:1<=k)
  (D_is_number:Df P w K mg base "is_number" 1 ["thing","low","high"] eU) (D_is_rung:Df P w K mg base "is_rung" k ["many","one","thing","lowest_step"] uG):bL P w K mg base CX0 (k+1) f fd ["many","one","thing"] m5:=by
 refine F.ok dG (fun vs H Q E h=>?_) (fun cdv A outer s H vs Q E hr h=>?_)
 ·obtain⟨a,us,gs,n,m,who,rfl,_⟩:=h
  rfl
 ·obtain⟨a,us,gs,n,m,who,rfl,ha,rg,hn,l20,hm,q⟩:=h
  refine⟨_,(ak (bc (PW.pt (jV (cJ (bR (aA (r:=ph K) bH rfl B.isinstance_ aM (aa (pv 2) (aa (fX B.tuple_ cP) aj))))) (fM (cJ (bR (bh D_is_number hr (aa (aA (r:=ik K) aO rfl B.len_ bI (aa (pv 2) aj)) (aa az (aa (jX c_MOST_RUNGS) aj))))))))) (aq (aH dU)) aJ)
 (ak (aY (i:=3) dG.nd rfl (K5 rfl) az)
 (ak (gJ M8 rfl (fu (pv 2)) (aQ (i:=4) dG.nd rfl (K5 rfl)) (ak (bc (cJ (bR (bh D_is_rung hr (aa (pv 0) (aa (pv 1) (aa (pv 4) (aa (pv 3) aj))))))) (aq (aH dU)) aJ)
 (aq (aY (i:=3) dG.nd rfl (K5 rfl) (bD fj (bK (r:=gB K) bz (pv 4) az (fun _ _=>rfl)) az)))))
 (aq (aH dU))))),?_⟩
  have el:=rg.length
  have q0:=q H (aR.refl H)
  refine⟨_,rfl,_,_,_,_,rfl,.tup ha,cR _ _,_,rfl,cj ⟨_,rfl,a,_,rfl,.inr (SqT.of ha),.int (us.length:Int),1,9,rfl,.int _,_,rfl,?_⟩⟩
  have en:isNum (.int (us.length:Int)) 1 9=(decide (1<=gs.length) && decide (gs.length<=9)):=by
   show (decide ((1:Int)<=(us.length:Int)) && decide ((us.length:Int)<=9))=_
   rw[el]
   congr 1
   ·exact decide_eq_decide.mpr ⟨fun z=>by lia,fun z=>by lia⟩
   ·exact decide_eq_decide.mpr ⟨fun z=>by lia,fun z=>by lia⟩
  rw[en]
  unfold Gh at q q0
  cases hc:(decide (1<=gs.length) && decide (gs.length<=9)) with
  | false =>
   rw[hc,Pj] at q0
   exact dF q0
  | true =>
   rw[hc,PN] at q
   refine cj ⟨_,rfl,a,rfl,⟨_,SqT.of ha⟩,lK (K:=K) (a:=a) (xs:=us) (fun i σ H2=>aR H H2/\∃ (lo:Int) (u:Option V),σ=[some (.int (m:Int)),some (.int (who:Int)),some (.ref a),some (.int lo),u]/\plF m who lo (gs.drop i)=plF m who 1 gs)
    ⟨aR.refl H,1,_,rfl,by rw[List.drop_zero]⟩ (fun i σ H2 _ h=>SqT.of (h.1 _ _ ha)) ?_ ?_⟩
   ·rintro i x σ H2 hx ⟨sm,lo,u,rfl,er⟩
    obtain⟨g,hg,rx⟩:=rg.get hx
    have hi:i < gs.length:=(List.getElem?_eq_some_iff.mp hg).1
    have eg:gs[i]=g:=(List.getElem?_eq_some_iff.mp hg).2
    have ed:gs.drop i=g::gs.drop (i+1):=by rw[Q6 hi,eg]
    rw[ed,plF] at er
    refine⟨_,rfl,_,rfl,_,rfl,_,rfl,x,g,n,m,who,lo,rfl,rx.mono sm,hn,fun H3 s3=>⟨_,rfl,?_⟩⟩
    cases e:rgF m who lo g with
    | false =>
     rw[e,Pj] at er
     have q':=q H3 (sm.trans s3)
     rw[← er] at q'
     exact dF q'
    | true =>
     rw[e,PN] at er
     obtain⟨r,kk,y,t,rfl,h1,_,_,rfl⟩:=rx.good e
     refine cj ⟨_,rfl,r,_,_,_,rfl,rfl,SqT.of (s3 _ _ (sm _ _ h1)),aP (k:=0) rfl,_,_,rfl,rfl,sm.trans s3,kk+1,_,rfl,er⟩
   ·rintro σ H2 ⟨sm,lo,u,rfl,er⟩
    rw[el,List.drop_length,plF] at er
    have q':=q H2 sm
    rw[← er] at q'
    exact q'
abbrev Ent:=Nat × Nat × Pl
inductive bN (n:Nat) (H:Hp):List V->List Ent->Prop where
 | nil:bN n H [] []
 | cons {e p:Addr} {num one:Nat} {pl:Pl} {us:List V} {es:List Ent}:H e=some (.tup [vN num,vN one,.ref p])->wV n H p pl->bN n H us es->bN n H (.ref e::us) ((num,one,pl)::es)
theorem bN.aZ {n:Nat} {H H':Hp} (e:∀ a xs,H a=some (HO.tup xs)->H' a=some (HO.tup xs)):∀ {us:List V} {es:List Ent},bN n H us es->bN n H' us es
 | _,_,.nil=>.nil
 | _,_,.cons h p r=>.cons (e _ _ h) (p.aZ e) (bN.aZ e r)
theorem bN.length {n:Nat} {H:Hp}:∀ {us:List V} {es:List Ent},bN n H us es->us.length=es.length
 | _,_,.nil=>rfl
 | _,_,.cons _ _ r=>by rw[KZ,KZ,bN.length r]
theorem bN.get {n:Nat} {H:Hp}:∀ {us:List V} {es:List Ent} {i:Nat} {u:V},bN n H us es->us[i]? = some u->∃ (e p:Addr) (num one:Nat) (pl:Pl),u = .ref e/\es[i]? = some (num,one,pl)/\H e=some (.tup [vN num,vN one,.ref p])/\wV n H p pl
 | _,_,_,_,.nil,h=>by simp at h
 | _,_,0,_,.cons h p _,e=>by
  cases (show some _=some _ from e)
  exact⟨_,_,_,_,_,rfl,rfl,h,p⟩
 | _,_,i+1,_,.cons _ _ r,e=>by
  obtain⟨a,p,x,y,z,h1,h2,h3⟩:=bN.get (i:=i) r (by simpa using e)
  exact⟨a,p,x,y,z,h1,by simpa using h2,h3⟩
theorem bN.snoc {n:Nat} {H:Hp} {e p:Addr} {num one:Nat} {pl:Pl} (h:H e=some (.tup [vN num,vN one,.ref p])) (hp:wV n H p pl):∀ {us:List V} {es:List Ent},bN n H us es->bN n H (us++[.ref e]) (es++[(num,one,pl)])
 | _,_,.nil=>.cons h hp .nil
 | _,_,.cons a b r=>.cons a b (bN.snoc h hp r)
def Ks (CS:Addr) (H H':Hp):Prop:=(∀ a xs,H a=some (HO.tup xs)->H' a=some (HO.tup xs))/\∀ a dx fs,H a=some (HO.ins CS dx fs)->H' a=some (HO.ins CS dx fs)
theorem ksS {CS:Addr} {H H':Hp} (s:aR H H'):Ks CS H H':=⟨fun a xs h=>s a _ h,fun a dx fs h=>s a _ h⟩
def stF (ga goa sa:Addr) (co:Nat):List (KH × V):=[("green",.ref ga),("gone",.ref goa),("standing",.ref sa),("coming",vN co)]
def eF (CS:Addr) (n:Nat) (H:Hp) (a:Addr) (g:List Int) (go:List Nat) (es:List Ent) (co:Nat):Prop :=
 ∃ (dx ga goa sa:Addr) (us:List V),H a=some (.ins CS dx (stF ga goa sa co))/\H ga=some (.tup (g.map V.int))/\H goa=some (.tup (go.map vN))/\H sa=some (.tup us)/\bN n H us es
theorem eF.ks {CS:Addr} {n:Nat} {H H':Hp} {a:Addr} {g:List Int} {go:List Nat} {es:List Ent} {co:Nat} (k:Ks CS H H') (h:eF CS n H a g go es co):eF CS n H' a g go es co:=by
 obtain⟨dx,ga,goa,sa,us,h1,h2,h3,h4,h5⟩:=h
 exact⟨dx,ga,goa,sa,us,k.2 _ _ _ h1,k.1 _ _ h2,k.1 _ _ h3,k.1 _ _ h4,h5.aZ k.1⟩
def bnF (nw be ah:Addr):List (KH × V):=[("now",.ref nw),("behind",.ref be),("ahead",.ref ah)]
def bj (CS CB:Addr) (n:Nat) (H:Hp) (b be:Addr) (d:Nat) (g:List Int) (go:List Nat) (es:List Ent) (co:Nat):Prop :=
 ∃ (dx nw ah:Addr) (xs:List V),H b=some (.ins CB dx (bnF nw be ah))/\H be=some (.lst xs)/\xs.length=d/\eF CS n H nw g go es co
def But (b be:Addr) (H H':Hp):Prop:=∀ a o,a≠b->a≠be->H a=some o->H' a=some o
theorem But.ks {CS CB b be dx:Addr} {fs:List (KH × V)} {xs:List V} {H H':Hp} (h:But b be H H') (ne:CB≠CS) (hb:H b=some (.ins CB dx fs)) (hl:H be=some (.lst xs)):Ks CS H H':=by
 refine⟨fun a ys q=>h a _ (fun z=>?_) (fun z=>?_) q,fun a dx' fs' q=>h a _ (fun z=>?_) (fun z=>?_) q⟩
 ·rw[z,hb] at q; cases q
 ·rw[z,hl] at q; cases q
 ·rw[z,hb] at q
  injection q with q
  injection q with q1
  exact ne q1
 ·rw[z,hl] at q; cases q
theorem Gu {b be:Addr} {H H':Hp} (s:aR H H'):But b be H H':=fun a o _ _ q=>s a o q
theorem But.trans {b be:Addr} {H H1 H2:Hp} (h:But b be H H1) (k:But b be H1 H2):But b be H H2:=fun a o x y q=>k a o x y (h a o x y q)
theorem bj.same {CS CB:Addr} {n:Nat} {H H':Hp} {b be:Addr} {d:Nat} {g:List Int} {go:List Nat} {es:List Ent} {co:Nat} (s:aR H H') (h:bj CS CB n H b be d g go es co):bj CS CB n H' b be d g go es co:=by
 obtain⟨dx,nw,ah,xs,h1,h2,h3,h4⟩:=h
 exact⟨dx,nw,ah,xs,s _ _ h1,s _ _ h2,h3,h4.ks (ksS s)⟩
structure qZ (K:Ky) (CS:Addr):Prop where
 cl:Cls K CS
 green:d8 K CS "green"
 gone:d8 K CS "gone"
 standing:d8 K CS "standing"
 coming:d8 K CS "coming"
structure vK (K:Ky) (CB:Addr):Prop where
 cl:Cls K CB
 now:d8 K CB "now"
 behind:d8 K CB "behind"
 ahead:d8 K CB "ahead"
abbrev fY:Stmt:=inClass (top 35) 0
theorem jr:aG ["self","green","gone","standing","coming"] ["self","green","gone","standing","coming"] (au fY):=⟨rfl,rfl,rfl,by decide+kernel,rfl,by decide+kernel,by decide+kernel⟩
inductive pY (CS:Addr) (vs:List V) (H:Hp) (Q:VK):Prop where
 | mk (x dx:Addr) (g go sd co:V) (z0:vs=[.ref x,g,go,sd,co]) (z1:H x=some (.ins CS dx [])) (z2:Q .non (upd H x (.ins CS dx [("green",g),("gone",go),("standing",sd),("coming",co)]))):pY CS vs H Q
def dM (CS:Addr):Sp:=fun vs H Q _=>pY CS vs H Q
theorem oW {CS:Addr} (F:Fun K "__init__" "Stand.__init__" fY f fd) (S:qZ K CS):bL P w K mg base CX0 1 f fd ["self","green","gone","standing","coming"] (dM CS):=by
 refine F.ok jr (fun vs H Q E h=>?_) (fun cdv A outer s H vs Q E hr h=>?_)
 ·obtain⟨x,dx,g,go,sd,co,rfl,_⟩:=h
  rfl
 ·obtain⟨x,dx,g,go,sd,co,rfl,hx,q⟩:=h
  refine⟨_,(ak (jd (pv 0) (pv 1) rfl)
 (ak (jd (pv 0) (pv 2) rfl)
 (ak (jd (pv 0) (pv 3) rfl)
 (aq (jd (pv 0) (pv 4) rfl))))),?_⟩
  refine⟨_,rfl,_,rfl,x,CS,dx,_,rfl,hx,S.cl,S.green,by show 0 < 1000; decide,?_⟩
  refine⟨_,rfl,_,rfl,x,CS,dx,_,rfl,ao,S.cl,S.gone,by show 1 < 1000; decide,?_⟩
  refine⟨_,rfl,_,rfl,x,CS,dx,_,rfl,ao,S.cl,S.standing,by show 2 < 1000; decide,?_⟩
  refine⟨_,rfl,_,rfl,x,CS,dx,_,rfl,ao,S.cl,S.coming,by show 3 < 1000; decide,?_⟩
  rw[my,my,my]
  exact q
abbrev gP:Stmt:=inClass (top 41) 0
theorem jY:aG ["self"] ["self"] (au gP):=⟨rfl,rfl,rfl,by decide+kernel,rfl,by decide+kernel,by decide+kernel⟩
inductive uM (CS CB:Addr) (vs:List V) (H:Hp) (Q:VK):Prop where
 | mk (b dx:Addr) (z0:vs=[.ref b]) (z1:H b=some (.ins CB dx [])) (z2:∀ (be:Addr) (H':Hp),H be=none->(∀ a o,a≠b->H a=some o->H' a=some o)->(∀ n,bj CS CB n H' b be 0 [] [] [] 0)->Q .non H'):uM CS CB vs H Q
def zV (CS CB:Addr):Sp:=fun vs H Q _=>uM CS CB vs H Q
theorem rn {CS CB:Addr} (F:Fun K "__init__" "Boon.__init__" gP f fd) (S:vK K CB) (D_Stand:Dk2 P w K mg base "Stand" CS 1 ["self","green","gone","standing","coming"] (dM CS)) :
  bL P w K mg base CX0 3 f fd ["self"] (zV CS CB):=by
 refine F.ok jY (fun vs H Q E h=>?_) (fun cdv A outer s H vs Q E hr h=>?_)
 ·obtain⟨b,dx,rfl,_⟩:=h
  rfl
 ·obtain⟨b,dx,rfl,hb,q⟩:=h
  refine⟨_,(ak (jd (pv 0) (wM D_Stand hr (aa (bA aj) (aa (bA aj) (aa (bA aj) (aa az aj))))) rfl)
 (ak (jd (pv 0) (dI aj) rfl)
 (aq (jd (pv 0) (dI aj) rfl)))),?_⟩
  refine⟨small (by show 0<=1000; decide),fun p1 h1=>?_⟩
  generalize eH1:upd H p1 _=H1
  obtain⟨g1,e1⟩:=aX eH1 h1
  refine⟨small (by show 0<=1000; decide),fun p2 h2=>?_⟩
  generalize eH2:upd H1 p2 _=H2
  obtain⟨g2,e2⟩:=aX eH2 h2
  refine⟨small (by show 0<=1000; decide),fun p3 h3=>?_⟩
  generalize eH3:upd H2 p3 _=H3
  obtain⟨g3,e3⟩:=aX eH3 h3
  have s3:=g1.trans (g2.trans g3)
  intro x dx2 hx hdx hne
  have sA:aR H3 (upd (upd H3 dx2 (.own x)) x (.ins CS dx2 [])):=(aB hdx _).trans (aB (by rw[aC hne.symm]; exact hx) _)
  refine⟨x,dx2,_,_,_,_,rfl,ao,rfl,?_⟩
  rw[my]
  have sB:aR H3 (upd (upd H3 dx2 (.own x)) x (.ins CS dx2 [("green",.ref p1),("gone",.ref p2),("standing",.ref p3),("coming",.int 0)])):=(aB hdx _).trans (aB (by rw[aC hne.symm]; exact hx) _)
  generalize eH4:upd (upd H3 dx2 (.own x)) x _=H4 at sB
  have e4:H4 x=some (.ins CS dx2 [("green",.ref p1),("gone",.ref p2),("standing",.ref p3),("coming",.int 0)]):=by rw[← eH4]; exact ao
  have s4:=s3.trans sB
  refine⟨_,rfl,b,CB,dx,_,rfl,s4 _ _ hb,S.cl,S.now,by show 0 < 1000; decide,?_⟩
  have k1:∀ a o,a≠b->H4 a=some o->upd H4 b (.ins CB dx (nA "now" (.ref x) [])) a=some o:=fun a o h z=>by rw[aC h]; exact z
  generalize eH5:upd H4 b _=H5 at k1
  have e5:H5 b=some (.ins CB dx [("now",.ref x)]):=by rw[← eH5]; exact ao
  refine⟨small (by show 0<=1000; decide),fun be hbe=>?_⟩
  generalize eH6:upd H5 be _=H6
  obtain⟨g6,e6⟩:=aX eH6 hbe
  refine⟨_,rfl,b,CB,dx,_,rfl,g6 _ _ e5,S.cl,S.behind,by show 1 < 1000; decide,?_⟩
  have bb:be≠b:=fun z=>by rw[z,e5] at hbe; cases hbe
  have k2:∀ a o,a≠b->H6 a=some o->upd H6 b (.ins CB dx (nA "behind" (.ref be) [("now",.ref x)])) a=some o:=fun a o h z=>by rw[aC h]; exact z
  generalize eH7:upd H6 b _=H7 at k2
  have e7:H7 b=some (.ins CB dx [("now",.ref x),("behind",.ref be)]):=by rw[← eH7]; exact ao
  refine⟨small (by show 0<=1000; decide),fun ah hah=>?_⟩
  generalize eH8:upd H7 ah _=H8
  obtain⟨g8,e8⟩:=aX eH8 hah
  refine⟨_,rfl,b,CB,dx,_,rfl,g8 _ _ e7,S.cl,S.ahead,by show 2 < 1000; decide,?_⟩
  have k3:∀ a o,a≠b->H8 a=some o->upd H8 b (.ins CB dx (nA "ahead" (.ref ah) [("now",.ref x),("behind",.ref be)])) a=some o:=fun a o h z=>by rw[aC h]; exact z
  generalize eH9:upd H8 b _=H9 at k3
  have e9:H9 b=some (.ins CB dx (bnF x be ah)):=by rw[← eH9]; exact ao
  have all:∀ a o,a≠b->H4 a=some o->H9 a=some o:=fun a o h z=>k3 a o h (g8 _ _ (k2 a o h (g6 _ _ (k1 a o h z))))
  have tp:∀ (p:Addr) (xs:List V),H4 p=some (HO.tup xs)->H9 p=some (HO.tup xs):=fun p xs z=>all p _ (fun y=>by rw[y,s4 _ _ hb] at z; cases z) z
  have xb:x≠b:=fun z=>by rw[z] at hx; rw[s3 _ _ hb] at hx; cases hx
  refine q be H9 ?_ (fun a o h z=>all a o h (s4 _ _ z)) fun n=>⟨dx,x,ah,[],e9,k3 _ _ bb (g8 _ _ (k2 _ _ bb e6)),rfl,dx2,p1,p2,p3,[],all _ _ xb e4,tp _ _ (sB _ _ (g3 _ _ (g2 _ _ e1))),tp _ _ (sB _ _ (g3 _ _ e2)),tp _ _ (sB _ _ e3),.nil⟩
  cases hq:H be with
  | none=>rfl
  | some o =>
   have:=k1 be o bb (s4 _ _ hq)
   rw[hbe] at this
   cases this
abbrev fQ:Stmt:=inClass (top 41) 1
theorem oY:aG ["self","stand"] ["self","stand"] (au fQ):=⟨rfl,rfl,rfl,by decide+kernel,rfl,by decide+kernel,by decide+kernel⟩
inductive wX (CB:Addr) (vs:List V) (H:Hp) (Q:VK):Prop where
 | mk (b be st dx nw ah:Addr) (xs:List V) (z0:vs=[.ref b,.ref st]) (z1:H b=some (.ins CB dx (bnF nw be ah))) (z2:H be=some (.lst xs)) (z3:xs.length<=900) (z4:∀ (ah':Addr) (H':Hp),H' b=some (.ins CB dx (bnF st be ah'))->H' be=some (.lst (xs++[.ref nw]))->But b be H H'->Q .non H'):wX CB vs H Q
def nH (CB:Addr):Sp:=fun vs H Q _=>wX CB vs H Q
theorem o9 {CB:Addr} (F:Fun K "go_on" "Boon.go_on" fQ f fd) (S:vK K CB):bL P w K mg base CX0 1 f fd ["self","stand"] (nH CB):=by
 refine F.ok oY (fun vs H Q E h=>?_) (fun cdv A outer s H vs Q E hr h=>?_)
 ·obtain⟨b,be,st,dx,nw,ah,xs,rfl,_⟩:=h
  rfl
 ·obtain⟨b,be,st,dx,nw,ah,xs,rfl,hb,hbe,l9,q⟩:=h
  refine⟨_,(ak (bJ (vC Nk PL PK eE (aF K rfl (pv 0)) (aa (aF K rfl (pv 0)) aj)))
 (ak (jd (pv 0) (dI aj) rfl)
 (aq (jd (pv 0) (pv 1) rfl)))),?_⟩
  have bb:be≠b:=fun z=>by rw[z,hb] at hbe; cases hbe
  refine⟨_,rfl,b,CB,dx,_,_,rfl,hb,S.cl,S.behind,rfl,.inl ⟨rfl,_,SqL.of hbe⟩,_,rfl,b,CB,dx,_,_,rfl,hb,S.cl,S.now,rfl,be,_,_,rfl,rfl,hbe,bu (by lia),?_⟩
  have k1:But b be H (upd H be (.lst (xs++[.ref nw]))):=fun a o _ h z=>by rw[aC h]; exact z
  generalize eH1:upd H be _=H1 at k1
  have e1:H1 be=some (.lst (xs++[.ref nw])):=by rw[← eH1]; exact ao
  have e1b:H1 b=some (.ins CB dx (bnF nw be ah)):=by rw[← eH1,aC bb.symm]; exact hb
  refine⟨small (by show 0<=1000; decide),fun a2 h2=>?_⟩
  generalize eH2:upd H1 a2 _=H2
  obtain⟨g2,e2⟩:=aX eH2 h2
  refine⟨_,rfl,b,CB,dx,_,rfl,g2 _ _ e1b,S.cl,S.ahead,by show 3 < 1000; decide,?_⟩
  have k3:∀ a o,a≠b->H2 a=some o->upd H2 b (.ins CB dx (nA "ahead" (.ref a2) (bnF nw be ah))) a=some o:=fun a o h z=>by rw[aC h]; exact z
  generalize eH3:upd H2 b _=H3 at k3
  have e3:H3 b=some (.ins CB dx (bnF nw be a2)):=by rw[← eH3]; exact ao
  refine⟨_,rfl,_,rfl,b,CB,dx,_,rfl,e3,S.cl,S.now,by show 3 < 1000; decide,?_⟩
  refine q a2 _ ao (by rw[aC bb]; exact k3 _ _ bb (g2 _ _ e1)) fun a o h h' z=>?_
  rw[aC h]
  exact k3 _ _ h (g2 _ _ (k1 a o h h' z))
theorem IV {K:Ky} {H:Hp} {a b:Addr} {xs ys:List V} {Q:VK} (ha:H a=some (.tup xs)) (hb:H b=some (.tup ys)) (hl:xs.length+ys.length<=1000) (q:∀ (p:Addr) (H':Hp),aR H H'->H' p=some (.tup (xs++ys))->Q (.ref p) H'):nJ K (.ref a) (.ref b) H Q:=by
 refine⟨a,b,xs,ys,rfl,rfl,SqT.of ha,SqT.of hb,small hl,fun e=>?_,fun _ e=>?_,fun _ _ p hp=>q p _ (aB hp _) ao⟩
 ·subst e
  exact q b H (aR.refl _) hb
 ·subst e
  exact q a H (aR.refl _) (by rw[Nb]; exact ha)
theorem jZ {CS x dx:Addr} {H:Hp} {g go sd co:V} {Q:VK} {E:XK} (hx:H x=none) (hdx:H dx=none) (hne:dx≠x) (q:∀ H',aR H H'->H' x=some (.ins CS dx [("green",g),("gone",go),("standing",sd),("coming",co)])->Q .non H') :
  dM CS [.ref x,g,go,sd,co] (upd (upd H dx (.own x)) x (.ins CS dx [])) Q E:=by
 refine⟨x,dx,g,go,sd,co,rfl,ao,?_⟩
 rw[my]
 exact q _ ((aB hdx _).trans (aB (by rw[aC hne.symm]; exact hx) _)) ao
abbrev eN:Stmt:=inClass (top 41) 2
theorem dC:aG ["self","now"] ["self"] (au eN):=⟨rfl,rfl,rfl,by decide+kernel,rfl,by decide+kernel,by decide+kernel⟩
inductive yL (CS CB:Addr) (vs:List V) (H:Hp) (Q:VK):Prop where
 | mk (b be:Addr) (d:Nat) (g:List Int) (go:List Nat) (co:Nat) (z0:vs=[.ref b]) (z1:(∀ n,bj CS CB n H b be d g go [] co)) (z2:g.length < 12) (z3:d<=900) (z4:∀ H',But b be H H'->(∀ n,bj CS CB n H' b be (d+1) (g++[0]) go [] co)->Q (.int (g.length:Int)) H'):yL CS CB vs H Q
def CT (CS CB:Addr):Sp:=fun vs H Q _=>yL CS CB vs H Q
theorem bN.any {n m:Nat} {H:Hp} {us:List V} (h:bN n H us []):bN m H us []:=by
 cases h
 exact .nil
theorem rm {CS CB:Addr} {t1:Tok} (ne:CB≠CS) (F:Fun K "come" "Boon.come" eN f fd) (B:Bt mg) (S:qZ K CS) (T:vK K CB) (c_MOST_FOLK:mg "MOST_FOLK" = some (.int 12 t1))
  (D_Stand:Dk2 P w K mg base "Stand" CS 1 ["self","green","gone","standing","coming"] (dM CS)) (D_Boon_go_on:Dm2 P w K mg base CB "go_on" 1 ["self","stand"] (nH CB)) :
  bL P w K mg base CX0 3 f fd ["self"] (CT CS CB):=by
 refine F.ok dC (fun vs H Q E h=>?_) (fun cdv A outer s H vs Q E hr h=>?_)
 ·obtain⟨b,be,d,g,go,co,rfl,_⟩:=h
  rfl
 ·obtain⟨b,be,d,g,go,co,rfl,hB,lg,d9,q⟩:=h
  refine⟨_,(ak (aY (i:=1) dC.nd rfl (K5 rfl) (aF K rfl (pv 0)))
 (ak (bc (aK qL (aA (r:=ik K) aO rfl B.len_ bI (aa (aF K rfl (pv 1)) aj)) (jX c_MOST_FOLK) (aN _)) (aq je) aJ)
 (ak (bJ (rZ D_Boon_go_on hr (pv 0) (aa (wM D_Stand hr (aa (bD (r:=nJ K) j6 (aF K rfl (pv 1)) (bA (aa az aj))) (aa (aF K rfl (pv 1)) (aa (aF K rfl (pv 1)) (aa (aF K rfl (pv 1)) aj))))) aj)))
 (aq (aH (aA (r:=ik K) aO rfl B.len_ bI (aa (aF K rfl (pv 1)) aj))))))),?_⟩
  obtain⟨dx,nw,ah,xs,hb,hbe,lx,dx2,ga,goa,sa,us,hn,hga,hgo,hsa,hes⟩:=hB 0
  refine aD (fun σ H1=>σ=[some (.ref b),some (.ref nw)]/\H1=H) ?q0 ?t0
  case t0 =>
   intro N Rc
   exact⟨_,rfl,b,CB,dx,_,_,rfl,hb,T.cl,T.now,rfl,Rc _ _ ⟨rfl,rfl⟩⟩
  case q0 =>
  rintro σ H0 ⟨rfl,rfl⟩
  refine aD (fun σ H1=>σ=[some (.ref b),some (.ref nw)]/\H1=H0) ?q1 ?t1
  case t1 =>
   intro N Rc
   refine⟨_,rfl,nw,CS,dx2,_,_,rfl,hn,S.cl,S.green,rfl,ga,_,rfl,.inr (SqT.of hga),_,_,rfl,rfl,_,rfl,?_⟩
   rw[decide_eq_false (show ¬ ((12:Int)<=(((g.map V.int).length:Nat):Int)) by rw[J8]; lia)]
   exact cj (Rc _ _ ⟨rfl,rfl⟩)
  case q1 =>
  rintro σ H1 ⟨rfl,rfl⟩
  refine aD (fun σ H2=>σ=[some (.ref b),some (.ref nw)]/\But b be H1 H2/\∀ n,bj CS CB n H2 b be (d+1) (g++[0]) go [] co) ?q2 ?t2
  case t2 =>
   intro N Rc
   refine⟨_,rfl,b,dx,_,rfl,hb,rfl,?_⟩
   refine⟨_,rfl,nw,CS,dx2,_,_,rfl,hn,S.cl,S.green,rfl,small (by show 1<=1000; decide),fun p1 h1=>?_⟩
   generalize eH2:upd H1 p1 _=H2
   obtain⟨g2,e2⟩:=aX eH2 h1
   refine IV (g2 _ _ hga) e2 (by rw[J8]; show g.length+1<=1000; lia) fun p H3 s3 e3=>?_
   have s13:=g2.trans s3
   have e3:H3 p=some (.tup ((g++[0]).map V.int)):=by rw[e3,K3]; rfl
   have hn3:=s13 _ _ hn
   refine⟨_,rfl,nw,CS,dx2,_,_,rfl,hn3,S.cl,S.gone,rfl,_,rfl,nw,CS,dx2,_,_,rfl,hn3,S.cl,S.standing,rfl,_,rfl,nw,CS,dx2,_,_,rfl,hn3,S.cl,S.coming,rfl,fun x dx3 hx hdx hne=>?_⟩
   refine jZ hx hdx hne fun H4 s4 e4=>⟨rfl,?_⟩
   have s14:=s13.trans s4
   refine⟨b,be,x,dx,nw,ah,xs,rfl,s14 _ _ hb,s14 _ _ hbe,by lia,fun ah' H5 e5 e5' bt=>?_⟩
   have k5:=bt.ks ne (s14 _ _ hb) (s14 _ _ hbe)
   refine Rc _ _ ⟨rfl,(Gu s14).trans bt,fun n=>⟨dx,x,ah',_,e5,e5',by rw[KR,lx]; rfl,eF.ks k5 ⟨dx3,p,goa,sa,us,e4,s4 _ _ e3,s14 _ _ hgo,s14 _ _ hsa,?_⟩⟩⟩
   exact (hes.aZ fun a xs q=>s14 a _ q).any
  case q2 =>
  rintro σ H2 ⟨rfl,k2,hB2⟩
  have ks:=k2.ks ne hb hbe
  refine⟨_,rfl,nw,CS,dx2,_,_,rfl,ks.2 _ _ _ hn,S.cl,S.green,rfl,ga,_,rfl,.inr (SqT.of (ks.1 _ _ hga)),?_⟩
  rw[J8]
  exact q H2 k2 hB2
mutual
def nn (one:Nat):Tm->Bool
 | .free=>true
 | .never=>true
 | .gives i _=>decide (i≠one)
 | .sum c _=>decide (one ∉ c)
 | .crowd c _ _=>decide (one ∉ c)
 | .all ts=>nnL one ts
 | .any ts=>nnL one ts
def nnL (one:Nat):List Tm->Bool
 | []=>true
 | t::r=>nn one t && nnL one r
end
theorem iZ (x:Nat):∀ c:List Nat,inV (.int (x:Int)) (c.map vN)=decide (x∈c)
 | []=>rfl
 | y::c=>by
  have ih:=iZ x c
  unfold inV at ih ⊢
  rw[Ni,List.any_cons,ih]
  by_cases e:x=y
  ·subst e
   rw[decide_eq_true KD]
   simp [vN,eqV]
  ·have:eqV (vN y) (.int (x:Int))=false:=by
    simp [vN,eqV]
    lia
   rw[this,Bool.false_or]
   exact decide_eq_decide.mpr (by simp [e])
theorem dZ (c:List Nat):(c.map vN).all mV=true:=by
 rw[Tj,List.all_eq_true]
 intro x _
 rfl
mutual
theorem Gy {one:Nat}:∀ t:Tm,nn one t=true->one ∉ mnF t
 | .free,_=>by simp [mnF]
 | .never,_=>by simp [mnF]
 | .gives i k,h=>by
  have:=of_decide_eq_true (show decide (i≠one)=true by simpa [nn] using h)
  simp only[mnF]
  exact fun z=>this (List.mem_singleton.mp z).symm
 | .sum c k,h=>by simpa [nn,mnF] using h
 | .crowd c k m,h=>by simpa [nn,mnF] using h
 | .all ts,h=>by
  simp only[mnF]
  exact wZ ts (by simpa [nn] using h)
 | .any ts,h=>by
  simp only[mnF]
  exact wZ ts (by simpa [nn] using h)
theorem wZ {one:Nat}:∀ ts:List Tm,nnL one ts=true->one ∉ mnL ts
 | [],_=>by simp [mnL]
 | t::r,h=>by
  have h':nn one t=true/\nnL one r=true:=by simpa [nnL] using h
  rw[mnL,PX]
  rintro (z | z)
  ·exact Gy t h'.1 z
  ·exact wZ r h'.2 z
end
mutual
theorem Hk {n:Nat} {H:Hp}:∀ {v:V} {t:Tm},iT n H v t->∀ i∈mnF t,i < n
 | _,_,.free _,i,h=>by simp [mnF] at h
 | _,_,.never _,i,h=>by simp [mnF] at h
 | _,_,.gives _ a _ _,i,h=>by
  simp only[mnF] at h
  rw[List.mem_singleton.mp h]
  exact a
 | _,_,.sum _ _ a _ _ _ _ _,i,h=>by
  simp only[mnF] at h
  exact a i h
 | _,_,.crowd _ _ a _ _ _ _ _ _ _,i,h=>by
  simp only[mnF] at h
  exact a i h
 | _,_,.all _ _ _ _ r,i,h=>by
  simp only[mnF] at h
  exact yU r i h
 | _,_,.any _ _ _ _ r,i,h=>by
  simp only[mnF] at h
  exact yU r i h
theorem yU {n:Nat} {H:Hp}:∀ {vs:List V} {ts:List Tm},cU n H vs ts->∀ i∈mnL ts,i < n
 | _,_,.nil,i,h=>by simp [mnL] at h
 | _,_,.cons t r,i,h=>by
  rw[mnL,PX] at h
  rcases h with z | z
  ·exact Hk t i z
  ·exact yU r i z
end
theorem HS {n:Nat} {H:Hp}:∀ {us:List V} {p:Pl},fU n H us p->(∀ x∈p,x.2.dep<=4)->iC n H us (p.map fun x=>Rg.rung x.1 x.2)
 | _,_,.nil,_=>.nil
 | _,_,.cons h t r,d=>.cons (.rung h t (d _ KD)) (HS r fun x hx=>d x (KC _ hx))
theorem Dp {n who:Nat} {H:Hp}:∀ {us:List V} {p:Pl} {lo:Int},fU n H us p->(p.map (·.1)).Pairwise (· < ·)->(∀ x∈p,lo<=x.1/\x.1<=9)->(∀ x∈p,nn who x.2=true)->plF n who lo (p.map fun x=>Rg.rung x.1 x.2)=true
 | _,_,_,.nil,_,_,_=>rfl
 | _,_,lo,.cons (k:=k) (t:=t) (ps:=ps) h tr r,pw,hb,hn=>by
  rw[Ni,Nh] at pw
  show (rgF n who lo (.rung k t) && plF n who (k+1) (ps.map fun x=>Rg.rung x.1 x.2))=true
  have h1:=hb (k,t) KD
  have h2:=Gy t (hn (k,t) KD)
  rw[Mr]
  refine⟨?_,Dp r pw.2 (fun x hx=>⟨?_,(hb x (KC _ hx)).2⟩) fun x hx=>hn x (KC _ hx)⟩
  ·show ((decide (lo<=k) && decide (k<=9)) && (ltF n (mnF t) && !decide (who∈mnF t)))=true
   rw[decide_eq_true h1.1,decide_eq_true h1.2,yF.mpr (Hk tr),decide_eq_false h2]
   rfl
  ·have:=pw.1 x.1 (List.mem_map_of_mem hx)
   lia
theorem Ej {n who:Nat} {H:Hp} {us:List V} {p:Pl} (ok:okP p) (r:fU n H us p) (hn:∀ x∈p,nn who x.2=true):Gh n who (p.map fun x=>Rg.rung x.1 x.2)=true:=by
 obtain⟨h1,h2,h3,h4⟩:=ok
 have l:1<=p.length:=by
  cases p with
  | nil=>exact absurd rfl h1
  | cons _ _=>rw[KZ]; lia
 unfold Gh
 rw[J8,decide_eq_true l,decide_eq_true h2,Dp r h3 (fun x hx=>⟨(h4 x hx).1,(h4 x hx).2.1⟩) hn]
 rfl
abbrev cY:Stmt:=top 36
abbrev dR:Stmt:=top 39
theorem gH:aG ["stand","one"] ["stand","one"] (au cY):=⟨rfl,rfl,rfl,by decide+kernel,rfl,by decide+kernel,by decide+kernel⟩
theorem kj:aG ["stand","one","pledge"] ["stand","one","pledge"] (au dR):=⟨rfl,rfl,rfl,by decide+kernel,rfl,by decide+kernel,by decide+kernel⟩
inductive uF (CS:Addr) (vs:List V) (H:Hp) (Q:VK):Prop where
 | mk (st:Addr) (one n co:Nat) (g:List Int) (go:List Nat) (es:List Ent) (z0:vs=[.ref st,vN one]) (z1:eF CS n H st g go es co) (z2:one < g.length) (z3:one ∉ go) (z4:Q .non H):uF CS vs H Q
def xU (CS:Addr):Sp:=fun vs H Q _=>uF CS vs H Q
theorem mR {CS:Addr} (F:Fun K "check_there" "check_there" cY f fd) (B:Bt mg) (S:qZ K CS) (D_is_number:Df P w K mg base "is_number" 1 ["thing","low","high"] eU) :
  bL P w K mg base CX0 2 f fd ["stand","one"] (xU CS):=by
 refine F.ok gH (fun vs H Q E h=>?_) (fun cdv A outer s H vs Q E hr h=>?_)
 ·obtain⟨st,one,n,co,g,go,es,rfl,_⟩:=h
  rfl
 ·obtain⟨st,one,n,co,g,go,es,rfl,⟨dx,ga,goa,sa,us,hs,hga,hgo,hsa,hes⟩,lo,hg,q⟩:=h
  refine⟨_,(ak (bc (cJ (bR (bh D_is_number hr (aa (pv 1) (aa az (aa (bD kJ (aA (r:=ik K) aO rfl B.len_ bI (aa (aF K rfl (pv 0)) aj)) az) aj)))))) (aq je) aJ)
 (aq (bc (aK (r:=rIn K false) jb (pv 1) (aF K rfl (pv 0)) rfl) (aq je) aJ))),?_⟩
  refine aD (fun σ H1=>σ=[some (.ref st),some (vN one)]/\H1=H) ?q1 ?t1
  case t1 =>
   intro N Rc
   refine⟨_,rfl,_,rfl,st,CS,dx,_,_,rfl,hs,S.cl,S.green,rfl,ga,_,rfl,.inr (SqT.of hga),_,_,rfl,rfl,vN one,0,_,rfl,.int _,_,rfl,?_⟩
   rw[show isNum (vN one) 0 ((((g.map V.int).length:Nat):Int) - 1)=true by
    show (decide ((0:Int)<=(one:Int)) && decide ((one:Int)<=(((g.map V.int).length:Nat):Int) - 1))=true
    rw[J8,decide_eq_true (by lia),decide_eq_true (by lia)]
    rfl]
   exact cj (Rc _ _ ⟨rfl,rfl⟩)
  case q1 =>
  rintro σ H1 ⟨rfl,rfl⟩
  refine⟨_,rfl,_,rfl,st,CS,dx,_,_,rfl,hs,S.cl,S.gone,rfl,goa,_,rfl,.inr (SqT.of hgo),rfl,dZ go,_,rfl,?_⟩
  have e:inV (vN one) (go.map vN)=false:=by
   rw[show vN one=V.int (one:Int) from rfl,iZ]
   exact decide_eq_false hg
  rw[if_neg (show ¬ false=true from J9),e]
  exact cj q
abbrev eX:Stmt:=inClass (top 41) 4
theorem gD:aG ["self","one","pledge","now"] ["self","one","pledge"] (au eX):=⟨rfl,rfl,rfl,by decide+kernel,rfl,by decide+kernel,by decide+kernel⟩
theorem wg {g:List Int} {p:Pl} (h:∀ x∈p,0<=x.1):0<=owF g p:=by
 have key:∀ (p:Pl) (f:Int),0<=f->(∀ x∈p,0<=x.1)->0<=p.foldl (owS g) f:=by
  intro p
  induction p with
  | nil=>intro f hf _; exact hf
  | cons x r ih =>
   intro f hf hx
   rw[NT]
   refine ih _ ?_ fun y hy=>hx y (KC _ hy)
   unfold owS
   split
   ·exact hx x KD
   ·exact hf
 exact key p 0 (Int.le_refl _) h
abbrev mF:Stmt:=top 37
abbrev fH:Stmt:=top 38
abbrev dX:Stmt:=top 40
theorem vP:aG ["standing","one","giving"] ["standing","one","giving"] (au mF):=⟨rfl,rfl,rfl,by decide+kernel,rfl,by decide+kernel,by decide+kernel⟩
theorem cX:aG ["stand","number","found","one","pledge"] ["stand","number"] (au fH):=⟨rfl,rfl,rfl,by decide+kernel,rfl,by decide+kernel,by decide+kernel⟩
theorem lX:aG ["stand","one","standing"] ["stand","one","standing"] (au dX):=⟨rfl,rfl,rfl,by decide+kernel,rfl,by decide+kernel,by decide+kernel⟩
def owL (es:List Ent) (one:Nat) (g:List Int):List Int:=(es.filter fun e=>decide (e.2.1=one)).map fun e=>owF g e.2.2
theorem Bh {es:List Ent} {one:Nat} {g:List Int} {e:Ent}:owL (es++[e]) one g=owL es one g++if e.2.1=one then [owF g e.2.2] else []:=by
 unfold owL
 rw[Qg,K3]
 congr 1
 by_cases h:e.2.1=one
 ·rw[if_pos h,Ol (by exact decide_eq_true h)]
  rfl
 ·rw[if_neg h,Om (by rw[decide_eq_false h]; exact J9)]
  rfl
inductive qJ (vs:List V) (H:Hp) (Q:VK):Prop where
 | mk (sa ga:Addr) (one n:Nat) (us:List V) (es:List Ent) (g:List Int) (z0:vs=[.ref sa,vN one,.ref ga]) (z1:H sa=some (.tup us)) (z2:bN n H us es) (z3:es.length<=100) (z4:H ga=some (.tup (g.map V.int))) (z5:g.length=n) (z6:∀ H',aR H H'->Q (.int (mxD 0 (owL es one g))) H'):qJ  vs H Q
def uB:Sp:=fun vs H Q _=>qJ  vs H Q
theorem vD {k:Nat} (F:Fun K "owed_of" "owed_of" mF f fd) (B:Bt mg) (D_owes:Df P w K mg base "owes" k ["pledge","giving"] (Dz K)) :
  bL P w K mg base CX0 (k+1) f fd ["standing","one","giving"] uB:=by
 refine F.ok vP (fun vs H Q E h=>?_) (fun cdv A outer s H vs Q E hr h=>?_)
 ·obtain⟨sa,ga,one,n,us,es,g,rfl,_⟩:=h
  rfl
 ·obtain⟨sa,ga,one,n,us,es,g,rfl,hsa,hes,l100,hga,lg,q⟩:=h
  refine⟨_,(aq (aH (Ek rfl rfl B.max_ (aa (eQ (L:=["number","other","pledge"]) (F:=["giving","one"]) (cap:=[2,1]) rfl (cz rfl rfl (by kernel_rfl)) (fu (pv 0)) (fun _ _ _ _ _=>(iG (K:=K) 3 rfl rfl (bG (aQ (i:=0) (bV (by decide+kernel)) rfl (K5 rfl)) (bG (aQ (i:=1) (bV (by decide+kernel)) rfl (K5 rfl)) (bG (aQ (i:=2) (bV (by decide+kernel)) rfl (K5 rfl)) ie))))) (fun _ _ _ _ _=>(jB (aK cH (pv 1) (pv 4) (aN _)))) (fun _ _ _ _ _=>(bh D_owes hr (aa (pv 2) (aa (pv 3) aj))))) aj)))),?_⟩
  have les:=hes.length
  refine⟨_,rfl,sa,rfl,⟨_,SqT.of hsa⟩,fun D hD=>gq (K:=K) (a:=sa) (xs:=us) (fun i zs σ' H2=>(∃ u v w,σ'=[u,v,w,some (.ref ga),some (vN one)])/\aR H H2/\H2 D=some (.lst zs)/\zs=(owL (es.take i) one g).map V.int)
   ⟨⟨_,_,_,rfl⟩,aB hD _,ao,by rw[Lz]; rfl⟩ (fun i zs σ' H2 _ h=>⟨SqT.of (h.2.1 _ _ hsa),h.2.2.1⟩) ?_ ?_⟩
  ·rintro i zs x σ' H2 hx ⟨⟨u,v,w,rfl⟩,sm,eD,rfl⟩
   obtain⟨e,p,num,o2,pl,rfl,he,hent,hpr⟩:=hes.get hx
   have nx:owL (es.take (i+1)) one g=owL (es.take i) one g++if o2=one then [owF g pl] else []:=by
    rw[LC,he]
    exact Bh
   have ll:(owL (es.take i) one g).length<=100:=by
    unfold owL
    rw[J8]
    refine K7 (Mg _ _) ?_
    rw[Lk]
    lia
   refine⟨e,_,rfl,SqT.of (sm _ _ hent),rfl,_,_,rfl,_,_,rfl,_,_,rfl,rfl,?_⟩
   refine⟨_,rfl,_,rfl,rfl,_,rfl,?_⟩
   by_cases z:o2=one
   ·rw[decide_eq_true (show vN o2=vN one by rw[z])]
    refine dF ⟨_,rfl,_,rfl,p,ga,n,pl,g,rfl,hpr.aZ (fun a xs q=>sm a _ q),SqT.of (sm _ _ hga),by lia,fun H3 s3=>?_⟩
    refine⟨s3 _ _ eD,bu (by rw[J8]; lia),⟨_,_,_,rfl⟩,cg (sm.trans s3) hD _,ao,?_⟩
    rw[nx,if_pos z,K3]
    rfl
   ·rw[decide_eq_false (show ¬ vN o2=vN one from fun y=>z (by injection y with y; lia))]
    refine cj ⟨⟨_,_,_,rfl⟩,sm,eD,?_⟩
    rw[nx,if_neg z,Nb]
  ·rintro zs σ' H2 ⟨_,sm,eD,rfl⟩
   rw[les,Ld] at eD
   exact⟨D,_,rfl,SqL.of eD,q H2 sm⟩
inductive nq (CS:Addr) (vs:List V) (H:Hp) (Q:VK):Prop where
 | mk (st:Addr) (num one n co:Nat) (g:List Int) (go:List Nat) (es:List Ent) (pl:Pl) (z0:vs=[.ref st,vN num]) (z1:eF CS n H st g go es co) (z2:num < co) (z3:(num,one,pl)∈es) (z4:(es.map (·.1)).Nodup) (z5:Q (vN one) H):nq CS vs H Q
def qR (CS:Addr):Sp:=fun vs H Q _=>nq CS vs H Q
theorem o4 {CS:Addr} (F:Fun K "pledger_of" "pledger_of" fH f fd) (B:Bt mg) (S:qZ K CS) (D_is_number:Df P w K mg base "is_number" 1 ["thing","low","high"] eU) :
  bL P w K mg base CX0 2 f fd ["stand","number"] (qR CS):=by
 refine F.ok cX (fun vs H Q E h=>?_) (fun cdv A outer s H vs Q E hr h=>?_)
 ·obtain⟨st,num,one,n,co,g,go,es,pl,rfl,_⟩:=h
  rfl
 ·obtain⟨st,num,one,n,co,g,go,es,pl,rfl,⟨dx,ga,goa,sa,us,hs,hga,hgo,hsa,hes⟩,hco,hin,nd,q⟩:=h
  refine⟨_,(ak (bc (bR (bh D_is_number hr (aa (pv 1) (aa az (aa (bD kJ (aF K rfl (pv 0)) az) aj))))) (aq (gJ M8 rfl (fu (aF K rfl (pv 0))) (iG (K:=K) 3 rfl rfl (bG (aQ (i:=2) cX.nd rfl (K5 rfl)) (bG (aQ (i:=3) cX.nd rfl (K5 rfl)) (bG (aQ (i:=4) cX.nd rfl (K5 rfl)) ie)))) (aq (bc (aK cH (pv 2) (pv 1) (aN _)) (aq (aH (pv 3))) aJ)))) aJ)
 (aq je)),?_⟩
  refine⟨_,rfl,_,rfl,st,CS,dx,_,_,rfl,hs,S.cl,S.coming,rfl,_,_,rfl,rfl,vN num,0,_,rfl,.int _,_,rfl,?_⟩
  rw[show isNum (vN num) 0 ((co:Int) - 1)=true by
   show (decide ((0:Int)<=(num:Int)) && decide ((num:Int)<=(co:Int) - 1))=true
   rw[decide_eq_true (by lia),decide_eq_true (by lia)]
   rfl]
  refine dF ?_
  refine⟨_,rfl,st,CS,dx,_,_,rfl,hs,S.cl,S.standing,rfl,sa,rfl,⟨_,SqT.of hsa⟩,lK (K:=K) (a:=sa) (xs:=us) (fun i σ H2=>(∃ u v w,σ=[some (.ref st),some (vN num),u,v,w])/\H2=H/\∀ e∈es.take i,e.1≠num) ⟨⟨_,_,_,rfl⟩,rfl,fun e he=>by rw[Lz] at he; cases he⟩
   (fun i σ H2 _ h=>by rw[h.2.1]; exact SqT.of hsa) ?_ ?_⟩
  ·rintro i x σ H2 hx ⟨⟨u,v,w,rfl⟩,rfl,hno⟩
   obtain⟨e,p,nu,o2,pl2,rfl,he,hent,hpr⟩:=hes.get hx
   refine⟨e,_,rfl,SqT.of hent,rfl,_,_,rfl,_,_,rfl,_,_,rfl,rfl,?_⟩
   refine⟨_,rfl,_,rfl,rfl,_,rfl,?_⟩
   by_cases z:nu=num
   ·rw[decide_eq_true (show vN nu=vN num by rw[z])]
    have eo:o2=one:=by
     obtain⟨j,hj,ej⟩:=Py hin
     have hi:=(List.getElem?_eq_some_iff.mp he)
     have hij:i=j:=by
      have h1:(es.map (·.1))[i]? = some num:=by rw[KQ,he]; show some nu=_; rw[z]
      have h2:(es.map (·.1))[j]? = some num:=by rw[KQ,Kd hj,ej]; rfl
      obtain⟨a1,b1⟩:=List.getElem?_eq_some_iff.mp h1
      obtain⟨a2,b2⟩:=List.getElem?_eq_some_iff.mp h2
      exact (TX nd).mp (b1.trans b2.symm)
     subst hij
     rw[Kd hj,ej] at he
     cases he
     rfl
    rw[eo]
    exact dF ⟨_,rfl,q⟩
   ·rw[decide_eq_false (show ¬ vN nu=vN num from fun y=>z (by injection y with y; lia))]
    refine cj ⟨⟨_,_,_,rfl⟩,rfl,fun e' he'=>?_⟩
    rw[LC,he,PX] at he'
    rcases he' with h | h
    ·exact hno e' h
    ·rw[List.mem_singleton.mp h]
     exact z
  ·rintro σ H2 ⟨_,rfl,hno⟩
   rw[hes.length,Ld] at hno
   exact absurd rfl (hno _ hin)
theorem vM {es:List Ent} (ok:∀ e∈es,okP e.2.2) (one:Nat) (g:List Int):0<=mxD 0 (owL es one g):=by
 have all:∀ x∈owL es one g,0<=x:=fun x hx=>by
  obtain⟨e,he,rfl⟩:=List.mem_map.mp hx
  exact wg fun y hy=>by have:=((ok e (List.mem_filter.mp he).1).2.2.2 y hy).1; lia
 cases h:owL es one g with
 | nil=>exact Int.le_refl _
 | cons a r =>
  show 0<=r.foldl max a
  have:=all a (by rw[h]; exact KD)
  exact Int.le_trans this (jH r a).1
theorem bN.ok {n:Nat} {H:Hp}:∀ {us:List V} {es:List Ent},bN n H us es->∀ e∈es,okP e.2.2
 | _,_,.nil,e,h=>by cases h
 | _,_,.cons _ p r,e,h=>by
  rcases List.mem_cons.mp h with z | z
  ·rw[z]
   exact p.1
  ·exact bN.ok r e z
inductive yI (CS:Addr) (vs:List V) (H:Hp) (Q:VK):Prop where
 | mk (st sa:Addr) (one n co:Nat) (g:List Int) (go:List Nat) (es es':List Ent) (us':List V) (z0:vs=[.ref st,vN one,.ref sa]) (z1:eF CS n H st g go es co) (z2:g.length=n) (z3:one < n) (z4:g.getD one 0=0) (z5:H sa=some (.tup us')) (z6:bN n H us' es') (z7:es'.length<=100) (z8:∀ (st':Addr) (H':Hp),aR H H'->eF CS n H' st' g go es' co->Q (.ref st') H'):yI CS vs H Q
def Dh (CS:Addr):Sp:=fun vs H Q _=>yI CS vs H Q
theorem lq {CS:Addr} {k:Nat} (hk:2<=k) (F:Fun K "pledged_anew" "pledged_anew" dX f fd) (B:Bt mg) (S:qZ K CS) (D_owed_of:Df P w K mg base "owed_of" k ["standing","one","giving"] uB)
  (D_Stand:Dk2 P w K mg base "Stand" CS 1 ["self","green","gone","standing","coming"] (dM CS)):bL P w K mg base CX0 (k+1) f fd ["stand","one","standing"] (Dh CS):=by
 refine F.ok lX (fun vs H Q E h=>?_) (fun cdv A outer s H vs Q E hr h=>?_)
 ·obtain⟨st,sa,one,n,co,g,go,es,es',us',rfl,_⟩:=h
  rfl
 ·obtain⟨st,sa,one,n,co,g,go,es,es',us',rfl,⟨dx,ga,goa,sa0,us,hs,hga,hgo,hsa0,hes⟩,lg,hone,g0,hsa,hes',l100,q⟩:=h
  refine⟨_,(ak (bc (aK HX (bK (r:=gB K) bz (aF K rfl (pv 0)) (pv 1) (fun _ _=>rfl)) (bh D_owed_of hr (aa (pv 2) (aa (pv 1) (aa (aF K rfl (pv 0)) aj)))) (aN _)) (aq je) aJ)
 (aq (aH (wM D_Stand hr (aa (aF K rfl (pv 0)) (aa (aF K rfl (pv 0)) (aa (pv 2) (aa (aF K rfl (pv 0)) aj)))))))),?_⟩
  have ag:atI (g.map V.int) (one:Int)=some (.int 0):=by
   have h1:one < g.length:=by lia
   rw[yD h1]
   have:g.getD one 0=g[one]:=by rw[K6,Kd h1]; rfl
   rw[← this,g0]
  refine aD (fun σ H1=>σ=[some (.ref st),some (vN one),some (.ref sa)]/\aR H H1) ?q1 ?t1
  case t1 =>
   intro N Rc
   refine⟨_,rfl,st,CS,dx,_,_,rfl,hs,S.cl,S.green,rfl,_,rfl,ga,_,_,_,rfl,rfl,SqT.of hga,ag,?_⟩
   refine⟨_,rfl,_,rfl,_,rfl,st,CS,dx,_,_,rfl,hs,S.cl,S.green,rfl,sa,ga,one,n,us',es',g,rfl,hsa,hes',l100,hga,lg,fun H1 s1=>?_⟩
   refine⟨_,_,rfl,rfl,_,rfl,?_⟩
   rw[decide_eq_false (show ¬ (mxD 0 (owL es' one g) < (0:Int)) by have:=vM hes'.ok one g; lia)]
   exact cj (Rc _ _ ⟨rfl,s1⟩)
  case q1 =>
  rintro σ H1 ⟨rfl,s1⟩
  have hs1:=s1 _ _ hs
  refine⟨_,rfl,st,CS,dx,_,_,rfl,hs1,S.cl,S.green,rfl,_,rfl,st,CS,dx,_,_,rfl,hs1,S.cl,S.gone,rfl,_,rfl,_,rfl,st,CS,dx,_,_,rfl,hs1,S.cl,S.coming,rfl,fun x dx3 hx hdx hne=>?_⟩
  refine jZ hx hdx hne fun H2 s2 e2=>⟨rfl,?_⟩
  have s12:=s1.trans s2
  exact q x H2 s12 ⟨dx3,ga,goa,sa,us',e2,s12 _ _ hga,s12 _ _ hgo,s12 _ _ hsa,hes'.aZ fun a xs q=>s12 a _ q⟩
abbrev dg:Stmt:=inClass (top 41) 6
theorem cD:aG ["self","number","now","one","left"] ["self","number"] (au dg):=⟨rfl,rfl,rfl,by decide+kernel,rfl,by decide+kernel,by decide+kernel⟩
theorem bN.Gg {n:Nat} {p:Ent->Bool} {e:Ent} {es:List Ent} {i:Nat} (h:es[i]? = some e):(es.take (i+1)).filter p=(es.take i).filter p++if p e=true then [e] else []:=by
 rw[LC,h,Qg]
 congr 1
 show List.filter p [e]=_
 by_cases z:p e=true
 ·rw[if_pos z,Ol z]
  rfl
 ·rw[if_neg z,Om z]
  rfl
inductive kE (CS CB:Addr) (vs:List V) (H:Hp) (Q:VK):Prop where
 | mk (b be:Addr) (num one n d co:Nat) (g:List Int) (go:List Nat) (es:List Ent) (pl0:Pl) (z0:vs=[.ref b,vN num]) (z1:bj CS CB n H b be d g go es co) (z2:g.length=n) (z3:one < n) (z4:g.getD one 0=0) (z5:num < co) (z6:(num,one,pl0)∈es) (z7:(es.map (·.1)).Nodup) (z8:es.length<=40) (z9:d<=900) (z10:∀ H',But b be H H'->bj CS CB n H' b be (d+1) g go (es.filter fun e=>decide (e.1≠num)) co->Q .non H'):kE CS CB vs H Q
def jx (CS CB:Addr):Sp:=fun vs H Q _=>kE CS CB vs H Q
theorem jU {CS CB:Addr} {k:Nat} (hk:2<=k) (ne:CB≠CS) (F:Fun K "withdraw" "Boon.withdraw" dg f fd) (B:Bt mg) (S:qZ K CS) (T:vK K CB)
  (D_pledger_of:Df P w K mg base "pledger_of" 2 ["stand","number"] (qR CS))
  (D_pledged_anew:Df P w K mg base "pledged_anew" k ["stand","one","standing"] (Dh CS)) (D_Boon_go_on:Dm2 P w K mg base CB "go_on" 1 ["self","stand"] (nH CB)) :
  bL P w K mg base CX0 (k+1) f fd ["self","number"] (jx CS CB):=by
 refine F.ok cD (fun vs H Q E h=>?_) (fun cdv A outer s H vs Q E hr h=>?_)
 ·obtain⟨b,be,num,one,n,d,co,g,go,es,pl0,rfl,_⟩:=h
  rfl
 ·obtain⟨b,be,num,one,n,d,co,g,go,es,pl0,rfl,⟨dx,nw,ah,xs,hb,hbe,lx,hst⟩,lg,hone,g0,hco,hin,nd,l40,d9,q⟩:=h
  refine⟨_,(ak (aY (i:=2) cD.nd rfl (K5 rfl) (aF K rfl (pv 0)))
 (ak (aY (i:=3) cD.nd rfl (K5 rfl) (bh D_pledger_of hr (aa (pv 2) (aa (pv 1) aj))))
 (ak (aY (i:=4) cD.nd rfl (K5 rfl) (fV (r:=vq K) gZ rfl B.tuple_ cP (aa (eQ (L:=["entry"]) (F:=["number"]) (cap:=[1]) rfl (cz rfl rfl (by kernel_rfl)) (fu (aF K rfl (pv 2))) (fun _ _ _ _ _=>(aQ (i:=0) (bV (by decide+kernel)) rfl (K5 rfl))) (fun _ _ _ _ _=>(jB (aK su (bK (r:=gB K) bz (pv 0) az (fun _ _=>rfl)) (pv 1) (aN _)))) (fun _ _ _ _ _=>(pv 0))) aj)))
 (aq (bJ (rZ D_Boon_go_on hr (pv 0) (aa (bh D_pledged_anew hr (aa (pv 2) (aa (pv 3) (aa (pv 4) aj)))) aj))))))),?_⟩
  refine aD (fun σ H1=>σ=[some (.ref b),some (vN num),some (.ref nw),none,none]/\H1=H) ?q0 ?t0
  case t0 =>
   intro N Rc
   exact⟨_,rfl,b,CB,dx,_,_,rfl,hb,T.cl,T.now,rfl,Rc _ _ ⟨rfl,rfl⟩⟩
  case q0 =>
  rintro σ H0 ⟨rfl,rfl⟩
  refine aD (fun σ H1=>σ=[some (.ref b),some (vN num),some (.ref nw),some (vN one),none]/\H1=H0) ?q1 ?t1
  case t1 =>
   intro N Rc
   exact⟨_,rfl,_,rfl,nw,num,one,n,co,g,go,es,pl0,rfl,hst,hco,hin,nd,Rc _ _ ⟨rfl,rfl⟩⟩
  case q1 =>
  rintro σ H2 ⟨rfl,rfl⟩
  obtain⟨dx2,ga,goa,sa,us,hs,hga,hgoa,hsa,hes⟩:=id hst
  have les:=hes.length
  refine aD (fun σ H3=>∃ (ch:Addr) (us':List V),σ=[some (.ref b),some (vN num),some (.ref nw),some (vN one),some (.ref ch)]/\aR H2 H3/\H3 ch=some (.tup us')/\bN n H3 us' (es.filter fun e=>decide (e.1≠num))) ?q3 ?t3
  case t3 =>
   intro N Rc
   refine⟨_,rfl,nw,CS,dx2,_,_,rfl,hs,S.cl,S.standing,rfl,sa,rfl,⟨_,SqT.of hsa⟩,fun D hD=>gq (K:=K) (a:=sa) (xs:=us) (fun i zs σ' H3=>(∃ u,σ'=[u,some (vN num)])/\aR H2 H3/\H3 D=some (.lst zs)/\bN n H3 zs ((es.take i).filter fun e=>decide (e.1≠num)))
    ⟨⟨_,rfl⟩,aB hD _,ao,by rw[Lz]; exact .nil⟩ (fun i zs σ' H3 _ h=>⟨SqT.of (h.2.1 _ _ hsa),h.2.2.1⟩) ?_ ?_⟩
   ·rintro i zs x σ' H3 hx ⟨⟨u,rfl⟩,sm,eD,ez⟩
    obtain⟨e,p2,nu,o2,pl2,rfl,he,hent,hpr⟩:=hes.get hx
    have lz:=ez.length
    have lf:=Mg (fun e:Ent=>decide (e.1≠num)) (es.take i)
    rw[Lk] at lf
    have nx:=bN.Gg (n:=n) (p:=fun e:Ent=>decide (e.1≠num)) he
    refine⟨_,rfl,e,_,_,_,rfl,rfl,SqT.of (sm _ _ hent),rfl,_,rfl,rfl,_,rfl,?_⟩
    by_cases z:nu=num
    ·rw[show decide (vN nu=vN num)=true from decide_eq_true (by rw[z])]
     show if (!true)=true then _ else _
     refine cj ⟨⟨_,rfl⟩,sm,eD,?_⟩
     rw[nx,if_neg (by rw[decide_eq_false (not_not_intro z)]; exact J9),Nb]
     exact ez
    ·rw[show decide (vN nu=vN num)=false from decide_eq_false fun y=>z (by injection y with y; lia)]
     show if (!false)=true then _ else _
     have tk:=cN (zs':=zs++[.ref e]) eD
     refine dF ⟨_,rfl,eD,bu (by lia),⟨_,rfl⟩,cg sm hD _,ao,?_⟩
     rw[nx,if_pos (decide_eq_true z)]
     exact bN.snoc (tk _ _ (sm _ _ hent)) ((hpr.aZ fun a ys q=>sm a _ q).aZ tk) (ez.aZ tk)
   ·rintro zs σ' H3 ⟨_,sm,eD,ez⟩
    rw[les,Ld] at ez
    refine⟨D,_,rfl,.inl ⟨SqL.of eD,fun a ha=>?_⟩⟩
    have sn:=aB ha (.tup zs)
    exact Rc _ _ ⟨a,zs,rfl,sm.trans sn,ao,ez.aZ fun a ys q=>sn a _ q⟩
  case q3 =>
  rintro σ H3 ⟨ch,us',rfl,s3,ech,ees⟩
  refine⟨_,rfl,b,dx,_,rfl,s3 _ _ hb,rfl,?_⟩
  refine⟨_,rfl,_,rfl,_,rfl,nw,ch,one,n,co,g,go,es,_,us',rfl,hst.ks (ksS s3),lg,hone,g0,ech,ees,by have:=Mg (fun e:Ent=>decide (e.1≠num)) es; lia,fun st' H4 s4 hst4=>?_⟩
  have s24:=s3.trans s4
  refine⟨b,be,st',dx,nw,ah,xs,rfl,s24 _ _ hb,s24 _ _ hbe,by lia,fun ah' H5 e5 e5' bt=>?_⟩
  exact q H5 ((Gu s24).trans bt) ⟨dx,st',ah',_,e5,e5',by rw[KR,lx]; rfl,hst4.ks (bt.ks ne (s24 _ _ hb) (s24 _ _ hbe))⟩
theorem stT {H H1:Hp} {a:Addr} {xs:List V} (s:dY H H1) (h:H a=some (.tup xs)):H1 a=some (.tup xs):=s a (.tup xs) (fun _ z=>nomatch z) h
theorem stL {H H1:Hp} {a:Addr} {xs:List V} (s:dY H H1) (h:H a=some (.lst xs)):H1 a=some (.lst xs):=s a (.lst xs) (fun _ z=>nomatch z) h
theorem thrown.mono {C:Addr} {w:KH} {H H1:Hp} {E:XK} (s:aR H H1) (h:thrown C w H E):thrown C w H1 E:=fun dx H2 s2 e=>h dx H2 (s.trans s2) e
theorem tH {K:Ky} {C G:Addr} {w:KH} {H:Hp} {Q:VK} (R:XRd K C G "word") (q:∀ (a:Addr) (H':Hp),aR H H'->H' a=some (.tup [.str w])->Q (.ref a) H'):thrown C w H (XW K G "word" Q):=by
 intro dx H1 s ed
 refine⟨C,dx,_,_,rfl,rfl,R,ed,rfl,fun x u a hx ha=>q a _ ?_ ao⟩
 exact s.trans ((aB hx _).trans (aB ha _))
inductive pB (CS CN CG:Addr) (vs:List V) (H:Hp) (Q:VK) (E:XK):Prop where
 | mk (st:Addr) (one:Int) (n co:Nat) (g:List Int) (go:List Nat) (es:List Ent) (z0:vs=[.ref st,.int one]) (z1:eF CS n H st g go es co) (z2:((one < 0∨(g.length:Int)<=one)->thrown CN "no folk" H E)) (z3:(∀ i:Nat,one=i->i < g.length->i∈go->thrown CG "gone" H E)) (z4:(∀ i:Nat,one=i->i < g.length->i ∉ go->Q .non H)):pB CS CN CG vs H Q E
def uY (CS CN CG:Addr):Sp:=fun vs H Q E=>pB CS CN CG vs H Q E
theorem jW {CS CN CG:Addr} (F:Fun K "check_there" "check_there" cY f fd) (B:Bt mg) (S:qZ K CS) (D_is_number:Df P w K mg base "is_number" 1 ["thing","low","high"] eU)
  (X_NoFolk:Xc P w K mg base "NoFolk" CN "no folk") (X_Gone:Xc P w K mg base "Gone" CG "gone"):bL P w K mg base (XL P w) 4 f fd ["stand","one"] (uY CS CN CG):=by
 refine F.okX gH (fun vs H Q E h=>?_) (fun cdv A outer s H vs Q E hr h=>?_)
 ·obtain⟨st,one,n,co,g,go,es,rfl,_⟩:=h
  rfl
 ·obtain⟨st,one,n,co,g,go,es,rfl,⟨dx,ga,goa,sa,us,hs,hga,hgo,hsa,hes⟩,hN,hG,q⟩:=h
  refine⟨_,(ak (bc (cJ (bR (bh D_is_number hr (aa (pv 1) (aa az (aa (bD kJ (aA (r:=ik K) aO rfl B.len_ bI (aa (aF K rfl (pv 0)) aj)) az) aj)))))) (aq (iY X_NoFolk hr rfl f9)) aJ)
 (aq (bc (aK (r:=rIn K false) jb (pv 1) (aF K rfl (pv 0)) rfl) (aq (iY X_Gone hr rfl f9)) aJ))),?_⟩
  refine aD (fun σ H1=>∃ i:Nat,one=i/\i < g.length/\σ=[some (.ref st),some (vN i)]/\H1=H) ?q1 ?t1
  case t1 =>
   intro N Rc
   refine⟨_,rfl,_,rfl,st,CS,dx,_,_,rfl,hs,S.cl,S.green,rfl,ga,_,rfl,.inr (SqT.of hga),_,_,rfl,rfl,.int one,0,_,rfl,.int _,_,rfl,?_⟩
   by_cases hz:0<=one/\one < g.length
   ·rw[show isNum (.int one) 0 ((((g.map V.int).length:Nat):Int) - 1)=true by
     show (decide ((0:Int)<=one) && decide (one<=(((g.map V.int).length:Nat):Int) - 1))=true
     rw[J8,decide_eq_true (by lia),decide_eq_true (by lia)]
     rfl]
    refine cj (Rc _ _ ⟨one.toNat,by lia,by lia,?_,rfl⟩)
    show[some (V.ref st),some (V.int one)]=[some (.ref st),some (.int (one.toNat:Int))]
    rw[Int.toNat_of_nonneg hz.1]
   ·rw[show isNum (.int one) 0 ((((g.map V.int).length:Nat):Int) - 1)=false by
     show (decide ((0:Int)<=one) && decide (one<=(((g.map V.int).length:Nat):Int) - 1))=false
     rw[J8]
     by_cases h0:0<=one
     ·rw[decide_eq_false (show ¬ one<=(g.length:Int) - 1 by lia),Oq]
     ·rw[decide_eq_false h0,Pj]]
    exact dF (hN (by lia))
  case q1 =>
  rintro σ H1 ⟨i,rfl,hi,rfl,rfl⟩
  refine⟨_,rfl,_,rfl,st,CS,dx,_,_,rfl,hs,S.cl,S.gone,rfl,goa,_,rfl,.inr (SqT.of hgo),rfl,dZ go,_,rfl,?_⟩
  have e:inV (vN i) (go.map vN)=decide (i∈go):=by
   rw[show vN i=V.int (i:Int) from rfl,iZ]
  rw[if_neg (show ¬ false=true from J9),e]
  by_cases z:i∈go
  ·rw[decide_eq_true z]
   exact dF (hG i rfl hi z)
  ·rw[decide_eq_false z]
   exact cj (q i rfl hi z)
mutual
theorem HD {one:Nat}:∀ t:Tm,one ∉ mnF t->nn one t=true
 | .free,_=>by simp [nn]
 | .never,_=>by simp [nn]
 | .gives i k,h=>by
  simp only[mnF] at h
  simp only[nn]
  exact decide_eq_true fun z=>h (by rw[z]; exact List.mem_singleton.mpr rfl)
 | .sum c k,h=>by simpa [nn,mnF] using h
 | .crowd c k m,h=>by simpa [nn,mnF] using h
 | .all ts,h=>by
  simp only[mnF] at h
  simp only[nn]
  exact zK ts h
 | .any ts,h=>by
  simp only[mnF] at h
  simp only[nn]
  exact zK ts h
theorem zK {one:Nat}:∀ ts:List Tm,one ∉ mnL ts->nnL one ts=true
 | [],_=>by simp [nnL]
 | t::r,h=>by
  rw[mnL,PX,not_or] at h
  rw[nnL,HD t h.1,zK r h.2]
  rfl
end
theorem zr {n who:Nat} {x:Int × Tm}:∀ {p:Pl} {lo:Int},x∈p->nn who x.2=false->plF n who lo (p.map fun x=>Rg.rung x.1 x.2)=false
 | [],_,h,_=>by cases h
 | y::r,lo,h,e=>by
  show (rgF n who lo (.rung y.1 y.2) && plF n who (y.1+1) (r.map fun x=>Rg.rung x.1 x.2))=false
  rcases List.mem_cons.mp h with z | z
  ·have hm:who∈mnF y.2:=Classical.byContradiction fun q=>by
    rw[← z,HD x.2 (by rw[z]; exact q)] at *
    cases e
   show (((decide (lo<=y.1) && decide (y.1<=9)) && (ltF n (mnF y.2) && !decide (who∈mnF y.2))) && _)=false
   rw[decide_eq_true hm]
   simp
  ·rw[zr z e,Oq]
theorem Gk {n who:Nat} {x:Int × Tm} {p:Pl} (h:x∈p) (e:nn who x.2=false):Gh n who (p.map fun x=>Rg.rung x.1 x.2)=false:=by
 unfold Gh
 rw[zr h e,Oq]
inductive uD (CS CP:Addr) (vs:List V) (H:Hp) (Q:VK) (E:XK):Prop where
 | mk (st p:Addr) (one n co:Nat) (g:List Int) (go:List Nat) (es:List Ent) (pl:Pl) (z0:vs=[.ref st,vN one,.ref p]) (z1:eF CS n H st g go es co) (z2:g.length=n) (z3:1<=n) (z4:n<=12) (z5:wV n H p pl) (z6:((∃ x∈pl,nn one x.2=false)->thrown CP "bad pledge" H E)) (z7:((∀ x∈pl,nn one x.2=true)->∀ H',aR H H'->Q .non H')):uD CS CP vs H Q E
def zL (CS CP:Addr):Sp:=fun vs H Q E=>uD CS CP vs H Q E
theorem jy {CS CP:Addr} {k:Nat} (hk:3<=k) (F:Fun K "check_pledge" "check_pledge" dR f fd) (B:Bt mg) (S:qZ K CS) (D_is_pledge:Df P w K mg base "is_pledge" k ["many","one","thing"] m5)
  (X_BadPledge:Xc P w K mg base "BadPledge" CP "bad pledge"):bL P w K mg base (XL P w) (k+1) f fd ["stand","one","pledge"] (zL CS CP):=by
 refine F.okX kj (fun vs H Q E h=>?_) (fun cdv A outer s H vs Q E hr h=>?_)
 ·obtain⟨st,p,one,n,co,g,go,es,pl,rfl,_⟩:=h
  rfl
 ·obtain⟨st,p,one,n,co,g,go,es,pl,rfl,⟨dx,ga,goa,sa,us,hs,hga,hgo,hsa,hes⟩,lg,n1,n12,⟨okp,vs0,hp,rv⟩,hbad,q⟩:=h
  refine⟨_,(aq (bc (cJ (bR (bh D_is_pledge hr (aa (aA (r:=ik K) aO rfl B.len_ bI (aa (aF K rfl (pv 0)) aj)) (aa (pv 1) (aa (pv 2) aj)))))) (aq (iY X_BadPledge hr rfl f9 (hk:=hk))) aJ)),?_⟩
  have lv:=rv.length
  have p9:=okp.2.1
  refine⟨_,rfl,st,CS,dx,_,_,rfl,hs,S.cl,S.green,rfl,ga,_,rfl,.inr (SqT.of hga),_,rfl,_,rfl,p,vs0,_,n,n,one,?_,hp,HS rv fun x hx=>(okp.2.2.2 x hx).2.2,n12,by lia,n1,fun H1 s1=>?_⟩
  ·show[V.int (((g.map V.int).length:Nat):Int),vN one,V.ref p]=_
   rw[J8,lg]
   rfl
  ·by_cases hn:∀ x∈pl,nn one x.2=true
   ·rw[Ej okp rv hn]
    exact⟨_,rfl,cj (q hn H1 s1)⟩
   ·obtain⟨x,hx,e⟩:∃ x∈pl,nn one x.2=false:=Classical.byContradiction fun z=>hn fun x hx=>by
     cases e:nn one x.2 with
     | true=>rfl
     | false=>exact absurd ⟨x,hx,e⟩ z
    rw[Gk hx e]
    exact⟨_,rfl,dF ((hbad ⟨x,hx,e⟩).mono s1)⟩
inductive nG (CS CB CN CG CP CF:Addr) (vs:List V) (H:Hp) (Q:VK) (E:XK):Prop where
 | mk (b be p:Addr) (one:Int) (n d co:Nat) (g:List Int) (go:List Nat) (es:List Ent) (pl:Pl) (z0:vs=[.ref b,.int one,.ref p]) (z1:bj CS CB n H b be d g go es co) (z2:g.length=n) (z3:n<=12) (z4:wV n H p pl) (z5:es.length<=40) (z6:d<=900) (z7:((one < 0∨(n:Int)<=one)->thrown CN "no folk" H E)) (z8:(∀ i:Nat,one=i->i < n->i∈go->thrown CG "gone" H E)) (z9:∀ i:Nat,one=i->i < n->i ∉ go->((∃ x∈pl,nn i x.2=false)->thrown CP "bad pledge" H E)/\((∀ x∈pl,nn i x.2=true)->(40<=es.length->thrown CF "full" H E)/\(es.length < 40->∀ H',But b be H H'->bj CS CB n H' b be (d+1) g go (es++[(co,i,pl)]) (co+1)->Q (vN co) H'))):nG CS CB CN CG CP CF vs H Q E
def du (CS CB CN CG CP CF:Addr):Sp:=fun vs H Q E=>nG CS CB CN CG CP CF vs H Q E
theorem jR {CS CB CN CG CP CF:Addr} {t1:Tok} {k:Nat} (hk:4<=k) (ne:CB≠CS) (F:Fun K "pledge" "Boon.pledge" eX f fd) (B:Bt mg) (S:qZ K CS) (T:vK K CB) (c_MOST_PLEDGES:mg "MOST_PLEDGES" = some (.int 40 t1))
  (D_check_there:Dx P w K mg base "check_there" 4 ["stand","one"] (uY CS CN CG)) (D_check_pledge:Dx P w K mg base "check_pledge" k ["stand","one","pledge"] (zL CS CP))
  (D_Stand:Dk2 P w K mg base "Stand" CS 1 ["self","green","gone","standing","coming"] (dM CS)) (D_Boon_go_on:Dm2 P w K mg base CB "go_on" 1 ["self","stand"] (nH CB)) (X_Full:Xc P w K mg base "Full" CF "full") :
  bL P w K mg base (XL P w) (k+1) f fd ["self","one","pledge"] (du CS CB CN CG CP CF):=by
 refine F.okX gD (fun vs H Q E h=>?_) (fun cdv A outer s H vs Q E hr h=>?_)
 ·obtain⟨b,be,p,one,n,d,co,g,go,es,pl,rfl,_⟩:=h
  rfl
 ·obtain⟨b,be,p,one,n,d,co,g,go,es,pl,rfl,⟨dx,nw,ah,xs,hb,hbe,lx,hst⟩,lg,n12,hp,l40,d9,hN,hG,q⟩:=h
  refine⟨_,(ak (aY (i:=3) gD.nd rfl (K5 rfl) (aF K rfl (pv 0)))
 (ak (bJ (GK D_check_there hr pU (aa (pv 3) (aa (pv 1) aj))))
 (ak (bJ (GK D_check_pledge hr pU (aa (pv 3) (aa (pv 1) (aa (pv 2) aj)))))
 (ak (bc (aK qL (aA (r:=ik K) aO rfl B.len_ bI (aa (aF K rfl (pv 3)) aj)) (jX c_MOST_PLEDGES) (aN _)) (aq (iY X_Full hr rfl f9 (hk:=(Nat.le_of_succ_le hk)))) aJ)
 (ak (bJ (rZ D_Boon_go_on hr (pv 0) (aa (wM D_Stand hr (aa (aF K rfl (pv 3)) (aa (aF K rfl (pv 3)) (aa (bD (r:=nJ K) j6 (aF K rfl (pv 3)) (bA (aa (bA (aa (aF K rfl (pv 3)) (aa (pv 1) (aa (pv 2) aj)))) aj))) (aa (bD fj (aF K rfl (pv 3)) az) aj))))) aj)))
 (aq (aH (aF K rfl (pv 3))))))))),?_⟩
  refine aD (fun σ H1=>σ=[some (.ref b),some (.int one),some (.ref p),some (.ref nw)]/\H1=H) ?q0 ?t0
  case t0 =>
   intro N Rc
   exact⟨_,rfl,b,CB,dx,_,_,rfl,hb,T.cl,T.now,rfl,Rc _ _ ⟨rfl,rfl⟩⟩
  case q0 =>
  rintro σ H0 ⟨rfl,rfl⟩
  refine aD (fun σ H1=>∃ i:Nat,one=i/\i < n/\i ∉ go/\σ=[some (.ref b),some (vN i),some (.ref p),some (.ref nw)]/\H1=H0) ?q1 ?t1
  case t1 =>
   intro N Rc
   refine⟨_,rfl,_,rfl,nw,one,n,co,g,go,es,rfl,hst,fun z=>hN (by lia),fun i e hi hg=>hG i e (by lia) hg,fun i e hi hg=>Rc _ _ ⟨i,e,by lia,hg,?_,rfl⟩⟩
   rw[e]
   rfl
  case q1 =>
  rintro σ H1 ⟨i,rfl,hone,hgo,rfl,rfl⟩
  obtain⟨hbad,q⟩:=q i rfl hone hgo
  refine aD (fun σ H2=>σ=[some (.ref b),some (vN i),some (.ref p),some (.ref nw)]/\aR H1 H2/\∀ x∈pl,nn i x.2=true) ?q2 ?t2
  case t2 =>
   intro N Rc
   exact⟨_,rfl,_,rfl,_,rfl,nw,p,i,n,co,g,go,es,pl,rfl,hst,lg,by lia,n12,hp,hbad,fun hn H2 s2=>Rc _ _ ⟨rfl,s2,hn⟩⟩
  case q2 =>
  rintro σ H2 ⟨rfl,s2,hn⟩
  obtain⟨hfull,q⟩:=q hn
  obtain⟨dx2,ga,goa,sa,us,hs,hga,hgoa,hsa,hes⟩:=hst.ks (ksS s2)
  have les:=hes.length
  refine aD (fun σ H3=>σ=[some (.ref b),some (vN i),some (.ref p),some (.ref nw)]/\H3=H2/\es.length < 40) ?q3 ?t3
  case t3 =>
   intro N Rc
   refine⟨_,rfl,nw,CS,dx2,_,_,rfl,hs,S.cl,S.standing,rfl,sa,_,rfl,.inr (SqT.of hsa),_,_,rfl,rfl,_,rfl,?_⟩
   by_cases z:40<=es.length
   ·rw[decide_eq_true (show ((40:Int)<=((us.length:Nat):Int)) by lia)]
    exact dF ((hfull z).mono s2)
   ·rw[decide_eq_false (show ¬ ((40:Int)<=((us.length:Nat):Int)) by lia)]
    exact cj (Rc _ _ ⟨rfl,rfl,by lia⟩)
  case q3 =>
  rintro σ H3 ⟨rfl,rfl,l40'⟩
  replace q:=q l40'
  have hb3:=s2 _ _ hb
  have hbe3:=s2 _ _ hbe
  refine aD (fun σ H4=>σ=[some (.ref b),some (vN i),some (.ref p),some (.ref nw)]/\But b be H3 H4/\bj CS CB n H4 b be (d+1) g go (es++[(co,i,pl)]) (co+1)) ?q4 ?t4
  case t4 =>
   intro N Rc
   refine⟨_,rfl,b,dx,_,rfl,hb3,rfl,?_⟩
   refine⟨_,rfl,nw,CS,dx2,_,_,rfl,hs,S.cl,S.green,rfl,_,rfl,nw,CS,dx2,_,_,rfl,hs,S.cl,S.gone,rfl,_,rfl,nw,CS,dx2,_,_,rfl,hs,S.cl,S.standing,rfl,?_⟩
   refine⟨_,rfl,nw,CS,dx2,_,_,rfl,hs,S.cl,S.coming,rfl,_,rfl,_,rfl,small (by show 3<=1000; decide),fun p1 h1=>?_⟩
   generalize eH5:upd H3 p1 _=H5
   obtain⟨g5,e5⟩:=aX eH5 h1
   refine⟨small (by show 1<=1000; decide),fun p2 h2=>?_⟩
   generalize eH6:upd H5 p2 _=H6
   obtain⟨g6,e6⟩:=aX eH6 h2
   have s36:=g5.trans g6
   refine IV (s36 _ _ hsa) e6 (by show us.length+1<=1000; lia) fun p3 H7 s7 e7=>?_
   have s37:=s36.trans s7
   refine⟨_,rfl,nw,CS,dx2,_,_,rfl,s37 _ _ hs,S.cl,S.coming,rfl,_,_,rfl,rfl,fun x dx3 hx hdx hne=>?_⟩
   refine jZ hx hdx hne fun H8 s8 e8=>⟨rfl,?_⟩
   have s38:=s37.trans s8
   refine⟨b,be,x,dx,nw,ah,xs,rfl,s38 _ _ hb3,s38 _ _ hbe3,by lia,fun ah' H9 e9 e9' bt=>?_⟩
   have k9:=bt.ks ne (s38 _ _ hb3) (s38 _ _ hbe3)
   refine Rc _ _ ⟨rfl,(Gu s38).trans bt,dx,x,ah',_,e9,e9',by rw[KR,lx]; rfl,eF.ks k9 ⟨dx3,ga,goa,p3,us++[.ref p1],e8,s38 _ _ hga,s38 _ _ hgoa,s8 _ _ e7,?_⟩⟩
   have t38:∀ a ys,H3 a=some (HO.tup ys)->H8 a=some (HO.tup ys):=fun a ys q=>s38 a _ q
   exact bN.snoc (s8 _ _ (s7 _ _ (g6 _ _ e5))) ((hp.aZ fun a ys q=>s2 a _ q).aZ t38) (hes.aZ t38)
  case q4 =>
  rintro σ H4 ⟨rfl,k4,hB4⟩
  have ks:=k4.ks ne hb3 hbe3
  exact⟨_,rfl,nw,CS,dx2,_,_,rfl,ks.2 _ _ _ hs,S.cl,S.coming,rfl,q H4 ((Gu s2).trans k4) hB4⟩
inductive uI (CS CB CF:Addr) (vs:List V) (H:Hp) (E:XK):Prop where
 | mk (b be:Addr) (n d co:Nat) (g:List Int) (go:List Nat) (es:List Ent) (z0:vs=[.ref b]) (z1:bj CS CB n H b be d g go es co) (z2:12<=g.length) (z3:thrown CF "full" H E):uI CS CB CF vs H E
def sH (CS CB CF:Addr):Sp:=fun vs H _ E=>uI CS CB CF vs H E
theorem mQ {CS CB CF:Addr} {t1:Tok} (F:Fun K "come" "Boon.come" eN f fd) (B:Bt mg) (S:qZ K CS) (T:vK K CB) (c_MOST_FOLK:mg "MOST_FOLK" = some (.int 12 t1))
  (D_Stand:Dk2 P w K mg base "Stand" CS 1 ["self","green","gone","standing","coming"] (dM CS)) (D_Boon_go_on:Dm2 P w K mg base CB "go_on" 1 ["self","stand"] (nH CB)) (X_Full:Xc P w K mg base "Full" CF "full") :
  bL P w K mg base (XL P w) 4 f fd ["self"] (sH CS CB CF):=by
 refine F.okX dC (fun vs H Q E h=>?_) (fun cdv A outer s H vs Q E hr h=>?_)
 ·obtain⟨b,be,n,d,co,g,go,es,rfl,_⟩:=h
  rfl
 ·obtain⟨b,be,n,d,co,g,go,es,rfl,⟨dx,nw,ah,xs,hb,hbe,lx,dx2,ga,goa,sa,us,hs,hga,hgoa,hsa,hes⟩,l12,hf⟩:=h
  refine⟨_,(ak (aY (i:=1) dC.nd rfl (K5 rfl) (aF K rfl (pv 0)))
 (ak (bc (aK qL (aA (r:=ik K) aO rfl B.len_ bI (aa (aF K rfl (pv 1)) aj)) (jX c_MOST_FOLK) (aN _)) (aq (iY X_Full hr rfl f9)) aJ)
 (ak (bJ (rZ D_Boon_go_on hr (pv 0) (aa (wM D_Stand hr (aa (bD (r:=nJ K) j6 (aF K rfl (pv 1)) (bA (aa az aj))) (aa (aF K rfl (pv 1)) (aa (aF K rfl (pv 1)) (aa (aF K rfl (pv 1)) aj))))) aj)))
 (aq (aH (aA (r:=ik K) aO rfl B.len_ bI (aa (aF K rfl (pv 1)) aj))))))),?_⟩
  refine aD (fun σ H1=>σ=[some (.ref b),some (.ref nw)]/\H1=H) ?q0 ?t0
  case t0 =>
   intro N Rc
   exact⟨_,rfl,b,CB,dx,_,_,rfl,hb,T.cl,T.now,rfl,Rc _ _ ⟨rfl,rfl⟩⟩
  case q0 =>
  rintro σ H0 ⟨rfl,rfl⟩
  refine aD (fun _ _=>False) (fun _ _ z=>z.elim) fun N Rc=>?_
  refine⟨_,rfl,nw,CS,dx2,_,_,rfl,hs,S.cl,S.green,rfl,ga,_,rfl,.inr (SqT.of hga),_,_,rfl,rfl,_,rfl,?_⟩
  rw[decide_eq_true (show ((12:Int)<=(((g.map V.int).length:Nat):Int)) by rw[J8]; lia)]
  exact dF hf
abbrev fO:Stmt:=inClass (top 41) 3
theorem eO:aG ["self","one","now","left"] ["self","one"] (au fO):=⟨rfl,rfl,rfl,by decide+kernel,rfl,by decide+kernel,by decide+kernel⟩
inductive vy (CS CB:Addr) (vs:List V) (H:Hp) (Q:VK):Prop where
 | mk (b be:Addr) (one n d co:Nat) (g:List Int) (go:List Nat) (es:List Ent) (z0:vs=[.ref b,vN one]) (z1:bj CS CB n H b be d g go es co) (z2:one < g.length) (z3:one ∉ go) (z4:go.length<=12) (z5:es.length<=40) (z6:d<=900) (z7:∀ H',But b be H H'->bj CS CB n H' b be (d+1) g (yM (go++[one])) (es.filter fun e=>decide (e.2.1≠one)) co->Q .non H'):vy CS CB vs H Q
def tU (CS CB:Addr):Sp:=fun vs H Q _=>vy CS CB vs H Q
theorem nO {CS CB:Addr} (ne:CB≠CS) (F:Fun K "leave" "Boon.leave" fO f fd) (B:Bt mg) (S:qZ K CS) (T:vK K CB)
  (D_check_there:Df P w K mg base "check_there" 2 ["stand","one"] (xU CS)) (D_Stand:Dk2 P w K mg base "Stand" CS 1 ["self","green","gone","standing","coming"] (dM CS)) (D_Boon_go_on:Dm2 P w K mg base CB "go_on" 1 ["self","stand"] (nH CB)) :
  bL P w K mg base CX0 3 f fd ["self","one"] (tU CS CB):=by
 refine F.ok eO (fun vs H Q E h=>?_) (fun cdv A outer s H vs Q E hr h=>?_)
 ·obtain⟨b,be,one,n,d,co,g,go,es,rfl,_⟩:=h
  rfl
 ·obtain⟨b,be,one,n,d,co,g,go,es,rfl,⟨dx,nw,ah,xs,hb,hbe,lx,hst⟩,hone,hgo,lgo,l40,d9,q⟩:=h
  refine⟨_,(ak (aY (i:=2) eO.nd rfl (K5 rfl) (aF K rfl (pv 0)))
 (ak (bJ (bh D_check_there hr (aa (pv 2) (aa (pv 1) aj))))
 (ak (aY (i:=3) eO.nd rfl (K5 rfl) (fV (r:=vq K) gZ rfl B.tuple_ cP (aa (eQ (L:=["entry"]) (F:=["one"]) (cap:=[1]) rfl (cz rfl rfl (by kernel_rfl)) (fu (aF K rfl (pv 2))) (fun _ _ _ _ _=>(aQ (i:=0) (bV (by decide+kernel)) rfl (K5 rfl))) (fun _ _ _ _ _=>(jB (aK su (bK (r:=gB K) bz (pv 0) az (fun _ _=>rfl)) (pv 1) (aN _)))) (fun _ _ _ _ _=>(pv 0))) aj)))
 (aq (bJ (rZ D_Boon_go_on hr (pv 0) (aa (wM D_Stand hr (aa (aF K rfl (pv 2)) (aa (fV (r:=vq K) gZ rfl B.tuple_ cP (aa (aA (r:=DQ K) vZ rfl B.sorted_ (by decide+kernel) (aa (bD (r:=nJ K) j6 (aF K rfl (pv 2)) (bA (aa (pv 1) aj))) aj)) aj)) (aa (pv 3) (aa (aF K rfl (pv 2)) aj))))) aj))))))),?_⟩
  refine aD (fun σ H1=>σ=[some (.ref b),some (vN one),some (.ref nw),none]/\H1=H) ?q0 ?t0
  case t0 =>
   intro N Rc
   exact⟨_,rfl,b,CB,dx,_,_,rfl,hb,T.cl,T.now,rfl,Rc _ _ ⟨rfl,rfl⟩⟩
  case q0 =>
  rintro σ H0 ⟨rfl,rfl⟩
  refine aD (fun σ H1=>σ=[some (.ref b),some (vN one),some (.ref nw),none]/\H1=H0) ?q1 ?t1
  case t1 =>
   intro N Rc
   exact⟨_,rfl,_,rfl,nw,one,n,co,g,go,es,rfl,hst,hone,hgo,Rc _ _ ⟨rfl,rfl⟩⟩
  case q1 =>
  rintro σ H2 ⟨rfl,rfl⟩
  obtain⟨dx2,ga,goa,sa,us,hs,hga,hgoa,hsa,hes⟩:=id hst
  have les:=hes.length
  refine aD (fun σ H3=>∃ (ch:Addr) (us':List V),σ=[some (.ref b),some (vN one),some (.ref nw),some (.ref ch)]/\aR H2 H3/\H3 ch=some (.tup us')/\bN n H3 us' (es.filter fun e=>decide (e.2.1≠one))) ?q3 ?t3
  case t3 =>
   intro N Rc
   refine⟨_,rfl,nw,CS,dx2,_,_,rfl,hs,S.cl,S.standing,rfl,sa,rfl,⟨_,SqT.of hsa⟩,fun D hD=>gq (K:=K) (a:=sa) (xs:=us) (fun i zs σ' H3=>(∃ u,σ'=[u,some (vN one)])/\aR H2 H3/\H3 D=some (.lst zs)/\bN n H3 zs ((es.take i).filter fun e=>decide (e.2.1≠one)))
    ⟨⟨_,rfl⟩,aB hD _,ao,by rw[Lz]; exact .nil⟩ (fun i zs σ' H3 _ h=>⟨SqT.of (h.2.1 _ _ hsa),h.2.2.1⟩) ?_ ?_⟩
   ·rintro i zs x σ' H3 hx ⟨⟨u,rfl⟩,sm,eD,ez⟩
    obtain⟨e,p2,nu,o2,pl2,rfl,he,hent,hpr⟩:=hes.get hx
    have lz:=ez.length
    have lf:=Mg (fun e:Ent=>decide (e.2.1≠one)) (es.take i)
    rw[Lk] at lf
    have nx:=bN.Gg (n:=n) (p:=fun e:Ent=>decide (e.2.1≠one)) he
    refine⟨_,rfl,e,_,_,_,rfl,rfl,SqT.of (sm _ _ hent),rfl,_,rfl,rfl,_,rfl,?_⟩
    by_cases z:o2=one
    ·rw[show decide (vN o2=vN one)=true from decide_eq_true (by rw[z])]
     show if (!true)=true then _ else _
     refine cj ⟨⟨_,rfl⟩,sm,eD,?_⟩
     rw[nx,if_neg (by rw[decide_eq_false (not_not_intro z)]; exact J9),Nb]
     exact ez
    ·rw[show decide (vN o2=vN one)=false from decide_eq_false fun y=>z (by injection y with y; lia)]
     show if (!false)=true then _ else _
     have tk:=cN (zs':=zs++[.ref e]) eD
     refine dF ⟨_,rfl,eD,bu (by lia),⟨_,rfl⟩,cg sm hD _,ao,?_⟩
     rw[nx,if_pos (decide_eq_true z)]
     exact bN.snoc (tk _ _ (sm _ _ hent)) ((hpr.aZ fun a ys q=>sm a _ q).aZ tk) (ez.aZ tk)
   ·rintro zs σ' H3 ⟨_,sm,eD,ez⟩
    rw[les,Ld] at ez
    refine⟨D,_,rfl,.inl ⟨SqL.of eD,fun a ha=>?_⟩⟩
    have sn:=aB ha (.tup zs)
    exact Rc _ _ ⟨a,zs,rfl,sm.trans sn,ao,ez.aZ fun a ys q=>sn a _ q⟩
  case q3 =>
  rintro σ H3 ⟨ch,us',rfl,s3,ech,ees⟩
  have hs3:=s3 _ _ hs
  refine⟨_,rfl,b,dx,_,rfl,s3 _ _ hb,rfl,?_⟩
  refine⟨_,rfl,nw,CS,dx2,_,_,rfl,hs3,S.cl,S.green,rfl,?_⟩
  refine⟨_,rfl,nw,CS,dx2,_,_,rfl,hs3,S.cl,S.gone,rfl,_,rfl,small (by show 1<=1000; decide),fun p1 h1=>?_⟩
  generalize eH4:upd H3 p1 _=H4
  obtain⟨g4,e4⟩:=aX eH4 h1
  refine IV (g4 _ _ (s3 _ _ hgoa)) e4 (by rw[J8]; show go.length+1<=1000; lia) fun p2 H5 s5 e5=>?_
  have e5:H5 p2=some (.tup ((go++[one]).map vN)):=by rw[e5,K3]; rfl
  have ep:SqT K H5 p2 (((go++[one]).map fun i:Nat=>(i:Int)).map V.int):=SqT.of (e5.trans (by rw[lJ]))
  refine⟨p2,_,rfl,ep,by rw[J8,KR]; show go.length+1 < 64; lia,fun ms pms so l hl=>?_⟩
  have ems:=FW pms so
  subst ems
  generalize eH6:upd H5 l _=H6
  obtain⟨g6,e6⟩:=aX eH6 hl
  refine⟨l,_,rfl,.inl ⟨SqL.of e6,fun tt htt=>?_⟩⟩
  generalize eH7:upd H6 tt _=H7
  obtain⟨g7,e7⟩:=aX eH7 htt
  have s37:=g4.trans (s5.trans (g6.trans g7))
  have s27:=s3.trans s37
  refine⟨_,rfl,_,rfl,nw,CS,dx2,_,_,rfl,s37 _ _ hs3,S.cl,S.coming,rfl,fun x dx3 hx hdx hne=>?_⟩
  refine jZ hx hdx hne fun H8 s8 e8=>⟨rfl,?_⟩
  have s28:=s27.trans s8
  refine⟨b,be,x,dx,nw,ah,xs,rfl,s28 _ _ hb,s28 _ _ hbe,by lia,fun ah' H9 e9 e9' bt=>?_⟩
  refine q H9 ((Gu s28).trans bt) ⟨dx,x,ah',_,e9,e9',by rw[KR,lx]; rfl,eF.ks (bt.ks ne (s28 _ _ hb) (s28 _ _ hbe)) ⟨dx3,ga,tt,ch,us',e8,s28 _ _ hga,s8 _ _ (e7.trans (by rw[lJ])),(s37.trans s8) _ _ ech,ees.aZ fun a ys q=>(s37.trans s8) a _ q⟩⟩
abbrev yV:Stmt:=top 43
abbrev rM:Stmt:=top 45
theorem Ea:aG ["boon"] ["boon"] (au yV):=⟨rfl,rfl,rfl,by decide+kernel,rfl,by decide+kernel,by decide+kernel⟩
theorem Bx:aG ["boon"] ["boon"] (au rM):=⟨rfl,rfl,rfl,by decide+kernel,rfl,by decide+kernel,by decide+kernel⟩
inductive zH (CS CB:Addr) (vs:List V) (H:Hp) (Q:VK):Prop where
 | mk (b be:Addr) (n d co:Nat) (g:List Int) (go:List Nat) (es:List Ent) (z0:vs=[.ref b]) (z1:bj CS CB n H b be d g go es co) (z2:Q (.int (g.length:Int)) H):zH CS CB vs H Q
def yZ (CS CB:Addr):Sp:=fun vs H Q _=>zH CS CB vs H Q
inductive ug (CS CB:Addr) (vs:List V) (H:Hp) (Q:VK):Prop where
 | mk (b be:Addr) (n d co:Nat) (g:List Int) (go:List Nat) (es:List Ent) (z0:vs=[.ref b]) (z1:bj CS CB n H b be d g go es co) (z2:∀ a,H a=some (.tup (g.map V.int))->Q (.ref a) H):ug CS CB vs H Q
def xF (CS CB:Addr):Sp:=fun vs H Q _=>ug CS CB vs H Q
theorem FZ {CS CB:Addr} (F:Fun K "folk" "folk" yV f fd) (B:Bt mg) (S:qZ K CS) (T:vK K CB):bL P w K mg base CX0 1 f fd ["boon"] (yZ CS CB):=by
 refine F.ok Ea (fun vs H Q E h=>?_) (fun cdv A outer s H vs Q E hr h=>?_)
 ·obtain⟨b,be,n,d,co,g,go,es,rfl,_⟩:=h
  rfl
 ·obtain⟨b,be,n,d,co,g,go,es,rfl,⟨dx,nw,ah,xs,hb,hbe,lx,dx2,ga,goa,sa,us,hs,hga,hgoa,hsa,hes⟩,q⟩:=h
  refine⟨_,(aq (aH (aA (r:=ik K) aO rfl B.len_ bI (aa (aF K rfl (aF K rfl (pv 0))) aj)))),?_⟩
  refine⟨_,rfl,b,CB,dx,_,_,rfl,hb,T.cl,T.now,rfl,nw,CS,dx2,_,_,rfl,hs,S.cl,S.green,rfl,ga,_,rfl,.inr (SqT.of hga),?_⟩
  rw[J8]
  exact q
theorem Ax {CS CB:Addr} (F:Fun K "green" "green" rM f fd) (B:Bt mg) (S:qZ K CS) (T:vK K CB):bL P w K mg base CX0 1 f fd ["boon"] (xF CS CB):=by
 refine F.ok Bx (fun vs H Q E h=>?_) (fun cdv A outer s H vs Q E hr h=>?_)
 ·obtain⟨b,be,n,d,co,g,go,es,rfl,_⟩:=h
  rfl
 ·obtain⟨b,be,n,d,co,g,go,es,rfl,⟨dx,nw,ah,xs,hb,hbe,lx,dx2,ga,goa,sa,us,hs,hga,hgoa,hsa,hes⟩,q⟩:=h
  refine⟨_,(aq (aH (aF K rfl (aF K rfl (pv 0))))),?_⟩
  exact⟨_,rfl,b,CB,dx,_,_,rfl,hb,T.cl,T.now,rfl,nw,CS,dx2,_,_,rfl,hs,S.cl,S.green,rfl,q ga hga⟩
abbrev tR:Stmt:=top 44
theorem Ba:aG ["boon"] ["boon"] (au tR):=⟨rfl,rfl,rfl,by decide+kernel,rfl,by decide+kernel,by decide+kernel⟩
def thF (n:Nat) (go:List Nat):List Nat:=(Ms n).filter fun i=>decide (i ∉ go)
theorem Bl (n:Nat) (go:List Nat):thF (n+1) go=thF n go++if n∈go then [] else [n]:=by
 unfold thF
 rw[List.range_succ,Qg]
 congr 1
 by_cases h:n∈go
 ·rw[if_pos h,Om (by rw[decide_eq_false (fun y=>y h)]; exact J9)]
  rfl
 ·rw[if_neg h,Ol (by exact decide_eq_true h)]
  rfl
theorem zQ (n:Nat) (go:List Nat):(thF n go).length<=n:=by
 have:=Mg (fun i=>decide (i ∉ go)) (Ms n)
 rw[Np] at this
 exact this
theorem yc {n i:Nat} {go:List Nat} (h:i∈thF n go):i < n/\i ∉ go:=by
 have:=List.mem_filter.mp h
 exact⟨List.mem_range.mp this.1,of_decide_eq_true this.2⟩
inductive pW (CS CB:Addr) (vs:List V) (H:Hp) (Q:VK):Prop where
 | mk (b be:Addr) (n d co:Nat) (g:List Int) (go:List Nat) (es:List Ent) (z0:vs=[.ref b]) (z1:bj CS CB n H b be d g go es co) (z2:g.length<=12) (z3:∀ (a:Addr) (H':Hp),aR H H'->H a=none->H' a=some (.lst ((thF g.length go).map vN))->Q (.ref a) H'):pW CS CB vs H Q
def vo (CS CB:Addr):Sp:=fun vs H Q _=>pW CS CB vs H Q
theorem oE {CS CB:Addr} (F:Fun K "there" "there" tR f fd) (B:Bt mg) (S:qZ K CS) (T:vK K CB) (D_folk:Df P w K mg base "folk" 1 ["boon"] (yZ CS CB)):bL P w K mg base CX0 2 f fd ["boon"] (vo CS CB):=by
 refine F.ok Ba (fun vs H Q E h=>?_) (fun cdv A outer s H vs Q E hr h=>?_)
 ·obtain⟨b,be,n,d,co,g,go,es,rfl,_⟩:=h
  rfl
 ·obtain⟨b,be,n,d,co,g,go,es,rfl,hB,n12,q⟩:=h
  refine⟨_,(aq (aH (eQ (L:=["one"]) (F:=["boon"]) (cap:=[0]) rfl (cz rfl rfl (by kernel_rfl)) (jc rfl B.range_ (aa (bh D_folk hr (aa (pv 0) aj)) aj)) (fun _ _ _ _ _=>(aQ (i:=0) (bV (by decide+kernel)) rfl (K5 rfl))) (fun _ _ _ _ _=>(jB (aK (r:=rIn K true) fZ (pv 0) (aF K rfl (aF K rfl (pv 1))) rfl))) (fun _ _ _ _ _=>(pv 0))))),?_⟩
  obtain⟨dx,nw,ah,xs,hb,hbe,lx,dx2,ga,goa,sa,us,hs,hga,hgoa,hsa,hes⟩:=id hB
  refine⟨_,rfl,b,be,n,d,co,g,go,es,rfl,hB,_,rfl,by lia,by lia,fun D hD=>gA (lo:=0) (n:=((g.length:Int)).toNat) (fun i zs σ' H2=>(∃ u,σ'=[u,some (.ref b)])/\aR H H2/\H2 D=some (.lst zs)/\zs=(thF i go).map vN)
   ⟨⟨_,rfl⟩,aB hD _,ao,rfl⟩ (fun i zs σ' H2 _ h=>h.2.2.1) ?_ ?_⟩
  ·rintro i zs σ' H2 hi ⟨⟨u,rfl⟩,sm,eD,rfl⟩
   rw[Ry]
   have li:=zQ i go
   have nx:=Bl i go
   refine⟨_,rfl,_,rfl,b,CB,dx,_,_,rfl,sm _ _ hb,T.cl,T.now,rfl,nw,CS,dx2,_,_,rfl,sm _ _ hs,S.cl,S.gone,rfl,goa,_,rfl,.inr (SqT.of (sm _ _ hgoa)),rfl,dZ go,_,rfl,?_⟩
   have e:inV (.int (i:Int)) (go.map vN)=decide (i∈go):=iZ i go
   rw[if_pos rfl,e]
   by_cases z:i∈go
   ·rw[decide_eq_true z]
    refine cj ⟨⟨_,rfl⟩,sm,eD,?_⟩
    rw[nx,if_pos z,Nb]
   ·rw[decide_eq_false z]
    refine dF ⟨_,rfl,eD,bu (by rw[J8]; lia),⟨_,rfl⟩,cg sm hD _,ao,?_⟩
    rw[nx,if_neg z,K3]
    rfl
  ·rintro zs σ' H2 ⟨_,sm,eD,rfl⟩
   exact q D H2 sm hD eD
theorem bj.ins {CS CB:Addr} {n:Nat} {H:Hp} {b be:Addr} {d:Nat} {g:List Int} {go:List Nat} {es:List Ent} {co:Nat} (h:bj CS CB n H b be d g go es co):∃ dx nw ah xs,H b=some (.ins CB dx (bnF nw be ah))/\H be=some (.lst xs):=by
 obtain⟨dx,nw,ah,xs,h1,h2,_⟩:=h
 exact⟨dx,nw,ah,xs,h1,h2⟩
theorem bj.lstK {CS CB:Addr} {n:Nat} {H H':Hp} {b be:Addr} {d:Nat} {g:List Int} {go:List Nat} {es:List Ent} {co:Nat} (h:bj CS CB n H b be d g go es co) (x:But b be H H') {a:Addr} {xs:List V} (ha:H a=some (.lst xs)) (hn:a≠be):H' a=some (.lst xs):=by
 obtain⟨dx,nw,ah,ys,h1,_⟩:=h.ins
 exact x _ _ (fun z=>by rw[z,h1] at ha; cases ha) hn ha
theorem bj.tupK {CS CB:Addr} {n:Nat} {H H':Hp} {b be:Addr} {d:Nat} {g:List Int} {go:List Nat} {es:List Ent} {co:Nat} (h:bj CS CB n H b be d g go es co) (x:But b be H H'):∀ a xs,H a=some (HO.tup xs)->H' a=some (HO.tup xs):=fun a xs ha=>by
 obtain⟨dx,nw,ah,ys,h1,h2⟩:=h.ins
 exact x _ _ (fun z=>by rw[z,h1] at ha; cases ha) (fun z=>by rw[z,h2] at ha; cases ha) ha
theorem bj.Gd {CS CB:Addr} {n:Nat} {H:Hp} {b be a:Addr} {d:Nat} {g:List Int} {go:List Nat} {es:List Ent} {co:Nat} {xs ys:List V} (h:bj CS CB n H b be d g go es co) (ha:H a=some (.lst xs)) (hn:a≠be):bj CS CB n (upd H a (.lst ys)) b be d g go es co:=by
 obtain⟨dx,nw,ah,zs,h1,h2,h3,h4⟩:=h
 refine⟨dx,nw,ah,zs,?_,?_,h3,h4.ks ⟨cN ha,fun c dx fs q=>?_⟩⟩
 ·rw[aC fun z=>by rw[z,ha] at h1; cases h1]
  exact h1
 ·rw[aC fun z=>hn z.symm]
  exact h2
 ·rw[aC fun z=>by rw[z,ha] at q; cases q]
  exact q
theorem pR:∀ (n:Nat) (go:List Nat),go.Nodup->(∀ x∈go,x < n)->go.length<=n
 | 0,go,_,h=>by
  cases go with
  | nil=>exact Kc _
  | cons a r=>exact absurd (h a KD) (T9 _)
 | n+1,go,nd,h=>by
  have:=pR n (go.filter fun x=>decide (x≠n)) (nd.filter _) fun x hx=>by
   have h1:=List.mem_filter.mp hx
   have h2:=h x h1.1
   have h3:x≠n:=of_decide_eq_true h1.2
   lia
  have c:=List.length_eq_countP_add_countP (p:=fun x=>decide (x≠n)) (l:=go)
  rw[List.countP_eq_length_filter] at c
  have c2:List.countP (fun a=>decide ¬decide (a≠n)=true) go<=1:=by
   have:=List.nodup_iff_count.mp nd n
   refine K7 (Nat.le_of_eq ?_) this
   unfold List.count
   congr 1
   funext x
   by_cases z:x=n <;> simp [z]
  lia
theorem zM {T:TT} {a b:TS} {D:Ends} {σ:St} {H:Hp} (R:Bool->Hp->Prop) (hT:∀ Q:Bool->Hp->Prop,(∀ c H1,R c H1->Q c H1)->T σ H Q) (ha:∀ H1,R true H1->a D σ H1) (hb:∀ H1,R false H1->b D σ H1):Ds T a b D σ H:=by
 refine hT _ fun c H1 r=>?_
 cases c
 ·exact hb _ r
 ·exact ha _ r
inductive RoR (H:Hp):List V->List (Nat × Nat)->Prop where
 | nil:RoR H [] []
 | cons {a:Addr} {x y:Nat} {us:List V} {rs:List (Nat × Nat)} (h:H a=some (.tup [vN x,vN y])) (r:RoR H us rs):RoR H (.ref a::us) ((x,y)::rs)
theorem RoR.aZ {H H':Hp} (t:∀ a xs,H a=some (HO.tup xs)->H' a=some (HO.tup xs)):∀ {us:List V} {rs:List (Nat × Nat)},RoR H us rs->RoR H' us rs
 | _,_,.nil=>.nil
 | _,_,.cons h r=>.cons (t _ _ h) (RoR.aZ t r)
theorem RoR.length {H:Hp}:∀ {us:List V} {rs:List (Nat × Nat)},RoR H us rs->us.length=rs.length
 | _,_,.nil=>rfl
 | _,_,.cons _ r=>congrArg (· + 1) (RoR.length r)
theorem RoR.get {H:Hp}:∀ {us:List V} {rs:List (Nat × Nat)} {i:Nat} {u:V},RoR H us rs->us[i]? = some u->∃ (a:Addr) (x y:Nat),u = .ref a/\rs[i]? = some (x,y)/\H a=some (.tup [vN x,vN y])
 | _,_,0,_,.cons h _,q=>by
  cases q
  exact⟨_,_,_,rfl,rfl,h⟩
 | _,_,i+1,_,.cons _ r,q=>RoR.get (i:=i) r q
theorem RoR.snoc {H:Hp} {a:Addr} {x y:Nat} (h:H a=some (.tup [vN x,vN y])):∀ {us:List V} {rs:List (Nat × Nat)},RoR H us rs->RoR H (us++[.ref a]) (rs++[(x,y)])
 | _,_,.nil=>.cons h .nil
 | _,_,.cons h' r=>.cons h' (RoR.snoc h r)
theorem RoR.erase {H:Hp}:∀ {us:List V} {rs:List (Nat × Nat)} (k:Nat),RoR H us rs->RoR H (us.eraseIdx k) (rs.eraseIdx k)
 | _,_,_,.nil=>by rw[Q9,Q9]; exact .nil
 | _,_,0,.cons _ r=>r
 | _,_,k+1,.cons h r=>.cons h (RoR.erase k r)
def roD (r:Nat × Nat):Dm:=.tup [.int (r.1:Int),.int (r.2:Int)]
theorem RoR.Ja {H:Hp}:∀ {us:List V} {rs:List (Nat × Nat)},RoR H us rs->jf H us (rs.map roD)
 | _,_,.nil=>.nil
 | _,_,.cons h r=>.cons (.tup h (by show 2<=100000; decide) (.cons (.int _) (.cons (.int _) .nil))) (RoR.Ja r)
theorem Cj (rs:List (Nat × Nat)):jF (rs.map roD)<=1:=by
 induction rs with
 | nil=>simp [jF]
 | cons r rs ih =>
  rw[Ni,jF]
  have:(roD r).dep<=1:=by simp [roD,Dm.dep,jF]
  lia
def roF (es:List Ent):List (Nat × Nat):=es.map fun e=>(e.1,e.2.1)
structure zB (n:Nat) (go:List Nat) (es:List Ent) (co:Nat):Prop where
 nd:(es.map (·.1)).Nodup
 lt:∀ e∈es,e.1 < co/\e.2.1 < n/\e.2.1 ∉ go
theorem zB.snoc {n:Nat} {go:List Nat} {es:List Ent} {co i:Nat} {p:Pl} (h:zB n go es co) (hi:i < n) (hg:i ∉ go):zB n go (es++[(co,i,p)]) (co+1):=by
 refine⟨?_,fun e he=>?_⟩
 ·rw[K3,Th]
  refine⟨h.nd,by simp,fun x hx y hy=>?_⟩
  obtain⟨e,he,rfl⟩:=List.mem_map.mp hx
  have:=(h.lt e he).1
  have hy':y=co:=by simpa using hy
  lia
 ·rcases List.mem_append.mp he with z | z
  ·have:=h.lt e z
   exact⟨by lia,this.2⟩
  ·rw[List.mem_singleton.mp z]
   exact⟨Oi _,hi,hg⟩
theorem zB.Gg {n:Nat} {go:List Nat} {es:List Ent} {co:Nat} (p:Ent->Bool) (h:zB n go es co):zB n go (es.filter p) co :=
 ⟨List.Nodup.sublist (List.filter_sublist.map _) h.nd,fun e he=>h.lt e (List.mem_filter.mp he).1⟩
theorem xW {n:Nat} {H:Hp} {f1 f2 f3:Addr} {k:Int} (h1:H f1=some (.tup [.str "free"])) (h2:H f2=some (.tup [.int k,.ref f1])) (h3:H f3=some (.tup [.ref f2])) (k1:1<=k) (k9:k<=9):wV n H f3 [(k,.free)] :=
 ⟨⟨by simp,by show 1<=9; decide,by simp,fun x hx=>by rw[List.mem_singleton.mp hx]; exact⟨k1,k9,by simp [Tm.dep]⟩⟩,_,h3,.cons h2 (.free h1) .nil⟩
abbrev mH:Stmt:=top 46
theorem wH:aG ["boon"] ["boon"] (au mH):=⟨rfl,rfl,rfl,by decide+kernel,rfl,by decide+kernel,by decide+kernel⟩
abbrev nW:Stmt:=top 47
theorem zF:aG ["boon"] ["boon"] (au nW):=⟨rfl,rfl,rfl,by decide+kernel,rfl,by decide+kernel,by decide+kernel⟩
inductive mq (CS CB:Addr) (vs:List V) (H:Hp) (Q:VK):Prop where
 | mk (b be:Addr) (n d co:Nat) (g:List Int) (go:List Nat) (es:List Ent) (z0:vs=[.ref b]) (z1:bj CS CB n H b be d g go es co) (z2:∀ (a:Addr) (us:List V) (H':Hp),aR H H'->H a=none->bN n H us es->H' a=some (.lst us)->Q (.ref a) H'):mq CS CB vs H Q
def m9 (CS CB:Addr):Sp:=fun vs H Q _=>mq CS CB vs H Q
theorem sG {CS CB:Addr} (F:Fun K "pledges" "pledges" mH f fd) (B:Bt mg) (S:qZ K CS) (T:vK K CB):bL P w K mg base CX0 1 f fd ["boon"] (m9 CS CB):=by
 refine F.ok wH (fun vs H Q E h=>?_) (fun cdv A outer s H vs Q E hr h=>?_)
 ·obtain⟨b,be,n,d,co,g,go,es,rfl,_⟩:=h
  rfl
 ·obtain⟨b,be,n,d,co,g,go,es,rfl,⟨dx,nw,ah,xs,hb,hbe,lx,dx2,ga,goa,sa,us,hs,hga,hgoa,hsa,hes⟩,q⟩:=h
  refine⟨_,(aq (aH (fV (r:=rO K) mX rfl B.list_ oh (aa (aF K rfl (aF K rfl (pv 0))) aj)))),?_⟩
  exact⟨_,rfl,b,CB,dx,_,_,rfl,hb,T.cl,T.now,rfl,nw,CS,dx2,_,_,rfl,hs,S.cl,S.standing,rfl,sa,_,rfl,.inr (SqT.of hsa),fun l hl=>q l us _ (aB hl _) hl hes ao⟩
inductive pM (CS CB:Addr) (vs:List V) (H:Hp) (Q:VK):Prop where
 | mk (b be:Addr) (n d co:Nat) (g:List Int) (go:List Nat) (es:List Ent) (z0:vs=[.ref b]) (z1:bj CS CB n H b be d g go es co) (z2:Q (vN co) H):pM CS CB vs H Q
def uU (CS CB:Addr):Sp:=fun vs H Q _=>pM CS CB vs H Q
theorem zc {CS CB:Addr} (F:Fun K "coming" "coming" nW f fd) (B:Bt mg) (S:qZ K CS) (T:vK K CB):bL P w K mg base CX0 1 f fd ["boon"] (uU CS CB):=by
 refine F.ok zF (fun vs H Q E h=>?_) (fun cdv A outer s H vs Q E hr h=>?_)
 ·obtain⟨b,be,n,d,co,g,go,es,rfl,_⟩:=h
  rfl
 ·obtain⟨b,be,n,d,co,g,go,es,rfl,⟨dx,nw,ah,xs,hb,hbe,lx,dx2,ga,goa,sa,us,hs,hga,hgoa,hsa,hes⟩,q⟩:=h
  refine⟨_,(aq (aH (aF K rfl (aF K rfl (pv 0))))),?_⟩
  exact⟨_,rfl,b,CB,dx,_,_,rfl,hb,T.cl,T.now,rfl,nw,CS,dx2,_,_,rfl,hs,S.cl,S.coming,rfl,q⟩
abbrev fJ:Stmt:=top 54
theorem bZ:aG ["_law_picks_here","_law_boon_here","_law_one","_law_rows","_law_pick","_law_number"] ["_law_picks_here"] (au fJ):=⟨rfl,rfl,rfl,by decide+kernel,rfl,by decide+kernel,by decide+kernel⟩
inductive qT (K:Ky) (CS CB:Addr) (vs:List V) (H:Hp) (Q:VK):Prop where
 | mk (pa:Addr) (ns:List Int) (z0:vs=[.ref pa]) (z1:H pa=some (.lst (ns.map V.int))) (z2:ns.length=40) (z3:(∀ x∈ns,0<=x)) (z4:∀ (r b be R:Addr) (us:List V) (es:List Ent) (H':Hp),aR H H'->H' r=some (.tup [.ref b,.ref R])->H b=none->H be=none->H R=none->R≠be->bj CS CB 12 H' b be 52 (Kf 12 0) [] es 40->es.length=40->H' R=some (.lst us)->RoR H' us (roF es)->zB 12 [] es 40->Q (.ref r) H'):qT K CS CB vs H Q
def vg (K:Ky) (CS CB:Addr):Sp:=fun vs H Q _=>qT K CS CB vs H Q
theorem nU {CS CB CN CG CP CF:Addr} (ne:CB≠CS) (F:Fun K "_law_filled" "_law_filled" fJ f fd) (B:Bt mg)
  (D_Boon:Dk2 P w K mg base "Boon" CB 3 ["self"] (zV CS CB)) (D_Boon_come:Dm2 P w K mg base CB "come" 3 ["self"] (CT CS CB)) (M_Boon_pledge:Dmx P w K mg base CB "pledge" 14 ["self","one","pledge"] (du CS CB CN CG CP CF)) :
  bL P w K mg base CX0 15 f fd ["_law_picks_here"] (vg K CS CB):=by
 refine F.ok bZ (fun vs H Q E h=>?_) (fun cdv A outer s H vs Q E hr h=>?_)
 ·obtain⟨pa,ns,rfl,_⟩:=h
  rfl
 ·obtain⟨pa,ns,rfl,hpa,l40,hns,q⟩:=h
  refine⟨_,(ak (aY (i:=1) bZ.nd rfl (K5 rfl) (Hr D_Boon hr))
 (ak (gJ M8 rfl (jc rfl B.range_ (aa az aj)) (aQ (i:=2) bZ.nd rfl (K5 rfl)) (aq (bJ (Hg D_Boon_come hr (pv 1)))))
 (ak (aY (i:=3) bZ.nd rfl (K5 rfl) (dI aj))
 (ak (gJ M8 rfl (jC (pv 0)) (aQ (i:=4) bZ.nd rfl (K5 rfl)) (ak (aY (i:=5) bZ.nd rfl (K5 rfl) (yz M_Boon_pledge hr zx (pv 1) (aa (bD jO (pv 4) az) (aa (bA (aa (bA (aa (bD fj az (bD jO (bD zf (pv 4) az) az)) (aa (bA (aa bf aj)) aj))) aj)) aj))))
 (aq (bJ (vC Nk PL PK eE (pv 3) (aa (bA (aa (pv 5) (aa (bD jO (pv 4) az) aj))) aj))))))
 (aq (aH (bA (aa (pv 1) (aa (pv 3) aj))))))))),?_⟩
  refine aD (fun σ H4=>∃ (b be:Addr),σ=[some (.ref pa),some (.ref b),none,none,none,none]/\aR H H4/\H b=none/\H be=none/\∀ m,bj CS CB m H4 b be 0 [] [] [] 0) ?q3 ?t3
  case t3 =>
   intro N Rc x dx hx hdx hne
   refine⟨x,dx,rfl,ao,fun be H4 fbe fr hB=>⟨rfl,Rc _ _ ⟨x,be,rfl,fun a o h=>?_,hx,?_,hB⟩⟩⟩
   ·have ax:a≠x:=fun z=>by rw[z,hx] at h; cases h
    have ad:a≠dx:=fun z=>by rw[z,hdx] at h; cases h
    exact fr a o ax (by rw[aC ax,aC ad]; exact h)
   ·cases hq:H be with
    | none=>rfl
    | some o =>
     have ax:be≠x:=fun z=>by rw[z,hx] at hq; cases hq
     have ad:be≠dx:=fun z=>by rw[z,hdx] at hq; cases hq
     rw[aC ax,aC ad,hq] at fbe
     cases fbe
  case q3 =>
  rintro σ H4 ⟨b,be,rfl,s4,fb,fbe,hB4⟩
  have keep:∀ {Hx Hy:Hp},aR H Hx->But b be Hx Hy->aR H Hy:=fun s bt a o h=>bt a o (fun z=>by rw[z,fb] at h; cases h) (fun z=>by rw[z,fbe] at h; cases h) (s _ _ h)
  refine aD (fun σ H5=>∃ u:Option V,σ=[some (.ref pa),some (.ref b),u,none,none,none]/\aR H H5/\∀ m,bj CS CB m H5 b be 12 (Kf 12 0) [] [] 0) ?q4 ?t4
  case t4 =>
   intro N Rc
   refine⟨12,rfl,by decide,by decide,ye (lo:=0) (n:=12) (fun i σ H5=>(∃ u:Option V,σ=[some (.ref pa),some (.ref b),u,none,none,none])/\aR H H5/\∀ m,bj CS CB m H5 b be i (Kf i 0) [] [] 0) ⟨⟨_,rfl⟩,s4,hB4⟩ ?_ ?_⟩
   ·rintro i σ H5 hi ⟨⟨u,rfl⟩,s5,hB5⟩
    refine gN ?_
    obtain⟨dx,nw,ah,xs,hb,hbe,lx,hst⟩:=hB5 0
    refine⟨_,rfl,b,dx,_,rfl,hb,rfl,b,be,i,_,_,_,rfl,hB5,by rw[K4]; lia,by lia,fun H6 bt hB6=>⟨⟨_,rfl⟩,keep s5 bt,fun m=>?_⟩⟩
    have:=hB6 m
    rw[show Kf i (0:Int)++[0]=Kf (i+1) 0 by rw[R4]] at this
    exact this
   ·rintro σ H5 ⟨⟨u,rfl⟩,s5,hB5⟩
    exact Rc _ _ ⟨u,rfl,s5,hB5⟩
  case q4 =>
  rintro σ H5 ⟨u4,rfl,s5,hB5⟩
  refine aD (fun σ H6=>∃ R:Addr,σ=[some (.ref pa),some (.ref b),u4,some (.ref R),none,none]/\aR H5 H6/\H5 R=none/\H6 R=some (.lst [])) ?q5 ?t5
  case t5 =>
   intro N Rc
   refine⟨small (by show 0<=1000; decide),fun R hR=>?_⟩
   exact Rc _ _ ⟨R,rfl,aB hR _,hR,ao⟩
  case q5 =>
  rintro σ H6 ⟨R,rfl,s6,fR,eR⟩
  obtain⟨_,_,_,_,_,ebe5⟩:=(hB5 12).ins
  have nR:R≠be:=fun z=>by rw[z,ebe5] at fR; cases fR
  have fRH:H R=none:=s5.free fR
  refine aD (fun σ H7=>∃ (u5 u6:Option V) (us:List V) (es:List Ent),σ=[some (.ref pa),some (.ref b),u4,some (.ref R),u5,u6]/\aR H H7/\bj CS CB 12 H7 b be 52 (Kf 12 0) [] es 40/\es.length=40/\H7 R=some (.lst us)/\RoR H7 us (roF es)/\zB 12 [] es 40) ?q6 ?t6
  case t6 =>
   intro N Rc
   refine⟨_,rfl,pa,rfl,⟨_,SqL.of (s6 _ _ (s5 _ _ hpa))⟩,j0 (K:=K) (a:=pa) (xs:=ns.map V.int) (fun i σ H7=>∃ (u5 u6:Option V) (us:List V) (es:List Ent),σ=[some (.ref pa),some (.ref b),u4,some (.ref R),u5,u6]/\aR H H7/\bj CS CB 12 H7 b be (12+i) (Kf 12 0) [] es i/\es.length=i/\H7 R=some (.lst us)/\RoR H7 us (roF es)/\zB 12 [] es i)
    ⟨_,_,[],[],rfl,s5.trans s6,(hB5 12).same s6,rfl,eR,.nil,⟨by simp,by simp⟩⟩ (fun i σ H7 _ h=>by obtain⟨_,_,_,_,_,z,_⟩:=h; exact SqL.of (z _ _ hpa)) ?_ ?_⟩
   ·rintro i x σ H7 hx ⟨u5,u6,us,es,rfl,s7,hB7,les,eR7,ro7,ok7⟩
    obtain⟨cv,hcv,rfl⟩:=int_at hx
    have il:=(List.getElem?_eq_some_iff.mp hcv).1
    have hc0:=hns cv (K8 hcv)
    have w1:0<=cv % 12:=Qa _ (by lia)
    have w2:cv % 12 < 12:=Ov _ (by lia)
    have w3:0<=cv / 12 % 9:=Qa _ (by lia)
    have w4:cv / 12 % 9 < 9:=Ov _ (by lia)
    obtain⟨o,eo⟩:=Int.eq_ofNat_of_zero_le w1
    obtain⟨dx,nw,ah,xs,hb,hbe⟩:=hB7.ins
    refine gN ?_
    refine aD (fun σ H8=>σ=[some (.ref pa),some (.ref b),u4,some (.ref R),some (.int cv),some (vN i)]/\∃ p pl,aR H7 p/\But b be p H8/\bj CS CB 12 H8 b be (12+i+1) (Kf 12 0) [] (es++[(i,o,pl)]) (i+1)) ?qa ?ta
    case ta =>
     intro N Rc
     refine⟨_,rfl,b,dx,_,rfl,hb,rfl,_,rfl,_,_,rfl,rfl,(show (0:Int) < 12 by decide),?_⟩
     refine⟨_,rfl,_,_,rfl,rfl,⟨by decide,by decide⟩,_,_,rfl,rfl,(show (0:Int) < 9 by decide),_,_,rfl,rfl,small (by show 1<=1000; decide),fun f1 hf1=>?_⟩
     generalize eF1:upd H7 f1 _=F1
     obtain⟨gf1,ef1⟩:=aX eF1 hf1
     refine⟨small (by show 2<=1000; decide),fun f2 hf2=>?_⟩
     generalize eF2:upd F1 f2 _=F2
     obtain⟨gf2,ef2⟩:=aX eF2 hf2
     refine⟨small (by show 1<=1000; decide),fun f3 hf3=>?_⟩
     generalize eF3:upd F2 f3 _=F3
     obtain⟨gf3,ef3⟩:=aX eF3 hf3
     have sF:aR H7 F3:=gf1.trans (gf2.trans gf3)
     refine⟨b,be,f3,cv % 12,12,12+i,i,_,_,es,[(1+cv / 12 % 9,.free)],rfl,hB7.same sF,rfl,by decide,xW (gf3 _ _ (gf2 _ _ ef1)) (gf3 _ _ ef2) ef3 (by lia) (by lia),by lia,by lia,fun z=>absurd z (by lia),fun _ _ _ z=>absurd z TQ,fun j ej hj _=>⟨fun⟨x,hx,z⟩=>?_,fun _=>⟨fun z=>absurd z (by lia),fun _ H8 bt hB8=>?_⟩⟩⟩
     ·rw[List.mem_singleton.mp hx] at z
      simp [nn] at z
     ·have:j=o:=by lia
      subst this
      exact Rc _ _ ⟨rfl,F3,_,sF,bt,hB8⟩
    case qa =>
    rintro σ H8 ⟨rfl,p,pl,sp,bt,hB8⟩
    have hBp:=hB7.same sp
    have s8:=keep (s7.trans sp) bt
    have eR8:=hBp.lstK bt (sp _ _ eR7) nR
    have ro8:RoR H8 us (roF es):=ro7.aZ fun a xs z=>hBp.tupK bt _ _ (sp _ _ z)
    refine⟨_,rfl,.inl ⟨rfl,_,SqL.of eR8⟩,_,rfl,_,rfl,_,_,rfl,rfl,(show (0:Int) < 12 by decide),small (by show 2<=1000; decide),fun t ht=>?_⟩
    generalize eF1:upd H8 t _=F1
    obtain⟨gf1,ef1⟩:=aX eF1 ht
    replace ef1:F1 t=some (.tup [vN i,.int (cv % 12)]):=ef1
    rw[eo] at ef1
    have lu:=ro8.length
    unfold roF at lu
    rw[J8] at lu
    have eR9:=gf1 _ _ eR8
    have tk:=cN (zs':=us++[.ref t]) eR9
    refine⟨R,_,_,rfl,rfl,eR9,bu (by lia),_,_,us++[.ref t],es++[(i,o,pl)],rfl,?_,(hB8.same gf1).Gd eR9 nR,by rw[KR,les]; rfl,ao,?_,ok7.snoc (by lia) TQ⟩
    ·exact fun a o h=>by rw[aC fun z=>by rw[z,fRH] at h; cases h]; exact gf1 _ _ (s8 _ _ h)
    ·unfold roF
     rw[K3]
     exact RoR.snoc (tk _ _ ef1) (ro8.aZ fun a xs z=>tk _ _ (gf1 _ _ z))
   ·rintro σ H7 ⟨u5,u6,us,es,rfl,s7,hB7,les,eR7,ro7,ok7⟩
    rw[J8,l40] at hB7 les ok7
    exact Rc _ _ ⟨u5,u6,us,es,rfl,s7,hB7,les,eR7,ro7,ok7⟩
  case q6 =>
  rintro σ H7 ⟨u5,u6,us,es,rfl,s7,hB7,les,eR7,ro7,ok7⟩
  refine⟨_,rfl,_,rfl,small (by show 2<=1000; decide),fun r hr=>?_⟩
  have sn:=aB hr (.tup [.ref b,.ref R])
  exact q r b be R us es _ (s7.trans sn) ao fb fbe fRH nR (hB7.same sn) les (sn _ _ eR7) (ro7.aZ fun a xs z=>sn _ _ z) ok7
def sU:KH:=("law" : KH)++".<locals>."++"<lambda>"
theorem bj.sT {CS CB:Addr} {n:Nat} {H H':Hp} {b be:Addr} {d:Nat} {g:List Int} {go:List Nat} {es:List Ent} {co:Nat} (s:dY H H') (h:bj CS CB n H b be d g go es co):bj CS CB n H' b be d g go es co:=by
 obtain⟨dx,nw,ah,xs,h1,h2,h3,h4⟩:=h
 exact⟨dx,nw,ah,xs,s _ _ (fun _ z=>nomatch z) h1,s _ _ (fun _ z=>nomatch z) h2,h3,h4.ks ⟨fun a ys q=>s _ _ (fun _ z=>nomatch z) q,fun a dx fs q=>s _ _ (fun _ z=>nomatch z) q⟩⟩
theorem tab_keep {H H':Hp} {T:Addr} {q:KH} (h:TabOk H T q) (k1:∀ a ps,H a=some (.tbl ps)->H' a=some (.tbl ps)) (k2:∀ a o u,H a=some (.frz o u)->H' a=some (.frz o u)):TabOk H' T q:=by
 obtain⟨ps,e,t,f⟩:=h
 refine⟨ps,k1 _ _ e,t,fun pos cv z=>?_⟩
 obtain⟨c,oc,u,vs,tk,e1,e2,e3⟩:=f pos cv z
 exact⟨c,oc,u,vs,tk,e1,k2 _ _ _ e2,e3⟩
theorem bj.tab {CS CB:Addr} {n:Nat} {H H':Hp} {b be T:Addr} {q:KH} {d:Nat} {g:List Int} {go:List Nat} {es:List Ent} {co:Nat} (h:bj CS CB n H b be d g go es co) (x:But b be H H') (t:TabOk H T q):TabOk H' T q:=by
 obtain⟨dx,nw,ah,ys,h1,h2⟩:=h.ins
 exact tab_keep t (fun a ps ha=>x _ _ (fun z=>by rw[z,h1] at ha; cases ha) (fun z=>by rw[z,h2] at ha; cases ha) ha) fun a o u ha=>x _ _ (fun z=>by rw[z,h1] at ha; cases ha) (fun z=>by rw[z,h2] at ha; cases ha) ha
theorem nY {H:Hp} {T p:Addr} {q:KH} {xs ys:List V} (h:TabOk H T q) (e:H p=some (.lst xs)):TabOk (upd H p (.lst ys)) T q :=
 tab_keep h (fun a ps ha=>by rw[aC fun z=>by rw[z,e] at ha; cases ha]; exact ha) fun a o u ha=>by rw[aC fun z=>by rw[z,e] at ha; cases ha]; exact ha
structure W45 (CS CB T:Addr) (H:Hp) (b be R pr p6:Addr) (cs us:List V) (d:Nat) (go:List Nat) (es:List Ent) (co:Nat):Prop where
 hB:bj CS CB 12 H b be d (Kf 12 0) go es co
 hR:H R=some (.lst us)
 ro:RoR H us (roF es)
 hP:H pr=some (.lst ((thF 12 go).map vN))
 h6:H p6=some (.lst cs)
 n1:R≠be
 n2:pr≠be
 n3:R≠pr
 n4:p6≠be
 n5:p6≠R
 n6:p6≠pr
 tb:TabOk H T sU
 l40:es.length<=40
 ok:zB 12 go es co
 nd:go.Nodup
 lt:∀ x∈go,x < 12
section
variable {CS CB T:Addr} {H H':Hp} {b be R pr p6:Addr} {cs us:List V} {d:Nat} {go:List Nat} {es:List Ent} {co:Nat}
theorem W45.sT (Wx:W45 CS CB T H b be R pr p6 cs us d go es co) (s:dY H H') (t:TabOk H' T sU):W45 CS CB T H' b be R pr p6 cs us d go es co :=
 ⟨Wx.hB.sT s,stL s Wx.hR,Wx.ro.aZ fun a xs z=>stT s z,stL s Wx.hP,stL s Wx.h6,Wx.n1,Wx.n2,Wx.n3,Wx.n4,Wx.n5,Wx.n6,t,Wx.l40,Wx.ok,Wx.nd,Wx.lt⟩
theorem W45.same (Wx:W45 CS CB T H b be R pr p6 cs us d go es co) (s:aR H H'):W45 CS CB T H' b be R pr p6 cs us d go es co:=Wx.sT s.t (Wx.tb.same s)
theorem W45.Gi {H1 H2:Hp} {a:Addr} {i:Nat} {pl:Pl} (Wx:W45 CS CB T H b be R pr p6 cs us d go es co) (bt:But b be H H1) (hB:bj CS CB 12 H1 b be (d+1) (Kf 12 0) go (es++[(co,i,pl)]) (co+1)) (s2:aR H1 H2) (ea:H2 a=some (.tup [vN co,vN i])) (l:es.length < 40) (hi:i < 12) (hg:i ∉ go) :
  W45 CS CB T (upd H2 R (.lst (us++[.ref a]))) b be R pr p6 cs (us++[.ref a]) (d+1) go (es++[(co,i,pl)]) (co+1):=by
 have hR2:=s2 _ _ (Wx.hB.lstK bt Wx.hR Wx.n1)
 have tk:=cN (zs':=us++[.ref a]) hR2
 refine⟨(hB.same s2).Gd hR2 Wx.n1,ao,?_,?_,?_,Wx.n1,Wx.n2,Wx.n3,Wx.n4,Wx.n5,Wx.n6,nY ((Wx.hB.tab bt Wx.tb).same s2) hR2,?_,Wx.ok.snoc hi hg,Wx.nd,Wx.lt⟩
 ·unfold roF
  rw[K3]
  exact RoR.snoc (tk _ _ ea) (Wx.ro.aZ fun a xs z=>tk _ _ (s2 _ _ (Wx.hB.tupK bt _ _ z)))
 ·rw[aC Wx.n3.symm]
  exact s2 _ _ (Wx.hB.lstK bt Wx.hP Wx.n2)
 ·rw[aC Wx.n5]
  exact s2 _ _ (Wx.hB.lstK bt Wx.h6 Wx.n4)
 ·rw[KR]
  show es.length+1<=40
  lia
theorem wz {es:List Ent} {k:Nat} {e:Ent} (nd:(es.map (·.1)).Nodup) (h:es[k]? = some e):es.filter (fun x=>decide (x.1≠e.1))=es.eraseIdx k:=by
 induction es generalizing k with
 | nil=>simp at h
 | cons a r ih =>
  rw[Ni,List.nodup_cons] at nd
  cases k with
  | zero =>
   cases (show some _=some _ from h)
   rw[Om (by simp)]
   refine List.filter_eq_self.mpr fun x hx=>?_
   refine decide_eq_true fun z=>nd.1 ?_
   exact List.mem_map.mpr ⟨x,hx,z⟩
  | succ k =>
   have h':r[k]? = some e:=by simpa using h
   have:a.1≠e.1:=fun z=>nd.1 (List.mem_map.mpr ⟨e,K8 h',z.symm⟩)
   rw[Ol (by simpa using this),ih nd.2 h']
   rfl
theorem yJ (es:List Ent) (k:Nat):(roF es).eraseIdx k=roF (es.eraseIdx k):=by
 unfold roF
 induction es generalizing k with
 | nil=>rfl
 | cons a r ih =>
  cases k with
  | zero=>rfl
  | succ k=>exact congrArg _ (ih k)
theorem W45.BK {H1 H2:Hp} {k:Nat} {e:Ent} (Wx:W45 CS CB T H b be R pr p6 cs us d go es co) (hk:es[k]? = some e) (s1:dY (upd H R (.lst (us.eraseIdx k))) H1) (tb:TabOk H1 T sU) (bt:But b be H1 H2) (hB:bj CS CB 12 H2 b be (d+1) (Kf 12 0) go (es.filter fun x=>decide (x.1≠e.1)) co) :
  W45 CS CB T H2 b be R pr p6 cs (us.eraseIdx k) (d+1) go (es.filter fun x=>decide (x.1≠e.1)) co:=by
 have hB1:bj CS CB 12 H1 b be d (Kf 12 0) go es co:=(Wx.hB.Gd Wx.hR Wx.n1).sT s1
 have ks:=hB1.tupK bt
 refine⟨hB,hB1.lstK bt (stL s1 ao) Wx.n1,?_,hB1.lstK bt (stL s1 (by rw[aC Wx.n3.symm]; exact Wx.hP)) Wx.n2,hB1.lstK bt (stL s1 (by rw[aC Wx.n5]; exact Wx.h6)) Wx.n4,Wx.n1,Wx.n2,Wx.n3,Wx.n4,Wx.n5,Wx.n6,hB1.tab bt tb,?_,Wx.ok.Gg _,Wx.nd,Wx.lt⟩
 ·rw[wz Wx.ok.nd hk,← yJ]
  exact (Wx.ro.erase k).aZ fun a xs z=>ks _ _ (stT s1 (cN Wx.hR _ _ z))
 ·exact K7 (Mg _ _) Wx.l40
end
theorem ql {α β:Type} (f:α->β):∀ (l:List α) (k:Nat),(l.map f).eraseIdx k=(l.eraseIdx k).map f
 | [],_=>by rw[Ti,Q9,Q9]; rfl
 | _::_,0=>rfl
 | a::r,k+1=>congrArg (f a::·) (ql f r k)
theorem qu (n:Nat) (go:List Nat):(thF n go).Nodup:=List.Pairwise.filter _ List.nodup_range
theorem erase_filter {l:List Nat} {j o:Nat} (nd:l.Nodup) (h:l[j]? = some o):l.eraseIdx j=l.filter fun x=>decide (x≠o):=by
 induction l generalizing j with
 | nil=>simp at h
 | cons a r ih =>
  rw[List.nodup_cons] at nd
  cases j with
  | zero =>
   cases (show some _=some _ from h)
   rw[Om (by simp)]
   exact (List.filter_eq_self.mpr fun x hx=>decide_eq_true (show x≠o from fun z=>nd.1 (by rw[← z]; exact hx))).symm
  | succ j =>
   have h':r[j]? = some o:=by simpa using h
   have:a≠o:=fun z=>nd.1 (z▸K8 h')
   rw[Ol (by simpa using this),← ih nd.2 h']
   rfl
theorem yQ {n o j:Nat} {go:List Nat} (h:(thF n go)[j]? = some o):(thF n go).eraseIdx j=thF n (yM (go++[o])):=by
 rw[erase_filter (qu n go) h]
 unfold thF
 rw[List.filter_filter]
 refine List.filter_congr fun x _=>?_
 rw[Qd]
 simp only[Mr,decide_eq_true_eq]
 rw[(fP _).mem_iff,PX,Ny]
 exact⟨fun h z=>z.elim h.2 h.1,fun h=>⟨fun z=>h (.inr z),fun z=>h (.inl z)⟩⟩
theorem W45.leave {CS CB T:Addr} {H:Hp} {b be R pr p6:Addr} {cs us:List V} {d:Nat} {go:List Nat} {es:List Ent} {co:Nat} {H2 H3:Hp} {o j:Nat} {R':Addr} {vs:List V} (Wx:W45 CS CB T H b be R pr p6 cs us d go es co) (ho:(thF 12 go)[j]? = some o) (s2:aR (upd H pr (.lst (((thF 12 go).map vN).eraseIdx j))) H2) (fR:upd H pr (.lst (((thF 12 go).map vN).eraseIdx j)) R'=none) (eR:H2 R'=some (.lst vs))
  (ro:RoR H2 vs (roF (es.filter fun e=>decide (e.2.1≠o)))) (bt:But b be H2 H3) (hB:bj CS CB 12 H3 b be (d+1) (Kf 12 0) (yM (go++[o])) (es.filter fun e=>decide (e.2.1≠o)) co) :
  W45 CS CB T H3 b be R' pr p6 cs vs (d+1) (yM (go++[o])) (es.filter fun e=>decide (e.2.1≠o)) co:=by
 have hB1:=Wx.hB.Gd (ys:=((thF 12 go).map vN).eraseIdx j) Wx.hP Wx.n2
 have hB2:=hB1.same s2
 have ks:=hB2.tupK bt
 have e6:upd H pr (.lst (((thF 12 go).map vN).eraseIdx j)) p6=some (.lst cs):=by rw[aC Wx.n6]; exact Wx.h6
 obtain⟨_,_,_,_,_,ebe⟩:=hB1.ins
 have mo:=yc (K8 ho)
 have mem:∀ x,x∈yM (go++[o]) ↔ x∈go∨x=o:=fun x=>by rw[(fP _).mem_iff,PX,Ny]
 have nR:R'≠be:=fun z=>by rw[z,ebe] at fR; cases fR
 refine⟨hB,hB2.lstK bt eR nR,ro.aZ ks,?_,hB2.lstK bt (s2 _ _ e6) Wx.n4,nR,Wx.n2,?_,Wx.n4,?_,Wx.n6,hB2.tab bt ((nY Wx.tb Wx.hP).same s2),?_,⟨(Wx.ok.Gg _).nd,fun e he=>?_⟩,?_,fun x hx=>?_⟩
 ·have:=hB2.lstK bt (s2 _ _ ao) Wx.n2
  rw[this]
  have:((thF 12 go).map vN).eraseIdx j=(thF 12 (yM (go++[o]))).map vN:=by rw[← yQ ho,ql]
  rw[this]
 ·exact fun z=>by rw[z,ao] at fR; cases fR
 ·exact fun z=>by rw[← z,e6] at fR; cases fR
 ·exact K7 (Mg _ _) Wx.l40
 ·have h1:=List.mem_filter.mp he
  have h2:=Wx.ok.lt e h1.1
  have h3:e.2.1≠o:=of_decide_eq_true h1.2
  exact⟨h2.1,h2.2.1,fun z=>((mem _).mp z).elim h2.2.2 h3⟩
 ·refine (fP _).nodup_iff.mpr ?_
  rw[Th]
  refine⟨Wx.nd,by simp,fun x hx y hy z=>mo.2 ?_⟩
  rw[Ny] at hy
  rw[← hy,← z]
  exact hx
 ·rcases (mem x).mp hx with z | z
  ·exact Wx.lt x z
  ·rw[z]
   exact mo.1
section
variable {K:Ky} {G C T:Addr} {q w:KH} {cap:List Nat} {te:XK->TE} {σ:St} {H:Hp} {Q:VK}
theorem gC (hT:TabOk H T q) (R:XRd K C G "word") (h:∀ H1,dY H H1->TabOk H1 T q->∀ (Q2:VK) (E2:XK),thrown C w H1 E2->te E2 (Bu cap σ) H1 Q2)
  (k:∀ a H',dY H H'->TabOk H' T q->H' a=some (.tup [.str w])->Q (.ref a) H'):DK T q cap (twWord K G) te σ H Q :=
 ⟨hT,fun _ H1 sm tb=>h H1 sm tb _ _ (tH R fun a H' s e=>k a H' (sm.trans s.t) (tb.same s) e)⟩
theorem uZ {P:V->Hp->Prop} (hT:TabOk H T q) (h:∀ H1,dY H H1->TabOk H1 T q->∀ (Q2:VK) (E2:XK),(∀ v H2,P v H2->Q2 v H2)->te E2 (Bu cap σ) H1 Q2)
  (k:∀ a v H2 H',P v H2->aR H2 H'->H' a=some (.tup [.str "told",v])->Q (.ref a) H'):DK T q cap (twWord K G) te σ H Q :=
 ⟨hT,fun _ H1 sm tb=>h H1 sm tb _ _ fun v H2 p=>⟨small (by show 2<=1000; decide),fun a ha=>k a v H2 _ p (aB ha _) ao⟩⟩
end
theorem cQ {H:Hp} {a:Addr} {w:KH} (h:H a=some (.tup [.str w])):Rep H (.ref a) (.tup [.str w]):=.tup h (by show 1<=100000; decide) (.cons (.str _) .nil)
theorem uE {H:Hp} {a:Addr} {v:V} {d:Dm} (h:H a=some (.tup [.str "told",v])) (r:Rep H v d):Rep H (.ref a) (.tup [.str "told",d]):=.tup h (by show 2<=100000; decide) (.cons (.str _) (.cons r .nil))
theorem iJ {w:KH} {n:Nat} (h:1 < n):(Dm.tup [.str w]).dep < n:=by simpa [Dm.dep,jF] using h
theorem Be {K:Ky} {G T CS CB CF b be R pr p6:Addr} {H:Hp} {cs us:List V} {d:Nat} {go:List Nat} {es:List Ent} {co:Nat} {D:Ends} {σ:St} (Wx:W45 CS CB T H b be R pr p6 cs us d go es co) (RF:XRd K CF G "word") (hσ:Bu [1] σ=[some (.ref b)]) (k:∀ Hz,dY H Hz->TabOk Hz T sU->D.nx σ Hz) :
  Ds (Gn (tB (oU (gF 5) [] E0 (aW (DK T sU [1] (twWord K G) fun E=>jz CB "come" (sH CS CB CF) [] E (dH 0) dW) (aW (mZ (aW (tC (V.str "full")) dW)) dW))))) (Ge (tC (V.bl false))) qH D σ H:=by
 refine gC (w:="full") Wx.tb RF (fun H1 s1 t1 Q2 E2 th=>?_) (fun a H' s' t' ea=>?_)
 ·obtain⟨dx,nw,ah,xs,hb,hbe⟩:=(Wx.hB.sT s1).ins
  refine⟨.ref b,by rw[hσ]; rfl,b,dx,_,rfl,hb,rfl,?_⟩
  exact⟨b,be,12,d,co,_,go,es,rfl,Wx.hB.sT s1,by rw[K4]; exact Kc _,th⟩
 ·refine⟨small (by show 1<=1000; decide),fun p hp=>?_⟩
  have sn:=aB hp (.tup [.str "full"])
  refine⟨_,_,_,rfl,cQ (sn _ _ ea),cQ ao,iJ (by decide),fun Hz sz=>⟨true,rfl,?_⟩⟩
  show if (!true)=true then _ else _
  exact cj (k _ (s'.trans (sn.trans sz).t) (t'.same (sn.trans sz)))
def N45 (CS CB T b be pr p6 p1 dr:Addr) (cs:List V) (cv:Int) (o d:Nat) (N:St->Hp->Prop):Prop :=
 ∀ (v8 v9 v10 v11 v12:Option V) (R:Addr) (us:List V) (d':Nat) (go:List Nat) (es:List Ent) (co:Nat) (Hv:Hp),d'<=d+1->W45 CS CB T Hv b be R pr p6 cs us d' go es co->N [some (.ref p1),some (.ref b),some (.ref R),some (.ref pr),some (vN co),some (.int cv),some (.ref dr),some (vN o),v8,v9,v10,v11,v12] Hv
theorem zj {n o:Nat} {go:List Nat} (ho:o < n):inV (vN o) ((thF n go).map vN)=decide (o ∉ go):=by
 rw[show vN o=V.int (o:Int) from rfl,iZ]
 refine decide_eq_decide.mpr ⟨fun h=>(yc h).2,fun h=>?_⟩
 exact List.mem_filter.mpr ⟨List.mem_range.mpr ho,decide_eq_true h⟩
theorem G9 {n:Nat} {H:Hp} {f1 f2 f3:Addr} {o:Nat} (h1:H f1=some (.tup [.str "gives",vN o,.int 1])) (h2:H f2=some (.tup [.int 2,.ref f1])) (h3:H f3=some (.tup [.ref f2])) (ho:o < n):wV n H f3 [(2,.gives o 1)] :=
 ⟨⟨by simp,by show 1<=9; decide,by simp,fun x hx=>by rw[List.mem_singleton.mp hx]; exact⟨by show (1:Int)<=2; decide,by show (2:Int)<=9; decide,by simp [Tm.dep]⟩⟩,_,h3,.cons h2 (.gives h1 ho (by decide) (by decide)) .nil⟩
def waB (o:Nat) (go:List Nat):KH:=if o∈go then "gone" else "bad pledge"
def waF (o:Nat) (go:List Nat) (es:List Ent) (co:Nat):List V:=if o∈go then [.str "gone"] else if es.length < 40 then [.str "told",vN co] else [.str "full"]
theorem wJ {K:Ky} {G T CS CB CN CG CP CF b be R pr p6 p1 dr:Addr} {H:Hp} {cs us:List V} {d o:Nat} {cv:Int} {go:List Nat} {es:List Ent} {co:Nat} {D:Ends} {u8 u9 u10 u11 u12:Option V} (Wx:W45 CS CB T H b be R pr p6 cs us d go es co) (RF:XRd K CF G "word") (RG:XRd K CG G "word") (RP:XRd K CP G "word") (ho:o < 12) (hd:d<=900) (k:N45 CS CB T b be pr p6 p1 dr cs cv o d D.nx) :
  (wU
   (Di
    (tIf (wk (tOp (rI0 fun i j=>V.bl (decide (i < j))) (tCB (ik K) (aW (dH 2) dW)) (tC (V.int 40))))
     (mZ (aW (tC (V.str "told")) (aW (dH 4) dW)))
     (mZ (aW (tC (V.str "full")) dW)))
    (iz 8))
   (wU
    (Di (mZ (aW (mZ (aW (tC (V.int 2)) (aW (mZ (aW (tC (V.str "gives")) (aW (dH 7) (aW (tC (V.int 1)) dW)))) dW))) dW)) (iz 9))
    (wU
     (Di (DK T sU [7,9,1] (twWord K G) fun E=>jz CB "pledge" (du CS CB CN CG CP CF) [] E (dH 2) (aW (dH 0) (aW (dH 1) dW))) (iz 10))
     (wU
      (Ds (Gn (tB (oU (gF 5) [] E0 (aW (dH 10) (aW (tIf (wk (tOp (rIn K false) (dH 7) (dH 3))) (mZ (aW (tC (V.str "bad pledge")) dW)) (mZ (aW (tC (V.str "gone")) dW))) dW))))) (Ge (tC (V.bl false))) qH)
      (wU
       (Ds (wk (tOp (rIn K true) (dH 7) (dH 3))) (Di (mZ (aW (tC (V.str "gone")) dW)) (iz 8)) qH)
       (wU
        (Ds (Gn (tB (oU (gF 5) [] E0 (aW (DK T sU [7,1] (twWord K G) fun E=>jz CB "pledge" (du CS CB CN CG CP CF) [] E (dH 1) (aW (dH 0) (aW (mZ (aW (mZ (aW (tC (V.int 2)) (aW (mZ (aW (tC (V.str "free")) dW)) dW))) dW)) dW))) (aW (dH 8) dW))))) (Ge (tC (V.bl false))) qH)
        (Ds (wk (tOp (Ff 40) (dH 8) (mZ (aW (tC (V.str "told")) (aW (dH 4) dW)))))
         (wU (Am (tBM K "list" ym (dH 2) (aW (mZ (aW (dH 4) (aW (dH 7) dW))) dW))) (Di (tOp (rI0 fun i j=>V.int (i+j)) (dH 4) (tC (V.int 1))) (iz 4)))
         qH))))))) D [some (.ref p1),some (.ref b),some (.ref R),some (.ref pr),some (vN co),some (.int cv),some (.ref dr),some (vN o),u8,u9,u10,u11,u12] H:=by
 have lu:us.length=es.length:=by
  have:=Wx.ro.length
  unfold roF at this
  rwa [J8] at this
 refine aD (fun σ H1=>∃ wa:Addr,σ=[some (.ref p1),some (.ref b),some (.ref R),some (.ref pr),some (vN co),some (.int cv),some (.ref dr),some (vN o),some (.ref wa),u9,u10,u11,u12]/\aR H H1/\H1 wa=some (.tup (if es.length < 40 then [.str "told",vN co] else [.str "full"]))) ?q1 ?t1
 case t1 =>
  intro N Rc
  refine⟨_,rfl,R,us,rfl,.inl (SqL.of Wx.hR),_,_,rfl,rfl,_,rfl,?_⟩
  by_cases z:es.length < 40
  ·rw[decide_eq_true (show ((us.length:Nat):Int) < 40 by lia),if_pos z] at *
   refine dF ⟨_,rfl,small (by show 2<=1000; decide),fun p hp=>Rc _ _ ⟨p,rfl,aB hp _,ao⟩⟩
  ·rw[decide_eq_false (show ¬ ((us.length:Nat):Int) < 40 by lia),if_neg z] at *
   refine cj ⟨small (by show 1<=1000; decide),fun p hp=>Rc _ _ ⟨p,rfl,aB hp _,ao⟩⟩
 case q1 =>
 rintro σ H1 ⟨wa,rfl,s1,ewa⟩
 replace Wx:=Wx.same s1
 refine aD (fun σ H2=>∃ ba:Addr,σ=[some (.ref p1),some (.ref b),some (.ref R),some (.ref pr),some (vN co),some (.int cv),some (.ref dr),some (vN o),some (.ref wa),some (.ref ba),u10,u11,u12]/\aR H1 H2/\wV 12 H2 ba [(2,.gives o 1)]) ?q2 ?t2
 case t2 =>
  intro N Rc
  refine⟨_,rfl,small (by show 3<=1000; decide),fun f1 hf1=>?_⟩
  generalize eF1:upd H1 f1 _=F1
  obtain⟨gf1,ef1⟩:=aX eF1 hf1
  refine⟨small (by show 2<=1000; decide),fun f2 hf2=>?_⟩
  generalize eF2:upd F1 f2 _=F2
  obtain⟨gf2,ef2⟩:=aX eF2 hf2
  refine⟨small (by show 1<=1000; decide),fun f3 hf3=>?_⟩
  generalize eF3:upd F2 f3 _=F3
  obtain⟨gf3,ef3⟩:=aX eF3 hf3
  exact Rc _ _ ⟨f3,rfl,gf1.trans (gf2.trans gf3),G9 (gf3 _ _ (gf2 _ _ ef1)) (gf3 _ _ ef2) ef3 ho⟩
 case q2 =>
 rintro σ H2 ⟨ba,rfl,s2,hba⟩
 replace Wx:=Wx.same s2
 replace ewa:=s2 _ _ ewa
 refine aD (fun σ H3=>∃ fo:Addr,σ=[some (.ref p1),some (.ref b),some (.ref R),some (.ref pr),some (vN co),some (.int cv),some (.ref dr),some (vN o),some (.ref wa),some (.ref ba),some (.ref fo),u11,u12]/\dY H2 H3/\TabOk H3 T sU/\H3 fo=some (.tup [.str (waB o go)])) ?q3 ?t3
 case t3 =>
  intro N Rc
  have main:∀ (C:Addr) (w:KH) (RC:XRd K C G "word") (hw:w=waB o go) (h:∀ (H1:Hp) (E2:XK),thrown C w H1 E2->(∀ i:Nat,(o:Int)=i->i < 12->i∈go->thrown CG "gone" H1 E2)/\∀ i:Nat,(o:Int)=i->i < 12->i ∉ go->thrown CP "bad pledge" H1 E2),DK T sU [7,9,1] (twWord K G) (fun E=>jz CB "pledge" (du CS CB CN CG CP CF) [] E (dH 2) (aW (dH 0) (aW (dH 1) dW))) [some (.ref p1),some (.ref b),some (.ref R),some (.ref pr),some (vN co),some (.int cv),some (.ref dr),some (vN o),some (.ref wa),some (.ref ba),u10,u11,u12] H2 fun x H1=>iz 10 x [some (.ref p1),some (.ref b),some (.ref R),some (.ref pr),some (vN co),some (.int cv),some (.ref dr),some (vN o),some (.ref wa),some (.ref ba),u10,u11,u12] H1 N:=by
   intro C w RC hw h
   refine gC (w:=w) Wx.tb RC (fun H1 s1 t1 Q2 E2 th=>?_) (fun a H' s' t' ea=>Rc _ _ ⟨a,rfl,s',t',by rw[ea,hw]⟩)
   have hB1:=Wx.hB.sT s1
   obtain⟨dx,nw,ah,xs,hb,hbe⟩:=hB1.ins
   obtain⟨h1,h2⟩:=h H1 E2 th
   refine⟨.ref b,rfl,b,dx,_,rfl,hb,rfl,_,rfl,_,rfl,b,be,ba,(o:Int),12,d,co,_,go,es,_,rfl,hB1,K4,by decide,hba.aZ fun a xs z=>stT s1 z,Wx.l40,hd,fun z=>absurd z (by lia),h1,fun i ei hi hg=>⟨fun _=>h2 i ei hi hg,fun z=>?_⟩⟩
   have:=z _ (List.mem_singleton.mpr rfl)
   have ei':i=o:=by lia
   rw[ei'] at this
   simp [nn] at this
  by_cases z:o∈go
  ·exact main CG "gone" RG (by unfold waB; rw[if_pos z]) fun H1 E2 th=>⟨fun _ _ _ _=>th,fun i ei _ hg=>absurd (show i∈go by have:i=o:=(by lia); rw[this]; exact z) hg⟩
  ·exact main CP "bad pledge" RP (by unfold waB; rw[if_neg z]) fun H1 E2 th=>⟨fun i ei _ hg=>absurd hg (by have:i=o:=(by lia); rw[this]; exact z),fun _ _ _ _=>th⟩
 case q3 =>
 rintro σ H3 ⟨fo,rfl,s3,t3,efo⟩
 replace Wx:=Wx.sT s3 t3
 replace ewa:=stT s3 ewa
 refine aD (fun σ H4=>σ=[some (.ref p1),some (.ref b),some (.ref R),some (.ref pr),some (vN co),some (.int cv),some (.ref dr),some (vN o),some (.ref wa),some (.ref ba),some (.ref fo),u11,u12]/\aR H3 H4) ?q4 ?t4
 case t4 =>
  intro N Rc
  refine⟨_,rfl,_,rfl,_,rfl,pr,_,rfl,.inl (SqL.of Wx.hP),rfl,dZ _,_,rfl,?_⟩
  rw[if_neg (show ¬ false=true from J9),zj ho]
  by_cases z:o∈go
  ·rw[decide_eq_false (not_not_intro z)]
   unfold waB at efo
   rw[if_pos z] at efo
   refine cj ⟨small (by show 1<=1000; decide),fun p hp=>?_⟩
   have sn:=aB hp (.tup [.str "gone"])
   refine⟨_,_,_,rfl,cQ (sn _ _ efo),cQ ao,iJ (by decide),fun Hz sz=>⟨true,rfl,?_⟩⟩
   show if (!true)=true then _ else _
   exact cj (Rc _ _ ⟨rfl,sn.trans sz⟩)
  ·rw[decide_eq_true z]
   unfold waB at efo
   rw[if_neg z] at efo
   refine dF ⟨small (by show 1<=1000; decide),fun p hp=>?_⟩
   have sn:=aB hp (.tup [.str "bad pledge"])
   refine⟨_,_,_,rfl,cQ (sn _ _ efo),cQ ao,iJ (by decide),fun Hz sz=>⟨true,rfl,?_⟩⟩
   show if (!true)=true then _ else _
   exact cj (Rc _ _ ⟨rfl,sn.trans sz⟩)
 case q4 =>
 rintro σ H4 ⟨rfl,s4⟩
 replace Wx:=Wx.same s4
 replace ewa:=s4 _ _ ewa
 clear efo hba s4 s3 t3 s2 s1
 refine aD (fun σ H5=>∃ wa:Addr,σ=[some (.ref p1),some (.ref b),some (.ref R),some (.ref pr),some (vN co),some (.int cv),some (.ref dr),some (vN o),some (.ref wa),some (.ref ba),some (.ref fo),u11,u12]/\aR H4 H5/\H5 wa=some (.tup (waF o go es co))) ?q5 ?t5
 case t5 =>
  intro N Rc
  refine⟨_,rfl,_,rfl,pr,_,rfl,.inl (SqL.of Wx.hP),rfl,dZ _,_,rfl,?_⟩
  rw[if_pos rfl,zj ho]
  by_cases z:o∈go
  ·rw[decide_eq_false (not_not_intro z)]
   refine dF ⟨small (by show 1<=1000; decide),fun p hp=>Rc _ _ ⟨p,rfl,aB hp _,?_⟩⟩
   rw[ao]
   unfold waF
   rw[if_pos z]
  ·rw[decide_eq_true z]
   refine cj (Rc _ _ ⟨wa,rfl,aR.refl _,?_⟩)
   rw[ewa]
   unfold waF
   rw[if_neg z]
 case q5 =>
 clear ewa
 rintro σ H5 ⟨wa,rfl,s5,ewa⟩
 replace Wx:=Wx.same s5
 clear s5
 refine aD (fun σ H6=>σ=[some (.ref p1),some (.ref b),some (.ref R),some (.ref pr),some (vN co),some (.int cv),some (.ref dr),some (vN o),some (.ref wa),some (.ref ba),some (.ref fo),u11,u12]/\H6 wa=some (.tup (waF o go es co))/\((¬ (o ∉ go/\es.length < 40)/\W45 CS CB T H6 b be R pr p6 cs us d go es co)∨((o ∉ go/\es.length < 40)/\∃ (Hq Hn:Hp) (pl:Pl),W45 CS CB T Hq b be R pr p6 cs us d go es co/\But b be Hq Hn/\bj CS CB 12 Hn b be (d+1) (Kf 12 0) go (es++[(co,o,pl)]) (co+1)/\aR Hn H6))) ?q6 ?t6
 case t6 =>
  intro N Rc
  have call:∀ (H1:Hp) (E2:XK) (Q2:VK),dY H5 H1->(∀ H2,aR H1 H2->(o∈go->thrown CG "gone" H2 E2)/\(o ∉ go->(40<=es.length->thrown CF "full" H2 E2)/\(es.length < 40->∀ (H':Hp) pl,But b be H2 H'->bj CS CB 12 H' b be (d+1) (Kf 12 0) go (es++[(co,o,pl)]) (co+1)->Q2 (vN co) H')))->(jz CB "pledge" (du CS CB CN CG CP CF) [] E2 (dH 1) (aW (dH 0) (aW (mZ (aW (mZ (aW (tC (V.int 2)) (aW (mZ (aW (tC (V.str "free")) dW)) dW))) dW)) dW))) (Bu [7,1] [some (.ref p1),some (.ref b),some (.ref R),some (.ref pr),some (vN co),some (.int cv),some (.ref dr),some (vN o),some (.ref wa),some (.ref ba),some (.ref fo),u11,u12]) H1 Q2:=by
   intro H1 E2 Q2 s1 h
   have hB1:=Wx.hB.sT s1
   obtain⟨dx,nw,ah,xs,hb,hbe⟩:=hB1.ins
   refine⟨.ref b,rfl,b,dx,_,rfl,hb,rfl,_,rfl,small (by show 1<=1000; decide),fun f1 hf1=>?_⟩
   generalize eF1:upd H1 f1 _=F1
   obtain⟨gf1,ef1⟩:=aX eF1 hf1
   refine⟨small (by show 2<=1000; decide),fun f2 hf2=>?_⟩
   generalize eF2:upd F1 f2 _=F2
   obtain⟨gf2,ef2⟩:=aX eF2 hf2
   refine⟨small (by show 1<=1000; decide),fun f3 hf3=>?_⟩
   generalize eF3:upd F2 f3 _=F3
   obtain⟨gf3,ef3⟩:=aX eF3 hf3
   have sF:=gf1.trans (gf2.trans gf3)
   obtain⟨h1,h2⟩:=h F3 sF
   refine⟨b,be,f3,(o:Int),12,d,co,_,go,es,[(2,.free)],rfl,hB1.same sF,K4,by decide,xW (gf3 _ _ (gf2 _ _ ef1)) (gf3 _ _ ef2) ef3 (by decide) (by decide),Wx.l40,hd,fun z=>absurd z (by lia),fun i ei hi hg=>h1 (by have:i=o:=(by lia); rw[← this]; exact hg),fun i ei hi hg=>⟨fun⟨x,hx,z⟩=>?_,fun _=>?_⟩⟩
   ·rw[List.mem_singleton.mp hx] at z
    simp [nn] at z
   ·have e:i=o:=by lia
    subst e
    exact⟨(h2 hg).1,fun l H' bt hB'=>(h2 hg).2 l H' _ bt hB'⟩
  by_cases z:o∈go
  ·have ew:waF o go es co=[.str "gone"]:=by unfold waF; rw[if_pos z]
   refine gC (w:="gone") Wx.tb RG (fun H1 s1 t1 Q2 E2 th=>call H1 E2 Q2 s1 fun H2 s2=>⟨fun _=>th.mono s2,fun y=>absurd z y⟩) (fun a H' s' t' ea=>?_)
   have ewa':=stT s' ewa
   rw[ew] at ewa'
   refine⟨_,rfl,_,_,_,rfl,cQ ea,cQ ewa',iJ (by decide),fun Hz sz=>⟨true,rfl,?_⟩⟩
   show if (!true)=true then _ else _
   exact cj (Rc _ _ ⟨rfl,by rw[sz _ _ ewa',ew],.inl ⟨fun y=>y.1 z,Wx.sT (s'.trans sz.t) (t'.same sz)⟩⟩)
  ·by_cases y:es.length < 40
   ·have ew:waF o go es co=[.str "told",vN co]:=by unfold waF; rw[if_neg z,if_pos y]
    refine uZ (P:=fun v H2=>v=vN co/\∃ (Hq:Hp) (pl:Pl),dY H5 Hq/\TabOk Hq T sU/\But b be Hq H2/\bj CS CB 12 H2 b be (d+1) (Kf 12 0) go (es++[(co,o,pl)]) (co+1)) Wx.tb (fun H1 s1 t1 Q2 E2 th=>call H1 E2 Q2 s1 fun H2 s2=>⟨fun q=>absurd q z,fun _=>⟨fun q=>absurd q (by lia),fun _ H' pl bt hB'=>th _ _ ⟨rfl,H2,pl,s1.trans s2.t,t1.same s2,bt,hB'⟩⟩⟩) (fun a v H2 H' p s' ea=>?_)
    obtain⟨rfl,Hq,pl,sp,tp,bt,hB2⟩:=p
    have Wp:=Wx.sT sp tp
    have ewa':=s' _ _ (Wp.hB.tupK bt _ _ (stT sp ewa))
    rw[ew] at ewa'
    refine⟨_,rfl,_,_,.tup [.str "told",.int (co:Int)],rfl,.tup ea (by show 2<=100000; decide) (.cons (.str _) (.cons (.int _) .nil)),.tup ewa' (by show 2<=100000; decide) (.cons (.str _) (.cons (.int _) .nil)),by simp [Dm.dep,jF],fun Hz sz=>⟨true,rfl,?_⟩⟩
    show if (!true)=true then _ else _
    exact cj (Rc _ _ ⟨rfl,by rw[sz _ _ ewa',ew],.inr ⟨⟨z,y⟩,Hq,H2,pl,Wp,bt,hB2,s'.trans sz⟩⟩)
   ·have ew:waF o go es co=[.str "full"]:=by unfold waF; rw[if_neg z,if_neg y]
    refine gC (w:="full") Wx.tb RF (fun H1 s1 t1 Q2 E2 th=>call H1 E2 Q2 s1 fun H2 s2=>⟨fun q=>absurd q z,fun _=>⟨fun _=>th.mono s2,fun q=>absurd q y⟩⟩) (fun a H' s' t' ea=>?_)
    have ewa':=stT s' ewa
    rw[ew] at ewa'
    refine⟨_,rfl,_,_,_,rfl,cQ ea,cQ ewa',iJ (by decide),fun Hz sz=>⟨true,rfl,?_⟩⟩
    show if (!true)=true then _ else _
    exact cj (Rc _ _ ⟨rfl,by rw[sz _ _ ewa',ew],.inl ⟨fun q=>y q.2,Wx.sT (s'.trans sz.t) (t'.same sz)⟩⟩)
 case q6 =>
 clear Wx ewa
 rintro σ H6 ⟨rfl,ewa,hc⟩
 refine⟨_,rfl,_,rfl,small (by show 2<=1000; decide),fun p hp=>?_⟩
 generalize eH7:upd H6 p _=H7
 obtain⟨s7,e7⟩:=aX eH7 hp
 rcases hc with⟨hn,Wx⟩ | ⟨⟨hg,hl⟩,Hq,Hn,pl,Wp,bt,hBn,sn⟩
 ·obtain⟨w,ew⟩:∃ w:KH,waF o go es co=[.str w]:=by
   unfold waF
   by_cases z:o∈go
   ·exact⟨_,if_pos z⟩
   ·rw[if_neg z,if_neg fun y=>hn ⟨z,y⟩]
    exact⟨_,rfl⟩
  rw[ew] at ewa
  refine⟨wa,p,_,_,[.str w],[.str "told",.int (co:Int)],rfl,rfl,s7 _ _ ewa,e7,.cons (.str _) .nil,.cons (.str _) (.cons (.int _) .nil),by simp [jF,Dm.dep],false,?_,?_⟩
  ·rw[vp (by show 1≠2; decide)]
  ·exact cj (k _ _ _ _ _ _ _ _ _ _ _ _ (M9 _) (Wx.same s7))
 ·have ew:waF o go es co=[.str "told",vN co]:=by unfold waF; rw[if_neg hg,if_pos hl]
  rw[ew] at ewa
  refine⟨wa,p,_,_,[.str "told",.int (co:Int)],[.str "told",.int (co:Int)],rfl,rfl,s7 _ _ ewa,e7,.cons (.str _) (.cons (.int _) .nil),.cons (.str _) (.cons (.int _) .nil),by simp [jF,Dm.dep],true,?_,?_⟩
  ·rw[iK]
  ·have s67:=sn.trans s7
   have eR7:=s67 _ _ (Wp.hB.lstK bt Wp.hR Wp.n1)
   refine dF ⟨_,rfl,.inl ⟨rfl,_,SqL.of eR7⟩,_,rfl,_,rfl,small (by show 2<=1000; decide),fun t ht=>?_⟩
   generalize eH8:upd H7 t _=H8
   obtain⟨s8,e8⟩:=aX eH8 ht
   refine⟨R,_,_,rfl,rfl,s8 _ _ eR7,bu (by lia),?_⟩
   refine⟨_,rfl,_,_,rfl,rfl,?_⟩
   exact k _ _ _ _ _ _ _ _ _ _ (co+1) _ (Kc _) (Wp.Gi bt hBn (s67.trans s8) e8 hl ho hg)
theorem pL {K:Ky} {G T CS CB b be R pr p6 p1 dr:Addr} {H:Hp} {cs us dl:List V} {d o:Nat} {cv d2:Int} {go:List Nat} {es:List Ent} {co:Nat} {D:Ends} {u8 u9 u10 u11 u12:Option V} (Wx:W45 CS CB T H b be R pr p6 cs us d go es co) (hd:d<=900) (hdr:H dr=some (.lst dl)) (at2:atI dl 2=some (.int d2)) (hne:es≠[]) (k:N45 CS CB T b be pr p6 p1 dr cs cv o d D.nx) :
  (wU
    (Di
     (tBM K "list" zy (dH 2) (aW (tOp (rI (fun x j=>0 < j) fun i j=>V.int (i % j)) (tOp (An K) (dH 6) (tC (V.int 2))) (tCB (ik K) (aW (dH 2) dW))) dW))
     (Jj K 2 (Ft (iz 11) (Ft (iz 12) Ju))))
    (Ds
     (Gn (tB (oU (gF 5) [] E0 (aW (DK T sU [11,1] (twWord K G) fun E=>jz CB "withdraw" (jx CS CB) [] E0 (dH 1) (aW (dH 0) dW)) (aW (mZ (aW (tC (V.str "told")) (aW (tC V.non) dW))) dW)))))
     (Ge (tC (V.bl false))) qH)) D [some (.ref p1),some (.ref b),some (.ref R),some (.ref pr),some (vN co),some (.int cv),some (.ref dr),some (vN o),u8,u9,u10,u11,u12] H:=by
 have lu:us.length=es.length:=by
  have:=Wx.ro.length
  unfold roF at this
  rwa [J8] at this
 have le:0 < es.length:=List.length_pos_iff.mpr hne
 have w1:0<=d2 % ((us.length:Nat):Int):=Qa _ (by lia)
 have w2:d2 % ((us.length:Nat):Int) < ((us.length:Nat):Int):=Ov _ (by lia)
 obtain⟨j,ej⟩:=Int.eq_ofNat_of_zero_le w1
 have hj:j < us.length:=by lia
 obtain⟨t,x,y,eu,hro,ht⟩:=Wx.ro.get (Kd hj)
 obtain⟨e,he,exy⟩:∃ e:Ent,es[j]? = some e/\(e.1,e.2.1)=(x,y):=by
  unfold roF at hro
  rw[KQ] at hro
  cases z:es[j]? with
  | none=>rw[z] at hro; cases hro
  | some e=>rw[z] at hro; exact⟨e,rfl,by cases hro; rfl⟩
 have ex:e.1=x:=by cases exy; rfl
 have mem:=K8 he
 have ok:=Wx.ok.lt e mem
 refine aD (fun σ H1=>σ=[some (.ref p1),some (.ref b),some (.ref R),some (.ref pr),some (vN co),some (.int cv),some (.ref dr),some (vN o),u8,u9,u10,some (vN e.1),some (vN y)]/\H1=upd H R (.lst (us.eraseIdx j))) ?q1 ?t1
 case t1 =>
  intro N Rc
  refine⟨_,rfl,.inl ⟨rfl,_,SqL.of Wx.hR⟩,_,rfl,dr,_,_,_,rfl,rfl,SqL.of hdr,at2,_,rfl,R,us,rfl,.inl (SqL.of Wx.hR),_,_,rfl,rfl,(show (0:Int) < ((us.length:Nat):Int) by lia),?_⟩
  dsimp only [dW]
  rw[ej]
  refine Ak Wx.hR hj (by have:=Wx.l40; lia) (y:=.ref t) (by rw[Kd hj,eu]) ?_
  refine⟨t,_,rfl,SqT.of (cN Wx.hR _ _ ht),rfl,_,_,rfl,_,_,rfl,rfl,Rc _ _ ⟨?_,rfl⟩⟩
  rw[ex]
  rfl
 case q1 =>
 rintro σ H1 ⟨rfl,rfl⟩
 have tb1:=nY (ys:=us.eraseIdx j) Wx.tb Wx.hR
 have hB1:=Wx.hB.Gd (ys:=us.eraseIdx j) Wx.hR Wx.n1
 refine uZ (P:=fun v H2=>v = .non/\∃ Hq:Hp,dY (upd H R (.lst (us.eraseIdx j))) Hq/\TabOk Hq T sU/\But b be Hq H2/\bj CS CB 12 H2 b be (d+1) (Kf 12 0) go (es.filter fun x=>decide (x.1≠e.1)) co) tb1 (fun H1 s1 t1 Q2 E2 th=>?_) (fun a v H2 H' p s' ea=>?_)
 ·have hB2:=hB1.sT s1
  obtain⟨dx,nw,ah,xs,hb,hbe⟩:=hB2.ins
  refine⟨.ref b,rfl,b,dx,_,rfl,hb,rfl,_,rfl,b,be,e.1,e.2.1,12,d,co,_,go,es,e.2.2,rfl,hB2,K4,ok.2.1,?_,ok.1,mem,Wx.ok.nd,Wx.l40,hd,fun H' bt hB'=>th _ _ ⟨rfl,H1,s1,t1,bt,hB'⟩⟩
  rw[K6,Oj,if_pos ok.2.1]
  rfl
 ·obtain⟨rfl,Hq,sq,tq,bt,hB2⟩:=p
  refine⟨small (by show 2<=1000; decide),fun p hp=>?_⟩
  have sn:=aB hp (.tup [.str "told",.non])
  refine⟨_,_,_,rfl,uE (sn _ _ ea) .non,uE ao .non,by simp [Dm.dep,jF],fun Hz sz=>⟨true,rfl,?_⟩⟩
  show if (!true)=true then _ else _
  exact cj (k _ _ _ _ _ _ _ _ _ _ _ _ (Kc _) ((Wx.BK he sq tq bt hB2).same (s'.trans (sn.trans sz))))
theorem zm {K : Ky} {T CS CB b be R pr p6 p1 dr : Addr} {H : Hp} {cs us : List V} {d o : Nat} {cv : Int} {go : List Nat} {es : List Ent} {co : Nat} {D : Ends} {u8 u9 u10 u11 u12 : Option V} (Wx : W45 CS CB T H b be R pr p6 cs us d go es co) (hd : d ≤ 900) (ho : o < 12) (hgo : o ∉ go) (k : N45 CS CB T b be pr p6 p1 dr cs cv o d D.nx) :
    (wU
          (Am (tBM K "list" xQ (dH 3) (aW (dH 7) dW)))
          (wU
            (DR 1 [7] (Ao K (dH 2)) (iz 0) (wk (tOp rNe (tOp (gB K) (dH 0) (tC (V.int 1))) (dH 1))) (dH 0) 2)
            (Am (jz CB "leave" (tU CS CB) [] E0 (dH 1) (aW (dH 7) dW))))) D [some (.ref p1), some (.ref b), some (.ref R), some (.ref pr), some (vN co), some (.int cv), some (.ref dr), some (vN o), u8, u9, u10, u11, u12] H := by
  have lu : us.length = es.length := by
    have := Wx.ro.length
    unfold roF at this
    rwa [J8] at this
  have hm : o ∈ thF 12 go := List.mem_filter.mpr ⟨List.mem_range.mpr ho, decide_eq_true hgo⟩
  obtain ⟨j, hj⟩ := List.getElem?_of_mem hm
  have hjl := (List.getElem?_eq_some_iff.mp hj).1
  refine aD (fun σ H1 => σ = [some (.ref p1), some (.ref b), some (.ref R), some (.ref pr), some (vN co), some (.int cv), some (.ref dr), some (vN o), u8, u9, u10, u11, u12] ∧ H1 = upd H pr (.lst (((thF 12 go).map vN).eraseIdx j))) ?q1 ?t1
  case t1 =>
    intro N Rc
    refine ⟨_, rfl, .inl ⟨rfl, _, SqL.of Wx.hP⟩, _, rfl, pr, (thF 12 go).map (fun i : Nat => (i : Int)), (o : Int), j, rfl, rfl, ?_, ?_, fun i hi => ?_, ?_⟩
    · rw [← lJ]
      exact Wx.hP
    · rw [KQ, hj]
      rfl
    · rw [KQ, Kd (by lia)]
      intro z
      have z' : (((thF 12 go)[i]'(by lia) : Nat) : Int) = (o : Int) := La z
      have e2 : (thF 12 go)[i]'(by lia) = (thF 12 go)[j] := by
        rw [(List.getElem?_eq_some_iff.mp hj).2]
        lia
      have := (TX (qu 12 go)).mp e2
      lia
    · rw [← lJ]
      exact Rc _ _ ⟨rfl, rfl⟩
  case q1 =>
  rintro σ H1 ⟨rfl, rfl⟩
  have tk := cN (zs' := ((thF 12 go).map vN).eraseIdx j) Wx.hP
  have ro1 := Wx.ro.aZ tk
  have eR1 : upd H pr (.lst (((thF 12 go).map vN).eraseIdx j)) R = some (.lst us) := by rw [aC Wx.n3]; exact Wx.hR
  have hB1 := Wx.hB.Gd (ys := ((thF 12 go).map vN).eraseIdx j) Wx.hP Wx.n2
  generalize eH1 : upd H pr (.lst (((thF 12 go).map vN).eraseIdx j)) = H1 at ro1 eR1 hB1
  refine aD (fun σ H2 => ∃ (R' : Addr) (vs : List V), σ = [some (.ref p1), some (.ref b), some (.ref R'), some (.ref pr), some (vN co), some (.int cv), some (.ref dr), some (vN o), u8, u9, u10, u11, u12] ∧ aR H1 H2 ∧ H1 R' = none ∧ H2 R' = some (.lst vs) ∧ RoR H2 vs (roF (es.filter fun e => decide (e.2.1 ≠ o)))) ?q2 ?t2
  case t2 =>
    intro N Rc
    refine ⟨_, rfl, R, rfl, ⟨_, SqL.of eR1⟩, fun D' hD => rD (K := K) (a := R) (xs := us) (fun i zs σ' H2 => (∃ u, σ' = [u, some (vN o)]) ∧ aR H1 H2 ∧ H2 D' = some (.lst zs) ∧ RoR H2 zs (roF ((es.take i).filter fun e => decide (e.2.1 ≠ o))))
      ⟨⟨_, rfl⟩, aB hD _, ao, by rw [Lz]; exact .nil⟩ (fun i zs σ' H2 _ h => ⟨SqL.of (h.2.1 _ _ eR1), h.2.2.1⟩) ?_ ?_⟩
    · rintro i zs x σ' H2 hx ⟨⟨u, rfl⟩, sm, eD, ez⟩
      obtain ⟨t, nx, ny, rfl, hr, ht⟩ := ro1.get hx
      have hr' : (es.map fun e => (e.1, e.2.1))[i]? = some (nx, ny) := hr
      rw [KQ] at hr'
      obtain ⟨e, he, exy⟩ : ∃ e : Ent, es[i]? = some e ∧ (e.1, e.2.1) = (nx, ny) := by
        cases z : es[i]? with
        | none => rw [z] at hr'; cases hr'
        | some e => rw [z] at hr'; exact ⟨e, rfl, by cases hr'; rfl⟩
      have ey : e.2.1 = ny := by cases exy; rfl
      have lz := ez.length
      unfold roF at lz
      rw [J8] at lz
      have lf := Mg (fun e : Ent => decide (e.2.1 ≠ o)) (es.take i)
      rw [Lk] at lf
      have l40 := Wx.l40
      have nx' := bN.Gg (n := 12) (p := fun e : Ent => decide (e.2.1 ≠ o)) he
      refine ⟨_, rfl, t, _, _, _, rfl, rfl, SqT.of (sm _ _ ht), rfl, _, rfl, rfl, _, rfl, ?_⟩
      by_cases z : ny = o
      · rw [show decide (vN ny = vN o) = true from decide_eq_true (by rw [z])]
        show if (!true) = true then _ else _
        refine cj ⟨⟨_, rfl⟩, sm, eD, ?_⟩
        rw [nx', if_neg (by rw [ey, decide_eq_false (not_not_intro z)]; exact J9), Nb]
        exact ez
      · rw [show decide (vN ny = vN o) = false from decide_eq_false fun y => z (by injection y with y; lia)]
        show if (!false) = true then _ else _
        have tk := cN (zs' := zs ++ [.ref t]) eD
        refine dF ⟨_, rfl, eD, bu (by lia), ⟨_, rfl⟩, cg sm hD _, ao, ?_⟩
        rw [nx', if_pos (by rw [ey]; exact decide_eq_true z)]
        unfold roF
        rw [K3]
        show RoR _ _ (_ ++ [(e.1, e.2.1)])
        rw [exy]
        exact RoR.snoc (tk _ _ (sm _ _ ht)) (ez.aZ tk)
    · rintro zs σ' H2 ⟨_, sm, eD, ez⟩
      rw [lu, Ld] at ez
      exact Rc _ _ ⟨D', zs, rfl, sm, hD, eD, ez⟩
  case q2 =>
  rintro σ H2 ⟨R', vs, rfl, s2, fR, eR, ro2⟩
  have hB2 := hB1.same s2
  obtain ⟨dx, nw, ah, xs, hb, hbe⟩ := hB2.ins
  have fg := pR 12 go Wx.nd Wx.lt
  refine ⟨_, rfl, b, dx, _, rfl, hb, rfl, _, rfl, b, be, o, 12, d, co, _, go, es, rfl, hB2, by rw [K4]; exact ho, hgo, fg, Wx.l40, hd, fun H3 bt hB3 => ?_⟩
  subst eH1
  exact k _ _ _ _ _ _ _ _ _ _ _ _ (Kc _) (Wx.leave hj s2 fR eR ro2 bt hB3)
theorem qj : ∀ c : List Nat, jF (c.map fun i : Nat => Dm.int (i : Int)) = 0
  | [] => by rw [Ti, jF]
  | i :: r => by rw [Ni, jF, qj r, Dm.dep]; · rfl
                 all_goals simp
theorem km {H:Hp}:∀ c:List Nat,jf H (c.map vN) (c.map fun i:Nat=>Dm.int (i:Int))
 | []=>.nil
 | i::r=>.cons (.int _) (km r)
abbrev Ec:Stmt:=top 55
theorem cL:aG ["_law_script","_law_boon_here","_law_rows","_law_present","_law_after","_law_cell_here","_law_drawn","_law_one","_law_want","_law_bad","_law_found","_law_number","_law_who"] ["_law_script"] (au Ec):=⟨rfl,rfl,rfl,by decide+kernel,rfl,by decide+kernel,by decide+kernel⟩
inductive CV (K:Ky) (T:Addr) (vs:List V) (H:Hp) (Q:VK):Prop where
 | mk (a:Addr) (ns:List Int) (z0:vs=[.ref a]) (z1:SqL K H a (ns.map V.int)) (z2:ns.length<=63) (z3:TabOk H T sU) (z4:∀ H',Q (.bl true) H'):CV K T vs H Q
def Av (K:Ky) (T:Addr):Sp:=fun vs H Q _=>CV K T vs H Q
theorem Gm {f c T fW G CS CB CN CG CP CF:Addr} {fd fdW:LK} (F:Ip K "law" "law" Ec f fd c) (B:Bt mg) (HP:vQ mg c T base) (m_BoonError:mg "BoonError" = some (.ref G)) (RF:XRd K CF G "word") (RG:XRd K CG G "word") (RP:XRd K CP G "word")
  (F_law_word:Fun K "_law_word" "_law_word" cZ fW fdW) (m_law_word:mg "_law_word" = some (.ref fW))
  (D_law_cell:Df P w K mg base "_law_cell" 1 ["_law_script","_law_k"] (Dc K)) (D_law_draws:Df P w K mg base "_law_draws" 1 ["_law_cell_here","_law_parts"] (tV K)) (D_law_picks:Df P w K mg base "_law_picks" 2 ["_law_cell_here","_law_many"] xT) (D_law_filled:Df P w K mg base "_law_filled" 15 ["_law_picks_here"] (vg K CS CB))
  (M_Boon_come:Dmx P w K mg base CB "come" 4 ["self"] (sH CS CB CF)) (M_Boon_pledge:Dmx P w K mg base CB "pledge" 14 ["self","one","pledge"] (du CS CB CN CG CP CF)) (D_Boon_withdraw:Dm2 P w K mg base CB "withdraw" 12 ["self","number"] (jx CS CB)) (D_Boon_leave:Dm2 P w K mg base CB "leave" 3 ["self","one"] (tU CS CB))
  (D_pledges:Df P w K mg base "pledges" 1 ["boon"] (m9 CS CB)) (D_there:Df P w K mg base "there" 2 ["boon"] (vo CS CB)) (D_coming:Df P w K mg base "coming" 1 ["boon"] (uU CS CB)) (D_green:Df P w K mg base "green" 1 ["boon"] (xF CS CB)) (D_folk:Df P w K mg base "folk" 1 ["boon"] (yZ CS CB))
  (D_law_same:Df P w K mg base "_law_same" 5 ["_law_found","_law_due"] (gF 5)):bL P w K mg base CX0 18 f fd ["_law_script"] (Av K T):=by
 refine F.ok cL (fun vs H Q E h=>?_) (fun A outer s H vs Q E hr h=>?_)
 ·obtain⟨a,ns,rfl,_⟩:=h
  rfl
 ·obtain⟨a,ns0,rfl,hS,lN,hT,q⟩:=h
  refine⟨_,(ak (aY (i:=0) cL.nd rfl (K5 rfl) (vm (r:=Jh K) wW (pv 0) yt (yR az)))
 (ak (zU (bh D_law_filled hr (aa (bh D_law_picks hr (aa (bh D_law_cell hr (aa (pv 0) (aa az aj))) (aa az aj))) aj)) (iG (K:=K) 2 rfl rfl (bG (aQ (i:=1) cL.nd rfl (Or.inr rfl)) (bG (aQ (i:=2) cL.nd rfl (K5 rfl)) ie))))
 (ak (aY (i:=3) cL.nd rfl (K5 rfl) (pZ rfl rfl B.list_ rfl B.range_ (aa az aj)))
 (ak (aY (i:=4) cL.nd rfl (K5 rfl) az)
 (ak (gJ M8 rfl (jC (bD Gs (vm (r:=Jh K) wW (pv 0) (yR az) yt) (dI (aa az (aa az aj))))) (aQ (i:=5) cL.nd rfl (K5 rfl)) (ak (aY (i:=6) cL.nd rfl (K5 rfl) (bh D_law_draws hr (aa (pv 5) (aa (dI (aa az (aa az (aa az aj)))) aj))))
 (ak (bc (cJ (bR (bh D_law_same hr (aa (t8 (k:=16) (NL:=["_law_boon_here"]) (cap:=[1]) F_law_word c7 hr rfl m_law_word (uN (cz rfl rfl (by kernel_rfl))) rfl HP.code HP.blt (fun f cd cl A outer s H E j hj hr=>(Fd M_Boon_come hr jm (pv 0))) (oZ m_BoonError)) (aa (bA (aa bf aj)) aj))))) (aq (aH dU)) aJ)
 (ak (aY (i:=7) cL.nd rfl (Or.inr rfl) (bK (r:=An K) gU (pv 6) az (fun _ _=>rfl)))
 (ak (bc (aK tO (bK (r:=An K) gU (pv 6) az (fun _ _=>rfl)) az (aN _)) (ak (aY (i:=8) cL.nd rfl (K5 rfl) (uV (aK tO (aA (r:=ik K) aO rfl B.len_ bI (aa (pv 2) aj)) az (aN _)) (bA (aa bf (aa (pv 4) aj))) (bA (aa bf aj))))
 (ak (aY (i:=9) cL.nd rfl (Or.inr rfl) (bA (aa (bA (aa az (aa (bA (aa bf (aa (pv 7) (aa az aj)))) aj))) aj)))
 (ak (aY (i:=10) cL.nd rfl (K5 rfl) (t8 (k:=16) (NL:=["_law_one","_law_bad","_law_boon_here"]) (cap:=[7,9,1]) F_law_word c7 hr rfl m_law_word (uN (cz rfl rfl (by kernel_rfl))) rfl HP.code HP.blt (fun f cd cl A outer s H E j hj hr=>(yz M_Boon_pledge hr jm (pv 2) (aa (pv 0) (aa (pv 1) aj)))) (oZ m_BoonError)))
 (ak (bc (cJ (bR (bh D_law_same hr (aa (pv 10) (aa (uV (aK (r:=rIn K false) jb (pv 7) (pv 3) rfl) (bA (aa bf aj)) (bA (aa bf aj))) aj))))) (aq (aH dU)) aJ)
 (ak (bc (aK (r:=rIn K true) fZ (pv 7) (pv 3) rfl) (aq (aY (i:=8) cL.nd rfl (K5 rfl) (bA (aa bf aj)))) aJ)
 (ak (bc (cJ (bR (bh D_law_same hr (aa (t8 (k:=16) (NL:=["_law_one","_law_boon_here"]) (cap:=[7,1]) F_law_word c7 hr rfl m_law_word (uN (cz rfl rfl (by kernel_rfl))) rfl HP.code HP.blt (fun f cd cl A outer s H E j hj hr=>(yz M_Boon_pledge hr jm (pv 1) (aa (pv 0) (aa (bA (aa (bA (aa az (aa (bA (aa bf aj)) aj))) aj)) aj)))) (oZ m_BoonError)) (aa (pv 8) aj))))) (aq (aH dU)) aJ)
 (aq (bc (aK (r:=Ff 40) (Fl hr (by decide)) (pv 8) (bA (aa bf (aa (pv 4) aj))) (aN _)) (ak (bJ (vC Nk PL PK eE (pv 2) (aa (bA (aa (pv 4) (aa (pv 7) aj))) aj)))
 (aq (aY (i:=4) cL.nd rfl (K5 rfl) (bD fj (pv 4) az)))) aJ)))))))) (aq (bc (PW.pt (Dq (aK tO (bK (r:=An K) gU (pv 6) az (fun _ _=>rfl)) az (aN _)) (za (aK (r:=Jy K) (GJ hr.Dt) (pv 2) (dI aj) (aN _))))) (ak (zU (vC Nk PySem.F.slot_list_pop PySem.F.type_list_pop Bj (pv 2) (aa (bD jO (bK (r:=An K) gU (pv 6) az (fun _ _=>rfl)) (aA (r:=ik K) aO rfl B.len_ bI (aa (pv 2) aj))) aj)) (iG (K:=K) 2 rfl rfl (bG (aQ (i:=11) cL.nd rfl (Or.inr rfl)) (bG (aQ (i:=12) cL.nd rfl (K5 rfl)) ie))))
 (aq (bc (cJ (bR (bh D_law_same hr (aa (t8 (k:=16) (NL:=["_law_number","_law_boon_here"]) (cap:=[11,1]) F_law_word c7 hr rfl m_law_word (uN (cz rfl rfl (by kernel_rfl))) rfl HP.code HP.blt (fun f cd cl A outer s H E j hj hr=>(rZ D_Boon_withdraw hr (pv 1) (aa (pv 0) aj))) (oZ m_BoonError)) (aa (bA (aa bf (aa Ho aj))) aj))))) (aq (aH dU)) aJ))) (aq (bc (PW.pt (Dq (aK (r:=rIn K false) jb (pv 7) (pv 3) rfl) (za (aK HX (aA (r:=ik K) aO rfl B.len_ bI (aa (pv 3) aj)) az (aN _))))) (ak (bJ (vC Nk PySem.F.slot_list_remove PySem.F.type_list_remove xP (pv 3) (aa (pv 7) aj)))
 (ak (xZ (L:=["_law_row"]) (F:=["_law_one"]) (cap:=[7]) (j:=2) cL.nd rfl (K5 rfl) rfl (cz rfl rfl (by kernel_rfl)) (jC (pv 2)) (fun _ _ _ _ _=>(aQ (i:=0) (bV (by decide+kernel)) rfl (K5 rfl))) (fun _ _ _ _ _=>(jB (aK su (bK (r:=gB K) bz (pv 0) az (fun _ _=>rfl)) (pv 1) (aN _)))) (fun _ _ _ _ _=>(pv 0)))
 (aq (bJ (rZ D_Boon_leave hr (pv 1) (aa (pv 7) aj)))))) aJ)))))
 (ak (xZ (L:=["_law_number","_law_who","_law_pledge"]) (F:=[]) (cap:=[]) (j:=10) cL.nd rfl (K5 rfl) rfl (cz rfl rfl (by kernel_rfl)) (jC (bh D_pledges hr (aa (pv 1) aj))) (fun _ _ _ _ _=>(iG (K:=K) 3 rfl rfl (bG (aQ (i:=0) (bV (by decide+kernel)) rfl (K5 rfl)) (bG (aQ (i:=1) (bV (by decide+kernel)) rfl (K5 rfl)) (bG (aQ (i:=2) (bV (by decide+kernel)) rfl (K5 rfl)) ie))))) (fun _ _ _ _ _=>kW) (fun _ _ _ _ _=>(bA (aa (pv 0) (aa (pv 1) aj)))))
 (aq (bc (cJ (bR (bh D_law_same hr (aa (dI (aa (pv 10) (aa (bh D_there hr (aa (pv 1) aj)) (aa (bh D_coming hr (aa (pv 1) aj)) aj)))) (aa (dI (aa (pv 2) (aa (pv 3) (aa (pv 4) aj)))) aj))))) (aq (aH dU)) aJ))))))))
 (aq (aH (cA cH (aA (r:=ik K) aO rfl B.len_ bI (aa (bh D_green hr (aa (pv 1) aj)) aj)) (bh D_folk hr (aa (pv 1) aj)) (aN _))))))))),?_⟩
  refine aD (fun σ H1=>∃ (p1:Addr) (ss:List Int),σ=[some (.ref p1),none,none,none,none,none,none,none,none,none,none,none,none]/\aR H H1/\H1 p1=some (.lst (ss.map V.int))/\ss.length<=63) ?q0 ?t0
  case t0 =>
   intro N Rc
   refine⟨_,rfl,_,rfl,a,_,rfl,hS,fun p1 h1=>?_⟩
   obtain⟨ss,es,ls⟩:=uo ns0 none (some 63)
   rw[es]
   exact Rc _ _ ⟨p1,ss,rfl,aB h1 _,ao,by lia⟩
  case q0 =>
  rintro σ H1 ⟨p1,ss,rfl,g1,e1,ls⟩
  refine aD (fun σ H2=>∃ (b be R:Addr) (us:List V) (es:List Ent),σ=[some (.ref p1),some (.ref b),some (.ref R),none,none,none,none,none,none,none,none,none,none]/\aR H1 H2/\R≠be/\bj CS CB 12 H2 b be 52 (Kf 12 0) [] es 40/\es.length=40/\H2 R=some (.lst us)/\RoR H2 us (roF es)/\zB 12 [] es 40) ?q1 ?t1
  case t1 =>
   intro N Rc
   refine⟨_,rfl,p1,ss,0,rfl,SqL.of e1,_,40,rfl,by decide,fun r ns H2 s2 fr ln hns er=>?_⟩
   refine⟨r,ns,rfl,er,ln,hns,fun r2 b be R us es H3 s3 er2 fb fbe fR nR hB le eR ro ok=>?_⟩
   exact⟨r2,_,rfl,SqT.of er2,rfl,_,_,rfl,_,_,rfl,rfl,Rc _ _ ⟨b,be,R,us,es,rfl,s2.trans s3,nR,hB,le,eR,ro,ok⟩⟩
  case q1 =>
  rintro σ H2 ⟨b,be,R,us,es,rfl,s2,nR,hB2,le,eR,ro,ok⟩
  refine aD (fun σ H3=>∃ (pr:Addr),σ=[some (.ref p1),some (.ref b),some (.ref R),some (.ref pr),none,none,none,none,none,none,none,none,none]/\aR H2 H3/\H2 pr=none/\H3 pr=some (.lst ((thF 12 []).map vN))) ?q2 ?t2
  case t2 =>
   intro N Rc
   refine⟨12,rfl,by decide,fun l hl=>Rc _ _ ⟨l,rfl,aB hl _,hl,?_⟩⟩
   rw[ao]
   rfl
  case q2 =>
  rintro σ H3 ⟨pr,rfl,s3,fpr,epr⟩
  refine aD (fun σ H4=>σ=[some (.ref p1),some (.ref b),some (.ref R),some (.ref pr),some (vN 40),none,none,none,none,none,none,none,none]/\H4=H3) ?q3 ?t3
  case t3 =>
   intro N Rc
   exact Rc _ _ ⟨rfl,rfl⟩
  case q3 =>
  rintro σ H4 ⟨rfl,rfl⟩
  have s14:=s2.trans s3
  refine aD (fun σ Hz=>∃ (p1 b be R pr p6:Addr) (u4 u5 u6 u7 u8 u9 u10 u11 u12:Option V) (cs us:List V) (d:Nat) (go:List Nat) (es:List Ent) (co:Nat),σ=[some (.ref p1),some (.ref b),some (.ref R),some (.ref pr),u4,u5,u6,u7,u8,u9,u10,u11,u12]/\W45 CS CB T Hz b be R pr p6 cs us d go es co) ?q4 ?t4
  case q4 =>
   rintro σ Hz ⟨p1,b,be,R,pr,p6,u4,u5,u6,u7,u8,u9,u10,u11,u12,cs,us,d,go,es,co,rfl,Wx⟩
   refine⟨_,rfl,b,be,12,d,co,_,go,es,rfl,Wx.hB,fun ga hga=>⟨ga,_,rfl,.inr (SqT.of hga),_,rfl,b,be,12,d,co,_,go,es,rfl,Wx.hB,rfl,?_⟩⟩
   rw[decide_eq_true (by rw[J8])]
   exact q _
  case t4 =>
  intro N Rc
  refine⟨_,rfl,_,rfl,p1,_,rfl,SqL.of (s14 _ _ e1),fun p4 h4=>?_⟩
  obtain⟨ks,ek,lk⟩:=uo ss (some 1) none
  rw[ek]
  generalize eH7:upd H4 p4 _=H7
  obtain⟨g7,e7⟩:=aX eH7 h4
  refine⟨small (by show 2<=1000; decide),fun p5 h5=>?_⟩
  generalize eH8:upd H7 p5 _=H8
  obtain⟨g8,e8⟩:=aX eH8 h5
  refine⟨p4,p5,_,_,rfl,rfl,g8 _ _ e7,e8,small (by rw[J8]; show ks.length+2<=1000; lia),fun p6 h6=>?_⟩
  have ec:ks.map V.int++[V.int 0,V.int 1]=(ks++[0,1]).map V.int:=by rw[K3]; rfl
  rw[ec]
  generalize eH9:upd H8 p6 _=H9
  obtain⟨g9,e9⟩:=aX eH9 h6
  have s48:=g7.trans g8
  have s49:=s48.trans g9
  have new:∀ a o,H4 a=some o->a≠p6:=fun a o h z=>by rw[z] at h; rw[s48 _ _ h] at h6; cases h6
  have npr:∀ a o,H2 a=some o->a≠pr:=fun a o h z=>by rw[z,fpr] at h; cases h
  obtain⟨_,_,_,_,_,ebe⟩:=hB2.ins
  have W9:W45 CS CB T H9 b be R pr p6 ((ks++[0,1]).map V.int) us 52 [] es 40 :=
   ⟨(hB2.same s3).same s49,s49 _ _ (s3 _ _ eR),ro.aZ fun a xs z=>s49 _ _ (s3 _ _ z),s49 _ _ epr,e9,nR,(npr _ _ ebe).symm,npr _ _ eR,(new _ _ (s3 _ _ ebe)).symm,(new _ _ (s3 _ _ eR)).symm,(new _ _ epr).symm,hT.same (g1.trans (s14.trans s49)),by lia,ok,.nil,by simp⟩
  clear hB2 s3 s2 nR ro ok eR epr fpr npr new
  refine⟨p6,rfl,⟨_,SqL.of e9⟩,j0 (K:=K) (a:=p6) (xs:=(ks++[0,1]).map V.int) (fun i σ Hx=>∃ (u5 u6 u7 u8 u9 u10 u11 u12:Option V) (R:Addr) (us:List V) (d:Nat) (go:List Nat) (es:List Ent) (co:Nat),σ=[some (.ref p1),some (.ref b),some (.ref R),some (.ref pr),some (vN co),u5,u6,u7,u8,u9,u10,u11,u12]/\d<=52+i/\W45 CS CB T Hx b be R pr p6 ((ks++[0,1]).map V.int) us d go es co)
   ⟨_,_,_,_,_,_,_,_,R,us,52,[],es,40,rfl,Kc _,W9⟩ (fun i σ Hx _ h=>by obtain⟨_,_,_,_,_,_,_,_,_,_,_,_,_,_,_,_,Wx⟩:=h; exact SqL.of Wx.h6) ?_ (fun σ Hx h=>by obtain⟨u5,u6,u7,u8,u9,u10,u11,u12,R,us,d,go,es,co,rfl,_,Wx⟩:=h; exact Rc _ _ ⟨p1,b,be,R,pr,p6,_,_,_,_,_,_,_,_,_,_,us,d,go,es,co,rfl,Wx⟩)⟩
  clear W9 Rc
  rintro i x σ Hx hx ⟨u5,u6,u7,u8,u9,u10,u11,u12,R,us,d,go,es,co,rfl,hd,Wx⟩
  obtain⟨cv,hcv,rfl⟩:=int_at hx
  have il:=(List.getElem?_eq_some_iff.mp hcv).1
  rw[KR] at il
  have il:i < ks.length+2:=il
  refine gN ?_
  refine aD (fun σ Hy=>∃ (dr:Addr) (dl:List V) (d0 d2:Int) (o:Nat),σ=[some (.ref p1),some (.ref b),some (.ref R),some (.ref pr),some (vN co),some (.int cv),some (.ref dr),u7,u8,u9,u10,u11,u12]/\aR Hx Hy/\Hy dr=some (.lst dl)/\atI dl 0=some (.int d0)/\atI dl 1=some (vN o)/\atI dl 2=some (.int d2)/\o < 12/\dr≠R/\dr≠pr/\dr≠be) ?qA ?tA
  case tA =>
   intro N Rc
   refine⟨_,rfl,small (by show 3<=1000; decide),fun p7 h7=>?_⟩
   generalize eHa:upd Hx p7 _=Ha
   obtain⟨ga,ea⟩:=aX eHa h7
   refine⟨cv,p7,[5,12,40],rfl,SqL.of ea,by decide,by decide,fun p8 h8=>?_⟩
   have fr:Hx p8=none:=ga.free h8
   generalize eHb:upd Ha p8 _=Hb
   obtain⟨gb,eb⟩:=aX eHb h8
   obtain⟨d0,k0,b0⟩:=gm (c:=Ae cv) (i:=0) (ps:=[5,12,40]) (by decide) rfl
   obtain⟨d1,k1,b1⟩:=gm (c:=Ae cv) (i:=1) (ps:=[5,12,40]) (by decide) rfl
   obtain⟨d2,k2,b2⟩:=gm (c:=Ae cv) (i:=2) (ps:=[5,12,40]) (by decide) rfl
   have e1':V.int d1=vN d1.toNat:=by show V.int d1=V.int ((d1.toNat:Nat):Int); rw[Int.toNat_of_nonneg b1.1]
   have a1:=aP (o5 k1)
   rw[e1'] at a1
   obtain⟨_,_,_,_,_,ebx⟩:=Wx.hB.ins
   exact Rc _ _ ⟨p8,_,d0,d2,d1.toNat,rfl,ga.trans gb,eb,aP (o5 k0),a1,aP (o5 k2),by lia,fun z=>(by rw[z,Wx.hR] at fr; cases fr),fun z=>(by rw[z,Wx.hP] at fr; cases fr),fun z=>(by rw[z,ebx] at fr; cases fr)⟩
  case qA =>
  rintro σ Hy ⟨dr,dl,d0,d2,o,rfl,sA,edr,at0,at1,at2,ho,nd1,nd2,nd3⟩
  replace Wx:=Wx.same sA
  clear sA
  refine aD (fun σ Hz=>σ=[some (.ref p1),some (.ref b),some (.ref R),some (.ref pr),some (vN co),some (.int cv),some (.ref dr),u7,u8,u9,u10,u11,u12]/\dY Hy Hz/\TabOk Hz T sU) ?qB ?tB
  case tB =>
   intro N Rc
   exact Be Wx RF rfl fun Hz s t=>Rc _ _ ⟨rfl,s,t⟩
  case qB =>
  rintro σ Hz ⟨rfl,sB,tB⟩
  replace Wx:=Wx.sT sB tB
  replace edr:=stL sB edr
  refine aD (fun σ Hw=>σ=[some (.ref p1),some (.ref b),some (.ref R),some (.ref pr),some (vN co),some (.int cv),some (.ref dr),some (vN o),u8,u9,u10,u11,u12]/\Hw=Hz) ?qC ?tC
  case tC =>
   intro N Rc
   exact⟨_,rfl,dr,_,_,_,rfl,rfl,SqL.of edr,at1,Rc _ _ ⟨rfl,rfl⟩⟩
  case qC =>
  rintro σ Hw ⟨rfl,rfl⟩
  refine aD (fun σ Hv=>∃ (v8 v9 v10 v11 v12:Option V) (R:Addr) (us:List V) (d':Nat) (go:List Nat) (es:List Ent) (co:Nat),σ=[some (.ref p1),some (.ref b),some (.ref R),some (.ref pr),some (vN co),some (.int cv),some (.ref dr),some (vN o),v8,v9,v10,v11,v12]/\d'<=d+1/\W45 CS CB T Hv b be R pr p6 ((ks++[0,1]).map V.int) us d' go es co) ?qD ?tD
  case tD =>
   intro N Rc
   have kN:N45 CS CB T b be pr p6 p1 dr ((ks++[0,1]).map V.int) cv o d N:=fun v8 v9 v10 v11 v12 R us d' go es co Hv h Wx=>Rc _ _ ⟨v8,v9,v10,v11,v12,R,us,d',go,es,co,rfl,h,Wx⟩
   have hd9:d<=900:=by lia
   refine⟨_,rfl,dr,_,_,_,rfl,rfl,SqL.of edr,at0,_,_,rfl,rfl,_,rfl,?_⟩
   refine wR (fun _=>wJ Wx RF RG RP ho hd9 kN) (fun _=>?_)
   refine zM (fun c H1=>aR Hw H1/\(c=true->es≠[])) (fun Q' Rq=>?_) ?wd ?nw
   ·refine⟨_,rfl,dr,_,_,_,rfl,rfl,SqL.of edr,at0,_,_,rfl,rfl,_,rfl,?_⟩
    refine wR (fun _=>?_) (fun _=>Rq _ _ ⟨aR.refl _,fun y=>by cases y⟩)
    refine⟨_,rfl,small (by show 0<=1000; decide),fun pe he=>?_⟩
    have sn:=aB he (.lst [])
    refine⟨R,pe,us,rfl,rfl,SqL.of (sn _ _ Wx.hR),SqL.of ao,_,rfl,Rq _ _ ⟨sn,fun y z=>?_⟩⟩
    have lz:=Wx.ro.length
    rw[z] at lz
    have:us=[]:=Ou lz
    rw[this] at y
    cases y
   case wd =>
    rintro H1 ⟨s1,hne⟩
    exact pL (Wx.same s1) hd9 (s1 _ _ edr) at2 (hne rfl) kN
   case nw =>
    rintro H1 ⟨s1,-⟩
    replace Wx:=Wx.same s1
    refine zM (fun c H2=>H2=H1/\(c=true->o ∉ go)) (fun Q' Rq=>?_) ?lv ?nl
    ·refine⟨_,rfl,_,rfl,pr,_,rfl,.inl (SqL.of Wx.hP),rfl,dZ _,_,rfl,?_⟩
     rw[if_neg (show ¬ false=true from J9),zj ho]
     refine wR (fun z=>?_) (fun _=>Rq _ _ ⟨rfl,fun y=>by cases y⟩)
     exact⟨_,rfl,pr,_,rfl,.inl (SqL.of Wx.hP),_,_,rfl,rfl,_,rfl,Rq _ _ ⟨rfl,fun _=>of_decide_eq_true z⟩⟩
    case lv =>
     rintro H2 ⟨rfl,h⟩
     exact zm Wx hd9 ho (h rfl) kN
    case nl =>
     rintro H2 ⟨rfl,-⟩
     exact kN _ _ _ _ _ _ _ _ _ _ _ _ (M9 _) Wx
  case qD =>
  clear Wx edr at0 at1 at2 nd1 nd2 nd3
  rintro σ Hv ⟨v8,v9,v10,v11,v12,R,us,d',go,es,co,rfl,hd',Wx⟩
  refine aD (fun σ Hu=>∃ (fo:Addr) (ws:List V),σ=[some (.ref p1),some (.ref b),some (.ref R),some (.ref pr),some (vN co),some (.int cv),some (.ref dr),some (vN o),v8,v9,some (.ref fo),v11,v12]/\aR Hv Hu/\Hu fo=some (.lst ws)/\RoR Hu ws (roF es)) ?qE ?tE
  case tE =>
   intro N Rc
   refine⟨_,rfl,b,be,12,d',co,_,go,es,rfl,Wx.hB,fun pa ps H1 s1 fpa hes epa=>?_⟩
   have les:=hes.length
   have l40:=Wx.l40
   refine⟨pa,rfl,⟨_,SqL.of epa⟩,fun D' hD=>rD (K:=K) (a:=pa) (xs:=ps) (fun i zs σ' H2=>(∃ u v w,σ'=[u,v,w])/\aR H1 H2/\H2 D'=some (.lst zs)/\RoR H2 zs (roF (es.take i)))
    ⟨⟨_,_,_,rfl⟩,aB hD _,ao,by rw[Lz]; exact .nil⟩ (fun i zs σ' H2 _ h=>⟨SqL.of (h.2.1 _ _ epa),h.2.2.1⟩) ?_ ?_⟩
   ·rintro i zs x σ' H2 hx ⟨⟨u,v,w,rfl⟩,sm,eD,ez⟩
    obtain⟨e,p,nu,o2,pl2,rfl,he,hent,hpr⟩:=hes.get hx
    have lz:=ez.length
    unfold roF at lz
    rw[J8,Lk] at lz
    refine⟨e,_,rfl,SqT.of (sm _ _ (s1 _ _ hent)),rfl,_,_,rfl,_,_,rfl,_,_,rfl,rfl,?_⟩
    dsimp only [FJ]
    refine dF ?_
    refine⟨_,rfl,_,rfl,small (by show 2<=1000; decide),fun t ht=>?_⟩
    have sn:=aB ht (.tup [vN nu,vN o2])
    have eD':=sn _ _ eD
    have tk:=cN (zs':=zs++[.ref t]) eD'
    refine⟨eD',bu (by lia),⟨_,_,_,rfl⟩,cg (sm.trans sn) hD _,ao,?_⟩
    rw[LC,he]
    unfold roF
    rw[K3]
    exact RoR.snoc (tk _ _ ao) ((ez.aZ fun a xs z=>sn _ _ z).aZ tk)
   ·rintro zs σ' H2 ⟨_,sm,eD,ez⟩
    rw[les,Ld] at ez
    exact Rc _ _ ⟨D',zs,rfl,s1.trans sm,eD,ez⟩
  case qE =>
  rintro σ Hu ⟨fo,ws,rfl,sE,efo,rows⟩
  replace Wx:=Wx.same sE
  have l40:=Wx.l40
  have lw:=rows.length
  have lu:=Wx.ro.length
  unfold roF at lw lu
  rw[J8] at lw lu
  have lth:=zQ 12 go
  refine⟨_,rfl,_,rfl,b,be,12,d',co,_,go,es,rfl,Wx.hB,by rw[K4]; exact Kc _,fun th H1 s1 fth eth=>?_⟩
  rw[K4] at eth
  refine⟨_,rfl,b,be,12,d',co,_,go,es,rfl,Wx.hB.same s1,small (by show 3<=1000; decide),fun a1 h1=>?_⟩
  generalize eH2:upd H1 a1 _=H2
  obtain⟨s2,e2⟩:=aX eH2 h1
  refine⟨_,rfl,_,rfl,_,rfl,small (by show 3<=1000; decide),fun a2 h2=>?_⟩
  generalize eH3:upd H2 a2 _=H3
  obtain⟨s3,e3⟩:=aX eH3 h2
  have s13:=s1.trans (s2.trans s3)
  have r1:jf H3 [.ref fo,.ref th,vN co] [.lst ((roF es).map roD),.lst ((thF 12 go).map fun i:Nat=>.int (i:Int)),.int (co:Int)] :=
   .cons (.lst (s13 _ _ efo) (by lia) (rows.aZ fun a xs z=>s13 _ _ z).Ja) (.cons (.lst ((s2.trans s3) _ _ eth) (by rw[J8]; lia) (km _)) (.cons (.int _) .nil))
  have r2:jf H3 [.ref R,.ref pr,vN co] [.lst ((roF es).map roD),.lst ((thF 12 go).map fun i:Nat=>.int (i:Int)),.int (co:Int)] :=
   .cons (.lst (s13 _ _ Wx.hR) (by lia) (Wx.ro.aZ fun a xs z=>s13 _ _ z).Ja) (.cons (.lst (s13 _ _ Wx.hP) (by rw[J8]; lia) (km _)) (.cons (.int _) .nil))
  refine⟨_,_,_,rfl,.lst (s3 _ _ e2) (by show 3<=100000; decide) r1,.lst e3 (by show 3<=100000; decide) r2,?_,fun Hz sz=>⟨true,rfl,?_⟩⟩
  ·have d1:=Cj (roF es)
   have d2:=qj (thF 12 go)
   simp only[Dm.dep,jF]
   lia
  ·show if (!true)=true then _ else _
   exact cj ⟨_,_,_,_,_,_,_,_,R,us,d',go,es,co,rfl,by lia,Wx.same (s13.trans sz)⟩
theorem all_mk {l:W.OpenLaw} {w:K1} {K:Ky} {h:Lh} {mg:KH->Option Value} {fa fq1 fq2 fq3 fq4 fq5 fq6 fq7 fq8 fq9 fq10 fq11 fq12 fq13 fq14 fq15 fq16 fq17 fq18 fq19 fq20 fq21 fq22 fq23 fq24 fq25 fq26 fq27 fq28 fq29 fq30:Addr} (X:K.In h) (G:h.Ns Kp mg) (hfa:mg "law" = some (.ref fa)) {tk_MOST_FOLK tk_MOST_STEP tk_MOST_SUM tk_MOST_DEPTH tk_FEWEST_PARTS tk_MOST_PARTS tk_MOST_RUNGS tk_MOST_PLEDGES:Tok} {Cw8 Cw9:Addr} {f_Stand_init f_Boon_init f_Boon_go_on f_Boon_come f_Boon_leave f_Boon_pledge f_Boon_withdraw:Addr} {Cw0 fiw0 Cw1 fiw1 Cw2 fiw2 Cw3 fiw3 Cw6 fiw6:Addr} {bmw0 bmw1 bmw2 bmw3 bmw6:List Value} {mc:Value} {cLaw:Addr}
  (qw0:dz K "BoonError" "BoonError.__init__" Cw0 fiw0 (inClass iB 0) bmw0)
  (xga:W.specialIn K (.ref Cw0) "__getattribute__" = some (some (.builtin "type.__getattribute__")))
  (xty:W.typeIn K (.ref Cw0)=some mc)
  (xrd:W.readsIn K Cw0 mc=true)
  (xfd:W.findCls K (.ref Cw0) mc "__init__" = some (.val (.ref fiw0)))
  (qw1:dz K "BadPledge" "BadPledge.__init__" Cw1 fiw1 (inClass iw 0) bmw1)
  (mrw1:(Ku Cw1::bmw1).contains (.ref Cw0)=true)
  (qw2:dz K "NoFolk" "NoFolk.__init__" Cw2 fiw2 (inClass oH 0) bmw2)
  (mrw2:(Ku Cw2::bmw2).contains (.ref Cw0)=true)
  (qw3:dz K "Gone" "Gone.__init__" Cw3 fiw3 (inClass xY 0) bmw3)
  (mrw3:(Ku Cw3::bmw3).contains (.ref Cw0)=true)
  (qw6:dz K "Full" "Full.__init__" Cw6 fiw6 (inClass zX 0) bmw6)
  (mrw6:(Ku Cw6::bmw6).contains (.ref Cw0)=true)
  (qw8:fC K "Stand" Cw8)
  (n_Stand_green:O8 K (.ref Cw8) "green" = some none)
  (n_Stand_gone:O8 K (.ref Cw8) "gone" = some none)
  (n_Stand_standing:O8 K (.ref Cw8) "standing" = some none)
  (n_Stand_coming:O8 K (.ref Cw8) "coming" = some none)
  (q_Stand_init:bQ K Cw8 "__init__" "Stand.__init__" fY f_Stand_init)
  (qw9:fC K "Boon" Cw9)
  (n_Boon_now:O8 K (.ref Cw9) "now" = some none)
  (n_Boon_behind:O8 K (.ref Cw9) "behind" = some none)
  (n_Boon_ahead:O8 K (.ref Cw9) "ahead" = some none)
  (q_Boon_init:bQ K Cw9 "__init__" "Boon.__init__" gP f_Boon_init)
  (q_Boon_go_on:bQ K Cw9 "go_on" "Boon.go_on" fQ f_Boon_go_on)
  (q_Boon_come:bQ K Cw9 "come" "Boon.come" eN f_Boon_come)
  (q_Boon_leave:bQ K Cw9 "leave" "Boon.leave" fO f_Boon_leave)
  (q_Boon_pledge:bQ K Cw9 "pledge" "Boon.pledge" eX f_Boon_pledge)
  (q_Boon_withdraw:bQ K Cw9 "withdraw" "Boon.withdraw" dg f_Boon_withdraw)
  (ne_Boonw8:Cw9≠Cw8)
  (qq1:HasDef K "is_number" iu fq1)
  (qq2:HasDef K "is_crowd" jw fq2)
  (qq3:HasDef K "are_parts" iy fq3)
  (qq4:HasDef K "is_term_within" cV fq4)
  (qq5:HasDef K "is_term" lF fq5)
  (qq6:HasDef K "all_hold" jA fq6)
  (qq7:HasDef K "any_holds" gM fq7)
  (qq8:HasDef K "holds" rT fq8)
  (qq9:HasDef K "mentions" jn fq9)
  (qq10:HasDef K "named" sy fq10)
  (qq11:HasDef K "is_rung" lW fq11)
  (qq12:HasDef K "is_pledge" ig fq12)
  (qq13:HasDef K "owes" yh fq13)
  (qq14:HasDef K "check_there" cY fq14)
  (qq15:HasDef K "owed_of" mF fq15)
  (qq16:HasDef K "pledger_of" fH fq16)
  (qq17:HasDef K "check_pledge" dR fq17)
  (qq18:HasDef K "pledged_anew" dX fq18)
  (qq19:HasDef K "folk" yV fq19)
  (qq20:HasDef K "there" tR fq20)
  (qq21:HasDef K "green" rM fq21)
  (qq22:HasDef K "pledges" mH fq22)
  (qq23:HasDef K "coming" nW fq23)
  (qq24:HasDef K "_law_cell" jo fq24)
  (qq25:HasDef K "_law_draws" gQ fq25)
  (qq26:HasDef K "_law_word" cZ fq26)
  (qq27:HasDef K "_law_same" jg fq27)
  (qq28:HasDef K "_law_picks" gY fq28)
  (qq29:HasDef K "_law_filled" fJ fq29)
  (qq30:eY K "law" Ec fq30 cLaw 487)
  (v_MOST_FOLK:Nf K Kp "MOST_FOLK" = some (some (.int 12 tk_MOST_FOLK)))
  (v_MOST_STEP:Nf K Kp "MOST_STEP" = some (some (.int 9 tk_MOST_STEP)))
  (v_MOST_SUM:Nf K Kp "MOST_SUM" = some (some (.int 99 tk_MOST_SUM)))
  (v_MOST_DEPTH:Nf K Kp "MOST_DEPTH" = some (some (.int 4 tk_MOST_DEPTH)))
  (v_FEWEST_PARTS:Nf K Kp "FEWEST_PARTS" = some (some (.int 2 tk_FEWEST_PARTS)))
  (v_MOST_PARTS:Nf K Kp "MOST_PARTS" = some (some (.int 6 tk_MOST_PARTS)))
  (v_MOST_RUNGS:Nf K Kp "MOST_RUNGS" = some (some (.int 9 tk_MOST_RUNGS)))
  (v_MOST_PLEDGES:Nf K Kp "MOST_PLEDGES" = some (some (.int 40 tk_MOST_PLEDGES)))
  (z_len:Nf K Kp "len" = some none)
  (z_range:Nf K Kp "range" = some none)
  (z_all:Nf K Kp "all" = some none)
  (z_isinstance:Nf K Kp "isinstance" = some none)
  (z_int:Nf K Kp "int" = some none)
  (z_bool:Nf K Kp "bool" = some none)
  (z_str:Nf K Kp "str" = some none)
  (z_list:Nf K Kp "list" = some none)
  (z_tuple:Nf K Kp "tuple" = some none)
  (z_abs:Nf K Kp "abs" = some none)
  (z_max:Nf K Kp "max" = some none)
  (z_min:Nf K Kp "min" = some none)
  (z_sum:Nf K Kp "sum" = some none)
  (z_sorted:Nf K Kp "sorted" = some none)
  (z_zip:Nf K Kp "zip" = some none)
  (z_reversed:Nf K Kp "reversed" = some none)
  (z_divmod:Nf K Kp "divmod" = some none)
  (z_set:Nf K Kp "set" = some none)
  (z_any:Nf K Kp "any" = some none)
  (z_enumerate:Nf K Kp "enumerate" = some none)
  (z_ValueError:Nf K Kp "ValueError" = some none)
  : ∃ (fd:LK) (c:Addr),W.codeHdIn K c 487=true/\(∀ (s:J4) (v:Value),Rz s fd ⟨[v],[]⟩ [("_law_script",v)])/\∀ base:Lh,K.In base->base.Ns Kp mg->vQ mg c 487 base->bL l.prog w K mg base CX0 18 fa fd ["_law_script"] (Av K 487):=by
 have e:=hfa.symm.trans (qq30.name X G)
 cases e
 have B:Bt mg:=⟨Lq X G z_len,Lq X G z_range,Lq X G z_all,Lq X G z_isinstance,Lq X G z_int,Lq X G z_bool,Lq X G z_str,Lq X G z_list,Lq X G z_tuple,Lq X G z_abs,Lq X G z_max,Lq X G z_min,Lq X G z_sum,Lq X G z_sorted,Lq X G z_zip,Lq X G z_reversed,Lq X G z_divmod,Lq X G z_set,Lq X G z_any,Lq X G z_enumerate⟩
 have c_MOST_FOLK:=R5 X G v_MOST_FOLK
 have c_MOST_STEP:=R5 X G v_MOST_STEP
 have c_MOST_SUM:=R5 X G v_MOST_SUM
 have c_MOST_DEPTH:=R5 X G v_MOST_DEPTH
 have c_FEWEST_PARTS:=R5 X G v_FEWEST_PARTS
 have c_MOST_PARTS:=R5 X G v_MOST_PARTS
 have c_MOST_RUNGS:=R5 X G v_MOST_RUNGS
 have c_MOST_PLEDGES:=R5 X G v_MOST_PLEDGES
 obtain⟨_,Fq30,bq30⟩:=qq30.law (y:="_law_script") fun _ _ _ _ _ _ s v=>.of_eq rfl
 refine⟨_,cLaw,qq30.hd,bq30,fun base _ _ HP=>?_⟩
 have mw0:=qw0.name X G
 obtain⟨_,Fiw0⟩:=qw0.fn
 have biw0:=Fiw0.binds (ps:=["self","word"]) fun _ _ _ _ _ _ us hl=>by obtain⟨x0,x1,rfl⟩:=Ht hl; rfl
 have z_V:=Lq X G z_ValueError
 have Ow0:wu K Cw0 mc "__init__" fiw0:=⟨xga,xrd,xfd,qw0.kp,rfl⟩
 have FB:=Ck (P:=l.prog) (w:=w) (mg:=mg) (base:=base) Fiw0 z_V
 have mw1:=qw1.name X G
 obtain⟨_,Fiw1⟩:=qw1.fn
 have biw1:=Fiw1.binds (ps:=["self"]) fun _ _ _ _ _ _ us hl=>by obtain⟨x0,rfl⟩:=CW hl; rfl
 have Rw1:=qw1.xrd qw0 mrw1
 have Xw1:Xc l.prog w K mg base "BadPledge" Cw1 "bad pledge":=⟨⟨_,_,zE Fiw1 mw0 Ow0 FB biw0,mw1,qw1.Io,biw1⟩⟩
 have mw2:=qw2.name X G
 obtain⟨_,Fiw2⟩:=qw2.fn
 have biw2:=Fiw2.binds (ps:=["self"]) fun _ _ _ _ _ _ us hl=>by obtain⟨x0,rfl⟩:=CW hl; rfl
 have Rw2:=qw2.xrd qw0 mrw2
 have Xw2:Xc l.prog w K mg base "NoFolk" Cw2 "no folk":=⟨⟨_,_,yu Fiw2 mw0 Ow0 FB biw0,mw2,qw2.Io,biw2⟩⟩
 have mw3:=qw3.name X G
 obtain⟨_,Fiw3⟩:=qw3.fn
 have biw3:=Fiw3.binds (ps:=["self"]) fun _ _ _ _ _ _ us hl=>by obtain⟨x0,rfl⟩:=CW hl; rfl
 have Rw3:=qw3.xrd qw0 mrw3
 have Xw3:Xc l.prog w K mg base "Gone" Cw3 "gone":=⟨⟨_,_,yW Fiw3 mw0 Ow0 FB biw0,mw3,qw3.Io,biw3⟩⟩
 have mw6:=qw6.name X G
 obtain⟨_,Fiw6⟩:=qw6.fn
 have biw6:=Fiw6.binds (ps:=["self"]) fun _ _ _ _ _ _ us hl=>by obtain⟨x0,rfl⟩:=CW hl; rfl
 have Rw6:=qw6.xrd qw0 mrw6
 have Xw6:Xc l.prog w K mg base "Full" Cw6 "full":=⟨⟨_,_,wY Fiw6 mw0 Ow0 FB biw0,mw6,qw6.Io,biw6⟩⟩
 have dd:=fun {x:KH} {st:Stmt} {f:Addr} {ps:List KH} {sp:Sp} {k:Nat} (q:HasDef K x st f)=>q.df (P:=l.prog) (w:=w) (mg:=mg) (base:=base) (ps:=ps) (sp:=sp) (k:=k) X G
 have dx:=fun {x:KH} {st:Stmt} {f:Addr} {ps:List KH} {sp:Sp} {k:Nat} (q:HasDef K x st f)=>q.dx (P:=l.prog) (w:=w) (mg:=mg) (base:=base) (ps:=ps) (sp:=sp) (k:=k) X G
 have dmx:=fun {x m q:KH} {C:Addr} {st:Stmt} {f:Addr} {ps:List KH} {sp:Sp} {k:Nat} (o:bQ K C m q st f) (c:fC K x C)=>o.dmx (P:=l.prog) (w:=w) (mg:=mg) (base:=base) (ps:=ps) (sp:=sp) (k:=k) c
 have dm:=fun {x m q:KH} {C:Addr} {st:Stmt} {f:Addr} {ps:List KH} {sp:Sp} {k:Nat} (o:bQ K C m q st f) (c:fC K x C)=>o.dm (P:=l.prog) (w:=w) (mg:=mg) (base:=base) (ps:=ps) (sp:=sp) (k:=k) c
 have S:qZ K Cw8:=⟨qw8.cl,n_Stand_green,n_Stand_gone,n_Stand_standing,n_Stand_coming⟩
 have T:vK K Cw9:=⟨qw9.cl,n_Boon_now,n_Boon_behind,n_Boon_ahead⟩
 have ne:=ne_Boonw8
 have Dq24:=dd qq24 (cM (by intros; rfl)) fun _ F=>rN F B
 have Dq25:=dd qq25 (cM (by intros; rfl)) fun _ F=>qW F B
 have Dq28:=dd qq28 (cM (by intros; rfl)) fun _ F=>qm F B Dq25
 have S0:Df l.prog w K mg base "_law_same" 0 ["_law_found","_law_due"] (gF 0):=dd qq27 (cM (by intros; rfl)) fun _ _=>same_none
 have S1:=dd qq27 (cM (by intros; rfl)) fun _ F=>di F B S0
 have S2:=dd qq27 (cM (by intros; rfl)) fun _ F=>di F B S1
 have S3:=dd qq27 (cM (by intros; rfl)) fun _ F=>di F B S2
 have S4:=dd qq27 (cM (by intros; rfl)) fun _ F=>di F B S3
 have S5:=dd qq27 (cM (by intros; rfl)) fun _ F=>di F B S4
 have H0:Df l.prog w K mg base "holds" 0 ["term","giving"] (gO K 0):=dd qq8 (cM (by intros; rfl)) fun _ _=>wL
 have A1:=dd qq6 (cM (by intros; rfl)) fun _ F=>eV F B H0
 have Y1:=dd qq7 (cM (by intros; rfl)) fun _ F=>dJ F B H0
 have H1:=dd qq8 (cM (by intros; rfl)) fun _ F=>j9 F B A1 Y1
 have A2:=dd qq6 (cM (by intros; rfl)) fun _ F=>eV F B H1
 have Y2:=dd qq7 (cM (by intros; rfl)) fun _ F=>dJ F B H1
 have H2:=dd qq8 (cM (by intros; rfl)) fun _ F=>j9 F B A2 Y2
 have A3:=dd qq6 (cM (by intros; rfl)) fun _ F=>eV F B H2
 have Y3:=dd qq7 (cM (by intros; rfl)) fun _ F=>dJ F B H2
 have H3:=dd qq8 (cM (by intros; rfl)) fun _ F=>j9 F B A3 Y3
 have A4:=dd qq6 (cM (by intros; rfl)) fun _ F=>eV F B H3
 have Y4:=dd qq7 (cM (by intros; rfl)) fun _ F=>dJ F B H3
 have H4:=dd qq8 (cM (by intros; rfl)) fun _ F=>j9 F B A4 Y4
 have Dq13:=dd qq13 (cM (by intros; rfl)) fun _ F=>Er F B H4
 have Dq1:=dd qq1 (ir (by intros; rfl)) fun _ F=>pG F B
 have Dq2:=dd qq2 (ir (by intros; rfl)) fun _ F=>sV F B Dq1
 have W0:Df l.prog w K mg base "is_term_within" 1 ["many","thing","deep"] (gr 0):=dd qq4 (ir (by intros; rfl)) fun _ _=>rR
 have P0:=dd qq3 (ir (by intros; rfl)) fun _ F=>dB F B c_FEWEST_PARTS c_MOST_PARTS (by decide) Dq1 W0
 have W1:=dd qq4 (ir (by intros; rfl)) fun _ F=>cu F B c_MOST_STEP c_MOST_SUM c_MOST_FOLK (by decide) Dq1 Dq2 P0
 have P1:=dd qq3 (ir (by intros; rfl)) fun _ F=>dB F B c_FEWEST_PARTS c_MOST_PARTS (by decide) Dq1 W1
 have W2:=dd qq4 (ir (by intros; rfl)) fun _ F=>cu F B c_MOST_STEP c_MOST_SUM c_MOST_FOLK (by decide) Dq1 Dq2 P1
 have P2:=dd qq3 (ir (by intros; rfl)) fun _ F=>dB F B c_FEWEST_PARTS c_MOST_PARTS (by decide) Dq1 W2
 have W3:=dd qq4 (ir (by intros; rfl)) fun _ F=>cu F B c_MOST_STEP c_MOST_SUM c_MOST_FOLK (by decide) Dq1 Dq2 P2
 have P3:=dd qq3 (ir (by intros; rfl)) fun _ F=>dB F B c_FEWEST_PARTS c_MOST_PARTS (by decide) Dq1 W3
 have W4:=dd qq4 (ir (by intros; rfl)) fun _ F=>cu F B c_MOST_STEP c_MOST_SUM c_MOST_FOLK (by decide) Dq1 Dq2 P3
 have Dq5:=dd qq5 (cM (by intros; rfl)) fun _ F=>wF F B c_MOST_DEPTH W4
 have M0:Df l.prog w K mg base "mentions" 0 ["term"] (mz 0):=dd qq9 (bind1 (by intros; rfl)) fun _ _=>zO
 have M1:=dd qq9 (bind1 (by intros; rfl)) fun _ F=>eZ F B M0
 have M2:=dd qq9 (bind1 (by intros; rfl)) fun _ F=>eZ F B M1
 have M3:=dd qq9 (bind1 (by intros; rfl)) fun _ F=>eZ F B M2
 have M4:=dd qq9 (bind1 (by intros; rfl)) fun _ F=>eZ F B M3
 have Dq10:=dd qq10 (bind1 (by intros; rfl)) fun _ F=>Ay F B M4
 have Dq11:=dd qq11 (IK (by intros; rfl)) fun _ F=>vL F B c_MOST_STEP (by decide) Dq1 Dq5 Dq10
 have Dq12:=dd qq12 (ir (by intros; rfl)) fun _ F=>rA F B c_MOST_RUNGS (by decide) Dq1 Dq11
 have Dw8:=q_Stand_init.dk (P:=l.prog) (w:=w) (base:=base) (ps:=["self","green","gone","standing","coming"]) qw8 X G (fun _ F=>F.binds fun _ _ _ _ _ _ us hl=>by obtain⟨x0,x1,x2,x3,x4,rfl⟩:=JR hl; rfl) fun _ F=>oW F S
 have Dw9:=q_Boon_init.dk (P:=l.prog) (w:=w) (base:=base) (ps:=["self"]) qw9 X G (fun _ F=>F.binds fun _ _ _ _ _ _ us hl=>by obtain⟨x0,rfl⟩:=CW hl; rfl) fun _ F=>rn F T Dw8
 have D_Boon_go_on:=dm (ps:=["self","stand"]) q_Boon_go_on qw9 (fun _ F=>F.binds fun _ _ _ _ _ _ us hl=>by obtain⟨x0,x1,rfl⟩:=Ht hl; rfl) fun _ F=>o9 F T
 have D_Boon_come:=dm (ps:=["self"]) q_Boon_come qw9 (fun _ F=>F.binds fun _ _ _ _ _ _ us hl=>by obtain⟨x0,rfl⟩:=CW hl; rfl) fun _ F=>rm ne F B S T c_MOST_FOLK Dw8 D_Boon_go_on
 have M_Boon_come:=dmx (ps:=["self"]) q_Boon_come qw9 (fun _ F=>F.binds fun _ _ _ _ _ _ us hl=>by obtain⟨x0,rfl⟩:=CW hl; rfl) fun _ F=>mQ F B S T c_MOST_FOLK Dw8 D_Boon_go_on Xw6
 have Dq14:=dd qq14 (cM (by intros; rfl)) fun _ F=>mR F B S Dq1
 have E_check_there:=dx qq14 (cM (by intros; rfl)) fun _ F=>jW F B S Dq1 Xw2 Xw3
 have E_check_pledge:=dx qq17 (ir (by intros; rfl)) fun _ F=>jy (by decide) F B S Dq12 Xw1
 have M_Boon_pledge:=dmx (ps:=["self","one","pledge"]) q_Boon_pledge qw9 (fun _ F=>F.binds fun _ _ _ _ _ _ us hl=>by obtain⟨x0,x1,x2,rfl⟩:=Jp hl; rfl) fun _ F=>jR (by decide) ne F B S T c_MOST_PLEDGES E_check_there E_check_pledge Dw8 D_Boon_go_on Xw6
 have Dq15:=dd qq15 (ir (by intros; rfl)) fun _ F=>vD F B Dq13
 have Dq16:=dd qq16 (cM (by intros; rfl)) fun _ F=>o4 F B S Dq1
 have Dq18:=dd qq18 (ir (by intros; rfl)) fun _ F=>lq (by decide) F B S Dq15 Dw8
 have D_Boon_withdraw:=dm (ps:=["self","number"]) q_Boon_withdraw qw9 (fun _ F=>F.binds fun _ _ _ _ _ _ us hl=>by obtain⟨x0,x1,rfl⟩:=Ht hl; rfl) fun _ F=>jU (by decide) ne F B S T Dq16 Dq18 D_Boon_go_on
 have D_Boon_leave:=dm (ps:=["self","one"]) q_Boon_leave qw9 (fun _ F=>F.binds fun _ _ _ _ _ _ us hl=>by obtain⟨x0,x1,rfl⟩:=Ht hl; rfl) fun _ F=>nO ne F B S T Dq14 Dw8 D_Boon_go_on
 have Dq19:=dd qq19 (bind1 (by intros; rfl)) fun _ F=>FZ F B S T
 have Dq21:=dd qq21 (bind1 (by intros; rfl)) fun _ F=>Ax F B S T
 have Dq20:=dd qq20 (bind1 (by intros; rfl)) fun _ F=>oE F B S T Dq19
 have Dq22:=dd qq22 (bind1 (by intros; rfl)) fun _ F=>sG F B S T
 have Dq23:=dd qq23 (bind1 (by intros; rfl)) fun _ F=>zc F B S T
 have Dq29:=dd qq29 (bind1 (by intros; rfl)) fun _ F=>nU ne F B Dw9 D_Boon_come M_Boon_pledge
 obtain⟨_,Fq26⟩:=qq26.fn
 have mq26:=qq26.name X G
 exact Gm Fq30 B HP mw0 Rw6 Rw3 Rw1 Fq26 mq26 Dq24 Dq25 Dq28 Dq29 M_Boon_come M_Boon_pledge D_Boon_withdraw D_Boon_leave Dq22 Dq20 Dq23 Dq21 Dq19 S5
theorem walk {l:W.OpenLaw} {q:Kq} {loose:List KH} {XP:(KH->Option Value)->Lh->Prop} {YP:K1->Lh->Prop} {d:DefRec} {K:Params->Ky} (hn:l.most=some 63) (hdf:d.params.defaults=[])
  (hY:∀ (w:K1) (h:Lh),YP w h->(K w.params).In h/\h.get? 487=some (W.tabObj #[])) (hno:∀ w:K1,W.noTabs (K w.params)=true)
  (F:∀ (w:K1) (mg:KH->Option Value) (fa:Addr) (h:Lh),(K w.params).In h->h.Ns Kp mg->mg d.name=some (.ref fa)->∃ (fd:LK) (c:Addr),W.codeHdIn (K w.params) c 487=true/\(∀ (s:J4) (u:Value),Rz s fd ⟨[u],[]⟩ [("_law_script",u)]) ∧
   ∀ base:Lh,(K w.params).In base->base.Ns Kp mg->vQ mg c 487 base->bL l.prog w (K w.params) mg base CX0 18 fa fd ["_law_script"] (Av (K w.params) 487)) :
  W.WalkO q loose XP YP l.row.toRowW d [] (fun f vs=>PySem.call f vs) :=
 L2.Bc (n:=63) (k:=18) (x:="_law_script") (q:=sU) (T:=487) (sp:=fun w=>Av (K w.params) 487) hn (by decide) hdf ⟨rfl,by decide,by decide⟩ hY hno F fun _ _ a ns hl hT hS=>⟨a,ns,rfl,hS,hl,hT,fun _=>rfl⟩
end My
end
open PySem PySem.W PyProof.Rows
namespace PySem.Challenge.cw_loveboon_k45_full_and_room_again_holds
theorem tw14986237247799675169:True:=trivial
theorem tw8832142019896261771:True:=trivial
theorem tw4313111520045211761:True:=trivial
theorem tw16206736955511575244:True:=trivial
theorem tw2718409318247307398:True:=trivial
theorem tw18231442689216704146:True:=trivial
theorem tw13054414733655497297:True:=trivial
theorem tw721020203911758155:True:=trivial
theorem tw13921663296610377579:True:=trivial
theorem tw16549977365990339120:True:=trivial
theorem tw13586778129939292112:True:=trivial
theorem tw8579804869976894720:True:=trivial
theorem tw17944560934877556178:True:=trivial
theorem tw17619047861762287304:True:=trivial
theorem tw17912326170151740980:True:=trivial
theorem tw8660192706565368139:True:=trivial
theorem tw5096816897200221441:True:=trivial
theorem tw15030799225291606794:True:=trivial
theorem tw16663753931824542704:True:=trivial
theorem tw17392535492820060928:True:=trivial
theorem tw6618797285034226438:True:=trivial
theorem tw1360147235977088931:True:=trivial
theorem tw9840199019713908871:True:=trivial
theorem tw5894186254374932907:True:=trivial
theorem tw12243654013815919285:True:=trivial
theorem tw5022022480694510829:True:=trivial
end PySem.Challenge.cw_loveboon_k45_full_and_room_again_holds
set_option maxRecDepth 100000 in
set_option maxHeartbeats 0 in
theorem PySem.Challenge.cw_loveboon_k45_full_and_room_again_holds : PySem.Challenge.rw_loveboon_k45_full_and_room_again.Holds := by
 w_on; o_law; k_head; (case hw=>w_witness2)
 k_fill
 refine My.walk (l:=PySem.Challenge.rw_loveboon_k45_full_and_room_again) rfl rfl (fun w h Y=>⟨W.km_in_of Y,W.km_tabs_of Y 487 (by simp)⟩) (fun w=>by kernel_rfl) ?F
 case F =>
  intro w mg fa h KX G hmg
  refine' My.all_mk KX G hmg ?qw0 ?xga ?xty ?xrd ?xfd ?qw1 ?mrw1 ?qw2 ?mrw2 ?qw3 ?mrw3 ?qw6 ?mrw6 ?qw8 ?n_Stand_green ?n_Stand_gone ?n_Stand_standing ?n_Stand_coming ?q_Stand_init ?qw9 ?n_Boon_now ?n_Boon_behind ?n_Boon_ahead ?q_Boon_init ?q_Boon_go_on ?q_Boon_come ?q_Boon_leave ?q_Boon_pledge ?q_Boon_withdraw ?ne_Boonw8 ?qq1 ?qq2 ?qq3 ?qq4 ?qq5 ?qq6 ?qq7 ?qq8 ?qq9 ?qq10 ?qq11 ?qq12 ?qq13 ?qq14 ?qq15 ?qq16 ?qq17 ?qq18 ?qq19 ?qq20 ?qq21 ?qq22 ?qq23 ?qq24 ?qq25 ?qq26 ?qq27 ?qq28 ?qq29 ?qq30 ?v_MOST_FOLK ?v_MOST_STEP ?v_MOST_SUM ?v_MOST_DEPTH ?v_FEWEST_PARTS ?v_MOST_PARTS ?v_MOST_RUNGS ?v_MOST_PLEDGES ?z_len ?z_range ?z_all ?z_isinstance ?z_int ?z_bool ?z_str ?z_list ?z_tuple ?z_abs ?z_max ?z_min ?z_sum ?z_sorted ?z_zip ?z_reversed ?z_divmod ?z_set ?z_any ?z_enumerate ?z_ValueError
  (case qw0=>apply L2.dz.mk <;> first | exact⟨rfl,rfl,rfl,rfl⟩ | k_is | rfl)
  (case xga|xty|xrd|xfd=>k_is)
  (case qw1=>apply L2.dz.mk <;> first | exact⟨rfl,rfl,rfl,rfl⟩ | k_is | rfl)
  (case mrw1=>rfl)
  (case qw2=>apply L2.dz.mk <;> first | exact⟨rfl,rfl,rfl,rfl⟩ | k_is | rfl)
  (case mrw2=>rfl)
  (case qw3=>apply L2.dz.mk <;> first | exact⟨rfl,rfl,rfl,rfl⟩ | k_is | rfl)
  (case mrw3=>rfl)
  (case qw6=>apply L2.dz.mk <;> first | exact⟨rfl,rfl,rfl,rfl⟩ | k_is | rfl)
  (case mrw6=>rfl)
  (case qw8=>apply L2.fC.mk <;> k_is)
  (case n_Stand_green|n_Stand_gone|n_Stand_standing|n_Stand_coming=>k_is)
  (case q_Stand_init=>apply L2.bQ.mk <;> k_is)
  (case qw9=>apply L2.fC.mk <;> k_is)
  (case n_Boon_now|n_Boon_behind|n_Boon_ahead=>k_is)
  (case q_Boon_init|q_Boon_go_on|q_Boon_come|q_Boon_leave|q_Boon_pledge|q_Boon_withdraw=>apply L2.bQ.mk <;> k_is)
  (case ne_Boonw8=>decide)
  (case qq1|qq2|qq3|qq4|qq5|qq6|qq7|qq8|qq9|qq10|qq11|qq12|qq13|qq14|qq15|qq16|qq17|qq18|qq19|qq20|qq21|qq22|qq23|qq24|qq25|qq26|qq27|qq28|qq29=>apply L2.HasDef.mk <;> k_is)
  (case qq30=>apply L2.eY.mk <;> first | k_is | kernel_rfl)
  (case v_MOST_FOLK|v_MOST_STEP|v_MOST_SUM|v_MOST_DEPTH|v_FEWEST_PARTS|v_MOST_PARTS|v_MOST_RUNGS|v_MOST_PLEDGES|z_len|z_range|z_all|z_isinstance|z_int|z_bool|z_str|z_list|z_tuple|z_abs|z_max|z_min|z_sum|z_sorted|z_zip|z_reversed|z_divmod|z_set|z_any|z_enumerate|z_ValueError=>k_is)
