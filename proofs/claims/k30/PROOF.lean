import PyProof.Rows.All
import Wide.All
import OpenK.AllK
import Wide.FinOn
import Lean
import PyProof.EqAt
import PyProof.EqKinds
import PyProof.TupleCall
import PyProof.NeKinds
import PySem.Challenge.RW_loveboon_k30_whole_knots_of_rings_and_cr
noncomputable section
open Array renaming length_toList→Nr,getElem?_toList→Pz,getD→Uj,getD_eq_getD_getElem?→Va
open Bool renaming false_ne_true→Mr,false_eq_true→O4,eq_iff_iff→Qc,and_eq_true→Qh,or_eq_true→QJ,or_false→S7,or_true→Tg,false_or→Uc
open Classical renaming byContradiction→Pu
open Decidable renaming byContradiction→Rf
open False renaming elim→Q0
open ForInStep renaming yield→Rp
open Int renaming le_refl→N6,emod_lt_of_pos→Ph,toNat_natCast→PN,emod_nonneg→Qa,zero_add→Ra,toNat→S8
open List renaming length_map→Mf,getD_eq_getElem?_getD→Mg,getElem?_eq_getElem→Mi,mem_cons_self→Ml,size_toArray→Mq,range→Ms,map_append→Mu,length_append→Mv,replicate→Mz,mem_cons_of_mem→MF,mem_of_getElem?→MJ,length_cons→MK,length_range→MN,take_length→M4,length_take→Nf,map_cons→Ni,getElem?_map→Nj,getElem_mem→Nk,take_add_one→Nt,mem_append_right→Nu,length_replicate→Nv,take_zero→Od,mem_cons→Og,lookup_cons→Oh,take_succ_cons→Ol,not_mem_nil→Om,length_filter_le→Oo,foldl_cons→Ot,filter_cons→Oz,replicate_succ→OD,getElem_of_mem→OJ,flatten_cons→O1,pairwise_cons→O3,filter_congr→O9,range_succ→Pg,getElem?_replicate→Pj,drop_eq_getElem_cons→Pr,getElem?_eq_none→Px,append_assoc→PL,map_map→Qe,filter_append→Qi,mem_append→Qj,forIn_cons→Qk,getElem_toArray→Qq,forIn_nil→Qy,mem_filter→QG,mem_range→QZ,zipWith→Q7,zipIdx_cons→Q8,getElem_inj→Q9,getElem?_range→Rg,zipIdx_nil→Rm,find?_cons→Rn,append_nil→Ro,length→Rx,take_of_length_le→RC,map_nil→RD,drop_of_length_le→RG,any_cons→RT,all_cons→RV,replicate_succ'→R1,mem_append_left→R3,eq_nil_of_length_eq_zero→R4,map_congr_left→R9,length_zipWith→Sd,sum→SN,getElem?_append_right→SQ,foldl→Tf,length_set→Tu,take_append_drop→Tv,length_filter_lt_length_iff_exists→Tw,getD_cons_succ→T5,flatten_append→T6,filterMap_cons→T7,sum_cons→Ua,mem_singleton→Uh,map_inj_right→Ui,toArray→Uq,pairwise_map→Ur,nodup_append→Us,eraseIdxIfInBounds_toArray→Uu,nodup_range→Uz,of_mem_zip→U0,nil_append→U3
open List.Perm renaming refl→TY
open List.cons renaming inj→Ub
open Nat renaming le_refl→Mt,lt_of_lt_of_le→M7,ne_of_lt→Nb,zero_le→NP,le_trans→Ob,lt_irrefl→O5,ne_of_gt→Pb,lt_or_ge→PJ,not_lt_zero→P0,lt_succ_of_lt→Qp,lt_of_le_of_lt→QD,le_succ→QX,lt_succ_self→RM,le_of_lt→Te,mod_lt→Ug
open Ne renaming symm→Rk
open Option renaming map_some→Tt
open Option.some renaming inj→M9
open Or renaming inl→MT,inr→Td
open PyProof.Rows renaming callWith_type1→Oe,IntsAre→Ow,seqObj→PX,SortKind→Rz,pairsOf→Sg,AllBare→Th,envOfC→Ue
open PySem renaming wpAny_bind→LR,Value→Mh,Shared→Mj,wpAny_pure→Mp,wpAny→Mw,model→M6,Program→M8,mainGlobals→Ng,wpAny_field→Nh,starEach→Nm,wpAny_seqItems→Nx,wpAny_loadPart'→Ny,wpAny_setField_rec→NK,World→NQ,Heap→N5,Around→N8,bootBuiltins→Oa,wpAny_callSpecial?_slot→Oj,Str→Ou,wpAny_call_entry→Ox,IsPair→O7,mem_of_lookup→O8,wpAny_onRaise→Pk,IsZip→Pq,wpAny_pyIter_tuple→PB,wpAny_letGo→PK,wpAny_mono→PQ,eval→Qd,Builtin→Qf,compareOp→Qg,wpAny_updateSeq_pair→Ql,wpAny_truthy_bool→Qm,wpAny_newObj_type→Qn,wpAny_attempt→Qt,Obj→Qv,pyNext→Qx,wpAny_Call_Name_kw→QB,call_meets→QC,wpAny_passesOwn→QF,FuncData→QH,behindInMarks→QK,wpAny_of_eq→QS,sizeLine_eq→QT,rawInt→QV,wpAny_pyIter_zip→Q5,wpAny_holding→Rh,wpAny_rule→Rr,sysModules→Rt,backTo→Ru,wpAny_pyIter_list→Ry,builtinLookup_eq_fast→RJ,wpAny_isInstance→RK,assignEach→RL,plainId_quiet→RP,codeAny→RQ,sliceBounds→RX,binaryOp→RZ,codeAny_builtin→R6,Pos→R8,wpAny_tryCatch→Ss,wpAny_setField→Su,typeIs_int→Sv,isSubtype_type→Sw,Scope→Sy,NameKind→SM,wpAny_letOwnedTupleGo_zip→SX,wpAny_binaryOp_repeat_ref→S5,field→S6,callType_new→S9,wpAny_updateSeq→Ti,wpAny_specialOf→Tj,wpAny_ite_false→Tn,wpAny_execs_nil→Tp,typeLookup_type→Tq,letOwnedTupleGo→Tr,wpAny_newTuple→Tz,isSubtype_stop→TF,firstArgMember→TJ,bindArgs→TQ,argsOk→TV,BindsTo→T4,tupleKind_room_in1→Ud,valueAt→Uk,foldedSetIterable→Ul,callerA→Um,wpAny_eqBool_int→Uv,tupleKind→Uw,seqItems?→Ux,seqIndex?→Uy,subscripted→UL,Meets→UT,getItem→U7
open PySem.Around renaming under_plainId→Q4
open PySem.Builtin.Builtins renaming bindParams→Sq
open PySem.Builtin.List renaming listTooLong→Rj
open PySem.Builtin.SmallTypes renaming ownedTupleIsFree→M3,nextOf→M5,ownedTupleHandOut→Oq,newClass→U9
open PySem.F renaming plainAttrs_list→Np,type_list_append→NT,slot_list_append→NZ,slot_zip_next→O6,plain_max_loop→Qz,args_zip_next_1→QR,slot_tuple_iterator_next→Q3,entry_zip_next→Rb,slot_int_rmul→Rq,args_int_rmul_2→Ut,entry_max_loop→UG,entry_int_rmul→UJ,fills_int_mul→U4,entry_zip_new→U5,args_tuple_iterator_next_1→U6,entry_tuple_iterator_next→U8
open PySem.Heap renaming get?_push_of_some→Ma,get?_push_size→Mm,lt_size→Mx,size_push→N7,get?_update_other→Ov,get?_update_self→Py,SameBut→Qs,get?_push_ne→QM,size_update→RN,get?_push_cases→R5,IsTuple→Sh
open PySem.Heap.SameBut renaming update→Qw
open PySem.NameKind renaming free→Pn,cell→T9
open PySem.Obj renaming mapSeq→O2
open PySem.Paired renaming length→T8
open PySem.PassesOwn renaming never→Nz
open PySem.SeqAt.EqAt renaming int_int→Sx
open PySem.Shared renaming heap→Rv
open PySem.Str renaming ofString→Qo
open PySem.Value renaming ref→NB,none→Oc,int→Q6
open PySem.W renaming Frag→MP,Frag→Nq,mg_none_of→Oi,kia_one→Pa,nsIn→QL,kitOne→Ri,fnOf→RB,keepIn→SJ,codeIn→TX,methodObj→Up,instObj→UW
open PySem.W.KasT renaming kasWp→Qu,kasWp_bind→R7
open Sum renaming inl→Tc,inr→Uo
open True renaming intro→QW
set_option Elab.async false
set_option linter.all false
set_option maxRecDepth 100000
namespace L2
open PySem PySem.Spec PyProof.Rows
abbrev Key:=Sum Int Ou
def vJ:Key->Mh->Bool
 | .inl k,v=>Value.isInt k v
 | .inr x,v=>Value.isStrOf x v
def K9 (w:NQ):Key->Int
 | .inl k=>hashInt k
 | .inr x=>hashStr w x
theorem bK:∀ {k:Key} {v:Mh},vJ k v=true->(∃ i t,k=Tc i/\v=Q6 i t)∨(∃ x t,k=Uo x/\v=Value.str x t)
 | .inl i,v,h=>by
  obtain⟨t,e⟩:=Value.isInt_shape (k:=i) (v:=v) h
  exact .inl ⟨i,t,rfl,e⟩
 | .inr x,v,h=>by
  obtain⟨t,e⟩:=Value.isStrOf_shape (x:=x) (v:=v) h
  exact .inr ⟨x,t,rfl,e⟩
theorem yW (i:Int) (t:Tok):vJ (.inl i) (.int i t)=true:=by simp [vJ,Value.isInt]
theorem wY (x:Ou) (t:Tok):vJ (.inr x) (.str x t)=true:=by simp [vJ,Value.isStrOf]
theorem Js (a b:Int):decide ((Tc a:Key)=Tc b)=(a == b):=by
 by_cases e:a=b
 ·subst e; simp
 ·have h:¬ (Tc a:Key)=Tc b:=fun q=>e (Sum.inl.inj q)
  rw[decide_eq_false h]
  exact (beq_eq_false_iff_ne.mpr e).symm
theorem Iv (a b:Ou):decide ((Uo a:Key)=Uo b)=decide (a=b):=by
 by_cases e:a=b
 ·subst e; simp
 ·have h:¬ (Uo a:Key)=Uo b:=fun q=>e (Sum.inr.inj q)
  rw[decide_eq_false h,decide_eq_false e]
theorem Ih (a:Int) (b:Ou):decide ((Tc a:Key)=Uo b)=false:=decide_eq_false (fun q=>nomatch q)
theorem HJ (a:Ou) (b:Int):decide ((Uo a:Key)=Tc b)=false:=decide_eq_false (fun q=>nomatch q)
def dq (prog:M8) (w:NQ):PySem.KeyKind prog w Key where
 is:=vJ
 hash:=K9 w
 inj:=fun v a b ha hb=>by
  rcases bK ha with⟨i,t,rfl,rfl⟩ | ⟨x,t,rfl,rfl⟩
  ·rcases bK hb with⟨j,u,rfl,e⟩ | ⟨y,u,rfl,e⟩
   ·injection e with e1 _; rw[e1]
   ·exact nomatch e
  ·rcases bK hb with⟨j,u,rfl,e⟩ | ⟨y,u,rfl,e⟩
   ·exact nomatch e
   ·injection e with e1 _; rw[e1]
 byValue:=fun k v h=>by
  rcases bK h with⟨i,t,rfl,rfl⟩ | ⟨x,t,rfl,rfl⟩ <;> rfl
 pyHash:=fun hv h=>by
  rcases bK hv with⟨i,t,rfl,rfl⟩ | ⟨x,t,rfl,rfl⟩
  ·exact wpAny_pyHash_int h
  ·exact wpAny_pyHash_str h
 eqBool:=fun hu hv h=>by
  rcases bK hu with⟨i,t,rfl,rfl⟩ | ⟨x,t,rfl,rfl⟩
  ·rcases bK hv with⟨j,u,rfl,rfl⟩ | ⟨y,u,rfl,rfl⟩
   ·rw[Js] at h; exact Uv h
   ·rw[Ih] at h; exact SeqAt.EqAt.int_str i t y u _ _ _ _ h
  ·rcases bK hv with⟨j,u,rfl,rfl⟩ | ⟨y,u,rfl,rfl⟩
   ·rw[HJ] at h; exact SeqAt.EqAt.str_int x t j u _ _ _ _ h
   ·rw[Iv] at h; exact wpAny_eqBool_str h
 «strs»:=fun k x t v h=>by
  rcases bK h with⟨i,u,rfl,e⟩ | ⟨y,u,rfl,e⟩
  ·exact nomatch e
  ·injection e with e1 _
   subst e1
   cases v <;> rfl
theorem rD (prog:M8) (w:NQ) (i:Int) (t:Tok):(dq prog w).is (.inl i) (.int i t)=true:=yW i t
theorem qP (prog:M8) (w:NQ) (x:Ou) (t:Tok):(dq prog w).is (.inr x) (.str x t)=true:=wY x t
end L2
namespace L2
open PySem PySem.Spec PyProof.Rows
inductive V where
 | non | bl (b:Bool) | int (i:Int) | str (x:Ou) | byt (b:Array UInt8) | flt (b:UInt64) | ref (a:Addr) | ty (n:String)
 deriving DecidableEq
def RelV:V->Mh->Prop
 | .non,u=>u=Oc
 | .bl b,u=>u=Value.bool b
 | .int i,u=>∃ t,u=Q6 i t
 | .str x,u=>∃ t,u=Value.str x t
 | .byt b,u=>∃ t,u=Value.bytes b t
 | .flt b,u=>∃ t,u=Value.float b t
 | .ref a,u=>u=NB a
 | .ty n,u=>u=Value.type n
abbrev Vals:List V->List Mh->Prop:=Paired RelV
theorem Vals.length {xs:List V} {us:List Mh} (r:Vals xs us):xs.length=us.length:=T8 r
theorem Vals.get:∀ {xs:List V} {us:List Mh} {i:Nat} {x:V},Vals xs us->xs[i]? = some x->∃ u,us[i]? = some u/\RelV x u
 | _,_,_,_,.nil,e=>by simp at e
 | _,_,0,_,.cons r _,e=>by simp at e; subst e; exact⟨_,rfl,r⟩
 | _,_,i+1,x,.cons _ t,e=>by
  obtain⟨u,h1,h2⟩:=Vals.get (i:=i) (x:=x) t (by simpa using e)
  exact⟨u,by simpa using h1,h2⟩
theorem Vals.set {x:V} {u:Mh} (r:RelV x u):∀ {xs:List V} {us:List Mh} (i:Nat),Vals xs us->Vals (xs.set i x) (us.set i u)
 | _,_,_,.nil=>.nil
 | _,_,0,.cons _ t=>.cons r t
 | _,_,i+1,.cons q t=>.cons q (Vals.set r i t)
theorem Vals.append:∀ {xs ys:List V} {us ws:List Mh},Vals xs us->Vals ys ws->Vals (xs++ys) (us++ws)
 | _,_,_,_,.nil,s=>s
 | _,_,_,_,.cons r t,s=>.cons r (Vals.append t s)
theorem Vals.take:∀ {xs:List V} {us:List Mh} (n:Nat),Vals xs us->Vals (xs.take n) (us.take n)
 | _,_,0,_=>.nil
 | _,_,_+1,.nil=>.nil
 | _,_,n+1,.cons r t=>.cons r (Vals.take n t)
theorem Vals.drop:∀ {xs:List V} {us:List Mh} (n:Nat),Vals xs us->Vals (xs.drop n) (us.drop n)
 | _,_,0,r=>r
 | _,_,_+1,.nil=>.nil
 | _,_,n+1,.cons _ t=>Vals.drop n t
def yg:Option V->Option Mh->Prop
 | some v,some u=>RelV v u
 | none,none=>True
 | _,_=>False
def KV {κ:Type}:List (κ × V)->List (κ × Mh)->Prop:=Paired fun (p:κ × V) (q:κ × Mh)=>p.1=q.1/\RelV p.2 q.2
def kV:Key->V
 | .inl i=>.int i
 | .inr x=>.str x
inductive HO where
 /-- a list -/
 | lst (xs:List V)
 /-- a tuple (never changes) -/
 | tup (xs:List V)
 /-- a dict whose keys are ints and texts; one whose keys are tuples of ints and texts (the empty one is both) -/
 | dK (kvs:List (Key × V)) | dT (kvs:List (List Key × V))
 /-- a set of ints: its members,its size -/
 | set (S:Int->Bool) (n:Nat)
 /-- an instance of the class at C,its dict at dx,its attributes -/
 | ins (C dx:Addr) (fs:List (Ou × V))
 /-- the dict of the instance at x -/
 | own (x:Addr)
 /-- the dict of an exception -/
 | xd (fs:List (Ou × V))
 /-- a bound method,f of x -/
 | met (f x:Addr)
 /-- a range object lo,lo+1,.. below hi -/
 | rng (lo hi:Int)
 /-- a thing that is known to the object (the script; a dict while a loop walks it): read,never written while it is so -/
 | frz (o:Qv) (u:HO)
 /-- a code object's table -/
 | tbl (ps:Array Mh)
 /-- any other thing,by what is true of its one object (a def of one's own: SetO a S n:=HO.ext fun h=>..) -/
 | ext (φ:N5->Prop)
abbrev Hp:=Addr->Option HO
def upd (H:Hp) (a:Addr) (o:HO):Hp:=fun b=>if b=a then some o else H b
theorem aj {H:Hp} {a:Addr} {o:HO}:upd H a o a=some o:=by unfold upd; rw[if_pos rfl]
theorem aL {H:Hp} {a b:Addr} {o:HO} (h:b≠a):upd H a o b=H b:=by unfold upd; rw[if_neg h]
theorem JF {H:Hp} {a b:Addr} {o u:HO} (h:H a=some o) (h':H b=some u) (d:o≠u):a≠b:=by
 intro e; subst e; rw[h] at h'; exact d (M9 h')
theorem dj {H:Hp} {a b:Addr} {o:HO} (h:H a=some o) (h':H b=none):a≠b:=by
 intro e; subst e; rw[h] at h'; cases h'
section
variable (P:M8) (w:NQ)
def dh (H:Hp) (h:N5) (a:Addr):HO->Prop
 | .lst xs=>xs.length<=sizeLine/\∃ (its:List Mh) (n:Nat),Vals xs its/\h.get? a=some { cls:=.type "list",data:=.seq its.toArray n }
 | .tup xs=>xs.length<=sizeLine/\∃ its:List Mh,Vals xs its/\IsTup h a its.toArray
 | .dK kvs=>kvs.length<=sizeLine/\(a == Rt)=false/\∃ vs,KV kvs vs/\h.DictOf (dq P w) a vs
 | .dT kvs=>kvs.length<=sizeLine/\(a == Rt)=false/\∃ xs:List (List Key × Addr × Mh),
   Paired (fun (p:List Key × V) (q:List Key × Addr × Mh)=>p.1=q.1/\H q.2.1=some (.tup (p.1.map kV))/\RelV p.2 q.2.2) kvs xs ∧
   ∃ o es ep,h.get? a=some o/\o.ExactDict/\o.data = .dict es ep/\es.toList=xs.map (entryOfKey (Uw (dq P w)))/\(xs.map (·.1)).Nodup
 | .set S n=>h.SetOf (intKind P w) a S n
 | .ins C dx fs=>H dx=some (.own a)/\fs.length<=1000/\dx≠a/\h.get? a=some (UW C dx) ∧
   ∃ mA,h.Ns1 dx mA/\(∀ f,yg (fs.lookup f) (mA f))/\PySem.Within mA (fs.map (·.1))
 | .own _=>∃ o,h.get? a=some o
 | .xd fs=>∃ mA,h.Ns1 a mA/\∀ f,yg (fs.lookup f) (mA f)
 | .rng lo hi=>∃ t u v,h.get? a=some { cls:=.type "range",data:=.fields #[.int lo t,.int hi u,.int 1 v] }
 | .frz o u=>h.get? a=some o/\dh H h a u
 | .tbl ps=>h.get? a=some { cls:=.none,data:=.fields ps }
 | .met f x=>h.get? a=some (Up (.ref f) (.ref x))
 | .ext φ=>φ h/\(∃ o,h.get? a=some o)/\∀ h1 h2:N5,φ h1->(∀ o,h1.get? a=some o->h2.get? a=some o)->φ h2
def HOk (H:Hp) (h:N5):Prop:=∀ a o,H a=some o->dh P w H h a o
end
section
variable {P:M8} {w:NQ} {H H':Hp} {h h':N5} {a:Addr} {o:HO}
theorem dh.lt (x:dh P w H h a o):a < h.objs.size:=by
 cases o with
 | lst xs=>obtain⟨_,_,_,_,e⟩:=x; exact Mx e
 | tup xs=>obtain⟨_,_,_,p⟩:=x; exact p.lt
 | dK kvs=>obtain⟨_,_,_,_,o,_,_,e,_⟩:=x; exact Mx e
 | dT kvs=>obtain⟨_,_,_,_,o,_,_,e,_⟩:=x; exact Mx e
 | set S n=>obtain⟨o,_,_,_,e,_⟩:=x; exact Mx e
 | ins C dx fs=>obtain⟨_,_,_,e,_⟩:=x; exact Mx e
 | own y=>obtain⟨_,e⟩:=x; exact Mx e
 | xd fs=>obtain⟨_,⟨_,_,_,e,_⟩,_⟩:=x; exact Mx e
 | rng lo hi=>obtain⟨_,_,_,e⟩:=x; exact Mx e
 | frz ob u=>obtain⟨e,_⟩:=x; exact Mx e
 | tbl ps=>exact Mx (show h.get? a=some _ from x)
 | met f y=>exact Mx (show h.get? a=some _ from x)
 | ext φ=>obtain⟨_,⟨_,e⟩,_⟩:=x; exact Mx e
theorem Paired.Kq {α β:Type} {F G:α->β->Prop}:∀ {l₁:List α} {l₂:List β},Paired F l₁ l₂->(∀ a b,F a b->G a b)->Paired G l₁ l₂
 | _,_,.nil,_=>.nil
 | _,_,.cons r t,f=>.cons (f _ _ r) (Paired.Kq t f)
theorem dh.stay (x:dh P w H h a o) (k:∀ b u,(b=a∨H b=some (.own a))->h.get? b=some u->h'.get? b=some u)
  (ho:∀ b,H b=some (.own a)->H' b=some (.own a)) (ht:∀ b xs,H b=some (.tup xs)->H' b=some (.tup xs)):dh P w H' h' a o:=by
 induction o with
 | lst xs=>obtain⟨z,its,n,r,e⟩:=x; exact⟨z,its,n,r,k _ _ (.inl rfl) e⟩
 | tup xs=>obtain⟨z,its,r,ob,e,c⟩:=x; exact⟨z,its,r,ob,k _ _ (.inl rfl) e,c⟩
 | dK kvs=>obtain⟨z,y,vs,r,ob,es,ep,e,c⟩:=x; exact⟨z,y,vs,r,ob,es,ep,k _ _ (.inl rfl) e,c⟩
 | dT kvs =>
  obtain⟨z,y,xs,r,ob,es,ep,e,c⟩:=x
  exact⟨z,y,xs,Paired.Kq r fun p q z=>⟨z.1,ht _ _ z.2.1,z.2.2⟩,ob,es,ep,k _ _ (.inl rfl) e,c⟩
 | set S n=>obtain⟨ob,es,ep,t,e,c⟩:=x; exact⟨ob,es,ep,t,k _ _ (.inl rfl) e,c⟩
 | ins C dx fs =>
  obtain⟨d,z,ne,e,mA,⟨od,es,ep,e2,c⟩,r⟩:=x
  exact⟨ho _ d,z,ne,k _ _ (.inl rfl) e,mA,⟨od,es,ep,k _ _ (.inr d) e2,c⟩,r⟩
 | own y=>obtain⟨ob,e⟩:=x; exact⟨ob,k _ _ (.inl rfl) e⟩
 | xd fs=>obtain⟨mA,⟨od,es,ep,e,c⟩,r⟩:=x; exact⟨mA,⟨od,es,ep,k _ _ (.inl rfl) e,c⟩,r⟩
 | rng lo hi=>obtain⟨t,u,v,e⟩:=x; exact⟨t,u,v,k _ _ (.inl rfl) e⟩
 | frz ob u ih=>obtain⟨e,q⟩:=x; exact⟨k _ _ (.inl rfl) e,ih q⟩
 | tbl ps =>
  have e:h.get? a=some { cls:=.none,data:=.fields ps }:=x
  show h'.get? a=some { cls:=.none,data:=.fields ps }
  exact k a _ (.inl rfl) e
 | met f y =>
  have e:h.get? a=some (Up (.ref f) (.ref y)):=x
  show h'.get? a=some (Up (.ref f) (.ref y))
  exact k a _ (.inl rfl) e
 | ext φ=>obtain⟨p,⟨o,e⟩,st⟩:=x; exact⟨st _ _ p fun o q=>k _ _ (.inl rfl) q,⟨o,k _ _ (.inl rfl) e⟩,st⟩
theorem HOk.lt (x:HOk P w H h) (e:H a=some o):a < h.objs.size:=(x a o e).lt
theorem HOk.fresh (x:HOk P w H h) (e:h.objs.size<=a):H a=none:=by
 cases q:H a with
 | none=>rfl
 | some u=>exact absurd (M7 (x.lt q) e) (O5 _)
theorem HOk.kept (x:HOk P w H h) (k:∀ b u,h.get? b=some u->h'.get? b=some u):HOk P w H h':=fun a o e =>
 (x a o e).stay (fun b u _ q=>k b u q) (fun _ q=>q) fun _ _ q=>q
theorem HOk.laid (x:HOk P w H h) (k:∀ b u,h.get? b=some u->h'.get? b=some u) (hp:h.objs.size<=a) (new:dh P w (upd H a o) h' a o):HOk P w (upd H a o) h':=fun b u e=>by
 have hn:=x.fresh hp
 by_cases hb:b=a
 ·subst hb; rw[aj] at e; cases e; exact new
 ·rw[aL hb] at e
  exact (x b u e).stay (fun c v _ q=>k c v q) (fun c q=>by rw[aL (dj q hn)]; exact q) fun c xs q=>by rw[aL (dj q hn)]; exact q
end
def Rd (H:Hp) (a:Addr) (u:HO):Prop:=H a=some u∨∃ o,H a=some (.frz o u)
theorem Rd.ok {P:M8} {w:NQ} {H:Hp} {h:N5} {a:Addr} {u:HO} (r:Rd H a u) (x:HOk P w H h):dh P w H h a u:=by
 rcases r with r | ⟨o,r⟩
 ·exact x a u r
 ·obtain⟨_,q⟩:=x a _ r
  exact q
def Mut:Option HO->Prop
 | some (.lst _)=>True
 | some (.dK _)=>True
 | some (.dT _)=>True
 | some (.set _ _)=>True
 | some (.ins _ _ _)=>True
 | some (.ext _)=>True
 | _=>False
section
variable {P:M8} {w:NQ} {H:Hp} {h h':N5} {x e:Addr} {o':HO}
theorem HOk.write (ok:HOk P w H h) (mu:Mut (H x)) (he:e=x∨H e=some (.own x)) (k:∀ b u,b≠e->h.get? b=some u->h'.get? b=some u) (heo:∃ u,h'.get? e=some u)
  (new:dh P w (upd H x o') h' x o'):HOk P w (upd H x o') h':=fun b u q=>by
 have nown:∀ c y,H c=some (.own y)->c≠x:=fun c y r z=>by subst z; rw[r] at mu; exact mu
 have ntup:∀ c xs,H c=some (.tup xs)->c≠x:=fun c xs r z=>by subst z; rw[r] at mu; exact mu
 by_cases hb:b=x
 ·subst hb; rw[aj] at q; cases q; exact new
 ·rw[aL hb] at q
  by_cases hbe:b=e
  ·have q':H b=some (.own x):=by
    rcases he with z | z
    ·exact absurd (hbe.trans z) hb
    ·rw[hbe]; exact z
   rw[q] at q'; cases q'
   obtain⟨v,hv⟩:=heo
   exact⟨v,by rw[hbe]; exact hv⟩
  ·refine (ok b u q).stay (fun c v hc r=>k c v ?_ r) (fun c r=>by rw[aL (nown c b r)]; exact r) fun c xs r=>by rw[aL (ntup c xs r)]; exact r
   rcases hc with rfl | hc
   ·exact hbe
   ·rintro rfl
    rcases he with z | z
    ·exact nown c b hc z
    ·rw[hc] at z; cases z; exact hb rfl
end
structure Un (fs ex:List Addr) (H H':Hp) (h h':N5):Prop where
 keep:∀ b o,h.get? b=some o->H b=none->b ∉ fs->b ∉ ex->h'.get? b=some o
 slot:∀ b o,h.get? b=some o->H b=none->b∈fs->b ∉ ex->∃ sl,h'.get? b=some { o with slots:=sl }
 free:∀ b o,h.get? b=some o->H b=none->b ∉ ex->H' b=none
 there:∀ b o,h.get? b=some o->b ∉ ex->∃ o',h'.get? b=some o'
 tups:∀ b xs,H b=some (.tup xs)->H' b=some (.tup xs)
 frzs:∀ b o u,H b=some (.frz o u)->H' b=some (.frz o u)
 tbls:∀ b ps,H b=some (.tbl ps)->∃ more,H' b=some (.tbl (ps++more))
section
variable {fs fs' ex ex':List Addr} {H H1 H2:Hp} {h h1 h2 h':N5} {a x e:Addr} {o:HO}
theorem Un.any (u:Un fs ex H H1 h h1) {b:Addr} {ob:Qv} (q:h.get? b=some ob) (n:H b=none) (hx:b ∉ ex):∃ sl,h1.get? b=some { ob with slots:=sl }:=by
 by_cases hb:b∈fs
 ·exact u.slot b ob q n hb hx
 ·exact⟨ob.slots,u.keep b ob q n hb hx⟩
theorem Un.trans (a:Un fs ex H H1 h h1) (b:Un fs ex H1 H2 h1 h2):Un fs ex H H2 h h2 where
 keep:=fun c ob q n hc hx=>b.keep c ob (a.keep c ob q n hc hx) (a.free c ob q n hx) hc hx
 slot:=fun c ob q n hc hx=>by
  obtain⟨sl,e1⟩:=a.slot c ob q n hc hx
  obtain⟨sl',e2⟩:=b.slot c _ e1 (a.free c ob q n hx) hc hx
  exact⟨sl',e2⟩
 free:=fun c ob q n hx=>by
  obtain⟨o',e1⟩:=a.there c ob q hx
  exact b.free c o' e1 (a.free c ob q n hx) hx
 there:=fun c ob q hx=>by
  obtain⟨o',e1⟩:=a.there c ob q hx
  exact b.there c o' e1 hx
 tups:=fun c xs q=>b.tups c xs (a.tups c xs q)
 frzs:=fun c ob xs q=>b.frzs c ob xs (a.frzs c ob xs q)
 tbls:=fun c ps q=>by
  obtain⟨m1,e1⟩:=a.tbls c ps q
  obtain⟨m2,e2⟩:=b.tbls c _ e1
  exact⟨m1++m2,by rw[e2,Array.append_assoc]⟩
theorem Un.kept (k:∀ b u,h.get? b=some u->h'.get? b=some u):Un fs ex H H h h' :=
 ⟨fun b ob q _ _ _=>k b ob q,fun b ob q _ _ _=>⟨ob.slots,k b ob q⟩,fun _ _ _ n _=>n,fun b ob q _=>⟨ob,k b ob q⟩,fun _ _ q=>q,fun _ _ _ q=>q,fun _ ps q=>⟨#[],by rw[q]; simp⟩⟩
theorem Un.refl:Un fs ex H H h h:=Un.kept fun _ _ q=>q
theorem Un.laid (k:∀ b u,h.get? b=some u->h'.get? b=some u) (hp:h.objs.size<=a) (hn:H a=none):Un fs ex H (upd H a o) h h' where
 keep:=fun b u q _ _ _=>k b u q
 slot:=fun b u q _ _ _=>⟨u.slots,k b u q⟩
 free:=fun b u q n _=>by rw[aL (Nb (M7 (Mx q) hp))]; exact n
 there:=fun b u q _=>⟨u,k b u q⟩
 tups:=fun b xs q=>by rw[aL (dj q hn)]; exact q
 frzs:=fun b u xs q=>by rw[aL (dj q hn)]; exact q
 tbls:=fun b ps q=>⟨#[],by rw[aL (dj q hn),q]; simp⟩
theorem Un.write (mu:Mut (H x)) (he:e=x∨H e=some (.own x)) (k:∀ b u,b≠e->h.get? b=some u->h'.get? b=some u) (heo:∃ u,h'.get? e=some u):Un fs ex H (upd H x o) h h':=by
 have hx:∀ b,H b=none->b≠x:=fun b n z=>by subst z; rw[n] at mu; exact mu
 have hb:∀ b,H b=none->b≠e:=fun b n z=>by
  subst z
  rcases he with r | r
  ·exact hx b n r
  ·rw[n] at r; cases r
 have hm:∀ b u,H b=some u->¬ Mut (some u)->b≠x:=fun b u q nm z=>by subst z; rw[q] at mu; exact nm mu
 refine⟨fun b u q n _ _=>k b u (hb b n) q,fun b u q n _ _=>⟨u.slots,k b u (hb b n) q⟩,fun b u q n _=>by rw[aL (hx b n)]; exact n,fun b u q _=>?_,
  fun b xs q=>by rw[aL (hm b _ q fun z=>z)]; exact q,fun b u xs q=>by rw[aL (hm b _ q fun z=>z)]; exact q,fun b ps q=>⟨#[],by rw[aL (hm b _ q fun z=>z),q]; simp⟩⟩
 by_cases hbe:b=e
 ·subst hbe; exact heo
 ·exact⟨u,k b u hbe q⟩
end
def trk (h:N5) (H:Hp):List Addr:=(Ms h.objs.size).filter fun a=>(H a).isSome
def Ao (h:N5) (H:Hp):N5:=PySem.W.hideAll h (trk h H)
theorem yV (h:N5) (H:Hp):(Ao h H).objs.size=h.objs.size:=PySem.W.hideAll_size _ _
theorem BP {h:N5} {H:Hp} {b:Addr} {o:Qv} (e:h.get? b=some o) (n:H b=none):(Ao h H).get? b=some o :=
 PySem.W.hideAll_get _ e fun hm=>by
  have q:(H b).isSome=true:=(List.mem_filter.mp hm).2
  rw[n] at q; simp at q
theorem FJ {h:N5} {H:Hp} {b:Addr} {o:Qv} (e:(Ao h H).get? b=some o):h.get? b=some o/\H b=none:=by
 have e':h.get? b=some o:=PySem.W.of_hideAll (trk h H) e
 refine⟨e',?_⟩
 cases q:H b with
 | none=>rfl
 | some x =>
  have hm:b∈trk h H:=List.mem_filter.mpr ⟨List.mem_range.mpr (Mx e'),by simp [q]⟩
  have z:(Ao h H).get? b=none:=PySem.W.hideAll_none (trk h H) hm
  rw[z] at e; cases e
def Gg (g h:N5) (L:Addr):List (Addr × Qv):=(Ms h.objs.size).filterMap fun a=>if a=L∨(g.get? a).isSome=true then none else (h.get? a).map fun o=>(a,o)
def rest (g h:N5) (L d:Addr):List (Addr × Qv):=(Gg g h L).filter fun p=>decide (p.1≠d)
end L2
namespace L2
open PySem PySem.Spec PyProof.Rows
structure Mod (K:MP) (mg:Ou->Option Mh) (base:N5):Prop where
 kin:K.In base
 glob:base.Ns Ng mg
 blt:∃ mb,base.Ns builtinsNs mb/\∀ x:Ou,x≠"__name__"->mb x=Oa x
 nolimit:base.NoLimit
structure Cx where
 prog:M8
 w:NQ
 K:MP
 mg:Ou->Option Mh
 base:N5
 A:N8
 N:List Ou
 s₀:Mj
 H₀:Hp
 env:Env
 outer:List Env
 stack:List Env
 ex:List Addr
 fn:Ou->Bool
 calm:Bool
 pn:List (Addr × Qv)
 xe:Mh->Mj->Prop
def frs (l:List Env):List Addr:=l.filterMap (·.frame)
abbrev Cx.fs (X:Cx):List Addr:=frs X.outer
def Vis (sc:Sy) (x:Ou):Prop:=sc.names.lookup x=some .local∨sc.names.lookup x=some .cell∨sc.names.lookup x=some .free
def Loc (sc:Sy) (x:Ou):Prop:=sc.names.lookup x=some .local∨sc.names.lookup x=some .cell
def Look (env:Env) (h:N5) (m:Ou->Option Mh) (x:Ou) (u:Mh):Prop :=
 (env.kindOf x=some .local/\m x=some u)∨((env.kindOf x=some .cell∨env.kindOf x=some .free)/\∃ c,env.cells.lookup x=some c/\h.IsCell c (some u))
structure Cx.Ok (X:Cx):Prop where
 mod:Mod X.K X.mg X.base
 kind:X.env.scope.kind = .function
 glob:X.env.globals=Ng
 blt:X.env.builtins=builtinsNs
 above:X.s₀.heap.objs.size<=X.env.locals
 inj:∀ x y c,X.env.cells.lookup x=some c->X.env.cells.lookup y=some c->x=y
 has:∀ x,(X.env.kindOf x=some .cell∨X.env.kindOf x=some .free)->∃ c,X.env.cells.lookup x=some c
 cab:∀ x c,X.fn x=true->X.env.cells.lookup x=some c->X.s₀.heap.objs.size<=c
 hd:X.calm=true->X.A.handled=none
 frames:X.A.frames=some X.stack
 stk:X.stack=X.outer∨(X.stack=X.env::X.outer/\X.env.frame=some X.env.locals)
 exf:∀ b∈X.ex,b≠X.env.locals/\∀ x c,X.env.cells.lookup x=some c->c≠b
 bs:∀ b o,X.base.get? b=some o->X.s₀.heap.get? b=some o/\X.H₀ b=none
 bsz:X.base.objs.size<=X.s₀.heap.objs.size
 noex:∀ b o,X.base.get? b=some o->b ∉ X.ex
 exfs:∀ b∈X.ex,b ∉ X.fs
 zR:X.s₀.heap.FunFrames X.base X.outer
 frf:∀ b∈X.fs,X.H₀ b=none
structure Inv (X:Cx) (pins:List (Addr × Qv)) (σ:List (Option V)) (H:Hp) (s:Mj):Prop where
 ok:X.Ok
 os:s.os=X.s₀.os
 bare:Th s.gens
 base:Un X.fs X.ex X.H₀ H X.s₀.heap s.heap
 loc:∃ m,s.heap.Ns X.env.locals m/\∀ (i:Nat) (x:Ou) (v:V),X.N[i]? = some x->σ[i]? = some (some v)->Vis X.env.scope x->∃ u,RelV v u/\Look X.env s.heap m x u
 cell:∀ x c,X.env.cells.lookup x=some c->∃ v,s.heap.IsCell c v
 free:H X.env.locals=none
 freeC:∀ x c,X.env.cells.lookup x=some c->H c=none
 pin:∀ p∈X.pn++pins,s.heap.get? p.1=some p.2/\H p.1=none/\p.1≠X.env.locals/\p.1 ∉ X.fs/\∀ v,p.2.data≠.cell v
 hok:HOk X.prog X.w H s.heap
 len:σ.length=X.N.length
section
variable {X:Cx} {pins:List (Addr × Qv)} {σ:List (Option V)} {H H':Hp} {s:Mj} {h':N5}
theorem Cx.Ok.K7 (ok:X.Ok) {b:Addr} {o:Qv} (e:X.base.get? b=some o):b ∉ X.fs:=fun hb=>by
 have:=(ok.zR.mem hb).1
 rw[e] at this; cases this
theorem Inv.bs (I:Inv X pins σ H s):∀ b o,X.base.get? b=some o->s.heap.get? b=some o/\H b=none:=fun b o e =>
 ⟨I.base.keep b o (I.ok.bs b o e).1 (I.ok.bs b o e).2 (I.ok.K7 e) (I.ok.noex b o e),I.base.free b o (I.ok.bs b o e).1 (I.ok.bs b o e).2 (I.ok.noex b o e)⟩
theorem Inv.bk (I:Inv X pins σ H s):∀ b o,X.base.get? b=some o->s.heap.get? b=some o:=fun b o e=>(I.bs b o e).1
theorem Inv.mod (I:Inv X pins σ H s):Mod X.K X.mg X.base:=I.ok.mod
theorem Inv.kIn (I:Inv X pins σ H s):X.K.In s.heap:=I.ok.mod.kin.keeps I.bk
theorem Inv.lt (I:Inv X pins σ H s):X.env.locals < s.heap.objs.size:=let ⟨_,hn,_⟩:=I.loc; hn.lt
theorem Inv.sz (I:Inv X pins σ H s):X.s₀.heap.objs.size<=s.heap.objs.size:=Ob I.ok.above (Te I.lt)
theorem Inv.Lr (I:Inv X pins σ H s) {a:Addr} (h:s.heap.objs.size<=a):a ∉ X.fs:=fun hb=>by
 obtain⟨_,o,ho,_⟩:=I.ok.zR.mem hb
 exact absurd (M7 (Mx ho) (Ob I.sz h)) (O5 _)
theorem Inv.cne (I:Inv X pins σ H s):∀ x c,X.env.cells.lookup x=some c->c≠X.env.locals:=fun x c e z=>by
 obtain⟨v,o,ho,hd⟩:=I.cell x c e
 obtain⟨m,⟨o',es,ep,ho',hd',_⟩,_⟩:=I.loc
 rw[z,ho'] at ho; cases ho; rw[hd'] at hd; cases hd
theorem Inv.zR (I:Inv X pins σ H s):s.heap.FunFrames X.base X.outer:=by
 have all:∀ (l:List Env),(∀ b∈frs l,b∈X.fs)->X.s₀.heap.FunFrames X.base l->s.heap.FunFrames X.base l:=by
  intro l
  induction l with
  | nil=>intro _ _; trivial
  | cons env r ih =>
   intro hs hl
   obtain⟨hk,⟨L,o,hf,hn,ho,hd⟩,hr⟩:=hl
   have hL:L∈X.fs:=hs L (by unfold frs; rw[T7,hf]; exact Ml)
   obtain⟨sl,e⟩:=I.base.slot L o ho (I.ok.frf L hL) hL fun z=>I.ok.exfs L z hL
   exact⟨hk,⟨L,_,hf,hn,e,hd⟩,ih (fun b hb=>hs b (by unfold frs; rw[T7,hf]; exact MF _ hb)) hr⟩
 exact all X.outer (fun _ hb=>hb) I.ok.zR
theorem Inv.stack (I:Inv X pins σ H s):s.heap.FunFrames X.base X.stack:=by
 rcases I.ok.stk with e | ⟨e,hf⟩
 ·rw[e]; exact I.zR
 ·rw[e]
  obtain⟨m,hn,_⟩:=I.loc
  refine .cons (by rw[I.ok.kind]; decide) hf hn ?_ I.zR
  exact Heap.get?_none_of_le (Ob I.ok.bsz I.ok.above)
theorem Inv.zM (I:Inv X pins σ H s):∀ b∈frs X.stack,b∈X.env.locals::X.fs:=fun b hb=>by
 rcases I.ok.stk with e | ⟨e,hf⟩
 ·rw[e] at hb; exact MF _ hb
 ·rw[e] at hb
  unfold frs at hb
  rw[T7,hf] at hb
  exact hb
theorem Inv.zQ (I:Inv X pins σ H s):∀ b∈frs X.stack,H b=none:=fun b hb=>by
 rcases List.mem_cons.mp (I.zM b hb) with e | hb
 ·rw[e]; exact I.free
 ·obtain⟨_,o,ho,_⟩:=I.ok.zR.mem hb
  exact I.base.free b o ho (I.ok.frf b hb) fun z=>I.ok.exfs b z hb
theorem Inv.step {g':Array GenState} {t':Nat} {d':Drawn} {ch:List Addr} (I:Inv X pins σ H s)
  (hch:∀ b∈ch,(b∈X.ex∨X.s₀.heap.objs.size<=b)/\b≠X.env.locals/\(∀ x c,X.env.cells.lookup x=some c->c≠b)/\∀ p∈X.pn++pins,p.1≠b)
  (keep:∀ b o,b≠X.env.locals->b ∉ X.fs->b ∉ ch->s.heap.get? b=some o->H b=none->h'.get? b=some o)
  (slot:∀ b o,b≠X.env.locals->b∈X.fs->b ∉ ch->s.heap.get? b=some o->H b=none->∃ sl,h'.get? b=some { o with slots:=sl }) (free:∀ b o,b ∉ ch->s.heap.get? b=some o->H b=none->H' b=none)
  (there:∀ b o,b ∉ ch->s.heap.get? b=some o->∃ o',h'.get? b=some o')
  (tups:∀ b xs,H b=some (.tup xs)->H' b=some (.tup xs)) (frzs:∀ b o u,H b=some (.frz o u)->H' b=some (.frz o u)) (tbls:∀ b ps,H b=some (.tbl ps)->∃ more,H' b=some (.tbl (ps++more)))
  (ns:∀ m,s.heap.Ns X.env.locals m->h'.Ns X.env.locals m) (hok:HOk X.prog X.w H' h') (hg:Th g') :
  Inv X pins σ H' { s with heap:=h',gens:=g',drawn:=d',toks:=t' }:=by
 have neL:∀ b o,X.s₀.heap.get? b=some o->b≠X.env.locals:=fun b o e=>Nb (M7 (Mx e) I.ok.above)
 have neC:∀ b o,X.s₀.heap.get? b=some o->b ∉ X.ex->b ∉ ch:=fun b o e hx hb=>by
  rcases (hch b hb).1 with z | z
  ·exact hx z
  ·exact absurd (M7 (Mx e) z) (O5 _)
 have cellK:∀ x c,X.env.cells.lookup x=some c->∀ v,s.heap.IsCell c v->h'.IsCell c v:=fun x c e v ⟨o,ho,hd⟩=>by
  have nch:c ∉ ch:=fun z=>(hch c z).2.2.1 x c e rfl
  by_cases hc:c∈X.fs
  ·obtain⟨sl,q⟩:=slot c o (I.cne x c e) hc nch ho (I.freeC x c e)
   exact⟨_,q,hd⟩
  ·exact⟨o,keep c o (I.cne x c e) hc nch ho (I.freeC x c e),hd⟩
 refine⟨I.ok,I.os,hg,⟨fun b o e n hb hx=>?_,fun b o e n hb hx=>?_,fun b o e n hx=>?_,fun b o e hx=>?_,fun b xs e=>tups b xs (I.base.tups b xs e),fun b o xs e=>frzs b o xs (I.base.frzs b o xs e),fun b ps e=>?_⟩,?_,fun x c e=>?_,?_,fun x c e=>?_,fun p hp=>?_,hok,I.len⟩
 ·exact keep b o (neL b o e) hb (neC b o e hx) (I.base.keep b o e n hb hx) (I.base.free b o e n hx)
 ·obtain⟨sl,e1⟩:=I.base.slot b o e n hb hx
  obtain⟨sl',e2⟩:=slot b _ (neL b o e) hb (neC b o e hx) e1 (I.base.free b o e n hx)
  exact⟨sl',e2⟩
 ·obtain⟨o',e1⟩:=I.base.there b o e hx
  exact free b o' (neC b o e hx) e1 (I.base.free b o e n hx)
 ·obtain⟨o',e1⟩:=I.base.there b o e hx
  exact there b o' (neC b o e hx) e1
 ·obtain⟨m1,e1⟩:=I.base.tbls b ps e
  obtain⟨m2,e2⟩:=tbls b _ e1
  exact⟨m1++m2,by rw[e2,Array.append_assoc]⟩
 ·obtain⟨m,hn,hl⟩:=I.loc
  refine⟨m,ns m hn,fun i x v e1 e2 e3=>?_⟩
  obtain⟨u,r,l⟩:=hl i x v e1 e2 e3
  refine⟨u,r,?_⟩
  rcases l with l | ⟨k,c,e,z⟩
  ·exact .inl l
  ·exact .inr ⟨k,c,e,cellK x c e _ z⟩
 ·obtain⟨v,z⟩:=I.cell x c e
  exact⟨v,cellK x c e v z⟩
 ·obtain⟨m,⟨o,_,_,ho,_⟩,_⟩:=I.loc
  exact free _ o (fun z=>(hch _ z).2.1 rfl) ho I.free
 ·obtain⟨v,o,ho,hd⟩:=I.cell x c e
  exact free c o (fun z=>(hch c z).2.2.1 x c e rfl) ho (I.freeC x c e)
 ·obtain⟨e,n,ne,nf,d⟩:=I.pin p hp
  have nch:p.1 ∉ ch:=fun z=>(hch p.1 z).2.2.2 p hp rfl
  exact⟨keep p.1 p.2 ne nf nch e n,free p.1 p.2 nch e n,ne,nf,d⟩
theorem Inv.un {t':Nat} (I:Inv X pins σ H s) (u:Un X.fs [] H H' s.heap h') (hok:HOk X.prog X.w H' h'):Inv X pins σ H' { s with heap:=h',toks:=t' }:=by
 obtain⟨m,⟨o,es,ep,ho,r⟩,_⟩:=id I.loc
 obtain⟨sl,hL⟩:=u.any ho I.free (by simp)
 exact I.step (g':=s.gens) (d':=s.drawn) (ch:=[]) (fun _ z=>nomatch z) (fun b o _ hb _ e n=>u.keep b o e n hb (by simp)) (fun b o _ hb _ e n=>u.slot b o e n hb (by simp)) (fun b o _ e n=>u.free b o e n (by simp)) (fun b o _ e=>u.there b o e (by simp)) u.tups u.frzs u.tbls (fun m' hm=>by
  obtain⟨o',es',ep',ho',r'⟩:=hm
  rw[ho] at ho'; cases ho'
  exact⟨_,es',ep',hL,r'⟩) hok I.bare
theorem Inv.call {g':Array GenState} {t':Nat} {d':Drawn} {ch:List Addr} (I:Inv X pins σ H s) (u:Un (frs X.stack) ch H H' s.heap h') (hok:HOk X.prog X.w H' h') (hg:Th g')
  (hch:∀ b∈ch,(b∈X.ex∨X.s₀.heap.objs.size<=b)/\b≠X.env.locals/\(∀ x c,X.env.cells.lookup x=some c->c≠b)/\∀ p∈X.pn++pins,p.1≠b) :
  Inv X pins σ H' { s with heap:=h',gens:=g',drawn:=d',toks:=t' }:=by
 obtain⟨m,⟨o,es,ep,ho,r⟩,_⟩:=id I.loc
 obtain⟨sl,hL⟩:=u.any ho I.free fun z=>(hch _ z).2.1 rfl
 exact I.step (ch:=ch) hch (fun b o hL hb hc e n=>u.keep b o e n (fun z=>(List.mem_cons.mp (I.zM b z)).elim hL hb) hc) (fun b o _ _ hc e n=>u.any e n hc) (fun b o hc e n=>u.free b o e n hc) (fun b o hc e=>u.there b o e hc) u.tups u.frzs u.tbls (fun m' hm=>by
  obtain⟨o',es',ep',ho',r'⟩:=hm
  rw[ho] at ho'; cases ho'
  exact⟨_,es',ep',hL,r'⟩) hok hg
theorem Inv.turned {t':Nat} {it:Addr} (I:Inv X pins σ H s) (k:∀ b o,b≠it->s.heap.get? b=some o->h'.get? b=some o) (hn:H it=none) (hL:it≠X.env.locals)
  (h1:it∈X.ex∨X.s₀.heap.objs.size<=it) (h2:∀ x c,X.env.cells.lookup x=some c->c≠it) (h3:∀ p∈X.pn++pins,p.1≠it):Inv X pins σ H { s with heap:=h',toks:=t' }:=by
 have nit:∀ b u,H b=some u->b≠it:=fun b u e z=>by rw[z,hn] at e; cases e
 refine I.step (g':=s.gens) (d':=s.drawn) (ch:=[it]) (fun b hb=>?_) (fun b o _ _ hc e _=>k b o (fun z=>hc (by simp [z])) e) (fun b o _ _ hc e _=>⟨o.slots,k b o (fun z=>hc (by simp [z])) e⟩) (fun _ _ _ _ n=>n)
  (fun b o hc e=>⟨o,k b o (fun z=>hc (by simp [z])) e⟩) (fun _ _ e=>e) (fun _ _ _ e=>e) (fun b ps e=>⟨#[],by rw[e]; simp⟩) (fun m hm=>?_) (fun b u e=>?_) I.bare
 ·have e:b=it:=by simpa using hb
  subst e
  exact⟨h1,hL,h2,h3⟩
 ·obtain⟨o,es,ep,ho,r⟩:=hm
  exact⟨o,es,ep,k _ o (Rk hL) ho,r⟩
 ·refine (I.hok b u e).stay (fun c v hc q=>k c v ?_ q) (fun _ q=>q) fun _ _ q=>q
  rcases hc with z | z
  ·rw[z]; exact nit b u e
  ·exact nit c _ z
theorem Inv.tok (I:Inv X pins σ H s) (t:Nat):Inv X pins σ H { s with toks:=t }:=I.un (h':=s.heap) (t':=t) Un.refl I.hok
theorem Inv.kept {t':Nat} (I:Inv X pins σ H s) (k:∀ b u,s.heap.get? b=some u->h'.get? b=some u):Inv X pins σ H { s with heap:=h',toks:=t' }:=I.un (Un.kept k) (I.hok.kept k)
theorem Inv.laid {a:Addr} {o:HO} {t':Nat} (I:Inv X pins σ H s) (k:∀ b u,s.heap.get? b=some u->h'.get? b=some u) (hp:s.heap.objs.size<=a) (new:dh X.prog X.w (upd H a o) h' a o) :
  Inv X pins σ (upd H a o) { s with heap:=h',toks:=t' }:=I.un (Un.laid k hp (I.hok.fresh hp)) (I.hok.laid k hp new)
theorem Inv.write {x e:Addr} {o:HO} {t':Nat} (I:Inv X pins σ H s) (mu:Mut (H x)) (he:e=x∨H e=some (.own x)) (k:∀ b u,b≠e->s.heap.get? b=some u->h'.get? b=some u) (heo:∃ u,h'.get? e=some u)
  (new:dh X.prog X.w (upd H x o) h' x o):Inv X pins σ (upd H x o) { s with heap:=h',toks:=t' }:=I.un (Un.write mu he k heo) (I.hok.write mu he k heo new)
theorem Inv.xO {pins':List (Addr × Qv)} (I:Inv X pins σ H s) (h:∀ p∈pins',s.heap.get? p.1=some p.2/\H p.1=none/\p.1≠X.env.locals/\p.1 ∉ X.fs/\∀ v,p.2.data≠.cell v):Inv X pins' σ H s :=
 ⟨I.ok,I.os,I.bare,I.base,I.loc,I.cell,I.free,I.freeC,fun p hp=>(List.mem_append.mp hp).elim (fun z=>I.pin p (R3 _ z)) (h p),I.hok,I.len⟩
theorem ux {N:List Ou} (hN:N.Nodup) {i j:Nat} {x:Ou} (a:N[i]? = some x) (b:N[j]? = some x):i=j:=by
 obtain⟨h1,e1⟩:=List.getElem?_eq_some_iff.mp a
 obtain⟨h2,e2⟩:=List.getElem?_eq_some_iff.mp b
 exact (Q9 hN).mp (e1.trans e2.symm)
theorem pF {M:Model} {A:N8} {E:Mh->Mj->Prop} {i:Nat} {x:Ou} {v:V} {u:Mh} {Q:Unit->Mj->Prop} (I:Inv X pins σ H s) (hN:X.N.Nodup) (hi:X.N[i]? = some x) (hx:Loc X.env.scope x) (r:RelV v u)
  (h:∀ s',Inv X pins (σ.set i (some v)) H s'->(∃ a,Qs a s.heap s'.heap/\(a=X.env.locals∨X.env.cells.lookup x=some a))->Q () s') (hf:X.fn x=true∨X.env.scope.names.lookup x=some .local:=by first | exact .inl rfl | exact .inr rfl | assumption):Mw M A (storeName X.env x u) Q E s:=by
 obtain⟨m,hn,hl⟩:=id I.loc
 have hcls:(X.env.scope.kind == .class || (X.env.scope.kind == .module && X.env.locals != X.env.globals))=false:=by rw[I.ok.kind]; rfl
 have hiσ:i < σ.length:=by rw[I.len]; exact (List.getElem?_eq_some_iff.mp hi).1
 have cne:=I.cne
 have tracked:∀ {a:Addr} {h':N5},(∃ o,s.heap.get? a=some o/\H a=none)->Qs a s.heap h'->HOk X.prog X.w H h':=fun {a h'} ha hs b ob e=>by
  obtain⟨_,_,hfree⟩:=ha
  refine (I.hok b ob e).stay (fun c w' hc q=>(hs.2 c ?_).trans q) (fun _ q=>q) fun _ _ q=>q
  rintro rfl
  rcases hc with rfl | hc
  ·rw[hfree] at e; cases e
  ·rw[hfree] at hc; cases hc
 rcases hx with hk | hk
 ·refine wpAny_storeName_local hk hn (fun h' hn' hs=>?_) hcls
  obtain⟨oL,_,_,hoL,_⟩:=id hn
  refine h _ ⟨I.ok,I.os,I.bare,⟨fun b o e n hb hx=>?_,fun b o e n hb hx=>?_,I.base.free,fun b o e hx=>?_,I.base.tups,I.base.frzs,I.base.tbls⟩,⟨_,hn',fun j y v' e1 e2 e3=>?_⟩,fun y c e=>?_,I.free,I.freeC,fun p hp=>?_,tracked ⟨oL,hoL,I.free⟩ hs,by simpa using I.len⟩ ⟨_,hs,.inl rfl⟩
  ·exact (hs.2 b (Nb (M7 (Mx e) I.ok.above))).trans (I.base.keep b o e n hb hx)
  ·obtain⟨sl,e1⟩:=I.base.slot b o e n hb hx
   exact⟨sl,(hs.2 b (Nb (M7 (Mx e) I.ok.above))).trans e1⟩
  ·obtain⟨o',e1⟩:=I.base.there b o e hx
   exact⟨o',(hs.2 b (Nb (M7 (Mx e) I.ok.above))).trans e1⟩
  ·by_cases hj:j=i
   ·subst hj
    rw[hi] at e1; cases e1
    rw[List.getElem?_set_self hiσ] at e2
    cases e2
    exact⟨u,r,.inl ⟨hk,by simp⟩⟩
   ·rw[List.getElem?_set_ne (Rk hj)] at e2
    obtain⟨u',r',q⟩:=hl j y v' e1 e2 e3
    refine⟨u',r',?_⟩
    rcases q with⟨k,e⟩ | ⟨k,c,e,z⟩
    ·refine .inl ⟨k,?_⟩
     have:y≠x:=fun e=>hj (ux hN e1 (e▸hi))
     simp [this,e]
    ·exact .inr ⟨k,c,e,z.sameBut hs (cne y c e)⟩
  ·obtain⟨w',z⟩:=I.cell y c e
   exact⟨w',z.sameBut hs (cne y c e)⟩
  ·obtain⟨e,n,ne,nf,d⟩:=I.pin p hp
   exact⟨(hs.2 p.1 ne).trans e,n,ne,nf,d⟩
 ·have hfn:X.fn x=true:=by
   rcases hf with z | z
   ·exact z
   ·rw[z] at hk; cases hk
  obtain⟨c,hc⟩:=I.ok.has x (.inl hk)
  obtain⟨w',z⟩:=I.cell x c hc
  refine wpAny_storeName_cell I.ok.kind hk hc z (fun h' hc' hs=>?_)
  obtain⟨oc,hoc,hocd⟩:=id z
  refine h { s with heap:=h' } ⟨I.ok,I.os,I.bare,⟨fun b o e n hb hx=>?_,fun b o e n hb hx=>?_,I.base.free,fun b o e hx=>?_,I.base.tups,I.base.frzs,I.base.tbls⟩,⟨m,hn.sameBut hs (Rk (cne x c hc)),fun j y v' e1 e2 e3=>?_⟩,fun y c' e=>?_,I.free,I.freeC,fun p hp=>?_,tracked ⟨oc,hoc,I.freeC x c hc⟩ hs,by simpa using I.len⟩ ⟨c,hs,.inr hc⟩
  ·exact (hs.2 b (Nb (M7 (Mx e) (I.ok.cab x c hfn hc)))).trans (I.base.keep b o e n hb hx)
  ·obtain⟨sl,e1⟩:=I.base.slot b o e n hb hx
   exact⟨sl,(hs.2 b (Nb (M7 (Mx e) (I.ok.cab x c hfn hc)))).trans e1⟩
  ·obtain⟨o',e1⟩:=I.base.there b o e hx
   exact⟨o',(hs.2 b (Nb (M7 (Mx e) (I.ok.cab x c hfn hc)))).trans e1⟩
  ·by_cases hj:j=i
   ·subst hj
    rw[hi] at e1; cases e1
    rw[List.getElem?_set_self hiσ] at e2
    cases e2
    exact⟨u,r,.inr ⟨.inl hk,c,hc,hc'⟩⟩
   ·rw[List.getElem?_set_ne (Rk hj)] at e2
    obtain⟨u',r',q⟩:=hl j y v' e1 e2 e3
    refine⟨u',r',?_⟩
    rcases q with q | ⟨k,c',e,z'⟩
    ·exact .inl q
    ·refine .inr ⟨k,c',e,z'.sameBut hs ?_⟩
     rintro rfl
     exact hj (ux hN e1 (I.ok.inj _ _ _ e hc▸hi))
  ·by_cases hcc:c'=c
   ·subst hcc; exact⟨_,hc'⟩
   ·obtain⟨w2,z2⟩:=I.cell y c' e
    exact⟨w2,z2.sameBut hs hcc⟩
  ·obtain⟨e,n,ne,nf,d⟩:=I.pin p hp
   refine⟨(hs.2 p.1 ?_).trans e,n,ne,nf,d⟩
   intro q
   rw[q,hoc] at e
   have q':oc=p.2:=M9 e
   exact d w' (by rw[← q']; exact hocd)
theorem uV {M:Model} {A:N8} {E:Mh->Mj->Prop} {i:Nat} {x:Ou} {v:V} {u:Mh} {Q:Unit->Mj->Prop} (I:Inv X pins σ H s) (hN:X.N.Nodup) (hi:X.N[i]? = some x) (hx:Loc X.env.scope x) (r:RelV v u)
  (h:∀ s',Inv X pins (σ.set i (some v)) H s'->Q () s') (hf:X.fn x=true∨X.env.scope.names.lookup x=some .local:=by first | exact .inl rfl | exact .inr rfl | assumption):Mw M A (storeName X.env x u) Q E s :=
 pF I hN hi hx r (fun s' I' _=>h s' I') hf
theorem Inv.call' {s':Mj} {ch:List Addr} (I:Inv X pins σ H s) (ho:s'.os=s.os) (u:Un (frs X.stack) ch H H' s.heap s'.heap) (hok:HOk X.prog X.w H' s'.heap) (hg:Th s'.gens)
  (hch:∀ b∈ch,(b∈X.ex∨X.s₀.heap.objs.size<=b)/\b≠X.env.locals/\(∀ x c,X.env.cells.lookup x=some c->c≠b)/\∀ p∈X.pn++pins,p.1≠b):Inv X pins σ H' s':=by
 obtain⟨h',g',d',t',o'⟩:=s'
 have e:o'=s.os:=ho
 subst e
 exact I.call (g':=g') (t':=t') (d':=d') u hok hg hch
end
abbrev XK:=Mh->Option Addr->Hp->Prop
abbrev St:=List (Option V)
abbrev VK:=V->Hp->Prop
abbrev TE:=St->Hp->VK->Prop
abbrev TT:=St->Hp->(Bool->Hp->Prop)->Prop
abbrev TA:=St->Hp->(List V->Hp->Prop)->Prop
structure Ends where
 nx:St->Hp->Prop
 rt:VK
 bk:St->Hp->Prop:=fun _ _=>False
 ct:St->Hp->Prop:=fun _ _=>False
abbrev TS:=Ends->St->Hp->Prop
def EP (X:Cx) (pins:List (Addr × Qv)) (σ:St) (Q:VK) (u:Mh) (s':Mj):Prop:=∃ v H',Inv X pins σ H' s'/\RelV v u/\Q v H'
def TP (X:Cx) (pins:List (Addr × Qv)) (σ:St) (Q:Bool->Hp->Prop) (b:Bool) (s':Mj):Prop:=∃ H',Inv X pins σ H' s'/\Q b H'
def AP (X:Cx) (pins:List (Addr × Qv)) (σ:St) (Q:List V->Hp->Prop) (us:List Mh) (s':Mj):Prop:=∃ vs H',Inv X pins σ H' s'/\Vals vs us/\Q vs H'
def SP (X:Cx) (pins:List (Addr × Qv)) (D:Ends) (f:Flow) (s':Mj):Prop :=
 match f with
 | .next=>∃ σ' H',Inv X pins σ' H' s'/\D.nx σ' H'
 | .brk=>∃ σ' H',Inv X pins σ' H' s'/\D.bk σ' H'
 | .cont=>∃ σ' H',Inv X pins σ' H' s'/\D.ct σ' H'
 | .ret u=>∃ v σ' H',Inv X pins σ' H' s'/\RelV v u/\D.rt v H'
def PE (X:Cx) (e:Expr) (t:TE):Prop :=
 ∀ (pins:List (Addr × Qv)) (s:Mj) (σ:St) (H:Hp) (Q:VK),Inv X pins σ H s->t σ H Q->Mw (M6 X.prog X.w) X.A (Qd e X.env) (EP X pins σ Q) X.xe s
def PT (X:Cx) (e:Expr) (t:TT):Prop :=
 ∀ (pins:List (Addr × Qv)) (s:Mj) (σ:St) (H:Hp) (Q:Bool->Hp->Prop),Inv X pins σ H s->t σ H Q->Mw (M6 X.prog X.w) X.A (isTrue e X.env (Qd e X.env)) (TP X pins σ Q) X.xe s
def PW (X:Cx) (e:Expr) (t:TT):Prop :=
 ∀ (whole:Sem Mh) (pins:List (Addr × Qv)) (s:Mj) (σ:St) (H:Hp) (Q:Bool->Hp->Prop),Inv X pins σ H s->t σ H Q->Mw (M6 X.prog X.w) X.A (isTrue e X.env whole) (TP X pins σ Q) X.xe s
theorem PW.pt {X:Cx} {e:Expr} {t:TT} (h:PW X e t):PT X e t:=h _
def PA (X:Cx) (es:List Expr) (t:TA):Prop :=
 ∀ (pos:R8) (pins:List (Addr × Qv)) (s:Mj) (σ:St) (H:Hp) (Q:List V->Hp->Prop),Inv X pins σ H s->t σ H Q->Mw (M6 X.prog X.w) X.A (spliced (Ru pos (Nm es X.env))) (AP X pins σ Q) X.xe s
def PS (X:Cx) (st:Stmt) (t:TS):Prop :=
 ∀ (pins:List (Addr × Qv)) (s:Mj) (σ:St) (H:Hp) (D:Ends),Inv X pins σ H s->t D σ H->Mw (M6 X.prog X.w) X.A (exec st X.env) (SP X pins D) X.xe s
def PSs (X:Cx) (st:List Stmt) (t:TS):Prop :=
 ∀ (pins:List (Addr × Qv)) (s:Mj) (σ:St) (H:Hp) (D:Ends),Inv X pins σ H s->t D σ H->Mw (M6 X.prog X.w) X.A (execs st X.env) (SP X pins D) X.xe s
theorem thn {α:Type} {t:Sem α} {Q Q':α->Mj->Prop} {M:Model} {A:N8} {E:Mh->Mj->Prop} {s:Mj} (h:Mw M A t Q E s) (hQ:∀ a s,Q a s->Q' a s):Mw M A t Q' E s:=PQ h hQ fun _ _ x=>x
end L2
namespace L2
open PySem PySem.Spec PyProof.Rows
section
variable {X:Cx}
def JT (i:Nat):TE:=fun σ H Q=>∃ v,σ[i]? = some (some v)/\Q v H
def tC (v:V):TE:=fun _ H Q=>Q v H
theorem JK {i:Nat} {x:Ou} {pos:R8} (hN:X.N[i]? = some x) (hv:Vis X.env.scope x) (hd:(x == ("__debug__" : Ou))=false:=by decide) (hcd:(x == ("__classdict__" : Ou))=false:=by decide):PE X (.Name x pos) (JT i):=by
 intro pins s σ H Q I h
 obtain⟨v,e,h⟩:=h
 obtain⟨m,hn,hl⟩:=I.loc
 obtain⟨u,r,l⟩:=hl i x v hN e hv
 have fin:EP X pins σ Q u s:=⟨v,H,I,r,h⟩
 rcases l with⟨hk,hm⟩ | ⟨hk,c,hc,hcell⟩
 ·exact wpAny_Name (wpAny_loadName_local I.ok.kind hk hn hm fin) hd
 ·rcases hk with hk | hk
  ·exact wpAny_Name (wpAny_loadName_cell I.ok.kind hk hc hcell fin) hd
  ·exact wpAny_Name (wpAny_loadName_free I.ok.kind hk hc hcell fin hcd) hd
theorem aF {i j pos}:PE X (.Constant (.int i) j pos) (tC (.int i)):=fun _ _ _ H _ I h=>wpAny_Constant_int ⟨.int i,H,I.tok _,⟨_,rfl⟩,h⟩
theorem iH {b j pos}:PE X (.Constant (.bool b) j pos) (tC (.bl b)):=fun _ _ _ H _ I h=>Constant_bool ⟨.bl b,H,I,rfl,h⟩
theorem Iw {j pos}:PE X (.Constant .none j pos) (tC .non):=fun _ _ _ H _ I h=>Constant_none ⟨.non,H,I,rfl,h⟩
theorem iZ {x j pos}:PE X (.Constant (.str x) j pos) (tC (.str x)):=fun _ _ _ H _ I h=>Calls.Constant_str ⟨.str x,H,I.tok _,⟨_,rfl⟩,h⟩
def Gl (X:Cx) (x:Ou):Prop:=X.env.kindOf x=some .globalImplicit
theorem G3 {E:Mh->Mj->Prop} {pins:List (Addr × Qv)} {s:Mj} {σ:St} {H:Hp} {x:Ou} {u:Mh} {pos:R8} {Q:Mh->Mj->Prop} (I:Inv X pins σ H s) (hg:Gl X x) (hm:X.mg x=some u) (h:Q u s)
  (hd:(x == ("__debug__" : Ou))=false:=by decide):Mw (M6 X.prog X.w) X.A (Qd (.Name x pos) X.env) Q E s :=
 Calls.Name_function_global I.ok.kind hg (Calls.loadGlobal_global (by rw[I.ok.glob]; exact I.mod.glob.keeps I.bk) hm h) hd
theorem gm {E:Mh->Mj->Prop} {pins:List (Addr × Qv)} {s:Mj} {σ:St} {H:Hp} {x:Ou} {u:Mh} {pos:R8} {Q:Mh->Mj->Prop} (I:Inv X pins σ H s) (hg:Gl X x) (hm:X.mg x=none) (hv:Oa x=some u) (h:Q u s)
  (hn:x≠"__name__":=by decide) (hd:(x == ("__debug__" : Ou))=false:=by decide):Mw (M6 X.prog X.w) X.A (Qd (.Name x pos) X.env) Q E s:=by
 obtain⟨mb,h1,h2⟩:=I.mod.blt
 exact Calls.Name_function_global I.ok.kind hg (Calls.loadGlobal_builtin (by rw[I.ok.glob]; exact I.mod.glob.keeps I.bk) hm (by rw[I.ok.blt]; exact h1.keeps I.bk) ((h2 x hn).trans hv) h) hd
theorem Ey {x:Ou} {v:V} {u:Mh} {pos:R8} (hg:Gl X x) (hm:X.mg x=none) (hv:Oa x=some u) (r:RelV v u) (hn:x≠"__name__":=by decide) (hd:(x == ("__debug__" : Ou))=false:=by decide):PE X (.Name x pos) (tC v) :=
 fun _ _ _ H _ I h=>gm I hg hm hv ⟨v,H,I,r,h⟩ hn hd
variable {a b:Expr} {ta tb:TE} {pos:R8}
def PC (X:Cx) (op:CmpOp) (a b:Expr) (t:TE):Prop :=
 ∀ (pins:List (Addr × Qv)) (s:Mj) (σ:St) (H:Hp) (Q:VK),Inv X pins σ H s->t σ H Q →
  Mw (M6 X.prog X.w) X.A (Qd a X.env) (fun v s₁=>Mw (M6 X.prog X.w) X.A (Qd b X.env) (fun u s₂=>Mw (M6 X.prog X.w) X.A (Qg op v u) (EP X pins σ Q) X.xe s₂) X.xe s₁) X.xe s
theorem uK (b:Expr) {op:CmpOp} (h:op≠.In) (h2:op≠.NotIn):QK op b=false:=by
 have e1:(op == CmpOp.In)=false:=by cases op <;> first | rfl | exact absurd rfl h
 have e2:(op == CmpOp.NotIn)=false:=by cases op <;> first | rfl | exact absurd rfl h2
 cases b <;> simp [QK,e1,e2]
def Lz (ta:TE):TE:=fun σ H Q=>ta σ H fun x H1=>Q (.bl (decide (x = .non))) H1
theorem RelV.Bp {x:V} {v:Mh} (r:RelV x v):(v == Oc)=decide (x = .non):=by
 cases x with
 | non=>cases r; rfl
 | bl _=>cases r; rfl
 | int _=>obtain⟨t,rfl⟩:=r; rfl
 | str _=>obtain⟨t,rfl⟩:=r; rfl
 | byt _=>obtain⟨t,rfl⟩:=r; rfl
 | flt _=>obtain⟨t,rfl⟩:=r; rfl
 | ref _=>cases r; rfl
 | ty _=>cases r; rfl
theorem Dl {j pos'} (ha:PE X a ta):PC X .Is a (.Constant .none j pos') (Lz ta):=by
 intro pins s σ H Q I h
 refine thn (ha pins s σ H _ I h) fun v s1 ⟨x,H1,I1,r1,q1⟩=>?_
 exact Constant_none (is_none_gen ⟨.bl _,H1,I1,by rw[r1.Bp]; rfl,q1⟩)
def tB (t:TE):TT:=fun σ H Q=>t σ H fun x H1=>∃ c,x = .bl c/\Q c H1
theorem Jz {op:CmpOp} {t:TE} (h:PC X op a b t) (h1:QK op b=false:=by first | exact uK _ (by decide) (by decide) | rfl):PE X (.Compare a [op] [b] pos) t:=fun pins s σ H Q I hw=>wpAny_Compare1 (h pins s σ H Q I hw) h1
theorem wZ {op:CmpOp} {t:TE} (h:PC X op a b t) (h1:QK op b=false:=by first | exact uK _ (by decide) (by decide) | rfl):PT X (.Compare a [op] [b] pos) (tB t):=by
 intro pins s σ H Q I hw
 refine wpAny_isTrue_Compare1 (thn (h pins s σ H _ I hw) fun v s1 h1=>thn h1 fun u s2 h2=>thn h2 fun c s3 ⟨x,H1,I1,r1,q1⟩=>?_) h1
 obtain⟨d,rfl,q⟩:=q1
 cases r1
 exact Qm ⟨H1,I1,q⟩
theorem gB {e:Expr} {t:TE} (h:PE X e t) (he:∀ whole,isTrue e X.env whole=(do let v ← whole; standAt e.pos; holding [v] (truthy v)):=by intro _; rfl):PT X e (tB t):=by
 intro pins s σ H Q I hw
 refine isTrue_plain (thn (h pins s σ H _ I hw) fun v s1 ⟨x,H1,I1,r1,q1⟩=>?_) (he _)
 obtain⟨d,rfl,q⟩:=q1
 cases r1
 exact Qm ⟨H1,I1,q⟩
variable {tA tB':TT} {rest:List Expr}
def Li (t u:TT):TT:=fun σ H Q=>t σ H fun c H1=>if c=true then u σ H1 Q else Q false H1
def tOr (t u:TT):TT:=fun σ H Q=>t σ H fun c H1=>if c=true then Q true H1 else u σ H1 Q
def Lq (t:TT):TT:=fun σ H Q=>t σ H fun c H1=>Q (!c) H1
theorem zy (ha:PT X a tA):PW X (.BoolOp .And [a] pos) tA:=by
 intro wh pins s σ H Q I h
 refine isTrue_and (thn (ha pins s σ H Q I h) fun c s1 e=>?_)
 cases c with
 | true=>exact isTrue_and_nil e
 | false=>exact e
theorem JM (ha:PT X a tA):PW X (.BoolOp .Or [a] pos) tA:=by
 intro wh pins s σ H Q I h
 refine isTrue_or (thn (ha pins s σ H Q I h) fun c s1 e=>?_)
 cases c with
 | false=>exact isTrue_or_nil e
 | true=>exact e
theorem CZ (ha:PT X a tA) (hb:PW X (.BoolOp .And (b::rest) pos) tB'):PW X (.BoolOp .And (a::b::rest) pos) (Li tA tB'):=by
 intro wh pins s σ H Q I h
 refine isTrue_and (thn (ha pins s σ H _ I h) fun c s1 ⟨H1,I1,q1⟩=>?_)
 cases c with
 | true=>exact hb wh pins s1 σ H1 Q I1 q1
 | false=>exact⟨H1,I1,q1⟩
theorem Ko (ha:PT X a tA) (hb:PW X (.BoolOp .Or (b::rest) pos) tB'):PW X (.BoolOp .Or (a::b::rest) pos) (tOr tA tB'):=by
 intro wh pins s σ H Q I h
 refine isTrue_or (thn (ha pins s σ H _ I h) fun c s1 ⟨H1,I1,q1⟩=>?_)
 cases c with
 | true=>exact⟨H1,I1,q1⟩
 | false=>exact hb wh pins s1 σ H1 Q I1 q1
theorem nq (ha:PT X a tA):PT X (.UnaryOp .Not a pos) (Lq tA):=by
 intro pins s σ H Q I h
 exact isTrue_not (ha pins s σ H (fun c H1=>Q (!c) H1) I h)
def J5 (ta tb:TE):TE:=fun σ H Q=>ta σ H fun x H1=>∃ c,x = .bl c/\if c=true then tb σ H1 Q else Q (.bl false) H1
theorem yf {op} {t:TE} (h:PE X a t):PE X (.BoolOp op [a] pos) t:=fun pins s σ H Q I hw=>BoolOp_one (h pins s σ H Q I hw)
theorem uo (ha:PE X a ta) (hb:PE X (.BoolOp .And (b::rest) pos) tb):PE X (.BoolOp .And (a::b::rest) pos) (J5 ta tb):=by
 intro pins s σ H Q I h
 refine BoolOp_and (thn (ha pins s σ H _ I h) fun v s1 ⟨x,H1,I1,r1,q1⟩=>?_)
 obtain⟨c,rfl,q1⟩:=q1
 cases r1
 refine Qm ?_
 cases c with
 | true=>exact hb pins s1 σ H1 Q I1 q1
 | false=>exact⟨.bl false,H1,I1,rfl,q1⟩
def tIf (t:TT) (ta tb:TE):TE:=fun σ H Q=>t σ H fun c H1=>if c=true then ta σ H1 Q else tb σ H1 Q
theorem Bb {c:Expr} (hc:PT X c tA) (ha:PE X a ta) (hb:PE X b tb):PE X (.IfExp c a b pos) (tIf tA ta tb):=by
 intro pins s σ H Q I h
 refine wpAny_IfExp (thn (hc pins s σ H _ I h) fun d s1 ⟨H1,I1,q1⟩=>?_)
 cases d with
 | true=>exact ha pins s1 σ H1 Q I1 q1
 | false=>exact hb pins s1 σ H1 Q I1 q1
end
end L2
namespace L2
open PySem PySem.Spec PyProof.Rows
def SqL (K:MP) (H:Hp) (a:Addr) (xs:List V):Prop :=
 Rd H a (.lst xs) ∨
  ∃ (o:Qv) (its:Array Mh) (n:Nat),K.lookup a=some o/\o.cls = .type "list"/\o.dict=none/\o.data = .seq its n/\its.size<=sizeLine/\Vals xs its.toList
def SqT (K:MP) (H:Hp) (a:Addr) (xs:List V):Prop :=
 Rd H a (.tup xs) ∨
  ∃ (o:Qv) (its:Array Mh) (n:Nat),K.lookup a=some o/\o.cls = .type "tuple"/\o.data = .seq its n/\its.size<=sizeLine/\Vals xs its.toList
def Lw:Mh->Option V
 | .none=>some .non
 | .bool b=>some (.bl b)
 | .int i _=>some (.int i)
 | .str x _=>some (.str x)
 | .bytes b _=>some (.byt b)
 | .float b _=>some (.flt b)
 | .ref a=>some (.ref a)
 | .type n=>some (.ty n)
 | _=>none
theorem RelV.abs {x:V} {u:Mh} (r:RelV x u):Lw u=some x:=by
 cases x with
 | non=>cases r; rfl
 | bl _=>cases r; rfl
 | int _=>obtain⟨t,rfl⟩:=r; rfl
 | str _=>obtain⟨t,rfl⟩:=r; rfl
 | byt _=>obtain⟨t,rfl⟩:=r; rfl
 | flt _=>obtain⟨t,rfl⟩:=r; rfl
 | ref _=>cases r; rfl
 | ty _=>cases r; rfl
theorem RelV.inj {x y:V} {u:Mh} (r:RelV x u) (q:RelV y u):x=y:=M9 (r.abs.symm.trans q.abs)
theorem Vals.inj:∀ {xs ys:List V} {us:List Mh},Vals xs us->Vals ys us->xs=ys
 | _,_,_,.nil,.nil=>rfl
 | _,_,_,.cons r t,.cons r' t'=>by rw[r.inj r',Vals.inj t t']
section
variable {X:Cx} {pins:List (Addr × Qv)} {σ:St} {H:Hp} {s:Mj} {a:Addr} {xs ys:List V}
theorem SqL.of {K:MP} (h:H a=some (.lst xs)):SqL K H a xs:=.inl (.inl h)
theorem SqT.of {K:MP} (h:H a=some (.tup xs)):SqT K H a xs:=.inl (.inl h)
theorem Inv.list (I:Inv X pins σ H s) (h:SqL X.K H a xs):∃ its:List Mh,Vals xs its/\PlainL s.heap a its.toArray/\xs.length<=sizeLine:=by
 rcases h with h | ⟨o,its,n,hk,hc,hd,hs,hz,r⟩
 ·obtain⟨z,its,n,r,e⟩:=h.ok I.hok
  exact⟨its,r,⟨_,n,e,rfl,rfl,rfl⟩,z⟩
 ·refine⟨its.toList,r,⟨o,n,I.kIn a o hk,hc,hd,by simpa using hs⟩,?_⟩
  have e:=r.length
  simp only[Nr] at e
  lia
theorem Inv.tuple (I:Inv X pins σ H s) (h:SqT X.K H a xs):∃ its:List Mh,Vals xs its/\IsTup s.heap a its.toArray/\xs.length<=sizeLine:=by
 rcases h with h | ⟨o,its,n,hk,hc,hs,hz,r⟩
 ·obtain⟨z,its,r,p⟩:=h.ok I.hok
  exact⟨its,r,p,z⟩
 ·refine⟨its.toList,r,⟨o,I.kIn a o hk,hc,n,by simpa using hs⟩,?_⟩
  have e:=r.length
  simp only[Nr] at e
  lia
theorem Inv.nQ (I:Inv X pins σ H s) (h:SqL X.K H a xs) (h':SqL X.K H a ys):xs=ys:=by
 obtain⟨its,r,⟨o,n,e,_,_,d⟩,_⟩:=I.list h
 obtain⟨its',r',⟨o',n',e',_,_,d'⟩,_⟩:=I.list h'
 rw[e] at e'; cases e'
 rw[d] at d'
 injection d' with d1 _
 have:its=its':=by simpa using congrArg Array.toList d1
 subst this
 exact r.inj r'
theorem Inv.dG (I:Inv X pins σ H s) (h:SqT X.K H a xs) (h':SqT X.K H a ys):xs=ys:=by
 obtain⟨its,r,⟨o,e,_,n,d⟩,_⟩:=I.tuple h
 obtain⟨its',r',⟨o',e',_,n',d'⟩,_⟩:=I.tuple h'
 rw[e] at e'; cases e'
 rw[d] at d'
 injection d' with d1 _
 have:its=its':=by simpa using congrArg Array.toList d1
 subst this
 exact r.inj r'
end
abbrev Cx.wish (X:Cx) (E:Mh->Mj->Prop):Cx:={ X with xe:=E }
abbrev Cx.nox (X:Cx):Cx:=X.wish fun _ _=>False
theorem Cx.Ok.wish {X:Cx} (ok:X.Ok) (E:Mh->Mj->Prop):(X.wish E).Ok :=
 ⟨ok.mod,ok.kind,ok.glob,ok.blt,ok.above,ok.inj,ok.has,ok.cab,ok.hd,ok.frames,ok.stk,ok.exf,ok.bs,ok.bsz,ok.noex,ok.exfs,ok.zR,ok.frf⟩
theorem Cx.Ok.jE {X:Cx} {E:Mh->Mj->Prop} (ok:(X.wish E).Ok):X.Ok :=
 ⟨ok.mod,ok.kind,ok.glob,ok.blt,ok.above,ok.inj,ok.has,ok.cab,ok.hd,ok.frames,ok.stk,ok.exf,ok.bs,ok.bsz,ok.noex,ok.exfs,ok.zR,ok.frf⟩
section
variable {X:Cx} {pins:List (Addr × Qv)} {σ:St} {H:Hp} {s:Mj} {E:Mh->Mj->Prop}
theorem Inv.wish (I:Inv X pins σ H s) (E:Mh->Mj->Prop):Inv (X.wish E) pins σ H s:=⟨I.ok.wish E,I.os,I.bare,I.base,I.loc,I.cell,I.free,I.freeC,I.pin,I.hok,I.len⟩
theorem Inv.jE (I:Inv (X.wish E) pins σ H s):Inv X pins σ H s:=⟨I.ok.jE,I.os,I.bare,I.base,I.loc,I.cell,I.free,I.freeC,I.pin,I.hok,I.len⟩
theorem SP.jE {D:Ends} {f:Flow} {s':Mj} (h:SP (X.wish E) pins D f s'):SP X pins D f s':=by
 cases f with
 | next=>obtain⟨σ',H',I,q⟩:=h; exact⟨σ',H',I.jE,q⟩
 | brk=>obtain⟨σ',H',I,q⟩:=h; exact⟨σ',H',I.jE,q⟩
 | cont=>obtain⟨σ',H',I,q⟩:=h; exact⟨σ',H',I.jE,q⟩
 | ret u=>obtain⟨v,σ',H',I,r,q⟩:=h; exact⟨v,σ',H',I.jE,r,q⟩
theorem PSs.nox {st:List Stmt} {t:TS} (h:PSs X.nox st t):PSs X st t:=fun pins s σ H D I hw =>
 PQ (h pins s σ H D (I.wish _) hw) (fun _ _ q=>q.jE) fun _ _ z=>Q0 z
end
section
variable {X:Cx} {st:Stmt} {rest:List Stmt} {t u:TS} {e:Expr} {te:TE} {pos:R8}
def Jh:TS:=fun D σ H=>D.nx σ H
def K4 (t u:TS):TS:=fun D σ H=>t { D with nx:=u D } σ H
theorem aV:PSs X [] Jh:=fun _ _ σ H _ I h=>Tp ⟨σ,H,I,h⟩
theorem aq (h1:PS X st t) (h2:PSs X rest u):PSs X (st::rest) (K4 t u):=by
 intro pins s σ H D I h
 refine wpAny_execs_cons (thn (h1 pins s σ H { D with nx:=u D } I h) fun f s1 q=>?_)
 cases f with
 | next =>
  obtain⟨σ',H',I',q⟩:=q
  exact h2 pins s1 σ' H' D I' q
 | ret v=>exact q
 | brk=>exact q
 | cont=>exact q
theorem aA (h1:PS X st t):PSs X [st] t:=by
 intro pins s σ H D I h
 refine wpAny_execs_cons (thn (h1 pins s σ H D I h) fun f s1 q=>?_)
 cases f with
 | next=>exact Tp q
 | ret v=>exact q
 | brk=>exact q
 | cont=>exact q
theorem Inv.quiet {pins:List (Addr × Qv)} {σ:St} {H:Hp} {s:Mj} (I:Inv X pins σ H s):interactive X.env=false:=by simp [interactive,I.ok.kind]
def J9 (te:TE):TS:=fun D σ H=>te σ H fun _ H1=>D.nx σ H1
theorem dM (he:PE X e te) (hs:swapsWith e none pos.line X.env=pure false:=by rfl):PS X (.Expr e pos) (J9 te):=by
 intro pins s σ H D I h
 exact wpAny_Expr_any (thn (he pins s σ H _ I h) fun v s1 ⟨x,H1,I1,r1,q1⟩=>⟨σ,H1,I1,q1⟩) I.quiet hs
def KC (te:TE):TS:=fun D σ H=>te σ H D.rt
theorem aO (he:PE X e te):PS X (.Return (some e) pos) (KC te):=by
 intro pins s σ H D I h
 exact wpAny_Return_some (thn (he pins s σ H _ I h) fun v s1 ⟨x,H1,I1,r1,q1⟩=>⟨x,σ,H1,I1,r1,q1⟩)
def Ld (c:TT) (t u:TS):TS:=fun D σ H=>c σ H fun b H1=>if b=true then t D σ H1 else u D σ H1
theorem cU {c:Expr} {a b:List Stmt} {tc:TT} (hc:PT X c tc) (ha:PSs X a t) (hb:PSs X b u):PS X (.If c a b pos) (Ld tc t u):=by
 intro pins s σ H D I h
 refine wpAny_If (thn (hc pins s σ H _ I h) fun d s1 ⟨H1,I1,q1⟩=>?_)
 cases d with
 | true=>exact ha pins s1 σ H1 D I1 q1
 | false=>exact hb pins s1 σ H1 D I1 q1
def IV:TS:=fun _ _ _=>False
theorem Cd:PS X st IV:=fun _ _ _ _ _ _ h=>h.elim
end
abbrev TG:=V->St->Hp->(St->Hp->Prop)->Prop
abbrev TGs:=List V->St->Hp->(St->Hp->Prop)->Prop
def PG (X:Cx) (target:Expr) (t:TG):Prop :=
 ∀ (pins:List (Addr × Qv)) (s:Mj) (σ:St) (H:Hp) (v:V) (u:Mh) (Q:St->Hp->Prop),Inv X pins σ H s->RelV v u->t v σ H Q →
  Mw (M6 X.prog X.w) X.A (assign target X.env u) (fun _ s'=>∃ σ' H',Inv X pins σ' H' s'/\Q σ' H') X.xe s
def PGs (X:Cx) (ts:List Expr) (t:TGs):Prop :=
 ∀ (pins:List (Addr × Qv)) (s:Mj) (σ:St) (H:Hp) (vs:List V) (us:List Mh) (Q:St->Hp->Prop),Inv X pins σ H s->Vals vs us->t vs σ H Q →
  Mw (M6 X.prog X.w) X.A (assignInOrder ((RL ts X.env).map (·.2)) us) (fun _ s'=>∃ σ' H',Inv X pins σ' H' s'/\Q σ' H') X.xe s
abbrev Kr:=V->V->V->Hp->(Hp->Prop)->Prop
def KH (X:Cx) (t:Kr):Prop :=
 ∀ (pins:List (Addr × Qv)) (s:Mj) (σ:St) (H:Hp) (o i v:V) (ov iv u:Mh) (Q:Hp->Prop),Inv X pins σ H s->RelV o ov->RelV i iv->RelV v u->t o i v H Q →
  Mw (M6 X.prog X.w) X.A (setItem ov iv u) (fun _ s'=>∃ H',Inv X pins σ H' s'/\Q H') X.xe s
section
variable {X:Cx} {pos:R8}
def Az (i:Nat):TG:=fun v σ H Q=>Q (σ.set i (some v)) H
theorem aH {i:Nat} {x:Ou} (hN:X.N.Nodup) (hi:X.N[i]? = some x) (hx:Loc X.env.scope x) (hf:X.fn x=true∨X.env.scope.names.lookup x=some .local:=by first | exact .inl rfl | exact .inr rfl | assumption):PG X (.Name x pos) (Az i):=by
 intro pins s σ H v u Q I r h
 exact wpAny_assign_Name (uV I hN hi hx r (fun s' I'=>⟨_,H,I',h⟩) hf)
def Le:TGs:=fun vs σ H Q=>vs=[]/\Q σ H
def J8 (t:TG) (u:TGs):TGs:=fun vs σ H Q=>∃ v r,vs=v::r/\t v σ H fun σ' H'=>u r σ' H' Q
theorem eF:PGs X [] Le:=by
 intro pins s σ H vs us Q I r h
 obtain⟨e,h⟩:=h
 subst e
 cases r
 exact assignInOrder_nil ⟨σ,H,I,h⟩
theorem aW {e:Expr} {es:List Expr} {t:TG} {u:TGs} (h1:PG X e t) (h2:PGs X es u)
  (hs:(RL (e::es) X.env).map (·.2)=assign e X.env::(RL es X.env).map (·.2):=by rfl):PGs X (e::es) (J8 t u):=by
 intro pins s σ H vs us Q I r h
 obtain⟨v,vr,e1,h⟩:=h
 subst e1
 cases r with
 | cons r rr =>
  rw[hs]
  refine assignInOrder_cons (thn (h1 pins s σ H _ _ _ I r h) fun _ s1 ⟨σ1,H1,I1,q1⟩=>?_)
  exact h2 pins s1 σ1 H1 _ _ Q I1 rr q1
def K3 (K:MP) (n:Nat) (t:TGs):TG:=fun v σ H Q=>∃ a xs,v = .ref a/\SqT K H a xs/\xs.length=n/\t xs σ H Q
theorem Je {es:List Expr} {k:Nat} {t:TGs} {n:Nat} (hc:X.calm=true) (h:PGs X es t)
  (hn:(RL es X.env).length=n:=by rfl) (hst:(RL es X.env).findIdx? (·.1)=none:=by rfl):PG X (.Tuple es k pos) (K3 X.K n t):=by
 intro pins s σ H v u Q I r hw
 obtain⟨a,xs,e1,hq,hl,hw⟩:=hw
 subst e1
 cases r
 obtain⟨its,rv,ht,hz⟩:=I.tuple hq
 refine assign_Tuple_tuple (I.ok.hd hc) ht (by simp [hn,← hl,rv.length]) hst fun h' hx=>?_
 have I1:Inv X pins σ H { s with heap:=h' }:=I.kept (t':=s.toks) fun b o e=>hx b o (Nb (Mx e)) e
 exact h pins _ σ H xs _ Q I1 (by simpa using rv) hw
def K6 (to ti:TE) (t:Kr):TG:=fun v σ H Q=>to σ H fun o H1=>ti σ H1 fun i H2=>t o i v H2 fun H3=>Q σ H3
theorem Ck {o i:Expr} {to ti:TE} {t:Kr} (ho:PE X o to) (hi:PE X i ti) (hs:KH X t)
  (ha:∀ v,assign (.Subscript o i pos) X.env v=(do
   let ov ← holding [v] (Qd o X.env)
   let iv ← holding [v,ov] (Qd i X.env)
   standAt pos
   holding [v,ov,iv] (setItem ov iv v)
   release [v,ov,iv] []):=by intro _; rfl):PG X (.Subscript o i pos) (K6 to ti t):=by
 intro pins s σ H v u Q I r h
 rw[ha]
 refine LR (Rh (thn (ho pins s σ H _ I h) fun ov s1 ⟨x,H1,I1,r1,q1⟩=>?_))
 refine LR (Rh (thn (hi pins s1 σ H1 _ I1 q1) fun iv s2 ⟨y,H2,I2,r2,q2⟩=>?_))
 refine LR (wpAny_standAt (LR (Rh (thn (hs pins s2 σ H2 x y v ov iv u _ I2 r1 r2 r q2) fun _ s3 ⟨H3,I3,q3⟩=>?_))))
 exact wpAny_release ⟨σ,H3,I3,q3⟩
def K1 (te:TE) (g:TG):TS:=fun D σ H=>te σ H fun x H1=>g x σ H1 D.nx
theorem xV {tg e:Expr} {te:TE} {g:TG} (he:PE X e te) (hg:PG X tg g) (hs:swapsWithSole [tg] e pos.line X.env=pure false:=by rfl) (hw:swappedStores [tg] e X.env=pure none:=by rfl)
  (h1:(RL [tg] X.env).map (·.2)=[assign tg X.env]:=by rfl):PS X (.Assign [tg] e pos) (K1 te g):=by
 intro pins s σ H D I h
 refine wpAny_Assign_stores (thn (he pins s σ H _ I h) fun v s1 ⟨x,H1,I1,r1,q1⟩=>?_) hs hw
 rw[h1]
 exact thn (hg pins s1 σ H1 x v _ I1 r1 q1) fun _ s2 q=>q
theorem aM {i:Nat} {x:Ou} {e:Expr} {te:TE} {pos':R8} (hN:X.N.Nodup) (hi:X.N[i]? = some x) (hx:Loc X.env.scope x) (he:PE X e te) (hs:swapsWith e (some (.Name x pos')) pos.line X.env=pure false:=by rfl) (hf:X.fn x=true∨X.env.scope.names.lookup x=some .local:=by first | exact .inl rfl | exact .inr rfl | assumption) :
  PS X (.Assign [.Name x pos'] e pos) (K1 te (Az i)):=by
 intro pins s σ H D I h
 refine wpAny_Assign_Name (thn (he pins s σ H _ I h) fun v s1 ⟨y,H1,I1,r1,q1⟩=>?_) hs
 exact uV I1 hN hi hx r1 (fun s2 I2=>⟨_,H1,I2,q1⟩) hf
end
section
variable {X:Cx} {pos:R8}
def Dv (c:TT) (tb:TS):TS:=fun D σ H=>∃ W:Nat->St->Hp->Prop,(∃ m,W m σ H)/\∀ m σ H,W m σ H →
 c σ H fun b H1=>if b=true then ∃ N:St->Hp->Prop,(∀ σ' H',N σ' H'->∃ m',m' < m/\W m' σ' H')/\tb { D with nx:=N,ct:=N,bk:=D.nx } σ H1 else D.nx σ H1
theorem jR {c:Expr} {body:List Stmt} {tc:TT} {tb:TS} (hp:PassesOwn (M6 X.prog X.w) X.A X.env X.xe) (hc:PT X c tc) (hb:PSs X body tb):PS X (.While c body [] pos) (Dv tc tb):=by
 intro pins s σ H D I h
 obtain⟨W,⟨m0,w0⟩,turn⟩:=h
 refine wpAny_While (codeAny_whileLoop (fun n s'=>∃ σ' H',Inv X pins σ' H' s'/\W n σ' H') ?_ m0 ⟨σ,H,I,w0⟩)
 rintro n s1 ⟨σ1,H1,I1,w1⟩
 refine QF hp (thn (hc pins s1 σ1 H1 _ I1 (turn n σ1 H1 w1)) fun b s2 ⟨H2,I2,q2⟩=>?_)
 cases b with
 | true =>
  obtain⟨N,hN,q2⟩:=q2
  rw[if_pos rfl]
  refine QF hp (thn (hb pins s2 σ1 H2 _ I2 q2) fun f s3 q3=>?_)
  cases f with
  | next =>
   obtain⟨σ3,H3,I3,n3⟩:=q3
   obtain⟨m',hm,w3⟩:=hN σ3 H3 n3
   exact⟨m',hm,σ3,H3,I3,w3⟩
  | cont =>
   obtain⟨σ3,H3,I3,n3⟩:=q3
   obtain⟨m',hm,w3⟩:=hN σ3 H3 n3
   exact⟨m',hm,σ3,H3,I3,w3⟩
  | brk=>exact q3
  | ret v=>exact q3
 | false =>
  rw[if_neg Mr]
  exact Tp ⟨σ1,H2,I2,q2⟩
end
structure It where
 go:Nat->Hp->Prop
 yld:Nat->Hp->V->Hp->Prop
 stop:Nat->Hp->Prop
def rF (X:Cx) (pins:List (Addr × Qv)) (H:Hp) (b:Addr):Prop :=
 H b=none/\b≠X.env.locals/\b ∉ X.fs/\(b∈X.ex∨X.s₀.heap.objs.size<=b)/\(∀ x c,X.env.cells.lookup x=some c->c≠b)/\∀ p∈X.pn++pins,p.1≠b
theorem Inv.Ak {X:Cx} {pins:List (Addr × Qv)} {σ:St} {H H':Hp} {s:Mj} {b:Addr} (I:Inv X pins σ H s) (hb:s.heap.objs.size<=b) (hn:H' b=none):rF X pins H' b:=by
 refine⟨hn,Pb (M7 I.lt hb),I.Lr hb,.inr (Ob I.sz hb),fun x c e z=>?_,fun p hp z=>?_⟩
 ·obtain⟨v,q⟩:=I.cell x c e
  exact absurd (M7 q.lt (by rw[z]; exact hb)) (O5 _)
 ·exact absurd (M7 (Mx (I.pin p hp).1) (by rw[z]; exact hb)) (O5 _)
structure Turn (P:M8) (w:NQ) (K:MP) (tg:Expr) (J:It) (fp:List Addr) (it:Addr) (tn:Nat->N5->Prop):Prop where
 mem:it∈fp
 obj:∀ i h,tn i h->∀ b∈fp,∃ o,h.get? b=some o/\∀ v,o.data≠.cell v
 keep:∀ i h h',tn i h->(∀ b∈fp,∀ o,h.get? b=some o->h'.get? b=some o)->tn i h'
 item:∀ (X:Cx),X.prog=P->X.w=w->X.K=K->X.calm=true->∀ (i:Nat) (pins:List (Addr × Qv)) (s:Mj) (σ:St) (H:Hp) (E:Mh->Mj->Prop),Inv X pins σ H s->(∀ b∈fp,rF X pins H b)->tn i s.heap->J.go i H →
  Mw (M6 P w) X.A (Qx (.ref it)) (fun r s1=>∃ u,r=some u ∧
   Mw (M6 P w) X.A (Tr tg (.ref it) u) (fun _ s2=>∃ x H',Inv X pins σ H' s2/\RelV x u/\J.yld i H x H'/\tn (i+1) s2.heap/\∀ b∈fp,H' b=none) E s1) E s
 done:∀ (X:Cx),X.prog=P->X.w=w->X.K=K->X.calm=true->∀ (i:Nat) (pins:List (Addr × Qv)) (s:Mj) (σ:St) (H:Hp) (E:Mh->Mj->Prop),Inv X pins σ H s->(∀ b∈fp,rF X pins H b)->tn i s.heap->J.stop i H →
  Mw (M6 P w) X.A (Qx (.ref it)) (fun r s1=>r=none/\Inv X pins σ H s1) E s
 self:∀ (A:N8) (i:Nat) (s:Mj) (Q:Mh->Mj->Prop) (E:Mh->Mj->Prop),tn i s.heap->Q (.ref it) s->Mw (M6 P w) A (pyIter (.ref it)) Q E s
abbrev TI:=St->Hp->(It->Hp->Prop)->Prop
def PIE (X:Cx) (pins:List (Addr × Qv)) (σ:St) (tg:Expr) (R:It->Hp->Prop) (itv:Mh) (s2:Mj):Prop :=
 ∃ (it:Addr) (fp:List Addr) (tn:Nat->N5->Prop) (J:It) (H':Hp),itv = .ref it/\Inv X pins σ H' s2/\Turn X.prog X.w X.K tg J fp it tn/\tn 0 s2.heap/\(∀ b∈fp,rF X pins H' b)/\R J H'
def PI (X:Cx) (tg iter:Expr) (wi:TI):Prop :=
 ∀ (pins:List (Addr × Qv)) (s:Mj) (σ:St) (H:Hp) (R:It->Hp->Prop),Inv X pins σ H s->wi σ H R →
  Mw (M6 X.prog X.w) X.A (Qd iter X.env) (fun v s1=>Mw (M6 X.prog X.w) X.A (pyIter v) (PIE X pins σ tg R) X.xe s1) X.xe s
theorem Bv {M : Model} {A : N8} {E : Mh → Mj → Prop} {s : Mj} {tg : Expr} {it : Addr} {u : Mh} {o : Qv} {n : String} {vs : Array Mh} {Q : Unit → Mj → Prop} (ho : s.heap.get? it = some o) (hc : o.cls = .type n) (hd : o.data = .fields vs)
    (hn : ["enumerate", "zip", "dict_itemiterator", "dict_reverseitemiterator", "odict_iterator", "itertools.zip_longest", "itertools.pairwise"].contains n = false) (hQ : Q () s) : Mw M A (Tr tg (.ref it) u) Q E s := by
  unfold Tr
  cases tg <;> first
    | exact Mp hQ
    | (cases u <;> first
        | exact Mp hQ
        | (refine LR (wpAny_load ho ?_)
           rw [hc, hd]
           show Mw M A (if (["enumerate", "zip", "dict_itemiterator", "dict_reverseitemiterator", "odict_iterator", "itertools.zip_longest", "itertools.pairwise"].contains n && vs[0]? == some (QV _)) = true then _ else _) Q E s
           rw [if_neg (by intro h; rw [hn, Bool.false_and] at h; cases h)]
           exact Mp hQ))
def Itl (K:MP) (a:Addr):It :=
 ⟨fun i H=>∃ xs x,SqL K H a xs/\xs[i]? = some x,fun i H x H'=>H'=H/\∀ xs,SqL K H a xs->xs[i]? = some x,fun i H=>∃ xs,SqL K H a xs/\xs.length<=i⟩
def Itt (K:MP) (a:Addr):It :=
 ⟨fun i H=>∃ xs x,SqT K H a xs/\xs[i]? = some x,fun i H x H'=>H'=H/\∀ xs,SqT K H a xs->xs[i]? = some x,fun i H=>∃ xs,SqT K H a xs/\xs.length<=i⟩
def Itr (lo:Int) (n:Nat):It:=⟨fun i _=>i < n,fun i H x H'=>H'=H/\x = .int (lo+i),fun i _=>n<=i⟩
theorem yF {P:M8} {w:NQ} {K:MP} {tg:Expr} (a it:Addr):Turn P w K tg (Itl K a) [it] it (fun i h=>h.IsListIter it a i) where
 mem:=by simp
 obj:=fun i h st b hb=>by
  have e:b=it:=by simpa using hb
  subst e
  obtain⟨o,e,c,d⟩:=st
  exact⟨o,e,fun v z=>by rw[d] at z; cases z⟩
 keep:=fun i h h' st k=>st.at fun o e=>k it (by simp) o e
 item:=by
  intro X hP hw hK hc i pins s σ H E I hf st hg
  subst hP hw hK
  obtain⟨xs,x,hq,hx⟩:=hg
  obtain⟨its,rv,p,hz⟩:=I.list hq
  obtain⟨u,hu,ru⟩:=rv.get hx
  obtain⟨f0,f1,f2,f3,f4,f5⟩:=hf it (by simp)
  refine wpAny_pyNext_list_item st p.isList (x:=u) (by simpa using hu) fun h' st' sb=>?_
  have I1:Inv X pins σ H { s with heap:=h' }:=I.turned (t':=s.toks) (fun b o hb e=>(sb.2 b hb).trans e) f0 f1 f3 f4 f5
  obtain⟨o,e,c,d⟩:=id st'
  exact⟨u,rfl,Bv (s:={ s with heap:=h' }) e c d (by decide) ⟨x,H,I1,ru,⟨rfl,fun ys hy=>by rw[I.nQ hy hq]; exact hx⟩,st',fun b hb=>(hf b hb).1⟩⟩
 done:=by
  intro X hP hw hK hc i pins s σ H E I hf st hg
  subst hP hw hK
  obtain⟨xs,hq,hx⟩:=hg
  obtain⟨its,rv,p,hz⟩:=I.list hq
  obtain⟨f0,f1,f2,f3,f4,f5⟩:=hf it (by simp)
  have hl:=rv.length
  exact wpAny_pyNext_list_end (I.ok.hd hc) st p.isList (by simp; lia) fun h' eb=>⟨rfl,I.turned (t':=s.toks) (fun b o hb e=>eb b o hb e) f0 f1 f3 f4 f5⟩
 self:=fun _ _ _ _ _ st h=>wpAny_pyIter_listiter st h
theorem vy {P:M8} {w:NQ} {K:MP} {tg:Expr} (a it:Addr):Turn P w K tg (Itt K a) [it] it (fun i h=>h.IsTupleIter it a i) where
 mem:=by simp
 obj:=fun i h st b hb=>by
  have e:b=it:=by simpa using hb
  subst e
  obtain⟨o,e,c,d⟩:=st
  exact⟨o,e,fun v z=>by rw[d] at z; cases z⟩
 keep:=fun i h h' st k=>st.at fun o e=>k it (by simp) o e
 item:=by
  intro X hP hw hK hc i pins s σ H E I hf st hg
  subst hP hw hK
  obtain⟨xs,x,hq,hx⟩:=hg
  obtain⟨its,rv,p,hz⟩:=I.tuple hq
  obtain⟨u,hu,ru⟩:=rv.get hx
  obtain⟨f0,f1,f2,f3,f4,f5⟩:=hf it (by simp)
  refine wpAny_pyNext_tuple_item st (show s.heap.IsTuple a its.toArray from p) (x:=u) (by simpa using hu) fun h' st' sb=>?_
  have I1:Inv X pins σ H { s with heap:=h' }:=I.turned (t':=s.toks) (fun b o hb e=>(sb.2 b hb).trans e) f0 f1 f3 f4 f5
  obtain⟨o,e,c,d⟩:=id st'
  exact⟨u,rfl,Bv (s:={ s with heap:=h' }) e c d (by decide) ⟨x,H,I1,ru,⟨rfl,fun ys hy=>by rw[I.dG hy hq]; exact hx⟩,st',fun b hb=>(hf b hb).1⟩⟩
 done:=by
  intro X hP hw hK hc i pins s σ H E I hf st hg
  subst hP hw hK
  obtain⟨xs,hq,hx⟩:=hg
  obtain⟨its,rv,p,hz⟩:=I.tuple hq
  obtain⟨f0,f1,f2,f3,f4,f5⟩:=hf it (by simp)
  have hl:=rv.length
  exact wpAny_pyNext_tuple_end (I.ok.hd hc) st (show s.heap.IsTuple a its.toArray from p) (by simp; lia) fun h' eb=>⟨rfl,I.turned (t':=s.toks) (fun b o hb e=>eb b o hb e) f0 f1 f3 f4 f5⟩
 self:=fun _ _ _ _ _ st h=>wpAny_pyIter_tupleiter st h
theorem wj {P:M8} {w:NQ} {K:MP} {tg:Expr} (it:Addr) (lo:Int) (n:Nat):Turn P w K tg (Itr lo n) [it] it (fun i h=>IsRangeIter h it (lo+(i:Nat) * 1) ((n:Int) - (i:Nat)) 1) where
 mem:=by simp
 obj:=fun i h st b hb=>by
  have e:b=it:=by simpa using hb
  subst e
  exact⟨_,st,fun v z=>by
   have z':Data.fields _=Data.cell v:=z
   cases z'⟩
 keep:=fun i h h' st k=>k it (by simp) _ st
 item:=by
  intro X hP hw hK hc i pins s σ H E I hf st hg
  subst hP hw hK
  obtain⟨f0,f1,f2,f3,f4,f5⟩:=hf it (by simp)
  have W:=Walks.range (prog:=X.prog) (w:=X.w) (I.ok.hd hc) it lo 1 n
  refine W.item i s _ _ hg st fun v h' tk hv st' kk=>?_
  obtain⟨t,rfl⟩:=hv
  have I1:Inv X pins σ H { s with heap:=h',toks:=tk }:=I.turned (fun b o hb e=>kk b o (by simpa using hb) e) f0 f1 f3 f4 f5
  refine⟨_,rfl,Bv (s:={ s with heap:=h',toks:=tk }) (n:="range_iterator") st' rfl rfl (by decide) ⟨.int (lo+i),H,I1,⟨t,?_⟩,⟨rfl,rfl⟩,st',fun b hb=>(hf b hb).1⟩⟩
  rw[Int.mul_one]
 done:=by
  intro X hP hw hK hc i pins s σ H E I hf st hg
  subst hP hw hK
  obtain⟨f0,f1,f2,f3,f4,f5⟩:=hf it (by simp)
  exact wpAny_pyNext_range_end (I.ok.hd hc) st (by have:n<=i:=hg; lia) fun h' eb=>⟨rfl,I.turned (t':=s.toks) (fun b o hb e=>eb b o hb e) f0 f1 f3 f4 f5⟩
 self:=fun _ _ _ _ _ st h=>wpAny_pyIter_rangeiter st h
end L2
namespace L2
open PySem PySem.Spec PyProof.Rows
section
variable {X:Cx} {tg:Expr}
def Jo (K:MP) (tl:TE):TI:=fun σ H R=>tl σ H fun x H1=>∃ a,x = .ref a/\(∃ xs,SqL K H1 a xs)/\R (Itl K a) H1
def Lj (K:MP) (tl:TE):TI:=fun σ H R=>tl σ H fun x H1=>∃ a,x = .ref a/\(∃ xs,SqT K H1 a xs)/\R (Itt K a) H1
theorem cB {l:Expr} {tl:TE} (hl:PE X l tl):PI X tg l (Jo X.K tl):=by
 intro pins s σ H R I h
 refine thn (hl pins s σ H _ I h) fun v s1 ⟨x,H1,I1,r1,q1⟩=>?_
 obtain⟨a,e,⟨xs,hq⟩,q⟩:=q1
 subst e
 cases r1
 obtain⟨its,rv,p,hz⟩:=I1.list hq
 refine Ry p.isList ?_
 refine⟨s1.heap.objs.size,[s1.heap.objs.size],_,_,H1,rfl,I1.kept (t':=s1.toks) fun b o e=>Ma _ e,yF a _,⟨_,Mm _ rfl,rfl,rfl⟩,fun b hb=>?_,q⟩
 have e:b=s1.heap.objs.size:=by simpa using hb
 subst e
 exact I1.Ak (Mt _) (I1.hok.fresh (Mt _))
theorem mQ {l:Expr} {tl:TE} (hl:PE X l tl):PI X tg l (Lj X.K tl):=by
 intro pins s σ H R I h
 refine thn (hl pins s σ H _ I h) fun v s1 ⟨x,H1,I1,r1,q1⟩=>?_
 obtain⟨a,e,⟨xs,hq⟩,q⟩:=q1
 subst e
 cases r1
 obtain⟨its,rv,p,hz⟩:=I1.tuple hq
 refine PB (show s1.heap.IsTuple a its.toArray from p) ?_
 refine⟨s1.heap.objs.size,[s1.heap.objs.size],_,_,H1,rfl,I1.kept (t':=s1.toks) fun b o e=>Ma _ e,vy a _,⟨_,Mm _ rfl,rfl,rfl⟩,fun b hb=>?_,q⟩
 have e:b=s1.heap.objs.size:=by simpa using hb
 subst e
 exact I1.Ak (Mt _) (I1.hok.fresh (Mt _))
theorem BZ {pins:List (Addr × Qv)} {σ:St} {H:Hp} {s:Mj} {R:It->Hp->Prop} {E:Mh->Mj->Prop} {lo hi:Int} {t u v:Tok} {tk:Nat} (I:Inv X pins σ H s) (h1 : -(2 ^ 62)<=lo) (h2:lo < 2 ^ 62) (h3 : -(2 ^ 62)<=hi) (h4:hi < 2 ^ 62)
  (q:R (Itr lo (hi - lo).toNat) H):Mw (M6 X.prog X.w) X.A (pyIter (.ref s.heap.objs.size)) (PIE X pins σ tg R) E { s with heap:=s.heap.push { cls:=.type "range",data:=.fields #[.int lo t,.int hi u,.int 1 v] },toks:=tk }:=by
 refine wpAny_pyIter_range (IsRange.new ..) (small_one h1 h2 h3 h4) ?_
 have I1:Inv X pins σ H { s with heap:=s.heap.push { cls:=.type "range",data:=.fields #[.int lo t,.int hi u,.int 1 v] },toks:=tk }:=I.kept fun b o e=>Ma _ e
 refine⟨(s.heap.push { cls:=.type "range",data:=.fields #[.int lo t,.int hi u,.int 1 v] }).objs.size,[(s.heap.push { cls:=.type "range",data:=.fields #[.int lo t,.int hi u,.int 1 v] }).objs.size],_,_,H,rfl,
  I1.kept (t':=tk) fun b o e=>Ma _ e,wj _ lo (hi - lo).toNat,?_,fun b hb=>?_,q⟩
 ·have e1:lo+((0:Nat):Int) * 1=lo:=by simp
  have e2:(((hi - lo).toNat:Nat):Int) - ((0:Nat):Int)=Builtin.Range.rangeSize lo hi 1:=by rw[rangeSize_one]; split <;> lia
  show IsRangeIter _ _ (lo+((0:Nat):Int) * 1) ((((hi - lo).toNat:Nat):Int) - ((0:Nat):Int)) 1
  rw[e1,e2]
  exact Mm _ rfl
 ·have e:b=(s.heap.push { cls:=.type "range",data:=.fields #[.int lo t,.int hi u,.int 1 v] }).objs.size:=by simpa using hb
  subst e
  exact I1.Ak (Mt _) (I1.hok.fresh (Mt _))
def Kd (ta:TA):TI:=fun σ H R=>ta σ H fun vs H1=>∃ j:Int,vs=[.int j]/\-(2 ^ 62)<=j/\j < 2 ^ 62/\R (Itr 0 j.toNat) H1
theorem dC {a:Expr} {ta:TA} {p pos:R8} (hg:Gl X "range") (hm:X.mg "range" = none) (ha:PA X [a] ta) (hs:Nm [a] X.env=[(false,Qd a X.env)]:=by rfl):PI X tg (.Call (.Name "range" p) [a] [] pos) (Kd ta):=by
 intro pins s σ H R I h
 refine Call_ (gm I hg hm boot_range (Oe (thn (ha pos pins s σ H _ I h) fun us s1 ⟨vs,H1,I1,r1,q1⟩=>?_) hs rfl))
 obtain⟨j,e,q1,q2,q⟩:=q1
 subst e
 cases r1 with
 | cons r rr =>
  cases rr
  obtain⟨t,rfl⟩:=r
  exact call_range_1 (BZ I1 (by lia) (by lia) q1 q2 (by simpa using q))
def Lg (wi:TI) (g:TG) (tb:TS):TS:=fun D σ H=>wi σ H fun J H1=>∃ W:Nat->Nat->St->Hp->Prop,(∃ m,W 0 m σ H1)/\∀ i m σ H,W i m σ H →
 (J.stop i H/\D.nx σ H)∨(J.go i H/\∃ N:St->Hp->Prop,(∀ σ' H',N σ' H'->∃ m',m' < m/\W (i+1) m' σ' H')/\∀ x H',J.yld i H x H'->g x σ H' fun σ2 H2=>tb { D with nx:=N,ct:=N,bk:=D.nx } σ2 H2)
def pY (fp:List Addr) (h:N5):List (Addr × Qv):=fp.filterMap fun b=>(h.get? b).map fun o=>(b,o)
theorem gM {fp:List Addr} {h:N5} {b:Addr} {o:Qv} (hb:b∈fp) (e:h.get? b=some o):(b,o)∈pY fp h:=List.mem_filterMap.mpr ⟨b,hb,by rw[e]; rfl⟩
theorem yS {fp:List Addr} {h:N5} {p:Addr × Qv} (hp:p∈pY fp h):p.1∈fp/\h.get? p.1=some p.2:=by
 obtain⟨b,hb,e⟩:=List.mem_filterMap.mp hp
 cases q:h.get? b with
 | none=>rw[q] at e; cases e
 | some o =>
  rw[q] at e
  have e':(b,o)=p:=M9 e
  subst e'
  exact⟨hb,q⟩
theorem Inv.pinned {pins:List (Addr × Qv)} {σ:St} {H:Hp} {s:Mj} {fp:List Addr} (I:Inv X pins σ H s) (hf:∀ b∈fp,rF X pins H b) (ho:∀ b∈fp,∃ o,s.heap.get? b=some o/\∀ v,o.data≠.cell v):Inv X (pins++pY fp s.heap) σ H s :=
 I.xO fun p hp=>(List.mem_append.mp hp).elim (fun z=>I.pin p (Nu _ z)) fun z=>by
  obtain⟨hb,e⟩:=yS z
  obtain⟨f0,f1,f2,_⟩:=hf p.1 hb
  obtain⟨o,e',d⟩:=ho p.1 hb
  rw[e] at e'; cases e'
  exact⟨e,f0,f1,f2,d⟩
theorem Inv.jV {pins pl:List (Addr × Qv)} {σ:St} {H:Hp} {s:Mj} (I:Inv X (pins++pl) σ H s):Inv X pins σ H s:=I.xO fun p hp=>I.pin p (Nu _ (R3 _ hp))
theorem dF {iter:Expr} {body:List Stmt} {wi:TI} {g:TG} {tb:TS} {pos:R8} (hp:PassesOwn (M6 X.prog X.w) X.A X.env X.xe) (hc:X.calm=true) (hi:PI X tg iter wi) (hg:PG X tg g) (hb:PSs X body tb)
  (hs:∀ x,Ul iter X.env x=pure x:=by intro _; rfl):PS X (.For tg iter body [] pos) (Lg wi g tb):=by
 intro pins s σ H D I h
 refine wpAny_For (thn (hi pins s σ H _ I h) fun v s1 h1=>thn h1 fun itv s2 h2=>?_) hs
 obtain⟨it,fp,tn,J,H2,e,I2,T,st2,f2,W,⟨m0,w0⟩,turn⟩:=h2
 subst e
 have stat:∀ {H':Hp},(∀ b∈fp,H' b=none)->∀ b∈fp,rF X pins H' b:=fun hn b hb=>⟨hn b hb,(f2 b hb).2⟩
 refine codeAny_forLoop_any (fun n s'=>∃ i σ' H',Inv X pins σ' H' s'/\tn i s'.heap/\(∀ b∈fp,H' b=none)/\W i n σ' H') ?_ m0 ⟨0,σ,H2,I2,st2,fun b hb=>(f2 b hb).1,w0⟩
 rintro n s3 ⟨i,σ3,H3,I3,st3,fr3,w3⟩
 rcases turn i n σ3 H3 w3 with⟨stop,qn⟩ | ⟨go,N,hN,step⟩
 ·refine QF hp (thn (T.done X rfl rfl rfl hc i pins s3 σ3 H3 X.xe I3 (stat fr3) st3 stop) fun r s4 ⟨hr,I4⟩=>?_)
  subst hr
  exact Tp ⟨σ3,H3,I4,qn⟩
 ·refine QF hp (thn (T.item X rfl rfl rfl hc i pins s3 σ3 H3 X.xe I3 (stat fr3) st3 go) fun r s4 ⟨u,hr,h4⟩=>?_)
  subst hr
  refine QF hp (thn h4 fun _ s5 ⟨x,H5,I5,r5,y5,st5,fr5⟩=>?_)
  have I5':=I5.pinned (stat fr5) (T.obj _ _ st5)
  refine QF hp (thn (hg _ s5 σ3 H5 x u _ I5' r5 (step x H5 y5)) fun _ s6 ⟨σ6,H6,I6,q6⟩=>?_)
  refine QF hp (thn (hb _ s6 σ6 H6 _ I6 q6) fun f s7 q7=>?_)
  have again:∀ {σ7:St} {H7:Hp},Inv X (pins++pY fp s5.heap) σ7 H7 s7->N σ7 H7->∃ m,m < n/\∃ i σ' H',Inv X pins σ' H' s7/\tn i s7.heap/\(∀ b∈fp,H' b=none)/\W i m σ' H':=fun {σ7 H7} I7 n7=>by
   obtain⟨m',hm,w7⟩:=hN σ7 H7 n7
   refine⟨m',hm,i+1,σ7,H7,I7.jV,T.keep _ _ _ st5 fun b hb o e=>(I7.pin (b,o) (Nu _ (Nu _ (gM hb e)))).1,fun b hb=>?_,w7⟩
   obtain⟨o,e,d⟩:=T.obj _ _ st5 b hb
   exact (I7.pin (b,o) (Nu _ (Nu _ (gM hb e)))).2.1
  cases f with
  | next=>obtain⟨σ7,H7,I7,n7⟩:=q7; exact again I7 n7
  | cont=>obtain⟨σ7,H7,I7,n7⟩:=q7; exact again I7 n7
  | brk=>obtain⟨σ7,H7,I7,q7⟩:=q7; exact⟨σ7,H7,I7.jV,q7⟩
  | ret v=>obtain⟨x7,σ7,H7,I7,r7,q7⟩:=q7; exact⟨x7,σ7,H7,I7.jV,r7,q7⟩
end
theorem cY {K:MP} {a:Addr} {xs:List V} {g:TG} {tb:TS} {D:Ends} {σ:St} {H:Hp} (Pv:Nat->St->Hp->Prop) (h0:Pv 0 σ H) (hl:∀ i σ H,i<=xs.length->Pv i σ H->SqL K H a xs)
  (hs:∀ i x σ H,xs[i]? = some x->Pv i σ H->g x σ H fun σ2 H2=>tb { D with nx:=Pv (i+1),ct:=Pv (i+1),bk:=D.nx } σ2 H2) (hd:∀ σ H,Pv xs.length σ H->D.nx σ H) :
  ∃ W:Nat->Nat->St->Hp->Prop,(∃ m,W 0 m σ H)/\∀ i m σ H,W i m σ H →
   ((Itl K a).stop i H/\D.nx σ H)∨((Itl K a).go i H/\∃ N:St->Hp->Prop,(∀ σ' H',N σ' H'->∃ m',m' < m/\W (i+1) m' σ' H')/\∀ x H',(Itl K a).yld i H x H'->g x σ H' fun σ2 H2=>tb { D with nx:=N,ct:=N,bk:=D.nx } σ2 H2):=by
 refine⟨fun i m σ H=>m=xs.length - i/\i<=xs.length/\Pv i σ H,⟨xs.length,by simp,NP _,h0⟩,?_⟩
 rintro i m σ H ⟨rfl,hi,p⟩
 have q:=hl i σ H hi p
 by_cases hlt:i < xs.length
 ·refine .inr ⟨⟨xs,xs[i],q,by simp [hlt]⟩,Pv (i+1),fun σ' H' p'=>⟨xs.length - (i+1),by lia,rfl,hlt,p'⟩,fun x H' y=>?_⟩
  obtain⟨e,y⟩:=y
  subst e
  exact hs i x σ _ (y xs q) p
 ·have e:i=xs.length:=by lia
  subst e
  exact .inl ⟨⟨xs,q,Mt _⟩,hd σ H p⟩
theorem rO {K:MP} {a:Addr} {xs:List V} {g:TG} {tb:TS} {D:Ends} {σ:St} {H:Hp} (Pv:Nat->St->Hp->Prop) (h0:Pv 0 σ H) (hl:∀ i σ H,i<=xs.length->Pv i σ H->SqT K H a xs)
  (hs:∀ i x σ H,xs[i]? = some x->Pv i σ H->g x σ H fun σ2 H2=>tb { D with nx:=Pv (i+1),ct:=Pv (i+1),bk:=D.nx } σ2 H2) (hd:∀ σ H,Pv xs.length σ H->D.nx σ H) :
  ∃ W:Nat->Nat->St->Hp->Prop,(∃ m,W 0 m σ H)/\∀ i m σ H,W i m σ H →
   ((Itt K a).stop i H/\D.nx σ H)∨((Itt K a).go i H/\∃ N:St->Hp->Prop,(∀ σ' H',N σ' H'->∃ m',m' < m/\W (i+1) m' σ' H')/\∀ x H',(Itt K a).yld i H x H'->g x σ H' fun σ2 H2=>tb { D with nx:=N,ct:=N,bk:=D.nx } σ2 H2):=by
 refine⟨fun i m σ H=>m=xs.length - i/\i<=xs.length/\Pv i σ H,⟨xs.length,by simp,NP _,h0⟩,?_⟩
 rintro i m σ H ⟨rfl,hi,p⟩
 have q:=hl i σ H hi p
 by_cases hlt:i < xs.length
 ·refine .inr ⟨⟨xs,xs[i],q,by simp [hlt]⟩,Pv (i+1),fun σ' H' p'=>⟨xs.length - (i+1),by lia,rfl,hlt,p'⟩,fun x H' y=>?_⟩
  obtain⟨e,y⟩:=y
  subst e
  exact hs i x σ _ (y xs q) p
 ·have e:i=xs.length:=by lia
  subst e
  exact .inl ⟨⟨xs,q,Mt _⟩,hd σ H p⟩
theorem qG {lo:Int} {n:Nat} {g:TG} {tb:TS} {D:Ends} {σ:St} {H:Hp} (Pv:Nat->St->Hp->Prop) (h0:Pv 0 σ H)
  (hs:∀ i σ H,i < n->Pv i σ H->g (.int (lo+i)) σ H fun σ2 H2=>tb { D with nx:=Pv (i+1),ct:=Pv (i+1),bk:=D.nx } σ2 H2) (hd:∀ σ H,Pv n σ H->D.nx σ H) :
  ∃ W:Nat->Nat->St->Hp->Prop,(∃ m,W 0 m σ H)/\∀ i m σ H,W i m σ H →
   ((Itr lo n).stop i H/\D.nx σ H)∨((Itr lo n).go i H/\∃ N:St->Hp->Prop,(∀ σ' H',N σ' H'->∃ m',m' < m/\W (i+1) m' σ' H')/\∀ x H',(Itr lo n).yld i H x H'->g x σ H' fun σ2 H2=>tb { D with nx:=N,ct:=N,bk:=D.nx } σ2 H2):=by
 refine⟨fun i m σ H=>m=n - i/\i<=n/\Pv i σ H,⟨n,by simp,NP _,h0⟩,?_⟩
 rintro i m σ H ⟨rfl,hi,p⟩
 by_cases hlt:i < n
 ·refine .inr ⟨hlt,Pv (i+1),fun σ' H' p'=>⟨n - (i+1),by lia,rfl,hlt,p'⟩,fun x H' y=>?_⟩
  obtain⟨e,y⟩:=y
  subst e y
  exact hs i σ _ hlt p
 ·have e:i=n:=by lia
  subst e
  exact .inl ⟨Mt _,hd σ H p⟩
theorem Bd {c:TT} {tb:TS} {D:Ends} {σ:St} {H:Hp} (Pv:St->Hp->Prop) (μ:St->Hp->Nat) (h0:Pv σ H)
  (hs:∀ σ H,Pv σ H->c σ H fun b H1=>if b=true then tb { D with nx:=fun σ' H'=>Pv σ' H'/\μ σ' H' < μ σ H,ct:=fun σ' H'=>Pv σ' H'/\μ σ' H' < μ σ H,bk:=D.nx } σ H1 else D.nx σ H1)
  (mono:∀ σ H Q Q',(∀ b H1,Q b H1->Q' b H1)->c σ H Q->c σ H Q'):Dv c tb D σ H:=by
 refine⟨fun m σ H=>m=μ σ H/\Pv σ H,⟨_,rfl,h0⟩,?_⟩
 rintro m σ H ⟨rfl,p⟩
 refine mono σ H _ _ (fun b H1 q=>?_) (hs σ H p)
 cases b with
 | true=>exact⟨_,fun σ' H' ⟨p',l⟩=>⟨_,l,rfl,p'⟩,q⟩
 | false=>exact q
end L2
namespace L2
open PySem PySem.Spec PyProof.Rows
abbrev R2:=V->V->Hp->VK->Prop
def OpR (X:Cx) (f:Mh->Mh->Sem Mh) (r:R2):Prop :=
 ∀ (pins:List (Addr × Qv)) (s:Mj) (σ:St) (H:Hp) (x y:V) (v u:Mh) (Q:VK),Inv X pins σ H s->RelV x v->RelV y u->r x y H Q →
  Mw (M6 X.prog X.w) X.A (f v u) (EP X pins σ Q) X.xe s
def UnR (X:Cx) (f:Mh->Sem Mh) (r:V->Hp->VK->Prop):Prop :=
 ∀ (pins:List (Addr × Qv)) (s:Mj) (σ:St) (H:Hp) (x:V) (v:Mh) (Q:VK),Inv X pins σ H s->RelV x v->r x H Q →
  Mw (M6 X.prog X.w) X.A (f v) (EP X pins σ Q) X.xe s
def gD (X:Cx) (f:Mh) (r:List V->Hp->VK->Prop):Prop :=
 ∀ (pins:List (Addr × Qv)) (s:Mj) (σ:St) (H:Hp) (xs:List V) (us:List Mh) (Q:VK),Inv X pins σ H s->Vals xs us->r xs H Q →
  Mw (M6 X.prog X.w) X.A (call f us) (EP X pins σ Q) X.xe s
def tOp (r:R2) (ta tb:TE):TE:=fun σ H Q=>ta σ H fun x H1=>tb σ H1 fun y H2=>r x y H2 Q
def tUn (r:V->Hp->VK->Prop) (ta:TE):TE:=fun σ H Q=>ta σ H fun x H1=>r x H1 Q
def rI (C:Int->Int->Prop) (g:Int->Int->V):R2:=fun x y H Q=>∃ i j,x = .int i/\y = .int j/\C i j/\Q (g i j) H
def rI0 (g:Int->Int->V):R2:=fun x y H Q=>∃ i j,x = .int i/\y = .int j/\Q (g i j) H
def rU (g:Int->V):V->Hp->VK->Prop:=fun x H Q=>∃ i,x = .int i/\Q (g i) H
section
variable {X:Cx} {a b c:Expr} {ta tb tc:TE} {pos:R8}
theorem Kg (ha:PE X a ta) (hb:PE X b tb) {pins:List (Addr × Qv)} {s:Mj} {σ:St} {H:Hp} {R:V->V->Hp->Prop} (I:Inv X pins σ H s)
  (h:ta σ H fun x H1=>tb σ H1 fun y H2=>R x y H2) {Q:Mh->Mj->Prop} {f:Mh->Mh->Sem Mh}
  (hf:∀ v u s2 x y H2,Inv X pins σ H2 s2->RelV x v->RelV y u->R x y H2->Mw (M6 X.prog X.w) X.A (f v u) Q X.xe s2) :
  Mw (M6 X.prog X.w) X.A (Qd a X.env) (fun v s₁=>Mw (M6 X.prog X.w) X.A (Qd b X.env) (fun u s₂=>Mw (M6 X.prog X.w) X.A (f v u) Q X.xe s₂) X.xe s₁) X.xe s:=by
 refine thn (ha pins s σ H _ I h) fun v s1 ⟨x,H1,I1,r1,q1⟩=>?_
 refine thn (hb pins s1 σ H1 _ I1 q1) fun u s2 ⟨y,H2,I2,r2,q2⟩=>?_
 exact hf v u s2 x y H2 I2 r1 r2 q2
theorem bB {op:Operator} {r:R2} (ho:OpR X (RZ op) r) (ha:PE X a ta) (hb:PE X b tb):PE X (.BinOp a op b pos) (tOp r ta tb):=by
 intro pins s σ H Q I h
 exact wpAny_BinOp (Kg ha hb I h fun v u s2 x y H2 I2 rx ry q=>ho pins s2 σ H2 x y v u Q I2 rx ry q)
theorem Am {op:UnaryOp} {r:V->Hp->VK->Prop} (ho:UnR X (unaryOp op) r) (ha:PE X a ta):PE X (.UnaryOp op a pos) (tUn r ta):=by
 intro pins s σ H Q I h
 exact UnaryOp_ (thn (ha pins s σ H _ I h) fun v s1 ⟨x,H1,I1,r1,q1⟩=>ho pins s1 σ H1 x v Q I1 r1 q1)
theorem opI {f:Mh->Mh->Sem Mh} {C:Int->Int->Prop} {g:Int->Int->Int}
  (rule:∀ (i j:Int) (t u:Tok) (s:Mj) (Q:Mh->Mj->Prop) (E:Mh->Mj->Prop),C i j->Q (.int (g i j) s.toks) { s with toks:=s.toks+1 }->Mw (M6 X.prog X.w) X.A (f (.int i t) (.int j u)) Q E s) :
  OpR X f (rI C fun i j=>.int (g i j)):=by
 intro pins s σ H x y v u Q I rx ry h
 obtain⟨i,j,rfl,rfl,hc,q⟩:=h
 obtain⟨t,rfl⟩:=rx
 obtain⟨t',rfl⟩:=ry
 exact rule i j t t' s _ _ hc ⟨.int (g i j),H,I.tok _,⟨_,rfl⟩,q⟩
theorem KD {f:Mh->Mh->Sem Mh} {g:Int->Int->Int}
  (rule:∀ (i j:Int) (t u:Tok) (s:Mj) (Q:Mh->Mj->Prop) (E:Mh->Mj->Prop),Q (.int (g i j) s.toks) { s with toks:=s.toks+1 }->Mw (M6 X.prog X.w) X.A (f (.int i t) (.int j u)) Q E s) :
  OpR X f (rI0 fun i j=>.int (g i j)):=by
 intro pins s σ H x y v u Q I rx ry h
 obtain⟨i,j,rfl,rfl,q⟩:=h
 obtain⟨t,rfl⟩:=rx
 obtain⟨t',rfl⟩:=ry
 exact rule i j t t' s _ _ ⟨.int (g i j),H,I.tok _,⟨_,rfl⟩,q⟩
theorem Kc {f:Mh->Mh->Sem Mh} {g:Int->Int->Bool}
  (rule:∀ (i j:Int) (t u:Tok) (s:Mj) (Q:Mh->Mj->Prop) (E:Mh->Mj->Prop),Q (.bool (g i j)) s->Mw (M6 X.prog X.w) X.A (f (.int i t) (.int j u)) Q E s) :
  OpR X f (rI0 fun i j=>.bl (g i j)):=by
 intro pins s σ H x y v u Q I rx ry h
 obtain⟨i,j,rfl,rfl,q⟩:=h
 obtain⟨t,rfl⟩:=rx
 obtain⟨t',rfl⟩:=ry
 exact rule i j t t' s _ _ ⟨.bl (g i j),H,I,rfl,q⟩
def Lf (i j:Int):Prop:=0 < j/\j < 1073741824
def LK (i j:Int):Prop:=0<=j/\j<=1000000/\i.natAbs < 2 ^ 64
def JX (i j:Int):Prop:=(-(2 ^ 64) < i/\i < 2 ^ 64)∨(-(2 ^ 64) < j/\j < 2 ^ 64)
theorem JX.ok {i j:Int} (h:JX i j):IntMulOk i j:=by
 rcases h with⟨h1,h2⟩ | ⟨h1,h2⟩
 ·exact .of_left (intBits_le_64 h1 h2)
 ·exact .of_right (intBits_le_64 h1 h2)
theorem eY:OpR X (RZ .Add) (rI0 fun i j=>.int (i+j)):=KD fun _ _ _ _ _ _ _ q=>add_int q
theorem HQ:OpR X (RZ .Sub) (rI0 fun i j=>.int (i - j)):=KD fun _ _ _ _ _ _ _ q=>sub_int q
theorem km:OpR X (RZ .Mult) (rI JX fun i j=>.int (i * j)):=opI fun _ _ _ _ _ _ _ hc q=>mul_int q hc.ok
theorem rR:OpR X (RZ .FloorDiv) (rI Lf fun i j=>.int (i / j)):=opI fun i j _ _ _ _ _ hc q=>by
 have h1:(0:Int) < j:=hc.1
 have h2:j < 1073741824:=hc.2
 exact floordiv_int (by lia) (by rw[Int.fdiv_eq_ediv_of_nonneg i (by lia)]; exact q) (.inl (PyProof.noPylong_small (by lia)))
theorem jD:OpR X (RZ .Mod) (rI (fun _ j=>0 < j) fun i j=>.int (i % j)):=opI fun i j _ _ _ _ _ hc q=>by
 have h1:(0:Int) < j:=hc
 exact mod_int' (by lia) (by rw[Int.fmod_eq_emod_of_nonneg i (by lia)]; exact q)
theorem yc:OpR X (RZ .Pow) (rI LK fun i j=>.int (i ^ j.toNat)):=opI fun _ _ _ _ _ _ _ hc q=>pow_int_small hc.1 hc.2.1 hc.2.2 q
theorem unI {f:Mh->Sem Mh} {g:Int->Int}
  (rule:∀ (i:Int) (t:Tok) (s:Mj) (Q:Mh->Mj->Prop) (E:Mh->Mj->Prop),Q (.int (g i) s.toks) { s with toks:=s.toks+1 }->Mw (M6 X.prog X.w) X.A (f (.int i t)) Q E s) :
  UnR X f (rU fun i=>.int (g i)):=by
 intro pins s σ H x v Q I rx h
 obtain⟨i,rfl,q⟩:=h
 obtain⟨t,rfl⟩:=rx
 exact rule i t s _ _ ⟨.int (g i),H,I.tok _,⟨_,rfl⟩,q⟩
theorem uI:UnR X (unaryOp .USub) (rU fun i=>.int (-i)):=unI fun _ _ _ _ _ q=>neg_int q
end
def KR:V->V->Bool
 | .non,.non=>true | .non,.int _=>true | .int _,.non=>true | .non,.bl _=>true | .bl _,.non=>true | .non,.str _=>true | .str _,.non=>true
 | .int _,.int _=>true | .bl _,.bl _=>true | .str _,.str _=>true | .byt _,.byt _=>true
 | .int _,.str _=>true | .str _,.int _=>true | .bl _,.str _=>true | .str _,.bl _=>true
 | _,_=>false
def rEq:R2:=fun x y H Q=>KR x y=true/\Q (.bl (decide (x=y))) H
def rNe:R2:=fun x y H Q=>KR x y=true/\Q (.bl (!decide (x=y))) H
theorem yh {i j:Int}:decide (V.int i=V.int j)=(i == j):=by
 rw[Qc]
 simp
theorem DG {i j:Bool}:decide (V.bl i=V.bl j)=(i == j):=by
 rw[Qc]
 simp
theorem xG {i j:Ou}:decide (V.str i=V.str j)=(i == j):=by
 rw[Qc]
 simp
theorem zX {i j:Array UInt8}:decide (V.byt i=V.byt j)=(i.toList == j.toList):=by
 rw[Qc]
 cases i
 cases j
 simp
section
variable {X:Cx} {a b c:Expr} {ta tb tc:TE} {pos:R8}
theorem bA {pins:List (Addr × Qv)} {σ:St} {H:Hp} {s:Mj} {Q:VK} {k k':Bool} (I:Inv X pins σ H s) (q:Q (.bl k) H) (e:k=k'):EP X pins σ Q (.bool k') s:=by
 subst e
 exact⟨.bl k,H,I,rfl,q⟩
theorem iT:OpR X (Qg .Eq) rEq:=by
 intro pins s σ H x y v u Q I rx ry h
 obtain⟨hs,q⟩:=h
 cases x with
 | non =>
  cases rx
  cases y with
  | non=>cases ry; exact PySem.EqNone.eq_none_none (bA I q (by simp))
  | bl j=>cases ry; exact PySem.EqNone.eq_none_bool (bA I q (by simp))
  | int j=>obtain⟨t',rfl⟩:=ry; exact PySem.EqNone.eq_none_int (bA I q (by simp))
  | str j=>obtain⟨t',rfl⟩:=ry; exact PySem.EqNone.eq_none_str (bA I q (by simp))
  | _=>exact absurd (show false=true from hs) Mr
 | bl i =>
  cases rx
  cases y with
  | non=>cases ry; exact PySem.EqNone.eq_bool_none (bA I q (by simp))
  | bl j=>cases ry; exact eq_bool (bA I q DG)
  | str j=>obtain⟨t',rfl⟩:=ry; exact PySem.EqMixed.eq_bool_str (bA I q (by simp))
  | _=>exact absurd (show false=true from hs) Mr
 | int i =>
  obtain⟨t,rfl⟩:=rx
  cases y with
  | non=>cases ry; exact PySem.EqNone.eq_int_none (bA I q (by simp))
  | int j=>obtain⟨t',rfl⟩:=ry; exact eq_int (bA I q yh)
  | str j=>obtain⟨t',rfl⟩:=ry; exact PySem.EqMixed.eq_int_str (bA I q (by simp))
  | _=>exact absurd (show false=true from hs) Mr
 | str i =>
  obtain⟨t,rfl⟩:=rx
  cases y with
  | non=>cases ry; exact PySem.EqNone.eq_str_none (bA I q (by simp))
  | bl j=>cases ry; exact PySem.EqMixed.eq_str_bool (bA I q (by simp))
  | int j=>obtain⟨t',rfl⟩:=ry; exact PySem.EqMixed.eq_str_int (bA I q (by simp))
  | str j=>obtain⟨t',rfl⟩:=ry; exact eq_str (bA I q xG)
  | _=>exact absurd (show false=true from hs) Mr
 | byt i =>
  obtain⟨t,rfl⟩:=rx
  cases y with
  | byt j=>obtain⟨t',rfl⟩:=ry; exact PySem.W.eq_bytes (bA I q zX)
  | _=>exact absurd (show false=true from hs) Mr
 | _=>cases y <;> exact absurd (show false=true from hs) Mr
theorem Gu:OpR X (Qg .NotEq) rNe:=by
 intro pins s σ H x y v u Q I rx ry h
 obtain⟨hs,q⟩:=h
 cases x with
 | non =>
  cases rx
  cases y with
  | non=>cases ry; exact PySem.EqNone.ne_none_none (bA I q (by simp))
  | bl j=>cases ry; exact PySem.EqNone.ne_none_bool (bA I q (by simp))
  | int j=>obtain⟨t',rfl⟩:=ry; exact PySem.EqNone.ne_none_int (bA I q (by simp))
  | str j=>obtain⟨t',rfl⟩:=ry; exact PySem.EqNone.ne_none_str (bA I q (by simp))
  | _=>exact absurd (show false=true from hs) Mr
 | bl i =>
  cases rx
  cases y with
  | non=>cases ry; exact PySem.EqNone.ne_bool_none (bA I q (by simp))
  | bl j=>cases ry; exact ne_bool (bA I q (congrArg not DG))
  | str j=>obtain⟨t',rfl⟩:=ry; exact PySem.EqMixed.ne_bool_str (bA I q (by simp))
  | _=>exact absurd (show false=true from hs) Mr
 | int i =>
  obtain⟨t,rfl⟩:=rx
  cases y with
  | non=>cases ry; exact PySem.EqNone.ne_int_none (bA I q (by simp))
  | int j=>obtain⟨t',rfl⟩:=ry; exact ne_int (bA I q (congrArg not yh))
  | str j=>obtain⟨t',rfl⟩:=ry; exact PySem.EqMixed.ne_int_str (bA I q (by simp))
  | _=>exact absurd (show false=true from hs) Mr
 | str i =>
  obtain⟨t,rfl⟩:=rx
  cases y with
  | non=>cases ry; exact PySem.EqNone.ne_str_none (bA I q (by simp))
  | bl j=>cases ry; exact PySem.EqMixed.ne_str_bool (bA I q (by simp))
  | int j=>obtain⟨t',rfl⟩:=ry; exact PySem.EqMixed.ne_str_int (bA I q (by simp))
  | str j=>obtain⟨t',rfl⟩:=ry; exact ne_str (bA I q (congrArg not xG))
  | _=>exact absurd (show false=true from hs) Mr
 | byt i =>
  obtain⟨t,rfl⟩:=rx
  cases y with
  | byt j=>obtain⟨t',rfl⟩:=ry; exact PySem.W.ne_bytes (bA I q (congrArg not zX))
  | _=>exact absurd (show false=true from hs) Mr
 | _=>cases y <;> exact absurd (show false=true from hs) Mr
theorem Em:OpR X (Qg .Lt) (rI0 fun i j=>.bl (decide (i < j))):=Kc fun _ _ _ _ _ _ _ q=>lt_int q
theorem Gw:OpR X (Qg .Gt) (rI0 fun i j=>.bl (decide (j < i))):=Kc fun _ _ _ _ _ _ _ q=>gt_int q
theorem tH:OpR X (Qg .GtE) (rI0 fun i j=>.bl (decide (j<=i))):=Kc fun _ _ _ _ _ _ _ q=>ge_int q
theorem aZ (b:Expr) {op:CmpOp} (h:op≠.In:=by decide) (h2:op≠.NotIn:=by decide):QK op b=false:=by
 have e1:(op == CmpOp.In)=false:=by cases op <;> first | rfl | exact absurd rfl h
 have e2:(op == CmpOp.NotIn)=false:=by cases op <;> first | rfl | exact absurd rfl h2
 cases b <;> simp [QK,e1,e2]
theorem fX {op:CmpOp} {r:R2} (ho:OpR X (Qg op) r) (ha:PE X a ta) (hb:PE X b tb) (hm:QK op b=false):PE X (.Compare a [op] [b] pos) (tOp r ta tb):=by
 intro pins s σ H Q I h
 exact wpAny_Compare1 (Kg ha hb I h fun v u s2 x y H2 I2 rx ry q=>ho pins s2 σ H2 x y v u Q I2 rx ry q) hm
def Ky (t:TE):TT:=fun σ H Q=>t σ H fun x H'=>∃ k,x = .bl k/\Q k H'
theorem aX {op:CmpOp} {r:R2} (ho:OpR X (Qg op) r) (ha:PE X a ta) (hb:PE X b tb) (hm:QK op b=false):PT X (.Compare a [op] [b] pos) (Ky (tOp r ta tb)):=by
 intro pins s σ H Q I h
 refine wpAny_isTrue_Compare1 (thn (ha pins s σ H _ I h) fun v s1 ⟨x,H1,I1,r1,q1⟩=>thn (hb pins s1 σ H1 _ I1 q1) fun u s2 ⟨y,H2,I2,r2,q2⟩ =>
  thn (ho pins s2 σ H2 x y v u _ I2 r1 r2 q2) fun c s3 ⟨z,H3,I3,r3,k,e,q3⟩=>?_) hm
 subst e
 cases r3
 exact Qm ⟨H3,I3,q3⟩
theorem mZ:(sizeLine:Nat) < 2 ^ 63:=by rw[QT]; decide
theorem vals1 {x:V} {us:List Mh} (r:Vals [x] us):∃ u,us=[u]/\RelV x u:=by
 cases r with
 | cons r1 r2=>cases r2; exact⟨_,rfl,r1⟩
theorem vals2 {x y:V} {us:List Mh} (r:Vals [x,y] us):∃ u w',us=[u,w']/\RelV x u/\RelV y w':=by
 cases r with
 | cons r1 r2 =>
  cases r2 with
  | cons r3 r4=>cases r4; exact⟨_,_,rfl,r1,r3⟩
theorem oG:gD X (.builtin "abs") (fun xs H Q=>∃ i,xs=[.int i]/\Q (.int (if i < 0 then -i else i)) H):=by
 intro pins s σ H xs us Q I r h
 obtain⟨i,rfl,q⟩:=h
 obtain⟨u,rfl,t,rfl⟩:=vals1 r
 exact call_abs_int fun u tk=>⟨.int (if i < 0 then -i else i),H,I.tok _,⟨_,rfl⟩,q⟩
theorem zU (hc:X.calm=true):gD X (.builtin "min") (fun xs H Q=>∃ i j,xs=[.int i,.int j]/\Q (.int (if j < i then j else i)) H):=by
 intro pins s σ H xs us Q I r h
 obtain⟨i,j,rfl,q⟩:=h
 obtain⟨u,w',rfl,⟨t,rfl⟩,⟨t',rfl⟩⟩:=vals2 r
 refine min_two_ints (I.ok.hd hc) fun h' tk k=>⟨_,H,I.kept k,?_,q⟩
 by_cases hj:j < i
 ·rw[if_pos hj,if_pos hj]; exact⟨_,rfl⟩
 ·rw[if_neg hj,if_neg hj]; exact⟨_,rfl⟩
end
end L2
namespace L2
open PySem PySem.Spec PyProof.Rows
structure Kv (h:N5) (x dx C:Addr) (mA:Ou->Option Mh):Prop where
 obj:h.get? x=some (UW C dx)
 ns:h.Ns1 dx mA
 ne:dx≠x
theorem yP {h:N5} {dx:Addr} {mA:Ou->Option Mh} (n:h.Ns1 dx mA):∃ od,h.get? dx=some od/\∀ name,PySem.W.lookIn name od=some (mA name):=by
 obtain⟨o,es,ep,ho,hd,hk,_,hm⟩:=n
 refine⟨o,ho,fun name=>?_⟩
 have e:=hm name
 unfold nsFind findBy at e
 rw[← Array.find?_toList] at e
 unfold PySem.W.lookIn
 rw[hd]
 dsimp only
 split
 ·rename_i y q
  rw[q] at e
  exact congrArg some e
 ·rename_i q
  rw[q] at e
  have a:es.toList.any (·.refKey)=false:=by
   rw[List.any_eq_false]
   intro y hy
   obtain⟨z,t,hkey⟩:=hk y (Array.mem_toList_iff.mp hy)
   simp [DictEntry.refKey,hkey]
  have a':¬ es.toList.any (·.refKey)=true:=by rw[a]; exact Mr
  rw[if_neg a']
  exact congrArg some e
theorem Kv.look {h:N5} {x dx C:Addr} {mA:Ou->Option Mh} (I:Kv h x dx C mA):∃ od,PySem.W.InstAt h x (UW C dx) C (some od)/\∀ name,PySem.W.lookIn name od=some (mA name) :=
 let ⟨od,ho,hl⟩:=yP I.ns
 ⟨od,⟨I.obj,rfl,rfl,ho⟩,hl⟩
section
variable {prog:M8} {w:NQ} {A:N8} {E:Mh->Mj->Prop} {s:Mj} {K:MP} {x dx C f:Addr} {mA:Ou->Option Mh} {name:Ou} {v:Mh}
end
theorem yg.some_of {v:V} {o:Option Mh} (r:yg (some v) o):∃ u,o=some u/\RelV v u:=by
 cases o with
 | none=>exact (show False from r).elim
 | some u=>exact⟨u,rfl,r⟩
section
variable {P:M8} {w:NQ} {H H':Hp} {h h':N5} {a C dx:Addr} {fs fs':List (Ou × V)}
theorem Eu (hok:HOk P w H h) (e:H a=some (.ins C dx fs)):∃ mA,Kv h a dx C mA/\(∀ f,yg (fs.lookup f) (mA f))/\PySem.Within mA (fs.map (·.1))/\fs.length<=1000/\H dx=some (.own a):=by
 obtain⟨d,z,ne,ob,mA,n,r,q⟩:=(show dh P w H h a (.ins C dx fs) from hok a _ e)
 exact⟨mA,⟨ob,n,ne⟩,r,q,z,d⟩
end
structure Cls (K:MP) (C:Addr):Prop where
 pg:PySem.W.plainGet K C Str.empty=true
 hd:PySem.W.hasDictIn K C=true
 po:PySem.W.plainOver K C=true
 sa:PySem.W.findIn K (.ref C) "__setattr__" = some (some (.builtin "object.__setattr__"))
theorem Cls.get {K:MP} {C:Addr} (c:Cls K C) (f:Ou):PySem.W.plainGet K C f=true:=c.pg
section
variable {X:Cx} {pins:List (Addr × Qv)} {σ:St} {H:Hp} {s:Mj} {a C dx:Addr} {fs:List (Ou × V)} {f:Ou} {v:V} {A:N8} {E:Mh->Mj->Prop}
end
section
variable {X:Cx} {o e value:Expr} {f:Ou} {pos pos' tpos:R8} {ta tv:TE}
end
section
variable {X:Cx} {pins:List (Addr × Qv)} {σ:St} {H:Hp} {s:Mj} {A:N8} {E:Mh->Mj->Prop} {Q:Mh->Mj->Prop} {c:Mh} {b:Bool}
inductive vo (K:MP) (H:Hp):V->Mh->Prop where
 | non:vo K H .non (.type "NoneType")
 | bl (x:Bool):vo K H (.bl x) (.type "bool")
 | int (i:Int):vo K H (.int i) (.type "int")
 | str (x:Ou):vo K H (.str x) (.type "str")
 | flt (x:UInt64):vo K H (.flt x) (.type "float")
 | lst {a:Addr} {xs:List V} (e:H a=some (.lst xs)):vo K H (.ref a) (.type "list")
 | frz {a:Addr} {o:Qv} {xs:List V} (e:H a=some (.frz o (.lst xs))):vo K H (.ref a) (.type "list")
 | tup {a:Addr} {xs:List V} (e:H a=some (.tup xs)):vo K H (.ref a) (.type "tuple")
 | dK {a:Addr} {kvs:List (Key × V)} (e:H a=some (.dK kvs)):vo K H (.ref a) (.type "dict")
 | dT {a:Addr} {kvs:List (List Key × V)} (e:H a=some (.dT kvs)):vo K H (.ref a) (.type "dict")
 | ins {a C dx:Addr} {fs:List (Ou × V)} (e:H a=some (.ins C dx fs)) (cl:Cls K C) (ha:PySem.W.findIn K (.ref C) "__class__" = some (some (.builtin "object.__class__")))
   (hn:PySem.W.specialIn K (.builtin "object.__class__") "__get__" = some (some (.builtin "getset_descriptor.__get__"))) (htk:PySem.W.takesIn K (.builtin "object.__class__")=some true)
   (hm:PySem.W.mroIn K C (.type "object")=some true):vo K H (.ref a) (.ref C)
theorem xK {x:V} {u t:Mh} (I:Inv X pins σ H s) (rx:RelV x u) (ty:vo X.K H x t) (e:PySem.W.kitOne X.K t c=some b) (h:∀ tk,Q (.bool b) { s with toks:=tk }) :
  Mw (M6 X.prog X.w) A (call (.builtin "isinstance") [u,c]) Q E s:=by
 cases ty with
 | non=>cases (show u=Oc from rx); exact Pa PySem.W.kitx_none I.kIn QW e (fun z=>nomatch z) h
 | bl y=>cases (show u=Value.bool y from rx); exact Pa PySem.W.kitx_bool I.kIn QW e (fun z=>nomatch z) h
 | int i=>obtain⟨t,q⟩:=(show ∃ t,u=Q6 i t from rx); cases q; exact Pa PySem.W.kitx_int I.kIn QW e (fun z=>nomatch z) h
 | str y=>obtain⟨t,q⟩:=(show ∃ t,u=Value.str y t from rx); cases q; exact Pa PySem.W.kitx_str I.kIn QW e (fun z=>nomatch z) h
 | flt y=>obtain⟨t,q⟩:=(show ∃ t,u=Value.float y t from rx); cases q; exact Pa PySem.W.kitx_float I.kIn QW e (fun z=>nomatch z) h
 | @lst a xs ea =>
  cases (show u=NB a from rx)
  obtain⟨_,_,n,_,h1⟩:=(show dh X.prog X.w H s.heap a (.lst xs) from I.hok a _ ea)
  exact Pa PySem.W.kitx_list I.kIn ⟨_,h1,rfl⟩ e (fun z=>nomatch z) h
 | @frz a ob xs ea =>
  cases (show u=NB a from rx)
  obtain⟨_,_,_,n,_,h1⟩:=(show dh X.prog X.w H s.heap a (.frz ob (.lst xs)) from I.hok a _ ea)
  exact Pa PySem.W.kitx_list I.kIn ⟨_,h1,rfl⟩ e (fun z=>nomatch z) h
 | @tup a xs ea =>
  cases (show u=NB a from rx)
  obtain⟨_,_,_,p⟩:=(show dh X.prog X.w H s.heap a (.tup xs) from I.hok a _ ea)
  obtain⟨o,h1,h2,_⟩:=p
  exact Pa PySem.W.kitx_tuple I.kIn ⟨o,h1,h2⟩ e (fun z=>nomatch z) h
 | @dK a kvs ea =>
  cases (show u=NB a from rx)
  obtain⟨_,_,vs,_,p⟩:=(show dh X.prog X.w H s.heap a (.dK kvs) from I.hok a _ ea)
  obtain⟨o,es,ep,h1,h2,_⟩:=p
  exact Pa PySem.W.kitx_dict I.kIn ⟨o,h1,h2.1⟩ e (fun z=>nomatch z) h
 | @dT a kvs ea =>
  cases (show u=NB a from rx)
  obtain⟨_,_,xs,_,o,es,ep,h1,h2,_⟩:=(show dh X.prog X.w H s.heap a (.dT kvs) from I.hok a _ ea)
  exact Pa PySem.W.kitx_dict I.kIn ⟨o,h1,h2.1⟩ e (fun z=>nomatch z) h
 | @ins a C dx fs ea cl ha hn htk hm =>
  cases (show u=NB a from rx)
  obtain⟨mA,O,_⟩:=Eu I.hok ea
  obtain⟨od,J,_⟩:=O.look
  exact Pa (PySem.W.kitx_own (cl.get _) cl.hd ha hn htk hm) I.kIn J e (fun z=>nomatch z) h
end
end L2
namespace L2
open PySem PySem.Spec PyProof.Rows
structure lV (k:Nat) (A:N8):Prop where
 hd:A.handled=none
 dp:A.depth+3 * k+5 < recursionLimit
 un:A.units+16 * k+200 < cLine
theorem lV.mono {j k:Nat} {A:N8} (r:lV k A) (h:j<=k):lV j A:=⟨r.hd,by have:=r.dp; lia,by have:=r.un; lia⟩
theorem lV.deeper {k:Nat} {A:N8} (r:lV (k+1) A) (env:Env):lV k (A.deeper env) :=
 ⟨r.hd,by have:=r.dp; show A.depth+1+3 * k+5 < _; lia,by have:=r.un; show A.units+3+16 * k+200 < _; lia⟩
theorem lV.depth {k:Nat} {A:N8} (r:lV k A):A.depth < recursionLimit:=by have:=r.dp; lia
theorem lV.kJ {k:Nat} {A:N8} (r:lV k A):A.units < cLine:=by have:=r.un; lia
def Ks:TA:=fun _ H Q=>Q [] H
def Bg (ta:TE) (tr:TA):TA:=fun σ H Q=>ta σ H fun x H1=>tr σ H1 fun xs H2=>Q (x::xs) H2
section
variable {X:Cx} {e:Expr} {es:List Expr} {te:TE} {t:TA} {pos:R8}
theorem ak:PA X [] Ks:=fun _ _ _ _ H Q I h=>Calls.spliced_nil ⟨[],H,I,.nil,h⟩
theorem aa (ha:PE X e te) (hr:PA X es t) (hs:Nm (e::es) X.env=(false,Qd e X.env)::Nm es X.env:=by rfl):PA X (e::es) (Bg te t):=by
 intro pos pins s σ H Q I h
 rw[hs]
 show Mw _ _ (spliced ((false,Qd e X.env)::Ru pos (Nm es X.env))) _ _ s
 refine Calls.spliced_cons (thn (ha pins s σ H _ I h) fun u s1 ⟨x,H1,I1,r1,q1⟩=>?_)
 exact thn (hr pos pins s1 σ H1 _ I1 q1) fun us s2 ⟨xs,H2,I2,r2,q2⟩=>⟨x::xs,H2,I2,.cons r1 r2,q2⟩
def KN (t:TA):TE:=fun σ H Q=>t σ H fun xs H1=>xs.length<=sizeLine/\∀ p,H1 p=none->Q (.ref p) (upd H1 p (.tup xs))
def K8 (t:TA):TE:=fun σ H Q=>t σ H fun xs H1=>xs.length<=sizeLine/\∀ p,H1 p=none->Q (.ref p) (upd H1 p (.lst xs))
theorem dW {x1} (h:PA X es t):PE X (.Tuple es x1 pos) (KN t):=by
 intro pins s σ H Q I hq
 refine wpAny_Tuple_spliced (thn (h pos pins s σ H _ I hq) fun us s1 ⟨xs,H1,I1,r,z,q⟩=>⟨by rw[← r.length]; exact z,?_⟩)
 have hf:H1 s1.heap.objs.size=none:=I1.hok.fresh (Mt _)
 refine⟨.ref s1.heap.objs.size,upd H1 s1.heap.objs.size (.tup xs),I1.laid (t':=s1.toks) (fun b u e=>Ma _ e) (Mt _) ?_,rfl,q _ hf⟩
 exact⟨z,us,r,⟨_,Mm _ rfl,rfl,_,rfl⟩⟩
theorem bO (h:PA X es t):PE X (.List es pos) (K8 t):=by
 intro pins s σ H Q I hq
 refine wpAny_List_spliced (thn (h pos pins s σ H _ I hq) fun us s1 ⟨xs,H1,I1,r,z,q⟩=>⟨by rw[← r.length]; exact z,?_⟩)
 have hf:H1 s1.heap.objs.size=none:=I1.hok.fresh (Mt _)
 refine⟨.ref s1.heap.objs.size,upd H1 s1.heap.objs.size (.lst xs),I1.laid (t':=s1.toks) (fun b u e=>Ma _ e) (Mt _) ?_,rfl,q _ hf⟩
 exact⟨z,us,0,r,Mm _ rfl⟩
end
abbrev Sp:=List V->Hp->VK->XK->Prop
abbrev CXT:=List Env->Hp->Mj->XK->Mh->Mj->Prop
structure JS (P:M8) (w:NQ) (K:MP) (mg:Ou->Option Mh) (base:N5) (A:N8) (outer:List Env) (s:Mj) (H:Hp):Prop where
 frames:A.frames=some outer
 mod:Mod K mg base
 bs:∀ b o,base.get? b=some o->s.heap.get? b=some o/\H b=none
 bsz:base.objs.size<=s.heap.objs.size
 zR:s.heap.FunFrames base outer
 frf:∀ b∈frs outer,H b=none
 hok:HOk P w H s.heap
 bare:Th s.gens
def CE (outer:List Env) (P:M8) (w:NQ) (H:Hp) (s:Mj) (Q:VK) (u:Mh) (s':Mj):Prop :=
 ∃ v H',s'.os=s.os/\Th s'.gens/\Un (frs outer) [] H H' s.heap s'.heap/\HOk P w H' s'.heap/\RelV v u/\Q v H'
def CR (CX:CXT) (outer:List Env) (P:M8) (w:NQ) (H:Hp) (s:Mj) (Q:VK) (E:XK) (r:Result) (s':Mj):Prop :=
 match r with
 | .ok (.ret u)=>CE outer P w H s Q u s'
 | .ok _=>False
 | .error e=>CX outer H s E e s'
structure fu (P:M8) (w:NQ) (K:MP) (mg:Ou->Option Mh) (base:N5) (CX:CXT) (k:Nat) (f:Addr) (fd:QH) (ps:List Ou) (sp:Sp):Prop where
 len:∀ vs H Q E,sp vs H Q E->vs.length=ps.length
 run:∀ (A:N8) (outer:List Env) (s:Mj) (H:Hp) (args:Args) (us:List Mh) (vs:List V) (Q:VK) (E:XK),lV k A->JS P w K mg base A outer s H->T4 s fd args (ps.zip us)->Vals vs us->sp vs H Q E →
  RQ (M6 P w) A (.call (.ref f) args) (CR CX outer P w H s Q E) s
section
variable {X:Cx} {pins:List (Addr × Qv)} {σ:St} {H:Hp} {s s':Mj}
theorem Inv.env0 (I:Inv X pins σ H s):JS X.prog X.w X.K X.mg X.base X.A X.stack s H :=
 ⟨I.ok.frames,I.ok.mod,I.bs,Ob I.ok.bsz I.sz,I.stack,I.zQ,I.hok,I.bare⟩
theorem Inv.after {Q:VK} {u:Mh} (I:Inv X pins σ H s) (h:CE X.stack X.prog X.w H s Q u s'):EP X pins σ Q u s':=by
 obtain⟨v,H',os,bare,un,hok,r,q⟩:=h
 obtain⟨hh,g,d,t,os'⟩:=s'
 obtain rfl:os'=s.os:=os
 exact⟨v,H',I.call (h':=hh) (g':=g) (d':=d) (t':=t) (ch:=[]) un hok bare (fun b z=>absurd z (by simp)),r,q⟩
end
def HD (sp:Sp) (dvs:List V) (E:XK) (t:TA):TE:=fun σ H Q=>t σ H fun vs H1=>sp (vs++dvs) H1 Q E
def Binds (K:MP) (fd:QH) (ps:List Ou) (ds:List Mh):Prop :=
 ∀ (s:Mj) (us:List Mh),K.In s.heap->(us++ds).length=ps.length->T4 s fd ⟨us,[]⟩ (ps.zip (us++ds))
theorem Binds.all {K:MP} {fd:QH} {ps:List Ou} (h:∀ us:List Mh,us.length=ps.length->TQ fd ⟨us,[]⟩=pure (ps.zip us)):Binds K fd ps []:=fun s us _ hl=>by
 rw[Ro] at hl ⊢
 exact .of_eq (h us hl)
def Passes (CX:CXT) (X:Cx) (E:XK):Prop:=∀ (pins:List (Addr × Qv)) (σ:St) (H:Hp) (s:Mj) (e:Mh) (s':Mj),Inv X pins σ H s->CX X.stack H s E e s'->X.xe e s'
section
variable {X:Cx} {CX:CXT} {k:Nat} {f C:Addr} {fd:QH} {ps:List Ou} {sp:Sp} {dvs:List V} {ds:List Mh} {E:XK} {x m:Ou} {p pos apos:R8} {e o:Expr} {es:List Expr} {ta:TE} {t:TA}
theorem JP {pins:List (Addr × Qv)} {σ:St} {H:Hp} {s:Mj} {Q:VK} {us:List Mh} {vs:List V} (F:fu X.prog X.w X.K X.mg X.base CX k f fd ps sp) (hr:lV k X.A) (hb:Binds X.K fd ps ds) (hd:Vals dvs ds) (hx:Passes CX X E)
  (I:Inv X pins σ H s) (r:Vals vs us) (h:sp (vs++dvs) H Q E):Mw (M6 X.prog X.w) X.A (call (.ref f) us) (EP X pins σ Q) X.xe s:=by
 have r2:Vals (vs++dvs) (us++ds):=r.append hd
 have hl:(us++ds).length=ps.length:=by rw[← r2.length]; exact F.len _ _ _ _ h
 refine wpAny_call (codeAny_mono (F.run X.A X.stack s H ⟨us,[]⟩ (us++ds) (vs++dvs) Q E hr I.env0 (hb s us I.kIn hl) r2 h) fun r s' hq=>?_)
 cases r with
 | error e=>exact hx pins σ H s e s' I hq
 | ok fl =>
  cases fl with
  | ret u=>exact I.after hq
  | next=>exact Q0 hq
  | brk=>exact Q0 hq
  | cont=>exact Q0 hq
theorem Fl (F:fu X.prog X.w X.K X.mg X.base CX k f fd ps sp) (hr:lV k X.A) (hg:Gl X x) (hm:X.mg x=some (.ref f)) (hk:SJ X.K (.ref f)=true) (hb:Binds X.K fd ps ds) (hd:Vals dvs ds) (hx:Passes CX X E)
  (ha:PA X (e::es) t) (hdb:(x == ("__debug__" : Ou))=false:=by decide) (he:Nm (e::es) X.env=(false,Qd e X.env)::Nm es X.env:=by rfl) (hpl:(Ru pos (Nm es X.env)).any (·.1)=false:=by rfl) :
  PE X (.Call (.Name x p) (e::es) [] pos) (HD sp dvs E t):=by
 intro pins s σ H Q I h
 refine QB (G3 I hg hm ?_ hdb)
 refine PySem.W.callWith_K (h₀:=X.base) I.ok.mod.kin hk (thn (ha pos pins s σ H _ I h) fun us s1 ⟨vs,H1,I1,r,q⟩=>⟨I1.kIn,?_⟩) he hpl
 exact JP F hr hb hd hx I1 r q
end
section
variable {X:Cx} {CX:CXT} {k:Nat} {f C:Addr} {fd:QH} {ps ks:List Ou} {sp:Sp} {E:XK} {x m:Ou} {p pos apos kpos:R8} {e o:Expr} {es:List Expr} {kws:List Keyword} {te ta:TE} {t tk:TA} {nm:Option Ou}
variable {g:List Mh->List Mh->List Mh} {gV:List V->List V->List V}
end
structure aQ (N P:List Ou) (sc:Sy):Prop where
 kind:sc.kind = .function
 co:sc.isCoroutine=false
 gen:sc.isGenerator=false
 nd:N.Nodup
 pre:N.take P.length=P
 par:∀ x∈P,sc.names.lookup x=some .local∨sc.names.lookup x=some .cell
 nofree:∀ y∈sc.names,y.2≠.free
theorem qd {kindOf:Ou->Option SM} {x:Ou}:∀ {binds:List (Ou × Mh)} {m:Ou->Option Mh},(∀ v,(x,v) ∉ binds)->bindL kindOf binds m x=m x
 | [],_,_=>rfl
 | (n,v)::r,m,h=>by
  unfold bindL
  rw[qd fun w hw=>h w (MF _ hw)]
  split
  ·have:x≠n:=by rintro rfl; exact h v Ml
   simp [this]
  ·rfl
theorem o7 {kindOf:Ou->Option SM} {x:Ou}:∀ {binds:List (Ou × Mh)} {m:Ou->Option Mh},(∀ v,(x,v) ∉ binds)->bindC kindOf binds m x=m x
 | [],_,_=>rfl
 | (n,v)::r,m,h=>by
  unfold bindC
  rw[o7 fun w hw=>h w (MF _ hw)]
  split
  ·rfl
  ·have:x≠n:=by rintro rfl; exact h v Ml
   simp [this]
theorem ql {kindOf:Ou->Option SM} {x:Ou} {v:Mh}:∀ {P:List Ou} {vs:List Mh} {i:Nat} {m:Ou->Option Mh},P.Nodup->P[i]? = some x->vs[i]? = some v->kindOf x=some .local →
  bindL kindOf (P.zip vs) m x=some v
 | [],_,_,_,_,h,_,_=>by simp at h
 | _::_,[],_,_,_,_,h,_=>by simp at h
 | p::P,w::vs,0,m,nd,h1,h2,hk=>by
  simp at h1 h2; subst h1; subst h2
  show bindL kindOf ((p,w)::P.zip vs) m p=_
  unfold bindL
  rw[qd fun v hv=>(List.nodup_cons.mp nd).1 (U0 hv).1,if_pos hk]
  simp
 | p::P,w::vs,i+1,m,nd,h1,h2,hk=>by
  show bindL kindOf ((p,w)::P.zip vs) m x=_
  unfold bindL
  exact ql (i:=i) (List.nodup_cons.mp nd).2 (by simpa using h1) (by simpa using h2) hk
theorem qF {kindOf:Ou->Option SM} {x:Ou} {v:Mh}:∀ {P:List Ou} {vs:List Mh} {i:Nat} {m:Ou->Option Mh},P.Nodup->P[i]? = some x->vs[i]? = some v->kindOf x≠some .local →
  bindC kindOf (P.zip vs) m x=some v
 | [],_,_,_,_,h,_,_=>by simp at h
 | _::_,[],_,_,_,_,h,_=>by simp at h
 | p::P,w::vs,0,m,nd,h1,h2,hk=>by
  simp at h1 h2; subst h1; subst h2
  show bindC kindOf ((p,w)::P.zip vs) m p=_
  unfold bindC
  rw[o7 fun v hv=>(List.nodup_cons.mp nd).1 (U0 hv).1,if_neg hk]
  simp
 | p::P,w::vs,i+1,m,nd,h1,h2,hk=>by
  show bindC kindOf ((p,w)::P.zip vs) m x=_
  unfold bindC
  exact qF (i:=i) (List.nodup_cons.mp nd).2 (by simpa using h1) (by simpa using h2) hk
def start (N:List Ou) (vs:List V):St:=vs.map some++Mz (N.length - vs.length) none
def G9 (CX:CXT) (P:M8) (w:NQ) (K:MP) (mg:Ou->Option Mh) (base:N5) (N:List Ou) (qual:Ou) (scope:Sy) (f:Addr) (cd:Mh) (A:N8) (outer:List Env) (s:Mj) (H:Hp) (E:XK):Cx where
 prog:=P
 w:=w
 K:=K
 mg:=mg
 base:=base
 A:=A.deeper (Ue qual scope s.heap.objs.size f cd)
 N:=N
 s₀:=s
 H₀:=H
 env:=Ue qual scope s.heap.objs.size f cd
 outer:=outer
 stack:=Ue qual scope s.heap.objs.size f cd::outer
 ex:=[]
 calm:=true
 fn:=fun _=>true
 pn:=[]
 xe:=fun e s'=>Mw (M6 P w) (A.deeper (Ue qual scope s.heap.objs.size f cd)) (leaving (Ue qual scope s.heap.objs.size f cd) e) (fun _ s''=>CX outer H s E e s'') (fun e' s''=>CX outer H s E e' s'') s'
theorem ug {sc:Sy} {n:Nat} {x:Ou} (h:sc.names.lookup x=some .cell):∃ c,(cellsFrom n sc.names []).lookup x=some c:=by
 have q:=PySem.W.cellsFrom_some sc.names n [] (.inl h)
 exact Option.isSome_iff_exists.mp q
theorem zO {CX:CXT} {P:M8} {w:NQ} {K:MP} {mg:Ou->Option Mh} {base:N5} {N ps:List Ou} {qual:Ou} {scope:Sy} {f:Addr} {cd:Mh} {A:N8} {outer:List Env} {s s1:Mj} {H:Hp} {E:XK} {us:List Mh} {vs:List V}
  (S:aQ N ps scope) (hd:A.handled=none) (e0:JS P w K mg base A outer s H) (hl:vs.length=ps.length) (r:Vals vs us)
  (x:InCallC s s.heap.objs.size (bindL (Ue qual scope s.heap.objs.size f cd).kindOf (ps.zip us) fun _=>none) (cellsFrom (s.heap.objs.size+1) scope.names []) (bindC (Ue qual scope s.heap.objs.size f cd).kindOf (ps.zip us) fun _=>none) s1) :
  Inv (G9 CX P w K mg base N qual scope f cd A outer s H E) [] (start N vs) H s1:=by
 have hpl:ps.length<=N.length:=by have:=congrArg Rx S.pre; rw[Nf] at this; lia
 obtain⟨h1,tk,rfl,hk⟩:=x.done
 have noA:∀ b:Addr,b ∉ (G9 CX P w K mg base N qual scope f cd A outer s H E).ex:=fun b z=>absurd (show b∈([]:List Addr) from z) (by simp)
 refine⟨⟨e0.mod,S.kind,rfl,rfl,Mt _,fun y z c h1 h2=>?_,fun y hy=>?_,fun y c _ h=>?_,fun _=>hd,Around.frames_deeper e0.frames,.inr ⟨rfl,rfl⟩,fun b z=>absurd z (noA b),e0.bs,e0.bsz,fun b _ _=>noA b,fun b z=>absurd z (noA b),e0.zR,e0.frf⟩,
  rfl,e0.bare,Un.kept hk,⟨_,x.toInCall.ns,fun i y v h1 h2 h3=>?_⟩,fun y c h=>⟨_,x.cell y c h⟩,e0.hok.fresh (Mt _),fun y c h=>?_,fun p hp=>absurd (show p∈([]:List (Addr × Qv)) from hp) (by simp),e0.hok.kept hk,?_⟩
 ·exact name_of_addr x.apart (O8 h1) (O8 h2)
 ·have hy:scope.names.lookup y=some .cell∨scope.names.lookup y=some .free:=hy
  rcases hy with hy | hy
  ·exact ug hy
  ·exact absurd rfl (S.nofree _ (O8 hy))
 ·exact Te (x.above y c (O8 h))
 ·have hi:i < vs.length:=by
   unfold start at h2
   by_cases hi:i < vs.length
   ·exact hi
   ·rw[SQ (by simpa using hi)] at h2
    rw[Pj] at h2
    split at h2 <;> cases h2
  have ha:vs[i]? = some v:=by
   unfold start at h2
   rw[List.getElem?_append_left (by simpa using hi),Nj] at h2
   cases e:vs[i]? with
   | none=>rw[e] at h2; cases h2
   | some a=>rw[e] at h2; cases h2; rfl
  obtain⟨u,hu,rv⟩:=r.get ha
  have hp:ps[i]? = some y:=by
   rw[← S.pre,List.getElem?_take_of_lt (by lia)]; exact h1
  have ndP:ps.Nodup:=by rw[← S.pre]; exact S.nd.sublist (List.take_sublist _ _)
  refine⟨u,rv,?_⟩
  rcases S.par y (MJ hp) with k | k
  ·exact .inl ⟨k,ql ndP hp hu k⟩
  ·obtain⟨c,e⟩:=ug (n:=s.heap.objs.size+1) k
   refine .inr ⟨.inl k,c,e,?_⟩
   have q:=x.cell y c e
   rw[qF ndP hp hu (by show scope.names.lookup y≠_; rw[k]; decide)] at q
   exact q
 ·exact e0.hok.fresh (Te (x.above y c (O8 h)))
 ·unfold start
  show _=N.length
  rw[Mv,Mf,Nv]
  lia
theorem J7 {CX:CXT} {P:M8} {w:NQ} {K:MP} {mg:Ou->Option Mh} {base:N5} {k:Nat} {f:Addr} {name qual:Ou} {params:Arguments} {body:List Stmt} {scope:Sy} {dV kV doc pm cdv ct oc:Mh} {an od:Option Addr}
  {osl:Array (Option Mh)} {N ps:List Ou} {sp:Sp} (lk:K.lookup f=some ⟨oc,od,.func (RB name qual params body scope dV kV doc pm an cdv ct),osl⟩) (hcd:TX K cdv qual=true) (S:aQ N ps scope)
  (len:∀ vs H Q E,sp vs H Q E->vs.length=ps.length)
  (hbody:∀ (A:N8) (outer:List Env) (s:Mj) (H:Hp) (vs:List V) (Q:VK) (E:XK),lV k (A.deeper (Ue qual scope s.heap.objs.size f cdv))->sp vs H Q E →
   ∃ t,PSs (G9 CX P w K mg base N qual scope f cdv A outer s H E) body t/\t { nx:=fun _ H'=>Q .non H',rt:=Q } (start N vs) H) :
  fu P w K mg base CX (k+1) f (RB name qual params body scope dV kV doc pm an cdv ct) ps sp:=by
 refine⟨len,fun A outer s H args us vs Q E hr e0 hb r hsp=>?_⟩
 have hl:=len _ _ _ _ hsp
 have KX:K.In s.heap:=e0.mod.kin.keeps fun b o e=>(e0.bs b o e).1
 have lim:s.heap.NoLimit:=e0.mod.nolimit.keeps fun b o e=>(e0.bs b o e).1
 have hkind:∀ y∈ps.zip us,scope.names.lookup y.1=some .local∨(scope.names.lookup y.1=some .cell/\((cellsFrom (s.heap.objs.size+1) scope.names []).lookup y.1).isSome=true):=fun⟨n,v⟩ hy=>by
  rcases S.par n (U0 hy).1 with q | q
  ·exact .inl q
  ·exact .inr ⟨q,PySem.W.cellsFrom_some _ _ _ (.inl q)⟩
 refine codeAny_call_function hr.depth (KX _ _ lk) rfl S.co S.gen rfl (PySem.W.codeRec_of KX hcd) (hb _ _ _ _ ?_)
 refine wpAny_newFunctionEnv_cells S.kind hkind fun env he s1 x=>?_
 subst he
 refine⟨lim.keeps x.toInCall.keep,codeAny_func ?_⟩
 obtain⟨t,ht,hq⟩:=hbody A outer s H vs Q E (hr.deeper _) hsp
 have I:Inv (G9 CX P w K mg base N qual scope f cdv A outer s H E) [] (start N vs) H s1:=zO S hr.hd e0 hl r x
 refine PQ (ht [] s1 (start N vs) H _ I hq) (fun fl s' hs=>?_) fun e s' hs=>hs
 have fin:∀ {σ':St} {H':Hp} {v:V} {u:Mh},Inv (G9 CX P w K mg base N qual scope f cdv A outer s H E) [] σ' H' s'->RelV v u->Q v H'->CE outer P w H s Q u s' :=
  fun {σ' H' v u} J rv q=>⟨v,H',J.os,J.bare,J.base,J.hok,rv,q⟩
 cases fl with
 | ret u =>
  obtain⟨v,σ',H',J,rv,q⟩:=hs
  exact fin J rv q
 | next =>
  obtain⟨σ',H',J,q⟩:=hs
  exact fin (v:=V.non) (u:=Oc) J rfl q
 | brk =>
  obtain⟨_,_,_,q⟩:=hs
  exact Q0 q
 | cont =>
  obtain⟨_,_,_,q⟩:=hs
  exact Q0 q
end L2
namespace L2
open PySem PySem.Spec PyProof.Rows
section
variable {X:Cx} {x:Ou} {p pos:R8} {e:Expr} {es:List Expr} {t:TA} {id T:String} {r:List V->Hp->VK->Prop}
def tCB (r:List V->Hp->VK->Prop) (t:TA):TE:=fun σ H Q=>t σ H fun vs H1=>r vs H1 Q
theorem aJ (hc:gD X (.builtin id) r) (hg:Gl X x) (hm:X.mg x=none) (hv:Oa x=some (.builtin id)) (ha:PA X (e::es) t) (hn:x≠"__name__":=by decide) (hdb:(x == ("__debug__" : Ou))=false:=by decide)
  (he:Nm (e::es) X.env=(false,Qd e X.env)::Nm es X.env:=by rfl) (hpl:(Ru pos (Nm es X.env)).any (·.1)=false:=by rfl):PE X (.Call (.Name x p) (e::es) [] pos) (tCB r t):=by
 intro pins s σ H Q I h
 refine QB (gm I hg hm hv ?_ hn hdb)
 exact PyProof.Rows.callWith_builtin1 (thn (ha pos pins s σ H _ I h) fun us s1 ⟨vs,H1,I1,r1,q1⟩=>hc pins s1 σ H1 vs us Q I1 r1 q1) he hpl
theorem dH (hc:gD X (.type T) r) (hg:Gl X x) (hm:X.mg x=none) (hv:Oa x=some (.type T)) (ha:PA X (e::es) t) (hn:x≠"__name__":=by decide) (hdb:(x == ("__debug__" : Ou))=false:=by decide)
  (he:Nm (e::es) X.env=(false,Qd e X.env)::Nm es X.env:=by rfl) (hpl:(Ru pos (Nm es X.env)).any (·.1)=false:=by rfl):PE X (.Call (.Name x p) (e::es) [] pos) (tCB r t):=by
 intro pins s σ H Q I h
 refine QB (gm I hg hm hv ?_ hn hdb)
 exact Oe (thn (ha pos pins s σ H _ I h) fun us s1 ⟨vs,H1,I1,r1,q1⟩=>hc pins s1 σ H1 vs us Q I1 r1 q1) he hpl
end
end L2
namespace HT
open PySem PyProof.Rows
def lexLt:List Int->List Int->Bool
 | [],[]=>false
 | [],_::_=>true
 | _::_,[]=>false
 | x::xs,y::ys=>if x=y then lexLt xs ys else decide (x < y)
theorem gU (x y:Int) (xs ys:List Int):lexLt (x::xs) (y::ys)=if x=y then lexLt xs ys else decide (x < y):=rfl
theorem mF (y:Int) (ys:List Int):lexLt [] (y::ys)=true:=rfl
theorem mD (x:Int) (xs:List Int):lexLt (x::xs) []=false:=rfl
section
open PySem.SeqAt
open PySem.AutoSeq1 (wpAny_loadPart')
open PySem.MeetsSeq PySem.MeetsSeq2 PySem.MeetsSeq3
end
section
variable {prog:M8} {w:NQ} {A:N8} {E:Mh->Mj->Prop} {s:Mj}
def sIx (n d:Nat):Option Int->Nat
 | none=>d
 | some v=>if v < 0 then (v+(n:Int)).toNat else min v.toNat n
end
end HT
namespace L2
open PySem PySem.Spec PyProof.Rows
abbrev TO:=St->Hp->(Option Int->Hp->Prop)->Prop
def PO (X:Cx) (e:Option Expr) (t:TO):Prop :=
 ∀ (pins:List (Addr × Qv)) (s:Mj) (σ:St) (H:Hp) (Q:Option Int->Hp->Prop),Inv X pins σ H s->t σ H Q →
  Mw (M6 X.prog X.w) X.A (evalPart e X.env) (fun u s'=>∃ o H',Inv X pins σ H' s'/\IsPart u o/\Q o H') X.xe s
def GQ:TO:=fun _ H Q=>Q none H
def J2 (t:TE):TO:=fun σ H Q=>t σ H fun x H1=>∃ i,x = .int i/\Q (some i) H1
theorem intsAre_of {ns:List Int}:∀ {us:List Mh},Vals (ns.map V.int) us->Ow us ns:=by
 induction ns with
 | nil=>intro us r; rw[RD] at r; cases r; exact .nil
 | cons n ns ih =>
  intro us r
  rw[Ni] at r
  cases r with
  | cons r1 r2 =>
   obtain⟨t,e⟩:=r1
   subst e
   exact .cons n t (ih r2)
section
variable {X:Cx} {e:Expr} {te:TE} {lo hi:Option Expr} {tl th:TO} {pos p2:R8}
theorem rY:PO X none GQ:=by
 intro pins s σ H Q I h
 rw[evalPart_none]
 exact Mp ⟨none,H,I,.none,h⟩
theorem rA (h:PE X e te):PO X (some e) (J2 te):=by
 intro pins s σ H Q I hw
 rw[evalPart_some]
 refine thn (h pins s σ H _ I hw) fun u s1 ⟨x,H1,I1,r1,q1⟩=>?_
 obtain⟨i,rfl,q⟩:=q1
 obtain⟨t,rfl⟩:=r1
 exact⟨some i,H1,I1,.int i t,q⟩
def SlR (X:Cx) (r:V->Option Int->Option Int->Hp->VK->Prop):Prop :=
 ∀ (pins:List (Addr × Qv)) (s:Mj) (σ:St) (H:Hp) (x:V) (v vl vu:Mh) (lo hi:Option Int) (sl:Addr) (Q:VK),Inv X pins σ H s->RelV x v->s.heap.IsSliceOf sl vl vu .none->IsPart vl lo->IsPart vu hi->r x lo hi H Q →
  ∃ T id,typeLookup (.type T) "__getitem__" = pure (some (.builtin id))/\s.TypeIs v T/\Mw (M6 X.prog X.w) X.A (U7 v (.ref sl)) (EP X pins σ Q) X.xe s
def tSl (r:V->Option Int->Option Int->Hp->VK->Prop) (te:TE) (tl th:TO):TE:=fun σ H Q=>te σ H fun x H1=>tl σ H1 fun l H2=>th σ H2 fun u H3=>r x l u H3 Q
theorem oX {r:V->Option Int->Option Int->Hp->VK->Prop} (hr:SlR X r) (he:PE X e te) (hl:PO X lo tl) (hu:PO X hi th):PE X (.Subscript e (.Slice lo hi none p2) pos) (tSl r te tl th):=by
 intro pins s σ H Q I h
 refine Subscript_ (thn (he pins s σ H _ I h) fun v s1 ⟨x,H1,I1,r1,q1⟩=>?_)
 refine wpAny_Slice (thn (hl pins s1 σ H1 _ I1 q1) fun vl s2 ⟨l,H2,I2,pl,q2⟩=>thn (hu pins s2 σ H2 _ I2 q2) fun vu s3 ⟨u,H3,I3,pu,q3⟩=>?_)
 rw[evalPart_none]
 refine Mp ?_
 have I4:Inv X pins σ H3 { s3 with heap:=s3.heap.push { cls:=.type "slice",data:=.fields #[vl,vu,.none] } }:=I3.kept (t':=s3.toks) fun b ob q=>Ma _ q
 obtain⟨T,id,hT,ht,hg⟩:=hr pins { s3 with heap:=s3.heap.push { cls:=.type "slice",data:=.fields #[vl,vu,.none] } } σ H3 x v vl vu l u s3.heap.objs.size Q I4 r1 (Heap.IsSliceOf.new ..) pl pu q3
 show Mw (M6 X.prog X.w) X.A (subscriptTail e (.Slice lo hi none p2) v (.ref s3.heap.objs.size)) (EP X pins σ Q) X.xe { s3 with heap:=s3.heap.push { cls:=.type "slice",data:=.fields #[vl,vu,.none] } }
 exact tail_any (ops:=[.ref s3.heap.objs.size,v]) ht hT hg (by with_unfolding_all rfl)
def Gv (xs:List V) (lo hi:Option Int):List V:=(xs.drop (HT.sIx xs.length 0 lo)).take (HT.sIx xs.length xs.length hi - HT.sIx xs.length 0 lo)
theorem sS (xs:List V) (lo hi:Option Int):(Gv xs lo hi).length<=xs.length:=by
 unfold Gv
 rw[Nf,List.length_drop]
 lia
theorem Vals.GJ {xs:List V} {us:List Mh} (r:Vals xs us):us=[] ↔ xs=[]:=by
 cases r with
 | nil=>simp
 | cons _ _=>simp
end
end L2
namespace L2
open PySem PySem.Spec PyProof.Rows
def ixN (n:Nat) (i:Int):Option Nat:=if 0<=i then (if i < n then some i.toNat else none) else if -(n:Int)<=i then some (i+n).toNat else none
def atI {α:Type} (xs:List α) (i:Int):Option α:=(ixN xs.length i).bind fun j=>xs[j]?
theorem zJ {n:Nat} {i:Int} {j:Nat} (h:ixN n i=some j):Uy i n=some j/\j < n/\-(n:Int)<=i/\i < n:=by
 unfold ixN at h
 by_cases h0:0<=i
 ·rw[if_pos h0] at h
  by_cases h1:i < n
  ·rw[if_pos h1] at h
   have e:i.toNat=j:=M9 h
   exact⟨by rw[seqIndex_of h0 h1,e],by lia,by lia,h1⟩
  ·rw[if_neg h1] at h; cases h
 ·rw[if_neg h0] at h
  by_cases h1 : -(n:Int)<=i
  ·rw[if_pos h1] at h
   have e:(i+n).toNat=j:=M9 h
   exact⟨by rw[seqIndex_neg (by lia) h1,e],by lia,h1,by lia⟩
  ·rw[if_neg h1] at h; cases h
theorem sU {α:Type} {xs:List α} {i:Int} {v:α} (h:atI xs i=some v):∃ j,Uy i xs.length=some j/\xs[j]? = some v/\j < xs.length/\-(xs.length:Int)<=i/\i < xs.length:=by
 unfold atI at h
 cases e:ixN xs.length i with
 | none=>rw[e] at h; cases h
 | some j =>
  rw[e] at h
  obtain⟨h1,h2,h3,h4⟩:=zJ e
  exact⟨j,h1,h,h2,h3,h4⟩
theorem iQ {α:Type} {xs:List α} {j:Nat} {v:α} (h:xs[j]? = some v):atI xs (j:Int)=some v:=by
 have hj:j < xs.length:=(List.getElem?_eq_some_iff.mp h).1
 have e:ixN xs.length (j:Int)=some j:=by
  unfold ixN
  rw[if_pos (by lia),if_pos (by lia)]; simp
 unfold atI; rw[e]; exact h
theorem Cj {α:Type} (xs:List α) (v:α):atI (xs++[v]) (-1)=some v:=by
 have hl:(xs++[v]).length=xs.length+1:=by simp
 have e:ixN (xs++[v]).length (-1)=some xs.length:=by
  unfold ixN
  rw[hl,if_neg (by decide),if_pos (by lia)]
  congr 1
  lia
 unfold atI
 rw[e]
 show (xs++[v])[xs.length]? = some v
 simp
def GZ (b:Expr):Prop:=∀ o i,UL b false o i=operate [o,i] (U7 o i)
def IxR (X:Cx) (r:R2):Prop :=
 ∀ (value slice:Expr) (pins:List (Addr × Qv)) (s:Mj) (σ:St) (H:Hp) (x y:V) (v u:Mh) (Q:VK),Inv X pins σ H s->RelV x v->RelV y u->r x y H Q →
  UL slice false v u=operate [v,u] (U7 v u)->Mw (M6 X.prog X.w) X.A (subscriptTail value slice v u) (EP X pins σ Q) X.xe s
def MtR (X:Cx) (id:String) (r:V->List V->Hp->VK->Prop):Prop :=
 ∀ (pins:List (Addr × Qv)) (s:Mj) (σ:St) (H:Hp) (x:V) (xs:List V) (v:Mh) (us:List Mh) (Q:VK),Inv X pins σ H s->RelV x v->Vals xs us->r x xs H Q →
  Mw (M6 X.prog X.w) X.A (call (.builtin id) (v::us)) (EP X pins σ Q) X.xe s
section
variable {X:Cx} {a b:Expr} {ta tb:TE} {pos:R8}
theorem IxR.or {r r':R2} (h:IxR X r) (h':IxR X r'):IxR X (fun x y H Q=>r x y H Q∨r' x y H Q):=by
 intro value slice pins s σ H x y v u Q I rx ry q hs
 rcases q with q | q
 ·exact h value slice pins s σ H x y v u Q I rx ry q hs
 ·exact h' value slice pins s σ H x y v u Q I rx ry q hs
theorem bH {r:R2} (hr:IxR X r) (ha:PE X a ta) (hb:PE X b tb) (hs:GZ b):PE X (.Subscript a b pos) (tOp r ta tb):=by
 intro pins s σ H Q I h
 exact Subscript_ (Kg ha hb I h fun v u s2 x y H2 I2 rx ry q=>hr a b pins s2 σ H2 x y v u Q I2 rx ry q (hs _ _))
def jK (K:MP):R2:=fun x y H Q=>∃ p xs i v,x = .ref p/\y = .int i/\SqL K H p xs/\atI xs i=some v/\Q v H
def oZ (K:MP):R2:=fun x y H Q=>∃ p xs i v,x = .ref p/\y = .int i/\SqT K H p xs/\atI xs i=some v/\Q v H
def KZ:R2:=fun x y H Q=>∃ z i c,x = .str z/\y = .int i/\z.length<=sizeLine/\atI z.cps.toList i=some c/\Q (.str ⟨#[c]⟩) H
theorem bj:IxR X (jK X.K):=by
 intro value slice pins s σ H x y v u Q I rx ry h hs
 obtain⟨p,xs,i,z,rfl,rfl,hq,he,q⟩:=h
 cases rx
 obtain⟨t,rfl⟩:=ry
 obtain⟨its,r,pl,hz⟩:=I.list hq
 obtain⟨j,h1,h2,h3,h4,h5⟩:=sU he
 obtain⟨w,ew,rw'⟩:=r.get h2
 have hl:=r.length
 have hn:=mZ
 have fin:EP X pins σ Q w s:=⟨z,H,I,rw',q⟩
 by_cases h0:0<=i
 ·have hj:i.toNat=j:=by
   rw[seqIndex_of h0 h5] at h1
   exact M9 h1
  exact item_listR pl.isList h0 (by lia) (by rw[hj]; simpa using ew) fin hs
 ·have hj:(i+(its.toArray.size:Int)).toNat=j:=by
   rw[seqIndex_neg (by lia) h4] at h1
   rw[Mq,← hl]
   exact M9 h1
  exact subscriptTail_builtinR (x:=w) pl.isList.typeIs slot_list_getitem.lookup
   (wpAny_getItem_list_neg (Q:=fun r s'=>r=w/\EP X pins σ Q r s') pl.isList (by lia) (by rw[Mq] <;> lia) (by lia) (by rw[hj]; simpa using ew) ⟨rfl,fin⟩) hs
theorem dz:IxR X (oZ X.K):=by
 intro value slice pins s σ H x y v u Q I rx ry h hs
 obtain⟨p,xs,i,z,rfl,rfl,hq,he,q⟩:=h
 cases rx
 obtain⟨t,rfl⟩:=ry
 obtain⟨its,r,pl,hz⟩:=I.tuple hq
 obtain⟨j,h1,h2,h3,h4,h5⟩:=sU he
 obtain⟨w,ew,rw'⟩:=r.get h2
 have hl:=r.length
 have hn:=mZ
 have fin:EP X pins σ Q w s:=⟨z,H,I,rw',q⟩
 exact subscriptTail_builtinR (x:=w) pl.typeIs slot_tuple_getitem.lookup
  (getItem_tuple (j:=j) (Q:=fun r s'=>r=w/\EP X pins σ Q r s') pl (by lia) (by lia) (by rw[Mq,← hl]; exact h1) (by simpa using ew) ⟨rfl,fin⟩) hs
theorem Ib:IxR X KZ:=by
 intro value slice pins s σ H x y v u Q I rx ry h hs
 obtain⟨z,i,c,rfl,rfl,hz,he,q⟩:=h
 obtain⟨t,rfl⟩:=rx
 obtain⟨t',rfl⟩:=ry
 obtain⟨j,h1,h2,h3,h4,h5⟩:=sU he
 have hl:z.cps.toList.length=z.length:=by simp [Str.length]
 rw[hl] at h1 h4 h5
 have hn:=mZ
 exact tail_any (typeIs_str s z t) slot_str_getitem.lookup (getItem_str (c:=c) (by
  have e1:decide (i < -(2 ^ 63:Int))=false:=decide_eq_false (by lia)
  have e2:decide (i ≥ 2 ^ 63)=false:=decide_eq_false (by lia)
  rw[e1,e2,S7]) (by rw[h1]; simpa using h2) ⟨.str ⟨#[c]⟩,H,I.tok _,⟨_,rfl⟩,q⟩) hs
def rIx (K:MP):R2:=fun x y H Q=>jK K x y H Q∨oZ K x y H Q∨KZ x y H Q
theorem Cu:IxR X (rIx X.K):=bj.or (dz.or Ib)
theorem vV (its:List Mh) (n j:Nat) (u:Mh):O2 (·.setIfInBounds j u) { cls:=.type "list",data:=.seq its.toArray n }={ cls:=.type "list",data:=.seq (its.set j u).toArray n }:=by
 simp [O2]
theorem Inv.lst {pins:List (Addr × Qv)} {σ:St} {H:Hp} {s:Mj} {p:Addr} {xs:List V} (I:Inv X pins σ H s) (h:H p=some (.lst xs)) :
  ∃ (its:List Mh) (n:Nat),Vals xs its/\s.heap.get? p=some { cls:=.type "list",data:=.seq its.toArray n }/\xs.length<=sizeLine:=by
 obtain⟨z,its,n,r,e⟩:=I.hok p _ h
 exact⟨its,n,r,e,z⟩
theorem Inv.Jp {pins:List (Addr × Qv)} {σ:St} {H:Hp} {s:Mj} {p:Addr} {xs ys:List V} {its its':List Mh} {n n':Nat} {f:Qv->Qv} (I:Inv X pins σ H s) (h:H p=some (.lst xs))
  (ho:s.heap.get? p=some { cls:=.type "list",data:=.seq its.toArray n }) (hf:f { cls:=.type "list",data:=.seq its.toArray n }={ cls:=.type "list",data:=.seq its'.toArray n' }) (r:Vals ys its') (hz:ys.length<=sizeLine) (t:Nat) :
  Inv X pins σ (upd H p (.lst ys)) { s with heap:=s.heap.update p f,toks:=t }:=by
 have e:(s.heap.update p f).get? p=some { cls:=.type "list",data:=.seq its'.toArray n' }:=by
  rw[Py f ho (by rw[hf] <;> rfl),hf]
 refine I.write (x:=p) (e:=p) (by rw[h]; trivial) (.inl rfl) (fun b u hb q=>(Ov _ _ (Rk hb)).trans q) ⟨_,e⟩ ?_
 exact⟨hz,its',n',r,e⟩
def Kl:V->V->V->Hp->(Hp->Prop)->Prop:=fun o i v H Q=>∃ p xs k j,o = .ref p/\i = .int k/\H p=some (.lst xs)/\ixN xs.length k=some j/\Q (upd H p (.lst (xs.set j v)))
theorem set_list:KH X Kl:=by
 intro pins s σ H o i v ov iv u Q I ro ri rv h
 obtain⟨p,xs,k,j,rfl,rfl,hp,hj,q⟩:=h
 cases ro
 obtain⟨t,rfl⟩:=ri
 obtain⟨its,n,r,ho,hz⟩:=I.lst hp
 obtain⟨h1,h2,h3,h4⟩:=zJ hj
 have hl:=r.length
 have hn:=mZ
 have I':Inv X pins σ (upd H p (.lst (xs.set j v))) { s with heap:=s.heap.update p (O2 (·.setIfInBounds j u)) } :=
  I.Jp hp ho (vV its n j u) (r.set rv j) (by rw[Tu]; exact hz) s.toks
 by_cases h0:0<=k
 ·have hk:k.toNat=j:=by
   rw[seqIndex_of h0 h4] at h1
   exact M9 h1
  exact PySem.W.ki_setAt ho h0 (by lia) (by rw[Mq,← hl]; exact h4) (by rw[hk]; exact⟨_,I',q⟩)
 ·have hk:(k+(its.toArray.size:Int)).toNat=j:=by
   rw[seqIndex_neg (by lia) h3] at h1
   rw[Mq,← hl]
   exact M9 h1
  exact PySem.W.ki_setBack ho (by lia) (by rw[Mq,← hl]; exact h3) (by lia) (by rw[hk]; exact⟨_,I',q⟩)
theorem pM (lo hi:Option Int) (n:Nat):(RX lo hi none n).1=((HT.sIx n 0 lo:Nat):Int)/\(RX lo hi none n).2.1=((HT.sIx n n hi:Nat):Int)/\(RX lo hi none n).2.2=1:=by
 refine⟨?_,?_,rfl⟩
 ·cases lo with
  | none=>simp [RX,HT.sIx]
  | some i =>
   simp only[RX,HT.sIx,Option.getD_none,show (1:Int) > 0 by decide,if_true]
   by_cases h:i < 0
   ·simp only[h,if_true] <;> lia
   ·simp only[h,if_false] <;> lia
 ·cases hi with
  | none=>simp [RX,HT.sIx]
  | some i =>
   simp only[RX,HT.sIx,Option.getD_none,show (1:Int) > 0 by decide,if_true]
   by_cases h:i < 0
   ·simp only[h,if_true] <;> lia
   ·simp only[h,if_false] <;> lia
theorem nT (its:List Mh) (lo hi:Option Int):slicePick its.toArray lo hi none=((its.drop (HT.sIx its.length 0 lo)).take (HT.sIx its.length its.length hi - HT.sIx its.length 0 lo)).toArray:=by
 obtain⟨h1,h2,h3⟩:=pM lo hi its.toArray.size
 unfold slicePick
 rw[h1,h2,h3]
 simp only[sliceRange_one,pick_run,Mq] <;> rfl
def JV (K:MP):V->Option Int->Option Int->Hp->VK->Prop:=fun x lo hi H Q=>∃ a xs,x = .ref a/\SqL K H a xs/\∀ p,H p=none->Q (.ref p) (upd H p (.lst (Gv xs lo hi)))
theorem qW:SlR X (JV X.K):=by
 intro pins s σ H x v vl vu lo hi sl Q I rx hs pl pu h
 obtain⟨a,xs,rfl,hx,q⟩:=h
 cases rx
 obtain⟨its,r,ht,hz⟩:=I.list hx
 have hlen:=r.length
 refine⟨"list",_,slot_list_getitem.lookup,ht.isList.typeIs,?_⟩
 refine wpAny_getItem_list_slice ht.isList hs pl pu .none (by simp) ?_ (by rw[Mq] <;> lia)
 rw[nT,← hlen]
 refine⟨.ref s.heap.objs.size,_,I.laid (t':=s.toks) (o:=.lst (Gv xs lo hi)) (fun b ob q=>Ma _ q) (Mt _) ?_,rfl,q _ (I.hok.fresh (Mt _))⟩
 exact⟨Ob (sS xs lo hi) hz,_,0,(r.drop (HT.sIx xs.length 0 lo)).take (HT.sIx xs.length xs.length hi - HT.sIx xs.length 0 lo),Mm _ rfl⟩
def oY:V->Bool
 | .non=>true
 | .bl _=>true
 | .int _=>true
 | .str _=>true
 | _=>false
def eqV:V->V->Bool
 | .non,.non=>true
 | .bl a,.bl b=>a == b
 | .bl a,.int b=>(if a then 1 else 0) == b
 | .int a,.bl b=>a == (if b then 1 else 0)
 | .int a,.int b=>a == b
 | .str a,.str b=>a == b
 | _,_=>false
theorem Jl {A:N8} {s:Mj} {y x:V} {u v:Mh} (ry:RelV y u) (rx:RelV x v) (fy:oY y=true) (fx:oY x=true):SeqAt.EqAt A s u v (eqV y x):=by
 cases y with
 | non =>
  cases ry
  cases x with
  | non=>cases rx; exact SeqAt.EqAt.same _
  | bl b=>cases rx; exact SeqAt.EqAt.none_bool b
  | int b=>obtain⟨t,rfl⟩:=rx; exact SeqAt.EqAt.none_int b t
  | str b=>obtain⟨t,rfl⟩:=rx; exact SeqAt.EqAt.none_str b t
  | _=>exact absurd (show false=true from fx) Mr
 | bl a =>
  cases ry
  cases x with
  | non=>cases rx; exact SeqAt.EqAt.bool_none a
  | bl b=>cases rx; exact SeqAt.EqAt.bool_bool a b
  | int b=>obtain⟨t,rfl⟩:=rx; exact SeqAt.EqAt.bool_int a b t
  | str b=>obtain⟨t,rfl⟩:=rx; exact SeqAt.EqAt.bool_str a b t
  | _=>exact absurd (show false=true from fx) Mr
 | int a =>
  obtain⟨t',rfl⟩:=ry
  cases x with
  | non=>cases rx; exact SeqAt.EqAt.int_none a t'
  | bl b=>cases rx; exact SeqAt.EqAt.int_bool a t' b
  | int b=>obtain⟨t,rfl⟩:=rx; exact Sx a t' b t
  | str b=>obtain⟨t,rfl⟩:=rx; exact SeqAt.EqAt.int_str a t' b t
  | _=>exact absurd (show false=true from fx) Mr
 | str a =>
  obtain⟨t',rfl⟩:=ry
  cases x with
  | non=>cases rx; exact SeqAt.EqAt.str_none a t'
  | bl b=>cases rx; exact SeqAt.EqAt.str_bool a t' b
  | int b=>obtain⟨t,rfl⟩:=rx; exact SeqAt.EqAt.str_int a t' b t
  | str b=>obtain⟨t,rfl⟩:=rx; exact SeqAt.EqAt.str_str a t' b t
  | _=>exact absurd (show false=true from fx) Mr
 | _=>exact absurd (show false=true from fy) Mr
def eqU (x:V) (u:Mh):Bool:=match u with
 | .none=>eqV .non x
 | .bool b=>eqV (.bl b) x
 | .int i _=>eqV (.int i) x
 | .str z _=>eqV (.str z) x
 | _=>false
theorem Cv {x y:V} {u:Mh} (r:RelV y u) (f:oY y=true):eqU x u=eqV y x:=by
 cases y with
 | non=>cases r; rfl
 | bl b=>cases r; rfl
 | int i=>obtain⟨t,rfl⟩:=r; rfl
 | str z=>obtain⟨t,rfl⟩:=r; rfl
 | _=>exact absurd (show false=true from f) Mr
theorem rJ {x:V}:∀ {xs:List V} {us:List Mh},Vals xs us->xs.all oY=true->us.any (eqU x)=xs.any fun y=>eqV y x
 | _,_,.nil,_=>rfl
 | y::xs,u::us,.cons r t,f=>by
  rw[RV,Qh] at f
  rw[RT,RT,Cv r f.1,rJ t f.2]
theorem nP {A:N8} {s:Mj} {x:V} {v:Mh} (rx:RelV x v) (fx:oY x=true):∀ {xs:List V} {us:List Mh},Vals xs us->xs.all oY=true->∀ u∈us,SeqAt.EqAt A s u v (eqU x u)
 | _,_,.nil,_=>fun u hu=>by cases hu
 | y::xs,u::us,.cons r t,f=>fun u' hu=>by
  rw[RV,Qh] at f
  rcases List.mem_cons.mp hu with rfl | hu
  ·rw[Cv r f.1]; exact Jl r rx f.1 fx
  ·exact nP rx fx t f.2 u' hu
def inV (x:V) (xs:List V):Bool:=xs.any fun y=>eqV y x
def rIn (K:MP) (neg:Bool):R2:=fun x y H Q=>∃ p xs,y = .ref p/\(SqL K H p xs∨SqT K H p xs)/\oY x=true/\xs.all oY=true/\Q (.bl (if neg then !inV x xs else inV x xs)) H
theorem ym:OpR X (Qg .In) (rIn X.K false):=by
 intro pins s σ H x y v u Q I rx ry h
 obtain⟨p,xs,rfl,hq,fx,fs,q⟩:=h
 cases ry
 rcases hq with hq | hq
 ·obtain⟨its,r,pl,hz⟩:=I.list hq
  refine SeqAt.in_listAt (eqU x) pl.isList (fun w hw=>nP rx fx r fs w (by simpa using hw)) ⟨.bl _,H,I,rfl,?_⟩
  rw[show its.toArray.any (eqU x)=its.any (eqU x) by simp,rJ r fs]
  exact q
 ·obtain⟨its,r,pl,hz⟩:=I.tuple hq
  refine SeqAt.in_tupleAt (eqU x) pl (fun w hw=>nP rx fx r fs w (by simpa using hw)) ⟨.bl _,H,I,rfl,?_⟩
  rw[show its.toArray.any (eqU x)=its.any (eqU x) by simp,rJ r fs]
  exact q
theorem qJ:gD X (.builtin "len") (fun xs H Q=>∃ p ys,xs=[.ref p]/\(SqL X.K H p ys∨SqT X.K H p ys)/\Q (.int ys.length) H):=by
 intro pins s σ H xs us Q I r h
 obtain⟨p,ys,rfl,hq,q⟩:=h
 obtain⟨u,rfl,rx⟩:=vals1 r
 cases rx
 have hn:=mZ
 rcases hq with hq | hq
 ·obtain⟨its,r',pl,hz⟩:=I.list hq
  have hlen:=r'.length
  exact Calls.call_len_list pl.isList (by simp only[Mq] <;> lia) ⟨.int ys.length,H,I.tok _,⟨s.toks+1,by rw[Mq,hlen]⟩,q⟩
 ·obtain⟨its,r',pl,hz⟩:=I.tuple hq
  have hlen:=r'.length
  exact len_tuple pl (by simp only[Mq] <;> lia) ⟨.int ys.length,H,I.tok _,⟨s.toks+1,by rw[Mq,hlen]⟩,q⟩
theorem qK:gD X (.type "list") (fun xs H Q=>∃ p ys,xs=[.ref p]/\(SqL X.K H p ys∨SqT X.K H p ys)/\∀ l,H l=none->Q (.ref l) (upd H l (.lst ys))):=by
 intro pins s σ H xs us Q I r h
 obtain⟨p,ys,rfl,hq,q⟩:=h
 obtain⟨u,rfl,rx⟩:=vals1 r
 cases rx
 have fin:∀ (its:List Mh),Vals ys its->ys.length<=sizeLine->∀ (h':N5) (c':Nat),(∀ b o',s.heap.get? b=some o'->h'.get? b=some o') →
   h'.get? s.heap.objs.size=some { cls:=.type "list",dict:=none,data:=.seq its.toArray c',slots:=#[] }->EP X pins σ Q (.ref s.heap.objs.size) { s with heap:=h' }:=fun its r' hz h' c' kp e =>
  ⟨.ref s.heap.objs.size,_,I.laid (t':=s.toks) kp (Mt _) (show dh X.prog X.w _ h' _ (.lst ys) from ⟨hz,its,c',r',e⟩),rfl,q _ (I.hok.fresh (Mt _))⟩
 rcases hq with hq | hq
 ·obtain⟨its,r',pl,hz⟩:=I.list hq
  have hlen:=r'.length
  obtain⟨o,ho,hc,n,hd⟩:=pl.isList
  exact call_list_seq p (.inl rfl) ho hc hd (fun h' c' kp e=>fin its r' hz h' c' kp e) (by simp only[Mq] <;> lia)
 ·obtain⟨its,r',pl,hz⟩:=I.tuple hq
  have hlen:=r'.length
  obtain⟨o,ho,hc,n,hd⟩:=pl
  exact call_list_seq p (.inr rfl) ho hc hd (fun h' c' kp e=>fin its r' hz h' c' kp e) (by simp only[Mq] <;> lia)
theorem oV:gD X (.type "tuple") (fun xs H Q=>∃ p ys,xs=[.ref p]/\((SqL X.K H p ys/\∀ l,H l=none->Q (.ref l) (upd H l (.tup ys)))∨(SqT X.K H p ys/\Q (.ref p) H))):=by
 intro pins s σ H xs us Q I r h
 obtain⟨p,ys,rfl,h⟩:=h
 obtain⟨u,rfl,rx⟩:=vals1 r
 cases rx
 rcases h with⟨hq,q⟩ | ⟨hq,q⟩
 ·obtain⟨its,r',pl,hz⟩:=I.list hq
  have hlen:=r'.length
  refine call_tuple_list pl.isList (fun h' kp=>?_) (by simp only[Mq] <;> lia)
  have I1:Inv X pins σ H { s with heap:=h' }:=I.kept (t':=s.toks) kp
  have I2:Inv X pins σ (upd H h'.objs.size (.tup ys)) { s with heap:=h'.push { cls:=.type "tuple",data:=.seq its.toArray } } :=
   I1.laid (t':=s.toks) (fun b o e=>Ma _ e) (Mt _) (show dh X.prog X.w _ _ _ (.tup ys) from ⟨hz,its,r',IsTup.new _ _⟩)
  exact⟨.ref h'.objs.size,_,I2,rfl,q _ (I1.hok.fresh (Mt _))⟩
 ·obtain⟨its,r',pl,hz⟩:=I.tuple hq
  exact call_tuple_same pl ⟨.ref p,H,I,rfl,q⟩
def tyV (K:MP) (T:String) (x:V) (H:Hp):Prop:=match x with
 | .str _=>T = "str"
 | .int _=>T = "int"
 | .ref p=>(T = "list"/\∃ xs,SqL K H p xs)∨(T = "tuple"/\∃ o,K.lookup p=some o/\o.cls = .type "tuple"/\o.dict=none) ∨
   (T = "dict"/\((∃ kvs,H p=some (.dK kvs))∨∃ kvs,H p=some (.dT kvs)))∨(T = "set"/\∃ S n,H p=some (.set S n))
 | _=>False
theorem Dr {pins:List (Addr × Qv)} {σ:St} {H:Hp} {s:Mj} {T:String} {x:V} {v:Mh} (I:Inv X pins σ H s) (r:RelV x v) (ty:tyV X.K T x H) :
  s.TypeIs v T/\∀ a,v = .ref a->∃ ob,s.heap.get? a=some ob/\ob.dict=none:=by
 cases x with
 | str z =>
  obtain⟨t,rfl⟩:=r
  cases (show T = "str" from ty)
  exact⟨typeIs_str s z t,fun _ e=>nomatch e⟩
 | int i =>
  obtain⟨t,rfl⟩:=r
  cases (show T = "int" from ty)
  exact⟨Sv s i t,fun _ e=>nomatch e⟩
 | ref p =>
  cases r
  rcases ty with⟨rfl,xs,hq⟩ | ⟨rfl,o,hk,hc,hd⟩ | ⟨rfl,hk⟩ | ⟨rfl,S,n,hk⟩
  ·obtain⟨its,_,pl,_⟩:=I.list hq
   refine⟨pl.isList.typeIs,fun a e=>?_⟩
   cases e
   obtain⟨o,n,e,c,hd,_⟩:=pl
   exact⟨o,e,hd⟩
  ·refine⟨⟨o,I.kIn p o hk,hc⟩,fun a e=>?_⟩
   cases e
   exact⟨o,I.kIn _ o hk,hd⟩
  ·have z:∃ o,s.heap.get? p=some o/\o.ExactDict:=by
    rcases hk with⟨kvs,hk⟩ | ⟨kvs,hk⟩
    ·obtain⟨_,_,_,_,o,_,_,e,ex,_⟩:=I.hok p _ hk
     exact⟨o,e,ex⟩
    ·obtain⟨_,_,_,_,o,_,_,e,ex,_⟩:=I.hok p _ hk
     exact⟨o,e,ex⟩
   obtain⟨o,e,ex⟩:=z
   refine⟨⟨o,e,ex.1⟩,fun a e2=>?_⟩
   cases e2
   exact⟨o,e,ex.2.1⟩
  ·obtain⟨o,_,_,_,e,ex,_⟩:=I.hok p _ hk
   refine⟨⟨o,e,ex.1⟩,fun a e2=>?_⟩
   cases e2
   exact⟨o,e,ex.2.1⟩
 | _=>exact Q0 ty
def Ln (K:MP) (T:String) (r:V->List V->Hp->VK->Prop) (to:TE):TE:=fun σ H Q=>to σ H fun x H1=>tyV K T x H1/\r x [] H1 Q
def tBM (K:MP) (T:String) (r:V->List V->Hp->VK->Prop) (to:TE) (t:TA):TE:=fun σ H Q=>to σ H fun x H1=>tyV K T x H1/\t σ H1 fun xs H2=>r x xs H2 Q
variable {o e:Expr} {es:List Expr} {to:TE} {t:TA} {name:Ou} {apos cpos:R8} {T id:String} {r:V->List V->Hp->VK->Prop}
theorem Jy (pa:PlainAttrs T) (slot:Slot T name id) (hty:typeOf (.builtin id)=pure (.type "method_descriptor")) (hm:MtR X id r) (ho:PE X o to)
  (hbase:attributeBase o name X.env (Qd o X.env)=Qd o X.env:=by rfl) (hline:(apos.endLine == cpos.line)=true:=by rfl):PE X (.Call (.Attribute o name apos) [] [] cpos) (Ln X.K T r to):=by
 intro pins s σ H Q I h
 refine wpAny_Call_method0_late hbase hline (thn (ho pins s σ H _ I h) fun v s1 ⟨x,H1,I1,r1,ty,q1⟩=>?_)
 obtain⟨h1,h2⟩:=Dr I1 r1 ty
 exact⟨T,id,pa,slot,hty,h1,h2,Calls.callWith_builtin rfl (PySem.evalArgs_none (hm pins s1 σ H1 x [] v [] Q I1 r1 .nil q1))⟩
theorem jt (pa:PlainAttrs T) (slot:Slot T name id) (hty:typeOf (.builtin id)=pure (.type "method_descriptor")) (hm:MtR X id r) (ho:PE X o to) (ha:PA X (e::es) t)
  (hbase:attributeBase o name X.env (Qd o X.env)=Qd o X.env:=by rfl)
  (hfew:((Ru cpos (Nm (e::es) X.env)).all (fun x=>!x.1) && (backToKw cpos (keywordEach [] X.env)).all (fun x=>x.1.isSome)
   && decide ((e::es).length+([]:List Keyword).length+(if ([]:List Keyword).isEmpty then 0 else 1) < 30))=true:=by rfl)
  (hline:(apos.endLine == cpos.line)=true:=by rfl) (hs:Nm (e::es) X.env=(false,Qd e X.env)::Nm es X.env:=by rfl) (hplain:(Ru cpos (Nm es X.env)).any (·.1)=false:=by rfl) :
  PE X (.Call (.Attribute o name apos) (e::es) [] cpos) (tBM X.K T r to t):=by
 intro pins s σ H Q I h
 refine wpAny_Call_method_late hbase hfew hline rfl (thn (ho pins s σ H _ I h) fun v s1 ⟨x,H1,I1,r1,ty,q1⟩=>?_)
 obtain⟨h1,h2⟩:=Dr I1 r1 ty
 refine⟨T,id,pa,slot,hty,h1,h2,?_⟩
 have hA:=ha cpos pins s1 σ H1 _ I1 q1
 rw[hs] at hA ⊢
 refine Calls.callWith_builtin (by show (false || (Ru cpos (Nm es X.env)).any (·.1))=false; rw[hplain] <;> rfl) (Calls.evalArgs_plain ?_)
 exact thn hA fun us s2 ⟨vs,H2,I2,r2,q2⟩=>hm pins s2 σ H2 x vs v us Q I2 r1 r2 q2
/- xs.append(e),list.index on a module's tuple .. are MtR facts of 06m -/
end
end L2
namespace L2
open PySem PySem.Spec PyProof.Rows
def MtM (X:Cx) (id:String) (r:V->List V->Hp->VK->Prop):Prop :=
 ∀ (pins:List (Addr × Qv)) (s:Mj) (σ:St) (H:Hp) (x:V) (xs:List V) (v:Mh) (us:List Mh) (Q:VK),Inv X pins σ H s->RelV x v->Vals xs us->r x xs H Q →
  Mw (M6 X.prog X.w) X.A (call (.builtin id) (v::us)) (EP X pins σ Q) X.xe s
theorem Vals.one:∀ {x:V} {us:List Mh},Vals [x] us->∃ u,us=[u]/\RelV x u
 | _,_,.cons r .nil=>⟨_,rfl,r⟩
theorem Vals.zero:∀ {us:List Mh},Vals [] us->us=[]
 | _,.nil=>rfl
theorem Vals.dropLast {xs:List V} {us:List Mh} (h:Vals xs us):Vals xs.dropLast us.dropLast:=by
 induction h with
 | nil=>exact .nil
 | cons r t ih =>
  cases t with
  | nil=>exact .nil
  | cons q t'=>exact .cons r ih
theorem Vals.eraseIdx:∀ {xs:List V} {us:List Mh} (i:Nat),Vals xs us->Vals (xs.eraseIdx i) (us.eraseIdx i)
 | _,_,_,.nil=>.nil
 | _,_,0,.cons _ t=>t
 | _,_,i+1,.cons r t=>.cons r (Vals.eraseIdx i t)
theorem Vals.rep {xs:List V} {us:List Mh} (h:Vals xs us):∀ k:Nat,Vals (Mz k xs).flatten (Mz k us).flatten
 | 0=>.nil
 | k+1=>by
  rw[OD,OD,O1,O1]
  exact Vals.append h (Vals.rep h k)
theorem vZ {α:Type} (l:List α):l.eraseIdx (l.length - 1)=l.dropLast:=by
 induction l with
 | nil=>rfl
 | cons a r ih =>
  cases r with
  | nil=>rfl
  | cons b r =>
   have e:(a::b::r).length - 1=((b::r).length - 1)+1:=by
    have h1:(a::b::r).length=r.length+2:=rfl
    have h2:(b::r).length=r.length+1:=rfl
    lia
   rw[e,List.eraseIdx_cons_succ,ih]
   all_goals rfl
theorem qm {α:Type}:∀ (l:List α) (i:Nat),(l.eraseIdx i).length<=l.length
 | [],_=>Mt _
 | _::_,0=>QX _
 | _::r,i+1=>Nat.succ_le_succ (qm r i)
theorem foldl_rep (its:List Mh):∀ (k:Nat) (acc:List Mh),
  Tf (fun x1 x2=>x1++x2) acc.toArray (Mz k its.toArray)=(acc++(Mz k its).flatten).toArray
 | 0,acc=>by simp
 | k+1,acc=>by
  have e:acc.toArray++its.toArray=(acc++its).toArray:=by simp
  have e2:(acc++its)++(Mz k its).flatten=acc++(Mz (k+1) its).flatten:=by
   rw[OD,O1,PL]
  rw[← e2,← foldl_rep its k (acc++its),← e,OD,Ot]
section
variable {X:Cx} {pins:List (Addr × Qv)} {σ:St} {H:Hp} {s:Mj} {l b:Addr} {xs ys zs:List V}
theorem Inv.JQ {its its':List Mh} {n:Nat} {f:Array Mh->Array Mh} {t':Nat} (I:Inv X pins σ H s) (hH:H l=some (.lst xs))
  (e:s.heap.get? l=some { cls:=.type "list",data:=.seq its.toArray n }) (hf:f its.toArray=its'.toArray) (hv:Vals ys its') (hz:ys.length<=sizeLine) :
  Inv X pins σ (upd H l (.lst ys)) { s with heap:=s.heap.update l (O2 f),toks:=t' }:=by
 have q:=PySem.IsL.update e f
 rw[hf] at q
 refine I.write (x:=l) (e:=l) (by rw[hH]; exact trivial) (.inl rfl) (fun b' u hb hu=>(Ov s.heap (O2 f) (Rk hb)).trans hu) ⟨_,q⟩ ?_
 exact⟨hz,its',_,hv,q⟩
theorem Inv.JZ {its:List Mh} {t':Nat} (I:Inv X pins σ H s) (hv:Vals ys its) (hz:ys.length<=sizeLine) :
  Inv X pins σ (upd H s.heap.objs.size (.lst ys)) { s with heap:=s.heap.push { cls:=.type "list",data:=.seq its.toArray },toks:=t' } :=
 I.laid (fun _ _ q=>Ma _ q) (Mt _) ⟨hz,its,0,hv,Mm _ rfl⟩
theorem Inv.fresh (I:Inv X pins σ H s):H s.heap.objs.size=none:=I.hok.fresh (Mt _)
theorem Inv.Du (I:Inv X pins σ H s) (hH:H l=some (.lst xs)):xs.length<=sizeLine/\∃ (its:List Mh) (n:Nat),Vals xs its/\xs.length=its.length/\s.heap.get? l=some { cls:=.type "list",data:=.seq its.toArray n }:=by
 obtain⟨z,its,n,r,e⟩:=I.hok l _ hH
 exact⟨z,its,n,r,r.length,e⟩
theorem uy {n:Nat} (h:n<=sizeLine):Rj n=false:=by
 unfold Rj
 exact decide_eq_false (by lia)
end
section
variable {X:Cx}
def Fg:V->List V->Hp->VK->Prop:=fun x vs H Q=>∃ l xs y,x = .ref l/\vs=[y]/\H l=some (.lst xs)/\xs.length < sizeLine/\Q .non (upd H l (.lst (xs++[y])))
theorem bM:MtM X "list.append" Fg:=by
 intro pins s σ H x vs v us Q I rx rv h
 obtain⟨l,xs,y,rfl,rfl,hH,hz,q⟩:=h
 cases rx
 obtain⟨u,rfl,ru⟩:=rv.one
 obtain⟨z,its,n,r,hl,e⟩:=I.Du hH
 refine QC F.slot_list_append ⟨_,e,rfl⟩ F.entry_list_append (F.args_list_append_2 _ _) (PySem.list_append l its.toArray n u (by rw[Mq]; lia)) ⟨e,?_⟩
 refine⟨.non,_,I.JQ (its':=its++[u]) hH e (by simp) (r.append (.cons ru .nil)) ?_,rfl,q⟩
 rw[Mv,List.length_singleton]
 lia
def Gp:V->List V->Hp->VK->Prop:=fun x vs H Q=>∃ l b xs zs,x = .ref l/\vs=[.ref b]/\H l=some (.lst xs)/\H b=some (.lst zs)/\xs.length+zs.length<=sizeLine/\Q .non (upd H l (.lst (xs++zs)))
theorem xJ:MtM X "list.extend" Gp:=by
 intro pins s σ H x vs v us Q I rx rv h
 obtain⟨l,b,xs,zs,rfl,rfl,hH,hB,hz,q⟩:=h
 cases rx
 obtain⟨u,rfl,ru⟩:=rv.one
 cases ru
 obtain⟨z,its,n,r,hl,e⟩:=I.Du hH
 obtain⟨z2,its2,n2,r2,hl2,e2⟩:=I.Du hB
 have hsz:its.toArray.size+its2.toArray.size<=sizeLine:=by rw[Mq,Mq]; lia
 have hlong:¬ (!its.toArray.isEmpty && Rj (its.toArray.size+its2.toArray.size))=true:=by
  rw[uy hsz,Bool.and_false]
  exact Mr
 refine QC F.slot_list_extend ⟨_,e,rfl⟩ F.entry_list_extend (F.args_list_extend_2 _ _)
  (AutoSeq1.list_extend_list_list_0 l its.toArray n b its2.toArray n2 hlong (by rw[Mq]; lia) (by lia)) ⟨e,e2,?_⟩
 refine⟨.non,_,I.JQ (its':=its++its2) hH e (by simp) (r.append r2) ?_,rfl,q⟩
 rw[Mv]
 lia
def LQ:V->List V->Hp->VK->Prop:=fun x vs H Q=>∃ l xs y,x = .ref l/\vs=[]/\H l=some (.lst xs)/\xs[xs.length - 1]? = some y/\Q y (upd H l (.lst xs.dropLast))
theorem Ja:MtM X "list.pop" LQ:=by
 intro pins s σ H x vs v us Q I rx rv h
 obtain⟨l,xs,y,rfl,rfl,hH,hy,q⟩:=h
 cases rx
 have hus:=rv.zero
 subst hus
 obtain⟨z,its,n,r,hl,e⟩:=I.Du hH
 obtain⟨u,hu,ru⟩:=r.get hy
 have hy':its.toArray[its.toArray.size - 1]? = some u:=by
  show its.toArray[its.length - 1]? = some u
  rw[← Pz,← hl]
  exact hu
 refine QC F.slot_list_pop ⟨_,e,rfl⟩ F.entry_list_pop (F.args_list_pop_1 _) (MeetsSeq.list_pop_last l its.toArray n u hy' (by rw[Mq]; lia)) ⟨e,?_⟩
 refine⟨y,_,I.JQ (its':=its.dropLast) hH e ?_ r.dropLast ?_,ru,q⟩
 ·show its.toArray.eraseIdxIfInBounds (its.toArray.size - 1)=its.dropLast.toArray
  rw[Mq,Uu,vZ]
 ·rw[List.length_dropLast]
  lia
def DK:V->List V->Hp->VK->Prop:=fun x vs H Q=>∃ l xs i k y,x = .ref l/\vs=[.int i]/\H l=some (.lst xs)/\-(2 ^ 63)<=i/\i < 2 ^ 63/\Uy i xs.length=some k/\xs[k]? = some y/\Q y (upd H l (.lst (xs.eraseIdx k)))
theorem Cg:MtM X "list.pop" DK:=by
 intro pins s σ H x vs v us Q I rx rv h
 obtain⟨l,xs,i,k,y,rfl,rfl,hH,h1,h2,hk,hy,q⟩:=h
 cases rx
 obtain⟨u,rfl,ru⟩:=rv.one
 obtain⟨t,rfl⟩:=ru
 obtain⟨z,its,n,r,hl,e⟩:=I.Du hH
 obtain⟨w,hw,rw'⟩:=r.get hy
 refine QC F.slot_list_pop ⟨_,e,rfl⟩ F.entry_list_pop (F.args_list_pop_2 _ _)
  (MeetsSeq.list_pop_at l its.toArray n i t k w (fitsIndex_both h1 h2) (by rw[Mq,← hl]; exact hk) (by rw[← Pz]; exact hw) (by rw[Mq]; lia)) ⟨e,?_⟩
 refine⟨y,_,I.JQ (its':=its.eraseIdx k) hH e ?_ (r.eraseIdx k) ?_,rw',q⟩
 ·show its.toArray.eraseIdxIfInBounds k=(its.eraseIdx k).toArray
  rw[Uu]
 ·have:=qm xs k
  lia
def K5:R2:=fun x y H Q=>∃ l b xs zs,x = .ref l/\y = .ref b/\H l=some (.lst xs)/\H b=some (.lst zs)/\xs.length+zs.length<=sizeLine/\∀ p,H p=none->Q (.ref p) (upd H p (.lst (xs++zs)))
theorem pL:OpR X (RZ .Add) K5:=by
 intro pins s σ H x y v u Q I rx ry h
 obtain⟨l,b,xs,zs,rfl,rfl,hH,hB,hz,q⟩:=h
 cases rx
 cases ry
 obtain⟨z,its,n,r,hl,e⟩:=I.Du hH
 obtain⟨z2,its2,n2,r2,hl2,e2⟩:=I.Du hB
 refine PySem.P.add_list e e2 ?_ (by rw[Mq,Mq]; lia)
 have ea:its.toArray++its2.toArray=(its++its2).toArray:=by simp
 rw[ea]
 exact⟨.ref _,_,I.JZ (t':=s.toks) (r.append r2) (by rw[Mv]; lia),rfl,q _ I.fresh⟩
def La:R2:=fun x y H Q=>∃ l k xs,x = .ref l/\y = .int k/\H l=some (.lst xs)/\-(2 ^ 63)<=k/\k < 2 ^ 63/\xs.length * k.toNat<=sizeLine ∧
 ∀ p,H p=none->Q (.ref p) (upd H p (.lst (Mz k.toNat xs).flatten))
theorem len_rep {α:Type} (xs:List α) (k:Nat):(Mz k xs).flatten.length=k * xs.length:=by
 induction k with
 | zero=>simp
 | succ k ih=>rw[OD,O1,Mv,ih,Nat.succ_mul,Nat.add_comm]
theorem ye:OpR X (RZ .Mult) La:=by
 intro pins s σ H x y v u Q I rx ry h
 obtain⟨l,k,xs,rfl,rfl,hH,h1,h2,hz,q⟩:=h
 cases rx
 obtain⟨t,rfl⟩:=ry
 obtain⟨z,its,n,r,hl,e⟩:=I.Du hH
 have hlen:its.toArray.size * k.toNat<=sizeLine:=by rw[Mq,← hl]; exact hz
 have hcap:¬ its.toArray.size * k.toNat > (2 ^ 63 - 1) / 8:=by
  have:(sizeLine:Nat)<=(2 ^ 63 - 1) / 8:=by decide
  lia
 have hfit:¬ (!Builtin.List.listFitsIndex k)=true:=by
  rw[fitsIndex_both h1 h2]
  exact Mr
 have hlong:¬ Rj (its.toArray.size * k.toNat)=true:=by
  rw[uy hlen]
  exact Mr
 have hnew:Tf (fun x1 x2=>x1++x2) #[] (Mz (if its.toArray.isEmpty=true then 0 else k.toNat) its.toArray)=(Mz k.toNat its).flatten.toArray:=by
  have f0:∀ m:Nat,Tf (fun x1 x2=>x1++x2) #[] (Mz m its.toArray)=(Mz m its).flatten.toArray:=fun m=>by
   have:=foldl_rep its m []
   rw[U3] at this
   exact this
  rw[f0]
  cases its with
  | nil=>simp
  | cons a r'=>rw[if_neg (by simp)]
 refine S5 (T:="list") (U:="int") (by decide) ⟨_,e,rfl⟩ (fun s'=>Sv s' k t) noFill_list_mul U4 Rq repeat_list F.slot_int_index.lookup
  (QC Rq (Sv s k t) UJ (Ut _ _) (int___rmul___int_list k t l its.toArray n)
   ⟨e,rfl,⟨_,e,rfl⟩,QC F.slot_list_mul ⟨_,e,rfl⟩ F.entry_list_mul (F.args_list_mul_2 _ _) (AutoListH.list___mul___list_int_3 l its.toArray n k t hfit hcap hlong) ⟨e,?_⟩⟩)
 rw[hnew]
 exact⟨.ref _,_,I.JZ (t':=s.toks) (r.rep k.toNat) (by rw[len_rep,Nat.mul_comm]; exact hz),rfl,q _ I.fresh⟩
end
section
variable {prog:M8} {w:NQ} {A:N8} {E:Mh->Mj->Prop} {s:Mj}
set_option maxRecDepth 100000 in
end
section
variable {X:Cx}
end
end L2
namespace Att
open PySem PySem.W PySem.Calls PyProof.Rows
theorem kO {P:Params} {h:N5}:∀ (ns:List Int) (vs:List Mh),WellAll P h vs (ns.map WData.int)->Ow vs ns:=by
 intro ns
 induction ns with
 | nil =>
  intro vs w
  rw[RD] at w
  cases w
  exact .nil
 | cons n ns ih =>
  intro vs w
  rw[Ni] at w
  cases w with
  | cons a b =>
   cases a
   exact .cons _ _ (ih _ b)
theorem wI {l:OpenLaw} {n:Nat} (hn:l.most=some n) {P:Params} {h:N5} {args:List WData} {vals:List Mh}
  (hpre:l.row.toRowW.claim.pre args=true) (hwl:WellAll P h vals args) :
  ∃ a vs ns,vals=[NB a]/\args=[WData.list (ns.map WData.int)]/\h.get? a=some { cls:=.type "list",data:=.seq vs.toArray }/\Ow vs ns/\ns.length<=n:=by
 have hsh:WShape.hasAll [] args [.list .int]=true:=(pre_splitW hpre).1
 have hc:l.pre.holds [] { args:=args }=true:=(pre_splitW hpre).2
 obtain⟨d,r,rfl,h1,h2⟩:=hasAllW_cons hsh
 obtain rfl:=hasAllW_nil h2
 obtain⟨xs,rfl,h3⟩:=hasW_list h1
 obtain⟨ns,rfl⟩:=items_int h3
 have hlen:ns.length<=n:=by
  unfold OpenLaw.pre at hc
  have h4:(WTm.not (.lt (.lit (.int (n:Int))) (.len (.arg 0)))).holds [] { args:=[.list (ns.map .int)] }=true:=by
   have h4:=(holds_andW hc).1
   rw[hn] at h4
   exact h4
  have h5:=condW_of h4 (w_not (w_lt w_lit (w_len_list (w_arg rfl))))
  rw[Mf] at h5
  refine Nat.le_of_not_lt fun q=>?_
  have q':(n:Int) < ((ns.length:Nat):Int):=by lia
  first
   | (rw[decide_eq_true q'] at h5; exact absurd h5 (by decide))
   | (simp at h5; lia)
 cases hwl with
 | cons w1 w2 =>
  cases w2
  cases w1 with
  | list ho hall=>exact⟨_,_,ns,rfl,rfl,ho,kO ns _ hall,hlen⟩
theorem zV (l:OpenLaw) (args:List WData):l.row.toRowW.claim.post args (.bool true) args=true :=
 postW_of (r:=l.row.toRowW) (X:=(true == true))
  (show WShape.has [] (.bool true) .bool=true by first | rfl | decide | simp [WShape.has,WShape.arms,WShape.armsAll])
  (show (WTm.eq .res (.lit (.bool true))).value [] { args:=args,res:=some (.bool true),after:=args }=some (.bool (true == true)) from w_eq_bool (w_res rfl) w_lit) rfl
theorem rM {l:OpenLaw} {n:Nat} {q:M8} {loose:List Ou} {XP:(Ou->Option Mh)->N5->Prop} {YP:NQ->N5->Prop} {d:DefRec}
  (hn:l.most=some n) (hdf:d.params.defaults=[])
  (call:∀ (w:NQ) (s₀ s₁:Mj) (mg mb:Ou->Option Mh) (fa:Addr) (o:Qv) (pm cd doc:Mh) (a:Addr) (vs:List Mh) (ns:List Int),
   Ground q loose [] XP w s₀ mg mb s₁.heap->YP w s₁.heap →
   s₁.heap.get? fa=some o->o.data = .func (docDef d.name d.params d.body d.scope pm cd doc)->s₁.heap.CodeRec cd d.name->mg d.name=some (.ref fa) →
   s₁.heap.get? a=some { cls:=.type "list",data:=.seq vs.toArray }->Ow vs ns->ns.length<=n->s₁.gens = #[] →
   RQ (M6 l.prog w) Um (.call (.ref fa) ⟨[.ref a],[]⟩) (fun r s'=>r = .ok (.ret (.bool true))/\OldK s₁.heap s'.heap/\s'.os=s₁.os/\Th s'.gens) s₁) :
  WalkO q loose XP YP l.row.toRowW d [] (fun f vs=>PySem.call f vs):=by
 intro w s₀ s₁ mg mb G Y fa o pm cd doc dV kV ho hd hcd hD hmg hg args vals as hpre hlay hrd hwl hlo
 obtain rfl:dV = .none:=Dflts.none hD hdf
 obtain rfl:kV = .none:=Dflts.noKw hD
 obtain⟨a,vs,ns,rfl,rfl,hobj,hints,hlen⟩:=wI hn hpre hwl
 refine enter_call (codeAny_mono (call w s₀ s₁ mg mb fa o pm cd doc a vs ns G Y ho (fd_plain hd) hcd hmg hobj hints hlen hg) fun r s' hq=>?_)
 obtain⟨rfl,h2,h3,h4⟩:=hq
 exact⟨.inl ⟨.bool true,.bool true,[],rfl,fun _=>rfl,.bool true,zV l _,fun _=>⟨List.Pairwise.nil,fun _ hm=>(nomatch hm)⟩⟩,h2,h3,h4⟩
section
variable {prog:M8} {w:NQ} {A:N8} {E:Mh->Mj->Prop} {s:Mj} {K:Frag}
end
end Att
namespace L2
open PySem PySem.Spec PyProof.Rows
theorem lU:∀ {vs:List Mh} {ns:List Int},Ow vs ns->Vals (ns.map V.int) vs
 | _,_,.nil=>.nil
 | _,_,.cons n t h=>.cons ⟨t,rfl⟩ (lU h)
def Only (H:Hp):Prop:=∀ b,H b=none∨∃ o xs,H b=some (.frz o (.lst xs))
theorem BK {P:M8} {w:NQ} {K:MP} {mg mb:Ou->Option Mh} {CX:CXT} {k:Nat} {fa a:Addr} {fd:QH} {x:Ou} {sp:Sp} {s₁:Mj} {vs:List Mh} {ns:List Int}
  (KX:K.In s₁.heap) (hns:s₁.heap.Ns Ng mg) (hb:s₁.heap.Ns builtinsNs mb) (hbb:∀ x:Ou,x≠"__name__"->mb x=Oa x) (hlim:s₁.heap.NoLimit) (hg:s₁.gens = #[])
  (ha:s₁.heap.get? a=some { cls:=.type "list",data:=.seq vs.toArray }) (hi:Ow vs ns) (hl:ns.length<=sizeLine) (hr:lV k Um)
  (F:∀ base:N5,K.In base->base.Ns Ng mg->fu P w K mg base CX k fa fd [x] sp) (hbind:∀ (s:Mj) (u:Mh),T4 s fd ⟨[u],[]⟩ [(x,u)])
  (hsp:∀ H:Hp,Only H->SqL K H a (ns.map V.int)->sp [.ref a] H (fun v _=>v = .bl true) fun _ _ _=>False)
  (hCX:∀ H e s',CX [] H s₁ (fun _ _ _=>False) e s'->False) :
  RQ (M6 P w) Um (.call (.ref fa) ⟨[.ref a],[]⟩) (fun r s'=>r = .ok (.ret (.bool true))/\OldK s₁.heap s'.heap/\s'.os=s₁.os/\Th s'.gens) s₁:=by
 have rv:=lU hi
 have lenV:=hi.length
 have core:∀ H:Hp,Only H->SqL K H a (ns.map V.int)->HOk P w H s₁.heap->(∀ b,H b≠none->b=a)->(H a≠none->K.lookup a=none) →
   RQ (M6 P w) Um (.call (.ref fa) ⟨[.ref a],[]⟩) (fun r s'=>r = .ok (.ret (.bool true))/\OldK s₁.heap s'.heap/\s'.os=s₁.os/\Th s'.gens) s₁:=by
  intro H hO hS hok hA hK
  have base_of:∀ {b:Addr} {o:Qv},s₁.heap.get? b=some o->H b=none->(Ao s₁.heap H).get? b=some o:=fun e n=>BP e n
  have noA:∀ {b:Addr} {o:Qv} {es:Array DictEntry} {ep:Nat},s₁.heap.get? b=some o->o.data = .dict es ep->H b=none:=fun {b o es ep} e d=>by
   cases q:H b with
   | none=>rfl
   | some u =>
    have e':b=a:=hA b (by rw[q]; simp)
    subst e'
    rw[ha] at e; cases e
    have d':Data.seq vs.toArray _=Data.dict es ep:=d
    cases d'
  have nsK:∀ {b:Addr} {m:Ou->Option Mh},s₁.heap.Ns b m->(Ao s₁.heap H).Ns b m:=fun {b m} ⟨o,es,ep,e,d,r⟩=>⟨o,es,ep,base_of e (noA e d),d,r⟩
  have hKb:K.In (Ao s₁.heap H):=fun b o e=>base_of (KX b o e) (by
   cases q:H b with
   | none=>rfl
   | some u =>
    have e':b=a:=hA b (by rw[q]; simp)
    subst e'
    rw[hK (by rw[q]; simp)] at e; cases e)
  have hM:Mod K mg (Ao s₁.heap H):=⟨hKb,nsK hns,⟨mb,nsK hb,hbb⟩,let ⟨mc,h1,h2⟩:=hlim; ⟨mc,nsK h1,h2⟩⟩
  have e0:JS P w K mg (Ao s₁.heap H) Um [] s₁ H:=⟨rfl,hM,fun b o e=>FJ e,Nat.le_of_eq (yV _ _),trivial,fun b hb=>absurd (show b∈([]:List Addr) from hb) (by simp),hok,.of_eq hg⟩
  refine codeAny_mono ((F _ hKb (nsK hns)).run Um [] s₁ H ⟨[.ref a],[]⟩ [.ref a] [.ref a] _ _ hr e0 (hbind s₁ (.ref a)) (.cons rfl .nil) (hsp H hO hS)) fun r s' h=>?_
  cases r with
  | error e=>exact (hCX H e s' h).elim
  | ok fl =>
   cases fl with
   | next=>exact Q0 h
   | brk=>exact Q0 h
   | cont=>exact Q0 h
   | ret u =>
    obtain⟨v,H',os,bare,un,hok',r',q⟩:=h
    have q':v = .bl true:=q
    subst q'
    obtain rfl:u=Value.bool true:=r'
    refine⟨rfl,OldK.of_keep fun b o e=>?_,os,bare⟩
    cases q:H b with
    | none=>exact un.keep b o e q (by intro z; exact absurd (show b∈([]:List Addr) from z) (by simp)) (by simp)
    | some u =>
     rcases hO b with z | ⟨ob,xs,z⟩
     ·rw[q] at z; cases z
     ·have z2:=un.frzs b ob _ z
      obtain⟨e1,_⟩:=hok b _ z
      obtain⟨e2,_⟩:=hok' b _ z2
      rw[e] at e1; cases e1
      exact e2
 cases hk:K.lookup a with
 | some o =>
  have e:=KX a o hk
  rw[ha] at e
  cases e
  refine core (fun _=>none) (fun _=>.inl rfl) (.inr ⟨_,vs.toArray,_,hk,rfl,rfl,rfl,by rw[Mq,lenV]; exact hl,by simpa using rv⟩) (fun b u z=>by have z':(none:Option HO)=some u:=z; cases z') (fun b z=>absurd rfl z) fun z=>absurd rfl z
 | none =>
  refine core (fun b=>if b=a then some (.frz { cls:=.type "list",data:=.seq vs.toArray } (.lst (ns.map V.int))) else none) (fun b=>?_) (.inl (.inr ⟨{ cls:=.type "list",data:=.seq vs.toArray },if_pos rfl⟩)) (fun b u z=>?_) (fun b z=>?_) fun _=>hk
  ·by_cases hb:b=a
   ·exact .inr ⟨_,_,if_pos hb⟩
   ·exact .inl (if_neg hb)
  ·by_cases hb:b=a
   ·have z':=(if_pos hb).symm.trans z
    cases z'
    subst hb
    exact⟨ha,by rw[Mf]; exact hl,vs,_,rv,ha⟩
   ·have z':=(if_neg hb).symm.trans z
    cases z'
  ·by_cases hb:b=a
   ·exact hb
   ·exact absurd (if_neg hb) z
end L2
namespace L2
open PySem PySem.Spec PyProof.Rows
theorem Gn {l:PySem.W.OpenLaw} {n k:Nat} {q:M8} {loose:List Ou} {XP:(Ou->Option Mh)->N5->Prop} {YP:NQ->N5->Prop} {d:DefRec} {K:Params->MP} {CX:NQ->CXT} {sp:NQ->Sp} {x:Ou}
  (hn:l.most=some n) (hn2:n<=sizeLine) (hdf:d.params.defaults=[]) (hr:lV k Um)
  (hY:∀ (w:NQ) (h:N5),YP w h->(K w.params).In h)
  (F:∀ (w:NQ) (mg:Ou->Option Mh) (fa:Addr) (h:N5),(K w.params).In h->h.Ns Ng mg->mg d.name=some (.ref fa) →
   ∃ fd:QH,(∀ (s:Mj) (u:Mh),T4 s fd ⟨[u],[]⟩ [(x,u)]) ∧
    ∀ base:N5,(K w.params).In base->base.Ns Ng mg->fu l.prog w (K w.params) mg base (CX w) k fa fd [x] (sp w))
  (hsp:∀ (w:NQ) (H:Hp) (a:Addr) (ns:List Int),ns.length<=n->Only H->SqL (K w.params) H a (ns.map V.int)->sp w [.ref a] H (fun v _=>v = .bl true) fun _ _ _=>False)
  (hCX:∀ (w:NQ) (H:Hp) (s:Mj) (e:Mh) (s':Mj),CX w [] H s (fun _ _ _=>False) e s'->False) :
  PySem.W.WalkO q loose XP YP l.row.toRowW d [] (fun f vs=>PySem.call f vs):=by
 refine Att.rM hn hdf fun w s₀ s₁ mg mb fa o pm cd doc a vs ns G Y ho hd hcd hmg hobj hints hlen hg=>?_
 have KX:=hY w _ Y
 obtain⟨fd,hb,hF⟩:=F w mg fa _ KX G.T.g hmg
 exact BK KX G.T.g G.T.b G.T.builtins G.T.nolimit hg hobj hints (Ob hlen hn2) hr hF hb (fun H hO hS=>hsp w H a ns hlen hO hS) fun H e s'=>hCX w H s₁ e s'
end L2
namespace L2
open PySem PySem.Spec PyProof.Rows
def d7 (s:Stmt):Arguments:=match s with
 | .FunctionDef _ a _ _ _ _ _ _ _ _=>a
 | _=>{ posonlyargs:=[],args:=[],vararg:=none,kwonlyargs:=[],kw_defaults:=[],kwarg:=none,defaults:=[] }
def dJ (s:Stmt):List Stmt:=match s with
 | .FunctionDef _ _ b _ _ _ _ _ _ _=>b
 | _=>[]
def aD (s:Stmt):Sy:=match s with
 | .FunctionDef _ _ _ _ _ _ sc _ _ _=>sc
 | _=>{ kind:=.function,names:=[],isGenerator:=false,isCoroutine:=false }
abbrev CX0:CXT:=fun _ _ _ _ _ _=>False
abbrev E0:XK:=fun _ _ _=>False
theorem Km {X:Cx}:Passes CX0 X E0:=fun _ _ _ _ _ _ _ h=>h.elim
structure Fun (K:MP) (x qual:Ou) (st:Stmt) (f:Addr) (fd:QH):Prop where
 ex:∃ (oc:Mh) (od:Option Addr) (kV doc pm:Mh) (an:Option Addr) (cdv ct:Mh) (osl:Array (Option Mh)),
  fd=RB x qual (d7 st) (dJ st) (aD st) .none kV doc pm an cdv ct/\K.lookup f=some ⟨oc,od,.func fd,osl⟩/\TX K cdv qual=true
 kp:SJ K (.ref f)=true
section
variable {P:M8} {w:NQ} {K:MP} {mg:Ou->Option Mh} {base:N5}
theorem Fun.ok {x qual:Ou} {st:Stmt} {f:Addr} {fd:QH} {N ps:List Ou} {k:Nat} {sp:Sp} (F:Fun K x qual st f fd) (S:aQ N ps (aD st)) (len:∀ vs H Q E,sp vs H Q E->vs.length=ps.length)
  (hbody:∀ (cdv:Mh) (A:N8) (outer:List Env) (s:Mj) (H:Hp) (vs:List V) (Q:VK) (E:XK),lV k (A.deeper (Ue qual (aD st) s.heap.objs.size f cdv))->sp vs H Q E →
   ∃ t,PSs (G9 CX0 P w K mg base N qual (aD st) f cdv A outer s H E).nox (dJ st) t/\t { nx:=fun _ H'=>Q .non H',rt:=Q } (start N vs) H):fu P w K mg base CX0 (k+1) f fd ps sp:=by
 obtain⟨oc,od,kV,doc,pm,an,cdv,ct,osl,rfl,lk,hcd⟩:=F.ex
 refine J7 lk hcd S len fun A outer s H vs Q E hr hsp=>?_
 obtain⟨t,h,q⟩:=hbody cdv A outer s H vs Q E hr hsp
 exact⟨t,h.nox,q⟩
theorem Fun.binds {x qual:Ou} {st:Stmt} {f:Addr} {fd:QH} {ps:List Ou} (F:Fun K x qual st f fd)
  (h:∀ (kV doc pm:Mh) (an:Option Addr) (cdv ct:Mh) (us:List Mh),us.length=ps.length->TQ (RB x qual (d7 st) (dJ st) (aD st) .none kV doc pm an cdv ct) ⟨us,[]⟩=pure (ps.zip us)):Binds K fd ps []:=by
 obtain⟨oc,od,kV,doc,pm,an,cdv,ct,osl,rfl,lk,hcd⟩:=F.ex
 exact .all (h kV doc pm an cdv ct)
theorem Cq {x qual:Ou} {st:Stmt} {f:Addr} {oc:Mh} {od an:Option Addr} {osl:Array (Option Mh)} {kV doc pm cdv ct:Mh} (l:K.lookup f=some ⟨oc,od,.func (RB x qual (d7 st) (dJ st) (aD st) .none kV doc pm an cdv ct),osl⟩)
  (c:TX K cdv qual=true) (k:SJ K (.ref f)=true):Fun K x qual st f (RB x qual (d7 st) (dJ st) (aD st) .none kV doc pm an cdv ct):=⟨⟨oc,od,kV,doc,pm,an,cdv,ct,osl,rfl,l,c⟩,k⟩
end
theorem aK {n:Nat} (h:n<=1000):n < sizeLine:=QD h (by decide)
section
variable {X:Cx}
theorem pv (i:Nat) {x:Ou} {pos:R8} (hN:X.N[i]? = some x:=by rfl) (hv:Vis X.env.scope x:=by first | exact MT rfl | exact Td (MT rfl) | exact Td (Td rfl)) (hd:(x == ("__debug__" : Ou))=false:=by decide)
  (hcd:(x == ("__classdict__" : Ou))=false:=by decide):PE X (.Name x pos) (JT i):=JK hN hv hd hcd
end
theorem gF {A B:Prop} (h:B):if false=true then A else B:=by
 rw[if_neg Mr]
 exact h
theorem jN {A B:Prop} (h:A):if true=true then A else B:=by
 rw[if_pos rfl]
 exact h
theorem CK {c A B:Prop} [Decidable c] (h1:c->A) (h2:¬ c->B):if c then A else B:=by
 by_cases h:c
 ·rw[if_pos h]
  exact h1 h
 ·rw[if_neg h]
  exact h2 h
def aP (H H':Hp):Prop:=∀ b o,H b=some o->H' b=some o
theorem aP.refl (H:Hp):aP H H:=fun _ _ h=>h
theorem aP.trans {H H1 H2:Hp} (a:aP H H1) (b:aP H1 H2):aP H H2:=fun c o h=>b c o (a c o h)
theorem aP.free {H H':Hp} (e:aP H H') {l:Addr} (h:H' l=Option.none):H l=Option.none:=by
 cases q:H l with
 | none=>rfl
 | some o =>
  rw[e l o q] at h
  cases h
theorem aP.seq {K:MP} {H H':Hp} {a:Addr} {xs:List V} (e:aP H H') (h:SqL K H a xs):SqL K H' a xs:=by
 rcases h with (h | ⟨o,h⟩) | h
 ·exact .inl (.inl (e _ _ h))
 ·exact .inl (.inr ⟨o,e _ _ h⟩)
 ·exact .inr h
end L2
set_option maxHeartbeats 4000000
namespace L2
open PySem PySem.Spec PyProof.Rows
theorem yC {env:Env}:∀ {names:List (Ou × SM)} {x:Ou},names.lookup x=some .free →
  (names.map fun (n,k)=>if (k == Pn && env.scope.kind == .function && env.kindOf n == some .cell) then (n,T9) else (n,k)).lookup x=some .cell ∨
  (names.map fun (n,k)=>if (k == Pn && env.scope.kind == .function && env.kindOf n == some .cell) then (n,T9) else (n,k)).lookup x=some .free
 | [],_,h=>by simp at h
 | (n,k)::r,x,h=>by
  have ih:=@yC env r x
  rw[Ni]
  cases hx:x == n with
  | true =>
   rw[Oh,hx] at h
   cases h
   by_cases hc:(Pn == Pn && env.scope.kind == .function && env.kindOf n == some .cell)=true
   ·refine .inl ?_
    dsimp only
    rw[if_pos hc,Oh,hx]
   ·refine .inr ?_
    dsimp only
    rw[if_neg hc,Oh,hx]
  | false =>
   rw[Oh,hx] at h
   dsimp only
   by_cases hc:(k == Pn && env.scope.kind == .function && env.kindOf n == some .cell)=true
   ·rw[if_pos hc,Oh,hx]; exact ih h
   ·rw[if_neg hc,Oh,hx]; exact ih h
theorem rZ {env:Env}:∀ {names:List (Ou × SM)} {x:Ou} {k':SM},
  (names.map fun (n,k)=>if (k == Pn && env.scope.kind == .function && env.kindOf n == some .cell) then (n,T9) else (n,k)).lookup x=some k'->names.lookup x=some k'∨names.lookup x=some .free
 | [],_,_,h=>by simp at h
 | (n,k)::r,x,k',h=>by
  have ih:=@rZ env r x k'
  rw[Ni] at h
  dsimp only at h
  cases hx:x == n with
  | true =>
   rw[Oh,hx]
   by_cases hc:(k == Pn && env.scope.kind == .function && env.kindOf n == some .cell)=true
   ·have hk:k = .free:=by
     rw[Qh,Qh] at hc
     exact eq_of_beq hc.1.1
    exact .inr (by rw[hk])
   ·rw[if_neg hc,Oh,hx] at h
    exact .inl h
  | false =>
   rw[Oh,hx]
   by_cases hc:(k == Pn && env.scope.kind == .function && env.kindOf n == some .cell)=true
   ·rw[if_pos hc,Oh,hx] at h; exact ih h
   ·rw[if_neg hc,Oh,hx] at h; exact ih h
theorem qX {env:Env}:∀ (names:List (Ou × SM)) (acc:List (Ou × Addr)),(∀ y∈names,y.2 = .free->∃ c,env.cells.lookup y.1=some c)->(∀ n c,acc.lookup n=some c->env.cells.lookup n=some c) →
  ∃ cl,(forIn names acc (fun (x:Ou × SM) (r:List (Ou × Addr))=>(match x with | (name,kind)=>if (kind == Pn)=true then (do let c ← cellOf env name; pure (Rp ((name,c)::r))) else pure (Rp r):Sem (ForInStep (List (Ou × Addr))))))=pure cl ∧
   (∀ n c,cl.lookup n=some c->env.cells.lookup n=some c)/\(∀ n c,acc.lookup n=some c->∃ c',cl.lookup n=some c')/\∀ y∈names,y.2 = .free->∃ c,cl.lookup y.1=some c
 | [],acc,_,h=>⟨acc,by rw[Qy],h,fun _ c e=>⟨c,e⟩,fun y hy=>by simp at hy⟩
 | (n,k)::r,acc,hf,h=>by
  rw[Qk]
  dsimp only
  by_cases hk:(k == Pn)=true
  ·rw[if_pos hk]
   have hk':k = .free:=eq_of_beq hk
   obtain⟨c,hc⟩:=hf (n,k) Ml hk'
   have hc:env.cells.lookup n=some c:=hc
   have ec:cellOf env n=pure c:=by unfold cellOf; rw[hc]
   have h2:∀ m d,((n,c)::acc).lookup m=some d->env.cells.lookup m=some d:=fun m d e=>by
    rw[Oh] at e
    cases hx:m == n with
    | true=>rw[hx] at e; cases e; rw[eq_of_beq hx]; exact hc
    | false=>rw[hx] at e; exact h m d e
   obtain⟨cl,e1,e2,e3,e4⟩:=qX r ((n,c)::acc) (fun y hy=>hf y (MF _ hy)) h2
   refine⟨cl,by rw[ec,pure_bind,pure_bind]; exact e1,e2,fun m d e=>?_,fun y hy hyf=>?_⟩
   ·refine (match hx:m == n with | true=>e3 m c (by rw[Oh,hx]) | false=>e3 m d (by rw[Oh,hx]; exact e))
   ·rcases List.mem_cons.mp hy with rfl | hy
    ·exact e3 n c (by rw[Oh,beq_self_eq_true])
    ·exact e4 y hy hyf
  ·rw[if_neg hk]
   obtain⟨cl,e1,e2,e3,e4⟩:=qX r acc (fun y hy=>hf y (MF _ hy)) h
   refine⟨cl,by rw[pure_bind]; exact e1,e2,e3,fun y hy hyf=>?_⟩
   rcases List.mem_cons.mp hy with rfl | hy
   ·exact absurd (by rw[show k=Pn from hyf]; rfl) hk
   ·exact e4 y hy hyf
theorem wK {scope:Sy} {env:Env} (h:∀ y∈scope.names,y.2 = .free->∃ c,env.cells.lookup y.1=some c) :
  ∃ cl,closureFor scope env=pure cl/\(∀ n c,cl.lookup n=some c->env.cells.lookup n=some c)/\∀ y∈scope.names,y.2 = .free->∃ c,cl.lookup y.1=some c:=by
 obtain⟨cl,e1,e2,_,e4⟩:=qX scope.names [] h (fun _ _ e=>by simp at e)
 refine⟨cl,?_,e2,e4⟩
 unfold closureFor
 first
  | exact e1
  | (rw[← bind_pure (x:=pure cl),← e1]; rfl)
  | (simp only[bind_pure]; exact e1)
def cW (X:Cx) (scope:Sy) (cl:List (Ou × Addr)) (C:Addr) (N:List Ou) (s:Mj) (H:Hp) (fp:List Addr):Cx :=
 {X with N:=N,s₀:=s,H₀:=H,env:=compEnvC scope cl C X.env,outer:=X.stack,ex:=fp,fn:=fun _=>false,pn:=[],xe:=fun _ _=>False }
structure qL (X:Cx) (scope:Sy) (F:List Ou) (cap:List Nat):Prop where
 kind:scope.kind = .function
 cell:∀ y∈scope.names,y.2≠.cell
 nms:∀ y∈scope.names,y.2 = .local->scope.names.lookup y.1=some .local
 fr:∀ y∈scope.names,y.2 = .free->X.env.kindOf y.1=some .cell∨X.env.kindOf y.1=some .free
 len:cap.length=F.length
 at':∀ (k:Nat) (x:Ou),F[k]? = some x->∃ i,cap[k]? = some i/\X.N[i]? = some x/\scope.names.lookup x=some .free
def PTs (X:Cx) (ifs:List Expr) (t:TT):Prop :=
 ∀ (pins:List (Addr × Qv)) (s:Mj) (σ:St) (H:Hp) (Q:Bool->Hp->Prop),Inv X pins σ H s->t σ H Q →
  Mw (M6 X.prog X.w) X.A (forIn ifs true fun c r=>if r=true then do let ok ← isTrue c X.env (Qd c X.env); pure (Rp ok) else pure (Rp r)) (TP X pins σ Q) X.xe s
def Ga:TT:=fun _ H Q=>Q true H
theorem bW {X:Cx}:PTs X [] Ga:=fun _ _ _ H _ I h=>wpAny_tests_nil ⟨H,I,h⟩
theorem nC {X:Cx} {c:Expr} {t:TT} (hc:PT X c t):PTs X [c] t:=fun pins s σ H Q I h=>wpAny_tests_one (hc pins s σ H Q I h)
theorem vY {prog:M8} {w:NQ} {A:N8} {R:Result->Mj->Prop} {s:Mj} {elt target iter:Expr} {ifs:List Expr} {scope:Sy} {pos:R8} {it acc:Mh} {env:Env} (I:Nat->Mj->Prop)
  (turn:∀ n s,I n s->Mw (M6 prog w) A (Qx it) (fun r s₁=>match r with
   | none=>R (.ok .next) s₁
   | some v=>Mw (M6 prog w) A (Tr target it v) (fun _ s₀=>Mw (M6 prog w) A (assign target env v) (fun _ s₂ =>
     Mw (M6 prog w) A (forIn ifs true fun c r=>if r=true then do let ok ← isTrue c env (Qd c env); pure (Rp ok) else pure (Rp r)) (fun ok s₃ =>
      if ok=true then Mw (M6 prog w) A (Qd elt env) (fun x s₄=>Mw (M6 prog w) A (call (.builtin "list.append") [acc,x]) (fun _ s₅=>∃ m,m < n/\I m s₅) (fun _ _=>False) s₄) (fun _ _=>False) s₃
      else ∃ m,m < n/\I m s₃) (fun _ _=>False) s₂) (fun _ _=>False) s₀) (fun _ _=>False) s₁) (fun _ _=>False) s)
  (n:Nat) (h:I n s):RQ (M6 prog w) A (.compLoop (.ListComp elt [⟨target,iter,ifs,0⟩] scope pos) 0 it acc env) R s:=by
 have no:∀ {E:Mh->Mj->Prop} (x:Mh) (s':Mj),(fun (_:Mh) (_:Mj)=>False) x s'->E x s':=fun _ _ z=>z.elim
 refine codeAny_loop rfl I (fun n s hI=>?_) n h
 refine (show Mw (M6 prog w) A ((compTurn (.ListComp elt [⟨target,iter,ifs,0⟩] scope pos) 0 it acc env).onRaise (fun x=>do noteFrame x env; theTreesLotGoes x)) _ _ s from wpAny_noted ?_)
 rw[compTurn_list]
 refine LR (wpAny_standAt (LR (PQ (turn n s hI) (fun r s₁ h₁=>?_) no)))
 cases r with
 | none=>exact Mp h₁
 | some v =>
  refine LR (PQ h₁ (fun _ s₀ h₀=>LR (PQ h₀ (fun _ s₂ h₂=>LR (PQ h₂ (fun ok s₃ h₃=>?_) no)) no)) no)
  cases ok with
  | false=>exact Mp ⟨rfl,h₃⟩
  | true=>exact LR (LR (PQ h₃ (fun x s₄ h₄=>LR (PQ h₄ (fun _ s₅ h₅=>Mp (Mp ⟨rfl,h₅⟩)) no)) no))
def fU (D:Addr) (σ0:St) (J:It) (g:TG) (tt:TT) (te:TE) (H1:Hp) (Q:Hp->Prop):Prop :=
 ∃ W:Nat->Nat->List V->St->Hp->Prop,(∃ m,W 0 m [] σ0 (upd H1 D (.lst []))) ∧
  ∀ i m ys σ' H',W i m ys σ' H'->H' D=some (.lst ys)/\((J.stop i H'/\Q H')∨(J.go i H'/\∃ N:List V->St->Hp->Prop,(∀ zs σ2 H2,N zs σ2 H2->∃ m',m' < m/\W (i+1) m' zs σ2 H2) ∧
   ∀ x H2,J.yld i H' x H2->g x σ' H2 fun σ3 H3=>tt σ3 H3 fun b H4=>if b=true then te σ3 H4 fun y H5=>H5 D=some (.lst ys)/\ys.length < sizeLine/\N (ys++[y]) σ3 (upd H5 D (.lst (ys++[y]))) else N ys σ3 H4))
def HN (n:Nat) (cap:List Nat) (σ:St):St:=Mz n none++cap.map fun i=>(σ[i]?).join
def Ka (n:Nat) (cap:List Nat) (wi:TI) (g:TG) (tt:TT) (te:TE):TE:=fun σ H Q=>wi σ H fun J H1=>∀ D,H1 D=none->fU D (HN n cap σ) J g tt te H1 fun H2=>Q (.ref D) H2
section
variable {X:Cx} {elt tg iter:Expr} {ifs:List Expr} {scope:Sy} {pos:R8} {L F:List Ou} {cap:List Nat} {wi:TI} {g:TG} {tt:TT} {te:TE}
theorem zW {pins:List (Addr × Qv)} {σ:St} {H:Hp} {s:Mj} (I:Inv X pins σ H s) {b:Addr} (h1:b≠X.env.locals) (h2:b ∉ X.fs):b ∉ frs X.stack:=fun z=>(List.mem_cons.mp (I.zM b z)).elim h1 h2
theorem vm {cl:List (Ou × Addr)} {pins:List (Addr × Qv)} {σ:St} {H:Hp} {s:Mj} {fp:List Addr} {h₁:N5} {tk:Nat} (ok:qL X scope F cap) (I:Inv X pins σ H s) (hfp:∀ b∈fp,rF X pins H b/\b < s.heap.objs.size)
  (sub:∀ n c,cl.lookup n=some c->X.env.cells.lookup n=some c) (all:∀ y∈scope.names,y.2 = .free->∃ c,cl.lookup y.1=some c)
  (ns:h₁.Ns s.heap.objs.size fun _=>none) (kp:∀ b o,s.heap.get? b=some o->h₁.get? b=some o) :
  Inv (cW X scope cl s.heap.objs.size (L++F) s H fp) [] (HN L.length cap σ) H { s with heap:=h₁,toks:=tk }:=by
 have frk:∀ x,scope.names.lookup x=some .free->X.env.kindOf x=some .cell∨X.env.kindOf x=some .free:=fun x e=>ok.fr (x,.free) (O8 e) rfl
 have okX:(cW X scope cl s.heap.objs.size (L++F) s H fp).Ok:=by
  refine⟨I.ok.mod,ok.kind,I.ok.glob,I.ok.blt,Mt _,fun x y c e1 e2=>I.ok.inj x y c (sub x c e1) (sub y c e2),fun x hx=>?_,fun x c hx _=>?_,I.ok.hd,I.ok.frames,.inl rfl,fun b hb=>?_,I.bs,Ob I.ok.bsz I.sz,fun b o e hb=>?_,fun b hb=>?_,I.stack,I.zQ⟩
  ·have e:scope.names.lookup x=some .free:=by
    rcases hx with hx | hx
    ·rcases rZ (env:=X.env) (show _=some T9 from hx) with e | e
     ·exact absurd rfl (ok.cell _ (O8 e))
     ·exact e
    ·rcases rZ (env:=X.env) (show _=some Pn from hx) with e | e <;> exact e
   exact all (x,.free) (O8 e) rfl
  ·exact absurd (show false=true from hx) Mr
  ·exact⟨Nb (hfp b hb).2,fun x c e=>(hfp b hb).1.2.2.2.2.1 x c (sub x c e)⟩
  ·obtain⟨_,_,_,f3,_⟩:=(hfp b hb).1
   rcases f3 with z | z
   ·exact I.ok.noex b o e z
   ·exact absurd (M7 (Mx e) (Ob I.ok.bsz z)) (O5 _)
  ·obtain⟨_,f1,f2,_⟩:=(hfp b hb).1
   exact zW I f1 f2
 refine⟨okX,rfl,I.bare,Un.kept kp,⟨_,ns,fun i x v e1 e2 e3=>?_⟩,fun x c e=>?_,I.hok.fresh (Mt _),fun x c e=>I.freeC x c (sub x c e),fun p hp=>absurd (show p∈([]:List (Addr × Qv)) from hp) (by simp),I.hok.kept kp,?_⟩
 ·have e1:(L++F)[i]? = some x:=e1
  have e2:(Mz L.length none++cap.map fun i=>(σ[i]?).join)[i]? = some (some v):=e2
  have hL:¬ i < L.length:=fun hi=>by
   rw[List.getElem?_append_left (by simpa using hi),Pj] at e2
   split at e2 <;> cases e2
  have hi:L.length<=i:=Nat.le_of_not_lt hL
  rw[SQ hi] at e1
  rw[SQ (by simpa using hi),Nv,Nj] at e2
  obtain⟨j,hj,hN,hk⟩:=ok.at' _ _ e1
  rw[hj] at e2
  have e4:(σ[j]?).join=some v:=by simpa using e2
  have e5:σ[j]? = some (some v):=by
   cases q:σ[j]? with
   | none=>rw[q] at e4; cases e4
   | some a=>rw[q] at e4; exact congrArg some e4
  obtain⟨m,hn,hl⟩:=I.loc
  have kd:=frk x hk
  obtain⟨u,r,lk⟩:=hl j x v hN e5 (kd.elim (fun z=>.inr (.inl z)) fun z=>.inr (.inr z))
  obtain⟨c,hc,hcell⟩:∃ c,X.env.cells.lookup x=some c/\s.heap.IsCell c (some u):=by
   rcases lk with⟨z,_⟩ | ⟨_,c,z1,z2⟩
   ·rcases kd with y | y <;> (rw[y] at z; cases z)
   ·exact⟨c,z1,z2⟩
  obtain⟨c',hc'⟩:=all (x,.free) (O8 hk) rfl
  have ec:c'=c:=by
   have:=sub x c' hc'
   rw[hc] at this
   exact (M9 this).symm
  subst ec
  obtain⟨o,ho,hd⟩:=hcell
  exact⟨u,r,.inr ⟨(yC (env:=X.env) hk),c',hc',o,kp _ _ ho,hd⟩⟩
 ·obtain⟨v,o,ho,hd⟩:=I.cell x c (sub x c e)
  exact⟨v,o,kp _ _ ho,hd⟩
 ·show (Mz L.length (none:Option V)++cap.map fun i=>(σ[i]?).join).length=(L++F).length
  rw[Mv,Mv,Nv,Mf,ok.len]
theorem tX {cl:List (Ou × Addr)} {pins:List (Addr × Qv)} {σ:St} {s2:Mj} {H2:Hp} {it:Addr} {fp:List Addr} {tn:Nat->N5->Prop} {J:It} {use:Option (Mh->Sem Unit)} {QQ:Mh->Mj->Prop} {Z:Hp->Prop} {E:Mh->Mj->Prop}
  (hc:X.calm=true) (ok:qL X scope F cap)
  (sub:∀ n c,cl.lookup n=some c->X.env.cells.lookup n=some c) (all:∀ y∈scope.names,y.2 = .free->∃ c,cl.lookup y.1=some c)
  (hg:∀ cl C s H fp,PG (cW X scope cl C (L++F) s H fp) tg g) (ht:∀ cl C s H fp,PTs (cW X scope cl C (L++F) s H fp) ifs tt) (he:∀ cl C s H fp,PE (cW X scope cl C (L++F) s H fp) elt te)
  (I2:Inv X pins σ H2 s2) (T:Turn X.prog X.w X.K tg J fp it tn) (st2:tn 0 s2.heap) (f2:∀ b∈fp,rF X pins H2 b)
  (q2:fU s2.heap.objs.size (HN L.length cap σ) J g tt te H2 Z)
  (fin:∀ (C:Addr) (s':Mj) (H':Hp),Z H'->Inv X pins σ H' s'->(∃ m,s'.heap.Ns C m)->H' C=none->C≠X.env.locals->X.s₀.heap.objs.size<=C->(∀ x c,X.env.cells.lookup x=some c->c≠C)->(∀ p∈X.pn++pins,p.1≠C) →
   compPost (M6 X.prog X.w) X.A E use QQ (.ref s2.heap.objs.size) C (.ok .next) s') :
  Mw (M6 X.prog X.w) X.A (newList []) (fun acc s₃=>Mw (M6 X.prog X.w) X.A (newFunctionEnv scope X.env.globals cl [] X.env.qual none .none (some X.env)) (fun cenv s₄ =>
   RQ (M6 X.prog X.w) X.A (.compStart (.ListComp elt [⟨tg,iter,ifs,0⟩] scope pos) 0 (.ref it) acc { cenv with scope:=relabel scope X.env }) (compPost (M6 X.prog X.w) X.A E use QQ acc cenv.locals) s₄) E s₃) E s2:=by
 have hD:H2 s2.heap.objs.size=none:=I2.fresh
 refine Qn (wpAny_newFunctionEnv ok.cell (by intro y hy; simp at hy) (fun h₁ hns₁ hsb₁=>?_) ok.kind)
 dsimp only at hns₁ hsb₁ ⊢
 have I3:Inv X pins σ (upd H2 s2.heap.objs.size (.lst [])) { s2 with heap:=s2.heap.push { cls:=.type "list",data:=.seq ([]:List Mh).toArray } }:=I2.JZ (t':=s2.toks) (ys:=[]) (its:=[]) .nil (NP _)
 have blt:∀ b∈fp,b < s2.heap.objs.size:=fun b hb=>let ⟨_,e,_⟩:=T.obj 0 _ st2 b hb; Mx e
 have szC:(s2.heap.push { cls:=.type "list",data:=.seq ([]:List Mh).toArray }).objs.size=s2.heap.objs.size+1:=N7 _ _
 generalize hs3:({ s2 with heap:=s2.heap.push { cls:=.type "list",data:=.seq ([]:List Mh).toArray } }:Mj)=s3 at I3
 have es3:s3.heap=s2.heap.push { cls:=.type "list",data:=.seq ([]:List Mh).toArray }:=by rw[← hs3]
 have eos:s3.os=s2.os:=by rw[← hs3]
 have fok:∀ b∈fp,rF X pins (upd H2 s2.heap.objs.size (.lst [])) b/\b < s3.heap.objs.size:=fun b hb=>by
  obtain⟨f0,fr⟩:=f2 b hb
  refine⟨⟨by rw[aL (Nb (blt b hb))]; exact f0,fr⟩,?_⟩
  rw[es3,szC]
  exact Qp (blt b hb)
 have hkp:∀ b o,s3.heap.get? b=some o->h₁.get? b=some o:=fun b o e=>by
  have e':b < s3.heap.objs.size:=Mx e
  rw[es3] at e e'
  exact (hsb₁.2 b (Nb e')).trans (Ma _ e)
 have hns:h₁.Ns s3.heap.objs.size fun _=>none:=by
  rw[es3]
  exact hns₁
 have I4:∀ tk,Inv (cW X scope cl s3.heap.objs.size (L++F) s3 (upd H2 s2.heap.objs.size (.lst [])) fp) [] (HN L.length cap σ) (upd H2 s2.heap.objs.size (.lst [])) { s3 with heap:=h₁,toks:=tk }:=fun tk =>
  vm (L:=L) ok I3 fok sub all hns hkp
 have stat:∀ {H':Hp},(∀ b∈fp,H' b=none)->∀ b∈fp,rF (cW X scope cl s3.heap.objs.size (L++F) s3 (upd H2 s2.heap.objs.size (.lst [])) fp) [] H' b:=fun {H'} hn b hb=>by
  obtain⟨⟨_,g1,g2,g3,g4,g5⟩,g6⟩:=fok b hb
  exact⟨hn b hb,Nb g6,zW I3 g1 g2,.inl hb,fun x c e=>g4 x c (sub x c e),fun p hp=>absurd (show p∈([]:List (Addr × Qv)) from hp) (by simp)⟩
 have loop:∀ tk,RQ (M6 X.prog X.w) X.A (.compLoop (.ListComp elt [⟨tg,iter,ifs,0⟩] scope pos) 0 (.ref it) (.ref s2.heap.objs.size) (compEnvC scope cl s3.heap.objs.size X.env))
   (compPost (M6 X.prog X.w) X.A E use QQ (.ref s2.heap.objs.size) s3.heap.objs.size) { s3 with heap:=h₁,toks:=tk }:=fun tk=>by
  obtain⟨W,⟨m0,w0⟩,turn⟩:=q2
  have st3:tn 0 h₁:=T.keep 0 _ _ st2 fun b hb o e=>hkp b o (by rw[es3]; exact Ma _ e)
  refine vY (fun n s'=>∃ i ys σ' H',Inv (cW X scope cl s3.heap.objs.size (L++F) s3 (upd H2 s2.heap.objs.size (.lst [])) fp) [] σ' H' s'/\tn i s'.heap/\(∀ b∈fp,H' b=none)/\W i n ys σ' H') ?_ m0
   ⟨0,[],_,_,I4 tk,st3,fun b hb=>(fok b hb).1.1,w0⟩
  rintro n s5 ⟨i,ys,σ5,H5,I5,st5,fr5,w5⟩
  obtain⟨hDl,alt⟩:=turn i n ys σ5 H5 w5
  rcases alt with⟨stop,qz⟩ | ⟨go,N,hN,step⟩
  ·refine thn (T.done (cW X scope cl s3.heap.objs.size (L++F) s3 (upd H2 s2.heap.objs.size (.lst [])) fp) rfl rfl rfl hc i [] s5 σ5 H5 _ I5 (stat fr5) st5 stop) fun r s6 ⟨hr,I6⟩=>?_
   subst hr
   have un:Un (frs X.stack) fp H2 H5 s2.heap s6.heap:=by
    have u1:Un (frs X.stack) fp H2 (upd H2 s2.heap.objs.size (.lst [])) s2.heap s3.heap:=by
     rw[es3]
     exact Un.laid (fun _ _ q=>Ma _ q) (Mt _) hD
    exact u1.trans I6.base
   have J1:Inv X pins σ H5 s6:=I2.call' (I6.os.trans eos) un I6.hok I6.bare fun b hb=>by
    obtain⟨_,g1,_,g3,g4,g5⟩:=f2 b hb
    exact⟨g3,g1,g4,g5⟩
   have hC:s2.heap.objs.size<=s3.heap.objs.size:=by rw[es3,szC]; exact QX _
   obtain⟨m,hm,_⟩:=I6.loc
   refine fin s3.heap.objs.size s6 H5 qz J1 ⟨m,hm⟩ I6.free (Pb (M7 I2.lt hC)) (Ob I2.sz hC) (fun x c e z=>?_) (fun p hp z=>?_)
   ·obtain⟨v,q⟩:=I2.cell x c e
    exact absurd (M7 q.lt (by rw[z]; exact hC)) (O5 _)
   ·exact absurd (M7 (Mx (I2.pin p hp).1) (by rw[z]; exact hC)) (O5 _)
  ·refine thn (T.item (cW X scope cl s3.heap.objs.size (L++F) s3 (upd H2 s2.heap.objs.size (.lst [])) fp) rfl rfl rfl hc i [] s5 σ5 H5 _ I5 (stat fr5) st5 go) fun r s6 ⟨u,hr,h6⟩=>?_
   subst hr
   refine thn h6 fun _ s7 ⟨x,H7,I7,r7,y7,st7,fr7⟩=>?_
   have I7':=I7.pinned (stat fr7) (T.obj _ _ st7)
   refine thn (hg _ _ _ _ _ _ s7 σ5 H7 x u _ I7' r7 (step x H7 y7)) fun _ s8 ⟨σ8,H8,I8,q8⟩=>?_
   have again:∀ {σ9:St} {H9:Hp} {s9:Mj} {zs:List V},Inv (cW X scope cl s3.heap.objs.size (L++F) s3 (upd H2 s2.heap.objs.size (.lst [])) fp) ([]++pY fp s7.heap) σ9 H9 s9->N zs σ9 H9 →
     ∃ m,m < n/\∃ i ys σ' H',Inv (cW X scope cl s3.heap.objs.size (L++F) s3 (upd H2 s2.heap.objs.size (.lst [])) fp) [] σ' H' s9/\tn i s9.heap/\(∀ b∈fp,H' b=none)/\W i m ys σ' H':=fun {σ9 H9 s9 zs} I9 n9=>by
    obtain⟨m',hm,w9⟩:=hN zs σ9 H9 n9
    refine⟨m',hm,i+1,zs,σ9,H9,I9.jV,T.keep _ _ _ st7 fun b hb o e=>(I9.pin (b,o) (Nu _ (Nu _ (gM hb e)))).1,fun b hb=>?_,w9⟩
    obtain⟨o,e,d⟩:=T.obj _ _ st7 b hb
    exact (I9.pin (b,o) (Nu _ (Nu _ (gM hb e)))).2.1
   refine thn (ht _ _ _ _ _ _ s8 σ8 H8 _ I8 q8) fun okb s9 ⟨H9,I9,q9⟩=>?_
   cases okb with
   | false =>
    rw[if_neg Mr] at q9 ⊢
    exact again I9 q9
   | true =>
    rw[if_pos rfl] at q9 ⊢
    refine thn (he _ _ _ _ _ _ s9 σ8 H9 _ I9 q9) fun y s10 ⟨yv,H10,I10,r10,e10,z10,n10⟩=>?_
    refine thn (bM _ s10 σ8 H10 (.ref s2.heap.objs.size) [yv] (.ref s2.heap.objs.size) [y] (fun _ H'=>N (ys++[yv]) σ8 H') I10 rfl (.cons r10 .nil) ⟨_,ys,yv,rfl,rfl,e10,z10,n10⟩) fun _ s11 ⟨_,H11,I11,_,n11⟩=>?_
    exact again I11 n11
 have eC:(s2.heap.push { cls:=.type "list",data:=.seq ([]:List Mh).toArray }).objs.size=s3.heap.objs.size:=by rw[es3]
 have goal:∀ tk,RQ (M6 X.prog X.w) X.A (.compStart (.ListComp elt [⟨tg,iter,ifs,0⟩] scope pos) 0 (.ref it) (.ref s2.heap.objs.size) (compEnvC scope cl s3.heap.objs.size X.env))
   (compPost (M6 X.prog X.w) X.A E use QQ (.ref s2.heap.objs.size) s3.heap.objs.size) { s3 with heap:=h₁,toks:=tk }:=fun tk =>
  codeAny_compStart_list (loop tk) (T.self _ 0 _ _ _ (T.keep 0 _ _ st2 fun b hb o e=>hkp b o (by rw[es3]; exact Ma _ e)) (loop tk))
 have g0:=goal (s2.toks+([]:List (Ou × Mh)).length)
 subst hs3
 exact g0
theorem bV (hc:X.calm=true) (ok:qL X scope F cap) (hi:PI X tg iter wi)
  (hg:∀ cl C s H fp,PG (cW X scope cl C (L++F) s H fp) tg g) (ht:∀ cl C s H fp,PTs (cW X scope cl C (L++F) s H fp) ifs tt) (he:∀ cl C s H fp,PE (cW X scope cl C (L++F) s H fp) elt te)
  (hs:∀ x,Ul iter X.env x=pure x:=by intro _; rfl):PE X (.ListComp elt [⟨tg,iter,ifs,0⟩] scope pos) (Ka L.length cap wi g tt te):=by
 intro pins s σ H Q I h
 obtain⟨cl,e1,e2,e3⟩:=wK (scope:=scope) (env:=X.env) (fun y hy hf=>I.ok.has _ (ok.fr y hy hf))
 rw[eval_ListComp]
 refine wpAny_comprehension_free (use:=none) rfl hs e1 ok.kind ok.nms (thn (hi pins s σ H _ I h) fun v s1 h1=>thn h1 fun itv s2 h2=>?_)
 obtain⟨it,fp,tn,J,H2,e,I2,T,st2,f2,q2⟩:=h2
 subst e
 refine tX (Z:=fun H'=>Q (.ref s2.heap.objs.size) H') hc ok e2 e3 hg ht he I2 T st2 f2 (q2 _ I2.fresh) fun C s' H' z J m hCf hCl hCs hCc hCp=>?_
 ·obtain⟨m,hm⟩:=m
  exact⟨m,hm,fun h' hs'=>⟨.ref _,H',J.turned (t':=s'.toks) (fun b o hb e=>(hs'.2 b hb).trans e) hCf hCl (.inr hCs) hCc hCp,rfl,z⟩⟩
def JN (n:Nat) (cap:List Nat) (wi:TI) (g:TG) (tt:TT) (te:TE) (j:Nat):TS:=fun D σ H=>wi σ H fun J H1=>∀ d,H1 d=none->fU d (HN n cap σ) J g tt te H1 fun H2=>D.nx (σ.set j (some (.ref d))) H2
theorem nJ {j:Nat} {y:Ou} {py spos:R8} (hN:X.N.Nodup) (hj:X.N[j]? = some y) (hy:Loc X.env.scope y) (hc:X.calm=true) (ok:qL X scope F cap) (hi:PI X tg iter wi)
  (hg:∀ cl C s H fp,PG (cW X scope cl C (L++F) s H fp) tg g) (ht:∀ cl C s H fp,PTs (cW X scope cl C (L++F) s H fp) ifs tt) (he:∀ cl C s H fp,PE (cW X scope cl C (L++F) s H fp) elt te)
  (hsw:swapsWith (.ListComp elt [⟨tg,iter,ifs,0⟩] scope pos) (some (.Name y py)) spos.line X.env=pure true:=by rfl)
  (hs:∀ x,Ul iter X.env x=pure x:=by intro _; rfl) (hf:X.fn y=true∨X.env.scope.names.lookup y=some .local:=by first | exact .inl rfl | exact .inr rfl | assumption) :
  PS X (.Assign [.Name y py] (.ListComp elt [⟨tg,iter,ifs,0⟩] scope pos) spos) (JN L.length cap wi g tt te j):=by
 intro pins s σ H D I h
 obtain⟨cl,e1,e2,e3⟩:=wK (scope:=scope) (env:=X.env) (fun y hy hf=>I.ok.has _ (ok.fr y hy hf))
 rw[exec_Assign_Name_used _ _ _ _ hsw]
 refine LR (wpAny_standAt (LR ?_))
 show Mw (M6 X.prog X.w) X.A (do let _ ← comprehension (.ListComp elt [⟨tg,iter,ifs,0⟩] scope pos) scope X.env _ (newList []) false (Qd iter X.env) (some (assign (.Name y py) X.env))) _ _ s
 refine LR (PQ (wpAny_comprehension_free (use:=some (assign (.Name y py) X.env)) (Q:=fun _ s'=>SP X pins D .next s') rfl hs e1 ok.kind ok.nms
  (thn (hi pins s σ H _ I h) fun v s1 h1=>thn h1 fun itv s2 h2=>?_)) (fun _ s' hq=>Mp (Mp hq)) fun _ _ e=>e)
 obtain⟨it,fp,tn,J,H2,e,I2,T,st2,f2,q2⟩:=h2
 subst e
 refine tX (Z:=fun H'=>D.nx (σ.set j (some (.ref s2.heap.objs.size))) H') hc ok e2 e3 hg ht he I2 T st2 f2 (q2 _ I2.fresh) fun C s' H' z J m hCf hCl hCs hCc hCp=>?_
 obtain⟨m,hm⟩:=m
 refine wpAny_assign_Name (pF J hN hj hy (v:=.ref s2.heap.objs.size) rfl (fun s5 I5 hs5=>?_) hf)
 obtain⟨a,sb,ha⟩:=hs5
 have hne:C≠a:=by
  rcases ha with rfl | ha
  ·exact hCl
  ·exact Rk (hCc y a ha)
 exact⟨m,hm.sameBut sb hne,fun h' hs'=>⟨_,H',I5.turned (t':=s5.toks) (fun b o hb e=>(hs'.2 b hb).trans e) hCf hCl (.inr hCs) hCc hCp,z⟩⟩
end
end L2
namespace L2
open PySem PySem.Spec PyProof.Rows
structure Df (P:M8) (w:NQ) (K:MP) (mg:Ou->Option Mh) (base:N5) (x:Ou) (k:Nat) (ps:List Ou) (sp:Sp):Prop where
 ex:∃ (f:Addr) (fd:QH),fu P w K mg base CX0 k f fd ps sp/\mg x=some (.ref f)/\SJ K (.ref f)=true/\Binds K fd ps []
section
variable {X:Cx} {k j:Nat} {x:Ou} {ps:List Ou} {sp:Sp} {p pos:R8} {e:Expr} {es:List Expr} {t:TA}
theorem aY (D:Df X.prog X.w X.K X.mg X.base x k ps sp) (hr:lV j X.A) (ha:PA X (e::es) t) (hk:k<=j:=by first | decide | exact Mt _ | lia) (hg:Gl X x:=by rfl)
  (hdb:(x == ("__debug__" : Ou))=false:=by decide) (he:Nm (e::es) X.env=(false,Qd e X.env)::Nm es X.env:=by rfl) (hpl:(Ru pos (Nm es X.env)).any (·.1)=false:=by rfl) :
  PE X (.Call (.Name x p) (e::es) [] pos) (HD sp [] E0 t):=by
 obtain⟨f,fd,F,hm,hkp,hb⟩:=D.ex
 exact Fl F (hr.mono hk) hg hm hkp hb .nil Km ha hdb he hpl
theorem my {T:String} (hm:X.mg x=none) (hv:Oa x=some (.type T)) (hg:Gl X x:=by rfl) (hn:x≠"__name__":=by decide) (hd:(x == ("__debug__" : Ou))=false:=by decide):PE X (.Name x pos) (tC (.ty T)):=Ey hg hm hv rfl hn hd
def wF (K:Nq):List V->Hp->VK->Prop:=fun xs H Q=>∃ (x:V) (T:String) (t:Mh) (b:Bool),xs=[x,.ty T]/\vo K H x t/\Ri K t (.type T)=some b/\Q (.bl b) H
theorem dw:gD X (.builtin "isinstance") (wF X.K):=by
 intro pins s σ H xs us Q I r h
 obtain⟨x,T,t,b,rfl,ty,e,q⟩:=h
 obtain⟨u,v,rfl,ru,rv⟩:=vals2 r
 cases (show v=Value.type T from rv)
 exact xK I ru ty e fun tk=>⟨.bl b,H,I.tok tk,rfl,q⟩
def pQ (K:Nq):List V->Hp->VK->Prop:=fun xs H Q=>∃ (p:Addr) (ys:List V),xs=[.ref p]/\(SqL K H p ys∨SqT K H p ys)/\Q (.int ys.length) H
theorem bw:gD X (.builtin "len") (pQ X.K):=qJ
def yl (K:Nq):List V->Hp->VK->Prop:=fun xs H Q=>∃ (p:Addr) (ys:List V),xs=[.ref p]/\(SqL K H p ys∨SqT K H p ys)/\∀ l,H l=none->Q (.ref l) (upd H l (.lst ys))
theorem vL:gD X (.type "list") (yl X.K):=qK
def jG (K:Nq):List V->Hp->VK->Prop:=fun xs H Q=>∃ (p:Addr) (ys:List V),xs=[.ref p]/\((SqL K H p ys/\∀ l,H l=none->Q (.ref l) (upd H l (.tup ys)))∨(SqT K H p ys/\Q (.ref p) H))
theorem cO:gD X (.type "tuple") (jG X.K):=oV
theorem iw:∀ bs:List Bool,(Ms bs.length).all (fun i=>bs.getD i true)=bs.all fun b=>b
 | []=>rfl
 | b::r=>by
  have ih:=iw r
  rw[MK,List.range_succ_eq_map,RV,List.all_map,RV,← ih]
  rfl
def FT (K:Nq):List V->Hp->VK->Prop:=fun xs H Q=>∃ (p:Addr) (bs:List Bool),xs=[.ref p]/\SqL K H p (bs.map V.bl)/\Q (.bl (bs.all fun b=>b)) H
theorem pZ (hc:X.calm=true):gD X (.builtin "all") (FT X.K):=by
 intro pins s σ H xs us Q I r h
 obtain⟨p,bs,rfl,hq,q⟩:=h
 obtain⟨u,rfl,ru⟩:=vals1 r
 cases ru
 obtain⟨its,rv,pl,hz⟩:=I.list hq
 have hlen:bs.length=its.length:=by simpa using rv.length
 refine call_all_walk (Ry pl.isList ?_)
 have I1:Inv X pins σ H { s with heap:=s.heap.push { cls:=.type "list_iterator",data:=.fields #[.ref p,.int 0 0] } }:=I.kept (t':=s.toks) fun b o e=>Ma _ e
 have hne:p≠s.heap.objs.size:=by
  obtain⟨o,ho,_⟩:=pl.isList
  exact Nb (Mx ho)
 refine⟨s.heap.objs.size,_,_,_,_,_,fun i=>bs.getD i true,rfl,Walks.list (A:=X.A.in1) (I.ok.hd hc) s.heap.objs.size p hne its.toArray,⟨⟨_,Mm _ rfl,rfl,rfl⟩,?_⟩,?_,fun h' tk hk=>?_⟩
 ·obtain⟨o,ho,hr⟩:=pl.isList
  exact⟨o,Ma _ ho,hr⟩
 ·intro i v s' Q' E' hP hQ
  have hP:its[i]? = some v:=by simpa using hP
  have hi:i < bs.length:=by
   rw[hlen]
   exact (List.getElem?_eq_some_iff.mp hP).1
  obtain⟨u',hu',ru'⟩:=rv.get (i:=i) (x:=V.bl bs[i]) (by rw[Nj,Mi hi]; rfl)
  rw[hP] at hu'
  cases hu'
  cases (show v=Value.bool bs[i] from ru')
  refine Qm ?_
  have eg:bs.getD i true=bs[i]:=by rw[Mg,Mi hi]; rfl
  have hQ':Q' (bs.getD i true) s':=hQ
  rw[eg] at hQ'
  exact hQ'
 ·have f:=I.Ak (b:=s.heap.objs.size) (H':=H) (Mt _) I.fresh
  have eall:(Ms its.toArray.size).all (fun i=>bs.getD i true)=bs.all fun b=>b:=by
   have el:its.toArray.size=bs.length:=by rw[Mq,hlen]
   rw[el]
   exact iw bs
  rw[eall]
  exact⟨.bl _,H,I1.turned (t':=tk) (it:=s.heap.objs.size) (fun b o hb e=>hk b o (by simpa using hb) e) f.1 f.2.1 f.2.2.2.1 f.2.2.2.2.1 f.2.2.2.2.2,rfl,q⟩
end
end L2
namespace L2
open PySem PySem.Spec PyProof.Rows
def yR (osc:Sy) (oN:List Ou) (sc:Sy) (F:List Ou) (cap:List Nat):Bool :=
 decide (sc.kind = .function) && sc.names.all (fun y=>!decide (y.2 = .cell)) && sc.names.all (fun y=>!decide (y.2 = .local) || decide (sc.names.lookup y.1=some .local)) &&
 sc.names.all (fun y=>!decide (y.2 = .free) || decide (osc.names.lookup y.1=some .cell) || decide (osc.names.lookup y.1=some .free)) && decide (cap.length=F.length) &&
 (Ms F.length).all fun k=>(decide (F[k]? = none) || decide ((cap[k]?.bind fun i=>oN[i]?)=F[k]?)) && decide ((F[k]?.bind fun x=>sc.names.lookup x)=some .free)
theorem bG {X:Cx} {osc sc:Sy} {oN F:List Ou} {cap:List Nat} (ho:X.env.scope=osc) (hN:X.N=oN) (h:yR osc oN sc F cap=true):qL X sc F cap:=by
 unfold yR at h
 simp only[Qh] at h
 obtain⟨⟨⟨⟨⟨h1,h2⟩,h3⟩,h4⟩,h5⟩,h6⟩:=h
 refine⟨of_decide_eq_true h1,fun y hy e=>?_,fun y hy e=>?_,fun y hy e=>?_,of_decide_eq_true h5,fun k x e=>?_⟩
 ·have:=List.all_eq_true.mp h2 y hy
  rw[e] at this
  exact absurd this (by decide)
 ·have:=List.all_eq_true.mp h3 y hy
  rw[decide_eq_true e] at this
  exact of_decide_eq_true (by simpa using this)
 ·have:=List.all_eq_true.mp h4 y hy
  rw[decide_eq_true e] at this
  have z:decide (osc.names.lookup y.1=some .cell)=true∨decide (osc.names.lookup y.1=some .free)=true:=by
   rw[Bool.not_true,Uc,QJ] at this
   exact this
  show X.env.scope.names.lookup y.1=_∨X.env.scope.names.lookup y.1=_
  rw[ho]
  exact z.elim (fun q=>.inl (of_decide_eq_true q)) fun q=>.inr (of_decide_eq_true q)
 ·have hk:k < F.length:=(List.getElem?_eq_some_iff.mp e).1
  have q:=List.all_eq_true.mp h6 k (List.mem_range.mpr hk)
  rw[e,Qh] at q
  obtain⟨q1,q2⟩:=q
  have q1:(cap[k]?.bind fun i=>oN[i]?)=some x:=by
   rw[QJ] at q1
   rcases q1 with z | z
   ·exact absurd (of_decide_eq_true z) (by simp)
   ·exact of_decide_eq_true z
  have q2:sc.names.lookup x=some .free:=of_decide_eq_true q2
  cases hc:cap[k]? with
  | none=>rw[hc] at q1; cases q1
  | some i =>
   rw[hc] at q1
   exact⟨i,rfl,by rw[hN]; exact q1,q2⟩
theorem aU {X:Cx} {scope:Sy} {cl:List (Ou × Addr)} {C:Addr} {N:List Ou} {s:Mj} {H:Hp} {fp:List Addr} (h:N.Nodup):(cW X scope cl C N s H fp).N.Nodup:=h
section
variable {K:Nq} {a D:Addr} {xs:List V} {g:TG} {tt:TT} {te:TE} {H1:Hp} {Q:Hp->Prop} {σ0:St}
theorem nZ (Pv:Nat->List V->St->Hp->Prop) (h0:Pv 0 [] σ0 (upd H1 D (.lst []))) (hl:∀ i ys σ H,i<=xs.length->Pv i ys σ H->SqT K H a xs/\H D=some (.lst ys))
  (hs:∀ i ys x σ H,xs[i]? = some x->Pv i ys σ H->g x σ H fun σ3 H3=>tt σ3 H3 fun b H4=>if b=true then te σ3 H4 fun y H5=>H5 D=some (.lst ys)/\ys.length < sizeLine/\Pv (i+1) (ys++[y]) σ3 (upd H5 D (.lst (ys++[y]))) else Pv (i+1) ys σ3 H4)
  (hd:∀ ys σ H,Pv xs.length ys σ H->Q H):fU D σ0 (Itt K a) g tt te H1 Q:=by
 refine⟨fun i m ys σ H=>m=xs.length - i/\i<=xs.length/\Pv i ys σ H,⟨xs.length,by simp,NP _,h0⟩,?_⟩
 rintro i m ys σ H ⟨rfl,hi,p⟩
 obtain⟨q,qD⟩:=hl i ys σ H hi p
 refine⟨qD,?_⟩
 by_cases hlt:i < xs.length
 ·refine .inr ⟨⟨xs,xs[i],q,by simp [hlt]⟩,Pv (i+1),fun zs σ' H' p'=>⟨xs.length - (i+1),by lia,rfl,hlt,p'⟩,fun x H' y=>?_⟩
  obtain⟨e,y⟩:=y
  subst e
  exact hs i ys x σ _ (y xs q) p
 ·have e:i=xs.length:=by lia
  subst e
  exact .inl ⟨⟨xs,q,Mt _⟩,hd ys σ H p⟩
theorem d9 (Pv:Nat->List V->St->Hp->Prop) (h0:Pv 0 [] σ0 (upd H1 D (.lst []))) (hl:∀ i ys σ H,i<=xs.length->Pv i ys σ H->SqL K H a xs/\H D=some (.lst ys))
  (hs:∀ i ys x σ H,xs[i]? = some x->Pv i ys σ H->g x σ H fun σ3 H3=>tt σ3 H3 fun b H4=>if b=true then te σ3 H4 fun y H5=>H5 D=some (.lst ys)/\ys.length < sizeLine/\Pv (i+1) (ys++[y]) σ3 (upd H5 D (.lst (ys++[y]))) else Pv (i+1) ys σ3 H4)
  (hd:∀ ys σ H,Pv xs.length ys σ H->Q H):fU D σ0 (Itl K a) g tt te H1 Q:=by
 refine⟨fun i m ys σ H=>m=xs.length - i/\i<=xs.length/\Pv i ys σ H,⟨xs.length,by simp,NP _,h0⟩,?_⟩
 rintro i m ys σ H ⟨rfl,hi,p⟩
 obtain⟨q,qD⟩:=hl i ys σ H hi p
 refine⟨qD,?_⟩
 by_cases hlt:i < xs.length
 ·refine .inr ⟨⟨xs,xs[i],q,by simp [hlt]⟩,Pv (i+1),fun zs σ' H' p'=>⟨xs.length - (i+1),by lia,rfl,hlt,p'⟩,fun x H' y=>?_⟩
  obtain⟨e,y⟩:=y
  subst e
  exact hs i ys x σ _ (y xs q) p
 ·have e:i=xs.length:=by lia
  subst e
  exact .inl ⟨⟨xs,q,Mt _⟩,hd ys σ H p⟩
theorem dg {lo:Int} {n:Nat} (Pv:Nat->List V->St->Hp->Prop) (h0:Pv 0 [] σ0 (upd H1 D (.lst []))) (hl:∀ i ys σ H,i<=n->Pv i ys σ H->H D=some (.lst ys))
  (hs:∀ i ys σ H,i < n->Pv i ys σ H->g (.int (lo+i)) σ H fun σ3 H3=>tt σ3 H3 fun b H4=>if b=true then te σ3 H4 fun y H5=>H5 D=some (.lst ys)/\ys.length < sizeLine/\Pv (i+1) (ys++[y]) σ3 (upd H5 D (.lst (ys++[y]))) else Pv (i+1) ys σ3 H4)
  (hd:∀ ys σ H,Pv n ys σ H->Q H):fU D σ0 (Itr lo n) g tt te H1 Q:=by
 refine⟨fun i m ys σ H=>m=n - i/\i<=n/\Pv i ys σ H,⟨n,by simp,NP _,h0⟩,?_⟩
 rintro i m ys σ H ⟨rfl,hi,p⟩
 refine⟨hl i ys σ H hi p,?_⟩
 by_cases hlt:i < n
 ·refine .inr ⟨hlt,Pv (i+1),fun zs σ' H' p'=>⟨n - (i+1),by lia,rfl,hlt,p'⟩,fun x H' y=>?_⟩
  obtain⟨e,y⟩:=y
  subst e y
  exact hs i ys σ _ hlt p
 ·have e:i=n:=by lia
  subst e
  exact .inl ⟨Mt _,hd ys σ H p⟩
end
structure Bt (mg:Ou->Option Mh):Prop where
 len_:mg "len" = none
 range_:mg "range" = none
 all_:mg "all" = none
 isinstance_:mg "isinstance" = none
 int_:mg "int" = none
 bool_:mg "bool" = none
 str_:mg "str" = none
 list_:mg "list" = none
 tuple_:mg "tuple" = none
 abs_:mg "abs" = none
 max_:mg "max" = none
 min_:mg "min" = none
 sum_:mg "sum" = none
 sorted_:mg "sorted" = none
 zip_:mg "zip" = none
 reversed_:mg "reversed" = none
 divmod_:mg "divmod" = none
 set_:mg "set" = none
 any_:mg "any" = none
 enumerate_:mg "enumerate" = none
theorem dX:Oa "len" = some (.builtin "len"):=PySem.boot_len
theorem Dw:Oa "all" = some (.builtin "all"):=by decide+kernel
theorem bh:Oa "isinstance" = some (.builtin "isinstance"):=by decide+kernel
theorem zN:Oa "abs" = some (.builtin "abs"):=by decide+kernel
theorem yr:Oa "max" = some (.builtin "max"):=by decide+kernel
theorem Io:Oa "min" = some (.builtin "min"):=by decide+kernel
theorem Ji:Oa "sum" = some (.builtin "sum"):=by decide+kernel
theorem Dh:Oa "int" = some (.type "int"):=by decide+kernel
theorem xX:Oa "bool" = some (.type "bool"):=by decide+kernel
theorem Di:Oa "str" = some (.type "str"):=by decide+kernel
theorem rB:Oa "list" = some (.type "list"):=by decide+kernel
theorem dY:Oa "tuple" = some (.type "tuple"):=by decide+kernel
theorem mG (K:Nq) (T:String):Ri K (.type T) (.type T)=some true:=by
 unfold PySem.W.kitOne
 rw[if_pos (beq_self_eq_true _)]
theorem lG (K:Nq):Ri K (.type "int") (.type "bool")=some false:=by kernel_rfl
theorem kY (K:Nq):Ri K (.type "bool") (.type "int")=some true:=by kernel_rfl
theorem vP (K:Nq):Ri K (.type "int") (.type "str")=some false:=by kernel_rfl
theorem sI (K:Nq):Ri K (.type "bool") (.type "str")=some false:=by kernel_rfl
theorem qj (K:Nq):Ri K (.type "tuple") (.type "str")=some false:=by kernel_rfl
theorem tQ (K:Nq):Ri K (.type "list") (.type "str")=some false:=by kernel_rfl
theorem pR (K:Nq):Ri K (.type "tuple") (.type "int")=some false:=by kernel_rfl
theorem qZ (K:Nq):Ri K (.type "list") (.type "int")=some false:=by kernel_rfl
theorem iW (K:Nq):Ri K (.type "tuple") (.type "list")=some false:=by kernel_rfl
theorem jl (K:Nq):Ri K (.type "list") (.type "tuple")=some false:=by kernel_rfl
end L2
namespace L2
open PySem PySem.Spec PyProof.Rows
inductive Dm where
 | non | bl (b:Bool) | int (i:Int) | str (x:Ou) | tup (ds:List Dm) | lst (ds:List Dm)
mutual
def Dm.dep:Dm->Nat
 | .tup ds=>jP ds+1
 | .lst ds=>jP ds+1
 | _=>0
def jP:List Dm->Nat
 | []=>0
 | d::r=>max d.dep (jP r)
end
mutual
inductive Rep (H:Hp):V->Dm->Prop where
 | non:Rep H .non .non
 | bl (b:Bool):Rep H (.bl b) (.bl b)
 | int (i:Int):Rep H (.int i) (.int i)
 | str (x:Ou):Rep H (.str x) (.str x)
 | tup {a:Addr} {xs:List V} {ds:List Dm}:H a=some (.tup xs)->xs.length<=100000->mC H xs ds->Rep H (.ref a) (.tup ds)
 | lst {a:Addr} {xs:List V} {ds:List Dm}:H a=some (.lst xs)->xs.length<=100000->mC H xs ds->Rep H (.ref a) (.lst ds)
inductive mC (H:Hp):List V->List Dm->Prop where
 | nil:mC H [] []
 | cons {v:V} {d:Dm} {vs:List V} {ds:List Dm}:Rep H v d->mC H vs ds->mC H (v::vs) (d::ds)
end
mutual
theorem Rep.mono {H H':Hp} (e:aP H H'):∀ {v:V} {d:Dm},Rep H v d->Rep H' v d
 | _,_,.non=>.non
 | _,_,.bl b=>.bl b
 | _,_,.int i=>.int i
 | _,_,.str x=>.str x
 | _,_,.tup h l r=>.tup (e _ _ h) l (mC.mono e r)
 | _,_,.lst h l r=>.lst (e _ _ h) l (mC.mono e r)
theorem mC.mono {H H':Hp} (e:aP H H'):∀ {vs:List V} {ds:List Dm},mC H vs ds->mC H' vs ds
 | _,_,.nil=>.nil
 | _,_,.cons h r=>.cons (Rep.mono e h) (mC.mono e r)
end
theorem mC.length {H:Hp}:∀ {vs:List V} {ds:List Dm},mC H vs ds->vs.length=ds.length
 | _,_,.nil=>rfl
 | _,_,.cons _ r=>by rw[MK,MK,mC.length r]
theorem mC.get {H:Hp}:∀ {vs:List V} {ds:List Dm} {i:Nat},mC H vs ds->i < vs.length->∃ v d,vs[i]? = some v/\ds[i]? = some d/\Rep H v d
 | _,_,_,.nil,h=>absurd h (P0 _)
 | _,_,0,.cons h _,_=>⟨_,_,rfl,rfl,h⟩
 | _,_,i+1,.cons _ r,h=>by
  obtain⟨v,d,e1,e2,e3⟩:=mC.get (i:=i) r (Nat.lt_of_succ_lt_succ h)
  exact⟨v,d,by simpa using e1,by simpa using e2,e3⟩
theorem nY:∀ {ds:List Dm} {i:Nat} {d:Dm},ds[i]? = some d->d.dep<=jP ds
 | [],_,_,h=>by simp at h
 | d::r,0,_,h=>by
  cases (show some d=some _ from h)
  rw[jP]
  exact Nat.le_max_left _ _
 | d::r,i+1,_,h=>by
  rw[jP]
  exact Ob (nY (i:=i) (ds:=r) (by simpa using h)) (Nat.le_max_right _ _)
theorem gK {H:Hp}:∀ ns:List Int,mC H (ns.map V.int) (ns.map Dm.int)
 | []=>.nil
 | n::r=>.cons (.int n) (gK r)
section
variable {X:Cx}
def KQ (K:Nq):R2:=fun x y H Q=>∃ (a b:Addr) (xs:List V),x = .ref a/\y = .ref b/\SqL K H a xs/\SqL K H b []/\Q (.bl (!xs.isEmpty)) H
theorem Ip (hu:X.A.units < cLine):OpR X (Qg .NotEq) (KQ X.K):=by
 intro pins s σ H x y v u Q I rx ry h
 obtain⟨a,b,xs,rfl,rfl,ha,hb,q⟩:=h
 cases rx
 cases ry
 obtain⟨its,r1,p1,_⟩:=I.list ha
 obtain⟨its2,r2,p2,_⟩:=I.list hb
 cases r2
 cases r1 with
 | nil=>exact SeqAt.RcNeAt.lists (e:=fun _=>true) p1.isList p2.isList rfl hu (fun j h1 _=>absurd h1 (by simp)) X.prog X.w X.xe _ ⟨.bl false,H,I,rfl,q⟩
 | cons r t=>exact SeqAt.RcNeAt.lists_lengths p1.isList p2.isList (by simp) hu X.prog X.w X.xe _ ⟨.bl true,H,I,rfl,q⟩
end
end L2
namespace L2
open PySem PySem.Spec PyProof.Rows
section
variable {prog:M8} {w:NQ} {A:N8} {E:Mh->Mj->Prop} {s:Mj}
theorem gG {it t:Addr} {i:Nat} {its:Array Mh} {x:Mh} {Q:Mh->Mj->Prop} (j:s.heap.IsTupleIter it t i) (ht:s.heap.IsTuple t its) (hx:its[i]? = some x)
  (k:∀ h',h'.IsTupleIter it t (i+1)->Qs it s.heap h'->Q x { s with heap:=h' }):Mw (M6 prog w) A (M5 (.ref it)) Q E s:=by
 obtain⟨o,e1,c1,d1⟩:=id j; obtain⟨o2,e2,_,n2,d2⟩:=ht; unfold M5
 refine LR (Oj (name:=Qo "__next__") j.typeIs Q3 (Ox Q3 j.typeIs U8 ?_ (U6 _)))
 show Mw _ _ (S6 (.ref it) 0 >>= _) _ _ s; refine LR (Nh e1 d1 (x:=.ref t) rfl ?_)
 show Mw _ _ (if (NB t == Oc)=true then _ else _) _ _ s; rw[if_neg (show ¬ ((NB t == Oc)=true) from Mr)]
 show Mw _ _ (S6 (.ref it) 1 >>= _) _ _ s; refine LR (Nh e1 d1 (x:=.int i 0) rfl ?_)
 show Mw _ _ (Ux (.ref t) >>= _) _ _ s; refine LR (Nx e2 d2 ?_); simp only[PN,hx]
 refine LR (Su e1 d1 (by simp) (Mp ⟨x,rfl,Mp (k _ ?_ (Qw ..))⟩))
 exact⟨_,Py _ e1 (Obj.isFreed_of_fields (Obj.data_mapFields d1 _)),(Obj.cls_mapFields ..).trans c1,by rw[Obj.data_mapFields d1]; simp [QV]⟩
theorem uZ {it t:Addr} {i:Nat} {its:Array Mh} {Q:Mh->Mj->Prop} (hh:A.handled=none) (j:s.heap.IsTupleIter it t i) (ht:s.heap.IsTuple t its) (hx:its[i]? = none)
  (k:∀ h' e,Heap.ExtBut it s.heap h'->(∃ o,h'.get? e=some o/\o.cls = .type "StopIteration")->E (.ref e) { s with heap:=h' }):Mw (M6 prog w) A (M5 (.ref it)) Q E s:=by
 obtain⟨o,e1,c1,d1⟩:=id j; obtain⟨o2,e2,_,n2,d2⟩:=ht; unfold M5
 refine LR (Oj (name:=Qo "__next__") j.typeIs Q3 (Ox Q3 j.typeIs U8 ?_ (U6 _)))
 show Mw _ _ (S6 (.ref it) 0 >>= _) _ _ s; refine LR (Nh e1 d1 (x:=.ref t) rfl ?_)
 show Mw _ _ (if (NB t == Oc)=true then _ else _) _ _ s; rw[if_neg (show ¬ ((NB t == Oc)=true) from Mr)]
 show Mw _ _ (S6 (.ref it) 1 >>= _) _ _ s; refine LR (Nh e1 d1 (x:=.int i 0) rfl ?_)
 show Mw _ _ (Ux (.ref t) >>= _) _ _ s; refine LR (Nx e2 d2 ?_); simp only[PN,hx]
 refine LR (Rr (LR (Su e1 d1 (by simp) ?_))); show Mw _ _ (newExc (.type "StopIteration") [] >>= _) _ _ _
 refine LR ?_; simp only[newExc,newTuple]; refine LR (Qn ?_ (by size_fits))
 refine LR (m:=TJ _ _) (QS (a:=Oc) (by first | rfl | (simp only[TJ]; rfl)) ?_); refine Qn ?_ (by size_fits)
 simp only[raiseNew]; refine LR (wpAny_handled ?_); first | rw[show A.in1.handled=none from hh] | rw[hh]
 refine LR (Mp (wpAny_throw ?_)); exact k _ _ (((Qw ..).extBut.push _).push _) ⟨_,Mm _ rfl,rfl⟩
structure Zap (z p q i1 i2 l1 l2:Addr):Prop where
 pz:p≠z
 qz:q≠z
 az:i1≠z
 bz:i2≠z
 pq:p≠q
 pa:p≠i1
 pb:p≠i2
 qa:q≠i1
 qb:q≠i2
 ab:i1≠i2
 xz:l1≠z
 xq:l1≠q
 xa:l1≠i1
 xb:l1≠i2
 yz:l2≠z
 yq:l2≠q
 ya:l2≠i1
 yb:l2≠i2
theorem cI {h h':N5} {a t:Addr} {its:Array Mh} (ht:h.IsTuple t its) (sb:Qs a h h') (ne:t≠a):h'.IsTuple t its:=by
 obtain⟨o,e,r⟩:=ht
 exact⟨o,(sb.2 t ne).trans e,r⟩
theorem bf {h h':N5} {a it t:Addr} {i:Nat} (ht:h.IsTupleIter it t i) (sb:Qs a h h') (ne:it≠a):h'.IsTupleIter it t i:=by
 obtain⟨o,e,r⟩:=ht
 exact⟨o,(sb.2 it ne).trans e,r⟩
theorem Eb {z p q i1 i2 l1 l2:Addr} {k:Nat} {xs ys:Array Mh} {x y a b:Mh} {Q:Option Mh->Mj->Prop} (D:Zap z p q i1 i2 l1 l2)
  (hz:Pq s.heap z p q .none) (hp:O7 s.heap p (.ref i1) (.ref i2)) (hq:O7 s.heap q a b) (j1:s.heap.IsTupleIter i1 l1 k) (j2:s.heap.IsTupleIter i2 l2 k) (t1:s.heap.IsTuple l1 xs) (t2:s.heap.IsTuple l2 ys)
  (hx:xs[k]? = some x) (hy:ys[k]? = some y)
  (hQ:∀ h',Pq h' z p q (QV s.heap.objs.size)->O7 h' q x y->h'.IsTupleIter i1 l1 (k+1)->h'.IsTupleIter i2 l2 (k+1)->O7 h' s.heap.objs.size x y->h'.objs.size=s.heap.objs.size+1 →
   (∀ c o,c≠z->c≠q->c≠i1->c≠i2->s.heap.get? c=some o->h'.get? c=some o)->Q (some (.ref s.heap.objs.size)) { s with heap:=h' }):Mw (M6 prog w) A (Qx (.ref z)) Q E s:=by
 have hT:s.TypeIs (.ref z) "zip":=⟨_,hz,rfl⟩; unfold Qx
 refine LR (Qt (Oj (name:=Qo "__next__") hT O6 (Ox O6 hT Rb ?_ (QR _))))
 show Mw _ _ (S6 (.ref z) 2 >>= _) _ _ _; refine LR (Nh hz rfl (x:=.bool false) rfl ?_)
 show Mw _ _ (S6 (.ref z) 3 >>= _) _ _ _; refine LR (Nh hz rfl (x:=.ref p) rfl ?_); refine LR (Nx hp rfl ?_)
 show Mw _ _ (M3 (.ref z) >>= _) _ _ _; refine LR ?_; unfold M3
 refine LR (Nh hz rfl (x:=.none) rfl (Mp ?_)); simp only[if_true]; refine LR (Rr ?_); refine LR (Nh hz rfl (x:=.ref q) rfl ?_)
 refine LR (NK hz (by simp) fun h1 z1 b1=>?_); replace z1:Pq h1 z p q .ellipsis:=z1
 refine LR ?_; simp only[Q8,Rm,Qk,Qy]; refine LR (LR (Pk ?_))
 show Mw _ _ (M5 (.ref i1) >>= _) _ _ _; refine LR (gG (bf j1 b1 D.az) (cI t1 b1 D.xz) hx fun h2 u1 b2=>Mp ?_)
 have q2:O7 h2 q a b:=(b2.2 _ D.qa).trans ((b1.2 _ D.qz).trans hq); refine LR (Nx q2 rfl ?_); refine LR (Ql q2 fun h3 q3 b3=>?_)
 replace q3:O7 h3 q x b:=q3; refine LR (PK (Mp ?_)); refine LR (LR (Pk ?_))
 show Mw _ _ (M5 (.ref i2) >>= _) _ _ _
 refine LR (gG (bf (bf (bf j2 b1 D.bz) b2 D.ab.symm) b3 D.qb.symm) (cI (cI (cI t2 b1 D.yz) b2 D.ya) b3 D.yq) hy fun h4 u2 b4=>Mp ?_)
 have q4:O7 h4 q x b:=(b4.2 _ D.qb).trans q3; refine LR (Nx q4 rfl ?_); refine LR (Ql q4 fun h5 q5 b5=>?_)
 replace q5:O7 h5 q x y:=q5; refine LR (PK (Mp (Mp ?_))); refine LR (Nx q5 rfl ?_); refine LR (Tz ?_)
 have sz:h5.objs.size=s.heap.objs.size:=by rw[b5.1,b4.1,b3.1,b2.1,b1.1]
 have z5:Pq h5 z p q .ellipsis:=(b5.2 _ D.qz.symm).trans ((b4.2 _ D.bz.symm).trans ((b3.2 _ D.qz.symm).trans ((b2.2 _ D.az.symm).trans z1)))
 have kp:∀ c o,c≠z->c≠q->c≠i1->c≠i2->s.heap.get? c=some o->h5.get? c=some o:=fun c o c1 c2 c3 c4 e=>(b5.2 c c2).trans ((b4.2 c c4).trans ((b3.2 c c2).trans ((b2.2 c c3).trans ((b1.2 c c1).trans e))))
 have u15:h5.IsTupleIter i1 l1 (k+1):=bf (bf (bf u1 b3 D.qa.symm) b4 D.ab) b5 D.qa.symm
 have u25:h5.IsTupleIter i2 l2 (k+1):=bf u2 b5 D.qb.symm
 have zl:z < h5.objs.size:=Mx z5
 show Mw _ _ (Oq (.ref z) (.ref h5.objs.size) >>= _) _ _ _; refine LR ?_; unfold Oq
 have z6:Pq (h5.push { cls:=.type "tuple",data:=.seq #[x,y] }) z p q .ellipsis:=Ma _ z5
 refine LR (NK z6 (by simp) fun h7 z7 b7=>?_); replace z7:Pq h7 z p q (QV h5.objs.size):=z7
 refine NK z7 (by simp) fun h8 z8 b8=>?_; replace z8:Pq h8 z p q (QV h5.objs.size):=z8
 have up:∀ c o,c≠z->h5.get? c=some o->h8.get? c=some o:=fun c o c1 e=>(b8.2 c c1).trans ((b7.2 c c1).trans (Ma _ e))
 have t8:O7 h8 h5.objs.size x y:=(b8.2 _ (Pb zl)).trans ((b7.2 _ (Pb zl)).trans (Mm _ rfl))
 have s8:h8.objs.size=h5.objs.size+1:=by rw[b8.1,b7.1,N7]
 rw[sz] at z8 t8 s8; refine Mp ⟨_,rfl,?_⟩
 show Mw _ _ _ _ _ _
 rw[sz]
 exact Mp (hQ h8 z8 (up _ _ D.qz q5) (by obtain⟨o,e,r⟩:=u15; exact⟨o,up _ o D.az e,r⟩) (by obtain⟨o,e,r⟩:=u25; exact⟨o,up _ o D.bz e,r⟩) t8 s8 fun c o c1 c2 c3 c4 e=>up c o c1 (kp c o c1 c2 c3 c4 e))
theorem GX {z p q i1 i2 l1 l2:Addr} {k:Nat} {xs ys:Array Mh} {a b:Mh} {Q:Fin->Mj->Prop} (hh:A.handled=none) (D:Zap z p q i1 i2 l1 l2)
  (hz:Pq s.heap z p q .none) (hp:O7 s.heap p (.ref i1) (.ref i2)) (hq:O7 s.heap q a b) (j1:s.heap.IsTupleIter i1 l1 k) (j2:s.heap.IsTupleIter i2 l2 k) (t1:s.heap.IsTuple l1 xs) (t2:s.heap.IsTuple l2 ys)
  (hend:xs[k]? = none∨ys[k]? = none) (hE:∀ h' e,(∀ c o,c≠z->c≠q->c≠i1->c≠i2->s.heap.get? c=some o->h'.get? c=some o)->(∃ o,h'.get? e=some o/\o.cls = .type "StopIteration")->E (.ref e) { s with heap:=h' }) :
  Mw (M6 prog w) A (Qf.«zip.__next__» ⟨[.ref z],[]⟩) Q E s:=by
 show Mw _ _ (S6 (.ref z) 2 >>= _) _ _ _; refine LR (Nh hz rfl (x:=.bool false) rfl ?_)
 show Mw _ _ (S6 (.ref z) 3 >>= _) _ _ _; refine LR (Nh hz rfl (x:=.ref p) rfl ?_); refine LR (Nx hp rfl ?_)
 show Mw _ _ (M3 (.ref z) >>= _) _ _ _; refine LR ?_; unfold M3
 refine LR (Nh hz rfl (x:=.none) rfl (Mp ?_)); simp only[if_true]; refine LR (Rr ?_); refine LR (Nh hz rfl (x:=.ref q) rfl ?_)
 refine LR (NK hz (by simp) fun h1 z1 b1=>?_); replace z1:Pq h1 z p q .ellipsis:=z1
 refine LR ?_; simp only[Q8,Rm,Qk,Qy]; refine LR (LR (Pk ?_))
 show Mw _ _ (M5 (.ref i1) >>= _) _ _ _
 cases hx:xs[k]? with
 | none =>
  refine LR (uZ hh (bf j1 b1 D.az) (cI t1 b1 D.xz) hx fun h2 e b2 he=>?_)
  obtain⟨oe,ho,hc⟩:=he
  have z2:Pq h2 z p q .ellipsis:=b2 _ _ D.az.symm z1
  have ez:e≠z:=fun u=>by subst u; rw[z2] at ho; cases ho; simp at hc
  exact NK z2 (by simp) fun h3 _ b3=>hE h3 e (fun c o c1 _ c3 _ u=>(b3.2 c c1).trans (b2 _ _ c3 ((b1.2 c c1).trans u))) ⟨oe,(b3.2 e ez).trans ho,hc⟩
 | some x =>
  have hy:ys[k]? = none:=hend.elim (fun u=>by rw[hx] at u; cases u) id
  refine LR (gG (bf j1 b1 D.az) (cI t1 b1 D.xz) hx fun h2 u1 b2=>Mp ?_)
  have q2:O7 h2 q a b:=(b2.2 _ D.qa).trans ((b1.2 _ D.qz).trans hq); refine LR (Nx q2 rfl ?_); refine LR (Ql q2 fun h3 q3 b3=>?_)
  refine LR (PK (Mp ?_)); refine LR (LR (Pk ?_)); show Mw _ _ (M5 (.ref i2) >>= _) _ _ _
  refine LR (uZ hh (bf (bf (bf j2 b1 D.bz) b2 D.ab.symm) b3 D.qb.symm) (cI (cI (cI t2 b1 D.yz) b2 D.ya) b3 D.yq) hy fun h4 e b4 he=>?_)
  obtain⟨oe,ho,hc⟩:=he
  have z4:Pq h4 z p q .ellipsis:=b4 _ _ D.bz.symm ((b3.2 _ D.qz.symm).trans ((b2.2 _ D.az.symm).trans z1))
  have ez:e≠z:=fun u=>by subst u; rw[z4] at ho; cases ho; simp at hc
  exact NK z4 (by simp) fun h5 _ b5=>hE h5 e (fun c o c1 c2 c3 c4 u=>(b5.2 c c1).trans (b4 _ _ c4 ((b3.2 c c2).trans ((b2.2 c c3).trans ((b1.2 c c1).trans u))))) ⟨oe,(b5.2 e ez).trans ho,hc⟩
theorem Jv {z p q i1 i2 l1 l2:Addr} {k:Nat} {xs ys:Array Mh} {a b:Mh} {Q:Option Mh->Mj->Prop} (hh:A.handled=none) (D:Zap z p q i1 i2 l1 l2)
  (hz:Pq s.heap z p q .none) (hp:O7 s.heap p (.ref i1) (.ref i2)) (hq:O7 s.heap q a b) (j1:s.heap.IsTupleIter i1 l1 k) (j2:s.heap.IsTupleIter i2 l2 k) (t1:s.heap.IsTuple l1 xs) (t2:s.heap.IsTuple l2 ys)
  (hend:xs[k]? = none∨ys[k]? = none) (hQ:∀ h',(∀ c o,c≠z->c≠q->c≠i1->c≠i2->s.heap.get? c=some o->h'.get? c=some o)->Q none { s with heap:=h' }):Mw (M6 prog w) A (Qx (.ref z)) Q E s:=by
 have hT:s.TypeIs (.ref z) "zip":=⟨_,hz,rfl⟩; unfold Qx
 refine LR (Qt (Oj (name:=Qo "__next__") hT O6 (Ox O6 hT Rb (GX hh D hz hp hq j1 j2 t1 t2 hend fun h' e kp he=>?_) (QR _))))
 obtain⟨o,ho,hc⟩:=he
 exact LR (RK (T:="StopIteration") (b:=true) ⟨o,ho,hc⟩ TF (Mp (hQ _ kp)))
abbrev zA (h:N5) (t:Addr):N5:=h.push { cls:=.type "tuple_iterator",data:=.fields #[.ref t,.int 0 0] }
abbrev zC (h:N5) (t u:Addr):N5:=(zA (zA h t) u).push { cls:=.type "tuple",data:=.seq #[.ref h.objs.size,.ref (zA h t).objs.size] }
abbrev zD (h:N5) (t u:Addr):N5:=(zC h t u).push { cls:=.type "tuple",data:=.seq #[.none,.none] }
abbrev zE (h:N5) (t u:Addr):N5:=(zD h t u).push { cls:=.type "zip",data:=.fields #[.none,.bool false,.bool false,.ref (zA (zA h t) u).objs.size,.ref (zC h t u).objs.size] }
theorem Jr (l1 l2:Addr) (xs ys:Array Mh) :
  UT (Qf.«zip.__new__» ⟨[.type "zip",.ref l1,.ref l2],[]⟩) (fun _ R s=>s.heap.IsTuple l1 xs/\s.heap.IsTuple l2 ys/\R (.ok (.ret (.ref (zD s.heap l1 l2).objs.size))) { s with heap:=zE s.heap l1 l2 }) :=
 .of_wp fun prog w A R s h=>by
  obtain⟨hp,g,d,tk,os⟩:=s; obtain⟨a1,a2,h⟩:=h; have hsub:=sub_zip
  have T1:Sh (Rv ⟨hp,g,d,tk,os⟩) l1 xs:=a1
  have T2:Sh (Rv ⟨hp.push { cls:=.type "tuple_iterator",data:=.fields #[.ref l1,.int 0 0] },g,d,tk,os⟩) l2 ys:=by
   obtain⟨o,e,r⟩:=a2
   exact⟨o,Ma _ e,r⟩
  wp_walk using PB T1,PB T2
  exact⟨_,rfl,h⟩
theorem GR {l1 l2:Addr} {xs ys:Array Mh} {Q:Mh->Mj->Prop} (t1:s.heap.IsTuple l1 xs) (t2:s.heap.IsTuple l2 ys)
  (h:∀ h',Pq h' (s.heap.objs.size+4) (s.heap.objs.size+2) (s.heap.objs.size+3) .none->O7 h' (s.heap.objs.size+2) (.ref s.heap.objs.size) (.ref (s.heap.objs.size+1))->O7 h' (s.heap.objs.size+3) .none .none →
   h'.IsTupleIter s.heap.objs.size l1 0->h'.IsTupleIter (s.heap.objs.size+1) l2 0->(∀ c o,s.heap.get? c=some o->h'.get? c=some o)->Q (.ref (s.heap.objs.size+4)) { s with heap:=h' }) :
  Mw (M6 prog w) A (call (.type "zip") [.ref l1,.ref l2]) Q E s:=by
 refine S9 F.called_zip (by decide) (F.typeCall_zip_2 _ _) (F.newCall_zip_2 _ _) (fun obj=>F.args_object_init_3 obj _ _) U5 (Jr l1 l2 xs ys) ⟨t1,t2,?_⟩
 have y1:(zA s.heap l1).objs.size=s.heap.objs.size+1:=N7 ..
 have y2:(zA (zA s.heap l1) l2).objs.size=s.heap.objs.size+2:=by rw[N7,y1]
 have y3:(zC s.heap l1 l2).objs.size=s.heap.objs.size+3:=by rw[N7,y2]
 have y4:(zD s.heap l1 l2).objs.size=s.heap.objs.size+4:=by rw[N7,y3]
 have w5:(zE s.heap l1 l2).get? (zD s.heap l1 l2).objs.size=some _:=Mm _ rfl
 have w4:(zE s.heap l1 l2).get? (zC s.heap l1 l2).objs.size=some _:=Ma _ (Mm _ rfl)
 have w3:(zE s.heap l1 l2).get? (zA (zA s.heap l1) l2).objs.size=some _:=Ma _ (Ma _ (Mm _ rfl))
 have w2:(zE s.heap l1 l2).get? (zA s.heap l1).objs.size=some _:=Ma _ (Ma _ (Ma _ (Mm _ rfl)))
 have w1:(zE s.heap l1 l2).get? s.heap.objs.size=some _:=Ma _ (Ma _ (Ma _ (Ma _ (Mm _ rfl))))
 show _/\_
 rw[y2,y3,y4] at w5; rw[y1,y2] at w3; rw[y3] at w4; rw[y1] at w2; rw[y4]
 exact⟨⟨_,w5,rfl⟩,h _ w5 w3 w4 ⟨_,w1,rfl,rfl⟩ ⟨_,w2,rfl,rfl⟩ fun c o u=>Ma _ (Ma _ (Ma _ (Ma _ (Ma _ u))))⟩
end
theorem Inv.gH {X:Cx} {pins:List (Addr × Qv)} {σ:St} {H:Hp} {s:Mj} {h':N5} {t':Nat} {ch:List Addr} (I:Inv X pins σ H s) (k:∀ b o,b ∉ ch->s.heap.get? b=some o->h'.get? b=some o) (hf:∀ b∈ch,rF X pins H b) :
  Inv X pins σ H { s with heap:=h',toks:=t' }:=by
 have nit:∀ b u,H b=some u->b ∉ ch:=fun b u e z=>by
  have:=(hf b z).1
  rw[this] at e; cases e
 refine I.step (g':=s.gens) (d':=s.drawn) (ch:=ch) (fun b hb=>let ⟨_,f1,_,f3,f4,f5⟩:=hf b hb; ⟨f3,f1,f4,f5⟩) (fun b o _ _ hc e _=>k b o hc e) (fun b o _ _ hc e _=>⟨o.slots,k b o hc e⟩) (fun _ _ _ _ n=>n)
  (fun b o hc e=>⟨o,k b o hc e⟩) (fun _ _ e=>e) (fun _ _ _ e=>e) (fun b ps e=>⟨#[],by rw[e]; simp⟩) (fun m hm=>?_) (fun b u e=>?_) I.bare
 ·obtain⟨o,es,ep,ho,r⟩:=hm
  exact⟨o,es,ep,k _ o (fun z=>(hf _ z).2.1 rfl) ho,r⟩
 ·refine (I.hok b u e).stay (fun c v hc q=>k c v ?_ q) (fun _ q=>q) fun _ _ q=>q
  rcases hc with z | z
  ·rw[z]; exact nit b u e
  ·exact nit c _ z
def Itz (K : Nq) (a b : Addr) : It :=
  ⟨fun i H => ∃ xs ys x y, SqT K H a xs ∧ SqT K H b ys ∧ xs[i]? = some x ∧ ys[i]? = some y,
   fun i H v H' => ∃ p x y, H p = none ∧ v = .ref p ∧ (∀ xs, SqT K H a xs → xs[i]? = some x) ∧ (∀ ys, SqT K H b ys → ys[i]? = some y) ∧ H' = upd H p (.tup [x, y]),
   fun i H => ∃ xs ys, SqT K H a xs ∧ SqT K H b ys ∧ (xs.length ≤ i ∨ ys.length ≤ i)⟩
def tnZ (z p q i1 i2 a b:Addr) (i:Nat) (h:N5):Prop:=Pq h z p q .none/\O7 h p (.ref i1) (.ref i2)/\(∃ u v,O7 h q u v)/\h.IsTupleIter i1 a i/\h.IsTupleIter i2 b i
theorem Ay {P:M8} {w:NQ} {K:Nq} {elts:List Expr} {x1} {pos:R8} {z p q i1 i2 a b:Addr} (D:Zap z p q i1 i2 a b) :
  Turn P w K (.Tuple elts x1 pos) (Itz K a b) [z,p,q,i1,i2] z (tnZ z p q i1 i2 a b) where
 mem:=by simp
 obj:=fun i h st c hc=>by
  obtain⟨hz,hp,⟨u,v,hq⟩,⟨o1,e1,_,d1⟩,⟨o2,e2,_,d2⟩⟩:=st
  simp only[Og,Om,or_false] at hc
  rcases hc with rfl | rfl | rfl | rfl | rfl
  ·exact⟨_,hz,fun v z=>by cases z⟩
  ·exact⟨_,hp,fun v z=>by cases z⟩
  ·exact⟨_,hq,fun v z=>by cases z⟩
  ·exact⟨_,e1,fun v z=>by rw[d1] at z; cases z⟩
  ·exact⟨_,e2,fun v z=>by rw[d2] at z; cases z⟩
 keep:=fun i h h' st k=>by
  obtain⟨hz,hp,⟨u,v,hq⟩,⟨o1,e1,r1⟩,⟨o2,e2,r2⟩⟩:=st
  exact⟨k z (by simp) _ hz,k p (by simp) _ hp,⟨u,v,k q (by simp) _ hq⟩,⟨o1,k i1 (by simp) _ e1,r1⟩,⟨o2,k i2 (by simp) _ e2,r2⟩⟩
 item:=by
  intro X hP hw hK hc i pins s σ H E I hf st hg
  subst hP hw hK
  obtain⟨xs,ys,x,y,hx,hy,ex,ey⟩:=hg
  obtain⟨hz,hp,⟨u,v,hq⟩,j1,j2⟩:=st
  obtain⟨its,rv,tp,_⟩:=I.tuple hx
  obtain⟨its2,rv2,tp2,_⟩:=I.tuple hy
  obtain⟨xu,hxu,rx⟩:=rv.get ex
  obtain⟨yu,hyu,ry⟩:=rv2.get ey
  refine Eb D hz hp hq j1 j2 (show s.heap.IsTuple a its.toArray from tp) (show s.heap.IsTuple b its2.toArray from tp2) (x:=xu) (y:=yu) (by simpa using hxu) (by simpa using hyu) fun h' z' q' u1 u2 t' _ kp=>⟨_,rfl,?_⟩
  refine SX z' fun h2 z2 b2=>?_
  have lt:∀ {c o},s.heap.get? c=some o->c < s.heap.objs.size:=fun e=>Mx e
  have zne:s.heap.objs.size≠z:=Pb (lt hz)
  have hfr:H s.heap.objs.size=none:=I.fresh
  have I1:Inv X pins σ (upd H s.heap.objs.size (.tup [x,y])) { s with heap:=s.heap.push { cls:=.type "tuple",data:=.seq #[xu,yu] } } :=
   I.laid (t':=s.toks) (fun _ _ e=>Ma _ e) (Mt _) ⟨by show 2<=sizeLine; decide,[xu,yu],.cons rx (.cons ry .nil),⟨_,Mm _ rfl,rfl,_,rfl⟩⟩
  have blt:∀ c∈[z,p,q,i1,i2],c < s.heap.objs.size:=fun c hc=>by
   obtain⟨_,e1,_⟩:=j1
   obtain⟨_,e2,_⟩:=j2
   simp only[Og,Om,or_false] at hc
   rcases hc with rfl | rfl | rfl | rfl | rfl
   ·exact lt hz
   ·exact lt hp
   ·exact lt hq
   ·exact lt e1
   ·exact lt e2
  have ff:∀ c∈[z,p,q,i1,i2],rF X pins (upd H s.heap.objs.size (.tup [x,y])) c:=fun c hc=>by
   obtain⟨f0,fr⟩:=hf c hc
   exact⟨by rw[aL (Nb (blt c hc))]; exact f0,fr⟩
  have kk:∀ c o,c ∉ [z,q,i1,i2]->(s.heap.push { cls:=.type "tuple",data:=.seq #[xu,yu] }).get? c=some o->h2.get? c=some o:=fun c o hc e=>by
   have c1:c≠z:=fun h=>hc (by simp [h])
   refine (b2.2 c c1).trans ?_
   rcases R5 e with⟨ec,eo⟩ | e'
   ·subst ec
    subst eo
    exact t'
   ·exact kp c o c1 (fun h=>hc (by simp [h])) (fun h=>hc (by simp [h])) (fun h=>hc (by simp [h])) e'
  have I2:Inv X pins σ (upd H s.heap.objs.size (.tup [x,y])) { s with heap:=h2 } :=
   Inv.gH (s:={ s with heap:=s.heap.push { cls:=.type "tuple",data:=.seq #[xu,yu] } }) (h':=h2) (t':=s.toks) (ch:=[z,q,i1,i2]) I1 kk fun c hc=>ff c (by
    simp only[Og] at hc ⊢
    rcases hc with h | h | h | h
    ·exact .inl h
    ·exact .inr (.inr (.inl h))
    ·exact .inr (.inr (.inr (.inl h)))
    ·exact .inr (.inr (.inr (.inr h))))
  refine⟨.ref s.heap.objs.size,_,I2,rfl,⟨_,x,y,hfr,rfl,fun zs hzs=>?_,fun zs hzs=>?_,rfl⟩,⟨z2,(b2.2 _ D.pz).trans (kp _ _ D.pz D.pq D.pa D.pb hp),⟨_,_,(b2.2 _ D.qz).trans q'⟩,bf u1 b2 D.az,bf u2 b2 D.bz⟩,fun c hc=>(ff c hc).1⟩
  ·rw[I.dG hzs hx]; exact ex
  ·rw[I.dG hzs hy]; exact ey
 done:=by
  intro X hP hw hK hc i pins s σ H E I hf st hg
  subst hP hw hK
  obtain⟨xs,ys,hx,hy,hend⟩:=hg
  obtain⟨hz,hp,⟨u,v,hq⟩,j1,j2⟩:=st
  obtain⟨its,rv,tp,_⟩:=I.tuple hx
  obtain⟨its2,rv2,tp2,_⟩:=I.tuple hy
  have l1:=rv.length
  have l2:=rv2.length
  refine Jv (I.ok.hd hc) D hz hp hq j1 j2 (show s.heap.IsTuple a its.toArray from tp) (show s.heap.IsTuple b its2.toArray from tp2) (hend.imp (fun h=>by simp; lia) fun h=>by simp; lia) fun h' kp=>⟨rfl,?_⟩
  exact I.gH (t':=s.toks) (ch:=[z,q,i1,i2]) (fun c o hc e=>kp c o (fun h=>hc (by simp [h])) (fun h=>hc (by simp [h])) (fun h=>hc (by simp [h])) (fun h=>hc (by simp [h])) e)
   fun c hc=>hf c (by simp only[Og] at hc ⊢; rcases hc with h | h | h | h; exact .inl h; exact .inr (.inr (.inl h)); exact .inr (.inr (.inr (.inl h))); exact .inr (.inr (.inr (.inr h))))
 self:=fun _ _ _ _ _ st h=>Q5 st.1 h
theorem yK {n c d:Nat} (hc:c < n) (hd:d < n):Zap (n+4) (n+2) (n+3) n (n+1) c d:=by
 constructor <;> (refine (fun (h:¬ @Eq Nat _ _)=>h) ?_) <;> lia
def Ls (K:Nq) (ta:TA):TI:=fun σ H R=>ta σ H fun vs H1=>∃ a b xs ys,vs=[.ref a,.ref b]/\SqT K H1 a xs/\SqT K H1 b ys/\R (Itz K a b) H1
theorem Iz {X:Cx} {elts:List Expr} {x1} {tpos:R8} {a b:Expr} {ta:TA} {p pos:R8} (hg:Gl X "zip") (hm:X.mg "zip" = none) (ha:PA X [a,b] ta) (hs:Nm [a,b] X.env=[(false,Qd a X.env),(false,Qd b X.env)]:=by rfl) (hs2:Nm [b] X.env=[(false,Qd b X.env)]:=by rfl) :
  PI X (.Tuple elts x1 tpos) (.Call (.Name "zip" p) [a,b] [] pos) (Ls X.K ta):=by
 intro pins s σ H R I h
 refine Call_ (gm I hg hm boot_zip (Oe (thn (ha pos pins s σ H _ I h) fun us s1 ⟨vs,H1,I1,r1,q1⟩=>?_) (by rw[hs,hs2]) (by rw[hs2]; rfl)))
 obtain⟨c,d,xs,ys,e,hx,hy,q⟩:=q1
 subst e
 obtain⟨u1,u2,rfl,ru1,ru2⟩:=vals2 r1
 cases ru1
 cases ru2
 obtain⟨its,_,tp,_⟩:=I1.tuple hx
 obtain⟨its2,_,tp2,_⟩:=I1.tuple hy
 refine GR (show s1.heap.IsTuple c its.toArray from tp) (show s1.heap.IsTuple d its2.toArray from tp2) fun h' z' p' q' j1 j2 kp=>?_
 have lc:c < s1.heap.objs.size:=by obtain⟨o,e,_⟩:=tp; exact Mx e
 have ld:d < s1.heap.objs.size:=by obtain⟨o,e,_⟩:=tp2; exact Mx e
 have D:Zap (s1.heap.objs.size+4) (s1.heap.objs.size+2) (s1.heap.objs.size+3) s1.heap.objs.size (s1.heap.objs.size+1) c d:=yK lc ld
 refine Q5 z' ⟨_,_,_,_,H1,rfl,I1.kept (t':=s1.toks) kp,Ay D,⟨z',p',⟨_,_,q'⟩,j1,j2⟩,fun e he=>?_,q⟩
 have hle:s1.heap.objs.size<=e:=by
  simp only[Og,Om,or_false] at he
  rcases he with rfl | rfl | rfl | rfl | rfl <;> lia
 exact I1.Ak hle (I1.hok.fresh hle)
theorem Gd {K:Nq} {a b:Addr} {xs ys:List V} {g:TG} {tb:TS} {D:Ends} {σ:St} {H:Hp} (hlen:xs.length=ys.length) (Pv:Nat->St->Hp->Prop) (h0:Pv 0 σ H) (hl:∀ i σ H,i<=xs.length->Pv i σ H->SqT K H a xs/\SqT K H b ys)
  (hs:∀ i x y p σ H,xs[i]? = some x->ys[i]? = some y->H p=none->Pv i σ H->g (.ref p) σ (upd H p (.tup [x,y])) fun σ2 H2=>tb { D with nx:=Pv (i+1),ct:=Pv (i+1),bk:=D.nx } σ2 H2) (hd:∀ σ H,Pv xs.length σ H->D.nx σ H) :
  ∃ W:Nat->Nat->St->Hp->Prop,(∃ m,W 0 m σ H)/\∀ i m σ H,W i m σ H →
   ((Itz K a b).stop i H/\D.nx σ H)∨((Itz K a b).go i H/\∃ N:St->Hp->Prop,(∀ σ' H',N σ' H'->∃ m',m' < m/\W (i+1) m' σ' H')/\∀ x H',(Itz K a b).yld i H x H'->g x σ H' fun σ2 H2=>tb { D with nx:=N,ct:=N,bk:=D.nx } σ2 H2):=by
 refine⟨fun i m σ H=>m=xs.length - i/\i<=xs.length/\Pv i σ H,⟨xs.length,by simp,NP _,h0⟩,?_⟩
 rintro i m σ H ⟨rfl,hi,p⟩
 obtain⟨q1,q2⟩:=hl i σ H hi p
 by_cases hlt:i < xs.length
 ·have hlt2:i < ys.length:=by lia
  refine .inr ⟨⟨xs,ys,xs[i],ys[i],q1,q2,by simp [hlt],by simp [hlt2]⟩,Pv (i+1),fun σ' H' p'=>⟨xs.length - (i+1),by lia,rfl,hlt,p'⟩,fun v H' y=>?_⟩
  obtain⟨pp,x,y,hp,rfl,hx,hy,rfl⟩:=y
  exact hs i x y pp σ _ (hx xs q1) (hy ys q2) hp p
 ·have e:i=xs.length:=by lia
  subst e
  exact .inl ⟨⟨xs,ys,q1,q2,.inl (Mt _)⟩,hd σ H p⟩
end L2
namespace L2
open PySem PySem.Spec PyProof.Rows
theorem jh:∀ ns ms:List Int,((Ms (min ns.length ms.length)).all (fun j=>ns.getD j 0 == ms.getD j 0) && ns.length == ms.length)=decide (ns=ms)
 | [],[]=>rfl
 | [],m::ms=>by rw[decide_eq_false (by simp)]; rfl
 | n::ns,[]=>by rw[decide_eq_false (by simp)]; rfl
 | n::ns,m::ms=>by
  have ih:=jh ns ms
  have e:min (n::ns).length (m::ms).length=min ns.length ms.length+1:=by rw[MK,MK]; lia
  have el:((n::ns).length == (m::ms).length)=(ns.length == ms.length):=by simp
  have e3:decide (n::ns=m::ms)=(n == m && decide (ns=ms)):=by
   by_cases h1:n=m
   ·subst h1
    by_cases h2:ns=ms
    ·subst h2; simp
    ·simp [h2]
   ·simp [h1]
  rw[e,List.range_succ_eq_map,RV,List.all_map,el,e3,← ih,Bool.and_assoc]
  rfl
theorem d8 {X:Cx} {pos:R8} {K:Nq} {es:List Expr} {k:Nat} {t:TGs} (n:Nat) (hK:X.K=K) (hc:X.calm=true) (h:PGs X es t)
  (hn:(RL es X.env).length=n:=by rfl) (hst:(RL es X.env).findIdx? (·.1)=none:=by rfl):PG X (.Tuple es k pos) (K3 K n t):=by
 subst hK
 exact Je hc h hn hst
section
variable {X:Cx}
def FP (K:Nq):R2:=fun x y H Q=>∃ (a b:Addr) (ns ms:List Int),x = .ref a/\y = .ref b/\SqT K H a (ns.map V.int)/\SqT K H b (ms.map V.int)/\Q (.bl (decide (ns=ms))) H
theorem ints_get {ns:List Int} {its:List Mh} (i:Ow its ns) {j:Nat} (h:j < its.length):∃ t,its[j] = .int (ns.getD j 0) t:=by
 induction i generalizing j with
 | nil=>exact absurd h (P0 _)
 | cons n t r ih =>
  cases j with
  | zero=>exact⟨t,rfl⟩
  | succ j =>
   obtain⟨u,e⟩:=ih (j:=j) (Nat.lt_of_succ_lt_succ h)
   exact⟨u,by simpa using e⟩
theorem zB (hu:X.A.units < cLine):OpR X (Qg .Eq) (FP X.K):=by
 intro pins s σ H x y v u Q I rx ry h
 obtain⟨a,b,ns,ms,rfl,rfl,ha,hb,q⟩:=h
 cases rx
 cases ry
 obtain⟨its,r1,p1,_⟩:=I.tuple ha
 obtain⟨its2,r2,p2,_⟩:=I.tuple hb
 have i1:Ow its ns:=intsAre_of r1
 have i2:Ow its2 ms:=intsAre_of r2
 have l1:=i1.length
 have l2:=i2.length
 refine SeqAt.eq_tupleAt (e:=fun j=>ns.getD j 0 == ms.getD j 0) (show s.heap.IsTuple a its.toArray from p1) (show s.heap.IsTuple b its2.toArray from p2) hu (fun j h1 h2=>?_) ?_
 ·obtain⟨t,e1⟩:=ints_get i1 (j:=j) (by simpa using h1)
  obtain⟨t',e2⟩:=ints_get i2 (j:=j) (by simpa using h2)
  rw[Qq,Qq,e1,e2]
  exact Sx _ _ _ _
 ·refine⟨.bl _,H,I,?_,q⟩
  have e:=jh ns ms
  have s1:its.toArray.size=ns.length:=by rw[Mq]; exact l1
  have s2:its2.toArray.size=ms.length:=by rw[Mq]; exact l2
  rw[s1,s2,e]
  rfl
end
end L2
namespace L2
open PySem PySem.Spec PyProof.Rows
theorem wk (l:Addr) (items:Array Mh) (n:Nat) (dd:Option Addr) (sl:Array (Option Mh)) (x:Int) (u:Tok) (h1:1 < x) (h2:x < 2 ^ 31) (he:items.isEmpty=false) (hz:items.size * x.toNat<=sizeLine) :
  UT (Qf.«tuple.__mul__» ⟨[.ref l,.int x u],[]⟩) (fun _ R s=>s.heap.get? l=some { cls:=.type "tuple",dict:=dd,data:=.seq items n,slots:=sl }/\R (.ok (.ret (NB s.heap.objs.size))) { s with heap:=s.heap.push { cls:=Value.type "tuple",data:=Data.seq (Tf (fun x1 x2=>x1++x2) #[] (Mz x.toNat items)) },toks:=s.toks }) :=
 .of_wp fun prog w A R s h=>by
  obtain⟨hp,g,d,tk,os⟩:=s
  obtain⟨hl,h⟩:=h
  have f1:=AutoSeq1.idx_int
  have c1:(decide (x < -(2 ^ 63)) || decide (x ≥ 2 ^ 63))=false:=by
   rw[decide_eq_false (by lia),decide_eq_false (by lia)]
   rfl
  have c2:(items.isEmpty || x == 1)=false:=by
   rw[he,beq_false_of_ne (by lia)]
   rfl
  have c3:(decide (x<=0) || items.isEmpty)=false:=by
   rw[he,decide_eq_false (by lia)]
   rfl
  have ez:((items.size * x.toNat:Nat):Int)=(items.size:Int) * x:=by
   rw[Int.natCast_mul,Int.toNat_of_nonneg (by lia)]
  have c4:¬ (items.size:Int) * x > (2 ^ 63 - 1) / 8:=by
   have:(sizeLine:Nat)<=(2 ^ 63 - 1) / 8:=by decide
   lia
  have c5:Builtin.Tuple.tupleTooMany ((items.size:Int) * x)=false:=by
   unfold Builtin.Tuple.tupleTooMany
   rw[decide_eq_false]
   lia
  have c6:¬ (Tf (fun x1 x2=>x1++x2) #[] (Mz x.toNat items)).size > sizeLine:=by
   have e:=foldl_rep items.toList x.toNat []
   rw[U3,Array.toArray_toList] at e
   rw[e,Mq,len_rep,Nr,Nat.mul_comm]
   lia
  wp_walk using Ny hl
  refine Tn (decide_eq_false (by rw[c1]; exact Mr)) ?_
  wp_walk using Ny hl
  refine Tn (decide_eq_false (by rw[c2]; exact Mr)) ?_
  wp_walk using Ny hl
  refine Tn (decide_eq_false (by rw[c3]; exact Mr)) ?_
  wp_walk using Ny hl
  refine Tn (decide_eq_false c4) ?_
  wp_walk using Ny hl
  exact⟨_,rfl,h⟩
theorem vD (l:Addr) (items:Array Mh) (n:Nat) (dd:Option Addr) (sl:Array (Option Mh)) (u:Tok) :
  UT (Qf.«tuple.__mul__» ⟨[.ref l,.int 1 u],[]⟩) (fun _ R s=>s.heap.get? l=some { cls:=.type "tuple",dict:=dd,data:=.seq items n,slots:=sl }/\R (.ok (.ret (NB l))) s) :=
 .of_wp fun prog w A R s h=>by
  obtain⟨hp,g,d,tk,os⟩:=s
  obtain⟨hl,h⟩:=h
  have f1:=AutoSeq1.idx_int
  have c2:(items.isEmpty || (1:Int) == 1)=true:=by rw[show ((1:Int) == 1)=true from rfl,Tg]
  wp_walk using Ny hl
  exact⟨_,rfl,h⟩
theorem gn:fillsNumberSlot (.type "tuple") "mul" = pure false :=
 PySem.fillsNumberSlot_seq (id:="tuple.__mul__") (r:=some (.builtin "tuple.__rmul__")) F.slot_tuple_mul.lookup (by decide+kernel) F.slot_tuple_rmul.lookup (by decide+kernel)
theorem jM:seqRepeat? (.type "tuple")=pure (some (.builtin "tuple.__mul__")):=by
 unfold seqRepeat?
 rw[PySem.seqSlot_of (T:="tuple") (name:="__mul__") (id:="tuple.__mul__") F.slot_tuple_mul.lookup (by decide+kernel),PySem.seqSlot_of (T:="tuple") (name:="__rmul__") (id:="tuple.__rmul__") F.slot_tuple_rmul.lookup (by decide+kernel)]
 rfl
theorem ir (a:Int) (t:Tok) (l:Addr) (items:Array Mh) (n:Nat) (dd:Option Addr) (sl:Array (Option Mh)) :
  UT (Qf.«int.__rmul__» ⟨[.int a t,.ref l],[]⟩) (fun _ R s=>s.heap.get? l=some { cls:=.type "tuple",dict:=dd,data:=.seq items n,slots:=sl }/\R (.ok (.ret Value.notImplemented)) s) :=
 .of_wp fun prog w A R s h=>by
  obtain⟨hp,g,d,tk,os⟩:=s
  obtain⟨hl,h⟩:=h
  wp_walk
  exact⟨_,rfl,h⟩
section
variable {X:Cx}
def HY (K:Nq):R2:=fun x y H Q=>∃ (l:Addr) (k:Int) (xs:List V),x = .ref l/\y = .int k/\SqT K H l xs/\xs≠[]/\1<=k/\k < 2 ^ 31/\xs.length * k.toNat<=sizeLine ∧
 (k=1->Q (.ref l) H)/\(k≠1->∀ p,H p=none->Q (.ref p) (upd H p (.tup (Mz k.toNat xs).flatten)))
theorem Fi:OpR X (RZ .Mult) (HY X.K):=by
 intro pins s σ H x y v u Q I rx ry h
 obtain⟨l,k,xs,rfl,rfl,hl,hx,h1,h2,hz,q1,q2⟩:=h
 cases rx
 obtain⟨t,rfl⟩:=ry
 obtain⟨its,r,p,_⟩:=I.tuple hl
 have hlen:=r.length
 obtain⟨⟨c1,d1,dt1,sl1⟩,ho,hc,n,hd⟩:=id p
 simp only at hc hd
 subst hc hd
 by_cases hk:k=1
 ·subst hk
  exact S5 (T:="tuple") (U:="int") (by decide) ⟨_,ho,rfl⟩ (fun s'=>Sv s' 1 t) gn U4 Rq jM F.slot_int_index.lookup
   (QC Rq (Sv s 1 t) UJ (Ut _ _) (ir 1 t l its.toArray n d1 sl1)
    ⟨ho,rfl,⟨_,ho,rfl⟩,QC F.slot_tuple_mul ⟨_,ho,rfl⟩ F.entry_tuple_mul (F.args_tuple_mul_2 _ _) (vD l its.toArray n d1 sl1 t) ⟨ho,⟨.ref l,H,I,rfl,q1 rfl⟩⟩⟩)
 ·have he:its.toArray.isEmpty=false:=by
   cases its with
   | nil=>exact absurd (r.GJ.mp rfl) hx
   | cons a r'=>rfl
  have hnew:Tf (fun x1 x2=>x1++x2) #[] (Mz k.toNat its.toArray)=(Mz k.toNat its).flatten.toArray:=by
   have:=foldl_rep its k.toNat []
   rw[U3] at this
   exact this
  have hz':its.toArray.size * k.toNat<=sizeLine:=by rw[Mq,← hlen]; exact hz
  refine S5 (T:="tuple") (U:="int") (by decide) ⟨_,ho,rfl⟩ (fun s'=>Sv s' k t) gn U4 Rq jM F.slot_int_index.lookup
   (QC Rq (Sv s k t) UJ (Ut _ _) (ir k t l its.toArray n d1 sl1)
    ⟨ho,rfl,⟨_,ho,rfl⟩,QC F.slot_tuple_mul ⟨_,ho,rfl⟩ F.entry_tuple_mul (F.args_tuple_mul_2 _ _) (wk l its.toArray n d1 sl1 k t (by lia) h2 he hz') ⟨ho,?_⟩⟩)
  rw[hnew]
  refine⟨.ref s.heap.objs.size,_,I.laid (t':=s.toks) (o:=.tup (Mz k.toNat xs).flatten) (fun b ob q=>Ma _ q) (Mt _) ?_,rfl,q2 hk _ (I.hok.fresh (Mt _))⟩
  exact⟨by rw[len_rep,Nat.mul_comm]; exact hz,_,r.rep k.toNat,IsTup.new _ _⟩
def Jj (K:Nq):List V->Hp->VK->Prop:=fun xs H Q=>∃ (p:Addr) (ns:List Int),xs=[.ref p]/\SqL K H p (ns.map V.int)/\Q (.int ns.sum) H
theorem xQ (hc:X.calm=true):gD X (.builtin "sum") (Jj X.K):=by
 intro pins s σ H xs us Q I r h
 obtain⟨p,ns,rfl,hq,q⟩:=h
 obtain⟨u,rfl,ru⟩:=vals1 r
 cases ru
 obtain⟨its,rv,pl,hz⟩:=I.list hq
 have hi:Ow its ns:=intsAre_of rv
 obtain⟨zs,hx⟩:=hi.allInts.items
 have hl':s.heap.IsList p (intItems zs):=hx▸pl.isList
 refine sum_intListG (I.ok.hd hc) hl' fun h' tk t' hk=>?_
 have e1:ns=zs.toList.map (·.1):=by
  rw[← nums_intItems,← hx]
  exact (show numsOf its.toArray.toList=ns from hi.numsOf).symm
 have e2:preSum (numAt zs) zs.size=ns.sum:=by
  rw[preSum_eq,RC (by simp),e1]
 rw[e2]
 exact⟨.int _,H,I.kept (t':=tk) hk,⟨_,rfl⟩,q⟩
end
end L2
namespace L2
open PySem PySem.Spec PyProof.Rows
end L2
namespace L2
open PySem PySem.Spec PyProof.Rows
section
variable {P:M8} {w:NQ} {A:N8} {E:Mh->Mj->Prop} {s:Mj} {S:Addr}
end
end L2
namespace L2
open PySem PySem.Spec PyProof.Rows
section
variable {P:M8} {w:NQ} {A:N8} {E:Mh->Mj->Prop} {s:Mj} {S:Addr}
end
end L2
namespace L2
open PySem PySem.Spec PyProof.Rows
theorem Inv.Et {X:Cx} {pins:List (Addr × Qv)} {σ:St} {H:Hp} {s s':Mj} {l:Addr} {ys:List V} {its:List Mh} {c:Nat} (I:Inv X pins σ H s) (ho:s'.os=s.os) (hg:s'.gens=s.gens) (k:∀ b u,s.heap.get? b=some u->s'.heap.get? b=some u)
  (hl:s.heap.objs.size<=l) (hv:Vals ys its) (hz:ys.length<=sizeLine) (g:s'.heap.get? l=some { cls:=.type "list",data:=.seq its.toArray c }):Inv X pins σ (upd H l (.lst ys)) s':=by
 have J:=I.laid (t':=s.toks) (o:=.lst ys) k hl ⟨hz,its,c,hv,g⟩
 exact⟨J.ok,ho.trans I.os,by rw[hg]; exact I.bare,J.base,J.loc,J.cell,J.free,J.freeC,J.pin,J.hok,J.len⟩
end L2
namespace L2
open PySem PySem.Spec PyProof.Rows
def mxD (d:Int):List Int->Int
 | []=>d
 | a::r=>r.foldl max a
theorem dB:∀ (r:List Int) (a:Int),a<=r.foldl max a/\∀ b∈r,b<=r.foldl max a
 | [],a=>⟨N6 _,by simp⟩
 | c::r,a=>by
  obtain⟨h1,h2⟩:=dB r (max a c)
  rw[Ot]
  refine⟨by lia,fun b hb=>?_⟩
  rcases List.mem_cons.mp hb with rfl | hb
  ·lia
  ·exact h2 b hb
theorem nH {n:Int}:∀ {l:List Mh} {ns:List Int} {j:Nat},Ow l ns->ns[j]? = some n->∃ t,l[j]? = some (.int n t)
 | _,_,j,.nil,h=>by simp at h
 | _,_,0,.cons _ _ _,h=>by
  cases (show some _=some n from h)
  exact⟨_,rfl⟩
 | _,_,j+1,.cons _ _ r,h=>by
  obtain⟨t,e⟩:=nH (j:=j) r (by simpa using h)
  exact⟨t,by simpa using e⟩
def dkw (dk:Option (Int × Tok)):List (Ou × Mh):=dk.toList.map fun d=>(("default" : Ou),Q6 d.1 d.2)
section
variable {prog:M8} {w:NQ} {A:N8} {R:Result->Mj->Prop} {E:Mh->Mj->Prop} {s:Mj}
theorem xn {it l S:Addr} {items:Array Mh} {ns:List Int} (hh:A.handled=none) (hi:Ow items.toList ns) (hne:l≠it) (hS1:S≠it) (hS2:S≠l) (kw:List (Ou × Mh)) :
  ∀ (k j:Nat) (s:Mj) (b:Int) (t:Tok) (c:Nat),ns.length - j=k->j<=ns.length->s.heap.IsListIter it l j->s.heap.IsList l items →
   s.heap.get? S=some { cls:=.type "list",dict:=none,data:=.seq #[.int b t,.int b t] c,slots:=#[] } →
   (∀ t' h' tk,(∀ a o,a≠it->a≠S->s.heap.get? a=some o->h'.get? a=some o)->R (.ok (.ret (.int ((ns.drop j).foldl max b) t'))) { s with heap:=h',toks:=tk }) →
   RQ (M6 prog w) A (.builtin "max.loop" ⟨[.ref it,.none,.ref S],kw⟩) R s:=by
 have W:=Walks.list (prog:=prog) (w:=w) (A:=A.in1) hh it l hne items
 have hname:(toString "max"++toString ".loop" : String) = "max.loop":=by decide
 have hsz:items.size=ns.length:=by rw[← Nr]; exact hi.length
 intro k
 induction k with
 | zero =>
  intro j s b t c hk hj h1 h2 hS hR
  refine R6 UG ?_; rw[Q4 Qz _]
  show Mw _ A.in1 (Ux (.ref S) >>= _) _ _ s; refine LR (Nx hS rfl ?_)
  have ej:j=items.size:=by lia
  show Mw _ A.in1 (tryCatch (Qx (.ref it)) _ >>= _) _ _ s; refine LR (Ss (W.done s _ _ (by rw[← ej]; exact⟨h1,h2⟩) fun h' tk hm=>?_))
  have hS':=hm S _ (by simpa using hS1) hS
  show Mw _ A.in1 (updateSeq S (fun _=>#[]) >>= _) _ _ _; refine LR (Ti hS' rfl (LR (PK (Mp ?_))))
  rw[RG (by lia)] at hR
  exact hR t _ tk fun a o ha hb e=>(Ov _ _ (Rk hb)).trans (hm a o (by simpa using ha) e)
 | succ k ih =>
  intro j s b t c hk hj h1 h2 hS hR
  refine R6 UG ?_; rw[Q4 Qz _]
  show Mw _ A.in1 (Ux (.ref S) >>= _) _ _ s; refine LR (Nx hS rfl ?_)
  have hlt:j < ns.length:=by lia
  obtain⟨u,hu⟩:=nH hi (Mi hlt)
  have ed:ns.drop j=ns[j]::ns.drop (j+1):=Pr hlt
  show Mw _ A.in1 (tryCatch (Qx (.ref it)) _ >>= _) _ _ s; refine LR (Ss (W.item j s _ _ (by lia) ⟨h1,h2⟩ fun v h' tk hP st hm=>?_))
  obtain⟨g1,g2⟩:=st
  have ev:v = .int ns[j] u:=by
   have e:items[j]? = some v:=hP
   rw[← Pz,hu] at e
   exact (M9 e).symm
  subst ev
  have hS':=hm S _ (by simpa using hS1) hS
  show Mw _ A.in1 (tryCatch (holding [Q6 ns[j] u,Q6 ns[j] u] (richCompare .Gt (.int ns[j] u) (.int b t) >>= _)) _ >>= _) _ _ _
  refine LR (Ss (Rh (LR ((CmpOf.ints_gt (P:=fun i v=>∃ t,v = .int (if i=0 then ns[j] else b) t) (fun i=>if i=0 then ns[j] else b) (fun _ _ h=>h)) 0 1 _ _ _ _ _ ⟨u,rfl⟩ ⟨t,rfl⟩ ?_))))
  refine LR (Rh (Qm (LR (PK (Mp ?_)))))
  show Mw _ A.in1 (if decide (ns[j] > b)=true then _ else _) _ _ _
  by_cases hb:ns[j] > b
  ·rw[if_pos (decide_eq_true hb)]
   refine LR (Ti hS' rfl (LR (PK ?_)))
   rw[hname]
   refine Mp ⟨RP Qz _,ih (j+1) _ ns[j] u _ (by lia) hlt ?_ ?_ (Py _ hS' rfl) fun t' h2 tk2 k2=>?_⟩
   ·exact g1.at fun o e=>(Ov _ _ hS1).trans e
   ·exact g2.at fun o e=>(Ov _ _ hS2).trans e
   ·have q:=hR t' h2 tk2 fun a o ha hb e=>k2 a o ha hb ((Ov _ _ (Rk hb)).trans (hm a o (by simpa using ha) e))
    rw[ed,Ot,show max b ns[j]=ns[j] by lia] at q
    exact q
  ·rw[if_neg (by simpa using hb)]
   refine LR (PK ?_)
   rw[hname]
   refine Mp ⟨RP Qz _,ih (j+1) _ b t c (by lia) hlt g1 g2 hS' fun t' h2 tk2 k2=>?_⟩
   have q:=hR t' h2 tk2 fun a o ha hb e=>k2 a o ha hb (hm a o (by simpa using ha) e)
   rw[ed,Ot,show max b ns[j]=b by lia] at q
   exact q
theorem vM {it l S:Addr} {items:Array Mh} {ns:List Int} {c:Nat} (hh:A.handled=none) (hi:Ow items.toList ns) (hne:l≠it) (hS1:S≠it) (hS2:S≠l) (dk:Option (Int × Tok)) (hd:ns=[]->dk≠none)
  (h1:s.heap.IsListIter it l 0) (h2:s.heap.IsList l items) (hS:s.heap.get? S=some { cls:=.type "list",dict:=none,data:=.seq #[] c,slots:=#[] })
  (hR:∀ t' h' tk,(∀ a o,a≠it->a≠S->s.heap.get? a=some o->h'.get? a=some o)->R (.ok (.ret (.int (mxD ((dk.map (·.1)).getD 0) ns) t'))) { s with heap:=h',toks:=tk }) :
  RQ (M6 prog w) A (.builtin "max.loop" ⟨[.ref it,.none,.ref S],dkw dk⟩) R s:=by
 have W:=Walks.list (prog:=prog) (w:=w) (A:=A.in1) hh it l hne items
 have hname:(toString "max"++toString ".loop" : String) = "max.loop":=by decide
 have hsz:items.size=ns.length:=by rw[← Nr]; exact hi.length
 refine R6 UG ?_; rw[Q4 Qz _]
 show Mw _ A.in1 (Ux (.ref S) >>= _) _ _ s; refine LR (Nx hS rfl ?_)
 show Mw _ A.in1 (tryCatch (Qx (.ref it)) _ >>= _) _ _ s
 cases ns with
 | nil =>
  have e0:items.size=0:=hsz
  refine LR (Ss (W.done s _ _ (by rw[e0]; exact⟨h1,h2⟩) fun h' tk hm=>?_))
  cases dk with
  | none=>exact absurd rfl (hd rfl)
  | some d =>
   refine LR (Rr ?_)
   exact Mp (hR d.2 h' tk fun a o ha hb e=>hm a o (by simpa using ha) e)
 | cons n r =>
  obtain⟨u,hu⟩:=nH (n:=n) (j:=0) hi rfl
  refine LR (Ss (W.item 0 s _ _ (by rw[hsz]; exact Nat.succ_pos _) ⟨h1,h2⟩ fun v h' tk hP st hm=>?_))
  obtain⟨g1,g2⟩:=st
  have ev:v = .int n u:=by
   have e:items[0]? = some v:=hP
   rw[← Pz,hu] at e
   exact (M9 e).symm
  subst ev
  have hS':=hm S _ (by simpa using hS1) hS
  show Mw _ A.in1 (updateSeq S (fun _=>#[Q6 n u,Q6 n u]) >>= _) _ _ _
  refine LR (Ti hS' rfl ?_)
  rw[hname]
  refine Mp ⟨RP Qz _,xn hh hi hne hS1 hS2 _ _ 1 _ n u _ rfl (Nat.succ_le_succ (NP _)) ?_ ?_ (Py _ hS' rfl) fun t' h2 tk2 k2=>?_⟩
  ·exact g1.at fun o e=>(Ov _ _ hS1).trans e
  ·exact g2.at fun o e=>(Ov _ _ hS2).trans e
  ·exact hR t' h2 tk2 fun a o ha hb e=>k2 a o ha hb ((Ov _ _ (Rk hb)).trans (hm a o (by simpa using ha) e))
theorem zf (a v:Mh):TV "max" ⟨[a],[("default",v)]⟩:=by unfold TV; kernel_rfl
theorem yH (v:Mh):Sq "max" ["key","default"] 0 ⟨[],[("default",v)]⟩=pure [none,some v]:=by kernel_rfl
theorem Ds {l:Addr} {items:Array Mh} {ns:List Int} {Q:Mh->Mj->Prop} (hh:A.handled=none) (hl:s.heap.IsList l items) (hi:Ow items.toList ns) (dk:Option (Int × Tok)) (hd:ns=[]->dk≠none)
  (h:∀ t h' tk,(∀ a o,s.heap.get? a=some o->h'.get? a=some o)->Q (.int (mxD ((dk.map (·.1)).getD 0) ns) t) { s with heap:=h',toks:=tk }) :
  Mw (M6 prog w) A (call (.builtin "max") [.ref l] (dkw dk)) Q E s:=by
 have ha:TV "max" ⟨[.ref l],dkw dk⟩:=by
  cases dk with
  | none=>exact F.args_max1 _
  | some d=>exact zf _ _
 have hb:Sq "max" ["key","default"] 0 ⟨[],dkw dk⟩=pure [none,dk.map fun d=>.int d.1 d.2]:=by
  cases dk with
  | none=>rfl
  | some d=>exact yH _
 have hname:(toString "max"++toString ".loop" : String) = "max.loop":=by decide
 refine wpAny_call (codeAny_call_builtin F.plain_max F.entry_max ?_)
 have main:Mw (M6 prog w) A.in1 (Qf.«max» ⟨[.ref l],dkw dk⟩) (fun fin s'=>match fin with
   | .done f=>(match (Except.ok f:Result) with | .ok (.ret v)=>Q v s' | .ok _=>False | .error e=>E e s')
   | .again c'=>c'.quiet=true/\RQ (M6 prog w) A c' (fun r s'=>match r with | .ok (.ret v)=>Q v s' | .ok _=>False | .error e=>E e s') s') E s:=by
  show Mw _ A.in1 (Sq "max" ["key","default"] 0 ⟨[],dkw dk⟩ >>= _) _ _ s
  refine LR (QS hb (LR (Mp ?_)))
  refine LR (Ry hl (LR (Qn ?_)))
  have lt:l < s.heap.objs.size:=by obtain⟨o,e,_⟩:=hl; exact Mx e
  have hs1:(s.heap.push { cls:=.type "list_iterator",data:=.fields #[.ref l,.int 0 0] }).objs.size=s.heap.objs.size+1:=N7 ..
  rw[hname]
  have ek:(dk.map fun d=>Q6 d.1 d.2).toList.map (fun d=>(("default" : Ou),d))=dkw dk:=by cases dk <;> rfl
  refine Mp ⟨RP Qz _,?_⟩
  show RQ _ A (.builtin "max.loop" ⟨[.ref s.heap.objs.size,.none,_],(dk.map fun d=>Q6 d.1 d.2).toList.map (fun d=>(("default" : Ou),d))⟩) _ _
  rw[ek]
  refine vM hh hi (Nb lt) (by rw[hs1]; exact Pb (RM _)) (by rw[hs1]; exact Pb (Qp lt)) dk hd
   ⟨_,Ma _ (Mm _ rfl),rfl,rfl⟩ ((hl.push _).push _) (Mm _ rfl) fun t h' tk k=>?_
  exact h t h' tk fun a o e=>k a o (Nb (Mx e)) (by rw[hs1]; exact Nb (Qp (Mx e))) (Ma _ (Ma _ e))
 simp only[checkBuiltinCall,F.kind_max]
 cases hsig:Manifest.signature? "max" with
 | none=>exact Mp main
 | some sig =>
  have ha':Bind.checkArgs "max" sig ⟨[.ref l],dkw dk⟩=pure ():=by simpa only [TV,hsig] using ha
  simp only[ha']
  exact Mp main
end
section
variable {X:Cx}
def zp (K:Nq):List V->Hp->VK->Prop:=fun xs H Q=>∃ (p:Addr) (ns:List Int),xs=[.ref p]/\SqL K H p (ns.map V.int)/\ns.length < 64/\∀ ms:List Int,ms.Perm ns->ms.Pairwise (·<=·)->∀ l,H l=none->Q (.ref l) (upd H l (.lst (ms.map V.int)))
theorem nu:gD X (.builtin "sorted") (zp X.K):=by
 intro pins s σ H xs us Q I r h
 obtain⟨p,ns,rfl,hq,h64,q⟩:=h
 obtain⟨u,rfl,ru⟩:=vals1 r
 cases ru
 obtain⟨its,rv,pl,hz⟩:=I.list hq
 have hi:Ow its ns:=intsAre_of rv
 refine sorted_ints pl.isList hi (by have:=hi.length; lia) fun out ns' a1 a2 a3=>?_
 obtain⟨e,he⟩:=sortedAll_at s.heap its out
 have hml:(ns'.map V.int).length<=sizeLine:=by
  rw[Mf,a2.length_eq]
  exact Te (M7 h64 (by decide))
 exact⟨.ref _,_,I.Et rfl rfl (fun _ _=>sortedAll_old) (QX _) (lU a1) hml he,rfl,q ns' a2 a3 _ (I.hok.fresh (QX _))⟩
def Bl (K:Nq):List V->Hp->VK->Prop:=fun xs H Q=>∃ (p:Addr) (ns:List Int),xs=[.ref p]/\SqL K H p (ns.map V.int)/\ns≠[]/\Q (.int (mxD 0 ns)) H
theorem kI (hc:X.calm=true):gD X (.builtin "max") (Bl X.K):=by
 intro pins s σ H xs us Q I r h
 obtain⟨p,ns,rfl,hq,hne,q⟩:=h
 obtain⟨u,rfl,ru⟩:=vals1 r
 cases ru
 obtain⟨its,rv,pl,hz⟩:=I.list hq
 exact Ds (I.ok.hd hc) pl.isList (show Ow its.toArray.toList ns from intsAre_of rv) none (fun e=>absurd e hne) fun t h' tk k=>⟨.int _,H,I.kept (t':=tk) k,⟨_,rfl⟩,q⟩
def J4 (K:Nq) (d:Int) (te:TA):TE:=fun σ H Q=>te σ H fun xs H1=>∃ (p:Addr) (ns:List Int),xs=[.ref p]/\SqL K H1 p (ns.map V.int)/\Q (.int (mxD d ns)) H1
theorem Ex {e:Expr} {te:TA} {d:Int} {j} {p pos kp cp:R8} (hc:X.calm=true) (hg:Gl X "max") (hm:X.mg "max" = none) (ha:PA X [e] te)
  (hb:Oa "max" = some (.builtin "max"):=by decide+kernel)
  (he:Ru pos (Nm [e] X.env)=(false,Qd e X.env)::Ru pos (Nm [] X.env):=by rfl) (hp:(Ru pos (Nm [e] X.env)).any (·.1)=false:=by rfl) :
  PE X (.Call (.Name "max" p) [e] [⟨some "default",.Constant (.int d) j cp,kp⟩] pos) (J4 X.K d te):=by
 intro pins s σ H Q I h
 refine QB (gm I hg hm hb ?_ (by decide) (by decide))
 refine callWith_kw (thn (ha pos pins s σ H _ I h) fun us s1 ⟨vs,H1,I1,r1,q⟩=>?_) he hp
 obtain⟨a,ns,rfl,hq,q⟩:=q
 obtain⟨u,rfl,ru⟩:=vals1 r1
 cases ru
 refine kws_cons (wpAny_Constant_int (kws_nil ?_))
 have I2:Inv X pins σ H1 { s1 with toks:=s1.toks+1 }:=I1.tok _
 obtain⟨its,rv,pl,hz⟩:=I2.list hq
 exact Ds (I.ok.hd hc) pl.isList (show Ow its.toArray.toList ns from intsAre_of rv) (some (d,_)) (fun _ z=>nomatch z) fun t h' tk k=>⟨.int _,H1,I2.kept (t':=tk) k,⟨_,rfl⟩,q⟩
end
end L2
namespace L2
open PySem PySem.Spec PyProof.Rows
theorem yM:Manifest.owners.lookup (String.ofList ['d','e','s','r','e','v','e','r'].reverse)=some Manifest.sig_reversed:=by kernel_rfl
theorem c7:Slot "reversed" "__next__" "reversed.__next__" :=
 .of (owner:="reversed") (n:="__next__") (by rw[Tq,RJ]; kernel_rfl) (by decide+kernel) (by decide+kernel) (by decide+kernel) (by first | exact .inl (by decide+kernel) | exact .inr (by decide+kernel)) (by rw[Sw]; kernel_rfl)
theorem nU:Slot "reversed" "__init__" "object.__init__" :=
 .of (owner:="object") (n:="__init__") (by rw[Tq,RJ]; kernel_rfl) (by decide+kernel) (by decide+kernel) (by decide+kernel) (by first | exact .inl (by decide+kernel) | exact .inr (by decide+kernel)) (by rw[Sw]; kernel_rfl)
theorem iu:entryFor table "reversed.__next__" = some Qf.«reversed.__next__»:=entryFor_of_tree (by kernel_rfl)
theorem iY (a:Mh):TV "reversed.__next__" ⟨[a],[]⟩:=by
 unfold TV
 rw[signature?_of (id:="reversed.__next__") (n:=['_','_','t','x','e','n','_','_']) (o:=['d','e','s','r','e','v','e','r']) (by kernel_rfl) yM]
 kernel_rfl
theorem jm:Slot "reversed" "__iter__" "reversed.__iter__" :=
 .of (owner:="reversed") (n:="__iter__") (by rw[Tq,RJ]; kernel_rfl) (by decide+kernel) (by decide+kernel) (by decide+kernel) (by first | exact .inl (by decide+kernel) | exact .inr (by decide+kernel)) (by rw[Sw]; kernel_rfl)
theorem lZ:entryFor table "reversed.__iter__" = some Qf.«dict_keyiterator.__iter__»:=entryFor_alias (id':="dict_keyiterator.__iter__") (by kernel_rfl) rfl (by decide+kernel) (by kernel_rfl)
theorem ou (a:Mh):TV "reversed.__iter__" ⟨[a],[]⟩:=by
 unfold TV
 rw[signature?_of (id:="reversed.__iter__") (n:=['_','_','r','e','t','i','_','_']) (o:=['d','e','s','r','e','v','e','r']) (by kernel_rfl) yM]
 kernel_rfl
theorem vC:TypeCalled "reversed" "reversed.__new__" "object.__init__" :=
 ⟨by decide+kernel,by decide+kernel,⟨_,_,F.mro_reversed⟩,F.made_reversed,by decide+kernel,by rw[Sw]; kernel_rfl,nU⟩
theorem pK:typeLookup (.type "tuple") "__reversed__" = pure none:=by rw[Tq,RJ]; kernel_rfl
theorem p8:isSubtype (.type "tuple") (.type "dict")=pure false:=by rw[Sw]; kernel_rfl
def RIt (h:N5) (I t:Addr) (i:Int):Prop:=h.get? I=some { cls:=.type "reversed",dict:=none,data:=.fields #[.ref t,.int i 0],slots:=#[] }
theorem BW (a:Mh):U9 "reversed" ⟨[.type "reversed",a],[]⟩=pure (.type "reversed",[a]):=by
 unfold U9
 simp only[isType,F.sub_reversed_self,pure_bind,Bool.not_true,O4,if_false]
theorem Ce (t:Addr) (items:Array Mh) (hf:(items.size:Int) < 2 ^ 63) :
  UT (Qf.«reversed.__new__» ⟨[.type "reversed",.ref t],[]⟩) (fun _ R s=>IsTup s.heap t items/\R (.ok (.ret (.ref s.heap.objs.size))) { s with heap:=s.heap.push { cls:=.type "reversed",data:=.fields #[.ref t,.int ((items.size:Int) - 1) 0] },toks:=s.toks+1+1 }) :=
 .of_wp fun prog w A R s h=>by
  obtain⟨ht,h⟩:=h
  unfold Qf.«reversed.__new__»
  refine LR (QS (BW _) ?_)
  try dsimp only
  refine LR (QS (a:=()) (by first | rfl | kernel_rfl) (LR (QS (a:=()) (by first | rfl | kernel_rfl) ?_)))
  try dsimp only
  refine LR (Tj ht.typeIs pK ?_)
  try dsimp only
  refine (show Mw _ _ ((isInstance (.ref t) (.type "dict") >>= _) >>= _) _ _ s from LR (LR (RK ht.typeIs p8 ?_)))
  rw[if_neg Mr]
  refine LR (Tj ht.typeIs slot_tuple_getitem.lookup ?_)
  dsimp only
  rw[if_pos (by decide+kernel)]
  refine Mp ?_
  rw[if_neg (by simp)]
  refine LR (len_tuple ht hf ?_)
  refine LR (QS (a:=some ((items.size:Nat):Int)) rfl ?_)
  dsimp only
  refine LR ?_
  refine (show Mw _ _ (newObj (.type "reversed") (.fields #[.ref t,QV ((items.size:Int) - 1)])) _ _ _ from Qn ?_)
  exact Mp ⟨_,rfl,h⟩
section
variable {prog:M8} {w:NQ} {A:N8} {E:Mh->Mj->Prop} {s:Mj}
theorem xW {t:Addr} {items:Array Mh} {Q:Mh->Mj->Prop} (ht:IsTup s.heap t items) (hf:(items.size:Int) < 2 ^ 63)
  (h:Q (.ref s.heap.objs.size) { s with heap:=s.heap.push { cls:=.type "reversed",data:=.fields #[.ref t,.int ((items.size:Int) - 1) 0] },toks:=s.toks+1+1 }):Mw (M6 prog w) A (call (.type "reversed") [.ref t]) Q E s:=by
 refine S9 vC (by decide) (F.typeCall_reversed_1 _) (F.newCall_reversed_1 _) (fun obj=>F.args_object_init_2 obj _) F.entry_reversed_new (Ce t items hf) ⟨ht,?_⟩
 exact⟨⟨_,Mm _ rfl,rfl⟩,h⟩
theorem Br {it t:Addr} {i:Nat} {items:Array Mh} {x:Mh} {Q:Option Mh->Mj->Prop} (hit:RIt s.heap it t (i:Int)) (ht:IsTup s.heap t items) (hi:(i:Int) < 2 ^ 63) (hx:items[i]? = some x)
  (hQ:∀ h',RIt h' it t ((i:Int) - 1)->Qs it s.heap h'->Q (some x) { s with heap:=h',toks:=s.toks+1 }):Mw (M6 prog w) A (Qx (.ref it)) Q E s:=by
 have hT:s.TypeIs (.ref it) "reversed":=⟨_,hit,rfl⟩
 unfold Qx
 refine LR (Qt (Oj (name:=Qo "__next__") hT c7 (Ox c7 hT iu ?_ (iY _))))
 unfold Qf.«reversed.__next__»
 refine LR (QS (a:=(NB it,[])) rfl ?_)
 dsimp only
 refine LR (Nh hit rfl (x:=.ref t) rfl (LR (Nh hit rfl (x:=.int (i:Int) 0) rfl ?_)))
 dsimp only
 rw[if_neg (by lia)]
 refine LR (Tj ht.typeIs slot_tuple_getitem.lookup ?_)
 rw[if_neg (by simp)]
 refine LR (wpAny_mkInt ?_)
 have hsz:i < items.size:=(Array.getElem?_eq_some_iff.mp hx).1
 have hk:Uy (i:Int) items.size=some i:=by
  have e0:¬ ((i:Int) < 0):=by lia
  unfold Uy
  simp only[if_neg e0]
  simp [hsz]
 refine LR (Qt (getItem_tuple (s:={ s with toks:=s.toks+1 }) (show IsTup s.heap t items from ht) (by lia) hi hk hx ?_))
 dsimp only
 refine LR (Nh (s:={ s with toks:=s.toks+1 }) hit rfl (x:=.int (i:Int) 0) rfl ?_)
 dsimp only
 refine LR (Su (s:={ s with toks:=s.toks+1 }) hit rfl (by simp) ?_)
 refine Mp ⟨x,rfl,Mp (hQ _ ?_ (Qw ..))⟩
 exact Py (Obj.mapFields (·.setIfInBounds 1 (QV ((i:Int) - 1)))) hit rfl
theorem G4 {it t:Addr} {Q:Option Mh->Mj->Prop} (hh:A.handled=none) (hit:RIt s.heap it t (-1)) (hQ:∀ h',Heap.ExtBut it s.heap h'->Q none { s with heap:=h' }):Mw (M6 prog w) A (Qx (.ref it)) Q E s:=by
 have hT:s.TypeIs (.ref it) "reversed":=⟨_,hit,rfl⟩
 unfold Qx
 refine LR (Qt (Oj (name:=Qo "__next__") hT c7 (Ox c7 hT iu ?_ (iY _))))
 unfold Qf.«reversed.__next__»
 refine LR (QS (a:=(NB it,[])) rfl ?_)
 dsimp only
 refine LR (Nh hit rfl (x:=.ref t) rfl (LR (Nh hit rfl (x:=.int (-1) 0) rfl ?_)))
 dsimp only
 rw[if_pos (by decide)]
 refine LR (Rr ?_)
 refine LR ?_
 refine (show Mw _ _ (setField (.ref it) 1 (QV (-1)) >>= _) _ _ s from LR (Su hit rfl (by simp) ?_))
 have g1:=Py (Obj.mapFields (·.setIfInBounds 1 (QV (-1)))) hit rfl
 refine Su g1 rfl (by simp) ?_
 refine LR ?_
 refine (show Mw _ _ (newExc (.type "StopIteration") [] >>= _) _ _ _ from LR ?_)
 simp only[newExc,newTuple]
 refine LR (Qn ?_ (by size_fits))
 refine LR (m:=TJ _ _) (QS (a:=Oc) (by first | rfl | (simp only[TJ]; rfl)) (Qn ?_ (by size_fits)))
 simp only[raiseNew]
 refine LR (wpAny_handled ?_)
 first | rw[show A.in1.handled=none from hh] | rw[hh]
 refine LR (Mp (wpAny_throw ?_))
 refine LR (RK (T:="StopIteration") (b:=true) ⟨_,Mm _ rfl,rfl⟩ TF (Mp ?_))
 exact hQ _ ((((Qw ..).trans (Qw ..)).extBut.push _).push _)
theorem uz {it t:Addr} {i:Int} {Q:Mh->Mj->Prop} (hI:RIt s.heap it t i) (h:Q (.ref it) s):Mw (M6 prog w) A (pyIter (.ref it)) Q E s:=by
 have hT:s.TypeIs (.ref it) "reversed":=⟨_,hI,rfl⟩
 refine wpAny_pyIter_slot hT jm (Ox jm hT lZ (show Mw _ _ (ret (.ref it)) _ _ s from ?_) (ou _))
 exact Mp ⟨_,rfl,"reversed",_,hT,c7.lookup,h⟩
end
def Itv (K:Nq) (a:Addr) (n:Nat):It :=
 ⟨fun i H=>i < n/\∃ xs x,SqT K H a xs/\xs.length=n/\xs[n - 1 - i]? = some x,fun i H x H'=>H'=H/\∀ xs,SqT K H a xs->xs[n - 1 - i]? = some x,fun i _=>i=n⟩
theorem Aw {P:M8} {w:NQ} {K:Nq} {tg:Expr} (a it:Addr) (n:Nat) (hn:(n:Int) < 2 ^ 63):Turn P w K tg (Itv K a n) [it] it (fun i h=>RIt h it a ((n:Int) - 1 - (i:Int))) where
 mem:=by simp
 obj:=fun i h st b hb=>by
  have e:b=it:=by simpa using hb
  subst e
  exact⟨_,st,fun v z=>by cases (show Data.fields _=Data.cell v from z)⟩
 keep:=fun i h h' st k=>k it (by simp) _ st
 item:=by
  intro X hP hw hK hc i pins s σ H E I hf st hg
  subst hP hw hK
  obtain⟨hin,xs,x,hq,hlen,hx⟩:=hg
  obtain⟨its,rv,p,hz⟩:=I.tuple hq
  obtain⟨u,hu,ru⟩:=rv.get hx
  obtain⟨f0,f1,f2,f3,f4,f5⟩:=hf it (by simp)
  have e:(n:Int) - 1 - (i:Int)=((n - 1 - i:Nat):Int):=by lia
  have st':RIt s.heap it a ((n - 1 - i:Nat):Int):=by rw[← e]; exact st
  refine Br st' p (by lia) (x:=u) (by simpa using hu) fun h' st2 sb=>?_
  have e2:((n - 1 - i:Nat):Int) - 1=(n:Int) - 1 - ((i+1:Nat):Int):=by lia
  rw[e2] at st2
  have I1:Inv X pins σ H { s with heap:=h',toks:=s.toks+1 }:=I.turned (t':=s.toks+1) (fun b o hb e=>(sb.2 b hb).trans e) f0 f1 f3 f4 f5
  exact⟨u,rfl,Bv (s:={ s with heap:=h',toks:=s.toks+1 }) st2 rfl rfl (by decide) ⟨x,H,I1,ru,⟨rfl,fun ys hy=>by rw[I.dG hy hq]; exact hx⟩,st2,fun b hb=>(hf b hb).1⟩⟩
 done:=by
  intro X hP hw hK hc i pins s σ H E I hf st hg
  subst hP hw hK
  cases (show i=n from hg)
  obtain⟨f0,f1,f2,f3,f4,f5⟩:=hf it (by simp)
  have st':RIt s.heap it a (-1):=by
   have e:(n:Int) - 1 - (n:Int) = -1:=by lia
   rw[← e]; exact st
  exact G4 (I.ok.hd hc) st' fun h' eb=>⟨rfl,I.turned (t':=s.toks) (fun b o hb e=>eb b o hb e) f0 f1 f3 f4 f5⟩
 self:=fun _ _ _ _ _ st h=>uz st h
def Lx (K:Nq) (ta:TA):TI:=fun σ H R=>ta σ H fun vs H1=>∃ a xs,vs=[.ref a]/\SqT K H1 a xs/\R (Itv K a xs.length) H1
theorem Jt {X:Cx} {tg:Expr} {a:Expr} {ta:TA} {p pos:R8} (hg:Gl X "reversed") (hm:X.mg "reversed" = none) (ha:PA X [a] ta) (hs:Nm [a] X.env=[(false,Qd a X.env)]:=by rfl) :
  PI X tg (.Call (.Name "reversed" p) [a] [] pos) (Lx X.K ta):=by
 intro pins s σ H R I h
 refine Call_ (gm I hg hm boot_reversed (Oe (thn (ha pos pins s σ H _ I h) fun us s1 ⟨vs,H1,I1,r1,q1⟩=>?_) hs rfl))
 obtain⟨c,xs,e,hx,q⟩:=q1
 subst e
 obtain⟨u1,rfl,ru1⟩:=vals1 r1
 cases ru1
 obtain⟨its,rv,tp,hz⟩:=I1.tuple hx
 have hl:=rv.length
 have hn:=mZ
 have hsz:((its.toArray.size:Nat):Int) < 2 ^ 63:=by rw[Mq,← hl]; lia
 refine xW tp hsz ?_
 have g:RIt (s1.heap.push { cls:=.type "reversed",data:=.fields #[.ref c,.int ((its.toArray.size:Int) - 1) 0] }) s1.heap.objs.size c ((xs.length:Int) - 1 - ((0:Nat):Int)):=by
  have e:((xs.length:Int) - 1 - ((0:Nat):Int))=(its.toArray.size:Int) - 1:=by rw[Mq,← hl]; lia
  rw[e]
  exact Mm _ rfl
 refine uz g ⟨s1.heap.objs.size,[s1.heap.objs.size],_,_,H1,rfl,I1.kept (t':=s1.toks+1+1) fun b o e=>Ma _ e,Aw c _ xs.length (by lia),g,fun b hb=>?_,q⟩
 have e:b=s1.heap.objs.size:=by simpa using hb
 subst e
 exact I1.Ak (Mt _) (I1.hok.fresh (Mt _))
theorem Fb {K:Nq} {a:Addr} {xs:List V} {g:TG} {tb:TS} {D:Ends} {σ:St} {H:Hp} (Pv:Nat->St->Hp->Prop) (h0:Pv 0 σ H) (hl:∀ i σ H,i<=xs.length->Pv i σ H->SqT K H a xs)
  (hs:∀ i x σ H,i < xs.length->xs[xs.length - 1 - i]? = some x->Pv i σ H->g x σ H fun σ2 H2=>tb { D with nx:=Pv (i+1),ct:=Pv (i+1),bk:=D.nx } σ2 H2) (hd:∀ σ H,Pv xs.length σ H->D.nx σ H) :
  ∃ W:Nat->Nat->St->Hp->Prop,(∃ m,W 0 m σ H)/\∀ i m σ H,W i m σ H →
   ((Itv K a xs.length).stop i H/\D.nx σ H)∨((Itv K a xs.length).go i H/\∃ N:St->Hp->Prop,(∀ σ' H',N σ' H'->∃ m',m' < m/\W (i+1) m' σ' H')/\∀ x H',(Itv K a xs.length).yld i H x H'->g x σ H' fun σ2 H2=>tb { D with nx:=N,ct:=N,bk:=D.nx } σ2 H2):=by
 refine⟨fun i m σ H=>m=xs.length - i/\i<=xs.length/\Pv i σ H,⟨xs.length,by simp,NP _,h0⟩,?_⟩
 rintro i m σ H ⟨rfl,hi,p⟩
 have q1:=hl i σ H hi p
 by_cases hlt:i < xs.length
 ·refine .inr ⟨⟨hlt,xs,xs[xs.length - 1 - i],q1,rfl,Mi (by lia)⟩,Pv (i+1),fun σ' H' p'=>⟨xs.length - (i+1),by lia,rfl,hlt,p'⟩,fun v H' y=>?_⟩
  obtain⟨rfl,hx⟩:=y
  exact hs i v σ _ hlt (hx xs q1) p
 ·have e:i=xs.length:=by lia
  subst e
  exact .inl ⟨rfl,hd σ H p⟩
end L2
namespace L2
open PySem PySem.Spec PyProof.Rows
section
variable {prog:M8} {w:NQ} {A:N8} {E:Mh->Mj->Prop} {s:Mj}
theorem jJ {h h':N5} {a t:Addr} {its:Array Mh} (ht:h.IsList t its) (sb:Qs a h h') (ne:t≠a):h'.IsList t its:=by
 obtain⟨o,e,r⟩:=ht
 exact⟨o,(sb.2 t ne).trans e,r⟩
theorem cu {h h':N5} {a it t:Addr} {i:Nat} (ht:h.IsListIter it t i) (sb:Qs a h h') (ne:it≠a):h'.IsListIter it t i:=by
 obtain⟨o,e,r⟩:=ht
 exact⟨o,(sb.2 it ne).trans e,r⟩
theorem EY {z p q i1 i2 l1 l2:Addr} {k:Nat} {xs ys:Array Mh} {x y a b:Mh} {Q:Option Mh->Mj->Prop} (D:Zap z p q i1 i2 l1 l2)
  (hz:Pq s.heap z p q .none) (hp:O7 s.heap p (.ref i1) (.ref i2)) (hq:O7 s.heap q a b) (j1:s.heap.IsTupleIter i1 l1 k) (j2:s.heap.IsListIter i2 l2 k) (t1:s.heap.IsTuple l1 xs) (t2:s.heap.IsList l2 ys)
  (hx:xs[k]? = some x) (hy:ys[k]? = some y)
  (hQ:∀ h',Pq h' z p q (QV s.heap.objs.size)->O7 h' q x y->h'.IsTupleIter i1 l1 (k+1)->h'.IsListIter i2 l2 (k+1)->O7 h' s.heap.objs.size x y->h'.objs.size=s.heap.objs.size+1 →
   (∀ c o,c≠z->c≠q->c≠i1->c≠i2->s.heap.get? c=some o->h'.get? c=some o)->Q (some (.ref s.heap.objs.size)) { s with heap:=h' }):Mw (M6 prog w) A (Qx (.ref z)) Q E s:=by
 have hT:s.TypeIs (.ref z) "zip":=⟨_,hz,rfl⟩; unfold Qx
 refine LR (Qt (Oj (name:=Qo "__next__") hT O6 (Ox O6 hT Rb ?_ (QR _))))
 show Mw _ _ (S6 (.ref z) 2 >>= _) _ _ _; refine LR (Nh hz rfl (x:=.bool false) rfl ?_)
 show Mw _ _ (S6 (.ref z) 3 >>= _) _ _ _; refine LR (Nh hz rfl (x:=.ref p) rfl ?_); refine LR (Nx hp rfl ?_)
 show Mw _ _ (M3 (.ref z) >>= _) _ _ _; refine LR ?_; unfold M3
 refine LR (Nh hz rfl (x:=.none) rfl (Mp ?_)); simp only[if_true]; refine LR (Rr ?_); refine LR (Nh hz rfl (x:=.ref q) rfl ?_)
 refine LR (NK hz (by simp) fun h1 z1 b1=>?_); replace z1:Pq h1 z p q .ellipsis:=z1
 refine LR ?_; simp only[Q8,Rm,Qk,Qy]; refine LR (LR (Pk ?_))
 show Mw _ _ (M5 (.ref i1) >>= _) _ _ _; refine LR (gG (bf j1 b1 D.az) (cI t1 b1 D.xz) hx fun h2 u1 b2=>Mp ?_)
 have q2:O7 h2 q a b:=(b2.2 _ D.qa).trans ((b1.2 _ D.qz).trans hq); refine LR (Nx q2 rfl ?_); refine LR (Ql q2 fun h3 q3 b3=>?_)
 replace q3:O7 h3 q x b:=q3; refine LR (PK (Mp ?_)); refine LR (LR (Pk ?_))
 show Mw _ _ (M5 (.ref i2) >>= _) _ _ _
 refine LR (wpAny_nextOf_list_item (cu (cu (cu j2 b1 D.bz) b2 D.ab.symm) b3 D.qb.symm) (jJ (jJ (jJ t2 b1 D.yz) b2 D.ya) b3 D.yq) hy fun h4 u2 b4=>Mp ?_)
 have q4:O7 h4 q x b:=(b4.2 _ D.qb).trans q3; refine LR (Nx q4 rfl ?_); refine LR (Ql q4 fun h5 q5 b5=>?_)
 replace q5:O7 h5 q x y:=q5; refine LR (PK (Mp (Mp ?_))); refine LR (Nx q5 rfl ?_); refine LR (Tz ?_)
 have sz:h5.objs.size=s.heap.objs.size:=by rw[b5.1,b4.1,b3.1,b2.1,b1.1]
 have z5:Pq h5 z p q .ellipsis:=(b5.2 _ D.qz.symm).trans ((b4.2 _ D.bz.symm).trans ((b3.2 _ D.qz.symm).trans ((b2.2 _ D.az.symm).trans z1)))
 have kp:∀ c o,c≠z->c≠q->c≠i1->c≠i2->s.heap.get? c=some o->h5.get? c=some o:=fun c o c1 c2 c3 c4 e=>(b5.2 c c2).trans ((b4.2 c c4).trans ((b3.2 c c2).trans ((b2.2 c c3).trans ((b1.2 c c1).trans e))))
 have u15:h5.IsTupleIter i1 l1 (k+1):=bf (bf (bf u1 b3 D.qa.symm) b4 D.ab) b5 D.qa.symm
 have u25:h5.IsListIter i2 l2 (k+1):=cu u2 b5 D.qb.symm
 have zl:z < h5.objs.size:=Mx z5
 show Mw _ _ (Oq (.ref z) (.ref h5.objs.size) >>= _) _ _ _; refine LR ?_; unfold Oq
 have z6:Pq (h5.push { cls:=.type "tuple",data:=.seq #[x,y] }) z p q .ellipsis:=Ma _ z5
 refine LR (NK z6 (by simp) fun h7 z7 b7=>?_); replace z7:Pq h7 z p q (QV h5.objs.size):=z7
 refine NK z7 (by simp) fun h8 z8 b8=>?_; replace z8:Pq h8 z p q (QV h5.objs.size):=z8
 have up:∀ c o,c≠z->h5.get? c=some o->h8.get? c=some o:=fun c o c1 e=>(b8.2 c c1).trans ((b7.2 c c1).trans (Ma _ e))
 have t8:O7 h8 h5.objs.size x y:=(b8.2 _ (Pb zl)).trans ((b7.2 _ (Pb zl)).trans (Mm _ rfl))
 have s8:h8.objs.size=h5.objs.size+1:=by rw[b8.1,b7.1,N7]
 rw[sz] at z8 t8 s8; refine Mp ⟨_,rfl,?_⟩
 show Mw _ _ _ _ _ _
 rw[sz]
 exact Mp (hQ h8 z8 (up _ _ D.qz q5) (by obtain⟨o,e,r⟩:=u15; exact⟨o,up _ o D.az e,r⟩) (by obtain⟨o,e,r⟩:=u25; exact⟨o,up _ o D.bz e,r⟩) t8 s8 fun c o c1 c2 c3 c4 e=>up c o c1 (kp c o c1 c2 c3 c4 e))
theorem G7 {z p q i1 i2 l1 l2:Addr} {k:Nat} {xs ys:Array Mh} {a b:Mh} {Q:Fin->Mj->Prop} (hh:A.handled=none) (D:Zap z p q i1 i2 l1 l2)
  (hz:Pq s.heap z p q .none) (hp:O7 s.heap p (.ref i1) (.ref i2)) (hq:O7 s.heap q a b) (j1:s.heap.IsTupleIter i1 l1 k) (j2:s.heap.IsListIter i2 l2 k) (t1:s.heap.IsTuple l1 xs) (t2:s.heap.IsList l2 ys)
  (hend:xs[k]? = none∨ys[k]? = none) (hE:∀ h' e,(∀ c o,c≠z->c≠q->c≠i1->c≠i2->s.heap.get? c=some o->h'.get? c=some o)->(∃ o,h'.get? e=some o/\o.cls = .type "StopIteration")->E (.ref e) { s with heap:=h' }) :
  Mw (M6 prog w) A (Qf.«zip.__next__» ⟨[.ref z],[]⟩) Q E s:=by
 show Mw _ _ (S6 (.ref z) 2 >>= _) _ _ _; refine LR (Nh hz rfl (x:=.bool false) rfl ?_)
 show Mw _ _ (S6 (.ref z) 3 >>= _) _ _ _; refine LR (Nh hz rfl (x:=.ref p) rfl ?_); refine LR (Nx hp rfl ?_)
 show Mw _ _ (M3 (.ref z) >>= _) _ _ _; refine LR ?_; unfold M3
 refine LR (Nh hz rfl (x:=.none) rfl (Mp ?_)); simp only[if_true]; refine LR (Rr ?_); refine LR (Nh hz rfl (x:=.ref q) rfl ?_)
 refine LR (NK hz (by simp) fun h1 z1 b1=>?_); replace z1:Pq h1 z p q .ellipsis:=z1
 refine LR ?_; simp only[Q8,Rm,Qk,Qy]; refine LR (LR (Pk ?_))
 show Mw _ _ (M5 (.ref i1) >>= _) _ _ _
 cases hx:xs[k]? with
 | none =>
  refine LR (uZ hh (bf j1 b1 D.az) (cI t1 b1 D.xz) hx fun h2 e b2 he=>?_)
  obtain⟨oe,ho,hc⟩:=he
  have z2:Pq h2 z p q .ellipsis:=b2 _ _ D.az.symm z1
  have ez:e≠z:=fun u=>by subst u; rw[z2] at ho; cases ho; simp at hc
  exact NK z2 (by simp) fun h3 _ b3=>hE h3 e (fun c o c1 _ c3 _ u=>(b3.2 c c1).trans (b2 _ _ c3 ((b1.2 c c1).trans u))) ⟨oe,(b3.2 e ez).trans ho,hc⟩
 | some x =>
  have hy:ys[k]? = none:=hend.elim (fun u=>by rw[hx] at u; cases u) id
  refine LR (gG (bf j1 b1 D.az) (cI t1 b1 D.xz) hx fun h2 u1 b2=>Mp ?_)
  have q2:O7 h2 q a b:=(b2.2 _ D.qa).trans ((b1.2 _ D.qz).trans hq); refine LR (Nx q2 rfl ?_); refine LR (Ql q2 fun h3 q3 b3=>?_)
  refine LR (PK (Mp ?_)); refine LR (LR (Pk ?_)); show Mw _ _ (M5 (.ref i2) >>= _) _ _ _
  refine LR (wpAny_nextOf_list_end hh (cu (cu (cu j2 b1 D.bz) b2 D.ab.symm) b3 D.qb.symm) (jJ (jJ (jJ t2 b1 D.yz) b2 D.ya) b3 D.yq) hy fun h4 e b4 he=>?_)
  obtain⟨oe,ho,hc⟩:=he
  have z4:Pq h4 z p q .ellipsis:=b4 _ _ D.bz.symm ((b3.2 _ D.qz.symm).trans ((b2.2 _ D.az.symm).trans z1))
  have ez:e≠z:=fun u=>by subst u; rw[z4] at ho; cases ho; simp at hc
  exact NK z4 (by simp) fun h5 _ b5=>hE h5 e (fun c o c1 c2 c3 c4 u=>(b5.2 c c1).trans (b4 _ _ c4 ((b3.2 c c2).trans ((b2.2 c c3).trans ((b1.2 c c1).trans u))))) ⟨oe,(b5.2 e ez).trans ho,hc⟩
theorem JD {z p q i1 i2 l1 l2:Addr} {k:Nat} {xs ys:Array Mh} {a b:Mh} {Q:Option Mh->Mj->Prop} (hh:A.handled=none) (D:Zap z p q i1 i2 l1 l2)
  (hz:Pq s.heap z p q .none) (hp:O7 s.heap p (.ref i1) (.ref i2)) (hq:O7 s.heap q a b) (j1:s.heap.IsTupleIter i1 l1 k) (j2:s.heap.IsListIter i2 l2 k) (t1:s.heap.IsTuple l1 xs) (t2:s.heap.IsList l2 ys)
  (hend:xs[k]? = none∨ys[k]? = none) (hQ:∀ h',(∀ c o,c≠z->c≠q->c≠i1->c≠i2->s.heap.get? c=some o->h'.get? c=some o)->Q none { s with heap:=h' }):Mw (M6 prog w) A (Qx (.ref z)) Q E s:=by
 have hT:s.TypeIs (.ref z) "zip":=⟨_,hz,rfl⟩; unfold Qx
 refine LR (Qt (Oj (name:=Qo "__next__") hT O6 (Ox O6 hT Rb (G7 hh D hz hp hq j1 j2 t1 t2 hend fun h' e kp he=>?_) (QR _))))
 obtain⟨o,ho,hc⟩:=he
 exact LR (RK (T:="StopIteration") (b:=true) ⟨o,ho,hc⟩ TF (Mp (hQ _ kp)))
abbrev uB (h:N5) (t:Addr):N5:=h.push { cls:=.type "list_iterator",data:=.fields #[.ref t,.int 0 0] }
abbrev uC (h:N5) (t u:Addr):N5:=(uB (zA h t) u).push { cls:=.type "tuple",data:=.seq #[.ref h.objs.size,.ref (zA h t).objs.size] }
abbrev uD (h:N5) (t u:Addr):N5:=(uC h t u).push { cls:=.type "tuple",data:=.seq #[.none,.none] }
abbrev uE (h:N5) (t u:Addr):N5:=(uD h t u).push { cls:=.type "zip",data:=.fields #[.none,.bool false,.bool false,.ref (uB (zA h t) u).objs.size,.ref (uC h t u).objs.size] }
theorem Jw (l1 l2:Addr) (xs ys:Array Mh) :
  UT (Qf.«zip.__new__» ⟨[.type "zip",.ref l1,.ref l2],[]⟩) (fun _ R s=>s.heap.IsTuple l1 xs/\s.heap.IsList l2 ys/\R (.ok (.ret (.ref (uD s.heap l1 l2).objs.size))) { s with heap:=uE s.heap l1 l2 }) :=
 .of_wp fun prog w A R s h=>by
  obtain⟨hp,g,d,tk,os⟩:=s; obtain⟨a1,a2,h⟩:=h; have hsub:=sub_zip
  have T1:Sh (Rv ⟨hp,g,d,tk,os⟩) l1 xs:=a1
  have T2:Heap.IsList (Rv ⟨hp.push { cls:=.type "tuple_iterator",data:=.fields #[.ref l1,.int 0 0] },g,d,tk,os⟩) l2 ys:=by
   obtain⟨o,e,r⟩:=a2
   exact⟨o,Ma _ e,r⟩
  wp_walk using PB T1,Ry T2
  exact⟨_,rfl,h⟩
theorem Er {l1 l2:Addr} {xs ys:Array Mh} {Q:Mh->Mj->Prop} (t1:s.heap.IsTuple l1 xs) (t2:s.heap.IsList l2 ys)
  (h:∀ h',Pq h' (s.heap.objs.size+4) (s.heap.objs.size+2) (s.heap.objs.size+3) .none->O7 h' (s.heap.objs.size+2) (.ref s.heap.objs.size) (.ref (s.heap.objs.size+1))->O7 h' (s.heap.objs.size+3) .none .none →
   h'.IsTupleIter s.heap.objs.size l1 0->h'.IsListIter (s.heap.objs.size+1) l2 0->(∀ c o,s.heap.get? c=some o->h'.get? c=some o)->Q (.ref (s.heap.objs.size+4)) { s with heap:=h' }) :
  Mw (M6 prog w) A (call (.type "zip") [.ref l1,.ref l2]) Q E s:=by
 refine S9 F.called_zip (by decide) (F.typeCall_zip_2 _ _) (F.newCall_zip_2 _ _) (fun obj=>F.args_object_init_3 obj _ _) U5 (Jw l1 l2 xs ys) ⟨t1,t2,?_⟩
 have y1:(zA s.heap l1).objs.size=s.heap.objs.size+1:=N7 ..
 have y2:(uB (zA s.heap l1) l2).objs.size=s.heap.objs.size+2:=by rw[N7,y1]
 have y3:(uC s.heap l1 l2).objs.size=s.heap.objs.size+3:=by rw[N7,y2]
 have y4:(uD s.heap l1 l2).objs.size=s.heap.objs.size+4:=by rw[N7,y3]
 have w5:(uE s.heap l1 l2).get? (uD s.heap l1 l2).objs.size=some _:=Mm _ rfl
 have w4:(uE s.heap l1 l2).get? (uC s.heap l1 l2).objs.size=some _:=Ma _ (Mm _ rfl)
 have w3:(uE s.heap l1 l2).get? (uB (zA s.heap l1) l2).objs.size=some _:=Ma _ (Ma _ (Mm _ rfl))
 have w2:(uE s.heap l1 l2).get? (zA s.heap l1).objs.size=some _:=Ma _ (Ma _ (Ma _ (Mm _ rfl)))
 have w1:(uE s.heap l1 l2).get? s.heap.objs.size=some _:=Ma _ (Ma _ (Ma _ (Ma _ (Mm _ rfl))))
 show _/\_
 rw[y2,y3,y4] at w5; rw[y1,y2] at w3; rw[y3] at w4; rw[y1] at w2; rw[y4]
 exact⟨⟨_,w5,rfl⟩,h _ w5 w3 w4 ⟨_,w1,rfl,rfl⟩ ⟨_,w2,rfl,rfl⟩ fun c o u=>Ma _ (Ma _ (Ma _ (Ma _ (Ma _ u))))⟩
end
def Itu (K : Nq) (a b : Addr) : It :=
  ⟨fun i H => ∃ xs ys x y, SqT K H a xs ∧ SqL K H b ys ∧ xs[i]? = some x ∧ ys[i]? = some y,
   fun i H v H' => ∃ p x y, H p = none ∧ v = .ref p ∧ (∀ xs, SqT K H a xs → xs[i]? = some x) ∧ (∀ ys, SqL K H b ys → ys[i]? = some y) ∧ H' = upd H p (.tup [x, y]),
   fun i H => ∃ xs ys, SqT K H a xs ∧ SqL K H b ys ∧ (xs.length ≤ i ∨ ys.length ≤ i)⟩
def tnU (z p q i1 i2 a b:Addr) (i:Nat) (h:N5):Prop:=Pq h z p q .none/\O7 h p (.ref i1) (.ref i2)/\(∃ u v,O7 h q u v)/\h.IsTupleIter i1 a i/\h.IsListIter i2 b i
theorem Al {P:M8} {w:NQ} {K:Nq} {elts:List Expr} {x1} {pos:R8} {z p q i1 i2 a b:Addr} (D:Zap z p q i1 i2 a b) :
  Turn P w K (.Tuple elts x1 pos) (Itu K a b) [z,p,q,i1,i2] z (tnU z p q i1 i2 a b) where
 mem:=by simp
 obj:=fun i h st c hc=>by
  obtain⟨hz,hp,⟨u,v,hq⟩,⟨o1,e1,_,d1⟩,⟨o2,e2,_,d2⟩⟩:=st
  simp only[Og,Om,or_false] at hc
  rcases hc with rfl | rfl | rfl | rfl | rfl
  ·exact⟨_,hz,fun v z=>by cases z⟩
  ·exact⟨_,hp,fun v z=>by cases z⟩
  ·exact⟨_,hq,fun v z=>by cases z⟩
  ·exact⟨_,e1,fun v z=>by rw[d1] at z; cases z⟩
  ·exact⟨_,e2,fun v z=>by rw[d2] at z; cases z⟩
 keep:=fun i h h' st k=>by
  obtain⟨hz,hp,⟨u,v,hq⟩,⟨o1,e1,r1⟩,⟨o2,e2,r2⟩⟩:=st
  exact⟨k z (by simp) _ hz,k p (by simp) _ hp,⟨u,v,k q (by simp) _ hq⟩,⟨o1,k i1 (by simp) _ e1,r1⟩,⟨o2,k i2 (by simp) _ e2,r2⟩⟩
 item:=by
  intro X hP hw hK hc i pins s σ H E I hf st hg
  subst hP hw hK
  obtain⟨xs,ys,x,y,hx,hy,ex,ey⟩:=hg
  obtain⟨hz,hp,⟨u,v,hq⟩,j1,j2⟩:=st
  obtain⟨its,rv,tp,_⟩:=I.tuple hx
  obtain⟨its2,rv2,tp2,_⟩:=I.list hy
  obtain⟨xu,hxu,rx⟩:=rv.get ex
  obtain⟨yu,hyu,ry⟩:=rv2.get ey
  refine EY D hz hp hq j1 j2 (show s.heap.IsTuple a its.toArray from tp) (show s.heap.IsList b its2.toArray from tp2.isList) (x:=xu) (y:=yu) (by simpa using hxu) (by simpa using hyu) fun h' z' q' u1 u2 t' _ kp=>⟨_,rfl,?_⟩
  refine SX z' fun h2 z2 b2=>?_
  have lt:∀ {c o},s.heap.get? c=some o->c < s.heap.objs.size:=fun e=>Mx e
  have zne:s.heap.objs.size≠z:=Pb (lt hz)
  have hfr:H s.heap.objs.size=none:=I.fresh
  have I1:Inv X pins σ (upd H s.heap.objs.size (.tup [x,y])) { s with heap:=s.heap.push { cls:=.type "tuple",data:=.seq #[xu,yu] } } :=
   I.laid (t':=s.toks) (fun _ _ e=>Ma _ e) (Mt _) ⟨by show 2<=sizeLine; decide,[xu,yu],.cons rx (.cons ry .nil),⟨_,Mm _ rfl,rfl,_,rfl⟩⟩
  have blt:∀ c∈[z,p,q,i1,i2],c < s.heap.objs.size:=fun c hc=>by
   obtain⟨_,e1,_⟩:=j1
   obtain⟨_,e2,_⟩:=j2
   simp only[Og,Om,or_false] at hc
   rcases hc with rfl | rfl | rfl | rfl | rfl
   ·exact lt hz
   ·exact lt hp
   ·exact lt hq
   ·exact lt e1
   ·exact lt e2
  have ff:∀ c∈[z,p,q,i1,i2],rF X pins (upd H s.heap.objs.size (.tup [x,y])) c:=fun c hc=>by
   obtain⟨f0,fr⟩:=hf c hc
   exact⟨by rw[aL (Nb (blt c hc))]; exact f0,fr⟩
  have kk:∀ c o,c ∉ [z,q,i1,i2]->(s.heap.push { cls:=.type "tuple",data:=.seq #[xu,yu] }).get? c=some o->h2.get? c=some o:=fun c o hc e=>by
   have c1:c≠z:=fun h=>hc (by simp [h])
   refine (b2.2 c c1).trans ?_
   rcases R5 e with⟨ec,eo⟩ | e'
   ·subst ec
    subst eo
    exact t'
   ·exact kp c o c1 (fun h=>hc (by simp [h])) (fun h=>hc (by simp [h])) (fun h=>hc (by simp [h])) e'
  have I2:Inv X pins σ (upd H s.heap.objs.size (.tup [x,y])) { s with heap:=h2 } :=
   Inv.gH (s:={ s with heap:=s.heap.push { cls:=.type "tuple",data:=.seq #[xu,yu] } }) (h':=h2) (t':=s.toks) (ch:=[z,q,i1,i2]) I1 kk fun c hc=>ff c (by
    simp only[Og] at hc ⊢
    rcases hc with h | h | h | h
    ·exact .inl h
    ·exact .inr (.inr (.inl h))
    ·exact .inr (.inr (.inr (.inl h)))
    ·exact .inr (.inr (.inr (.inr h))))
  refine⟨.ref s.heap.objs.size,_,I2,rfl,⟨_,x,y,hfr,rfl,fun zs hzs=>?_,fun zs hzs=>?_,rfl⟩,⟨z2,(b2.2 _ D.pz).trans (kp _ _ D.pz D.pq D.pa D.pb hp),⟨_,_,(b2.2 _ D.qz).trans q'⟩,bf u1 b2 D.az,cu u2 b2 D.bz⟩,fun c hc=>(ff c hc).1⟩
  ·rw[I.dG hzs hx]; exact ex
  ·rw[I.nQ hzs hy]; exact ey
 done:=by
  intro X hP hw hK hc i pins s σ H E I hf st hg
  subst hP hw hK
  obtain⟨xs,ys,hx,hy,hend⟩:=hg
  obtain⟨hz,hp,⟨u,v,hq⟩,j1,j2⟩:=st
  obtain⟨its,rv,tp,_⟩:=I.tuple hx
  obtain⟨its2,rv2,tp2,_⟩:=I.list hy
  have l1:=rv.length
  have l2:=rv2.length
  refine JD (I.ok.hd hc) D hz hp hq j1 j2 (show s.heap.IsTuple a its.toArray from tp) (show s.heap.IsList b its2.toArray from tp2.isList) (hend.imp (fun h=>by simp; lia) fun h=>by simp; lia) fun h' kp=>⟨rfl,?_⟩
  exact I.gH (t':=s.toks) (ch:=[z,q,i1,i2]) (fun c o hc e=>kp c o (fun h=>hc (by simp [h])) (fun h=>hc (by simp [h])) (fun h=>hc (by simp [h])) (fun h=>hc (by simp [h])) e)
   fun c hc=>hf c (by simp only[Og] at hc ⊢; rcases hc with h | h | h | h; exact .inl h; exact .inr (.inr (.inl h)); exact .inr (.inr (.inr (.inl h))); exact .inr (.inr (.inr (.inr h))))
 self:=fun _ _ _ _ _ st h=>Q5 st.1 h
def Lh (K:Nq) (ta:TA):TI:=fun σ H R=>ta σ H fun vs H1=>∃ a b xs ys,vs=[.ref a,.ref b]/\SqT K H1 a xs/\SqL K H1 b ys/\R (Itu K a b) H1
theorem DN {X:Cx} {elts:List Expr} {x1} {tpos:R8} {a b:Expr} {ta:TA} {p pos:R8} (hg:Gl X "zip") (hm:X.mg "zip" = none) (ha:PA X [a,b] ta) (hs:Nm [a,b] X.env=[(false,Qd a X.env),(false,Qd b X.env)]:=by rfl) (hs2:Nm [b] X.env=[(false,Qd b X.env)]:=by rfl) :
  PI X (.Tuple elts x1 tpos) (.Call (.Name "zip" p) [a,b] [] pos) (Lh X.K ta):=by
 intro pins s σ H R I h
 refine Call_ (gm I hg hm boot_zip (Oe (thn (ha pos pins s σ H _ I h) fun us s1 ⟨vs,H1,I1,r1,q1⟩=>?_) (by rw[hs,hs2]) (by rw[hs2]; rfl)))
 obtain⟨c,d,xs,ys,e,hx,hy,q⟩:=q1
 subst e
 obtain⟨u1,u2,rfl,ru1,ru2⟩:=vals2 r1
 cases ru1
 cases ru2
 obtain⟨its,_,tp,_⟩:=I1.tuple hx
 obtain⟨its2,_,tp2,_⟩:=I1.list hy
 refine Er (show s1.heap.IsTuple c its.toArray from tp) (show s1.heap.IsList d its2.toArray from tp2.isList) fun h' z' p' q' j1 j2 kp=>?_
 have lc:c < s1.heap.objs.size:=by obtain⟨o,e,_⟩:=tp; exact Mx e
 have ld:d < s1.heap.objs.size:=by obtain⟨o,e,_⟩:=tp2.isList; exact Mx e
 have D:Zap (s1.heap.objs.size+4) (s1.heap.objs.size+2) (s1.heap.objs.size+3) s1.heap.objs.size (s1.heap.objs.size+1) c d:=yK lc ld
 refine Q5 z' ⟨_,_,_,_,H1,rfl,I1.kept (t':=s1.toks) kp,Al D,⟨z',p',⟨_,_,q'⟩,j1,j2⟩,fun e he=>?_,q⟩
 have hle:s1.heap.objs.size<=e:=by
  simp only[Og,Om,or_false] at he
  rcases he with rfl | rfl | rfl | rfl | rfl <;> lia
 exact I1.Ak hle (I1.hok.fresh hle)
theorem uw {K:Nq} {a b D:Addr} {xs ys:List V} {g:TG} {tt:TT} {te:TE} {H1:Hp} {Q:Hp->Prop} {σ0:St} (hlen:xs.length=ys.length) (Pv:Nat->List V->St->Hp->Prop) (h0:Pv 0 [] σ0 (upd H1 D (.lst [])))
  (hl:∀ i zs σ H,i<=xs.length->Pv i zs σ H->SqT K H a xs/\SqL K H b ys/\H D=some (.lst zs))
  (hs:∀ i zs x y p σ H,xs[i]? = some x->ys[i]? = some y->H p=none->Pv i zs σ H->g (.ref p) σ (upd H p (.tup [x,y])) fun σ3 H3=>tt σ3 H3 fun c H4=>if c=true then te σ3 H4 fun v H5=>H5 D=some (.lst zs)/\zs.length < sizeLine/\Pv (i+1) (zs++[v]) σ3 (upd H5 D (.lst (zs++[v]))) else Pv (i+1) zs σ3 H4)
  (hd:∀ zs σ H,Pv xs.length zs σ H->Q H):fU D σ0 (Itu K a b) g tt te H1 Q:=by
 refine⟨fun i m zs σ H=>m=xs.length - i/\i<=xs.length/\Pv i zs σ H,⟨xs.length,by simp,NP _,h0⟩,?_⟩
 rintro i m zs σ H ⟨rfl,hi,p⟩
 obtain⟨q1,q2,qD⟩:=hl i zs σ H hi p
 refine⟨qD,?_⟩
 by_cases hlt:i < xs.length
 ·have hlt2:i < ys.length:=by lia
  refine .inr ⟨⟨xs,ys,xs[i],ys[i],q1,q2,by simp [hlt],by simp [hlt2]⟩,Pv (i+1),fun zs' σ' H' p'=>⟨xs.length - (i+1),by lia,rfl,hlt,p'⟩,fun v H' y=>?_⟩
  obtain⟨pp,x,y,hp,rfl,hx,hy,rfl⟩:=y
  exact hs i zs x y pp σ _ (hx xs q1) (hy ys q2) hp p
 ·have e:i=xs.length:=by lia
  subst e
  exact .inl ⟨⟨xs,ys,q1,q2,.inl (Mt _)⟩,hd zs σ H p⟩
end L2
namespace L2
open PySem PySem.Spec PyProof.Rows
section
variable {X:Cx} {k:Nat}
def BR (K:Nq):R2:=fun x y H Q=>∃ (a b:Addr) (ns ms:List Int),x = .ref a/\y = .ref b/\SqT K H a (ns.map V.int)/\SqT K H b (ms.map V.int)/\Q (.bl (!decide (ns=ms))) H
theorem sX (hu:X.A.units < cLine):OpR X (Qg .NotEq) (BR X.K):=by
 intro pins s σ H x y v u Q I rx ry h
 obtain⟨a,b,ns,ms,rfl,rfl,ha,hb,q⟩:=h
 cases rx
 cases ry
 obtain⟨its,r1,p1,_⟩:=I.tuple ha
 obtain⟨its2,r2,p2,_⟩:=I.tuple hb
 have i1:Ow its ns:=intsAre_of r1
 have i2:Ow its2 ms:=intsAre_of r2
 have l1:=i1.length
 have l2:=i2.length
 have r:=SeqAt.RcNeAt.tuples (e:=fun j=>ns.getD j 0 == ms.getD j 0) (show s.heap.IsTuple a its.toArray from p1) (show s.heap.IsTuple b its2.toArray from p2) hu fun j h1 h2=>by
  obtain⟨t,e1⟩:=ints_get i1 (j:=j) (by simpa using h1)
  obtain⟨t',e2⟩:=ints_get i2 (j:=j) (by simpa using h2)
  rw[Qq,Qq,e1,e2]
  exact Sx _ _ _ _
 have e:=jh ns ms
 have s1:its.toArray.size=ns.length:=by rw[Mq]; exact l1
 have s2:its2.toArray.size=ms.length:=by rw[Mq]; exact l2
 rw[s1,s2,e] at r
 exact r X.prog X.w X.xe _ ⟨.bl _,H,I,rfl,q⟩
end
end L2
namespace L2
open PySem PySem.Spec PyProof.Rows
theorem uQ {X:Cx} {tg l:Expr} {tl:TE} (K:Nq) (hK:X.K=K) (hl:PE X l tl):PI X tg l (Jo K tl):=by
 subst hK
 exact cB hl
end L2
namespace L2
open PySem PySem.Spec PyProof.Rows
theorem Draws.Dc {prog:M8} {w:NQ} {A:N8} (hh:A.handled=none) (it l:Addr) (hne:l≠it) (items:Array Mh) :
  Draws prog w A it [it,l] items.size (fun i v=>items[i]? = some v) (fun i h=>h.IsTupleIter it l i/\h.IsTuple l items) where
 live:=fun _ _ st=>let ⟨o,ho,_⟩:=st.1; ⟨o,ho⟩
 frame:=fun _ _ _ st hk=>by
  obtain⟨⟨o1,q1,r1⟩,⟨o2,q2,r2⟩⟩:=st
  exact⟨⟨o1,hk it (by simp) o1 q1,r1⟩,⟨o2,hk l (by simp) o2 q2,r2⟩⟩
 item:=fun i s Q E hi st hQ=>by
  refine gG st.1 st.2 (x:=items[i]) (by simp [hi]) fun h' j' sb=>?_
  exact hQ _ h' s.toks (by simp [hi]) ⟨j',cI st.2 sb hne⟩ sb
 done:=fun s Q E st hE=>uZ hh st.1 st.2 (by simp) hE
theorem xP (l:Addr) (xs:Array Mh) :
  UT (Qf.«enumerate.__new__» ⟨[.type "enumerate",.ref l],[]⟩) (fun _ R s=>s.heap.IsTuple l xs/\R (.ok (.ret (.ref (zA s.heap l).objs.size))) { s with heap:=(zA s.heap l).push { cls:=.type "enumerate",data:=.fields #[.none,.bool false,.ref s.heap.objs.size,QV 0,.none,.none] } }) :=
 .of_wp fun prog w A R s h=>by
  obtain⟨hp,g,d,tk,os⟩:=s; obtain⟨hl,h⟩:=h
  have hsub:=sub_enumerate
  have hL:Sh (Rv ⟨hp,g,d,tk,os⟩) l xs:=hl
  wp_walk
  refine wpAny_stack_any fun st=>Mp ?_
  split
  ·rename_i c _ _ _ _ _
   cases (c == Value.type "enumerate") <;> (wp_walk using PB hL; exact⟨_,rfl,h⟩)
  ·wp_walk using PB hL
   exact⟨_,rfl,h⟩
theorem vB {prog:M8} {w:NQ} {A:N8} {E:Mh->Mj->Prop} {s:Mj} {l:Addr} {xs:Array Mh} {Q:Mh->Mj->Prop} (hl:s.heap.IsTuple l xs)
  (h:∀ h',IsEnum h' (s.heap.objs.size+1) s.heap.objs.size 0 .none->h'.IsTupleIter s.heap.objs.size l 0->(∀ b o,s.heap.get? b=some o->h'.get? b=some o)->Q (.ref (s.heap.objs.size+1)) { s with heap:=h' }) :
  Mw (M6 prog w) A (call (.type "enumerate") [.ref l]) Q E s:=by
 refine S9 F.called_enumerate (by decide) (F.typeCall_enumerate_1 _) (F.newCall_enumerate_1 _) (fun obj=>F.args_object_init_2 obj _) F.entry_enumerate_new (xP l xs) ⟨hl,?_⟩
 have hz:(zA s.heap l).objs.size=s.heap.objs.size+1:=N7 ..
 show _/\_
 have he:((zA s.heap l).push { cls:=.type "enumerate",data:=.fields #[.none,.bool false,.ref s.heap.objs.size,QV 0,.none,.none] }).get? (zA s.heap l).objs.size=some _:=Mm _ rfl
 rw[hz] at he ⊢
 exact⟨⟨_,he,rfl⟩,h _ he ⟨_,Ma _ (Mm _ rfl),rfl,rfl⟩ fun b o x=>Ma _ (Ma _ x)⟩
def Itm (K : Nq) (a : Addr) : It :=
  ⟨fun i H => ∃ xs x, SqT K H a xs ∧ xs[i]? = some x,
   fun i H v H' => ∃ p x, H p = none ∧ v = .ref p ∧ (∀ xs, SqT K H a xs → xs[i]? = some x) ∧ H' = upd H p (.tup [.int (i : Int), x]),
   fun i H => ∃ xs, SqT K H a xs ∧ xs.length = i⟩
def tnM (e it a:Addr) (i:Nat) (h:N5):Prop:=(∃ old,IsEnum h e it (i:Int) old)/\h.IsTupleIter it a i
theorem vA {P:M8} {w:NQ} {K:Nq} {elts:List Expr} {x1} {pos:R8} {e it a:Addr} (hne:e≠it) :
  Turn P w K (.Tuple elts x1 pos) (Itm K a) [e,it] e (tnM e it a) where
 mem:=by simp
 obj:=fun i h st c hc=>by
  obtain⟨⟨old,he⟩,⟨o,ho,_,d⟩⟩:=st
  simp only[Og,Om,or_false] at hc
  rcases hc with rfl | rfl
  ·exact⟨_,he,fun v z=>by cases z⟩
  ·exact⟨_,ho,fun v z=>by rw[d] at z; cases z⟩
 keep:=fun i h h' st k=>by
  obtain⟨⟨old,he⟩,j⟩:=st
  exact⟨⟨old,k e (by simp) _ he⟩,j.at fun o q=>k it (by simp) o q⟩
 item:=by
  intro X hP hw hK hc i pins s σ H E I hf st hg
  subst hP hw hK
  obtain⟨xs,x,hx,ex⟩:=hg
  obtain⟨⟨old,he⟩,j⟩:=st
  obtain⟨its,rv,pl,_⟩:=I.tuple hx
  obtain⟨xu,hxu,rx⟩:=rv.get ex
  have tl:a≠it:=fun z=>by
   obtain⟨o1,q1,c1,_⟩:=j
   obtain⟨o2,q2,c2,_⟩:=(show s.heap.IsTuple a its.toArray from pl)
   rw[z,q1] at q2
   cases q2
   rw[c1] at c2
   injection c2 with z2
   exact absurd z2 (by decide)
  have te:a≠e:=fun z=>by
   obtain⟨o2,q2,c2,_⟩:=(show s.heap.IsTuple a its.toArray from pl)
   rw[z,he] at q2
   cases q2
   injection c2 with z2
   exact absurd z2 (by decide)
  have hin:i < its.toArray.size:=by
   have:=(List.getElem?_eq_some_iff.mp hxu).1
   simpa using this
  refine wpAny_pyNext_enum_itemD (Draws.Dc (A:=X.A.in1) (I.ok.hd hc) it a tl its.toArray) he ⟨j,show s.heap.IsTuple a its.toArray from pl⟩ hin hne (by simp [hne,te.symm]) fun x' h' tk hP e1 st1 t1 z1 kp=>⟨_,rfl,?_⟩
  obtain⟨j1,_⟩:=st1
  have ex':x'=xu:=by
   have hP':its.toArray[i]? = some x':=hP
   rw[show its.toArray[i]? = some xu by simpa using hxu] at hP'
   exact (M9 hP').symm
  subst x'
  refine wpAny_letOwnedTupleGo_enum e1 fun h2 e2 b2=>?_
  have el:e < s.heap.objs.size:=Mx he
  have il:it < s.heap.objs.size:=by obtain⟨o,q,_⟩:=j; exact Mx q
  have I1:Inv X pins σ (upd H s.heap.objs.size (.tup [.int (i:Int),x])) { s with heap:=s.heap.push { cls:=.type "tuple",data:=.seq #[.int i tk,xu] },toks:=tk+1 } :=
   I.laid (t':=tk+1) (fun _ _ q=>Ma _ q) (Mt _) ⟨by show 2<=sizeLine; decide,[.int i tk,xu],.cons ⟨_,rfl⟩ (.cons rx .nil),⟨_,Mm _ rfl,rfl,_,rfl⟩⟩
  have ff:∀ c∈[e,it],rF X pins (upd H s.heap.objs.size (.tup [.int (i:Int),x])) c:=fun c hc=>by
   obtain⟨f0,fr⟩:=hf c hc
   have cl:c < s.heap.objs.size:=by
    simp only[Og,Om,or_false] at hc
    rcases hc with rfl | rfl
    ·exact el
    ·exact il
   exact⟨by rw[aL (Nb cl)]; exact f0,fr⟩
  have kk:∀ c o,c ∉ [e,it]->(s.heap.push { cls:=.type "tuple",data:=.seq #[.int i tk,xu] }).get? c=some o->h2.get? c=some o:=fun c o hc q=>by
   have c1:c≠e:=fun h=>hc (by simp [h])
   have c2:c≠it:=fun h=>hc (by simp [h])
   refine (b2.2 c c1).trans ?_
   rcases R5 q with⟨ec,eo⟩ | q'
   ·subst ec
    subst eo
    exact t1
   ·exact kp c o c1 c2 q'
  have I2:Inv X pins σ (upd H s.heap.objs.size (.tup [.int (i:Int),x])) { s with heap:=h2,toks:=tk+1 } :=
   Inv.gH (s:={ s with heap:=s.heap.push { cls:=.type "tuple",data:=.seq #[.int i tk,xu] },toks:=tk+1 }) (h':=h2) (t':=tk+1) (ch:=[e,it]) I1 kk ff
  refine⟨.ref s.heap.objs.size,_,I2,rfl,⟨_,x,I.fresh,rfl,fun zs hzs=>?_,rfl⟩,⟨⟨_,e2⟩,j1.at fun o q=>(b2.2 it (Rk hne)).trans q⟩,fun c hc=>(ff c hc).1⟩
  rw[I.dG hzs hx]; exact ex
 done:=by
  intro X hP hw hK hc i pins s σ H E I hf st hg
  subst hP hw hK
  obtain⟨xs,hx,hend⟩:=hg
  obtain⟨⟨old,he⟩,j⟩:=st
  obtain⟨its,rv,pl,_⟩:=I.tuple hx
  have l1:=rv.length
  have tl:a≠it:=fun z=>by
   obtain⟨o1,q1,c1,_⟩:=j
   obtain⟨o2,q2,c2,_⟩:=(show s.heap.IsTuple a its.toArray from pl)
   rw[z,q1] at q2
   cases q2
   rw[c1] at c2
   injection c2 with z2
   exact absurd z2 (by decide)
  have hin:i=its.toArray.size:=by
   rw[Mq]
   lia
  refine wpAny_pyNext_enum_endD (Draws.Dc (A:=X.A.in1) (I.ok.hd hc) it a tl its.toArray) he ⟨by rw[← hin]; exact j,show s.heap.IsTuple a its.toArray from pl⟩ fun h' eb=>⟨rfl,?_⟩
  exact I.gH (t':=s.toks) (ch:=[e,it]) (fun c o hc q=>eb c o (fun h=>hc (by simp [h])) q) hf
 self:=fun _ _ _ _ _ st h=>by
  obtain⟨⟨old,he⟩,_⟩:=st
  exact wpAny_pyIter_enum he h
def Jg (K:Nq) (ta:TA):TI:=fun σ H R=>ta σ H fun vs H1=>∃ a xs,vs=[.ref a]/\SqT K H1 a xs/\R (Itm K a) H1
theorem uR {X:Cx} {elts:List Expr} {x1} {tpos:R8} {a:Expr} {ta:TA} {p pos:R8} (hg:Gl X "enumerate") (hm:X.mg "enumerate" = none) (ha:PA X [a] ta) (hs:Nm [a] X.env=[(false,Qd a X.env)]:=by rfl) :
  PI X (.Tuple elts x1 tpos) (.Call (.Name "enumerate" p) [a] [] pos) (Jg X.K ta):=by
 intro pins s σ H R I h
 refine Call_ (gm I hg hm boot_enumerate (Oe (thn (ha pos pins s σ H _ I h) fun us s1 ⟨vs,H1,I1,r1,q1⟩=>?_) hs rfl))
 obtain⟨c,xs,e,hx,q⟩:=q1
 subst e
 obtain⟨u1,rfl,ru1⟩:=vals1 r1
 cases ru1
 obtain⟨its,rv,tp,_⟩:=I1.tuple hx
 refine vB (show s1.heap.IsTuple c its.toArray from tp) fun h' e1 j1 kp=>?_
 have en:s1.heap.objs.size+1≠s1.heap.objs.size:=Pb (RM _)
 refine wpAny_pyIter_enum e1 ⟨_,_,_,_,H1,rfl,I1.kept (t':=s1.toks) kp,vA (a:=c) en,⟨⟨_,e1⟩,j1⟩,fun b hb=>?_,q⟩
 have hle:s1.heap.objs.size<=b:=by
  simp only[Og,Om,or_false] at hb
  rcases hb with rfl | rfl
  ·exact QX _
  ·exact Mt _
 exact I1.Ak hle (I1.hok.fresh hle)
theorem mK {K:Nq} {a D:Addr} {xs:List V} {g:TG} {tt:TT} {te:TE} {H1:Hp} {Q:Hp->Prop} {σ0:St} (Pv:Nat->List V->St->Hp->Prop) (h0:Pv 0 [] σ0 (upd H1 D (.lst [])))
  (hl:∀ i zs σ H,i<=xs.length->Pv i zs σ H->SqT K H a xs/\H D=some (.lst zs))
  (hs:∀ i zs x p σ H,xs[i]? = some x->H p=none->Pv i zs σ H->g (.ref p) σ (upd H p (.tup [.int (i:Int),x])) fun σ3 H3=>tt σ3 H3 fun c H4=>if c=true then te σ3 H4 fun v H5=>H5 D=some (.lst zs)/\zs.length < sizeLine/\Pv (i+1) (zs++[v]) σ3 (upd H5 D (.lst (zs++[v]))) else Pv (i+1) zs σ3 H4)
  (hd:∀ zs σ H,Pv xs.length zs σ H->Q H):fU D σ0 (Itm K a) g tt te H1 Q:=by
 refine⟨fun i m zs σ H=>m=xs.length - i/\i<=xs.length/\Pv i zs σ H,⟨xs.length,by simp,NP _,h0⟩,?_⟩
 rintro i m zs σ H ⟨rfl,hi,p⟩
 obtain⟨q1,qD⟩:=hl i zs σ H hi p
 refine⟨qD,?_⟩
 by_cases hlt:i < xs.length
 ·refine .inr ⟨⟨xs,xs[i],q1,by simp [hlt]⟩,Pv (i+1),fun zs' σ' H' p'=>⟨xs.length - (i+1),by lia,rfl,hlt,p'⟩,fun v H' y=>?_⟩
  obtain⟨pp,x,hp,rfl,hx,rfl⟩:=y
  exact hs i zs x pp σ _ (hx xs q1) hp p
 ·have e:i=xs.length:=by lia
  subst e
  exact .inl ⟨⟨xs,q1,rfl⟩,hd zs σ H p⟩
end L2
namespace L2
open PySem PySem.Spec PyProof.Rows
def wz (ta:TA):TE:=fun σ H Q=>ta σ H fun vs H1=>∃ n:Nat,vs=[.int (n:Int)]/\n<=1000/\∀ l,H1 l=none->Q (.ref l) (upd H1 l (.lst (((Ms n).map fun i:Nat=>(i:Int)).map V.int)))
theorem vI {n:Nat} {acc:Array Mh} (h:ItemsOf (fun i v=>∃ t,v = .int (0+(i:Int) * 1) t) acc n):Vals (((Ms n).map fun i:Nat=>(i:Int)).map V.int) acc.toList:=by
 have key:∀ (m:Nat) (us:List Mh),us.length=m->(∀ (j:Nat) (v:Mh),us[j]? = some v->∃ t,v = .int (j:Int) t)->Vals (((Ms m).map fun i:Nat=>(i:Int)).map V.int) us:=by
  intro m
  induction m with
  | zero =>
   intro us hl _
   rw[List.length_eq_zero_iff.mp hl]
   exact .nil
  | succ m ih =>
   intro us hl hj
   rw[Pg,Mu,Mu]
   have hm:m < us.length:=by lia
   have e:us=us.take m++[us[m]]:=by
    rw[List.take_append_getElem hm,RC (by lia)]
   rw[e]
   have h1:=ih (us.take m) (by rw[Nf]; lia) fun j v hv=>by
    rw[List.getElem?_take] at hv
    split at hv
    ·exact hj j v hv
    ·cases hv
   obtain⟨t,ht⟩:=hj m us[m] (Mi hm)
   exact h1.append (.cons ⟨t,ht⟩ .nil)
 refine key n acc.toList (by rw[Nr]; exact h.1) fun j v hv=>?_
 obtain⟨t,ht⟩:=h.2 j v (by rw[← Pz]; exact hv)
 exact⟨t,by rw[ht]; congr 1; lia⟩
theorem jL {X:Cx} {e:Expr} {te:TA} {p1 p2 q1 q2:R8} (hc:X.calm=true) (hg1:Gl X "list") (hm1:X.mg "list" = none) (hg2:Gl X "range") (hm2:X.mg "range" = none) (ha:PA X [e] te)
  (hb1:Oa "list" = some (.type "list"):=by decide+kernel) (hb2:Oa "range" = some (.type "range"):=by decide+kernel)
  (he1:Nm [.Call (.Name "range" p2) [e] [] q2] X.env=(false,Qd (.Call (.Name "range" p2) [e] [] q2) X.env)::Nm [] X.env:=by rfl) (hp1:(Ru q1 (Nm [] X.env)).any (·.1)=false:=by rfl)
  (he2:Nm [e] X.env=(false,Qd e X.env)::Nm [] X.env:=by rfl) (hp2:(Ru q2 (Nm [] X.env)).any (·.1)=false:=by rfl) :
  PE X (.Call (.Name "list" p1) [.Call (.Name "range" p2) [e] [] q2] [] q1) (wz te):=by
 intro pins s σ H Q I h
 refine QB (gm I hg1 hm1 hb1 ?_ (by decide) (by decide))
 refine Oe ?_ he1 hp1
 rw[he1]
 refine (show Mw _ _ (spliced ((false,Qd (.Call (.Name "range" p2) [e] [] q2) X.env)::Ru q1 (Nm [] X.env))) _ _ s from Calls.spliced_cons ?_)
 refine QB (gm I hg2 hm2 hb2 ?_ (by decide) (by decide))
 refine Oe (thn (ha q2 pins s σ H _ I h) fun us s1 ⟨vs,H1,I1,r1,q⟩=>?_) he2 hp2
 obtain⟨n,rfl,hn,hQ⟩:=q
 obtain⟨u,rfl,ru⟩:=vals1 r1
 obtain⟨t,rfl⟩:=ru
 refine call_range_1 ?_
 refine (show Mw _ _ (spliced []) _ _ _ from Calls.spliced_nil ?_)
 have I2:Inv X pins σ H1 { s1 with heap:=s1.heap.push { cls:=.type "range",data:=.fields #[.int 0 s1.toks,.int (n:Int) t,.int 1 (s1.toks+1)] },toks:=s1.toks+1+1 }:=I1.kept fun b o e=>Ma _ e
 refine call_list_range (n:=n) (I1.ok.hd hc) (IsRange.new ..) (small_one (by decide) (by decide) (by lia) (by lia)) (by rw[rangeSize_one]; split <;> lia) (by lia) fun h' tk acc c hk hD hI=>?_
 refine⟨.ref _,_,I2.laid (t':=tk) (o:=.lst (((Ms n).map fun i:Nat=>(i:Int)).map V.int)) hk (Mt _) ⟨?_,acc.toList,c,vI hI,?_⟩,rfl,hQ _ (I2.hok.fresh (Mt _))⟩
 ·rw[Mf,Mf,MN]
  exact Ob hn (by decide)
 ·rw[Array.toArray_toList]
  exact hD
section
variable {X:Cx}
end
end L2
namespace L2
open PySem PySem.Spec PyProof.Rows
end L2
namespace L2
open PySem PySem.Spec PyProof.Rows PySem.W
section
variable {prog:M8} {w:NQ} {A:N8} {E:Mh->Mj->Prop} {κ:Rz} {it:Array Keyed} {s:Mj}
end
theorem qN:∀ (l:List (Addr × List Int)) (us:List Mh),Vals (l.map fun p=>V.ref p.1) us->us=l.map fun p=>NB p.1
 | [],_,z=>by cases z; rfl
 | p::l,_,z=>by
  cases z with
  | cons e t =>
   cases e
   rw[qN l _ t]
   rfl
section
variable {X:Cx}
end
end L2
namespace L2
open PySem PySem.W PyProof.Rows
def im (it:Array Keyed) (l:List Nat):Array Keyed:=(l.map (kas_item it)).toArray
section
variable (prog:M8) (w:NQ) (A:N8) (E:Mh->Mj->Prop) (κ:Rz) (it:Array Keyed) (s:Mj)
end
section
variable {prog:M8} {w:NQ} {A:N8} {E:Mh->Mj->Prop} {κ:Rz} {it:Array Keyed} {s:Mj}
end
section
variable (o:Nat->Nat->Bool) (N:Nat)
end
section
variable {prog:M8} {w:NQ} {A:N8} {E:Mh->Mj->Prop} {κ:Rz} {it:Array Keyed} {s:Mj} {o:Nat->Nat->Bool} {N:Nat}
end
section
variable {prog:M8} {w:NQ} {A:N8} {E:Mh->Mj->Prop} {κ:Rz} {it:Array Keyed} {s:Mj} {o:Nat->Nat->Bool} {N:Nat}
end
section
variable {prog:M8} {w:NQ} {A:N8} {E:Mh->Mj->Prop} {κ:Rz} {it:Array Keyed} {s:Mj} {o:Nat->Nat->Bool} {N:Nat}
end
def cQ:Nat->List (List Nat)
 | 0=>[[]]
 | n+1=>cQ n++(cQ n).map (·++[n])
end L2
namespace L2
open PySem PySem.Spec PyProof.Rows PySem.W PySem.SeqAt
open AutoSeq1 (wpAny_loadPart')
open MeetsSeq MeetsSeq2 MeetsSeq3
theorem jy:∀ {vs:List Mh} {ns:List Int} {i:Nat} {n:Int},Ow vs ns->ns[i]? = some n->∃ t,vs[i]? = some (.int n t)
 | _,_,i,_,.nil,h=>by simp at h
 | _,_,0,_,.cons m t r,h=>by
  cases h
  exact⟨t,rfl⟩
 | _,_,i+1,n,.cons m t r,h=>by
  obtain⟨t',e⟩:=jy (i:=i) r (by simpa using h)
  exact⟨t',by simpa using e⟩
section
variable {prog:M8} {w:NQ} {A:N8} {E:Mh->Mj->Prop} {s:Mj}
def oA (h h':N5) (a:Addr):Prop:=∀ b o,b≠a->h.get? b=some o->h'.get? b=some o
theorem Ae {l b:Addr} {its its2:List Mh} {ns ms:List Int} {Q:Bool->Mj->Prop} (hl:s.heap.IsList l its.toArray) (hb:s.heap.IsList b its2.toArray) (i1:Ow its ns) (i2:Ow its2 ms) (hsz:ns.length=ms.length) (hu:A.units < cLine) (h:Q (decide (ns=ms)) s):Mw (M6 prog w) A (eqBool (.ref l) (.ref b)) Q E s:=by
 have s1:its.toArray.size=ns.length:=by rw[Mq]; exact i1.length
 have s2:its2.toArray.size=ms.length:=by rw[Mq]; exact i2.length
 have e:=jh ns ms
 by_cases hne:l=b
 ·subst hne
  obtain⟨o1,e1,c1,n1,d1⟩:=hl
  obtain⟨o2,e2,c2,n2,d2⟩:=hb
  rw[e1] at e2
  cases e2
  rw[d1] at d2
  have ei:its=its2:=by injection d2 with d2; simpa using d2
  subst ei
  have en:ns=ms:=by rw[← i1.numsOf,← i2.numsOf]
  rw[decide_eq_true en] at h
  exact SeqAt.EqAt.same _ prog w E _ h
 ·have r:=SeqAt.RcAt.lists (A:=A) (e:=fun j=>ns.getD j 0 == ms.getD j 0) hl hb (by rw[s1,s2]; exact hsz) hu fun j h1 h2=>by
   obtain⟨t,e1⟩:=ints_get i1 (j:=j) (by simpa using h1)
   obtain⟨t',e2⟩:=ints_get i2 (j:=j) (by simpa using h2)
   rw[Qq,Qq,e1,e2]
   exact Sx _ _ _ _
  rw[← hsz,Nat.min_self,beq_self_eq_true,Bool.and_true] at e
  rw[s1,e] at r
  exact SeqAt.EqAt.of_refs hne r prog w E _ h
theorem fB:∀ ns:List Int,HT.lexLt ns ns=false
 | []=>rfl
 | a::r=>by rw[HT.gU,if_pos rfl]; exact fB r
end
section
variable {X:Cx} {k:Nat}
theorem tL {ps:List (Addr × List Int)}:∀ pm:List Nat,(∀ i∈pm,i < ps.length)->Vals (pm.map fun i=>V.ref (ps.getD i (0,[])).1) (pm.map fun i=>(ps.map fun p=>NB p.1).getD i Oc)
 | [],_=>.nil
 | i::pm,h=>by
  have hi:=h i Ml
  refine .cons ?_ (tL pm fun j hj=>h j (MF _ hj))
  show (ps.map fun p=>NB p.1).getD i Oc = .ref (ps.getD i (0,[])).1
  simp [hi]
end
end L2
namespace L2
open PySem PySem.Spec PyProof.Rows
structure HB (z p q i1 i2 i3 l1 l2 l3:Addr):Prop where
 pz:p≠z
 qz:q≠z
 az:i1≠z
 bz:i2≠z
 cz:i3≠z
 pq:p≠q
 pa:p≠i1
 pb:p≠i2
 pc:p≠i3
 qa:q≠i1
 qb:q≠i2
 qc:q≠i3
 ab:i1≠i2
 ac:i1≠i3
 bc:i2≠i3
 xz:l1≠z
 yz:l2≠z
 vz:l3≠z
 xq:l1≠q
 yq:l2≠q
 vq:l3≠q
 ya:l2≠i1
 va:l3≠i1
 vb:l3≠i2
theorem BX {n c d e:Nat} (hc:c < n) (hd:d < n) (he:e < n):HB (n+5) (n+3) (n+4) n (n+1) (n+2) c d e:=by
 constructor <;> (refine (fun (h:¬ @Eq Nat _ _)=>h) ?_) <;> lia
abbrev gw (h:N5) (p:Addr) (a b c:Mh):Prop:=h.get? p=some { cls:=.type "tuple",data:=.seq #[a,b,c] }
theorem mq (a b c:Mh):checkTypeCall "zip" ⟨[a,b,c],[]⟩=pure ():=by kernel_rfl
theorem nO (a b c:Mh):checkBuiltinCall "zip.__new__" ⟨[.type "zip",a,b,c],[]⟩=pure ():=by kernel_rfl
theorem jn (a b c d:Mh):TV "object.__init__" ⟨[a,b,c,d],[]⟩:=by
 have e:=signature?_of (id:="object.__init__") (n:=['_','_','t','i','n','i','_','_']) (o:=['t','c','e','j','b','o']) (by kernel_rfl) F.owner_object
 unfold TV
 rw[e]
 kernel_rfl
section
variable {prog:M8} {w:NQ} {A:N8} {E:Mh->Mj->Prop} {s:Mj}
theorem cP {T:Addr} {a b c x:Mh} {k:Nat} {Q:Unit->Mj->Prop} (hT:gw s.heap T a b c)
  (h:∀ h',h'.get? T=some { cls:=.type "tuple",data:=.seq ((#[a,b,c]:Array Mh).setIfInBounds k x) }->Qs T s.heap h'->Q () { s with heap:=h' }) :
  Mw (M6 prog w) A (updateSeq T (·.setIfInBounds k x)) Q E s:=by
 refine Ti hT rfl (h _ ?_ (Qw ..))
 rw[Py _ hT rfl]
 simp [O2]
theorem DX {z p q i1 i2 i3 l1 l2 l3:Addr} {k:Nat} {xs ys vs:Array Mh} {x y v a b c:Mh} {Q:Option Mh->Mj->Prop} (D:HB z p q i1 i2 i3 l1 l2 l3)
  (hz:Pq s.heap z p q .none) (hp:gw s.heap p (.ref i1) (.ref i2) (.ref i3)) (hq:gw s.heap q a b c) (j1:s.heap.IsListIter i1 l1 k) (j2:s.heap.IsTupleIter i2 l2 k) (j3:s.heap.IsTupleIter i3 l3 k) (t1:s.heap.IsList l1 xs) (t2:s.heap.IsTuple l2 ys) (t3:s.heap.IsTuple l3 vs)
  (hx:xs[k]? = some x) (hy:ys[k]? = some y) (hv:vs[k]? = some v)
  (hQ:∀ h',Pq h' z p q (QV s.heap.objs.size)->gw h' q x y v->h'.IsListIter i1 l1 (k+1)->h'.IsTupleIter i2 l2 (k+1)->h'.IsTupleIter i3 l3 (k+1)->gw h' s.heap.objs.size x y v->h'.objs.size=s.heap.objs.size+1 →
   (∀ c o,c≠z->c≠q->c≠i1->c≠i2->c≠i3->s.heap.get? c=some o->h'.get? c=some o)->Q (some (.ref s.heap.objs.size)) { s with heap:=h' }):Mw (M6 prog w) A (Qx (.ref z)) Q E s:=by
 have hT:s.TypeIs (.ref z) "zip":=⟨_,hz,rfl⟩; unfold Qx
 refine LR (Qt (Oj (name:=Qo "__next__") hT O6 (Ox O6 hT Rb ?_ (QR _))))
 show Mw _ _ (S6 (.ref z) 2 >>= _) _ _ _; refine LR (Nh hz rfl (x:=.bool false) rfl ?_)
 show Mw _ _ (S6 (.ref z) 3 >>= _) _ _ _; refine LR (Nh hz rfl (x:=.ref p) rfl ?_); refine LR (Nx hp rfl ?_)
 show Mw _ _ (M3 (.ref z) >>= _) _ _ _; refine LR ?_; unfold M3
 refine LR (Nh hz rfl (x:=.none) rfl (Mp ?_)); simp only[if_true]; refine LR (Rr ?_); refine LR (Nh hz rfl (x:=.ref q) rfl ?_)
 refine LR (NK hz (by simp) fun h1 z1 b1=>?_); replace z1:Pq h1 z p q .ellipsis:=z1
 refine LR ?_; simp only[Q8,Rm,Qk,Qy]; refine LR (LR (Pk ?_))
 show Mw _ _ (M5 (.ref i1) >>= _) _ _ _
 refine LR (wpAny_nextOf_list_item (cu j1 b1 D.az) (jJ t1 b1 D.xz) hx fun h2 u1 b2=>Mp ?_)
 have q2:gw h2 q a b c:=(b2.2 _ D.qa).trans ((b1.2 _ D.qz).trans hq); refine LR (Nx q2 rfl ?_); refine LR (cP q2 fun h3 q3 b3=>?_)
 replace q3:gw h3 q x b c:=q3; refine LR (PK (Mp ?_)); refine LR (LR (Pk ?_))
 show Mw _ _ (M5 (.ref i2) >>= _) _ _ _
 refine LR (gG (bf (bf (bf j2 b1 D.bz) b2 D.ab.symm) b3 D.qb.symm) (cI (cI (cI t2 b1 D.yz) b2 D.ya) b3 D.yq) hy fun h4 u2 b4=>Mp ?_)
 have q4:gw h4 q x b c:=(b4.2 _ D.qb).trans q3; refine LR (Nx q4 rfl ?_); refine LR (cP q4 fun h5 q5 b5=>?_)
 replace q5:gw h5 q x y c:=q5; refine LR (PK (Mp ?_)); refine LR (LR (Pk ?_))
 show Mw _ _ (M5 (.ref i3) >>= _) _ _ _
 have j35:h5.IsTupleIter i3 l3 k:=bf (bf (bf (bf (bf j3 b1 D.cz) b2 D.ac.symm) b3 D.qc.symm) b4 D.bc.symm) b5 D.qc.symm
 have t35:h5.IsTuple l3 vs:=cI (cI (cI (cI (cI t3 b1 D.vz) b2 D.va) b3 D.vq) b4 D.vb) b5 D.vq
 refine LR (gG j35 t35 hv fun h6 u3 b6=>Mp ?_)
 have q6:gw h6 q x y c:=(b6.2 _ D.qc).trans q5; refine LR (Nx q6 rfl ?_); refine LR (cP q6 fun h7 q7 b7=>?_)
 replace q7:gw h7 q x y v:=q7; refine LR (PK (Mp (Mp ?_))); refine LR (Nx q7 rfl ?_); refine LR (Tz ?_)
 have sz:h7.objs.size=s.heap.objs.size:=by rw[b7.1,b6.1,b5.1,b4.1,b3.1,b2.1,b1.1]
 have z7:Pq h7 z p q .ellipsis:=(b7.2 _ D.qz.symm).trans ((b6.2 _ D.cz.symm).trans ((b5.2 _ D.qz.symm).trans ((b4.2 _ D.bz.symm).trans ((b3.2 _ D.qz.symm).trans ((b2.2 _ D.az.symm).trans z1)))))
 have kp:∀ c o,c≠z->c≠q->c≠i1->c≠i2->c≠i3->s.heap.get? c=some o->h7.get? c=some o:=fun c o c1 c2 c3 c4 c5 e=>(b7.2 c c2).trans ((b6.2 c c5).trans ((b5.2 c c2).trans ((b4.2 c c4).trans ((b3.2 c c2).trans ((b2.2 c c3).trans ((b1.2 c c1).trans e))))))
 have u17:h7.IsListIter i1 l1 (k+1):=cu (cu (cu (cu (cu u1 b3 D.qa.symm) b4 D.ab) b5 D.qa.symm) b6 D.ac) b7 D.qa.symm
 have u27:h7.IsTupleIter i2 l2 (k+1):=bf (bf (bf u2 b5 D.qb.symm) b6 D.bc) b7 D.qb.symm
 have u37:h7.IsTupleIter i3 l3 (k+1):=bf u3 b7 D.qc.symm
 have zl:z < h7.objs.size:=Mx z7
 show Mw _ _ (Oq (.ref z) (.ref h7.objs.size) >>= _) _ _ _; refine LR ?_; unfold Oq
 have z8:Pq (h7.push { cls:=.type "tuple",data:=.seq #[x,y,v] }) z p q .ellipsis:=Ma _ z7
 refine LR (NK z8 (by simp) fun h9 z9 b9=>?_); replace z9:Pq h9 z p q (QV h7.objs.size):=z9
 refine NK z9 (by simp) fun h10 z10 b10=>?_; replace z10:Pq h10 z p q (QV h7.objs.size):=z10
 have up:∀ c o,c≠z->h7.get? c=some o->h10.get? c=some o:=fun c o c1 e=>(b10.2 c c1).trans ((b9.2 c c1).trans (Ma _ e))
 have t10:gw h10 h7.objs.size x y v:=(b10.2 _ (Pb zl)).trans ((b9.2 _ (Pb zl)).trans (Mm _ rfl))
 have s10:h10.objs.size=h7.objs.size+1:=by rw[b10.1,b9.1,N7]
 rw[sz] at z10 t10 s10; refine Mp ⟨_,rfl,?_⟩
 show Mw _ _ _ _ _ _
 rw[sz]
 exact Mp (hQ h10 z10 (up _ _ D.qz q7) (by obtain⟨o,e,r⟩:=u17; exact⟨o,up _ o D.az e,r⟩) (by obtain⟨o,e,r⟩:=u27; exact⟨o,up _ o D.bz e,r⟩) (by obtain⟨o,e,r⟩:=u37; exact⟨o,up _ o D.cz e,r⟩) t10 s10 fun c o c1 c2 c3 c4 c5 e=>up c o c1 (kp c o c1 c2 c3 c4 c5 e))
theorem Gq {z p q i1 i2 i3 l1 l2 l3:Addr} {k:Nat} {xs:Array Mh} {a b c:Mh} {Q:Fin->Mj->Prop} (hh:A.handled=none) (D:HB z p q i1 i2 i3 l1 l2 l3)
  (hz:Pq s.heap z p q .none) (hp:gw s.heap p (.ref i1) (.ref i2) (.ref i3)) (j1:s.heap.IsListIter i1 l1 k) (t1:s.heap.IsList l1 xs)
  (hx:xs[k]? = none) (hE:∀ h' e,(∀ c o,c≠z->c≠q->c≠i1->c≠i2->c≠i3->s.heap.get? c=some o->h'.get? c=some o)->(∃ o,h'.get? e=some o/\o.cls = .type "StopIteration")->E (.ref e) { s with heap:=h' }) :
  Mw (M6 prog w) A (Qf.«zip.__next__» ⟨[.ref z],[]⟩) Q E s:=by
 show Mw _ _ (S6 (.ref z) 2 >>= _) _ _ _; refine LR (Nh hz rfl (x:=.bool false) rfl ?_)
 show Mw _ _ (S6 (.ref z) 3 >>= _) _ _ _; refine LR (Nh hz rfl (x:=.ref p) rfl ?_); refine LR (Nx hp rfl ?_)
 show Mw _ _ (M3 (.ref z) >>= _) _ _ _; refine LR ?_; unfold M3
 refine LR (Nh hz rfl (x:=.none) rfl (Mp ?_)); simp only[if_true]; refine LR (Rr ?_); refine LR (Nh hz rfl (x:=.ref q) rfl ?_)
 refine LR (NK hz (by simp) fun h1 z1 b1=>?_); replace z1:Pq h1 z p q .ellipsis:=z1
 refine LR ?_; simp only[Q8,Rm,Qk,Qy]; refine LR (LR (Pk ?_))
 show Mw _ _ (M5 (.ref i1) >>= _) _ _ _
 refine LR (wpAny_nextOf_list_end hh (cu j1 b1 D.az) (jJ t1 b1 D.xz) hx fun h2 e b2 he=>?_)
 obtain⟨oe,ho,hc⟩:=he
 have z2:Pq h2 z p q .ellipsis:=b2 _ _ D.az.symm z1
 have ez:e≠z:=fun u=>by subst u; rw[z2] at ho; cases ho; simp at hc
 exact NK z2 (by simp) fun h3 _ b3=>hE h3 e (fun c o c1 _ c3 _ _ u=>(b3.2 c c1).trans (b2 _ _ c3 ((b1.2 c c1).trans u))) ⟨oe,(b3.2 e ez).trans ho,hc⟩
theorem Jk {z p q i1 i2 i3 l1 l2 l3:Addr} {k:Nat} {xs:Array Mh} {Q:Option Mh->Mj->Prop} (hh:A.handled=none) (D:HB z p q i1 i2 i3 l1 l2 l3)
  (hz:Pq s.heap z p q .none) (hp:gw s.heap p (.ref i1) (.ref i2) (.ref i3)) (j1:s.heap.IsListIter i1 l1 k) (t1:s.heap.IsList l1 xs)
  (hx:xs[k]? = none) (hQ:∀ h',(∀ c o,c≠z->c≠q->c≠i1->c≠i2->c≠i3->s.heap.get? c=some o->h'.get? c=some o)->Q none { s with heap:=h' }):Mw (M6 prog w) A (Qx (.ref z)) Q E s:=by
 have hT:s.TypeIs (.ref z) "zip":=⟨_,hz,rfl⟩; unfold Qx
 refine LR (Qt (Oj (name:=Qo "__next__") hT O6 (Ox O6 hT Rb (Gq (a:=.none) (b:=.none) (c:=.none) hh D hz hp j1 t1 hx fun h' e kp he=>?_) (QR _))))
 obtain⟨o,ho,hc⟩:=he
 exact LR (RK (T:="StopIteration") (b:=true) ⟨o,ho,hc⟩ TF (Mp (hQ _ kp)))
abbrev t3A (h:N5) (l:Addr):N5:=h.push { cls:=.type "list_iterator",data:=.fields #[.ref l,.int 0 0] }
abbrev t3B (h:N5) (l t:Addr):N5:=zA (t3A h l) t
abbrev t3C (h:N5) (l t u:Addr):N5:=zA (t3B h l t) u
abbrev t3D (h:N5) (l t u:Addr):N5:=(t3C h l t u).push { cls:=.type "tuple",data:=.seq #[.ref h.objs.size,.ref (t3A h l).objs.size,.ref (t3B h l t).objs.size] }
abbrev t3E (h:N5) (l t u:Addr):N5:=(t3D h l t u).push { cls:=.type "tuple",data:=.seq #[.none,.none,.none] }
abbrev t3F (h:N5) (l t u:Addr):N5:=(t3E h l t u).push { cls:=.type "zip",data:=.fields #[.none,.bool false,.bool false,.ref (t3C h l t u).objs.size,.ref (t3D h l t u).objs.size] }
theorem HR (l1 l2 l3:Addr) (xs ys vs:Array Mh) :
  UT (Qf.«zip.__new__» ⟨[.type "zip",.ref l1,.ref l2,.ref l3],[]⟩) (fun _ R s=>s.heap.IsList l1 xs/\s.heap.IsTuple l2 ys/\s.heap.IsTuple l3 vs/\R (.ok (.ret (.ref (t3E s.heap l1 l2 l3).objs.size))) { s with heap:=t3F s.heap l1 l2 l3 }) :=
 .of_wp fun prog w A R s h=>by
  obtain⟨hp,g,d,tk,os⟩:=s; obtain⟨a1,a2,a3,h⟩:=h; have hsub:=sub_zip
  have T1:Heap.IsList (Rv ⟨hp,g,d,tk,os⟩) l1 xs:=a1
  have T2:Sh (Rv ⟨hp.push { cls:=.type "list_iterator",data:=.fields #[.ref l1,.int 0 0] },g,d,tk,os⟩) l2 ys:=by
   obtain⟨o,e,r⟩:=a2
   exact⟨o,Ma _ e,r⟩
  have T3:Sh (Rv ⟨(hp.push { cls:=.type "list_iterator",data:=.fields #[.ref l1,.int 0 0] }).push { cls:=.type "tuple_iterator",data:=.fields #[.ref l2,.int 0 0] },g,d,tk,os⟩) l3 vs:=by
   obtain⟨o,e,r⟩:=a3
   exact⟨o,Ma _ (Ma _ e),r⟩
  wp_walk using Ry T1,PB T2,PB T3
  exact⟨_,rfl,h⟩
theorem Ft {l1 l2 l3:Addr} {xs ys vs:Array Mh} {Q:Mh->Mj->Prop} (t1:s.heap.IsList l1 xs) (t2:s.heap.IsTuple l2 ys) (t3:s.heap.IsTuple l3 vs)
  (h:∀ h',Pq h' (s.heap.objs.size+5) (s.heap.objs.size+3) (s.heap.objs.size+4) .none->gw h' (s.heap.objs.size+3) (.ref s.heap.objs.size) (.ref (s.heap.objs.size+1)) (.ref (s.heap.objs.size+2))->gw h' (s.heap.objs.size+4) .none .none .none →
   h'.IsListIter s.heap.objs.size l1 0->h'.IsTupleIter (s.heap.objs.size+1) l2 0->h'.IsTupleIter (s.heap.objs.size+2) l3 0->(∀ c o,s.heap.get? c=some o->h'.get? c=some o)->Q (.ref (s.heap.objs.size+5)) { s with heap:=h' }) :
  Mw (M6 prog w) A (call (.type "zip") [.ref l1,.ref l2,.ref l3]) Q E s:=by
 refine S9 F.called_zip (by decide) (mq _ _ _) (nO _ _ _) (fun obj=>jn obj _ _ _) U5 (HR l1 l2 l3 xs ys vs) ⟨t1,t2,t3,?_⟩
 have y1:(t3A s.heap l1).objs.size=s.heap.objs.size+1:=N7 ..
 have y2:(t3B s.heap l1 l2).objs.size=s.heap.objs.size+2:=by rw[N7,y1]
 have y3:(t3C s.heap l1 l2 l3).objs.size=s.heap.objs.size+3:=by rw[N7,y2]
 have y4:(t3D s.heap l1 l2 l3).objs.size=s.heap.objs.size+4:=by rw[N7,y3]
 have y5:(t3E s.heap l1 l2 l3).objs.size=s.heap.objs.size+5:=by rw[N7,y4]
 have w6:(t3F s.heap l1 l2 l3).get? (t3E s.heap l1 l2 l3).objs.size=some _:=Mm _ rfl
 have w5:(t3F s.heap l1 l2 l3).get? (t3D s.heap l1 l2 l3).objs.size=some _:=Ma _ (Mm _ rfl)
 have w4:(t3F s.heap l1 l2 l3).get? (t3C s.heap l1 l2 l3).objs.size=some _:=Ma _ (Ma _ (Mm _ rfl))
 have w3:(t3F s.heap l1 l2 l3).get? (t3B s.heap l1 l2).objs.size=some _:=Ma _ (Ma _ (Ma _ (Mm _ rfl)))
 have w2:(t3F s.heap l1 l2 l3).get? (t3A s.heap l1).objs.size=some _:=Ma _ (Ma _ (Ma _ (Ma _ (Mm _ rfl))))
 have w1:(t3F s.heap l1 l2 l3).get? s.heap.objs.size=some _:=Ma _ (Ma _ (Ma _ (Ma _ (Ma _ (Mm _ rfl)))))
 show _/\_
 rw[y3,y4,y5] at w6; rw[y4] at w5; rw[y1,y2,y3] at w4; rw[y2] at w3; rw[y1] at w2; rw[y5]
 exact⟨⟨_,w6,rfl⟩,h _ w6 w4 w5 ⟨_,w1,rfl,rfl⟩ ⟨_,w2,rfl,rfl⟩ ⟨_,w3,rfl,rfl⟩ fun c o u=>Ma _ (Ma _ (Ma _ (Ma _ (Ma _ (Ma _ u)))))⟩
end
def It3 (K : Nq) (a b c : Addr) : It :=
  ⟨fun i H => ∃ xs ys vs x y v, SqL K H a xs ∧ SqT K H b ys ∧ SqT K H c vs ∧ xs[i]? = some x ∧ ys[i]? = some y ∧ vs[i]? = some v,
   fun i H w H' => ∃ p x y v, H p = none ∧ w = .ref p ∧ (∀ xs, SqL K H a xs → xs[i]? = some x) ∧ (∀ ys, SqT K H b ys → ys[i]? = some y) ∧ (∀ vs, SqT K H c vs → vs[i]? = some v) ∧ H' = upd H p (.tup [x, y, v]),
   fun i H => ∃ xs, SqL K H a xs ∧ xs.length ≤ i⟩
def tn3 (z p q i1 i2 i3 a b c:Addr) (i:Nat) (h:N5):Prop:=Pq h z p q .none/\gw h p (.ref i1) (.ref i2) (.ref i3)/\(∃ u v w,gw h q u v w)/\h.IsListIter i1 a i/\h.IsTupleIter i2 b i/\h.IsTupleIter i3 c i
theorem Ea {P:M8} {w:NQ} {K:Nq} {elts:List Expr} {x1} {pos:R8} {z p q i1 i2 i3 a b c:Addr} (D:HB z p q i1 i2 i3 a b c) :
  Turn P w K (.Tuple elts x1 pos) (It3 K a b c) [z,p,q,i1,i2,i3] z (tn3 z p q i1 i2 i3 a b c) where
 mem:=by simp
 obj:=fun i h st e he=>by
  obtain⟨hz,hp,⟨u,v,t,hq⟩,⟨o1,e1,_,d1⟩,⟨o2,e2,_,d2⟩,⟨o3,e3,_,d3⟩⟩:=st
  simp only[Og,Om,or_false] at he
  rcases he with rfl | rfl | rfl | rfl | rfl | rfl
  ·exact⟨_,hz,fun v z=>by cases z⟩
  ·exact⟨_,hp,fun v z=>by cases z⟩
  ·exact⟨_,hq,fun v z=>by cases z⟩
  ·exact⟨_,e1,fun v z=>by rw[d1] at z; cases z⟩
  ·exact⟨_,e2,fun v z=>by rw[d2] at z; cases z⟩
  ·exact⟨_,e3,fun v z=>by rw[d3] at z; cases z⟩
 keep:=fun i h h' st k=>by
  obtain⟨hz,hp,⟨u,v,t,hq⟩,⟨o1,e1,r1⟩,⟨o2,e2,r2⟩,⟨o3,e3,r3⟩⟩:=st
  exact⟨k z (by simp) _ hz,k p (by simp) _ hp,⟨u,v,t,k q (by simp) _ hq⟩,⟨o1,k i1 (by simp) _ e1,r1⟩,⟨o2,k i2 (by simp) _ e2,r2⟩,⟨o3,k i3 (by simp) _ e3,r3⟩⟩
 item:=by
  intro X hP hw hK hc i pins s σ H E I hf st hg
  subst hP hw hK
  obtain⟨xs,ys,vs,x,y,v,hx,hy,hv,ex,ey,ev⟩:=hg
  obtain⟨hz,hp,⟨u1,u2,u3,hq⟩,j1,j2,j3⟩:=st
  obtain⟨its,rv,tp,_⟩:=I.list hx
  obtain⟨its2,rv2,tp2,_⟩:=I.tuple hy
  obtain⟨its3,rv3,tp3,_⟩:=I.tuple hv
  obtain⟨xu,hxu,rx⟩:=rv.get ex
  obtain⟨yu,hyu,ry⟩:=rv2.get ey
  obtain⟨vu,hvu,rw3⟩:=rv3.get ev
  refine DX D hz hp hq j1 j2 j3 (show s.heap.IsList a its.toArray from tp.isList) (show s.heap.IsTuple b its2.toArray from tp2) (show s.heap.IsTuple c its3.toArray from tp3) (x:=xu) (y:=yu) (v:=vu) (by simpa using hxu) (by simpa using hyu) (by simpa using hvu) fun h' z' q' w1 w2 w3 t' _ kp=>⟨_,rfl,?_⟩
  refine SX z' fun h2 z2 b2=>?_
  have lt:∀ {c o},s.heap.get? c=some o->c < s.heap.objs.size:=fun e=>Mx e
  have zne:s.heap.objs.size≠z:=Pb (lt hz)
  have hfr:H s.heap.objs.size=none:=I.fresh
  have I1:Inv X pins σ (upd H s.heap.objs.size (.tup [x,y,v])) { s with heap:=s.heap.push { cls:=.type "tuple",data:=.seq #[xu,yu,vu] } } :=
   I.laid (t':=s.toks) (fun _ _ e=>Ma _ e) (Mt _) ⟨by show 3<=sizeLine; decide,[xu,yu,vu],.cons rx (.cons ry (.cons rw3 .nil)),⟨_,Mm _ rfl,rfl,_,rfl⟩⟩
  have blt:∀ c∈[z,p,q,i1,i2,i3],c < s.heap.objs.size:=fun c hc=>by
   obtain⟨_,e1,_⟩:=j1
   obtain⟨_,e2,_⟩:=j2
   obtain⟨_,e3,_⟩:=j3
   simp only[Og,Om,or_false] at hc
   rcases hc with rfl | rfl | rfl | rfl | rfl | rfl
   ·exact lt hz
   ·exact lt hp
   ·exact lt hq
   ·exact lt e1
   ·exact lt e2
   ·exact lt e3
  have ff:∀ c∈[z,p,q,i1,i2,i3],rF X pins (upd H s.heap.objs.size (.tup [x,y,v])) c:=fun c hc=>by
   obtain⟨f0,fr⟩:=hf c hc
   exact⟨by rw[aL (Nb (blt c hc))]; exact f0,fr⟩
  have kk:∀ c o,c ∉ [z,q,i1,i2,i3]->(s.heap.push { cls:=.type "tuple",data:=.seq #[xu,yu,vu] }).get? c=some o->h2.get? c=some o:=fun c o hc e=>by
   have c1:c≠z:=fun h=>hc (by simp [h])
   refine (b2.2 c c1).trans ?_
   rcases R5 e with⟨ec,eo⟩ | e'
   ·subst ec
    subst eo
    exact t'
   ·exact kp c o c1 (fun h=>hc (by simp [h])) (fun h=>hc (by simp [h])) (fun h=>hc (by simp [h])) (fun h=>hc (by simp [h])) e'
  have I2:Inv X pins σ (upd H s.heap.objs.size (.tup [x,y,v])) { s with heap:=h2 } :=
   Inv.gH (s:={ s with heap:=s.heap.push { cls:=.type "tuple",data:=.seq #[xu,yu,vu] } }) (h':=h2) (t':=s.toks) (ch:=[z,q,i1,i2,i3]) I1 kk fun c hc=>ff c (by
    simp only[Og] at hc ⊢
    rcases hc with h | h | h | h | h
    ·exact .inl h
    ·exact .inr (.inr (.inl h))
    ·exact .inr (.inr (.inr (.inl h)))
    ·exact .inr (.inr (.inr (.inr (.inl h))))
    ·exact .inr (.inr (.inr (.inr (.inr h)))))
  refine⟨.ref s.heap.objs.size,_,I2,rfl,⟨_,x,y,v,hfr,rfl,fun zs hzs=>?_,fun zs hzs=>?_,fun zs hzs=>?_,rfl⟩,⟨z2,(b2.2 _ D.pz).trans (kp _ _ D.pz D.pq D.pa D.pb D.pc hp),⟨_,_,_,(b2.2 _ D.qz).trans q'⟩,cu w1 b2 D.az,bf w2 b2 D.bz,bf w3 b2 D.cz⟩,fun c hc=>(ff c hc).1⟩
  ·rw[I.nQ hzs hx]; exact ex
  ·rw[I.dG hzs hy]; exact ey
  ·rw[I.dG hzs hv]; exact ev
 done:=by
  intro X hP hw hK hc i pins s σ H E I hf st hg
  subst hP hw hK
  obtain⟨xs,hx,hend⟩:=hg
  obtain⟨hz,hp,⟨u1,u2,u3,hq⟩,j1,j2,j3⟩:=st
  obtain⟨its,rv,tp,_⟩:=I.list hx
  have l1:=rv.length
  refine Jk (I.ok.hd hc) D hz hp j1 (show s.heap.IsList a its.toArray from tp.isList) (by simp; lia) fun h' kp=>⟨rfl,?_⟩
  exact I.gH (t':=s.toks) (ch:=[z,q,i1,i2,i3]) (fun c o hc e=>kp c o (fun h=>hc (by simp [h])) (fun h=>hc (by simp [h])) (fun h=>hc (by simp [h])) (fun h=>hc (by simp [h])) (fun h=>hc (by simp [h])) e)
   fun c hc=>hf c (by simp only[Og] at hc ⊢; rcases hc with h | h | h | h | h; exact .inl h; exact .inr (.inr (.inl h)); exact .inr (.inr (.inr (.inl h))); exact .inr (.inr (.inr (.inr (.inl h)))); exact .inr (.inr (.inr (.inr (.inr h)))))
 self:=fun _ _ _ _ _ st h=>Q5 st.1 h
def iZ3 (K:Nq) (ta:TA):TI:=fun σ H R=>ta σ H fun ws H1=>∃ a b c xs ys vs,ws=[.ref a,.ref b,.ref c]/\SqL K H1 a xs/\SqT K H1 b ys/\SqT K H1 c vs/\R (It3 K a b c) H1
theorem Kz {X:Cx} {elts:List Expr} {x1} {tpos:R8} {a b c:Expr} {ta:TA} {p pos:R8} (hg:Gl X "zip") (hm:X.mg "zip" = none) (ha:PA X [a,b,c] ta) (hs:Nm [a,b,c] X.env=[(false,Qd a X.env),(false,Qd b X.env),(false,Qd c X.env)]:=by rfl) (hs2:Nm [b,c] X.env=[(false,Qd b X.env),(false,Qd c X.env)]:=by rfl) :
  PI X (.Tuple elts x1 tpos) (.Call (.Name "zip" p) [a,b,c] [] pos) (iZ3 X.K ta):=by
 intro pins s σ H R I h
 refine Call_ (gm I hg hm boot_zip (Oe (thn (ha pos pins s σ H _ I h) fun us s1 ⟨vs,H1,I1,r1,q1⟩=>?_) (by rw[hs,hs2]) (by rw[hs2]; rfl)))
 obtain⟨d1,d2,d3,xs,ys,ws,e,hx,hy,hv,q⟩:=q1
 subst e
 cases r1 with
 | cons ru1 r1 =>
 cases r1 with
 | cons ru2 r1 =>
 cases r1 with
 | cons ru3 r1 =>
 cases r1
 cases ru1
 cases ru2
 cases ru3
 obtain⟨its,_,tp,_⟩:=I1.list hx
 obtain⟨its2,_,tp2,_⟩:=I1.tuple hy
 obtain⟨its3,_,tp3,_⟩:=I1.tuple hv
 refine Ft (show s1.heap.IsList d1 its.toArray from tp.isList) (show s1.heap.IsTuple d2 its2.toArray from tp2) (show s1.heap.IsTuple d3 its3.toArray from tp3) fun h' z' p' q' j1 j2 j3 kp=>?_
 have lc:d1 < s1.heap.objs.size:=by obtain⟨o,e,_⟩:=tp.isList; exact Mx e
 have ld:d2 < s1.heap.objs.size:=by obtain⟨o,e,_⟩:=tp2; exact Mx e
 have le:d3 < s1.heap.objs.size:=by obtain⟨o,e,_⟩:=tp3; exact Mx e
 have D:HB (s1.heap.objs.size+5) (s1.heap.objs.size+3) (s1.heap.objs.size+4) s1.heap.objs.size (s1.heap.objs.size+1) (s1.heap.objs.size+2) d1 d2 d3:=BX lc ld le
 refine Q5 z' ⟨_,_,_,_,H1,rfl,I1.kept (t':=s1.toks) kp,Ea D,⟨z',p',⟨_,_,_,q'⟩,j1,j2,j3⟩,fun e he=>?_,q⟩
 have hle:s1.heap.objs.size<=e:=by
  simp only[Og,Om,or_false] at he
  rcases he with rfl | rfl | rfl | rfl | rfl | rfl <;> lia
 exact I1.Ak hle (I1.hok.fresh hle)
theorem Es {K:Nq} {a b c D:Addr} {xs ys vs:List V} {g:TG} {tt:TT} {te:TE} {H1:Hp} {Q:Hp->Prop} {σ0:St} (hlen:xs.length=ys.length) (hlen2:xs.length=vs.length) (Pv:Nat->List V->St->Hp->Prop) (h0:Pv 0 [] σ0 (upd H1 D (.lst [])))
  (hl:∀ i zs σ H,i<=xs.length->Pv i zs σ H->SqL K H a xs/\SqT K H b ys/\SqT K H c vs/\H D=some (.lst zs))
  (hs:∀ i zs x y v p σ H,xs[i]? = some x->ys[i]? = some y->vs[i]? = some v->H p=none->Pv i zs σ H->g (.ref p) σ (upd H p (.tup [x,y,v])) fun σ3 H3=>tt σ3 H3 fun c H4=>if c=true then te σ3 H4 fun v H5=>H5 D=some (.lst zs)/\zs.length < sizeLine/\Pv (i+1) (zs++[v]) σ3 (upd H5 D (.lst (zs++[v]))) else Pv (i+1) zs σ3 H4)
  (hd:∀ zs σ H,Pv xs.length zs σ H->Q H):fU D σ0 (It3 K a b c) g tt te H1 Q:=by
 refine⟨fun i m zs σ H=>m=xs.length - i/\i<=xs.length/\Pv i zs σ H,⟨xs.length,by simp,NP _,h0⟩,?_⟩
 rintro i m zs σ H ⟨rfl,hi,p⟩
 obtain⟨q1,q2,q3,qD⟩:=hl i zs σ H hi p
 refine⟨qD,?_⟩
 by_cases hlt:i < xs.length
 ·have hlt2:i < ys.length:=by lia
  have hlt3:i < vs.length:=by lia
  refine .inr ⟨⟨xs,ys,vs,xs[i],ys[i],vs[i],q1,q2,q3,by simp [hlt],by simp [hlt2],by simp [hlt3]⟩,Pv (i+1),fun zs' σ' H' p'=>⟨xs.length - (i+1),by lia,rfl,hlt,p'⟩,fun v H' y=>?_⟩
  obtain⟨pp,x,y,v,hp,rfl,hx,hy,hv,rfl⟩:=y
  exact hs i zs x y v pp σ _ (hx xs q1) (hy ys q2) (hv vs q3) hp p
 ·have e:i=xs.length:=by lia
  subst e
  exact .inl ⟨⟨xs,q1,Mt _⟩,hd zs σ H p⟩
end L2
namespace L2
open PySem PySem.Spec PyProof.Rows
section
variable {X:Cx}
def yE (K:Nq):R2:=fun x y H Q=>BR K x y H Q∨∃ (a:Addr) (ns:List Int),x = .ref a/\y = .non/\SqT K H a (ns.map V.int)/\Q (.bl true) H
theorem Ci (hu:X.A.units < cLine):OpR X (Qg .NotEq) (yE X.K):=by
 intro pins s σ H x y v u Q I rx ry h
 rcases h with h | ⟨a,ns,rfl,rfl,ha,q⟩
 ·exact sX hu pins s σ H x y v u Q I rx ry h
 ·cases rx
  cases ry
  obtain⟨its,r1,p1,_⟩:=I.tuple ha
  exact SeqAt.RcNeAt.tuple_none (show s.heap.IsTuple a its.toArray from p1) hu X.prog X.w X.xe _ ⟨.bl true,H,I,rfl,q⟩
end
end L2
namespace L2
open PySem PySem.Spec PyProof.Rows
section
variable {κ:Type} [DecidableEq κ]
def ie (kvs:List (κ × V)) (k:κ):Option V:=(kvs.find? fun kv=>decide (kv.1=k)).map (·.2)
def putK (kvs:List (κ × V)) (k:κ) (v:V):List (κ × V) :=
 if (kvs.any fun kv=>decide (kv.1=k))=true then kvs.map (fun kv=>if kv.1=k then (kv.1,v) else kv) else kvs++[(k,v)]
theorem Ar {k:κ}:ie ([]:List (κ × V)) k=none:=rfl
theorem cX {p:κ × V} {r:List (κ × V)} {k:κ} (e:p.1=k):ie (p::r) k=some p.2:=by simp [ie,Rn,e]
theorem cL {p:κ × V} {r:List (κ × V)} {k:κ} (e:¬ p.1=k):ie (p::r) k=ie r k:=by simp [ie,Rn,e]
theorem jc (k:κ):∀ kvs:List (κ × V),(kvs.any fun kv=>decide (kv.1=k))=(ie kvs k).isSome
 | []=>rfl
 | p::r=>by
  rw[RT]
  by_cases e:p.1=k
  ·simp only[cX e,decide_eq_true e,Bool.true_or,Option.isSome_some]
  ·rw[cL e,decide_eq_false e,Uc]; exact jc k r
theorem uv (k j:κ) (y:V):∀ kvs:List (κ × V),ie (kvs.map fun kv=>if kv.1=k then (kv.1,y) else kv) j=(ie kvs j).map fun x=>if j=k then y else x
 | []=>rfl
 | p::r=>by
  have ih:=uv k j y r
  rw[Ni]
  by_cases h:p.1=k
  ·rw[if_pos h]
   by_cases e:p.1=j
   ·rw[cX (p:=(p.1,y)) e,cX e,Tt,if_pos (e.symm.trans h)]
   ·rw[cL (p:=(p.1,y)) e,cL e,ih]
  ·rw[if_neg h]
   by_cases e:p.1=j
   ·rw[cX (p:=p) e,cX e,Tt,if_neg (fun z=>h (e.trans z))]
   ·rw[cL (p:=p) e,cL e,ih]
theorem qu (k j:κ) (y:V):∀ kvs:List (κ × V),ie kvs k=none->ie (kvs++[(k,y)]) j=if j=k then some y else ie kvs j
 | [],_=>by
  by_cases e:k=j
  ·rw[if_pos e.symm]; exact cX (p:=(k,y)) e
  ·rw[if_neg (fun z=>e z.symm)]; exact cL (p:=(k,y)) e
 | p::r,hn=>by
  rw[List.cons_append]
  have hk:¬ p.1=k:=fun z=>by rw[cX z] at hn; cases hn
  rw[cL hk] at hn
  have ih:=qu k j y r hn
  by_cases e:p.1=j
  ·rw[cX e,cX e,if_neg (fun z=>hk (e.trans z))]
  ·rw[cL e,cL e,ih]
theorem Bu (kvs:List (κ × V)) (k j:κ) (y:V):ie (putK kvs k y) j=if j=k then some y else ie kvs j:=by
 unfold putK
 by_cases a:(kvs.any fun kv=>decide (kv.1=k))=true
 ·rw[if_pos a,uv]
  rw[jc] at a
  by_cases e:j=k
  ·obtain⟨x,hx⟩:=Option.isSome_iff_exists.mp a
   rw[if_pos e,e,hx,Tt,if_pos rfl]
  ·rw[if_neg e]
   cases ie kvs j with
   | none=>rfl
   | some x=>rw[Tt,if_neg e]
 ·rw[if_neg a]
  refine qu k j y kvs ?_
  rw[jc] at a
  cases q:ie kvs k with
  | none=>rfl
  | some x=>rw[q] at a; exact (a rfl).elim
theorem iJ (kvs:List (κ × V)) (k:κ) (v:V):(putK kvs k v).length<=kvs.length+1:=by
 unfold putK
 split
 ·rw[Mf]; lia
 ·rw[Mv,MK,List.length_nil]; lia
theorem jU {kvs:List (κ × V)} {k:κ} (v:V) (h:ie kvs k=none):putK kvs k v=kvs++[(k,v)]:=by
 unfold putK
 rw[jc,h]
 exact if_neg (by decide)
theorem yg.j8 {o:Option V} {u:Option Mh} (r:yg o u):o.isSome=u.isSome:=by
 cases o with
 | none=>cases u with
  | none=>rfl
  | some _=>exact (show False from r).elim
 | some _=>cases u with
  | none=>exact (show False from r).elim
  | some _=>rfl
theorem KV.val {kvs:List (κ × V)} {vs:List (κ × Mh)} (r:KV kvs vs) (k:κ):yg (ie kvs k) (Uk vs k):=by
 unfold KV at r
 induction r with
 | nil=>exact QW
 | @cons p q ps qs h t ih =>
  obtain⟨h1,h2⟩:=h
  by_cases e:p.1=k
  ·have e':q.1=k:=h1.symm.trans e
   have b:Uk (q::qs) k=some q.2:=by simp [Uk,Rn,e']
   rw[cX e,b]; exact h2
  ·have e':¬ q.1=k:=fun z=>e (h1.trans z)
   have b:Uk (q::qs) k=Uk qs k:=by simp [Uk,Rn,e']
   rw[cL e,b]; exact ih
theorem KV.any {kvs:List (κ × V)} {vs:List (κ × Mh)} (r:KV kvs vs) (k:κ):(kvs.any fun kv=>decide (kv.1=k))=vs.any fun kv=>decide (kv.1=k):=by
 unfold KV at r
 induction r with
 | nil=>rfl
 | cons h t ih=>rw[RT,RT,ih,h.1]
theorem KV.repl {kvs:List (κ × V)} {vs:List (κ × Mh)} (r:KV kvs vs) (k:κ) {y:V} {u:Mh} (ry:RelV y u) :
  KV (kvs.map fun kv=>if kv.1=k then (kv.1,y) else kv) (vs.map fun kv=>if kv.1=k then (kv.1,u) else kv):=by
 unfold KV at r ⊢
 induction r with
 | nil=>exact .nil
 | @cons p q ps qs h t ih =>
  rw[Ni,Ni]
  refine .cons ?_ ih
  obtain⟨h1,h2⟩:=h
  by_cases e:p.1=k
  ·rw[if_pos e,if_pos (h1.symm.trans e)]; exact⟨h1,ry⟩
  ·rw[if_neg e,if_neg (fun z=>e (h1.trans z))]; exact⟨h1,h2⟩
theorem KV.put {kvs:List (κ × V)} {vs:List (κ × Mh)} (r:KV kvs vs) (k:κ) {y:V} {u:Mh} (ry:RelV y u):KV (putK kvs k y) (stored vs k u):=by
 unfold putK stored
 rw[r.any k]
 by_cases e:(vs.any fun kv=>decide (kv.1=k))=true
 ·rw[if_pos e,if_pos e]; exact r.repl k ry
 ·rw[if_neg e,if_neg e]; exact Paired.snoc r ⟨rfl,ry⟩
theorem KV.length {kvs:List (κ × V)} {vs:List (κ × Mh)} (r:KV kvs vs):kvs.length=vs.length:=T8 r
end
theorem Bx {P:M8} {w:NQ} {k:Key} {u:Mh} (r:RelV (kV k) u):(dq P w).is k u=true:=by
 cases k with
 | inl i=>obtain⟨t,e⟩:=(show ∃ t,u=Q6 i t from r); subst e; exact rD P w i t
 | inr x=>obtain⟨t,e⟩:=(show ∃ t,u=Value.str x t from r); subst e; exact qP P w x t
theorem pH {P:M8} {w:NQ}:∀ {ks:List Key} {us:List Mh},Vals (ks.map kV) us->ItemsAre (dq P w) ks us
 | [],_,r=>by rw[RD] at r; cases r; exact .nil
 | k::ks,_,r=>by
  rw[Ni] at r
  cases r with
  | cons h t=>exact .cons (Bx h) (pH t)
abbrev KT (H:Hp):List (List Key × V)->List (List Key × Addr × Mh)->Prop:=Paired fun p q=>p.1=q.1/\H q.2.1=some (.tup (p.1.map kV))/\RelV p.2 q.2.2
theorem KT.val {H:Hp} {kvs:List (List Key × V)} {xs:List (List Key × Addr × Mh)} (r:KT H kvs xs) (k:List Key):yg (ie kvs k) ((atKey xs k).map (·.2)):=by
 induction r with
 | nil=>exact QW
 | @cons p q ps qs h t ih =>
  obtain⟨h1,_,h2⟩:=h
  by_cases e:p.1=k
  ·have e':q.1=k:=h1.symm.trans e
   have b:atKey (q::qs) k=some q.2:=by simp [atKey,Rn,e']
   rw[cX e,b]; exact h2
  ·have e':¬ q.1=k:=fun z=>e (h1.trans z)
   have b:atKey (q::qs) k=atKey qs k:=by simp [atKey,Rn,e']
   rw[cL e,b]; exact ih
theorem KT.repl {H:Hp} {kvs:List (List Key × V)} {xs:List (List Key × Addr × Mh)} (r:KT H kvs xs) (k:List Key) {y:V} {u:Mh} (ry:RelV y u) :
  KT H (kvs.map fun kv=>if kv.1=k then (kv.1,y) else kv) (xs.map (putAt k u)):=by
 induction r with
 | nil=>exact .nil
 | @cons p q ps qs h t ih =>
  rw[Ni,Ni]
  refine .cons ?_ ih
  obtain⟨h1,h2,h3⟩:=h
  unfold putAt
  by_cases e:p.1=k
  ·rw[if_pos e,if_pos (h1.symm.trans e)]; exact⟨h1,h2,ry⟩
  ·rw[if_neg e,if_neg (fun z=>e (h1.trans z))]; exact⟨h1,h2,h3⟩
theorem KT.put {H:Hp} {kvs:List (List Key × V)} {xs:List (List Key × Addr × Mh)} (r:KT H kvs xs) (k:List Key) {b:Addr} {y:V} {u:Mh} (hb:H b=some (.tup (k.map kV))) (ry:RelV y u) :
  KT H (putK kvs k y) (storedH xs k b u):=by
 have e:(kvs.any fun kv=>decide (kv.1=k))=(atKey xs k).isSome:=by
  rw[jc,(r.val k).j8,Option.isSome_map]
 unfold putK storedH
 rw[e]
 by_cases q:(atKey xs k).isSome=true
 ·rw[if_pos q,if_pos q]; exact r.repl k ry
 ·rw[if_neg q,if_neg q]; exact Paired.snoc r ⟨rfl,hb,ry⟩
theorem KT.keeps {H H':Hp} {kvs:List (List Key × V)} {xs:List (List Key × Addr × Mh)} (r:KT H kvs xs) (ht:∀ b ys,H b=some (.tup ys)->H' b=some (.tup ys)):KT H' kvs xs :=
 Paired.Kq r fun _ _ z=>⟨z.1,ht _ _ z.2.1,z.2.2⟩
section
variable {P:M8} {w:NQ} {H:Hp} {h:N5} {a:Addr}
theorem Ia {u:HO} (ok:HOk P w H h) (e:Rd H a u):dh P w H h a u:=e.ok ok
theorem Ax {kvs:List (Key × V)} (ok:HOk P w H h) (e:Rd H a (.dK kvs)):kvs.length<=sizeLine/\(a == Rt)=false/\∃ vs,KV kvs vs/\h.DictOf (dq P w) a vs :=
 show dh P w H h a (.dK kvs) from Ia ok e
theorem Kf {kvs:List (Key × V)} (ok:HOk P w H h) (e:H a=some (.dK kvs)):kvs.length<=sizeLine/\(a == Rt)=false/\∃ vs,KV kvs vs/\h.DictOf (dq P w) a vs:=Ax ok (.inl e)
theorem qg {ks:List Key} (ok:HOk P w H h) (e:H a=some (.tup (ks.map kV))):(Uw (dq P w)).is h ks a:=by
 obtain⟨_,its,r,o,h1,h2,n,h3⟩:=(show dh P w H h a (.tup (ks.map kV)) from ok a _ e)
 exact⟨o,its.toArray,n,h1,h2,h3,by simpa using pH r⟩
theorem Ac {kvs:List (List Key × V)} (ok:HOk P w H h) (e:Rd H a (.dT kvs)):kvs.length<=sizeLine/\(a == Rt)=false ∧
  ∃ xs,KT H kvs xs/\h.DictOfH (Uw (dq P w)) a xs:=by
 obtain⟨z,y,xs,r,o,es,ep,h1,h2,h3,h4,h5⟩:=(show dh P w H h a (.dT kvs) from Ia ok e)
 refine⟨z,y,xs,r,o,es,ep,h1,h2,h3,h4,fun x hx=>?_,h5⟩
 have all:∀ {l:List (List Key × V)} {m:List (List Key × Addr × Mh)},KT H l m->∀ x∈m,(Uw (dq P w)).is h x.1 x.2.1:=by
  intro l m q
  induction q with
  | nil=>intro x hx; exact nomatch hx
  | @cons p q ps qs hq t ih =>
   intro x hx
   rcases List.mem_cons.mp hx with e | hx
   ·subst e
    exact qg ok (by rw[← hq.1]; exact hq.2.1)
   ·exact ih x hx
 exact all r x hx
theorem Ig {kvs:List (List Key × V)} (ok:HOk P w H h) (e:H a=some (.dT kvs)):kvs.length<=sizeLine/\(a == Rt)=false ∧
  ∃ xs,KT H kvs xs/\h.DictOfH (Uw (dq P w)) a xs:=Ac ok (.inl e)
end
def zZ (H:Hp) (a:Addr) (y:V) (r:Option V):Prop :=
 (∃ kvs k,Rd H a (.dK kvs)/\y=kV k/\r=ie kvs k)∨∃ kvs k b,Rd H a (.dT kvs)/\y = .ref b/\H b=some (.tup (k.map kV))/\r=ie kvs k
def Ht (H:Hp) (a:Addr) (y v:V) (H':Hp):Prop :=
 (∃ kvs k,H a=some (.dK kvs)/\y=kV k/\kvs.length < sizeLine/\H'=upd H a (.dK (putK kvs k v))) ∨
 ∃ kvs k b,H a=some (.dT kvs)/\y = .ref b/\H b=some (.tup (k.map kV))/\kvs.length < sizeLine/\H'=upd H a (.dT (putK kvs k v))
theorem zZ.t {H:Hp} {a b:Addr} {kvs:List (List Key × V)} {k:List Key} (e:H a=some (.dT kvs)) (eb:H b=some (.tup (k.map kV))):zZ H a (.ref b) (ie kvs k):=.inr ⟨kvs,k,b,.inl e,rfl,eb,rfl⟩
theorem Ht.t {H:Hp} {a b:Addr} {kvs:List (List Key × V)} {k:List Key} {v:V} (e:H a=some (.dT kvs)) (eb:H b=some (.tup (k.map kV))) (hl:kvs.length < sizeLine) :
  Ht H a (.ref b) v (upd H a (.dT (putK kvs k v))):=.inr ⟨kvs,k,b,e,rfl,eb,hl,rfl⟩
section
variable {X:Cx} {pins:List (Addr × Qv)} {σ:St} {H:Hp} {s:Mj} {a:Addr} {y v:V} {u r:Mh} {o:Option V} {A:N8} {E:Mh->Mj->Prop}
theorem Inv.big (I:Inv X pins σ H s):Rt < s.heap.objs.size:=by
 have h:Ng < s.heap.objs.size:=(I.mod.glob.keeps I.bk).lt
 exact Nat.lt_trans (by decide) h
theorem zx {Q:Mh->Mj->Prop} (hu:A.units+1 < cLine) (I:Inv X pins σ H s) (g:zZ H a y (some v)) (ry:RelV y u) (h:∀ w' s',Inv X pins σ H s'->RelV v w'->Q w' s') :
  Mw (M6 X.prog X.w) A (U7 (.ref a) u) Q E s:=by
 rcases g with⟨kvs,k,e,ey,l⟩ | ⟨kvs,k,b,e,ey,eb,l⟩
 ·subst ey
  obtain⟨z,hd,vs,rel,dd⟩:=Ax I.hok e
  obtain⟨w',hw,rw'⟩:=yg.some_of (v:=v) (o:=Uk vs k) (by rw[l]; exact rel.val k)
  exact wpAny_getItem_of (Bx ry) dd.mapOf hw (h w' _ (I.tok _) rw')
 ·subst ey
  cases (show u=NB b from ry)
  obtain⟨z,hd,xs,rel,dd⟩:=Ac I.hok e
  obtain⟨w',hw,rw'⟩:=yg.some_of (v:=v) (o:=(atKey xs k).map (·.2)) (by rw[l]; exact rel.val k)
  obtain⟨p,hp,hp2⟩:=Option.map_eq_some_iff.mp hw
  refine wpAny_getItem_heap (Ud hu) (qg I.hok eb) dd hp ?_
  rw[hp2]
  exact h w' _ (I.tok _) rw'
theorem Gj {Q:Mh->Mj->Prop} (hu:A.units+1 < cLine) (I:Inv X pins σ H s) (g:zZ H a y o) (ry:RelV y u) (h:∀ s',Inv X pins σ H s'->Q (.bool (!o.isSome)) s') :
  Mw (M6 X.prog X.w) A (Qg .NotIn u (.ref a)) Q E s:=by
 rcases g with⟨kvs,k,e,ey,l⟩ | ⟨kvs,k,b,e,ey,eb,l⟩
 ·subst ey
  obtain⟨z,hd,vs,rel,dd⟩:=Ax I.hok e
  refine wpAny_notIn_of (Bx ry) hd dd.mapOf ?_
  rw[← (rel.val k).j8,← l]
  exact h _ (I.tok _)
 ·subst ey
  cases (show u=NB b from ry)
  obtain⟨z,hd,xs,rel,dd⟩:=Ac I.hok e
  refine wpAny_notIn_heap (Ud hu) (qg I.hok eb) hd dd ?_
  have q:=(rel.val k).j8
  rw[Option.isSome_map] at q
  rw[← q,← l]
  exact h _ (I.tok _)
theorem rQ {h':N5} {t':Nat} {ob:HO} (I:Inv X pins σ H s) (mu:Mut (H a)) (hs:Qs a s.heap h') (he:∃ q,h'.get? a=some q) (new:dh X.prog X.w (upd H a ob) h' a ob) :
  Inv X pins σ (upd H a ob) { s with heap:=h',toks:=t' } :=
 I.write (x:=a) (e:=a) mu (.inl rfl) (fun b q hb z=>(hs.2 b hb).trans z) he new
theorem IW {P:M8} {w:NQ} {H':Hp} {h':N5} {kvs:List (Key × V)} {vs:List (Key × Mh)} (z:kvs.length<=sizeLine) (hd:(a == Rt)=false) (rel:KV kvs vs) (dd:h'.DictOf (dq P w) a vs) :
  dh P w H' h' a (.dK kvs):=⟨z,hd,vs,rel,dd⟩
theorem zH {H':Hp} {Q:Unit->Mj->Prop} (hu:A.units+1 < cLine) (I:Inv X pins σ H s) (g:Ht H a y v H') (ry:RelV y u) (rv:RelV v r) (h:∀ s',Inv X pins σ H' s'->Q () s') :
  Mw (M6 X.prog X.w) A (setItem (.ref a) u r) Q E s:=by
 rcases g with⟨kvs,k,e,ey,l,eH⟩ | ⟨kvs,k,b,e,ey,eb,l,eH⟩
 ·subst ey eH
  obtain⟨z,hd,vs,rel,dd⟩:=Kf I.hok e
  have hz:vs.length<=sizeLine:=by rw[← rel.length]; exact z
  have hl:(putK kvs k v).length<=sizeLine:=by have:=iJ kvs k v; lia
  refine wpAny_setItem_pairs (hsz:=hz) (Bx ry) dd fun h' dd' hs=>h _ ?_
  have he:∃ q,h'.get? a=some q:=let ⟨q,_,_,hq,_⟩:=dd'; ⟨q,hq⟩
  exact rQ I (by rw[e]; exact QW) hs he (IW hl hd (rel.put k rv) dd')
 ·subst ey eH
  cases (show u=NB b from ry)
  obtain⟨z,hd,xs,rel,dd⟩:=Ig I.hok e
  have hz:xs.length<=sizeLine:=by rw[← T8 rel]; exact z
  have hl:(putK kvs k v).length<=sizeLine:=by have:=iJ kvs k v; lia
  refine wpAny_setItem_heap (hsz:=hz) (Ud hu) (qg I.hok eb) dd fun h' dd' hs=>h _ ?_
  obtain⟨q,es,ep,hq,h2,h3,h4,_,h5⟩:=dd'
  refine rQ I (by rw[e]; exact QW) hs ⟨q,hq⟩ ⟨hl,hd,_,(rel.put k eb rv).keeps fun c ys ec=>?_,q,es,ep,hq,h2,h3,h4,h5⟩
  rw[aL (JF ec e (fun z=>nomatch z))]
  exact ec
end
section
variable {X:Cx} {pins:List (Addr × Qv)} {σ:St} {H:Hp} {s:Mj} {a:Addr} {kvs:List (Key × V)} {k:Key} {u:Mh} {A:N8} {E:Mh->Mj->Prop}
end
def KJ (i:Expr):Prop:=∀ ov iv,UL i false ov iv=operate [ov,iv] (U7 ov iv)
theorem En {prog:M8} {w:NQ} {A:N8} {E:Mh->Mj->Prop} {s:Mj} {env:Env} {value slice:Expr} {pos:R8} {T id:String} {Q:Mh->Mj->Prop}
  (hl:typeLookup (.type T) "__getitem__" = pure (some (.builtin id))) (hs:KJ slice)
  (h:Mw (M6 prog w) A (Qd value env) (fun o s₁=>Mw (M6 prog w) A (Qd slice env) (fun i s₂=>s₂.TypeIs o T/\Mw (M6 prog w) A (U7 o i) Q E s₂) E s₁) E s) :
  Mw (M6 prog w) A (Qd (.Subscript value slice pos) env) Q E s:=by
 refine Subscript_ (PQ h (fun o s₁ h₁=>PQ h₁ (fun i s₂ h₂=>?_) fun _ _ x=>x) fun _ _ x=>x)
 obtain⟨hT,h₂⟩:=h₂
 unfold subscriptTail
 refine LR ?_
 rw[getitemInPython_of_ne hT.not_modules]
 refine LR (Tj hT hl ?_)
 have fin:Mw (M6 prog w) A (UL slice false o i) (fun r s₃=>Mw (M6 prog w) A (letTemporaryGo value o r >>= fun _=>pure r) Q E s₃) E s₂:=by
  rw[hs o i]
  exact wpAny_operating (PQ h₂ (fun r s₃ h₃=>LR (wpAny_letTemporaryGo (Mp h₃))) fun _ _ x=>x)
 first
  | exact Mp (LR fin)
  | exact LR (Mp (LR fin))
  | exact LR fin
theorem tu {X:Cx} {pins:List (Addr × Qv)} {σ:St} {H:Hp} {s:Mj} {a:Addr} {y:V} {o:Option V} (I:Inv X pins σ H s) (g:zZ H a y o):s.TypeIs (.ref a) "dict":=by
 rcases g with⟨kvs,k,e,_,_⟩ | ⟨kvs,k,b,e,_,_,_⟩
 ·obtain⟨_,_,vs,_,dd⟩:=Ax I.hok e
  exact dd.typeIs
 ·obtain⟨_,_,xs,_,dd⟩:=Ac I.hok e
  exact dd.typeIs
def JW (td ty:TE):TE:=fun σ H Q=>td σ H fun x H1=>ty σ H1 fun y H2=>∃ a v,x = .ref a/\zZ H2 a y (some v)/\Q v H2
def Gz (ty td:TE):TE:=fun σ H Q=>ty σ H fun y H1=>td σ H1 fun x H2=>∃ a o,x = .ref a/\zZ H2 a y o/\Q (.bl (!o.isSome)) H2
def Ke (td ty tv:TE):TS:=fun D σ H=>tv σ H fun v H1=>td σ H1 fun x H2=>ty σ H2 fun y H3=>∃ a H4,x = .ref a/\Ht H3 a y v H4/\D.nx σ H4
section
variable {X:Cx} {o i e value:Expr} {pos pos' tpos:R8} {td ty tv:TE}
theorem GC (hu:X.A.units+1 < cLine) (ho:PE X o td) (hi:PE X i ty) (hs:KJ i):PE X (.Subscript o i pos) (JW td ty):=by
 intro pins s σ H Q I h
 refine En PySem.F.slot_dict_getitem.lookup hs (thn (ho pins s σ H _ I h) fun u s1 ⟨x,H1,I1,rx,q1⟩=>thn (hi pins s1 σ H1 _ I1 q1) fun iv s2 ⟨y,H2,I2,ry,a,v,ex,g,q2⟩=>?_)
 subst ex
 obtain rfl:u=NB a:=rx
 exact⟨tu I2 g,zx hu I2 g ry fun w' s3 I3 rw'=>⟨v,H2,I3,rw',q2⟩⟩
theorem qi (hu:X.A.units+1 < cLine) (hi:PE X i ty) (ho:PE X o td):PC X .NotIn i o (Gz ty td):=by
 intro pins s σ H Q I h
 refine thn (hi pins s σ H _ I h) fun iv s1 ⟨y,H1,I1,ry,q1⟩=>thn (ho pins s1 σ H1 _ I1 q1) fun u s2 ⟨x,H2,I2,rx,a,ov,ex,g,q2⟩=>?_
 subst ex
 obtain rfl:u=NB a:=rx
 exact Gj hu I2 g ry fun s3 I3=>⟨.bl (!ov.isSome),H2,I3,rfl,q2⟩
theorem xr (hu:X.A.units+1 < cLine) (ho:PE X o td) (hi:PE X i ty) (hv:PE X value tv) (hs:swapsWith value (some (.Subscript o i pos')) pos.line X.env=pure false) :
  PS X (.Assign [.Subscript o i pos'] value pos) (Ke td ty tv):=by
 intro pins s σ H D I h
 refine wpAny_Assign_Subscript (thn (hv pins s σ H _ I h) fun r s1 ⟨v,H1,I1,rv,q1⟩=>thn (ho pins s1 σ H1 _ I1 q1) fun u s2 ⟨x,H2,I2,rx,q2⟩=>thn (hi pins s2 σ H2 _ I2 q2) fun iv s3 ⟨y,H3,I3,ry,a,H4,ex,g,q3⟩=>?_) hs
 subst ex
 obtain rfl:u=NB a:=rx
 exact zH hu I3 g ry rv fun s4 I4=>⟨σ,H4,I4,q3⟩
end
theorem uP {P:M8} {w:NQ} {H:Hp} (h:N5) (hb:Rt < h.objs.size):dh P w H (h.push { cls:=.type "dict",data:=.dict #[] }) h.objs.size (.dT []) :=
 ⟨NP _,beq_eq_false_iff_ne.mpr (Rk (Nb hb)),[],.nil,_,#[],0,Mm _ rfl,⟨rfl,rfl,rfl⟩,rfl,rfl,List.nodup_nil⟩
def IK:TE:=fun _ H Q=>∀ p,H p=none->Q (.ref p) (upd H p (.dT []))
section
variable {X:Cx} {pos:R8}
theorem Ah:PE X (.Dict [] [] pos) IK:=fun pins s σ H Q I h =>
 wpAny_Dict_empty ⟨.ref s.heap.objs.size,_,I.laid (a:=s.heap.objs.size) (o:=.dT []) (t':=s.toks) (fun _ _ q=>Ma _ q) (Mt _) (uP s.heap I.big),rfl,h _ (I.hok.fresh (Mt _))⟩
end
def yw:List (TE × TE)->St->Hp->(List (V × V)->Hp->Prop)->Prop
 | [],_,H,Q=>Q [] H
 | (tk,tv)::r,σ,H,Q=>tk σ H fun x H1=>tv σ H1 fun y H2=>yw r σ H2 fun ps H3=>Q ((x,y)::ps) H3
abbrev VV:List (V × V)->List (Mh × Mh)->Prop:=Paired fun p q=>RelV p.1 q.1/\RelV p.2 q.2
def PPs (X:Cx) (pos:R8) (keys:List (Option Expr)) (values:List Expr) (trs:List (TE × TE)):Prop :=
 ∀ (pins:List (Addr × Qv)) (s:Mj) (σ:St) (H:Hp) (Q:List (V × V)->Hp->Prop),Inv X pins σ H s->yw trs σ H Q →
  Mw (M6 X.prog X.w) X.A (evalPairs (pairTrees keys values X.env pos)) (fun vs s'=>∃ ps H',Inv X pins σ H' s'/\VV ps vs/\Q ps H') X.xe s
theorem Ej {X:Cx} {pos:R8}:PPs X pos [] [] []:=fun pins s σ H Q I h=>pairTrees_nil_walk ⟨[],H,I,.nil,h⟩
theorem uX {X:Cx} {pos:R8} {k v:Expr} {ks:List (Option Expr)} {vs:List Expr} {tk tv:TE} {trs:List (TE × TE)} (hk:PE X k tk) (hv:PE X v tv) (hr:PPs X pos ks vs trs) :
  PPs X pos (some k::ks) (v::vs) ((tk,tv)::trs):=fun pins s σ H Q I h =>
 pairTrees_cons_walk (thn (hk pins s σ H _ I h) fun u s1 ⟨x,H1,I1,rx,q1⟩=>thn (hv pins s1 σ H1 _ I1 q1) fun w2 s2 ⟨y,H2,I2,ry,q2⟩ =>
  thn (hr pins s2 σ H2 _ I2 q2) fun ws s3 ⟨ps,H3,I3,rel,q3⟩=>⟨(x,y)::ps,H3,I3,.cons ⟨rx,ry⟩ rel,q3⟩)
section
variable {X:Cx} {pins:List (Addr × Qv)} {σ:St} {H:Hp} {s:Mj} {a:Addr} {y d:V} {u r:Mh} {o:Option V} {A:N8} {E:Mh->Mj->Prop}
end
section
variable {X:Cx} {o e f:Expr} {apos cpos:R8} {td ty tx:TE}
end
section
variable {X:Cx} {pins:List (Addr × Qv)} {σ:St} {H:Hp} {s:Mj} {a:Addr} {kvs:List (Key × V)} {A:N8} {E:Mh->Mj->Prop}
end
section
variable {X:Cx} {pins:List (Addr × Qv)} {σ:St} {H:Hp} {s:Mj} {a:Addr} {y:V} {u:Mh} {A:N8} {E:Mh->Mj->Prop}
end
end L2
namespace L2
open PySem PySem.Spec PyProof.Rows
theorem lV.o5 {k:Nat} {A:N8} (r:lV k A):A.units+1 < cLine:=by have:=r.un; lia
section
variable {X:Cx} {pins:List (Addr × Qv)} {σ:St} {H:Hp} {s:Mj} {a b:Addr} {v:V} {r:Mh} {A:N8} {E:Mh->Mj->Prop}
theorem wC {kvs:List (List Key × V)} {k:List Key} {Q:Unit->Mj->Prop} (hu:A.units < cLine) (I:Inv X pins σ H s) (e:H a=some (.dT kvs)) (eb:H b=some (.tup (k.map kV))) (l:kvs.length < sizeLine) (rv:RelV v r) (h:∀ s',Inv X pins σ (upd H a (.dT (putK kvs k v))) s'->Q () s') :
  Mw (M6 X.prog X.w) A (dictSet a (.ref b) r) Q E s:=by
 obtain⟨z,hd,xs,rel,dd⟩:=Ig I.hok e
 have hz:xs.length<=sizeLine:=by rw[← T8 rel]; exact z
 have hl:(putK kvs k v).length<=sizeLine:=by have:=iJ kvs k v; lia
 refine wpAny_dictSet_heap (hsz:=hz) hu (qg I.hok eb) dd fun h' dd' hs=>h _ ?_
 obtain⟨q,es,ep,hq,h2,h3,h4,_,h5⟩:=dd'
 refine rQ I (by rw[e]; exact QW) hs ⟨q,hq⟩ ⟨hl,hd,_,(rel.put k eb rv).keeps fun c ys ec=>?_,q,es,ep,hq,h2,h3,h4,h5⟩
 rw[aL (JF ec e (fun z=>nomatch z))]
 exact ec
end
def xf (p:Addr):List (V × V)->Hp->(Hp->Prop)->Prop
 | [],H,Q=>Q H
 | (x,y)::r,H,Q=>∃ kvs k b,H p=some (.dT kvs)/\x = .ref b/\H b=some (.tup (k.map kV))/\kvs.length < sizeLine/\xf p r (upd H p (.dT (putK kvs k y))) Q
theorem Im {X:Cx} {pins:List (Addr × Qv)} {σ:St} {p:Addr} {A:N8} {E:Mh->Mj->Prop} (hu:A.units < cLine) {Z:Hp->Prop} {Q:PUnit->Mj->Prop} (hq:∀ H s,Inv X pins σ H s->Z H->Q PUnit.unit s) :
  ∀ {ps:List (V × V)} {vs:List (Mh × Mh)} {H:Hp} {s:Mj},VV ps vs->Inv X pins σ H s->xf p ps H Z->Mw (M6 X.prog X.w) A (storeAll p vs) Q E s:=by
 intro ps vs H s r
 induction r generalizing H s with
 | nil =>
  intro I t
  unfold storeAll
  rw[Qy]
  exact Mp (hq _ _ I t)
 | @cons x y xs ys h t ih =>
  intro I q
  obtain⟨x1,x2⟩:=x
  obtain⟨y1,y2⟩:=y
  obtain⟨kvs,k,b,e,ex,eb,l,q⟩:=q
  subst ex
  cases (show y1=NB b from h.1)
  unfold storeAll
  rw[Qk]
  exact LR (LR (wC hu I e eb l h.2 fun s' I'=>Mp (ih I' q)))
def Jb (trs:List (TE × TE)):TE:=fun σ H Q=>∀ p,H p=none->yw trs σ (upd H p (.dT [])) fun ps H2=>xf p ps H2 fun H3=>Q (.ref p) H3
theorem Af {X:Cx} {pos:R8} {keys:List (Option Expr)} {values:List Expr} {trs:List (TE × TE)} (hu:X.A.units < cLine) (h:PPs X pos keys values trs) (hall:keys.all (·.isSome)=true) (hl:keys.length=values.length) (h0:keys≠[])
  (h15:keys.length<=15):PE X (.Dict keys values pos) (Jb trs):=by
 intro pins s σ H Q I q
 have hn:=I.hok.fresh (Mt s.heap.objs.size)
 have I1:=I.laid (a:=s.heap.objs.size) (o:=.dT []) (h':=s.heap.push { cls:=.type "dict",data:=.dict #[] }) (t':=s.toks) (fun _ _ q=>Ma _ q) (Mt _) (uP s.heap I.big)
 refine wpAny_Dict_any hall hl h0 h15 (thn (h pins _ σ _ _ I1 (q _ hn)) fun ws s2 ⟨ps,H2,I2,rel,q2⟩=>?_)
 exact Im hu (fun H3 s3 I3 q3=>⟨.ref s.heap.objs.size,H3,I3,rfl,q3⟩) rel I2 q2
end L2
namespace L2
open PySem PySem.Spec PyProof.Rows PySem.W
section
variable {n:Nat} {o:Nat->Nat->Bool} {cmp:Nat->Nat->(Bool->Mj->Prop)->Mj->Prop} {s:Mj}
def dm (n:Nat) (p:Array Nat):Prop:=p.toList.Perm (Ms n)
theorem dm.size {p:Array Nat} (h:dm n p):p.size=n:=by
 have:=h.length_eq
 rw[MN] at this
 exact this
theorem dm.lt {p:Array Nat} (h:dm n p) {i:Nat} (hi:i < n):p.getD i 0 < n:=by
 have hs:i < p.size:=by rw[h.size]; exact hi
 have:p.getD i 0∈p.toList:=by
  simp [Uj,hs]
 exact List.mem_range.mp (h.mem_iff.mp this)
theorem dm.ne {p:Array Nat} (h:dm n p) {i j:Nat} (hi:i < n) (hj:j < n) (e:i≠j):p.getD i 0≠p.getD j 0:=by
 have nd:p.toList.Nodup:=h.nodup_iff.mpr Uz
 have hs:i < p.toList.length:=by rw[Nr,h.size]; exact hi
 have hs':j < p.toList.length:=by rw[Nr,h.size]; exact hj
 intro z
 have a1:p.getD i 0=p.toList[i]:=by simp [Uj,show i < p.size by simpa using hs]
 have a2:p.getD j 0=p.toList[j]:=by simp [Uj,show j < p.size by simpa using hs']
 rw[a1,a2] at z
 exact e ((Q9 nd).mp z)
def UpO (o:Nat->Nat->Bool) (p:Array Nat) (k:Nat):Prop:=∀ i j,i < j->j < k->o (p.getD i 0) (p.getD j 0)=true
def DnO (o:Nat->Nat->Bool) (p:Array Nat) (k:Nat):Prop:=∀ i j,i < j->j < k->o (p.getD j 0) (p.getD i 0)=true
variable (tr:∀ i j k,i < n->j < n->k < n->o i j=true->o j k=true->o i k=true) (tot:∀ i j,i < n->j < n->i≠j->o i j=false->o j i=true)
variable (hc:∀ i j,i < n->j < n->∀ C:Bool->Mj->Prop,C (o i j) s->cmp i j C s)
include tr in
theorem UpO.succ {p:Array Nat} (hp:dm n p) {k:Nat} (h1:1<=k) (hk:k < n) (h:UpO o p k) (e:o (p.getD (k - 1) 0) (p.getD k 0)=true):UpO o p (k+1):=by
 intro i j hij hj
 rcases PJ j k with h' | h'
 ·exact h i j hij h'
 ·have:j=k:=by lia
  subst this
  rcases PJ i (j - 1) with h2 | h2
  ·exact tr _ _ _ (hp.lt (by lia)) (hp.lt (by lia)) (hp.lt hk) (h i (j - 1) h2 (by lia)) e
  ·have:i=j - 1:=by lia
   subst this
   exact e
include tr in
theorem DnO.succ {p:Array Nat} (hp:dm n p) {k:Nat} (h1:1<=k) (hk:k < n) (h:DnO o p k) (e:o (p.getD k 0) (p.getD (k - 1) 0)=true):DnO o p (k+1):=by
 intro i j hij hj
 rcases PJ j k with h' | h'
 ·exact h i j hij h'
 ·have:j=k:=by lia
  subst this
  rcases PJ i (j - 1) with h2 | h2
  ·exact tr _ _ _ (hp.lt hk) (hp.lt (by lia)) (hp.lt (by lia)) e (h i (j - 1) h2 (by lia))
  ·have:i=j - 1:=by lia
   subst this
   exact e
include tr tot hc in
theorem sO {p:Array Nat} (hp:dm n p) {Q:Nat->Mj->Prop}:∀ (f k:Nat),1<=k->k+f<=n->UpO o p k->(∀ m,k<=m->m<=k+f->UpO o p m->(m=k+f∨o (p.getD m 0) (p.getD (m - 1) 0)=true)->Q m s)->(kas_asc p f k).kasWp cmp Q s
 | 0,k,_,_,hu,h=>h k (Mt _) (Mt _) hu (.inl rfl)
 | f+1,k,h1,hk,hu,h=>by
  show cmp _ _ _ s
  refine hc _ _ (hp.lt (by lia)) (hp.lt (by lia)) _ ?_
  cases e:o (p.getD k 0) (p.getD (k - 1) 0) with
  | true =>
   show Qu cmp (if true=true then _ else _) Q s
   rw[if_pos rfl]
   exact h k (Mt _) (by lia) hu (.inr e)
  | false =>
   show Qu cmp (if false=true then _ else _) Q s
   rw[if_neg Mr]
   refine sO hp f (k+1) (by lia) (by lia) (hu.succ tr hp h1 (by lia) (tot _ _ (hp.lt (by lia)) (hp.lt (by lia)) (hp.ne (by lia) (by lia) (by lia)) e)) fun m h2 h3 h4 h5=>h m (by lia) (by lia) h4 ?_
   rcases h5 with z | z
   ·exact .inl (by lia)
   ·exact .inr z
include tr tot hc in
theorem ud {p:Array Nat} (hp:dm n p) {Q:Array Nat × Nat × Nat->Mj->Prop}:∀ (f k:Nat),1<=k->k+f<=n->DnO o p k->(∀ m,k<=m->m<=k+f->DnO o p m->Q (p,m,0) s)->(kas_desc f p k 0).kasWp cmp Q s
 | 0,k,_,_,hu,h=>h k (Mt _) (Mt _) hu
 | f+1,k,h1,hk,hu,h=>by
  show cmp _ _ _ s
  refine hc _ _ (hp.lt (by lia)) (hp.lt (by lia)) _ ?_
  cases e:o (p.getD k 0) (p.getD (k - 1) 0) with
  | true =>
   show Qu cmp (if true=true then _ else _) Q s
   rw[if_pos rfl,if_neg (by decide)]
   exact ud hp f (k+1) (by lia) (by lia) (hu.succ tr hp h1 (by lia) e) fun m h2 h3 h4=>h m (by lia) (by lia) h4
  | false =>
   show Qu cmp (if false=true then _ else _) Q s
   rw[if_neg Mr]
   show cmp _ _ _ s
   refine hc _ _ (hp.lt (by lia)) (hp.lt (by lia)) _ ?_
   rw[tot _ _ (hp.lt (by lia)) (hp.lt (by lia)) (hp.ne (by lia) (by lia) (by lia)) e]
   show Qu cmp (if true=true then _ else _) Q s
   rw[if_pos rfl]
   exact h k (Mt _) (by lia) hu
theorem lB {p q:Array Nat} {i j:Nat} (h:p[i]? = q[j]?):p.getD i 0=q.getD j 0:=by
 rw[Va,Va,h]
theorem Ca {p:Array Nat} (hp:dm n p) (k:Nat):dm n (kas_rev p 0 k):=by
 have:=mirror_perm p 0 k ((k - 0) / 2)
 exact (Array.perm_iff_toList_perm.mp this).trans hp
theorem CG {p:Array Nat} {k:Nat} (hk:k<=p.size) (i:Nat):(kas_rev p 0 k).getD i 0=if i < k then p.getD (k - 1 - i) 0 else p.getD i 0:=by
 have e:=getElem?_mirror_all (xs:=p) (i:=0) hk i
 by_cases h:i < k
 ·rw[if_pos ⟨NP _,h⟩] at e
  rw[if_pos h]
  exact lB (e.trans (by rw[Nat.zero_add]))
 ·rw[if_neg (fun z=>h z.2)] at e
  rw[if_neg h]
  exact lB e
theorem JB {p:Array Nat} (hp:dm n p) {k:Nat} (hk:k<=n) (h:DnO o p k):UpO o (kas_rev p 0 k) k:=by
 intro i j hij hj
 rw[CG (by rw[hp.size]; exact hk),CG (by rw[hp.size]; exact hk),if_pos (by lia),if_pos hj]
 exact h (k - 1 - j) (k - 1 - i) (by lia) (by lia)
include tr tot hc in
theorem Bj {p:Array Nat} (hp:dm n p) {k:Nat} (h1:1<=k) (hk:k<=n) (h:DnO o p k) {Q:Nat × Array Nat->Mj->Prop} (hq:∀ m p',dm n p'->1<=m->m<=n->UpO o p' m->Q (m,p') s):(kas_tail3 k n p).kasWp cmp Q s:=by
 unfold kas_tail3
 rw[R7]
 have hp':=Ca hp k
 exact sO tr tot hc hp' (n - k) k h1 (by lia) (JB hp hk h) fun m h2 h3 h4 _=>hq m _ hp' (by lia) (by lia) h4
include tr tot hc in
theorem xU (h2:2<=n) {p:Array Nat} (hp:dm n p) {Q:Nat × Array Nat->Mj->Prop} (hq:∀ m p',dm n p'->1<=m->m<=n->UpO o p' m->Q (m,p') s):(kas_count n p).kasWp cmp Q s:=by
 unfold kas_count
 rw[R7]
 refine sO tr tot hc hp (n - 1) 1 (Mt _) (by lia) (fun i j hij hj=>by lia) fun m h3 h4 h5 h6=>?_
 show Qu cmp (if (m == n)=true then _ else _) Q s
 by_cases e:(m == n)=true
 ·rw[if_pos e]
  exact hq m p hp h3 (by lia) h5
 ·rw[if_neg e]
  have mn:m < n:=by
   have:¬ m=n:=by simpa using e
   lia
  by_cases g:m > 1
  ·rw[if_pos g]
   show cmp _ _ _ s
   refine hc _ _ (hp.lt (by lia)) (hp.lt (by lia)) _ ?_
   rw[h5 0 (m - 1) (by lia) (by lia)]
   show Qu cmp (if true=true then _ else _) Q s
   rw[if_pos rfl]
   exact hq m p hp h3 (by lia) h5
  ·rw[if_neg g]
   have m1:m=1:=by lia
   subst m1
   have z:o (p.getD 1 0) (p.getD 0 0)=true:=by
    rcases h6 with z | z
    ·lia
    ·exact z
   unfold kas_descPart
   rw[R7]
   refine ud tr tot hc hp (n - 2) 2 (by lia) (by lia) (fun i j hij hj=>?_) fun m h7 h8 h9=>?_
   ·have a1:i=0:=by lia
    have a2:j=1:=by lia
    subst a1 a2
    exact z
   ·show Qu cmp (if 0 > 0 then _ else _) Q s
    rw[if_neg (by decide)]
    exact Bj tr tot hc hp (by lia) (by lia) h9 hq
include tr tot hc in
theorem kZ {p:Array Nat} (hp:dm n p) {k:Nat} (hk:k < n) (hu:UpO o p k) {Q:Nat->Mj->Prop} (hq:∀ l,l<=k->(∀ i < l,o (p.getD i 0) (p.getD k 0)=true)->(∀ i,l<=i->i < k->o (p.getD k 0) (p.getD i 0)=true)->Q l s) :
  ∀ (f l r:Nat),l<=r->r<=k->r<=l+f->(∀ i < l,o (p.getD i 0) (p.getD k 0)=true)->(∀ i,r<=i->i < k->o (p.getD k 0) (p.getD i 0)=true)->(kas_place p k f l r).kasWp cmp Q s
 | 0,l,r,h1,h2,h3,a,b=>hq l (by lia) a fun i h4 h5=>b i (by lia) h5
 | f+1,l,r,h1,h2,h3,a,b=>by
  unfold kas_place
  by_cases g:l ≥ r
  ·rw[if_pos g]
   exact hq l (by lia) a fun i h4 h5=>b i (by lia) h5
  ·rw[if_neg g]
   show cmp _ _ _ s
   have hm:(l+r) / 2 < r:=by lia
   have hm':l<=(l+r) / 2:=by lia
   generalize (l+r) / 2=md at *
   refine hc _ _ (hp.lt hk) (hp.lt (by lia)) _ ?_
   cases e:o (p.getD k 0) (p.getD md 0) with
   | true =>
    show Qu cmp (if true=true then _ else _) Q s
    rw[if_pos rfl]
    refine kZ hp hk hu hq f l md hm' (by lia) (by lia) a fun i h4 h5=>?_
    rcases PJ md i with h6 | h6
    ·exact tr _ _ _ (hp.lt hk) (hp.lt (by lia)) (hp.lt (by lia)) e (hu md i h6 h5)
    ·have:i=md:=by lia
     subst this
     exact e
   | false =>
    show Qu cmp (if false=true then _ else _) Q s
    rw[if_neg Mr]
    have e':=tot _ _ (hp.lt hk) (hp.lt (by lia)) (hp.ne hk (by lia) (by lia)) e
    refine kZ hp hk hu hq f (md+1) r hm h2 (by lia) (fun i h4=>?_) b
    rcases PJ i md with h6 | h6
    ·exact tr _ _ _ (hp.lt (by lia)) (hp.lt (by lia)) (hp.lt hk) (hu i md h6 (by lia)) e'
    ·have:i=md:=by lia
     subst this
     exact e'
theorem CQ {p:Array Nat} {k l:Nat} (hk:k < p.size) (hl:l<=k) (i:Nat):(bubble p k (k - l)).getD i 0=if i=l then p.getD k 0 else if l < i/\i<=k then p.getD (i - 1) 0 else p.getD i 0:=by
 have e:=getElem?_bubble hk (k - l) (by lia) i
 rw[show k - (k - l)=l by lia] at e
 by_cases h:i=l
 ·rw[if_pos h] at e ⊢
  exact lB e
 ·rw[if_neg h] at e ⊢
  by_cases h':l < i/\i<=k
  ·rw[if_pos h'] at e ⊢
   exact lB e
  ·rw[if_neg h'] at e ⊢
   exact lB e
include tr tot hc in
theorem zY {Q:Array Nat->Mj->Prop} (hq:∀ p,dm n p->UpO o p n->Q p s):∀ (f:Nat) (p:Array Nat) (k:Nat),dm n p->k+f=n->UpO o p k->(kas_bin f p k).kasWp cmp Q s
 | 0,p,k,hp,e,hu=>hq p hp (by rw[← e]; exact hu)
 | f+1,p,k,hp,e,hu=>by
  unfold kas_bin
  rw[R7]
  refine kZ tr tot hc hp (by lia) hu (fun l hl a b=>?_) k 0 k (NP _) (Mt _) (by lia) (fun i h=>by lia) (fun i h1 h2=>by lia)
  have hpb:dm n (bubble p k (k - l)):=(Array.perm_iff_toList_perm.mp (bubble_perm p k (k - l))).trans hp
  refine zY hq f _ (k+1) hpb (by lia) fun i j hij hj=>?_
  have hks:k < p.size:=by rw[hp.size]; lia
  rw[CQ hks hl,CQ hks hl]
  by_cases h1:i=l
  ·rw[if_pos h1,if_neg (by lia),if_pos (by lia)]
   exact b (j - 1) (by lia) (by lia)
  ·rw[if_neg h1]
   by_cases h2:l < i/\i<=k
   ·rw[if_pos h2,if_neg (by lia),if_pos (by lia)]
    exact hu (i - 1) (j - 1) (by lia) (by lia)
   ·rw[if_neg h2]
    by_cases h3:j=l
    ·rw[if_pos h3]
     exact a i (by lia)
    ·rw[if_neg h3]
     by_cases h4:l < j/\j<=k
     ·rw[if_pos h4]
      rcases PJ i (j - 1) with h5 | h5
      ·exact hu i (j - 1) h5 (by lia)
      ·lia
     ·rw[if_neg h4]
      exact hu i j hij (by lia)
include tr tot hc in
theorem BJ (h2:2<=n) {Q:Array Nat->Mj->Prop} (hq:∀ p,dm n p->UpO o p n->Q p s):(kas_sort n).kasWp cmp Q s:=by
 unfold kas_sort
 rw[R7]
 refine xU tr tot hc h2 (p:=Uq (Ms n)) (TY _) fun m p' hp' h1 hm hu=>?_
 by_cases g:m < n
 ·show Qu cmp (if m < n then _ else _) Q s
  rw[if_pos g,show max m 1=m by lia]
  exact zY tr tot hc hq (n - m) p' m hp' (by lia) hu
 ·show Qu cmp (if m < n then _ else _) Q s
  rw[if_neg g]
  have:m=n:=by lia
  subst this
  exact hq p' hp' hu
end
end L2
namespace L2
open PySem PySem.Spec PyProof.Rows PySem.W PySem.SeqAt
open AutoSeq1 (wpAny_loadPart')
open MeetsSeq MeetsSeq2 MeetsSeq3
theorem vH (l b:Addr) (items items2:Array Mh) (n n2:Nat) (dd dd2:Option Addr) (sl sl2:Array (Option Mh)) {ns ms:List Int} (i1:Ow items.toList ns) (i2:Ow items2.toList ms) (k:Nat) :
  ∀ i:Nat,i<=ns.length->i<=ms.length->min ns.length ms.length - i=k->UT (Qf.«list.__eq__.loop» ⟨[.ref l,.ref b,QV i,QV 0],[]⟩)
   (fun A R s=>s.heap.get? l=some { cls:=.type "list",dict:=dd,data:=.seq items n,slots:=sl }/\s.heap.get? b=some { cls:=.type "list",dict:=dd2,data:=.seq items2 n2,slots:=sl2 } ∧
    R (.ok (.ret (.bool (HT.lexLt (ns.drop i) (ms.drop i))))) s):=by
 have z1:items.size=ns.length:=by rw[← Nr]; exact i1.length
 have z2:items2.size=ms.length:=by rw[← Nr]; exact i2.length
 induction k with
 | zero =>
  intro i h1 h2 hk prog w A R s h
  obtain⟨hp,g,d,tk,os⟩:=s; obtain⟨hl,hb,h⟩:=h
  have lx:HT.lexLt (ns.drop i) (ms.drop i)=decide (items.size < items2.size):=by
   rw[z1,z2]
   by_cases a1:i < ns.length
   ·have a2:ms.length=i:=by lia
    rw[RG (l:=ms) (by lia),Pr a1,HT.mD,decide_eq_false (by lia)]
   ·rw[RG (l:=ns) (by lia)]
    by_cases a2:i < ms.length
    ·rw[Pr a2,HT.mF,decide_eq_true (by lia)]
    ·rw[RG (l:=ms) (by lia),decide_eq_false (by lia)]
     rfl
  rw[lx] at h
  wp_walk using Ny hl,Ny hb
  by_cases a1:i < ns.length
  ·have hi2:items2[((i:Nat):Int).toNat]? = none:=by simp; lia
   have hi1:∃ v,items[((i:Nat):Int).toNat]? = some v:=⟨items[i],by rw[PN]; exact Array.getElem?_eq_getElem (by lia)⟩
   obtain⟨v,hi1⟩:=hi1
   rw[hi1,hi2]
   wp_walk using Ny hl,Ny hb
   exact h
  ·have hi1:items[((i:Nat):Int).toNat]? = none:=by simp; lia
   rw[hi1]
   wp_walk using Ny hl,Ny hb
   exact h
 | succ k ih =>
  intro i h1 h2 hk prog w A R s h
  obtain⟨hp,g,d,tk,os⟩:=s; obtain⟨hl,hb,h⟩:=h
  wp_walk using Ny hl,Ny hb
  have hlt:i < ns.length:=by lia
  have hlt2:i < ms.length:=by lia
  obtain⟨t1,e1⟩:=jy i1 (Mi hlt)
  obtain⟨t2,e2⟩:=jy i2 (Mi hlt2)
  have hi1:items[((i:Nat):Int).toNat]? = some (.int ns[i] t1):=by rw[PN,← Pz]; exact e1
  have hi2:items2[((i:Nat):Int).toNat]? = some (.int ms[i] t2):=by rw[PN,← Pz]; exact e2
  have hc:((i:Int)+1)=((i+1:Nat):Int):=by push_cast; rfl
  rw[Pr hlt,Pr hlt2,HT.gU] at h
  rw[hi1,hi2]
  refine LR (Uv ?_)
  by_cases hb':ns[i]=ms[i]
  ·rw[if_pos hb'] at h
   rw[show (ns[i] == ms[i])=true by simp [hb']]
   wp_walk
   rw[hc]
   exact⟨RP plain_eq_loop _,R6 entry_eq_loop (by
    rw[Q4 plain_eq_loop _]
    exact ih (i+1) (by lia) (by lia) (by lia) prog w A R _ ⟨hl,hb,h⟩)⟩
  ·rw[if_neg hb'] at h
   rw[show (ns[i] == ms[i])=false by simp [hb']]
   wp_walk using Ny hl,Ny hb
   rw[hi1,hi2]
   show Mw _ _ (do let v ← richCompare .Lt (.int ns[i] t1) (.int ms[i] t2); ret v) _ _ _
   refine LR (show Mw _ _ (Qg .Lt (.int ns[i] t1) (.int ms[i] t2)) _ _ _ from PyProof.Rows.lt_int ?_)
   exact Mp h
theorem vX (l b:Addr) (items items2:Array Mh) (n n2:Nat) (dd dd2:Option Addr) (sl sl2:Array (Option Mh)) {ns ms:List Int} (i1:Ow items.toList ns) (i2:Ow items2.toList ms) :
  UT (Qf.«list.__lt__» ⟨[.ref l,.ref b],[]⟩)
   (fun A R s=>s.heap.get? l=some { cls:=.type "list",dict:=dd,data:=.seq items n,slots:=sl }/\s.heap.get? b=some { cls:=.type "list",dict:=dd2,data:=.seq items2 n2,slots:=sl2 } ∧
    R (.ok (.ret (.bool (HT.lexLt ns ms)))) s):=by
 intro prog w A R s h
 obtain⟨hp,g,d,tk,os⟩:=s; obtain⟨hl,hb,h⟩:=h
 have f3:=AutoSeq1.sub_list_list
 wp_walk using Ny hl,Ny hb
 exact⟨RP plain_eq_loop _,R6 entry_eq_loop (by
  rw[Q4 plain_eq_loop _]
  exact vH l b items items2 n n2 dd dd2 sl sl2 i1 i2 _ 0 (NP _) (NP _) rfl prog w A R _ ⟨hl,hb,h⟩)⟩
section
variable {prog:M8} {w:NQ} {A:N8} {E:Mh->Mj->Prop} {s:Mj}
end
end L2
namespace L2
open PySem PySem.Spec PyProof.Rows PySem.W
theorem gf:∀ {a b c:List Int},HT.lexLt a b=true->HT.lexLt b c=true->HT.lexLt a c=true
 | [],[],_,h,_=>by cases h
 | [],_::_,[],_,h=>by cases h
 | [],_::_,_::_,_,_=>rfl
 | _::_,[],_,h,_=>by cases h
 | _::_,_::_,[],_,h=>by cases h
 | x::a,y::b,z::c,h1,h2=>by
  rw[HT.gU] at h1 h2 ⊢
  by_cases e1:x=y
  ·rw[if_pos e1] at h1
   by_cases e2:y=z
   ·rw[if_pos e2] at h2
    rw[if_pos (e1.trans e2)]
    exact gf h1 h2
   ·rw[if_neg e2] at h2
    rw[e1,if_neg e2]
    exact h2
  ·rw[if_neg e1] at h1
   have d1:=of_decide_eq_true h1
   by_cases e2:y=z
   ·rw[← e2,if_neg e1]
    exact h1
   ·rw[if_neg e2] at h2
    have d2:=of_decide_eq_true h2
    rw[if_neg (by lia)]
    exact decide_eq_true (by lia)
theorem lq:∀ {a b:List Int},a≠b->HT.lexLt a b=false->HT.lexLt b a=true
 | [],[],h,_=>absurd rfl h
 | [],_::_,_,h=>by cases h
 | _::_,[],_,_=>rfl
 | x::a,y::b,h,e=>by
  rw[HT.gU] at e ⊢
  by_cases q:x=y
  ·rw[if_pos q] at e
   rw[if_pos q.symm]
   exact lq (fun z=>h (by rw[q,z])) e
  ·rw[if_neg q] at e
   rw[if_neg (fun z=>q z.symm)]
   have:=of_decide_eq_false e
   exact decide_eq_true (by lia)
section
variable {prog:M8} {w:NQ} {A:N8} {E:Mh->Mj->Prop} {s:Mj}
theorem pB {l b:Addr} {items items2:Array Mh} {ns ms:List Int} {C:Bool->Mj->Prop} (hl:s.heap.IsList l items) (hb:s.heap.IsList b items2) (i1:Ow items.toList ns) (i2:Ow items2.toList ms) (hu:A.units < cLine) (h:C (HT.lexLt ns ms) s):Mw (M6 prog w) A (keyLt' oneType' (.ref l) (.ref b)) C E s:=by
 obtain⟨⟨cls,dd,data,sl⟩,ho,hc,n,hd⟩:=id hl
 obtain⟨⟨cls2,dd2,data2,sl2⟩,ho2,hc2,n2,hd2⟩:=id hb
 simp only at hc hd hc2 hd2
 subst hc hd hc2 hd2
 rw[keyLt'_oneType,oneLt'_eq]
 simp only[if_true]
 refine LR (wpAny_cRoomFor hu ?_)
 refine LR (wpAny_callSpecialIfBound?_slot ⟨_,ho,rfl⟩ F.slot_list_lt (QC F.slot_list_lt ⟨_,ho,rfl⟩ F.entry_list_lt (F.args_list_lt_2 _ _) (vX l b items items2 n n2 dd dd2 sl sl2 i1 i2) ⟨ho,ho2,?_⟩))
 exact Qm h
theorem oH {a:Addr} {vs:List Mh} {n:Nat} {κ:Rz} {o:Nat->Nat->Bool} {P:Fin->Mj->Prop} (ho:s.heap.get? a=some (PX "list" vs.toArray n)) (h64:vs.length < 64)
  (hk:2<=vs.length->∀ h',oA s.heap h' a->∀ Q:Rz->Mj->Prop,Q κ { s with heap:=h' }->Mw (M6 prog w) A (keyKind' vs.toArray) Q E { s with heap:=h' })
  (hO:∀ h',oA s.heap h' a->∀ i j,i < vs.length->j < vs.length->∀ C:Bool->Mj->Prop,C (o i j) { s with heap:=h' }->Mw (M6 prog w) A (keyLt' κ (vs.getD i Oc) (vs.getD j Oc)) C (fun _ _=>False) { s with heap:=h' })
  (tr:∀ i j k,i < vs.length->j < vs.length->k < vs.length->o i j=true->o j k=true->o i k=true) (tot:∀ i j,i < vs.length->j < vs.length->i≠j->o i j=false->o j i=true)
  (h:∀ p:Array Nat,dm vs.length p->UpO o p vs.length->P (.done (.ret .none)) { s with heap:=sortedHeap s.heap a vs (p.toList.map fun i=>vs.getD i Oc).toArray }) :
  Mw (M6 prog w) A (Qf.«list.sort» ⟨[.ref a],[]⟩) P E s:=by
 rw[list_sort_plain]
 have ha:a < s.heap.objs.size:=Mx ho
 refine LR (listItems_at ho rfl ?_)
 refine LR (listUpdate_at ho rfl ?_ (by rw[Mq,QT]; lia) (NP _))
 obtain⟨e1,ho1⟩:∃ e1,(s.heap.update a (O2 fun _=>#[])).get? a=some (PX "list" #[] e1):=⟨_,get?_update_seq ho (fun _=>#[])⟩
 refine LR (seqEpoch_at ho1 rfl ?_)
 refine LR (Tz ?_ (by show vs.length<=_; rw[QT]; lia))
 refine LR (wpAny_newList ?_ (NP _))
 refine Rh ?_
 have ho6:(((s.heap.update a (O2 fun _=>#[])).push (PX "tuple" vs.toArray 0)).push (PX "list" #[] 0)).get? a=some (PX "list" #[] e1):=by
  rw[QM _ _ _ (by rw[size_push',RN]; exact Nb (Qp ha)),QM _ _ _ (by rw[RN]; exact Nb ha)]
  exact ho1
 have kp:oA s.heap (((s.heap.update a (O2 fun _=>#[])).push (PX "tuple" vs.toArray 0)).push (PX "list" #[] 0)) a:=fun b o hb e=>by
  have hlt:b < s.heap.objs.size:=Mx e
  rw[QM _ _ _ (by rw[size_push',RN]; exact Nb (Qp hlt)),QM _ _ _ (by rw[RN]; exact Nb hlt),Heap.get?_update_ne _ _ _ _ hb]
  exact e
 show Mw (M6 prog w) A _ P E { s with heap:=((s.heap.update a (O2 fun _=>#[])).push (PX "tuple" vs.toArray 0)).push (PX "list" #[] 0) }
 dsimp only
 have hsz:vs.toArray.size=vs.length:=by simp
 have erange:(Uq (Ms vs.length)).map (kas_item (Sg vs))=Sg vs:=by
  have e:=kas_range (Sg vs)
  rw[show (Sg vs).size=vs.length from pairsOf_size vs] at e
  exact e
 have emap:∀ p:Array Nat,(p.map (kas_item (Sg vs))).map (·.2)=(p.toList.map fun i=>vs.getD i Oc).toArray:=fun p=>by
  apply Array.ext'
  simp [kas_item_eq]
 by_cases h2:vs.toArray.size < 2
 ·rw[if_pos h2,if_pos h2]
  refine LR (Mp ?_)
  rw[StateT.run_pure]
  refine LR (Mp ?_)
  dsimp only
  have em:(Sg vs).map (·.2)=((Ms vs.length).map fun i=>vs.getD i Oc).toArray:=by
   rw[← erange,emap]
  refine LR (seqEpoch_at ho6 rfl ?_)
  refine LR (listUpdate_at ho6 rfl ?_ (NP _) (by rw[Array.size_map]; show (Sg vs).size<=_; rw[pairsOf_size,QT]; lia))
  simp only[bne_self_eq_false,O4,if_false]
  have:=h (Uq (Ms vs.length)) (TY _) fun i j hij hj=>by lia
  refine Mp ?_
  show P _ { s with heap:=sortedHeap s.heap a vs ((Sg vs).map (·.2)) }
  rw[em]
  exact this
 ·rw[if_neg h2,if_neg h2]
  refine LR (hk (by lia) _ kp _ ?_)
  have est:SortSt.mk' κ (vs.toArray.zip vs.toArray) #[] 7 none=kas_st κ (Sg vs) (Uq (Ms vs.length)):=by
   unfold kas_st
   rw[erange]
   rfl
  rw[est]
  refine LR (PQ (kas_runs (prog:=prog) (w:=w) (A:=A) (E:=E) (it:=Sg vs) (κ:=κ) (n:=vs.length) (s:={ s with heap:=((s.heap.update a (O2 fun _=>#[])).push (PX "tuple" vs.toArray 0)).push (PX "list" #[] 0) })
   (G:=fun p s'=>(dm vs.length p/\UpO o p vs.length)/\s'={ s with heap:=((s.heap.update a (O2 fun _=>#[])).push (PX "tuple" vs.toArray 0)).push (PX "list" #[] 0) })
   (Q:=fun _ st' s'=>(∃ p,(dm vs.length p/\UpO o p vs.length)/\arrOf st'=p.map (kas_item (Sg vs))/\failedOf st'=none)/\s'={ s with heap:=((s.heap.update a (O2 fun _=>#[])).push (PX "tuple" vs.toArray 0)).push (PX "list" #[] 0) })
   (by lia) h64 (fun p' st' s' _ ea ef hg=>⟨⟨p',hg.1,ea,ef⟩,hg.2⟩) (BJ tr tot (fun i j hi hj C hC=>?_) (by lia) fun p hp hu=>⟨⟨hp,hu⟩,rfl⟩)) ?_ fun _ _ e=>e)
  ·unfold kas_cmp
   rw[kas_item_eq,kas_item_eq]
   exact hO _ kp i j hi hj C hC
  ·rintro⟨⟨⟩,st'⟩ s' ⟨⟨p,⟨hp,hu⟩,e1,e2⟩,rfl⟩
   dsimp only at e1 e2 ⊢
   have em:(arrOf st').map (·.2)=(p.toList.map fun i=>vs.getD i Oc).toArray:=by rw[e1,emap]
   refine LR (seqEpoch_at ho6 rfl ?_)
   refine LR (listUpdate_at ho6 rfl ?_ (NP _) (by rw[em,Mq,Mf,Nr,hp.size,QT]; lia))
   rw[e2]
   simp only[bne_self_eq_false,O4,if_false]
   rw[em]
   exact Mp (h p hp hu)
end
end L2
namespace L2
open PySem PySem.Spec PyProof.Rows PySem.W
section
variable {prog:M8} {w:NQ} {A:N8} {E:Mh->Mj->Prop} {s:Mj}
theorem mL {l:Addr} {vs:List Mh} {κ:Rz} {o:Nat->Nat->Bool} {Q:Mh->Mj->Prop} (hl:s.heap.IsList l vs.toArray) (h64:vs.length < 64)
  (hk:2<=vs.length->∀ h':N5,(∀ b o,s.heap.get? b=some o->h'.get? b=some o)->∀ Q:Rz->Mj->Prop,Q κ { s with heap:=h' }->Mw (M6 prog w) A.in1.in1 (keyKind' vs.toArray) Q E { s with heap:=h' })
  (hO:∀ h':N5,(∀ b o,s.heap.get? b=some o->h'.get? b=some o)->∀ i j,i < vs.length->j < vs.length->∀ C:Bool->Mj->Prop,C (o i j) { s with heap:=h' }->Mw (M6 prog w) A.in1.in1 (keyLt' κ (vs.getD i Oc) (vs.getD j Oc)) C (fun _ _=>False) { s with heap:=h' })
  (tr:∀ i j k,i < vs.length->j < vs.length->k < vs.length->o i j=true->o j k=true->o i k=true) (tot:∀ i j,i < vs.length->j < vs.length->i≠j->o i j=false->o j i=true)
  (h:∀ p:Array Nat,dm vs.length p->UpO o p vs.length->Q (.ref (s.heap.objs.size+1)) { s with heap:=sortedAll s.heap vs (p.toList.map fun i=>vs.getD i Oc).toArray }) :
  Mw (M6 prog w) A (call (.builtin "sorted") [.ref l]) Q E s:=by
 refine Calls.call_function_entry kind_sorted plain_sorted entry_sorted (args_sorted1 _) ?_
 unfold Qf.«sorted»
 refine LR (m:=checkCount "sorted" 1 1 _) (Mp ?_)
 refine LR (collect_list hl ?_ (by rw[QT]; lia))
 refine LR (wpAny_newList ?_ (by rw[QT]; lia))
 have hsz:((s.heap.push (PX "list" #[] 0)).update s.heap.objs.size (O2 (·++vs.toArray))).objs.size=s.heap.objs.size+1:=by
  rw[RN,size_push']
 have hoL:(((s.heap.push (PX "list" #[] 0)).update s.heap.objs.size (O2 (·++vs.toArray))).push (PX "list" vs.toArray 0)).get? (s.heap.objs.size+1)=some (PX "list" vs.toArray 0):=by
  rw[← hsz]; exact Mm _ rfl
 have keep:∀ b o,s.heap.get? b=some o->(((s.heap.push (PX "list" #[] 0)).update s.heap.objs.size (O2 (·++vs.toArray))).push (PX "list" vs.toArray 0)).get? b=some o:=fun b o q=>by
  have hlt:b < s.heap.objs.size:=Mx q
  rw[QM _ _ _ (by rw[hsz]; exact Nb (Qp hlt)),Heap.get?_update_ne _ _ _ _ (Nb hlt),QM _ _ _ (Nb hlt)]
  exact q
 have kb:∀ h':N5,oA (((s.heap.push (PX "list" #[] 0)).update s.heap.objs.size (O2 (·++vs.toArray))).push (PX "list" vs.toArray 0)) h' (s.heap.objs.size+1)->∀ b o,s.heap.get? b=some o->h'.get? b=some o:=fun h' k b o q =>
  k b o (Nb (Qp (Mx q))) (keep b o q)
 show Mw _ _ _ _ _ { s with heap:=((s.heap.push (PX "list" #[] 0)).update s.heap.objs.size (O2 (·++vs.toArray))).push (PX "list" vs.toArray 0) }
 rw[hsz]
 refine LR (Rh (Ox slot_list_sort ⟨_,hoL,rfl⟩ entry_list_sort (oH (s:={ s with heap:=((s.heap.push (PX "list" #[] 0)).update s.heap.objs.size (O2 (·++vs.toArray))).push (PX "list" vs.toArray 0) }) hoL h64 (fun h2 h' k=>hk h2 h' (kb h' k)) (fun h' k=>hO h' (kb h' k)) tr tot fun p hp hu=>⟨_,rfl,?_⟩) (args_list_sort _)))
 exact Mp ⟨_,rfl,h p hp hu⟩
end
theorem p7 {β:Type} {l:List β} {d:β} {p:Array Nat} (hp:dm l.length p):(p.toList.map fun i=>l.getD i d).Perm l:=by
 refine (List.Perm.map _ hp).trans ?_
 have e:(Ms l.length).map (fun i=>l.getD i d)=l:=by
  apply List.ext_getElem (by simp)
  intro i h1 h2
  simp [h2]
 rw[e]
section
variable {X:Cx} {k:Nat}
def zb (K:Nq):List V->Hp->VK->Prop:=fun xs H Q=>∃ (p:Addr) (ps:List (Addr × List Int)),xs=[.ref p]/\SqL K H p (ps.map fun p=>V.ref p.1)/\ps.length < 64/\(∀ q∈ps,SqL K H q.1 (q.2.map V.int))/\(ps.map (·.2)).Nodup ∧
 ∀ qs:List (Addr × List Int),qs.Perm ps->qs.Pairwise (fun a b=>HT.lexLt a.2 b.2=true)->∀ l,H l=none->Q (.ref l) (upd H l (.lst (qs.map fun p=>V.ref p.1)))
theorem qO (hr:lV k X.A):gD X (.builtin "sorted") (zb X.K):=by
 intro pins s σ H xs us Q I r h
 obtain⟨p,ps,rfl,hq,h64,ht,hnd,q⟩:=h
 obtain⟨u,rfl,ru⟩:=vals1 r
 cases ru
 obtain⟨its,rv,pl,_⟩:=I.list hq
 have ei:=qN ps its rv
 subst ei
 have lv:(ps.map fun p=>NB p.1).length=ps.length:=by simp
 have pr:∀ p∈ps,∃ its:List Mh,s.heap.IsList p.1 its.toArray/\Ow its p.2:=fun p hm=>by
  obtain⟨i2,r2,p2,_⟩:=I.list (ht p hm)
  exact⟨i2,p2.isList,intsAre_of r2⟩
 have kl:∀ {h':N5} {a:Addr} {it:Array Mh},(∀ b o,s.heap.get? b=some o->h'.get? b=some o)->s.heap.IsList a it->h'.IsList a it:=fun kp ⟨ob,e,r⟩=>⟨ob,kp _ _ e,r⟩
 have hu:X.A.in1.in1.units < cLine:=by
  have:=hr.un
  show X.A.units+1+1 < _
  lia
 let o:Nat->Nat->Bool:=fun i j=>HT.lexLt (ps.getD i (0,[])).2 (ps.getD j (0,[])).2
 have dif:∀ i j,i < ps.length->j < ps.length->i≠j->(ps.getD i (0,[])).2≠(ps.getD j (0,[])).2:=fun i j hi hj ne z=>by
  have h1:(ps.getD i (0,[])).2=(ps.map (·.2))[i]'(by simpa using hi):=by simp [hi]
  have h2:(ps.getD j (0,[])).2=(ps.map (·.2))[j]'(by simpa using hj):=by simp [hj]
  rw[h1,h2] at z
  exact ne ((Q9 hnd).mp z)
 refine mL (o:=o) (κ:=oneType') pl.isList (by lia) (fun h2 h' kp Q' hQ=>?_) (fun h' kp i j hi hj C hC=>?_) (fun i j k _ _ _ a b=>gf a b) (fun i j hi hj ne e=>lq (dif i j (by lia) (by lia) ne) e) fun pm hp hup=>?_
 ·refine kas_kind (T:=.type "list") h2 (fun v hv=>?_) (by rfl) (by rfl) hQ
  obtain⟨p,hm,rfl⟩:=List.mem_map.mp hv
  obtain⟨it,h1,_⟩:=pr p hm
  obtain⟨ob,e,c,_⟩:=kl kp h1
  exact kitAt_ty _ _ ⟨ob,e,c⟩
 ·have hi':i < ps.length:=by lia
  have hj':j < ps.length:=by lia
  rw[show (ps.map fun p=>NB p.1).getD i Oc = .ref ps[i].1 by simp [hi'],show (ps.map fun p=>NB p.1).getD j Oc = .ref ps[j].1 by simp [hj']]
  obtain⟨i1,l1,n1⟩:=pr ps[i] (Nk hi')
  obtain⟨i2,l2,n2⟩:=pr ps[j] (Nk hj')
  refine pB (kl kp l1) (kl kp l2) (by simpa using n1) (by simpa using n2) hu ?_
  have:o i j=HT.lexLt ps[i].2 ps[j].2:=by simp [o,hi',hj']
  rw[← this]
  exact hC
 ·rw[lv] at hp hup
  obtain⟨e,he⟩:=sortedAll_at s.heap (ps.map fun p=>NB p.1) (pm.toList.map fun i=>(ps.map fun p=>NB p.1).getD i Oc).toArray
  have hlt:∀ i∈pm.toList,i < ps.length:=fun i hi=>List.mem_range.mp (hp.mem_iff.mp hi)
  have hml:(pm.toList.map fun i=>V.ref (ps.getD i (0,[])).1).length<=sizeLine:=by
   rw[Mf,Nr,hp.size,QT]
   lia
  have q':=q (pm.toList.map fun i=>ps.getD i (0,[])) (p7 hp) ?_ (s.heap.objs.size+1) (I.hok.fresh (QX _))
  ·rw[Qe] at q'
   exact⟨.ref _,_,I.Et rfl rfl (fun _ _=>sortedAll_old) (QX _) (tL pm.toList hlt) hml he,rfl,q'⟩
  ·rw[List.pairwise_iff_getElem]
   intro i j hi hj hij
   rw[Mf,Nr,hp.size] at hi hj
   have:=hup i j hij hj
   simp only[List.getElem_map]
   have g:∀ x (hx:x < ps.length),pm.getD x 0=pm.toList[x]'(by rw[Nr,hp.size]; exact hx):=fun x hx=>by
    have:x < pm.size:=by rw[hp.size]; exact hx
    simp [Uj,this]
   rw[g i hi,g j hj] at this
   exact this
end
end L2
namespace L2
open PySem PySem.Spec PyProof.Rows
inductive HasDef (K:MP) (x:Ou) (st:Stmt) (f:Addr):Prop where
 | mk {od an:Option Addr} {sl:Array (Option Mh)} {oc kV dc pm cd ct:Mh} (a:PySem.W.nsIn K Ng x=some (some (.ref f))) (l:K.lookup f=some ⟨oc,od,.func (RB x x (d7 st) (dJ st) (aD st) .none kV dc pm an cd ct),sl⟩) (c:TX K cd x=true) (k:SJ K (.ref f)=true):HasDef K x st f
section
variable {P:M8} {w:NQ} {K:Nq} {mg:Ou->Option Mh} {base h:N5} {x:Ou} {st:Stmt} {f:Addr} {ps:List Ou} {sp:Sp} {k:Nat}
theorem HasDef.name (q:HasDef K x st f) (X:K.In h) (G:h.Ns Ng mg):mg x=some (.ref f):=by
 obtain⟨a,l,c,k⟩:=q
 exact PySem.W.mg_of X G a
theorem HasDef.df (q:HasDef K x st f) (X:K.In h) (G:h.Ns Ng mg) (hb:∀ fd,Fun K x x st f fd->Binds K fd ps []) (ok:∀ fd,Fun K x x st f fd->fu P w K mg base CX0 k f fd ps sp):Df P w K mg base x k ps sp:=by
 obtain⟨a,l,c,k⟩:=q
 have F:=Cq l c k
 exact⟨⟨_,_,ok _ F,PySem.W.mg_of X G a,k,hb _ F⟩⟩
theorem HasDef.law {y:Ou} (q:HasDef K x st f) (hb:∀ (kV dc pm:Mh) (an:Option Addr) (cd ct:Mh) (s:Mj) (v:Mh),T4 s (W.fnOf x x (d7 st) (dJ st) (aD st) .none kV dc pm an cd ct) ⟨[v],[]⟩ [(y,v)]):∃ fd,Fun K x x st f fd/\∀ (s:Mj) (v:Mh),T4 s fd ⟨[v],[]⟩ [(y,v)]:=by
 obtain⟨a,l,c,k⟩:=q
 exact⟨_,Cq l c k,hb _ _ _ _ _ _⟩
theorem Lp {α:Type}:∀ {us:List α},us.length=1->∃ x0,us=[x0]
 | [x0],_=>⟨x0,rfl⟩
theorem Lk {α:Type}:∀ {us:List α},us.length=2->∃ x0 x1,us=[x0,x1]
 | [x0,x1],_=>⟨x0,x1,rfl⟩
theorem LC {α:Type}:∀ {us:List α},us.length=3->∃ x0 x1 x2,us=[x0,x1,x2]
 | [x0,x1,x2],_=>⟨x0,x1,x2,rfl⟩
theorem Ly {α:Type}:∀ {us:List α},us.length=4->∃ x0 x1 x2 x3,us=[x0,x1,x2,x3]
 | [x0,x1,x2,x3],_=>⟨x0,x1,x2,x3,rfl⟩
theorem Lb {α:Type}:∀ {us:List α},us.length=6->∃ x0 x1 x2 x3 x4 x5,us=[x0,x1,x2,x3,x4,x5]
 | [x0,x1,x2,x3,x4,x5],_=>⟨x0,x1,x2,x3,x4,x5,rfl⟩
theorem bind1 {q a0:Ou} (h:∀ (kV doc pm:Mh) (an:Option Addr) (cdv ct x0:Mh),TQ (W.fnOf x q (d7 st) (dJ st) (aD st) .none kV doc pm an cdv ct) ⟨[x0],[]⟩=pure [(a0,x0)]:=by intros; rfl):∀ fd,Fun K x q st f fd->Binds K fd [a0] []:=fun _ F=>F.binds fun kV doc pm an cdv ct us hl=>by
 obtain⟨x0,rfl⟩:=Lp hl
 exact h kV doc pm an cdv ct x0
theorem cR {q a0 a1:Ou} (h:∀ (kV doc pm:Mh) (an:Option Addr) (cdv ct x0 x1:Mh),TQ (W.fnOf x q (d7 st) (dJ st) (aD st) .none kV doc pm an cdv ct) ⟨[x0,x1],[]⟩=pure [(a0,x0),(a1,x1)]:=by intros; rfl):∀ fd,Fun K x q st f fd->Binds K fd [a0,a1] []:=fun _ F=>F.binds fun kV doc pm an cdv ct us hl=>by
 obtain⟨x0,x1,rfl⟩:=Lk hl
 exact h kV doc pm an cdv ct x0 x1
theorem sG {q a0 a1 a2:Ou} (h:∀ (kV doc pm:Mh) (an:Option Addr) (cdv ct x0 x1 x2:Mh),TQ (W.fnOf x q (d7 st) (dJ st) (aD st) .none kV doc pm an cdv ct) ⟨[x0,x1,x2],[]⟩=pure [(a0,x0),(a1,x1),(a2,x2)]:=by intros; rfl):∀ fd,Fun K x q st f fd->Binds K fd [a0,a1,a2] []:=fun _ F=>F.binds fun kV doc pm an cdv ct us hl=>by
 obtain⟨x0,x1,x2,rfl⟩:=LC hl
 exact h kV doc pm an cdv ct x0 x1 x2
theorem Jf {q a0 a1 a2 a3:Ou} (h:∀ (kV doc pm:Mh) (an:Option Addr) (cdv ct x0 x1 x2 x3:Mh),TQ (W.fnOf x q (d7 st) (dJ st) (aD st) .none kV doc pm an cdv ct) ⟨[x0,x1,x2,x3],[]⟩=pure [(a0,x0),(a1,x1),(a2,x2),(a3,x3)]:=by intros; rfl):∀ fd,Fun K x q st f fd->Binds K fd [a0,a1,a2,a3] []:=fun _ F=>F.binds fun kV doc pm an cdv ct us hl=>by
 obtain⟨x0,x1,x2,x3,rfl⟩:=Ly hl
 exact h kV doc pm an cdv ct x0 x1 x2 x3
theorem Jq {q a0 a1 a2 a3 a4 a5:Ou} (h:∀ (kV doc pm:Mh) (an:Option Addr) (cdv ct x0 x1 x2 x3 x4 x5:Mh),TQ (W.fnOf x q (d7 st) (dJ st) (aD st) .none kV doc pm an cdv ct) ⟨[x0,x1,x2,x3,x4,x5],[]⟩=pure [(a0,x0),(a1,x1),(a2,x2),(a3,x3),(a4,x4),(a5,x5)]:=by intros; rfl):∀ fd,Fun K x q st f fd->Binds K fd [a0,a1,a2,a3,a4,a5] []:=fun _ F=>F.binds fun kV doc pm an cdv ct us hl=>by
 obtain⟨x0,x1,x2,x3,x4,x5,rfl⟩:=Lb hl
 exact h kV doc pm an cdv ct x0 x1 x2 x3 x4 x5
end
end L2
namespace L2
open PySem PySem.Spec PyProof.Rows PySem.W
section
variable {prog:M8} {w:NQ} {A:N8} {E:Mh->Mj->Prop} {s:Mj}
def Dp (h:N5) (p:Addr) (ns:List Int):Prop:=∃ (t:Tok) (l:Addr) (its:List Mh) (m:Int),h.IsTuple p #[.ref l,.int m t]/\h.IsList l its.toArray/\Ow its ns
theorem Dp.keep {h h':N5} {p:Addr} {ns:List Int} (x:Dp h p ns) (k:∀ b o,h.get? b=some o->h'.get? b=some o):Dp h' p ns:=by
 obtain⟨t,l,its,m,⟨o1,e1,r1⟩,⟨o2,e2,r2⟩,i⟩:=x
 exact⟨t,l,its,m,⟨o1,k _ _ e1,r1⟩,⟨o2,k _ _ e2,r2⟩,i⟩
theorem Ie {l b:Addr} {its its2:List Mh} {ns ms:List Int} {Q:Bool->Mj->Prop} (hl:s.heap.IsList l its.toArray) (hb:s.heap.IsList b its2.toArray) (i1:Ow its ns) (i2:Ow its2 ms) (hu:A.units < cLine) (h:Q (decide (ns=ms)) s):Mw (M6 prog w) A (eqBool (.ref l) (.ref b)) Q E s:=by
 by_cases hsz:ns.length=ms.length
 ·exact Ae hl hb i1 i2 hsz hu h
 ·have hne:l≠b:=fun z=>by
   subst z
   obtain⟨o1,e1,c1,n1,d1⟩:=hl
   obtain⟨o2,e2,c2,n2,d2⟩:=hb
   rw[e1] at e2
   cases e2
   rw[d1] at d2
   have ei:its=its2:=by injection d2 with d2; simpa using d2
   subst ei
   exact hsz (by rw[← i1.length,← i2.length])
  rw[decide_eq_false fun z=>hsz (by rw[z])] at h
  refine SeqAt.EqAt.of_refs hne (SeqAt.RcAt.lists_lengths hl hb ?_ hu) prog w E _ h
  rw[Mq,Mq,i1.length,i2.length]
  simpa using hsz
theorem J3 {p q:Addr} {ns ms:List Int} {C:Bool->Mj->Prop} (hp:Dp s.heap p ns) (hq:Dp s.heap q ms) (hu:A.units < cLine) (hne:ns=ms->p=q) (h:C (HT.lexLt ns ms) s):Mw (M6 prog w) A (keyLt' (tuples' true) (.ref p) (.ref q)) C E s:=by
 obtain⟨t1,l1,i1,m1,⟨o1,e1,c1,n1,d1⟩,hl1,a1⟩:=hp
 obtain⟨t2,l2,i2,m2,⟨o2,e2,c2,n2,d2⟩,hl2,a2⟩:=hq
 refine kat_lt e1 d1 e2 d2 ?_
 show KatLex prog w A true _ C [(.ref l1,.ref l2),(.int m1 t1,.int m2 t2)] 0 s
 refine kat_cons (Ie hl1 hl2 a1 a2 hu (kat_go (fun e=>kat_yes ?_) fun e=>kat_no ?_))
 ·have e':ns=ms:=by simpa using e
  have pq:=hne e'
  subst pq
  rw[e1] at e2
  cases e2
  rw[d1] at d2
  have em:m1=m2:=by
   injection d2 with d2 _
   have:=congrArg Array.toList d2
   simp at this
   exact this.2.1
  subst e' em
  rw[fB] at h
  refine kat_cons (Uv (kat_go (fun e=>kat_yes ?_) fun e=>?_))
  ·exact h
  ·simp at e
 ·exact pB (C:=C) hl1 hl2 (by simpa using a1) (by simpa using a2) hu h
theorem CJ:∀ {ps:List (Addr × List Int)},(∀ p∈ps,Dp s.heap p.1 p.2)->∃ fs:List Mh,fs.length=ps.length/\KatTups s.heap (ps.map fun p=>NB p.1) fs/\∀ v∈fs,∃ (l:Addr) (its:Array Mh),v = .ref l/\s.heap.IsList l its
 | [],_=>⟨[],rfl,KatTups.nil,by simp⟩
 | p::ps,h=>by
  obtain⟨fs,e,k,z⟩:=CJ (ps:=ps) fun q hq=>h q (MF _ hq)
  obtain⟨t,l,its,m,⟨o,ho,hc,n,hd⟩,hl,_⟩:=h p Ml
  refine⟨.ref l::fs,by simp [e],KatTups.cons ho hc hd (by simp) k,fun v hv=>?_⟩
  rcases List.mem_cons.mp hv with rfl | hv
  ·exact⟨_,_,rfl,hl⟩
  ·exact z v hv
theorem Fv {M:Model} {ps:List (Addr × List Int)} {Q:Rz->Mj->Prop} (h0:0 < ps.length) (ht:∀ p∈ps,Dp s.heap p.1 p.2) (h:Q (tuples' true) s):Mw M A (keyKind' (ps.map fun p=>NB p.1).toArray) Q E s:=by
 obtain⟨fs,e,k,z⟩:=CJ ht
 refine kat_kind (T:=.type "list") k (by lia) (fun v hv=>?_) (by rfl) ?_
 ·obtain⟨l,its,rfl,ob,e,c,_⟩:=z v hv
  exact kitAt_ty _ _ ⟨ob,e,c⟩
 ·exact h
end
section
variable {X:Cx} {k:Nat}
def xM (K:Nq):List V->Hp->VK->Prop:=fun xs H Q=>∃ (p:Addr) (ps:List (Addr × List Int)),xs=[.ref p]/\SqL K H p (ps.map fun p=>V.ref p.1)/\ps.length < 64/\(∀ q∈ps,∃ (l:Addr) (m:Int),SqT K H q.1 [.ref l,.int m]/\SqL K H l (q.2.map V.int))/\(ps.map (·.2)).Nodup ∧
 ∀ qs:List (Addr × List Int),qs.Perm ps->qs.Pairwise (fun a b=>HT.lexLt a.2 b.2=true)->∀ l,H l=none->Q (.ref l) (upd H l (.lst (qs.map fun p=>V.ref p.1)))
theorem sJ (hr:lV k X.A):gD X (.builtin "sorted") (xM X.K):=by
 intro pins s σ H xs us Q I r h
 obtain⟨p,ps,rfl,hq,h64,ht,hnd,q⟩:=h
 obtain⟨u,rfl,ru⟩:=vals1 r
 cases ru
 obtain⟨its,rv,pl,_⟩:=I.list hq
 have ei:=qN ps its rv
 subst ei
 have lv:(ps.map fun p=>NB p.1).length=ps.length:=by simp
 have pr:∀ p∈ps,Dp s.heap p.1 p.2:=fun p hm=>by
  obtain⟨l,m,h1,h2⟩:=ht p hm
  obtain⟨i1,r1,p1,_⟩:=I.tuple h1
  obtain⟨i2,r2,p2,_⟩:=I.list h2
  cases r1 with
  | cons ra r1 =>
   cases ra
   cases r1 with
   | cons rb r1 =>
    obtain⟨t,rfl⟩:=rb
    cases r1
    exact⟨t,l,i2,m,p1,p2.isList,intsAre_of r2⟩
 have hu:X.A.in1.in1.units < cLine:=by
  have:=hr.un
  show X.A.units+1+1 < _
  lia
 let o:Nat->Nat->Bool:=fun i j=>HT.lexLt (ps.getD i (0,[])).2 (ps.getD j (0,[])).2
 have dif:∀ i j,i < ps.length->j < ps.length->i≠j->(ps.getD i (0,[])).2≠(ps.getD j (0,[])).2:=fun i j hi hj ne z=>by
  have h1:(ps.getD i (0,[])).2=(ps.map (·.2))[i]'(by simpa using hi):=by simp [hi]
  have h2:(ps.getD j (0,[])).2=(ps.map (·.2))[j]'(by simpa using hj):=by simp [hj]
  rw[h1,h2] at z
  exact ne ((Q9 hnd).mp z)
 refine mL (o:=o) (κ:=tuples' true) pl.isList (by lia) (fun h2 h' kp Q' hQ=>?_) (fun h' kp i j hi hj C hC=>?_) (fun i j k _ _ _ a b=>gf a b) (fun i j hi hj ne e=>lq (dif i j (by lia) (by lia) ne) e) fun pm hp hup=>?_
 ·exact Fv (s:={ s with heap:=h' }) (by lia) (fun p hm=>(pr p hm).keep kp) hQ
 ·have hi':i < ps.length:=by lia
  have hj':j < ps.length:=by lia
  rw[show (ps.map fun p=>NB p.1).getD i Oc = .ref ps[i].1 by simp [hi'],show (ps.map fun p=>NB p.1).getD j Oc = .ref ps[j].1 by simp [hj']]
  refine J3 (s:={ s with heap:=h' }) ((pr ps[i] (Nk hi')).keep kp) ((pr ps[j] (Nk hj')).keep kp) hu (fun e=>?_) ?_
  ·by_cases ij:i=j
   ·subst ij
    rfl
   ·exact absurd (by simpa [hi',hj'] using e) (dif i j hi' hj' ij)
  ·have:o i j=HT.lexLt ps[i].2 ps[j].2:=by simp [o,hi',hj']
   rw[← this]
   exact hC
 ·rw[lv] at hp hup
  obtain⟨e,he⟩:=sortedAll_at s.heap (ps.map fun p=>NB p.1) (pm.toList.map fun i=>(ps.map fun p=>NB p.1).getD i Oc).toArray
  have hlt:∀ i∈pm.toList,i < ps.length:=fun i hi=>List.mem_range.mp (hp.mem_iff.mp hi)
  have hml:(pm.toList.map fun i=>V.ref (ps.getD i (0,[])).1).length<=sizeLine:=by
   rw[Mf,Nr,hp.size,QT]
   lia
  have q':=q (pm.toList.map fun i=>ps.getD i (0,[])) (p7 hp) ?_ (s.heap.objs.size+1) (I.hok.fresh (QX _))
  ·rw[Qe] at q'
   exact⟨.ref _,_,I.Et rfl rfl (fun _ _=>sortedAll_old) (QX _) (tL pm.toList hlt) hml he,rfl,q'⟩
  ·rw[List.pairwise_iff_getElem]
   intro i j hi hj hij
   rw[Mf,Nr,hp.size] at hi hj
   have:=hup i j hij hj
   simp only[List.getElem_map]
   have g:∀ x (hx:x < ps.length),pm.getD x 0=pm.toList[x]'(by rw[Nr,hp.size]; exact hx):=fun x hx=>by
    have:x < pm.size:=by rw[hp.size]; exact hx
    simp [Uj,this]
   rw[g i hi,g j hj] at this
   exact this
end
end L2
namespace My
open PySem L2
variable {P:M8} {w:NQ} {K:Nq} {mg:Ou->Option Mh} {base:N5} {f:Addr} {fd:QH}
def top (i:Nat):Stmt:=PySem.Challenge.pw_loveboon_k30_whole_knots_of_rings_and_cr.main.body.getD i (.Pass ⟨0,0,0,0⟩)
theorem au {H:Hp} {p:Addr} (h:H p=none) (o:HO):aP H (upd H p o):=fun b u q=>by rw[aL (dj q h)]; exact q
theorem aG {H H':Hp} {p:Addr} (s:aP H H') (h:H p=none) (o:HO):aP H (upd H' p o):=fun b u q=>by rw[aL (dj q h)]; exact s b u q
theorem ig {K:Nq} {H H':Hp} {a:Addr} {xs:List V} (e:aP H H') (h:SqT K H a xs):SqT K H' a xs:=by
 rcases h with (h | ⟨o,h⟩) | h
 ·exact .inl (.inl (e _ _ h))
 ·exact .inl (.inr ⟨o,e _ _ h⟩)
 ·exact .inr h
theorem Dj {H:Hp} {p:Addr} {o o':HO}:upd (upd H p o) p o'=upd H p o':=by
 funext b
 unfold upd
 by_cases e:b=p
 ·rw[if_pos e,if_pos e]
 ·rw[if_neg e,if_neg e,if_neg e]
theorem small {n:Nat} (h:n<=1000):n<=sizeLine:=Te (aK h)
theorem int_at {ns:List Int} {i:Nat} {x:V} (h:(ns.map V.int)[i]? = some x):∃ n,ns[i]? = some n/\x = .int n:=by
 rw[Nj] at h
 cases e:ns[i]? with
 | none=>rw[e] at h; cases h
 | some n=>rw[e] at h; exact⟨n,rfl,(M9 h).symm⟩
theorem oR {α β:Type} (f:α->β) {xs:List α} {i:Nat} {x:α} (h:xs[i]? = some x):(xs.take i).map f++[f x]=(xs.take (i+1)).map f:=by
 rw[Nt,h,Mu]
 rfl
theorem wM {ns:List Int} {i:Nat} (h:i < ns.length):atI (ns.map V.int) (i:Int)=some (.int ns[i]):=iQ (by rw[Nj,Mi h]; rfl)
theorem gT {i:Nat} {x:V} {σ:St} {H:Hp} {A B:St->Hp->Prop} (h:A (σ.set i (some x)) H):Az i x σ H (fun σ3 H3=>Ga σ3 H3 (fun b H4=>if b=true then A σ3 H4 else B σ3 H4)):=by
 show if true=true then A (σ.set i (some x)) H else B (σ.set i (some x)) H
 rw[if_pos rfl]
 exact h
theorem aR {H H1:Hp} {p:Addr} {o:HO} (e:upd H p o=H1) (h:H p=none):aP H H1/\H1 p=some o:=by
 subst e
 exact⟨au h _,aj⟩
theorem bu {xs:List V} {k:Nat} {v:V} (h:xs[k]? = some v):atI xs (k:Int)=some v:=iQ h
theorem lK {ns:List Int} {k:Nat} {n:Int} (h:ns[k]? = some n):(ns.map V.int)[k]? = some (.int n):=by rw[Nj,h]; rfl
theorem tT {σ:St} {H:Hp} {A B:Hp->Prop} (h:A H):Ga σ H (fun b H4=>if b=true then A H4 else B H4):=by
 show if true=true then A H else B H
 rw[if_pos rfl]
 exact h
theorem jj:∀ ns:List Int,jP (ns.map Dm.int)=0
 | []=>by simp [jP]
 | n::r=>by simp [jP,Dm.dep,jj r]
theorem je {H:Hp} {a:Addr} {ns:List Int} (h:H a=some (.tup (ns.map V.int))) (l:ns.length<=1000):Rep H (.ref a) (.tup (ns.map Dm.int)):=.tup h (by rw[Mf]; lia) (gK ns)
theorem tE (ns:List Int):(Dm.tup (ns.map Dm.int)).dep=1:=by rw[Dm.dep,jj]
def vN (i:Nat):V:=.int (i:Int)
theorem fj (c:List Nat):c.map vN=(c.map fun i:Nat=>(i:Int)).map V.int:=by rw[Qe]; rfl
theorem pP {c:List Nat} {j:Nat} {x:V} (h:(c.map vN)[j]? = some x):∃ i,c[j]? = some i/\x=vN i:=by
 rw[Nj] at h
 cases e:c[j]? with
 | none=>rw[e] at h; cases h
 | some i=>rw[e] at h; exact⟨i,rfl,(M9 h).symm⟩
theorem cZ {H:Hp} {D:Addr} {zs zs':List V} (h:H D=some (.lst zs)):∀ a xs,H a=some (HO.tup xs)->upd H D (.lst zs') a=some (HO.tup xs):=fun a xs q=>by
 rw[aL (fun z=>by rw[z,h] at q; cases q)]
 exact q
theorem Ir {α:Type} {xs:List α} {v:α} (h:xs[xs.length - 1]? = some v):atI xs (-1)=some v:=by
 have hl:xs.length - 1 < xs.length:=(List.getElem?_eq_some_iff.mp h).1
 have hne:xs≠[]:=fun z=>by rw[z] at hl; exact absurd hl (O5 _)
 have e:xs=xs.dropLast++[v]:=by
  rw[← List.getLast?_eq_getElem?,List.getLast?_eq_some_getLast hne] at h
  rw[← M9 h]
  exact (List.dropLast_concat_getLast hne).symm
 rw[e]
 exact Cj _ _
abbrev iB:Stmt:=top 33
theorem bD:aQ ["_law_cell","_law_parts","_law_one","_law_two","_law_six","_law_found","_law_part"] ["_law_cell","_law_parts"] (aD iB):=⟨rfl,rfl,rfl,by decide+kernel,rfl,by decide+kernel,by decide+kernel⟩
def oJ (c:Int):Int:=(c * 48271+11) % 2147483647
def Ba (c:Int):Int:=(oJ c * oJ c+40692 * oJ c+c) % 2147483399
def Kp (c:Int):Int:=(Ba c * 16807+oJ c) % 1000000007
def Fz (c:Int):Int:=if decide ((if c < 0 then -c else c) < 10 ^ (18:Int).toNat)=true then Ba c+2147483399 * (Kp c+1000000007 * oJ c) else (if c < 0 then -c else c) - 10 ^ (18:Int).toNat
def wL:Int->List Int->List Int
 | _,[]=>[]
 | c,p::ps=>c % p::wL (c / p) ps
def divC:Int->List Int->Int
 | c,[]=>c
 | c,p::ps=>divC (c / p) ps
theorem lC (p:Int):∀ (ps:List Int) (c:Int),wL c (ps++[p])=wL c ps++[divC c ps % p]
 | [],_=>rfl
 | q::ps,c=>by
  show c % q::wL (c / q) (ps++[p])=c % q::(wL (c / q) ps++[divC (c / q) ps % p])
  rw[lC p ps]
theorem kh (p:Int):∀ (ps:List Int) (c:Int),divC c (ps++[p])=divC c ps / p
 | [],_=>rfl
 | q::ps,c=>kh p ps (c / q)
theorem eE:∀ (ps:List Int) (c:Int),(wL c ps).length=ps.length
 | [],_=>rfl
 | _::ps,_=>congrArg Nat.succ (eE ps _)
theorem oF:∀ {ps:List Int} {c:Int} {i:Nat} {p:Int},(∀ q∈ps,0 < q)->ps[i]? = some p->∃ v,(wL c ps)[i]? = some v/\0<=v/\v < p
 | [],_,_,_,_,h=>by simp at h
 | q::ps,c,0,p,hp,h=>by
  cases (show some q=some p from h)
  exact⟨c % q,rfl,Qa _ (by have:=hp q Ml; lia),Ph _ (hp q Ml)⟩
 | q::ps,c,i+1,p,hp,h=>by
  obtain⟨v,e,r⟩:=oF (ps:=ps) (c:=c / q) (i:=i) (fun z hz=>hp z (MF _ hz)) (by simpa using h)
  exact⟨v,by simpa [wL] using e,r⟩
def xH (c:Int) (ps:List Int):List Int:=wL (Fz c) ps
theorem G5 (c:Int):0<=oJ c/\oJ c < 2147483647:=⟨Qa _ (by decide),Ph _ (by decide)⟩
theorem Eg (c:Int):0<=Ba c/\Ba c < 2147483399:=⟨Qa _ (by decide),Ph _ (by decide)⟩
def tO (K:Nq):Sp:=fun vs H Q _=>∃ (c:Int) (p:Addr) (ps:List Int),vs=[.int c,.ref p]/\SqL K H p (ps.map V.int)/\(∀ q∈ps,0 < q/\q < 1073741824)/\ps.length<=1000 ∧
 ∀ r,H r=none->Q (.ref r) (upd H r (.lst ((xH c ps).map V.int)))
theorem ph (F:Fun K "_law_draws" "_law_draws" iB f fd) (B:Bt mg) :
  fu P w K mg base CX0 1 f fd ["_law_cell","_law_parts"] (tO K):=by
 refine F.ok bD (fun vs H Q E h=>?_) (fun cdv A outer s H vs Q E hr h=>?_)
 ·obtain⟨c,p,ps,rfl,_⟩:=h
  rfl
 ·obtain⟨c,p,ps,rfl,hS,hp,hl,q⟩:=h
  refine⟨_,(aq (cU (aX Em (aJ oG rfl B.abs_ zN (aa (pv 0) ak)) (bB yc aF aF) (aZ _)) (aq (aM (i:=2) bD.nd rfl (MT rfl) (bB jD (bB eY (bB km (pv 0) aF) aF) aF))
 (aq (aM (i:=3) bD.nd rfl (MT rfl) (bB jD (bB eY (bB eY (bB km (pv 2) (pv 2)) (bB km aF (pv 2))) (pv 0)) aF))
 (aq (aM (i:=4) bD.nd rfl (MT rfl) (bB jD (bB eY (bB km (pv 3) aF) (pv 2)) aF))
 (aA (aM (i:=0) bD.nd rfl (MT rfl) (bB eY (pv 3) (bB km aF (bB eY (pv 4) (bB km aF (pv 2)))))))))) (aA (aM (i:=0) bD.nd rfl (MT rfl) (bB HQ (aJ oG rfl B.abs_ zN (aa (pv 0) ak)) (bB yc aF aF)))))
 (aq (aM (i:=5) bD.nd rfl (MT rfl) (bO ak))
 (aq (dF Nz rfl (cB (pv 1)) (aH (i:=6) bD.nd rfl (MT rfl)) (aq (dM (jt Np NZ NT bM (pv 5) (aa (bB jD (pv 0) (pv 6)) ak)))
 (aA (aM (i:=0) bD.nd rfl (MT rfl) (bB rR (pv 0) (pv 6))))))
 (aA (aO (pv 5)))))),?_⟩
  have b1:=G5 c
  have b2:=Eg c
  refine⟨_,rfl,_,rfl,_,_,rfl,rfl,⟨by decide,by decide,by decide⟩,_,_,rfl,rfl,_,rfl,?_⟩
  refine CK (fun h=>?_) (fun h=>?_)
  ·refine⟨_,rfl,_,_,rfl,rfl,.inr ⟨by decide,by decide⟩,_,_,rfl,rfl,_,_,rfl,rfl,(by show (0:Int) < 2147483647; decide),?_⟩
   refine⟨_,rfl,_,rfl,_,_,rfl,rfl,.inl (show -(2 ^ 64) < oJ c/\oJ c < 2 ^ 64 from ⟨by lia,by lia⟩),_,rfl,_,_,rfl,rfl,.inl ⟨by decide,by decide⟩,_,_,rfl,rfl,_,rfl,_,_,rfl,rfl,_,_,rfl,rfl,(by show (0:Int) < 2147483399; decide),?_⟩
   refine⟨_,rfl,_,_,rfl,rfl,.inr ⟨by decide,by decide⟩,_,rfl,_,_,rfl,rfl,_,_,rfl,rfl,(by show (0:Int) < 1000000007; decide),?_⟩
   refine⟨_,rfl,_,rfl,_,rfl,_,_,rfl,rfl,.inl ⟨by decide,by decide⟩,_,_,rfl,rfl,_,_,rfl,rfl,.inl ⟨by decide,by decide⟩,_,_,rfl,rfl,?_⟩
   refine⟨small (NP _),fun r hr0=>?_⟩
   refine⟨_,rfl,p,rfl,⟨_,(au hr0 _).seq hS⟩,cY (K:=K) (a:=p) (xs:=ps.map V.int) (fun i σ H2=>∃ (z:Int) (o t u v:Option V),z=divC (Fz c) (ps.take i)/\σ=[some (.int z),some (.ref p),o,t,u,some (.ref r),v] ∧
    H2=upd H r (.lst ((wL (Fz c) (ps.take i)).map V.int))) ⟨_,_,_,_,_,(if_pos h).symm,rfl,rfl⟩ ?_ ?_ ?_⟩
   ·rintro i σ H2 hi ⟨z,o,t,u,v,_,_,e⟩
    subst e
    exact (au hr0 _).seq hS
   ·rintro i x σ H2 hx ⟨z,o,t,u,v,ez,rfl,rfl⟩
    obtain⟨d,hd,rfl⟩:=int_at hx
    obtain⟨h1,h2⟩:=hp d (MJ hd)
    have et:ps.take (i+1)=ps.take i++[d]:=by rw[Nt,hd]; rfl
    refine⟨_,rfl,.inl ⟨rfl,_,SqL.of aj⟩,_,rfl,_,rfl,_,_,rfl,rfl,h1,r,_,_,rfl,rfl,aj,?_,_,rfl,_,rfl,_,_,rfl,rfl,⟨h1,h2⟩,_,_,_,_,_,?_,rfl,?_⟩
    ·rw[Mf,eE,Nf]
     exact aK (by lia)
    ·rw[et,kh,ez]
    ·rw[Dj,et,lC,Mu,ez]
     rfl
   ·rintro σ H2 ⟨z,o,t,u,v,_,rfl,rfl⟩
    refine⟨_,rfl,?_⟩
    have q':=q r hr0
    rw[Mf,M4]
    exact q'
  ·refine⟨_,rfl,_,rfl,_,_,rfl,rfl,⟨by decide,by decide,by decide⟩,_,_,rfl,rfl,?_⟩
   refine⟨small (NP _),fun r hr0=>?_⟩
   refine⟨_,rfl,p,rfl,⟨_,(au hr0 _).seq hS⟩,cY (K:=K) (a:=p) (xs:=ps.map V.int) (fun i σ H2=>∃ (z:Int) (o t u v:Option V),z=divC (Fz c) (ps.take i)/\σ=[some (.int z),some (.ref p),o,t,u,some (.ref r),v] ∧
    H2=upd H r (.lst ((wL (Fz c) (ps.take i)).map V.int))) ⟨_,_,_,_,_,(if_neg h).symm,rfl,rfl⟩ ?_ ?_ ?_⟩
   ·rintro i σ H2 hi ⟨z,o,t,u,v,_,_,e⟩
    subst e
    exact (au hr0 _).seq hS
   ·rintro i x σ H2 hx ⟨z,o,t,u,v,ez,rfl,rfl⟩
    obtain⟨d,hd,rfl⟩:=int_at hx
    obtain⟨h1,h2⟩:=hp d (MJ hd)
    have et:ps.take (i+1)=ps.take i++[d]:=by rw[Nt,hd]; rfl
    refine⟨_,rfl,.inl ⟨rfl,_,SqL.of aj⟩,_,rfl,_,rfl,_,_,rfl,rfl,h1,r,_,_,rfl,rfl,aj,?_,_,rfl,_,rfl,_,_,rfl,rfl,⟨h1,h2⟩,_,_,_,_,_,?_,rfl,?_⟩
    ·rw[Mf,eE,Nf]
     exact aK (by lia)
    ·rw[et,kh,ez]
    ·rw[Dj,et,lC,Mu,ez]
     rfl
   ·rintro σ H2 ⟨z,o,t,u,v,_,rfl,rfl⟩
    refine⟨_,rfl,?_⟩
    have q':=q r hr0
    rw[Mf,M4]
    exact q'
abbrev jw:Stmt:=top 34
theorem rH:aQ ["_law_found","_law_due"] ["_law_found","_law_due"] (aD jw):=⟨rfl,rfl,rfl,by decide+kernel,rfl,by decide+kernel,by decide+kernel⟩
def mY (n:Nat):Sp:=fun vs H Q _=>∃ (x y:V) (d:Dm),vs=[x,y]/\Rep H x d/\Rep H y d/\d.dep < n/\∀ H',aP H H'->Q (.bl true) H'
theorem Kw {x:V}:decide (x=x)=true:=decide_eq_true rfl
theorem um (n:Nat):(Mz n true).all (fun b=>b)=true:=by
 induction n with
 | zero=>rfl
 | succ n ih=>rw[OD,RV,ih]; rfl
theorem uh (n:Nat):(Mz n true).map V.bl=Mz n (V.bl true):=List.map_replicate
theorem fZ {n:Nat} (F:Fun K "_law_same" "_law_same" jw f fd) (B:Bt mg)
  (D_law_same:Df P w K mg base "_law_same" n ["_law_found","_law_due"] (mY n)):fu P w K mg base CX0 (n+1) f fd ["_law_found","_law_due"] (mY (n+1)):=by
 refine F.ok rH (fun vs H Q E h=>?_) (fun cdv A outer s H vs Q E hr h=>?_)
 ·obtain⟨x,y,d,rfl,_⟩:=h
  rfl
 ·obtain⟨x,y,d,rfl,rx,ry,hd,q⟩:=h
  refine⟨_,(aq (cU (wZ (Dl (pv 1))) (aA (aO (Jz (Dl (pv 0))))) aV)
 (aq (cU (gB (aJ (r:=wF K) dw rfl B.isinstance_ bh (aa (pv 1) (aa (my B.str_ Di) ak)))) (aA (aO (uo (aJ (r:=wF K) dw rfl B.isinstance_ bh (aa (pv 0) (aa (my B.str_ Di) ak))) (yf (fX iT (pv 0) (pv 1) (aZ _)))))) aV)
 (aq (cU (gB (aJ (r:=wF K) dw rfl B.isinstance_ bh (aa (pv 1) (aa (my B.int_ Dh) ak)))) (aA (aO (uo (aJ (r:=wF K) dw rfl B.isinstance_ bh (aa (pv 0) (aa (my B.int_ Dh) ak))) (uo (fX iT (aJ (r:=wF K) dw rfl B.isinstance_ bh (aa (pv 0) (aa (my B.bool_ xX) ak))) (aJ (r:=wF K) dw rfl B.isinstance_ bh (aa (pv 1) (aa (my B.bool_ xX) ak))) (aZ _)) (yf (fX iT (pv 0) (pv 1) (aZ _))))))) aV)
 (aq (cU (PW.pt (Ko (aX Gu (aJ (r:=wF K) dw rfl B.isinstance_ bh (aa (pv 1) (aa (my B.list_ rB) ak))) (aJ (r:=wF K) dw rfl B.isinstance_ bh (aa (pv 0) (aa (my B.list_ rB) ak))) (aZ _)) (JM (aX Gu (aJ (r:=wF K) dw rfl B.isinstance_ bh (aa (pv 1) (aa (my B.tuple_ dY) ak))) (aJ (r:=wF K) dw rfl B.isinstance_ bh (aa (pv 0) (aa (my B.tuple_ dY) ak))) (aZ _))))) (aA (aO iH)) aV)
 (aA (aO (uo (fX iT (aJ (r:=pQ K) bw rfl B.len_ dX (aa (pv 0) ak)) (aJ (r:=pQ K) bw rfl B.len_ dX (aa (pv 1) ak)) (aZ _)) (yf (aJ (r:=FT K) (pZ rfl) rfl B.all_ Dw (aa (bV (L:=["_law_k"]) (F:=["_law_found","_law_due"]) (cap:=[0,1]) rfl (bG rfl rfl (by kernel_rfl)) (dC rfl B.range_ (aa (aJ (r:=pQ K) bw rfl B.len_ dX (aa (pv 1) ak)) ak)) (fun _ _ _ _ _=>(aH (i:=0) (aU (by decide+kernel)) rfl (MT rfl))) (fun _ _ _ _ _=>bW) (fun _ _ _ _ _=>(aY D_law_same hr (aa (bH (r:=rIx K) Cu (pv 1) (pv 0) (fun _ _=>rfl)) (aa (bH (r:=rIx K) Cu (pv 2) (pv 0) (fun _ _=>rfl)) ak))))) ak)))))))))),?_⟩
  cases rx with
  | non =>
   cases ry
   refine⟨_,rfl,_,rfl,jN ?_⟩
   exact⟨_,rfl,q H (aP.refl H)⟩
  | bl b =>
   cases ry
   refine⟨_,rfl,_,rfl,gF ?_⟩
   refine⟨_,rfl,_,_,_,_,rfl,.bl b,sI _,_,rfl,gF ?_⟩
   refine⟨_,rfl,_,_,_,_,rfl,.bl b,kY _,_,rfl,jN ?_⟩
   refine⟨_,rfl,_,_,_,_,rfl,.bl b,kY _,_,rfl,jN ?_⟩
   refine⟨_,rfl,_,_,_,_,rfl,.bl b,mG _ _,_,rfl,_,_,_,_,rfl,.bl b,mG _ _,rfl,_,rfl,jN ?_⟩
   refine⟨_,rfl,_,rfl,rfl,?_⟩
   have q':=q H (aP.refl H)
   rw[← Kw (x:=V.bl b)] at q'
   exact q'
  | int i =>
   cases ry
   refine⟨_,rfl,_,rfl,gF ?_⟩
   refine⟨_,rfl,_,_,_,_,rfl,.int i,vP _,_,rfl,gF ?_⟩
   refine⟨_,rfl,_,_,_,_,rfl,.int i,mG _ _,_,rfl,jN ?_⟩
   refine⟨_,rfl,_,_,_,_,rfl,.int i,mG _ _,_,rfl,jN ?_⟩
   refine⟨_,rfl,_,_,_,_,rfl,.int i,lG _,_,rfl,_,_,_,_,rfl,.int i,lG _,rfl,_,rfl,jN ?_⟩
   refine⟨_,rfl,_,rfl,rfl,?_⟩
   have q':=q H (aP.refl H)
   rw[← Kw (x:=V.int i)] at q'
   exact q'
  | str z =>
   cases ry
   refine⟨_,rfl,_,rfl,gF ?_⟩
   refine⟨_,rfl,_,_,_,_,rfl,.str z,mG _ _,_,rfl,jN ?_⟩
   refine⟨_,rfl,_,_,_,_,rfl,.str z,mG _ _,_,rfl,jN ?_⟩
   refine⟨_,rfl,_,rfl,rfl,?_⟩
   have q':=q H (aP.refl H)
   rw[← Kw (x:=V.str z)] at q'
   exact q'
  | @tup a xs ds ha la ra =>
   cases ry with
   | @tup b ys _ hb lb rb =>
    have ex:=ra.length
    have ey:=rb.length
    have hdl:jP ds < n:=by
     have hd':jP ds+1 < n+1:=by rw[Dm.dep] at hd; exact hd
     lia
    refine⟨_,rfl,_,rfl,gF ?_⟩
    refine⟨_,rfl,_,_,_,_,rfl,.tup hb,qj _,_,rfl,gF ?_⟩
    refine⟨_,rfl,_,_,_,_,rfl,.tup hb,pR _,_,rfl,gF ?_⟩
    refine⟨_,rfl,_,_,_,_,rfl,.tup hb,iW _,_,rfl,_,_,_,_,rfl,.tup ha,iW _,rfl,_,rfl,gF ?_⟩
    refine⟨_,rfl,_,_,_,_,rfl,.tup hb,mG _ _,_,rfl,_,_,_,_,rfl,.tup ha,mG _ _,rfl,_,rfl,gF ?_⟩
    refine⟨_,rfl,a,_,rfl,.inr (SqT.of ha),_,rfl,b,_,rfl,.inr (SqT.of hb),rfl,_,rfl,?_⟩
    have ec:decide (V.int (xs.length:Int)=V.int (ys.length:Int))=true:=decide_eq_true (by rw[ex,ey])
    rw[ec]
    refine jN ?_
    refine⟨_,rfl,b,_,rfl,.inr (SqT.of hb),_,rfl,by lia,by lia,fun D hD=>dg (lo:=0) (n:=ys.length) (fun i zs σ' H2=>(∃ v,σ'=[v,some (.ref a),some (.ref b)])/\zs=Mz i (V.bl true)/\aP H H2/\H2 D=some (.lst zs))
     ⟨⟨_,rfl⟩,rfl,au hD _,aj⟩ (fun i zs σ' H2 _ h=>h.2.2.2) ?_ ?_⟩
    ·rintro i zs σ' H2 hi ⟨⟨v,rfl⟩,rfl,sm,hDl⟩
     obtain⟨v1,d1,e1,e2,r1⟩:=ra.get (i:=i) (by lia)
     obtain⟨v2,d2,e3,e4,r2⟩:=rb.get (i:=i) hi
     rw[e2] at e4
     cases e4
     have at1:atI xs (0+(i:Int))=some v1:=by rw[Ra]; exact iQ e1
     have at2:atI ys (0+(i:Int))=some v2:=by rw[Ra]; exact iQ e3
     refine gT ?_
     refine⟨_,rfl,_,rfl,.inr (.inl ⟨a,xs,_,v1,rfl,rfl,SqT.of (sm _ _ ha),at1,_,rfl,_,rfl,.inr (.inl ⟨b,ys,_,v2,rfl,rfl,SqT.of (sm _ _ hb),at2,v1,v2,d1,rfl,r1.mono sm,r2.mono sm,?_,fun H3 s3=>⟨s3 _ _ hDl,?_,⟨_,rfl⟩,?_,aG (sm.trans s3) hD _,aj⟩⟩)⟩)⟩
     ·exact QD (nY e2) hdl
     ·rw[Nv]
      exact M7 (show i < 100000 by lia) (by decide)
     ·rw[R1]
    ·rintro zs σ' H2 ⟨_,rfl,sm,hDl⟩
     refine⟨D,Mz ys.length true,rfl,SqL.of (by rw[hDl,uh]),?_⟩
     rw[um]
     exact q _ sm
  | @lst a xs ds ha la ra =>
   cases ry with
   | @lst b ys _ hb lb rb =>
    have ex:=ra.length
    have ey:=rb.length
    have hdl:jP ds < n:=by
     have hd':jP ds+1 < n+1:=by rw[Dm.dep] at hd; exact hd
     lia
    refine⟨_,rfl,_,rfl,gF ?_⟩
    refine⟨_,rfl,_,_,_,_,rfl,.lst hb,tQ _,_,rfl,gF ?_⟩
    refine⟨_,rfl,_,_,_,_,rfl,.lst hb,qZ _,_,rfl,gF ?_⟩
    refine⟨_,rfl,_,_,_,_,rfl,.lst hb,mG _ _,_,rfl,_,_,_,_,rfl,.lst ha,mG _ _,rfl,_,rfl,gF ?_⟩
    refine⟨_,rfl,_,_,_,_,rfl,.lst hb,jl _,_,rfl,_,_,_,_,rfl,.lst ha,jl _,rfl,_,rfl,gF ?_⟩
    refine⟨_,rfl,a,_,rfl,.inl (SqL.of ha),_,rfl,b,_,rfl,.inl (SqL.of hb),rfl,_,rfl,?_⟩
    have ec:decide (V.int (xs.length:Int)=V.int (ys.length:Int))=true:=decide_eq_true (by rw[ex,ey])
    rw[ec]
    refine jN ?_
    refine⟨_,rfl,b,_,rfl,.inl (SqL.of hb),_,rfl,by lia,by lia,fun D hD=>dg (lo:=0) (n:=ys.length) (fun i zs σ' H2=>(∃ v,σ'=[v,some (.ref a),some (.ref b)])/\zs=Mz i (V.bl true)/\aP H H2/\H2 D=some (.lst zs))
     ⟨⟨_,rfl⟩,rfl,au hD _,aj⟩ (fun i zs σ' H2 _ h=>h.2.2.2) ?_ ?_⟩
    ·rintro i zs σ' H2 hi ⟨⟨v,rfl⟩,rfl,sm,hDl⟩
     obtain⟨v1,d1,e1,e2,r1⟩:=ra.get (i:=i) (by lia)
     obtain⟨v2,d2,e3,e4,r2⟩:=rb.get (i:=i) hi
     rw[e2] at e4
     cases e4
     have at1:atI xs (0+(i:Int))=some v1:=by rw[Ra]; exact iQ e1
     have at2:atI ys (0+(i:Int))=some v2:=by rw[Ra]; exact iQ e3
     refine gT ?_
     refine⟨_,rfl,_,rfl,.inl ( ⟨a,xs,_,v1,rfl,rfl,SqL.of (sm _ _ ha),at1,_,rfl,_,rfl,.inl ( ⟨b,ys,_,v2,rfl,rfl,SqL.of (sm _ _ hb),at2,v1,v2,d1,rfl,r1.mono sm,r2.mono sm,?_,fun H3 s3=>⟨s3 _ _ hDl,?_,⟨_,rfl⟩,?_,aG (sm.trans s3) hD _,aj⟩⟩)⟩)⟩
     ·exact QD (nY e2) hdl
     ·rw[Nv]
      exact M7 (show i < 100000 by lia) (by decide)
     ·rw[R1]
    ·rintro zs σ' H2 ⟨_,rfl,sm,hDl⟩
     refine⟨D,Mz ys.length true,rfl,SqL.of (by rw[hDl,uh]),?_⟩
     rw[um]
     exact q _ sm
theorem same_none:fu P w K mg base CX0 0 f fd ["_law_found","_law_due"] (mY 0):=by
 have no:∀ vs H Q E,¬ mY 0 vs H Q E:=fun vs H Q E h=>by
  obtain⟨x,y,d,_,_,_,h1,_⟩:=h
  lia
 exact⟨fun vs H Q E h=>absurd h (no vs H Q E),fun A outer s H args us vs Q E _ _ _ _ h=>absurd h (no vs H Q E)⟩
inductive Tm where
 | free | never | gives (i:Nat) (k:Int) | sum (c:List Nat) (k:Int) | crowd (c:List Nat) (k m:Int) | all (ts:List Tm) | any (ts:List Tm)
mutual
def Tm.dep:Tm->Nat
 | .all ts=>tdL ts+1
 | .any ts=>tdL ts+1
 | _=>1
def tdL:List Tm->Nat
 | []=>0
 | t::r=>max t.dep (tdL r)
end
mutual
def hF (g:List Int):Tm->Bool
 | .free=>true
 | .never=>false
 | .gives i k=>decide (k<=g.getD i 0)
 | .sum c k=>decide (k<=(c.map fun i=>g.getD i 0).sum)
 | .crowd c k m=>decide (m<=((c.filter fun i=>decide (k<=g.getD i 0)).length:Int))
 | .all ts=>nW g ts
 | .any ts=>oM g ts
def nW (g:List Int):List Tm->Bool
 | []=>true
 | t::r=>hF g t && nW g r
def oM (g:List Int):List Tm->Bool
 | []=>false
 | t::r=>hF g t || oM g r
end
mutual
inductive m9 (n:Nat) (H:Hp):V->Tm->Prop where
 | free {a:Addr}:H a=some (.tup [.str "free"])->m9 n H (.ref a) .free
 | never {a:Addr}:H a=some (.tup [.str "never"])->m9 n H (.ref a) .never
 | gives {a:Addr} {i:Nat} {k:Int}:H a=some (.tup [.str "gives",vN i,.int k])->i < n->1<=k->k<=9->m9 n H (.ref a) (.gives i k)
 | sum {a b:Addr} {c:List Nat} {k:Int}:H a=some (.tup [.str "sum",.ref b,.int k])->H b=some (.tup (c.map vN))->(∀ i∈c,i < n)->c.Pairwise (· < ·)->c.length<=20->2<=c.length->1<=k->k<=99->m9 n H (.ref a) (.sum c k)
 | crowd {a b:Addr} {c:List Nat} {k m:Int}:H a=some (.tup [.str "crowd",.ref b,.int k,.int m])->H b=some (.tup (c.map vN))->(∀ i∈c,i < n)->c.Pairwise (· < ·)->c.length<=20->1<=c.length->1<=k->k<=9->1<=m->m<=12->m9 n H (.ref a) (.crowd c k m)
 | all {a b:Addr} {vs:List V} {ts:List Tm}:H a=some (.tup [.str "all",.ref b])->H b=some (.tup vs)->2<=vs.length->vs.length<=6->fW n H vs ts->m9 n H (.ref a) (.all ts)
 | any {a b:Addr} {vs:List V} {ts:List Tm}:H a=some (.tup [.str "any",.ref b])->H b=some (.tup vs)->2<=vs.length->vs.length<=6->fW n H vs ts->m9 n H (.ref a) (.any ts)
inductive fW (n:Nat) (H:Hp):List V->List Tm->Prop where
 | nil:fW n H [] []
 | cons {v:V} {t:Tm} {vs:List V} {ts:List Tm}:m9 n H v t->fW n H vs ts->fW n H (v::vs) (t::ts)
end
mutual
theorem m9.bJ {n:Nat} {H H':Hp} (e:∀ a xs,H a=some (HO.tup xs)->H' a=some (HO.tup xs)):∀ {v:V} {t:Tm},m9 n H v t->m9 n H' v t
 | _,_,.free h=>.free (e _ _ h)
 | _,_,.never h=>.never (e _ _ h)
 | _,_,.gives h a b c=>.gives (e _ _ h) a b c
 | _,_,.sum h h2 a b c d f g=>.sum (e _ _ h) (e _ _ h2) a b c d f g
 | _,_,.crowd h h2 a b c d f g i j=>.crowd (e _ _ h) (e _ _ h2) a b c d f g i j
 | _,_,.all h h2 a b r=>.all (e _ _ h) (e _ _ h2) a b (fW.bJ e r)
 | _,_,.any h h2 a b r=>.any (e _ _ h) (e _ _ h2) a b (fW.bJ e r)
theorem fW.bJ {n:Nat} {H H':Hp} (e:∀ a xs,H a=some (HO.tup xs)->H' a=some (HO.tup xs)):∀ {vs:List V} {ts:List Tm},fW n H vs ts->fW n H' vs ts
 | _,_,.nil=>.nil
 | _,_,.cons h r=>.cons (m9.bJ e h) (fW.bJ e r)
end
theorem m9.mono {n:Nat} {H H':Hp} (e:aP H H') {v:V} {t:Tm} (h:m9 n H v t):m9 n H' v t:=h.bJ fun a xs q=>e a _ q
theorem fW.length {n:Nat} {H:Hp}:∀ {vs:List V} {ts:List Tm},fW n H vs ts->vs.length=ts.length
 | _,_,.nil=>rfl
 | _,_,.cons _ r=>by rw[MK,MK,fW.length r]
theorem fW.get {n:Nat} {H:Hp}:∀ {vs:List V} {ts:List Tm} {i:Nat} {v:V},fW n H vs ts->vs[i]? = some v->∃ t,ts[i]? = some t/\m9 n H v t
 | _,_,_,_,.nil,h=>by simp at h
 | _,_,0,_,.cons h _,e=>by
  cases (show some _=some _ from e)
  exact⟨_,rfl,h⟩
 | _,_,i+1,_,.cons _ r,e=>by
  obtain⟨t,e1,e2⟩:=fW.get (i:=i) r (by simpa using e)
  exact⟨t,by simpa using e1,e2⟩
theorem sH:∀ {ts:List Tm} {i:Nat} {t:Tm},ts[i]? = some t->t.dep<=tdL ts
 | [],_,_,h=>by simp at h
 | d::r,0,_,h=>by
  cases (show some d=some _ from h)
  rw[tdL]
  exact Nat.le_max_left _ _
 | d::r,i+1,_,h=>by
  rw[tdL]
  exact Ob (sH (i:=i) (ts:=r) (by simpa using h)) (Nat.le_max_right _ _)
theorem Tm.Ec:∀ t:Tm,1<=t.dep
 | .free | .never | .gives .. | .sum .. | .crowd ..=>Mt 1
 | .all ts=>by rw[Tm.dep]; lia
 | .any ts=>by rw[Tm.dep]; lia
theorem o6:∀ {g:List Int} {ts:List Tm} {i:Nat} {t:Tm},ts[i]? = some t->nW g (ts.take (i+1))=(nW g (ts.take i) && hF g t)
 | _,[],_,_,h=>by simp at h
 | g,d::r,0,t,h=>by
  cases (show some d=some _ from h)
  rw[Ol,nW,Od,Od,nW,Bool.and_true,Bool.true_and]
 | g,d::r,i+1,t,h=>by
  rw[Ol,nW,o6 (i:=i) (ts:=r) (by simpa using h),Ol,nW,Bool.and_assoc]
theorem qx:∀ {g:List Int} {ts:List Tm} {i:Nat} {t:Tm},ts[i]? = some t->oM g (ts.take (i+1))=(oM g (ts.take i) || hF g t)
 | _,[],_,_,h=>by simp at h
 | g,d::r,0,t,h=>by
  cases (show some d=some _ from h)
  rw[Ol,oM,Od,Od,oM,S7,Uc]
 | g,d::r,i+1,t,h=>by
  rw[Ol,oM,qx (i:=i) (ts:=r) (by simpa using h),Ol,oM,Bool.or_assoc]
theorem mH:∀ {g:List Int} {ts:List Tm} {i:Nat} {t:Tm},ts[i]? = some t->hF g t=false->nW g ts=false
 | _,[],_,_,h,_=>by simp at h
 | g,d::r,0,t,h,e=>by
  cases (show some d=some _ from h)
  rw[nW,e,Bool.false_and]
 | g,d::r,i+1,t,h,e=>by rw[nW,mH (i:=i) (ts:=r) (by simpa using h) e,Bool.and_false]
theorem qw:∀ {g:List Int} {ts:List Tm} {i:Nat} {t:Tm},ts[i]? = some t->hF g t=true->oM g ts=true
 | _,[],_,_,h,_=>by simp at h
 | g,d::r,0,t,h,e=>by
  cases (show some d=some _ from h)
  rw[oM,e,Bool.true_or]
 | g,d::r,i+1,t,h,e=>by rw[oM,qw (i:=i) (ts:=r) (by simpa using h) e,Tg]
def LeG (g g':List Int):Prop:=∀ i,g.getD i 0<=g'.getD i 0
theorem m5 (f f':Nat->Int) (h:∀ i,f i<=f' i):∀ c:List Nat,(c.map f).sum<=(c.map f').sum
 | []=>N6 _
 | i::c=>by
  have:=m5 f f' h c
  have:=h i
  simp only[Ni,Ua]
  lia
theorem filter_le (f f':Nat->Bool) (h:∀ i,f i=true->f' i=true):∀ c:List Nat,(c.filter f).length<=(c.filter f').length
 | []=>Mt _
 | i::c=>by
  have ih:=filter_le f f' h c
  rw[Oz,Oz]
  by_cases e:f i=true
  ·rw[if_pos e,if_pos (h i e),MK,MK]
   lia
  ·rw[if_neg e]
   split
   ·rw[MK]
    lia
   ·exact ih
mutual
theorem qY {g g':List Int} (l:LeG g g'):∀ t:Tm,hF g t=true->hF g' t=true
 | .free,_=>by rw[hF]
 | .never,h=>by rw[hF] at h; cases h
 | .gives i k,h=>by
  rw[hF] at h ⊢
  have:=of_decide_eq_true h
  have:=l i
  exact decide_eq_true (by lia)
 | .sum c k,h=>by
  rw[hF] at h ⊢
  have:=of_decide_eq_true h
  have:=m5 _ _ l c
  exact decide_eq_true (by lia)
 | .crowd c k m,h=>by
  rw[hF] at h ⊢
  have:=of_decide_eq_true h
  have:=filter_le (fun i=>decide (k<=g.getD i 0)) (fun i=>decide (k<=g'.getD i 0)) (fun i e=>decide_eq_true (Int.le_trans (of_decide_eq_true e) (l i))) c
  exact decide_eq_true (by lia)
 | .all ts,h=>by
  rw[hF] at h ⊢
  exact qH l ts h
 | .any ts,h=>by
  rw[hF] at h ⊢
  exact qI l ts h
theorem qH {g g':List Int} (l:LeG g g'):∀ ts:List Tm,nW g ts=true->nW g' ts=true
 | [],_=>by rw[nW]
 | t::r,h=>by
  rw[nW,Qh] at h
  rw[nW,qY l t h.1,qH l r h.2]
  rfl
theorem qI {g g':List Int} (l:LeG g g'):∀ ts:List Tm,oM g ts=true->oM g' ts=true
 | [],h=>by rw[oM] at h; cases h
 | t::r,h=>by
  rw[oM,QJ] at h
  rw[oM]
  rcases h with h | h
  ·rw[qY l t h,Bool.true_or]
  ·rw[qI l r h,Tg]
end
theorem lW {c A B:Prop} [Decidable c] (hc:¬ c) (h:B):if decide c=true then A else B:=by
 rw[decide_eq_false hc]
 exact gF h
theorem Ep {c A B:Prop} [Decidable c] (hc:c) (h:A):if decide c=true then A else B:=by
 rw[decide_eq_true hc]
 exact jN h
theorem cH {a b:Ou} (h:a≠b):¬ V.str a=V.str b:=fun z=>h (by cases z; rfl)
theorem atD {g:List Int} {i:Nat} (h:i < g.length):atI (g.map V.int) (i:Int)=some (.int (g.getD i 0)):=by
 rw[wM h,Mg,Mi h]
 rfl
abbrev jx:Stmt:=top 7
abbrev iz:Stmt:=top 8
abbrev rT:Stmt:=top 9
theorem jZ:aQ ["parts","giving","part"] ["parts","giving"] (aD jx):=⟨rfl,rfl,rfl,by decide+kernel,rfl,by decide+kernel,by decide+kernel⟩
theorem jH:aQ ["parts","giving","part"] ["parts","giving"] (aD iz):=⟨rfl,rfl,rfl,by decide+kernel,rfl,by decide+kernel,by decide+kernel⟩
theorem tU:aQ ["term","giving","kind"] ["term","giving"] (aD rT):=⟨rfl,rfl,rfl,by decide+kernel,rfl,by decide+kernel,by decide+kernel⟩
def iD (K:Nq) (d:Nat):Sp:=fun vs H Q _=>∃ (v:V) (g:Addr) (n:Nat) (t:Tm) (ns:List Int),vs=[v,.ref g]/\m9 n H v t/\t.dep<=d/\SqT K H g (ns.map V.int)/\n<=ns.length/\∀ H',aP H H'->Q (.bl (hF ns t)) H'
def Cr (K:Nq) (d:Nat):Sp:=fun vs H Q _=>∃ (b g:Addr) (n:Nat) (us:List V) (ts:List Tm) (ns:List Int),vs=[.ref b,.ref g]/\H b=some (.tup us)/\fW n H us ts/\tdL ts<=d/\SqT K H g (ns.map V.int)/\n<=ns.length/\∀ H',aP H H'->Q (.bl (nW ns ts)) H'
def Dd (K:Nq) (d:Nat):Sp:=fun vs H Q _=>∃ (b g:Addr) (n:Nat) (us:List V) (ts:List Tm) (ns:List Int),vs=[.ref b,.ref g]/\H b=some (.tup us)/\fW n H us ts/\tdL ts<=d/\SqT K H g (ns.map V.int)/\n<=ns.length/\∀ H',aP H H'->Q (.bl (oM ns ts)) H'
theorem wu:fu P w K mg base CX0 0 f fd ["term","giving"] (iD K 0):=by
 have no:∀ vs H Q E,¬ iD K 0 vs H Q E:=fun vs H Q E h=>by
  obtain⟨v,g,n,t,ns,_,_,h1,_⟩:=h
  have:=t.Ec
  lia
 exact⟨fun vs H Q E h=>absurd h (no vs H Q E),fun A outer s H args us vs Q E _ _ _ _ h=>absurd h (no vs H Q E)⟩
theorem fY {d k:Nat} (F:Fun K "all_hold" "all_hold" jx f fd) (B:Bt mg)
  (D_holds:Df P w K mg base "holds" k ["term","giving"] (iD K d)):fu P w K mg base CX0 (k+1) f fd ["parts","giving"] (Cr K d):=by
 refine F.ok jZ (fun vs H Q E h=>?_) (fun cdv A outer s H vs Q E hr h=>?_)
 ·obtain⟨b,g,n,us,ts,ns,rfl,_⟩:=h
  rfl
 ·obtain⟨b,g,n,us,ts,ns,rfl,hb,rp,hd,hg,hn,q⟩:=h
  refine⟨_,(aq (dF Nz rfl (mQ (pv 0)) (aH (i:=2) jZ.nd rfl (MT rfl)) (aA (cU (nq (gB (aY D_holds hr (aa (pv 2) (aa (pv 1) ak))))) (aA (aO iH)) aV)))
 (aA (aO iH))),?_⟩
  have el:=rp.length
  refine⟨_,rfl,b,rfl,⟨_,SqT.of hb⟩,rO (K:=K) (a:=b) (xs:=us) (fun i σ H2=>(∃ u,σ=[some (.ref b),some (.ref g),u])/\aP H H2/\nW ns (ts.take i)=true) ⟨⟨_,rfl⟩,aP.refl H,by rw[Od,nW]⟩ (fun i σ H2 _ h=>ig h.2.1 (SqT.of hb)) ?_ ?_⟩
  ·rintro i x σ H2 hx ⟨⟨u,rfl⟩,sm,ab⟩
   obtain⟨t,ht,rt⟩:=rp.get hx
   refine⟨_,rfl,_,rfl,x,g,n,t,ns,rfl,rt.mono sm,Ob (sH ht) hd,ig sm hg,hn,fun H3 s3=>⟨_,rfl,?_⟩⟩
   cases e:hF ns t with
   | false =>
    have q':=q H3 (sm.trans s3)
    rw[mH ht e] at q'
    exact jN q'
   | true=>exact gF ⟨⟨_,rfl⟩,sm.trans s3,by rw[o6 ht,ab,e]; rfl⟩
  ·rintro σ H2 ⟨⟨u,rfl⟩,sm,ab⟩
   have q':=q H2 sm
   rw[el,M4] at ab
   rw[ab] at q'
   exact q'
theorem eV {d k:Nat} (F:Fun K "any_holds" "any_holds" iz f fd) (B:Bt mg)
  (D_holds:Df P w K mg base "holds" k ["term","giving"] (iD K d)):fu P w K mg base CX0 (k+1) f fd ["parts","giving"] (Dd K d):=by
 refine F.ok jH (fun vs H Q E h=>?_) (fun cdv A outer s H vs Q E hr h=>?_)
 ·obtain⟨b,g,n,us,ts,ns,rfl,_⟩:=h
  rfl
 ·obtain⟨b,g,n,us,ts,ns,rfl,hb,rp,hd,hg,hn,q⟩:=h
  refine⟨_,(aq (dF Nz rfl (mQ (pv 0)) (aH (i:=2) jH.nd rfl (MT rfl)) (aA (cU (gB (aY D_holds hr (aa (pv 2) (aa (pv 1) ak)))) (aA (aO iH)) aV)))
 (aA (aO iH))),?_⟩
  have el:=rp.length
  refine⟨_,rfl,b,rfl,⟨_,SqT.of hb⟩,rO (K:=K) (a:=b) (xs:=us) (fun i σ H2=>(∃ u,σ=[some (.ref b),some (.ref g),u])/\aP H H2/\oM ns (ts.take i)=false) ⟨⟨_,rfl⟩,aP.refl H,by rw[Od,oM]⟩ (fun i σ H2 _ h=>ig h.2.1 (SqT.of hb)) ?_ ?_⟩
  ·rintro i x σ H2 hx ⟨⟨u,rfl⟩,sm,ab⟩
   obtain⟨t,ht,rt⟩:=rp.get hx
   refine⟨_,rfl,_,rfl,x,g,n,t,ns,rfl,rt.mono sm,Ob (sH ht) hd,ig sm hg,hn,fun H3 s3=>⟨_,rfl,?_⟩⟩
   cases e:hF ns t with
   | true =>
    have q':=q H3 (sm.trans s3)
    rw[qw ht e] at q'
    exact jN q'
   | false=>exact gF ⟨⟨_,rfl⟩,sm.trans s3,by rw[qx ht,ab,e]; rfl⟩
  ·rintro σ H2 ⟨⟨u,rfl⟩,sm,ab⟩
   have q':=q H2 sm
   rw[el,M4] at ab
   rw[ab] at q'
   exact q'
theorem jT {d k:Nat} (F:Fun K "holds" "holds" rT f fd) (B:Bt mg)
  (D_all_hold:Df P w K mg base "all_hold" k ["parts","giving"] (Cr K d)) (D_any_holds:Df P w K mg base "any_holds" k ["parts","giving"] (Dd K d)):fu P w K mg base CX0 (k+1) f fd ["term","giving"] (iD K (d+1)):=by
 refine F.ok tU (fun vs H Q E h=>?_) (fun cdv A outer s H vs Q E hr h=>?_)
 ·obtain⟨v,g,n,t,ns,rfl,_⟩:=h
  rfl
 ·obtain⟨v,g,n,t,ns,rfl,rt,hd,hg,hn,q⟩:=h
  refine⟨_,(aq (aM (i:=2) tU.nd rfl (MT rfl) (bH (r:=oZ K) dz (pv 0) aF (fun _ _=>rfl)))
 (aq (cU (aX iT (pv 2) iZ (aZ _)) (aA (aO (fX tH (bH (r:=oZ K) dz (pv 1) (bH (r:=oZ K) dz (pv 0) aF (fun _ _=>rfl)) (fun _ _=>rfl)) (bH (r:=oZ K) dz (pv 0) aF (fun _ _=>rfl)) (aZ _)))) aV)
 (aq (cU (aX iT (pv 2) iZ (aZ _)) (aA (aO (fX tH (aJ (r:=Jj K) (xQ rfl) rfl B.sum_ Ji (aa (bV (L:=["one"]) (F:=["giving"]) (cap:=[1]) rfl (bG rfl rfl (by kernel_rfl)) (mQ (bH (r:=oZ K) dz (pv 0) aF (fun _ _=>rfl))) (fun _ _ _ _ _=>(aH (i:=0) (aU (by decide+kernel)) rfl (MT rfl))) (fun _ _ _ _ _=>bW) (fun _ _ _ _ _=>(bH (r:=oZ K) dz (pv 1) (pv 0) (fun _ _=>rfl)))) ak)) (bH (r:=oZ K) dz (pv 0) aF (fun _ _=>rfl)) (aZ _)))) aV)
 (aq (cU (aX iT (pv 2) iZ (aZ _)) (aA (aO (fX tH (aJ (r:=pQ K) bw rfl B.len_ dX (aa (bV (L:=["one"]) (F:=["giving","term"]) (cap:=[1,0]) rfl (bG rfl rfl (by kernel_rfl)) (mQ (bH (r:=oZ K) dz (pv 0) aF (fun _ _=>rfl))) (fun _ _ _ _ _=>(aH (i:=0) (aU (by decide+kernel)) rfl (MT rfl))) (fun _ _ _ _ _=>(nC (aX tH (bH (r:=oZ K) dz (pv 1) (pv 0) (fun _ _=>rfl)) (bH (r:=oZ K) dz (pv 2) aF (fun _ _=>rfl)) (aZ _)))) (fun _ _ _ _ _=>(pv 0))) ak)) (bH (r:=oZ K) dz (pv 0) aF (fun _ _=>rfl)) (aZ _)))) aV)
 (aq (cU (aX iT (pv 2) iZ (aZ _)) (aA (aO (aY D_all_hold hr (aa (bH (r:=oZ K) dz (pv 0) aF (fun _ _=>rfl)) (aa (pv 1) ak))))) aV)
 (aq (cU (aX iT (pv 2) iZ (aZ _)) (aA (aO (aY D_any_holds hr (aa (bH (r:=oZ K) dz (pv 0) aF (fun _ _=>rfl)) (aa (pv 1) ak))))) aV)
 (aA (aO (fX iT (pv 2) iZ (aZ _)))))))))),?_⟩
  cases rt with
  | @free a ha =>
   refine⟨_,rfl,a,_,_,_,rfl,rfl,SqT.of ha,bu (k:=0) rfl,?_⟩
   refine⟨_,rfl,rfl,_,rfl,lW (cH (by decide)) ?_⟩
   refine⟨_,rfl,rfl,_,rfl,lW (cH (by decide)) ?_⟩
   refine⟨_,rfl,rfl,_,rfl,lW (cH (by decide)) ?_⟩
   refine⟨_,rfl,rfl,_,rfl,lW (cH (by decide)) ?_⟩
   refine⟨_,rfl,rfl,_,rfl,lW (cH (by decide)) ?_⟩
   refine⟨_,rfl,rfl,?_⟩
   have q':=q H (aP.refl H)
   rw[hF] at q'
   rw[decide_eq_true rfl]
   exact q'
  | @never a ha =>
   refine⟨_,rfl,a,_,_,_,rfl,rfl,SqT.of ha,bu (k:=0) rfl,?_⟩
   refine⟨_,rfl,rfl,_,rfl,lW (cH (by decide)) ?_⟩
   refine⟨_,rfl,rfl,_,rfl,lW (cH (by decide)) ?_⟩
   refine⟨_,rfl,rfl,_,rfl,lW (cH (by decide)) ?_⟩
   refine⟨_,rfl,rfl,_,rfl,lW (cH (by decide)) ?_⟩
   refine⟨_,rfl,rfl,_,rfl,lW (cH (by decide)) ?_⟩
   refine⟨_,rfl,rfl,?_⟩
   have q':=q H (aP.refl H)
   rw[hF] at q'
   rw[decide_eq_false (cH (by decide))]
   exact q'
  | @gives a i k ha hi _ _ =>
   refine⟨_,rfl,a,_,_,_,rfl,rfl,SqT.of ha,bu (k:=0) rfl,?_⟩
   refine⟨_,rfl,rfl,_,rfl,Ep rfl ?_⟩
   refine⟨_,rfl,_,rfl,a,_,_,_,rfl,rfl,SqT.of ha,bu (k:=1) rfl,g,_,_,_,rfl,rfl,hg,atD (by lia),_,rfl,a,_,_,_,rfl,rfl,SqT.of ha,bu (k:=2) rfl,_,_,rfl,rfl,?_⟩
   have q':=q H (aP.refl H)
   rw[hF] at q'
   exact q'
  | @sum a b c k ha hb hc _ hl _ _ _ =>
   refine⟨_,rfl,a,_,_,_,rfl,rfl,SqT.of ha,bu (k:=0) rfl,?_⟩
   refine⟨_,rfl,rfl,_,rfl,lW (cH (by decide)) ?_⟩
   refine⟨_,rfl,rfl,_,rfl,Ep rfl ?_⟩
   refine⟨_,rfl,a,_,_,_,rfl,rfl,SqT.of ha,bu (k:=1) rfl,b,rfl,⟨_,SqT.of hb⟩,fun D hD=>nZ (K:=K) (a:=b) (xs:=c.map vN) (fun i zs σ' H2=>(∃ u,σ'=[u,some (.ref g)])/\zs=((c.take i).map fun i=>ns.getD i 0).map V.int/\aP H H2/\H2 D=some (.lst zs))
    ⟨⟨_,rfl⟩,rfl,au hD _,aj⟩ (fun i zs σ' H2 _ h=>⟨ig h.2.2.1 (SqT.of hb),h.2.2.2⟩) ?_ ?_⟩
   ·rintro j zs x σ' H2 hx ⟨⟨u,rfl⟩,e1,sm,hDl⟩
    obtain⟨i,hi,rfl⟩:=pP hx
    have hin:i < n:=hc i (MJ hi)
    refine gT ?_
    refine⟨_,rfl,_,rfl,g,_,_,_,rfl,rfl,ig sm hg,atD (by lia),hDl,?_,⟨_,rfl⟩,?_,aG sm hD _,aj⟩
    ·rw[e1,Mf,Mf,Nf]
     exact aK (by lia)
    ·rw[e1,Nt,hi,Mu,Mu]
     rfl
   ·rintro zs σ' H2 ⟨⟨u,rfl⟩,e1,sm,hDl⟩
    rw[Mf,M4] at e1
    refine⟨D,_,rfl,SqL.of (by rw[hDl,e1]),_,rfl,a,_,_,_,rfl,rfl,SqT.of (sm _ _ ha),bu (k:=2) rfl,_,_,rfl,rfl,?_⟩
    have q':=q H2 sm
    rw[hF] at q'
    exact q'
  | @crowd a b c k m ha hb hc _ hl _ _ _ _ _ =>
   refine⟨_,rfl,a,_,_,_,rfl,rfl,SqT.of ha,bu (k:=0) rfl,?_⟩
   refine⟨_,rfl,rfl,_,rfl,lW (cH (by decide)) ?_⟩
   refine⟨_,rfl,rfl,_,rfl,lW (cH (by decide)) ?_⟩
   refine⟨_,rfl,rfl,_,rfl,Ep rfl ?_⟩
   refine⟨_,rfl,a,_,_,_,rfl,rfl,SqT.of ha,bu (k:=1) rfl,b,rfl,⟨_,SqT.of hb⟩,fun D hD=>nZ (K:=K) (a:=b) (xs:=c.map vN) (fun i zs σ' H2=>(∃ u,σ'=[u,some (.ref g),some (.ref a)])/\zs=((c.take i).filter fun i=>decide (k<=ns.getD i 0)).map vN/\aP H H2/\H2 D=some (.lst zs))
    ⟨⟨_,rfl⟩,rfl,au hD _,aj⟩ (fun i zs σ' H2 _ h=>⟨ig h.2.2.1 (SqT.of hb),h.2.2.2⟩) ?_ ?_⟩
   ·rintro j zs x σ' H2 hx ⟨⟨u,rfl⟩,e1,sm,hDl⟩
    obtain⟨i,hi,rfl⟩:=pP hx
    have hin:i < n:=hc i (MJ hi)
    have et:c.take (j+1)=c.take j++[i]:=by rw[Nt,hi]; rfl
    refine⟨_,rfl,_,rfl,g,_,_,_,rfl,rfl,ig sm hg,atD (by lia),_,rfl,a,_,_,_,rfl,rfl,SqT.of (sm _ _ ha),bu (k:=2) rfl,_,_,rfl,rfl,_,rfl,?_⟩
    refine CK (fun cc=>?_) (fun cc=>?_)
    ·refine⟨_,rfl,hDl,?_,⟨_,rfl⟩,?_,aG sm hD _,aj⟩
     ·rw[e1,Mf]
      have:=Oo (fun i=>decide (k<=ns.getD i 0)) (c.take j)
      rw[Nf] at this
      exact aK (by lia)
     ·rw[e1,et,Qi,Mu,Oz,if_pos cc]
      rfl
    ·refine⟨⟨_,rfl⟩,?_,sm,hDl⟩
     rw[e1,et,Qi,Oz,if_neg cc]
     simp
   ·rintro zs σ' H2 ⟨⟨u,rfl⟩,e1,sm,hDl⟩
    rw[Mf,M4] at e1
    refine⟨D,_,rfl,.inl (SqL.of (by rw[hDl,e1])),_,rfl,a,_,_,_,rfl,rfl,SqT.of (sm _ _ ha),bu (k:=3) rfl,_,_,rfl,rfl,?_⟩
    have q':=q H2 sm
    rw[hF] at q'
    rw[Mf]
    exact q'
  | @all a b us ts ha hb _ _ rl =>
   refine⟨_,rfl,a,_,_,_,rfl,rfl,SqT.of ha,bu (k:=0) rfl,?_⟩
   refine⟨_,rfl,rfl,_,rfl,lW (cH (by decide)) ?_⟩
   refine⟨_,rfl,rfl,_,rfl,lW (cH (by decide)) ?_⟩
   refine⟨_,rfl,rfl,_,rfl,lW (cH (by decide)) ?_⟩
   refine⟨_,rfl,rfl,_,rfl,Ep rfl ?_⟩
   refine⟨_,rfl,a,_,_,_,rfl,rfl,SqT.of ha,bu (k:=1) rfl,_,rfl,b,g,n,us,ts,ns,rfl,hb,rl,?_,hg,hn,fun H' s'=>?_⟩
   ·rw[Tm.dep] at hd
    lia
   ·have q':=q H' s'
    rw[hF] at q'
    exact q'
  | @any a b us ts ha hb _ _ rl =>
   refine⟨_,rfl,a,_,_,_,rfl,rfl,SqT.of ha,bu (k:=0) rfl,?_⟩
   refine⟨_,rfl,rfl,_,rfl,lW (cH (by decide)) ?_⟩
   refine⟨_,rfl,rfl,_,rfl,lW (cH (by decide)) ?_⟩
   refine⟨_,rfl,rfl,_,rfl,lW (cH (by decide)) ?_⟩
   refine⟨_,rfl,rfl,_,rfl,lW (cH (by decide)) ?_⟩
   refine⟨_,rfl,rfl,_,rfl,Ep rfl ?_⟩
   refine⟨_,rfl,a,_,_,_,rfl,rfl,SqT.of ha,bu (k:=1) rfl,_,rfl,b,g,n,us,ts,ns,rfl,hb,rl,?_,hg,hn,fun H' s'=>?_⟩
   ·rw[Tm.dep] at hd
    lia
   ·have q':=q H' s'
    rw[hF] at q'
    exact q'
theorem gN {i:Nat} {x:V} {σ:St} {H:Hp} {P:St->Hp->Prop} (h:P (σ.set i (some x)) H):Az i x σ H P:=h
theorem nN {D:Ends} {σ:St} {H:Hp} (h:D.nx σ H):Jh D σ H:=h
theorem Ge {e:Expr} {es:List Expr} {env:Env} (h:∀ x p,e≠.Starred x p):Nm (e::es) env=(false,Qd e env)::Nm es env:=by
 rw[Nm]
 intro x p z
 exact h x p z
theorem fM {X:Cx} {e:Expr} {es:List Expr} {te:TE} {t:TA} (ha:PE X e te) (hr:PA X es t) (h:∀ x p,e≠.Starred x p:=by intro x p z; cases z):PA X (e::es) (Bg te t):=aa ha hr (Ge h)
theorem uF (ns:List Int) (lo hi:Option Int):∃ ks:List Int,Gv (ns.map V.int) lo hi=ks.map V.int/\ks.length<=ns.length:=by
 unfold Gv
 generalize HT.sIx _ _ lo=x
 generalize HT.sIx _ _ hi=y
 refine⟨(ns.drop x).take (y - x),by rw[List.map_take,List.map_drop],?_⟩
 rw[Nf,List.length_drop]
 lia
theorem mX:∀ {a b:List Int},a.Perm b->a.Pairwise (·<=·)->b.Pairwise (·<=·)->a=b
 | [],b,p,_,_=>(List.Perm.nil_eq p)
 | x::a,[],p,_,_=>absurd p.length_eq (by simp)
 | x::a,y::b,p,ha,hb=>by
  rw[O3] at ha hb
  have h1:x<=y:=by
   rcases List.mem_cons.mp (p.mem_iff.mpr Ml) with h | h
   ·lia
   ·exact ha.1 y h
  have h2:y<=x:=by
   rcases List.mem_cons.mp (p.mem_iff.mp Ml) with h | h
   ·lia
   ·exact hb.1 x h
  have e:x=y:=by lia
  subst e
  rw[mX (List.Perm.cons_inv p) ha.2 hb.2]
abbrev Pl:=List (Int × Tm)
inductive ji (n:Nat) (H:Hp):List V->Pl->Prop where
 | nil:ji n H [] []
 | cons {r:Addr} {k:Int} {v:V} {t:Tm} {vs:List V} {ps:Pl}:H r=some (.tup [.int k,v])->m9 n H v t->ji n H vs ps->ji n H (.ref r::vs) ((k,t)::ps)
theorem ji.bJ {n:Nat} {H H':Hp} (e:∀ a xs,H a=some (HO.tup xs)->H' a=some (HO.tup xs)):∀ {vs:List V} {ps:Pl},ji n H vs ps->ji n H' vs ps
 | _,_,.nil=>.nil
 | _,_,.cons h t r=>.cons (e _ _ h) (t.bJ e) (ji.bJ e r)
theorem ji.length {n:Nat} {H:Hp}:∀ {vs:List V} {ps:Pl},ji n H vs ps->vs.length=ps.length
 | _,_,.nil=>rfl
 | _,_,.cons _ _ r=>by rw[MK,MK,ji.length r]
theorem ji.get {n:Nat} {H:Hp}:∀ {vs:List V} {ps:Pl} {i:Nat} {v:V},ji n H vs ps->vs[i]? = some v->∃ r k u t,v = .ref r/\H r=some (.tup [.int k,u])/\m9 n H u t/\ps[i]? = some (k,t)
 | _,_,_,_,.nil,h=>by simp at h
 | _,_,0,_,.cons h t _,e=>by
  cases (show some _=some _ from e)
  exact⟨_,_,_,_,rfl,h,t,rfl⟩
 | _,_,i+1,_,.cons _ _ r,e=>by
  obtain⟨a,k,u,t,h1,h2,h3,h4⟩:=ji.get (i:=i) r (by simpa using e)
  exact⟨a,k,u,t,h1,h2,h3,by simpa using h4⟩
def okP (p:Pl):Prop:=p≠[]/\p.length<=9/\(p.map (·.1)).Pairwise (· < ·)/\∀ x∈p,1<=x.1/\x.1<=9/\x.2.dep<=4
def lX (n:Nat) (H:Hp) (a:Addr) (p:Pl):Prop:=okP p/\∃ vs,H a=some (.tup vs)/\ji n H vs p
theorem lX.bJ {n:Nat} {H H':Hp} {a:Addr} {p:Pl} (e:∀ a xs,H a=some (HO.tup xs)->H' a=some (HO.tup xs)) (h:lX n H a p):lX n H' a p:=by
 obtain⟨ok,vs,h1,h2⟩:=h
 exact⟨ok,vs,e _ _ h1,h2.bJ e⟩
theorem lX.mono {n:Nat} {H H':Hp} {a:Addr} {p:Pl} (e:aP H H') (h:lX n H a p):lX n H' a p:=h.bJ fun a xs q=>e a _ q
inductive eO (n:Nat) (H:Hp):List Addr->List Pl->Prop where
 | nil:eO n H [] []
 | cons {a:Addr} {p:Pl} {as:List Addr} {ps:List Pl}:lX n H a p->eO n H as ps->eO n H (a::as) (p::ps)
theorem eO.bJ {n:Nat} {H H':Hp} (e:∀ a xs,H a=some (HO.tup xs)->H' a=some (HO.tup xs)):∀ {as:List Addr} {ps:List Pl},eO n H as ps->eO n H' as ps
 | _,_,.nil=>.nil
 | _,_,.cons h r=>.cons (h.bJ e) (eO.bJ e r)
theorem eO.length {n:Nat} {H:Hp}:∀ {as:List Addr} {ps:List Pl},eO n H as ps->as.length=ps.length
 | _,_,.nil=>rfl
 | _,_,.cons _ r=>by rw[MK,MK,eO.length r]
theorem eO.get {n:Nat} {H:Hp}:∀ {as:List Addr} {ps:List Pl} {i:Nat} {a:Addr},eO n H as ps->as[i]? = some a->∃ p,ps[i]? = some p/\lX n H a p
 | _,_,_,_,.nil,h=>by simp at h
 | _,_,0,_,.cons h _,e=>by
  cases (show some _=some _ from e)
  exact⟨_,rfl,h⟩
 | _,_,i+1,_,.cons _ r,e=>by
  obtain⟨p,h1,h2⟩:=eO.get (i:=i) r (by simpa using e)
  exact⟨p,by simpa using h1,h2⟩
theorem eO.snoc {n:Nat} {H:Hp} {a:Addr} {p:Pl} (h:lX n H a p):∀ {as:List Addr} {ps:List Pl},eO n H as ps->eO n H (as++[a]) (ps++[p])
 | _,_,.nil=>.cons h .nil
 | _,_,.cons x r=>.cons x (eO.snoc h r)
inductive bZ (n:Nat) (H:Hp):List V->List (List Pl)->Prop where
 | nil:bZ n H [] []
 | cons {c:Addr} {as:List Addr} {ps:List Pl} {us:List V} {bs:List (List Pl)}:H c=some (.lst (as.map V.ref))->as.length<=100->eO n H as ps->bZ n H us bs->bZ n H (.ref c::us) (ps::bs)
theorem bZ.mono {n:Nat} {H H':Hp} (e:aP H H'):∀ {us:List V} {bs:List (List Pl)},bZ n H us bs->bZ n H' us bs
 | _,_,.nil=>.nil
 | _,_,.cons h l p r=>.cons (e _ _ h) l (p.bJ fun a xs q=>e a _ q) (bZ.mono e r)
theorem bZ.length {n:Nat} {H:Hp}:∀ {us:List V} {bs:List (List Pl)},bZ n H us bs->us.length=bs.length
 | _,_,.nil=>rfl
 | _,_,.cons _ _ _ r=>by rw[MK,MK,bZ.length r]
theorem bZ.get {n:Nat} {H:Hp}:∀ {us:List V} {bs:List (List Pl)} {i:Nat} {u:V},bZ n H us bs->us[i]? = some u->∃ c as ps,u = .ref c/\bs[i]? = some ps/\H c=some (.lst (as.map V.ref))/\as.length<=100/\eO n H as ps
 | _,_,_,_,.nil,h=>by simp at h
 | _,_,0,_,.cons h l p _,e=>by
  cases (show some _=some _ from e)
  exact⟨_,_,_,rfl,rfl,h,l,p⟩
 | _,_,i+1,_,.cons _ _ _ r,e=>by
  obtain⟨c,as,ps,h1,h2,h3⟩:=bZ.get (i:=i) r (by simpa using e)
  exact⟨c,as,ps,h1,by simpa using h2,h3⟩
theorem bZ.snoc {n:Nat} {H:Hp} {c:Addr} {as:List Addr} {ps:List Pl} (h:H c=some (.lst (as.map V.ref))) (hl:as.length<=100) (hp:eO n H as ps):∀ {us:List V} {bs:List (List Pl)},bZ n H us bs->bZ n H (us++[.ref c]) (bs++[ps])
 | _,_,.nil=>.cons h hl hp .nil
 | _,_,.cons x y z r=>.cons x y z (bZ.snoc h hl hp r)
def mO (n:Nat) (H:Hp) (b:Addr) (bk:List (List Pl)):Prop:=∃ us,H b=some (.lst us)/\bZ n H us bk/\bk.length<=12
theorem mO.mono {n:Nat} {H H':Hp} {b:Addr} {bk:List (List Pl)} (e:aP H H') (h:mO n H b bk):mO n H' b bk:=by
 obtain⟨us,h1,h2,h3⟩:=h
 exact⟨us,e _ _ h1,h2.mono e,h3⟩
def owS (g:List Int) (f:Int) (x:Int × Tm):Int:=if hF g x.2=true then x.1 else f
def owF (g:List Int) (p:Pl):Int:=p.foldl (owS g) 0
theorem Bc {g:List Int} {p:Pl} {i:Nat} {x:Int × Tm} (h:p[i]? = some x):owF g (p.take (i+1))=if hF g x.2=true then x.1 else owF g (p.take i):=by
 unfold owF
 rw[Nt,h]
 show ((p.take i)++[x]).foldl (owS g) 0=_
 rw[List.foldl_append]
 rfl
def lsF (p:Pl):Int:=mxD 0 (p.map (·.1))
theorem iV:∀ (l:List Int) (a b:Int),l.foldl max (max a b)=max a (l.foldl max b)
 | [],a,b=>rfl
 | y::l,a,b=>by
  rw[Ot,Ot,show max (max a b) y=max a (max b y) by lia]
  exact iV l a (max b y)
def duF (g:List Int) (f:Int) (ps:List Pl):Int:=(ps.map (owF g)).foldl max f
theorem Bh (g:List Int) {f:Int} (hf:0<=f) (ps:List Pl):duF g f ps=max f (duF g 0 ps):=by
 unfold duF
 rw[← iV,show max f 0=f by lia]
def cM (g:List Int) (fl:List Int) (bk:List (List Pl)):List Int:=Q7 (duF g) fl bk
def rfS (f:Int) (ps:List Pl):Int:=(ps.map lsF).foldl max f
def rfF (fl:List Int) (bk:List (List Pl)):List Int:=Q7 rfS fl bk
theorem tZ {α β γ:Type} (f:α->β->γ) {xs:List α} {ys:List β} {i:Nat} {x:α} {y:β} (h1:xs[i]? = some x) (h2:ys[i]? = some y):Q7 f (xs.take (i+1)) (ys.take (i+1))=Q7 f (xs.take i) (ys.take i)++[f x y]:=by
 have l1:i < xs.length:=(List.getElem?_eq_some_iff.mp h1).1
 have l2:i < ys.length:=(List.getElem?_eq_some_iff.mp h2).1
 rw[Nt,Nt,h1,h2]
 show Q7 f (xs.take i++[x]) (ys.take i++[y])=_
 rw[List.zipWith_append (by rw[Nf,Nf]; lia)]
 rfl
theorem zL {as:List Addr} {i:Nat} {x:V} (h:(as.map V.ref)[i]? = some x):∃ a,as[i]? = some a/\x = .ref a:=by
 rw[Nj] at h
 cases e:as[i]? with
 | none=>rw[e] at h; cases h
 | some a=>rw[e] at h; exact⟨a,rfl,(M9 h).symm⟩
theorem take_snoc {α β:Type} (f:α->β) {xs:List α} {i:Nat} {x:α} (h:xs[i]? = some x):(xs.take (i+1)).map f=(xs.take i).map f++[f x]:=(oR f h).symm
abbrev wJ:Stmt:=top 11
theorem rm:aQ ["pledge","giving","step","term"] ["pledge","giving"] (aD wJ):=⟨rfl,rfl,rfl,by decide+kernel,rfl,by decide+kernel,by decide+kernel⟩
def yp (K:Nq):Sp:=fun vs H Q _=>∃ (a g:Addr) (n:Nat) (p:Pl) (ns:List Int),vs=[.ref a,.ref g]/\lX n H a p/\SqT K H g (ns.map V.int)/\n<=ns.length/\∀ H',aP H H'->Q (.int (owF ns p)) H'
theorem GK {k:Nat} (F:Fun K "owes" "owes" wJ f fd) (B:Bt mg)
  (D_holds:Df P w K mg base "holds" k ["term","giving"] (iD K 4)):fu P w K mg base CX0 (k+1) f fd ["pledge","giving"] (yp K):=by
 refine F.ok rm (fun vs H Q E h=>?_) (fun cdv A outer s H vs Q E hr h=>?_)
 ·obtain⟨a,g,n,p,ns,rfl,_⟩:=h
  rfl
 ·obtain⟨a,g,n,p,ns,rfl,⟨ok,vs,ha,rp⟩,hg,hn,q⟩:=h
  refine⟨_,(aq (dF Nz rfl (Jt rfl B.reversed_ (aa (pv 0) ak)) (d8 (K:=K) 2 rfl rfl (aW (aH (i:=2) rm.nd rfl (MT rfl)) (aW (aH (i:=3) rm.nd rfl (MT rfl)) eF))) (aA (cU (gB (aY D_holds hr (aa (pv 3) (aa (pv 1) ak)))) (aA (aO (pv 2))) aV)))
 (aA (aO aF))),?_⟩
  have el:=rp.length
  refine⟨_,rfl,a,vs,rfl,SqT.of ha,Fb (K:=K) (a:=a) (xs:=vs) (fun i σ H2=>(∃ u v,σ=[some (.ref a),some (.ref g),u,v])/\aP H H2/\owF ns p=owF ns (p.take (p.length - i)))
   ⟨⟨_,_,rfl⟩,aP.refl H,by rw[Nat.sub_zero,M4]⟩ (fun i σ H2 _ h=>SqT.of (h.2.1 _ _ ha)) ?_ ?_⟩
  ·rintro i x σ H2 hi hx ⟨⟨u,v,rfl⟩,sm,ow⟩
   obtain⟨r,k0,y,t,rfl,hr0,rt,hp⟩:=rp.get hx
   have hm:=MJ hp
   have e1:p.length - i=vs.length - 1 - i+1:=by lia
   have e2:p.length - (i+1)=vs.length - 1 - i:=by lia
   rw[e1,Bc hp] at ow
   refine⟨r,_,rfl,SqT.of (sm _ _ hr0),rfl,_,_,rfl,_,_,rfl,rfl,?_⟩
   refine⟨_,rfl,_,rfl,y,g,n,t,ns,rfl,rt.mono sm,(ok.2.2.2 _ hm).2.2,ig sm hg,hn,fun H3 s3=>⟨_,rfl,?_⟩⟩
   cases e:hF ns t with
   | true =>
    refine jN ⟨_,rfl,?_⟩
    rw[if_pos e] at ow
    have q':=q H3 (sm.trans s3)
    rw[ow] at q'
    exact q'
   | false =>
    refine gF ⟨⟨_,_,rfl⟩,sm.trans s3,?_⟩
    rw[if_neg (by rw[e]; exact Mr)] at ow
    rw[e2]
    exact ow
  ·rintro σ H2 ⟨⟨u,v,rfl⟩,sm,ow⟩
   rw[el,Nat.sub_self,Od] at ow
   have q':=q H2 sm
   rw[ow] at q'
   exact q'
abbrev iI:Stmt:=top 12
theorem pU:aQ ["pledge"] ["pledge"] (aD iI):=⟨rfl,rfl,rfl,by decide+kernel,rfl,by decide+kernel,by decide+kernel⟩
def DQ:Sp:=fun vs H Q _=>∃ (a:Addr) (n:Nat) (p:Pl),vs=[.ref a]/\lX n H a p/\∀ H',aP H H'->Q (.int (lsF p)) H'
theorem pW (F:Fun K "last_step" "last_step" iI f fd) (B:Bt mg) :
  fu P w K mg base CX0 1 f fd ["pledge"] DQ:=by
 refine F.ok pU (fun vs H Q E h=>?_) (fun cdv A outer s H vs Q E hr h=>?_)
 ·obtain⟨a,n,p,rfl,_⟩:=h
  rfl
 ·obtain⟨a,n,p,rfl,⟨ok,vs,ha,rp⟩,q⟩:=h
  refine⟨_,(aA (aO (Ex rfl rfl B.max_ (aa (bV (L:=["step","term"]) (F:=[]) (cap:=[]) rfl (bG rfl rfl (by kernel_rfl)) (mQ (pv 0)) (fun _ _ _ _ _=>(d8 (K:=K) 2 rfl rfl (aW (aH (i:=0) (aU (by decide+kernel)) rfl (MT rfl)) (aW (aH (i:=1) (aU (by decide+kernel)) rfl (MT rfl)) eF)))) (fun _ _ _ _ _=>bW) (fun _ _ _ _ _=>(pv 0))) ak)))),?_⟩
  have el:=rp.length
  have l9:=ok.2.1
  refine⟨_,rfl,a,rfl,⟨_,SqT.of ha⟩,fun D hD=>nZ (K:=K) (a:=a) (xs:=vs) (fun i zs σ' H2=>(∃ u v,σ'=[u,v])/\zs=((p.take i).map (·.1)).map V.int/\aP H H2/\H2 D=some (.lst zs))
   ⟨⟨_,_,rfl⟩,rfl,au hD _,aj⟩ (fun i zs σ' H2 _ h=>⟨SqT.of (h.2.2.1 _ _ ha),h.2.2.2⟩) ?_ ?_⟩
  ·rintro j zs x σ' H2 hx ⟨⟨u,v,rfl⟩,e1,sm,hDl⟩
   obtain⟨r,k0,y,t,rfl,hr0,rt,hp⟩:=rp.get hx
   refine⟨r,_,rfl,SqT.of (sm _ _ hr0),rfl,_,_,rfl,_,_,rfl,rfl,?_⟩
   refine tT ?_
   refine⟨_,rfl,hDl,?_,⟨_,_,rfl⟩,?_,aG sm hD _,aj⟩
   ·rw[e1,Mf,Mf,Nf]
    exact aK (by lia)
   ·rw[e1,take_snoc (·.1) hp,Mu]
    rfl
  ·rintro zs σ' H2 ⟨_,e1,sm,hDl⟩
   rw[el,M4] at e1
   refine⟨D,p.map (·.1),rfl,SqL.of (by rw[hDl,e1]),?_⟩
   exact q H2 sm
abbrev gh:Stmt:=top 14
theorem lY:aQ ["book","floor","giving"] ["book","floor","giving"] (aD gh):=⟨rfl,rfl,rfl,by decide+kernel,rfl,by decide+kernel,by decide+kernel⟩
def FQ (K:Nq):Sp:=fun vs H Q _=>∃ (b f g:Addr) (n:Nat) (bk:List (List Pl)) (fl ns:List Int),vs=[.ref b,.ref f,.ref g]/\mO n H b bk/\SqT K H f (fl.map V.int)/\SqT K H g (ns.map V.int)/\fl.length=bk.length/\n<=ns.length/\(∀ x∈fl,0<=x) ∧
 ∀ (r:Addr) (H':Hp),aP H H'->H' r=some (.tup ((cM ns fl bk).map V.int))->Q (.ref r) H'
theorem mj {k:Nat} (F:Fun K "what_is_due" "what_is_due" gh f fd) (B:Bt mg)
  (D_owes:Df P w K mg base "owes" k ["pledge","giving"] (yp K)):fu P w K mg base CX0 (k+1) f fd ["book","floor","giving"] (FQ K):=by
 refine F.ok lY (fun vs H Q E h=>?_) (fun cdv A outer s H vs Q E hr h=>?_)
 ·obtain⟨b,f,g,n,bk,fl,ns,rfl,_⟩:=h
  rfl
 ·obtain⟨b,f,g,n,bk,fl,ns,rfl,⟨us,hb,rb,l12⟩,hf,hg,hl,hn,h0,q⟩:=h
  refine⟨_,(aA (aO (dH (r:=jG K) cO rfl B.tuple_ dY (aa (bV (L:=["step","pledges"]) (F:=["giving"]) (cap:=[2]) rfl (bG rfl rfl (by kernel_rfl)) (DN rfl B.zip_ (aa (pv 1) (aa (pv 0) ak))) (fun _ _ _ _ _=>(d8 (K:=K) 2 rfl rfl (aW (aH (i:=0) (aU (by decide+kernel)) rfl (MT rfl)) (aW (aH (i:=1) (aU (by decide+kernel)) rfl (MT rfl)) eF)))) (fun _ _ _ _ _=>bW) (fun _ _ _ _ _=>(aJ (r:=Bl K) (kI rfl) rfl B.max_ yr (aa (bB pL (bO (aa (pv 0) ak)) (bV (L:=["pledge"]) (F:=["giving"]) (cap:=[2]) rfl (bG rfl rfl (by kernel_rfl)) (uQ K rfl (pv 1)) (fun _ _ _ _ _=>(aH (i:=0) (aU (by decide+kernel)) rfl (MT rfl))) (fun _ _ _ _ _=>bW) (fun _ _ _ _ _=>(aY D_owes hr (aa (pv 0) (aa (pv 1) ak)))))) ak)))) ak)))),?_⟩
  have el:=rb.length
  refine⟨_,rfl,_,rfl,f,b,_,_,rfl,hf,SqL.of hb,fun D hD=>uw (K:=K) (a:=f) (b:=b) (xs:=fl.map V.int) (ys:=us) (by rw[Mf]; lia)
   (fun i zs σ H2=>(∃ u v,σ=[u,v,some (.ref g)])/\zs=(Q7 (duF ns) (fl.take i) (bk.take i)).map V.int/\aP H H2/\H2 D=some (.lst zs)) ⟨⟨_,_,rfl⟩,rfl,au hD _,aj⟩ (fun i zs σ H2 _ h=>⟨ig h.2.2.1 hf,SqL.of (h.2.2.1 _ _ hb),h.2.2.2⟩) ?_ ?_⟩
  ·rintro i zs x y p σ H2 hx hy hp ⟨⟨u,v,rfl⟩,e1,sm,hDl⟩
   obtain⟨m,hm,rfl⟩:=int_at hx
   obtain⟨c,as,ps,rfl,hps,hc,l100,rps⟩:=rb.get hy
   have ell:=rps.length
   generalize eH3:upd H2 p _=H3
   obtain⟨g3,e3⟩:=aR eH3 hp
   refine⟨p,_,rfl,SqT.of e3,rfl,_,_,rfl,_,_,rfl,rfl,?_⟩
   refine tT ?_
   refine⟨_,rfl,small (by show 1<=1000; decide),fun p4 h4=>?_⟩
   generalize eH4:upd H3 p4 _=H4
   obtain⟨g4,e4⟩:=aR eH4 h4
   have s4:aP H H4:=sm.trans (g3.trans g4)
   refine⟨_,rfl,c,rfl,⟨_,SqL.of (s4 _ _ hc)⟩,fun D2 hD2=>d9 (K:=K) (a:=c) (xs:=as.map V.ref) (fun j ws σ' H5=>(∃ u,σ'=[u,some (.ref g)])/\ws=((ps.take j).map (owF ns)).map V.int/\aP H4 H5/\H5 D2=some (.lst ws))
    ⟨⟨_,rfl⟩,rfl,au hD2 _,aj⟩ (fun j ws σ' H5 _ h=>⟨SqL.of (h.2.2.1 _ _ (s4 _ _ hc)),h.2.2.2⟩) ?_ ?_⟩
   ·rintro j ws x σ' H5 hx ⟨⟨u,rfl⟩,e5,s5,hD5⟩
    obtain⟨a,ha,rfl⟩:=zL hx
    obtain⟨pl,hpl,rpl⟩:=rps.get ha
    refine gT ?_
    refine⟨_,rfl,_,rfl,a,g,n,pl,ns,rfl,rpl.mono (s4.trans s5),ig (s4.trans s5) hg,hn,fun H6 s6=>?_⟩
    refine⟨s6 _ _ hD5,?_,⟨_,rfl⟩,?_,aG (s5.trans s6) hD2 _,aj⟩
    ·rw[e5,Mf,Mf,Nf]
     exact aK (by lia)
    ·rw[e5,take_snoc (owF ns) hpl,Mu]
     rfl
   ·rintro ws σ' H5 ⟨_,e5,s5,hD5⟩
    rw[Mf,ell,M4] at e5
    subst e5
    refine⟨p4,D2,_,_,rfl,rfl,s5 _ _ e4,hD5,small ?_,fun p6 h6=>?_⟩
    ·rw[Mf,Mf]
     show 1+ps.length<=1000
     lia
    generalize eH6:upd H5 p6 _=H6
    obtain⟨g6,e6⟩:=aR eH6 h6
    have sall:aP H2 H6:=g3.trans (g4.trans (s5.trans g6))
    refine⟨p6,m::ps.map (owF ns),rfl,SqL.of e6,by simp,sall _ _ hDl,?_,⟨_,_,rfl⟩,?_,aG (sm.trans sall) hD _,aj⟩
    ·rw[e1,Mf,Sd,Nf]
     exact aK (by lia)
    ·rw[e1,tZ (duF ns) hm hps,Mu]
     rfl
  ·rintro zs σ H2 ⟨_,e1,sm,hDl⟩
   refine⟨D,_,rfl,.inl ⟨SqL.of hDl,fun l hl'=>?_⟩⟩
   refine q l _ (sm.trans (au hl' _)) ?_
   rw[aj,e1,Mf,M4,hl,M4]
   rfl
theorem iy {g fl:List Int} {bk:List (List Pl)} (h:fl.length=bk.length):(cM g fl bk).length=bk.length:=by
 unfold cM
 rw[Sd]
 lia
abbrev xm:Stmt:=top 16
theorem Ef:aQ ["book","floor"] ["book","floor"] (aD xm):=⟨rfl,rfl,rfl,by decide+kernel,rfl,by decide+kernel,by decide+kernel⟩
def Dg (K:Nq):Sp:=fun vs H Q _=>∃ (b f:Addr) (n:Nat) (bk:List (List Pl)) (fl:List Int),vs=[.ref b,.ref f]/\mO n H b bk/\SqT K H f (fl.map V.int)/\fl.length=bk.length ∧
 ∀ (r:Addr) (H':Hp),aP H H'->H' r=some (.tup ((rfF fl bk).map V.int))->Q (.ref r) H'
theorem DW (F:Fun K "roof" "roof" xm f fd) (B:Bt mg)
  (D_last_step:Df P w K mg base "last_step" 1 ["pledge"] DQ):fu P w K mg base CX0 2 f fd ["book","floor"] (Dg K):=by
 refine F.ok Ef (fun vs H Q E h=>?_) (fun cdv A outer s H vs Q E hr h=>?_)
 ·obtain⟨b,f,n,bk,fl,rfl,_⟩:=h
  rfl
 ·obtain⟨b,f,n,bk,fl,rfl,⟨us,hb,rb,l12⟩,hf,hl,q⟩:=h
  refine⟨_,(aA (aO (dH (r:=jG K) cO rfl B.tuple_ dY (aa (bV (L:=["step","pledges"]) (F:=[]) (cap:=[]) rfl (bG rfl rfl (by kernel_rfl)) (DN rfl B.zip_ (aa (pv 1) (aa (pv 0) ak))) (fun _ _ _ _ _=>(d8 (K:=K) 2 rfl rfl (aW (aH (i:=0) (aU (by decide+kernel)) rfl (MT rfl)) (aW (aH (i:=1) (aU (by decide+kernel)) rfl (MT rfl)) eF)))) (fun _ _ _ _ _=>bW) (fun _ _ _ _ _=>(aJ (r:=Bl K) (kI rfl) rfl B.max_ yr (aa (bB pL (bO (aa (pv 0) ak)) (bV (L:=["pledge"]) (F:=[]) (cap:=[]) rfl (bG rfl rfl (by kernel_rfl)) (uQ K rfl (pv 1)) (fun _ _ _ _ _=>(aH (i:=0) (aU (by decide+kernel)) rfl (MT rfl))) (fun _ _ _ _ _=>bW) (fun _ _ _ _ _=>(aY D_last_step hr (aa (pv 0) ak))))) ak)))) ak)))),?_⟩
  have el:=rb.length
  refine⟨_,rfl,_,rfl,f,b,_,_,rfl,hf,SqL.of hb,fun D hD=>uw (K:=K) (a:=f) (b:=b) (xs:=fl.map V.int) (ys:=us) (by rw[Mf]; lia)
   (fun i zs σ H2=>(∃ u v,σ=[u,v])/\zs=(Q7 rfS (fl.take i) (bk.take i)).map V.int/\aP H H2/\H2 D=some (.lst zs)) ⟨⟨_,_,rfl⟩,rfl,au hD _,aj⟩ (fun i zs σ H2 _ h=>⟨ig h.2.2.1 hf,SqL.of (h.2.2.1 _ _ hb),h.2.2.2⟩) ?_ ?_⟩
  ·rintro i zs x y p σ H2 hx hy hp ⟨⟨u,v,rfl⟩,e1,sm,hDl⟩
   obtain⟨m,hm,rfl⟩:=int_at hx
   obtain⟨c,as,ps,rfl,hps,hc,l100,rps⟩:=rb.get hy
   have ell:=rps.length
   generalize eH3:upd H2 p _=H3
   obtain⟨g3,e3⟩:=aR eH3 hp
   refine⟨p,_,rfl,SqT.of e3,rfl,_,_,rfl,_,_,rfl,rfl,?_⟩
   refine tT ?_
   refine⟨_,rfl,small (by show 1<=1000; decide),fun p4 h4=>?_⟩
   generalize eH4:upd H3 p4 _=H4
   obtain⟨g4,e4⟩:=aR eH4 h4
   have s4:aP H H4:=sm.trans (g3.trans g4)
   refine⟨_,rfl,c,rfl,⟨_,SqL.of (s4 _ _ hc)⟩,fun D2 hD2=>d9 (K:=K) (a:=c) (xs:=as.map V.ref) (fun j ws σ' H5=>(∃ u,σ'=[u])/\ws=((ps.take j).map lsF).map V.int/\aP H4 H5/\H5 D2=some (.lst ws))
    ⟨⟨_,rfl⟩,rfl,au hD2 _,aj⟩ (fun j ws σ' H5 _ h=>⟨SqL.of (h.2.2.1 _ _ (s4 _ _ hc)),h.2.2.2⟩) ?_ ?_⟩
   ·rintro j ws x σ' H5 hx ⟨⟨u,rfl⟩,e5,s5,hD5⟩
    obtain⟨a,ha,rfl⟩:=zL hx
    obtain⟨pl,hpl,rpl⟩:=rps.get ha
    refine gT ?_
    refine⟨_,rfl,a,n,pl,rfl,rpl.mono (s4.trans s5),fun H6 s6=>?_⟩
    refine⟨s6 _ _ hD5,?_,⟨_,rfl⟩,?_,aG (s5.trans s6) hD2 _,aj⟩
    ·rw[e5,Mf,Mf,Nf]
     exact aK (by lia)
    ·rw[e5,take_snoc lsF hpl,Mu]
     rfl
   ·rintro ws σ' H5 ⟨_,e5,s5,hD5⟩
    rw[Mf,ell,M4] at e5
    subst e5
    refine⟨p4,D2,_,_,rfl,rfl,s5 _ _ e4,hD5,small ?_,fun p6 h6=>?_⟩
    ·rw[Mf,Mf]
     show 1+ps.length<=1000
     lia
    generalize eH6:upd H5 p6 _=H6
    obtain⟨g6,e6⟩:=aR eH6 h6
    have sall:aP H2 H6:=g3.trans (g4.trans (s5.trans g6))
    refine⟨p6,m::ps.map lsF,rfl,SqL.of e6,by simp,sall _ _ hDl,?_,⟨_,_,rfl⟩,?_,aG (sm.trans sall) hD _,aj⟩
    ·rw[e1,Mf,Sd,Nf]
     exact aK (by lia)
    ·rw[e1,tZ rfS hm hps,Mu]
     rfl
  ·rintro zs σ H2 ⟨_,e1,sm,hDl⟩
   refine⟨D,_,rfl,.inl ⟨SqL.of hDl,fun l hl'=>?_⟩⟩
   refine q l _ (sm.trans (au hl' _)) ?_
   rw[aj,e1,Mf,M4,hl,M4]
   rfl
def abv:List Int->List Int->Bool
 | n::ns,m::ms=>decide (m<=n) && abv ns ms
 | _,_=>true
theorem uW:∀ {ns ms:List Int} {i:Nat} {n m:Int},ns[i]? = some n->ms[i]? = some m->abv (ns.take (i+1)) (ms.take (i+1))=(abv (ns.take i) (ms.take i) && decide (m<=n))
 | [],_,_,_,_,h,_=>by simp at h
 | _::_,[],_,_,_,_,h=>by simp at h
 | a::ns,b::ms,0,n,m,h1,h2=>by
  cases (show some a=some n from h1)
  cases (show some b=some m from h2)
  rw[Ol,Ol,abv,Od,Od,Od,abv]
  ·rw[Bool.and_true]
   rfl
  ·simp
 | a::ns,b::ms,i+1,n,m,h1,h2=>by
  have ih:=uW (ns:=ns) (ms:=ms) (i:=i) (n:=n) (m:=m) (by simpa using h1) (by simpa using h2)
  rw[Ol,Ol,abv,ih,Ol,Ol,abv,Bool.and_assoc]
theorem pN:∀ {ns ms:List Int} {i:Nat} {n m:Int},ns[i]? = some n->ms[i]? = some m->n < m->abv ns ms=false
 | [],_,_,_,_,h,_,_=>by simp at h
 | _::_,[],_,_,_,_,h,_=>by simp at h
 | a::ns,b::ms,0,n,m,h1,h2,h=>by
  cases (show some a=some n from h1)
  cases (show some b=some m from h2)
  rw[abv,decide_eq_false (by lia),Bool.false_and]
 | a::ns,b::ms,i+1,n,m,h1,h2,h=>by
  rw[abv,pN (ns:=ns) (ms:=ms) (i:=i) (by simpa using h1) (by simpa using h2) h,Bool.and_false]
def wG (K:Nq):Sp:=fun vs H Q _=>∃ (a b:Addr) (ns ms:List Int),vs=[.ref a,.ref b]/\SqT K H a (ns.map V.int)/\SqT K H b (ms.map V.int)/\ns.length=ms.length/\∀ H',aP H H'->Q (.bl (abv ns ms)) H'
abbrev sV:Stmt:=top 4
theorem nF:aQ ["one","other","step","least"] ["one","other"] (aD sV):=⟨rfl,rfl,rfl,by decide+kernel,rfl,by decide+kernel,by decide+kernel⟩
theorem Ab (F:Fun K "above" "above" sV f fd) (B:Bt mg) :
  fu P w K mg base CX0 1 f fd ["one","other"] (wG K):=by
 refine F.ok nF (fun vs H Q E h=>?_) (fun cdv A outer s H vs Q E hr h=>?_)
 ·obtain⟨a,b,ns,ms,rfl,_⟩:=h
  rfl
 ·obtain⟨a,b,ns,ms,rfl,hA,hB,hl,q⟩:=h
  refine⟨_,(aq (dF Nz rfl (Iz rfl B.zip_ (aa (pv 0) (aa (pv 1) ak))) (d8 (K:=K) 2 rfl rfl (aW (aH (i:=2) nF.nd rfl (MT rfl)) (aW (aH (i:=3) nF.nd rfl (MT rfl)) eF))) (aA (cU (aX Em (pv 2) (pv 3) (aZ _)) (aA (aO iH)) aV)))
 (aA (aO iH))),?_⟩
  refine⟨_,rfl,_,rfl,a,b,_,_,rfl,hA,hB,Gd (K:=K) (a:=a) (b:=b) (xs:=ns.map V.int) (ys:=ms.map V.int) (by rw[Mf,Mf]; exact hl)
   (fun i σ H2=>(∃ u v,σ=[some (.ref a),some (.ref b),u,v])/\aP H H2/\abv (ns.take i) (ms.take i)=true) ⟨⟨_,_,rfl⟩,aP.refl H,?_⟩ (fun i σ H2 _ h=>⟨ig h.2.1 hA,ig h.2.1 hB⟩) ?_ ?_⟩
  ·rw[Od,Od,abv]
   simp
  ·rintro i x y p σ H2 hx hy hp ⟨⟨u,v,rfl⟩,sm,ab⟩
   obtain⟨n,hn,rfl⟩:=int_at hx
   obtain⟨m,hm,rfl⟩:=int_at hy
   refine⟨p,_,rfl,SqT.of aj,rfl,_,_,rfl,_,_,rfl,rfl,?_⟩
   refine⟨_,rfl,_,rfl,_,_,rfl,rfl,_,rfl,?_⟩
   have sm2:=sm.trans (au hp (.tup [.int n,.int m]))
   refine CK (fun c=>?_) (fun c=>?_)
   ·have q':=q _ sm2
    rw[pN hn hm (of_decide_eq_true c)] at q'
    exact q'
   ·refine⟨⟨_,_,rfl⟩,sm2,?_⟩
    have c':¬ n < m:=fun z=>c (decide_eq_true z)
    rw[uW hn hm,ab,decide_eq_true (by lia)]
    rfl
  ·rintro σ H2 ⟨⟨u,v,rfl⟩,sm,ab⟩
   have q':=q _ sm
   rw[Mf,M4,hl,M4] at ab
   rw[ab] at q'
   exact q'
def yO (K:Nq) (Φ:List Int->List Int->Bool):Sp:=fun vs H Q _=>∃ (b f g:Addr) (n:Nat) (bk:List (List Pl)) (fl ns:List Int),vs=[.ref b,.ref f,.ref g]/\mO n H b bk/\SqT K H f (fl.map V.int)/\SqT K H g (ns.map V.int)/\fl.length=bk.length/\ns.length=bk.length/\n<=ns.length/\(∀ x∈fl,0<=x) ∧
 ∀ (H':Hp),aP H H'->Q (.bl (Φ (cM ns fl bk) ns)) H'
abbrev wO:Stmt:=top 15
theorem FN:aQ ["book","floor","giving"] ["book","floor","giving"] (aD wO):=⟨rfl,rfl,rfl,by decide+kernel,rfl,by decide+kernel,by decide+kernel⟩
theorem Gi {k:Nat} (hk1:1<=k) (F:Fun K "kept" "kept" wO f fd) (B:Bt mg)
  (D_what_is_due:Df P w K mg base "what_is_due" k ["book","floor","giving"] (FQ K)) (D_above:Df P w K mg base "above" 1 ["one","other"] (wG K)):fu P w K mg base CX0 (k+1) f fd ["book","floor","giving"] (yO K abv):=by
 refine F.ok FN (fun vs H Q E h=>?_) (fun cdv A outer s H vs Q E hr h=>?_)
 ·obtain⟨b,f,g,n,bk,fl,ns,rfl,_⟩:=h
  rfl
 ·obtain⟨b,f,g,n,bk,fl,ns,rfl,hb,hf,hg,hl,hm,hn,h0,q⟩:=h
  refine⟨_,(aA (aO (aY D_above hr (aa (aY D_what_is_due hr (aa (pv 0) (aa (pv 1) (aa (pv 2) ak)))) (aa (pv 2) ak))))),?_⟩
  exact⟨_,rfl,_,rfl,_,rfl,b,f,g,n,bk,fl,ns,rfl,hb,hf,hg,hl,hn,h0,fun r H1 s1 e1=>⟨_,rfl,r,g,_,_,rfl,SqT.of e1,ig s1 hg,by rw[iy hl]; lia,fun H2 s2=>q H2 (s1.trans s2)⟩⟩
def itF (f:List Int->List Int) (x:List Int):Nat->List Int
 | 0=>x
 | k+1=>f (itF f x k)
def Stops (f:List Int->List Int) (x:List Int) (m:Nat):Prop:=f (itF f x m)=itF f x m/\∀ j < m,f (itF f x j)≠itF f x j
def jQ (f:List Int->List Int) (x:List Int) (m:Nat):List (List Int):=(Ms (m+1)).map (itF f x)
theorem jF (f:List Int->List Int) (x:List Int) (m:Nat):(jQ f x m).length=m+1:=by
 unfold jQ
 rw[Mf,MN]
theorem wy (f:List Int->List Int) (x:List Int) (m:Nat):jQ f x (m+1)=jQ f x m++[itF f x (m+1)]:=by
 unfold jQ
 rw[Pg,Mu]
 rfl
theorem vO (f:List Int->List Int) (x:List Int) (m:Nat):(jQ f x m)[(jQ f x m).length - 1]? = some (itF f x m):=by
 rw[jF,Nat.add_sub_cancel]
 unfold jQ
 rw[Nj,Rg (RM m)]
 rfl
theorem oE {f:List Int->List Int} {x:List Int} (φ:List Int->Int) (N:Nat) (b0:∀ k,0<=φ (itF f x k)) (bN:∀ k,φ (itF f x k)<=(N:Int)) (up:∀ k,f (itF f x k)≠itF f x k->φ (itF f x k) < φ (itF f x (k+1))):∃ m,m<=N/\Stops f x m:=by
 have key:∀ k,(∃ m,m < k/\Stops f x m)∨((∀ j < k,f (itF f x j)≠itF f x j)/\(k:Int)<=φ (itF f x k)):=by
  intro k
  induction k with
  | zero=>exact .inr ⟨fun j h=>absurd h (P0 _),by simpa using b0 0⟩
  | succ k ih =>
   rcases ih with⟨m,h1,h2⟩ | ⟨h1,h2⟩
   ·exact .inl ⟨m,by lia,h2⟩
   ·by_cases e:f (itF f x k)=itF f x k
    ·exact .inl ⟨k,RM k,e,h1⟩
    ·refine .inr ⟨fun j hj=>?_,by have:=up k e; lia⟩
     rcases PJ j k with z | z
     ·exact h1 j z
     ·have:j=k:=by lia
      subst this
      exact e
 rcases key (N+1) with⟨m,h1,h2⟩ | ⟨_,h2⟩
 ·exact⟨m,by lia,h2⟩
 ·have:=bN (N+1)
  lia
theorem gA {g g':List Int} (hl:g.length=g'.length) (h:∀ i,i < g.length->g.getD i 0<=g'.getD i 0):LeG g g':=fun i=>by
 by_cases hi:i < g.length
 ·exact h i hi
 ·rw[Mg,Px (by lia),Mg,Px (by lia)]
  exact N6 _
theorem Cm {g:List Int} {p:Pl} {b:Int} (h0:0<=b) (h:∀ x∈p,x.1<=b):owF g p<=b:=by
 have key:∀ (p:Pl) (f:Int),f<=b->(∀ x∈p,x.1<=b)->p.foldl (owS g) f<=b:=by
  intro p
  induction p with
  | nil=>intro f hf _; exact hf
  | cons x r ih =>
   intro f hf hx
   rw[Ot]
   refine ih _ ?_ fun y hy=>hx y (MF _ hy)
   unfold owS
   split
   ·exact hx x Ml
   ·exact hf
 exact key p 0 h0 h
theorem Ag {g g':List Int} (l:LeG g g') {p:Pl} (ok:okP p):owF g p<=owF g' p:=by
 have key:∀ (p:Pl) (f f':Int),f<=f'->(∀ x∈p,f' < x.1)->(p.map (·.1)).Pairwise (· < ·)->p.foldl (owS g) f<=p.foldl (owS g') f':=by
  intro p
  induction p with
  | nil=>intro f f' hf _ _; exact hf
  | cons x r ih =>
   intro f f' hf hx hp
   rw[Ni,O3] at hp
   rw[Ot,Ot]
   have hr:∀ y∈r,x.1 < y.1:=fun y hy=>hp.1 y.1 (List.mem_map.mpr ⟨y,hy,rfl⟩)
   have hx0:=hx x Ml
   have hfr:∀ y∈r,f' < y.1:=fun y hy=>by have:=hr y hy; lia
   unfold owS
   by_cases c:hF g x.2=true
   ·rw[if_pos c,if_pos (qY l _ c)]
    exact ih _ _ (N6 _) hr hp.2
   ·rw[if_neg c]
    by_cases c':hF g' x.2=true
    ·rw[if_pos c']
     exact ih _ _ (by lia) hr hp.2
    ·rw[if_neg c']
     exact ih _ _ hf hfr hp.2
 exact key p 0 0 (N6 _) (fun x hx=>by have:=(ok.2.2.2 x hx).1; lia) ok.2.2.1
theorem eQ {b:Int}:∀ (l:List Int) (a:Int),a<=b->(∀ x∈l,x<=b)->l.foldl max a<=b
 | [],a,h,_=>h
 | y::l,a,h,hl=>by
  rw[Ot]
  exact eQ l _ (by have:=hl y Ml; lia) fun x hx=>hl x (MF _ hx)
theorem fc {α:Type} (u v:α->Int):∀ (l:List α) (a b:Int),a<=b->(∀ x∈l,u x<=v x)->(l.map u).foldl max a<=(l.map v).foldl max b
 | [],a,b,h,_=>h
 | y::l,a,b,h,hl=>by
  rw[Ni,Ni,Ot,Ot]
  exact fc u v l _ _ (by have:=hl y Ml; lia) fun x hx=>hl x (MF _ hx)
def okB (bk:List (List Pl)):Prop:=∀ ps∈bk,∀ p∈ps,okP p
theorem uA {g g':List Int} (l:LeG g g') {ps:List Pl} (ok:∀ p∈ps,okP p) {f f':Int} (h:f<=f'):duF g f ps<=duF g' f' ps:=fc _ _ ps f f' h fun p hp=>Ag l (ok p hp)
theorem Cz (g:List Int) (f:Int) (ps:List Pl):f<=duF g f ps:=(dB _ f).1
theorem Fx (g:List Int) {f:Int} (h:f<=9) {ps:List Pl} (ok:∀ p∈ps,okP p):duF g f ps<=9:=by
 refine eQ _ f h fun x hx=>?_
 obtain⟨p,hp,rfl⟩:=List.mem_map.mp hx
 exact Cm (by decide) fun y hy=>((ok p hp).2.2.2 y hy).2.1
theorem CV {p:Pl} {x:Int × Tm} (h:x∈p):x.1<=lsF p:=by
 unfold lsF
 cases p with
 | nil=>cases h
 | cons y r =>
  show x.1<=(r.map (·.1)).foldl max y.1
  obtain⟨h1,h2⟩:=dB (r.map (·.1)) y.1
  rcases List.mem_cons.mp h with rfl | h
  ·exact h1
  ·exact h2 x.1 (List.mem_map.mpr ⟨x,h,rfl⟩)
theorem FZ {g:List Int} {p:Pl} (ok:okP p):owF g p<=lsF p:=by
 have hne:=ok.1
 refine Cm ?_ fun x hx=>CV hx
 cases p with
 | nil=>exact absurd rfl hne
 | cons y r =>
  have:=CV (p:=y::r) (x:=y) Ml
  have:=(ok.2.2.2 y Ml).1
  lia
theorem Ez (g:List Int) (f:Int) {ps:List Pl} (ok:∀ p∈ps,okP p):duF g f ps<=rfS f ps:=fc _ _ ps f f (N6 _) fun p hp=>FZ (ok p hp)
theorem Fo {p:Pl} (ok:okP p):lsF p<=9:=by
 cases p with
 | nil=>exact absurd rfl ok.1
 | cons y r =>
  show (r.map (·.1)).foldl max y.1<=9
  refine eQ _ _ (ok.2.2.2 y Ml).2.1 fun x hx=>?_
  obtain⟨z,hz,rfl⟩:=List.mem_map.mp hx
  exact (ok.2.2.2 z (MF _ hz)).2.1
theorem Ff {f:Int} (h:f<=9) {ps:List Pl} (ok:∀ p∈ps,okP p):rfS f ps<=9:=by
 refine eQ _ f h fun x hx=>?_
 obtain⟨p,hp,rfl⟩:=List.mem_map.mp hx
 exact Fo (ok p hp)
theorem Jd (f:Int) (ps:List Pl):f<=rfS f ps:=(dB _ f).1
theorem eX {α:Type} (f:Int->α->Int) {xs:List Int} {ys:List α} {i:Nat} (h1:i < xs.length) (h2:i < ys.length):(Q7 f xs ys).getD i 0=f (xs.getD i 0) ys[i]:=by
 rw[Mg,List.getElem?_zipWith,Mi h1,Mi h2,Mg,Mi h1]
 rfl
theorem dI:∀ {g g':List Int},g.length=g'.length->(∀ i,i < g.length->g.getD i 0<=g'.getD i 0)->g.sum<=g'.sum/\(g.sum=g'.sum->g=g')
 | [],[],_,_=>⟨N6 _,fun _=>rfl⟩
 | a::g,b::g',hl,h=>by
  have h0:a<=b:=h 0 (Nat.succ_pos _)
  obtain⟨h1,h2⟩:=dI (g:=g) (g':=g') (by simpa using hl) fun i hi=>by
   have:=h (i+1) (by rw[MK]; lia)
   simpa using this
  rw[Ua,Ua]
  refine⟨by lia,fun e=>?_⟩
  have e1:a=b:=by lia
  have e2:g.sum=g'.sum:=by lia
  rw[e1,h2 e2]
theorem sum_bound {g:List Int} (h:∀ x∈g,0<=x/\x<=9):0<=g.sum/\g.sum<=9 * (g.length:Int):=by
 induction g with
 | nil=>exact⟨N6 _,by simp⟩
 | cons a g ih =>
  have:=h a Ml
  have:=ih fun x hx=>h x (MF _ hx)
  rw[Ua,MK]
  lia
def okG (n:Nat) (g:List Int):Prop:=g.length=n/\∀ x∈g,0<=x/\x<=9
theorem cJ {n:Nat} {g:List Int} (h:okG n g) {i:Nat} (hi:i < n):0<=g.getD i 0/\g.getD i 0<=9:=by
 have hi':i < g.length:=by rw[h.1]; exact hi
 rw[Mg,Mi hi']
 exact h.2 _ (Nk hi')
theorem lH {n:Nat} {g:List Int} (hl:g.length=n) (h:∀ i,i < n->0<=g.getD i 0/\g.getD i 0<=9):okG n g:=by
 refine⟨hl,fun x hx=>?_⟩
 obtain⟨i,hi,e⟩:=OJ hx
 have:=h i (by lia)
 rw[Mg,Mi hi,e] at this
 exact this
section
variable {n:Nat} {fl:List Int} {bk:List (List Pl)}
theorem di (hb:bk.length=n) (ok:okB bk) (hf:okG n fl) (g:List Int):okG n (cM g fl bk):=by
 refine lH (by rw[iy (by rw[hf.1,hb])]; exact hb) fun i hi=>?_
 have h1:i < fl.length:=by rw[hf.1]; exact hi
 have h2:i < bk.length:=by lia
 unfold cM
 rw[eX (duF g) h1 h2]
 have:=cJ hf hi
 have:=Cz g (fl.getD i 0) bk[i]
 have:=Fx g (f:=fl.getD i 0) (by lia) (ok bk[i] (Nk h2))
 lia
theorem gO (hb:bk.length=n) (ok:okB bk) (hf:okG n fl) {g g':List Int} (l:LeG g g'):LeG (cM g fl bk) (cM g' fl bk):=by
 have l1:=(di hb ok hf g).1
 have l2:=(di hb ok hf g').1
 refine gA (by lia) fun i hi=>?_
 have h1:i < fl.length:=by rw[hf.1]; lia
 have h2:i < bk.length:=by lia
 unfold cM
 rw[eX (duF g) h1 h2,eX (duF g') h1 h2]
 exact uA l (ok bk[i] (Nk h2)) (N6 _)
theorem fJ (hb:bk.length=n) (ok:okB bk) (hf:okG n fl) (g:List Int):LeG fl (cM g fl bk):=by
 have l1:=(di hb ok hf g).1
 refine gA (by rw[hf.1]; lia) fun i hi=>?_
 have h2:i < bk.length:=by rw[hf.1] at hi; lia
 unfold cM
 rw[eX (duF g) hi h2]
 exact Cz _ _ _
theorem gZ (hb:bk.length=n) (ok:okB bk) (hf:okG n fl):okG n (rfF fl bk):=by
 have hl:(rfF fl bk).length=n:=by
  unfold rfF
  rw[Sd,hf.1,hb,Nat.min_self]
 refine lH hl fun i hi=>?_
 have h1:i < fl.length:=by rw[hf.1]; exact hi
 have h2:i < bk.length:=by lia
 unfold rfF
 rw[eX rfS h1 h2]
 have:=cJ hf hi
 have:=Jd (fl.getD i 0) bk[i]
 have:=Ff (f:=fl.getD i 0) (by lia) (ok bk[i] (Nk h2))
 lia
theorem uY (hb:bk.length=n) (ok:okB bk) (hf:okG n fl) (g:List Int):LeG (cM g fl bk) (rfF fl bk):=by
 have l1:=(di hb ok hf g).1
 have l2:=(gZ hb ok hf).1
 refine gA (by lia) fun i hi=>?_
 have h1:i < fl.length:=by rw[hf.1]; lia
 have h2:i < bk.length:=by lia
 unfold cM rfF
 rw[eX (duF g) h1 h2,eX rfS h1 h2]
 exact Ez g _ (ok bk[i] (Nk h2))
theorem dR (hb:bk.length=n) (ok:okB bk) (hf:okG n fl) {x:List Int} (hx:okG n x):∀ k,okG n (itF (fun g=>cM g fl bk) x k)
 | 0=>hx
 | k+1=>di hb ok hf _
theorem Gk (hb:bk.length=n) (ok:okB bk) (hf:okG n fl) {x:List Int} (h:LeG x (cM x fl bk)):∀ k,LeG (itF (fun g=>cM g fl bk) x k) (itF (fun g=>cM g fl bk) x (k+1))
 | 0=>h
 | k+1=>gO hb ok hf (Gk hb ok hf h k)
theorem zF (hb:bk.length=n) (ok:okB bk) (hf:okG n fl) {x:List Int} (h:LeG (cM x fl bk) x):∀ k,LeG (itF (fun g=>cM g fl bk) x (k+1)) (itF (fun g=>cM g fl bk) x k)
 | 0=>h
 | k+1=>gO hb ok hf (zF hb ok hf h k)
theorem uT (hb:bk.length=n) (ok:okB bk) (hf:okG n fl) {x:List Int} (hx:okG n x) (h:LeG x (cM x fl bk)):∃ m,m<=9 * n/\Stops (fun g=>cM g fl bk) x m:=by
 refine oE SN (9 * n) (fun k=>(sum_bound (dR hb ok hf hx k).2).1) (fun k=>?_) (fun k ne=>?_)
 ·have:=(sum_bound (dR hb ok hf hx k).2).2
  rw[(dR hb ok hf hx k).1] at this
  lia
 ·obtain⟨h1,h2⟩:=dI ((dR hb ok hf hx k).1.trans (dR hb ok hf hx (k+1)).1.symm) fun i _=>Gk hb ok hf h k i
  have:SN (itF (fun g=>cM g fl bk) x k)≠SN (itF (fun g=>cM g fl bk) x (k+1)):=fun e=>ne (h2 e).symm
  lia
theorem vU (hb:bk.length=n) (ok:okB bk) (hf:okG n fl) {x:List Int} (hx:okG n x) (h:LeG (cM x fl bk) x):∃ m,m<=9 * n/\Stops (fun g=>cM g fl bk) x m:=by
 refine oE (fun g=>9 * (n:Int) - g.sum) (9 * n) (fun k=>?_) (fun k=>?_) (fun k ne=>?_)
 ·have:=(sum_bound (dR hb ok hf hx k).2).2
  rw[(dR hb ok hf hx k).1] at this
  show 0<=9 * (n:Int) - SN _
  lia
 ·have:=(sum_bound (dR hb ok hf hx k).2).1
  show 9 * (n:Int) - SN _<=_
  lia
 ·obtain⟨h1,h2⟩:=dI ((dR hb ok hf hx (k+1)).1.trans (dR hb ok hf hx k).1.symm) fun i _=>zF hb ok hf h k i
  have:SN (itF (fun g=>cM g fl bk) x (k+1))≠SN (itF (fun g=>cM g fl bk) x k):=fun e=>ne (h2 e)
  show 9 * (n:Int) - SN _ < 9 * (n:Int) - SN _
  lia
end
inductive fD (H:Hp):List V->List (List Int)->Prop where
 | nil:fD H [] []
 | cons {a:Addr} {g:List Int} {us:List V} {gs:List (List Int)}:H a=some (.tup (g.map V.int))->g.length<=1000->fD H us gs->fD H (.ref a::us) (g::gs)
theorem fD.bJ {H H':Hp} (e:∀ a xs,H a=some (HO.tup xs)->H' a=some (HO.tup xs)):∀ {us:List V} {gs:List (List Int)},fD H us gs->fD H' us gs
 | _,_,.nil=>.nil
 | _,_,.cons h l r=>.cons (e _ _ h) l (fD.bJ e r)
theorem fD.mono {H H':Hp} (e:aP H H') {us:List V} {gs:List (List Int)} (h:fD H us gs):fD H' us gs:=h.bJ fun a xs q=>e a _ q
theorem fD.length {H:Hp}:∀ {us:List V} {gs:List (List Int)},fD H us gs->us.length=gs.length
 | _,_,.nil=>rfl
 | _,_,.cons _ _ r=>by rw[MK,MK,fD.length r]
theorem fD.get {H:Hp}:∀ {us:List V} {gs:List (List Int)} {i:Nat} {g:List Int},fD H us gs->gs[i]? = some g->∃ a,us[i]? = some (.ref a)/\H a=some (.tup (g.map V.int))
 | _,_,_,_,.nil,h=>by simp at h
 | _,_,0,_,.cons h _ _,e=>by
  cases (show some _=some _ from e)
  exact⟨_,rfl,h⟩
 | _,_,i+1,_,.cons _ _ r,e=>by
  obtain⟨a,h1,h2⟩:=fD.get (i:=i) r (by simpa using e)
  exact⟨a,by simpa using h1,h2⟩
theorem fD.snoc {H:Hp} {a:Addr} {g:List Int} (h:H a=some (.tup (g.map V.int))) (hl:g.length<=1000):∀ {us:List V} {gs:List (List Int)},fD H us gs->fD H (us++[.ref a]) (gs++[g])
 | _,_,.nil=>.cons h hl .nil
 | _,_,.cons x y r=>.cons x y (fD.snoc h hl r)
theorem bZ.okB {n:Nat} {H:Hp}:∀ {us:List V} {bk:List (List Pl)},bZ n H us bk->okB bk
 | _,_,.nil=>fun ps h=>by cases h
 | _,_,.cons _ _ p r=>fun ps h q hq=>by
  rcases List.mem_cons.mp h with rfl | h
  ·obtain⟨i,hi,e⟩:=OJ hq
   have hlen:=p.length
   obtain⟨q',e1,e2⟩:=p.get (i:=i) (Mi (by lia))
   rw[Mi hi,e] at e1
   cases e1
   exact e2.1
  ·exact bZ.okB r ps h q hq
theorem mO.okB {n:Nat} {H:Hp} {b:Addr} {bk:List (List Pl)} (h:mO n H b bk):okB bk:=by
 obtain⟨us,_,h2,_⟩:=h
 exact h2.okB
abbrev Fd (fl:List Int) (bk:List (List Pl)):List Int->List Int:=fun g=>cM g fl bk
abbrev j7:Stmt:=top 17
theorem gP:aQ ["book","floor","giving","row","due"] ["book","floor","giving"] (aD j7):=⟨rfl,rfl,rfl,by decide+kernel,rfl,by decide+kernel,by decide+kernel⟩
def jo (K:Nq):Sp:=fun vs H Q _=>∃ (b f g:Addr) (n:Nat) (bk:List (List Pl)) (fl x:List Int) (m:Nat),vs=[.ref b,.ref f,.ref g]/\mO n H b bk/\bk.length=n/\H f=some (.tup (fl.map V.int))/\okG n fl/\H g=some (.tup (x.map V.int))/\okG n x/\m<=9 * n/\Stops (Fd fl bk) x m ∧
 ∀ (r:Addr) (us:List V) (H':Hp),aP H H'->H r=none->H' r=some (.lst us)->fD H' us (jQ (Fd fl bk) x m)->Q (.ref r) H'
theorem jX {H:Hp} {us:List V} {F:List Int->List Int} {x:List Int} {j:Nat} (h:fD H us (jQ F x j)):∃ a,atI us (-1)=some (.ref a)/\H a=some (.tup ((itF F x j).map V.int)):=by
 have hl:=h.length
 obtain⟨a,h1,h2⟩:=h.get (vO F x j)
 rw[← hl] at h1
 exact⟨a,Ir h1,h2⟩
def zm (H:Hp) (r:Addr):Nat:=match H r with
 | some (.lst us)=>us.length
 | _=>0
theorem uN {H:Hp} {r:Addr} {us:List V} (h:H r=some (.lst us)):zm H r=us.length:=by unfold zm; rw[h]
theorem vG {k:Nat} (F:Fun K "settled" "settled" j7 f fd) (B:Bt mg)
  (D_what_is_due:Df P w K mg base "what_is_due" k ["book","floor","giving"] (FQ K)):fu P w K mg base CX0 (k+1) f fd ["book","floor","giving"] (jo K):=by
 refine F.ok gP (fun vs H Q E h=>?_) (fun cdv A outer s H vs Q E hr h=>?_)
 ·obtain⟨b,f,g,n,bk,fl,x,m,rfl,_⟩:=h
  rfl
 ·obtain⟨b,f,g,n,bk,fl,x,m,rfl,hb,lb,hf,of,hg,ox,hm,st,q⟩:=h
  refine⟨_,(aq (aM (i:=3) gP.nd rfl (MT rfl) (bO (aa (pv 2) ak)))
 (aq (aM (i:=4) gP.nd rfl (MT rfl) (aY D_what_is_due hr (aa (pv 0) (aa (pv 1) (aa (pv 2) ak)))))
 (aq (jR Nz (aX (r:=BR K) (sX hr.kJ) (pv 4) (bH (r:=jK K) bj (pv 3) (Am uI aF) (fun _ _=>rfl)) (aZ _)) (aq (dM (jt Np NZ NT bM (pv 3) (aa (pv 4) ak)))
 (aA (aM (i:=4) gP.nd rfl (MT rfl) (aY D_what_is_due hr (aa (pv 0) (aa (pv 1) (aa (pv 4) ak))))))))
 (aA (aO (pv 3)))))),?_⟩
  have okb:=hb.okB
  have b12:n<=12:=by obtain⟨_,_,_,h⟩:=hb; lia
  have og:∀ j,okG n (itF (Fd fl bk) x j):=dR lb okb of ox
  have f0:∀ y∈fl,0<=y:=fun y hy=>(of.2 y hy).1
  have hlb:fl.length=bk.length:=by rw[of.1,lb]
  refine⟨_,rfl,small (by show 1<=1000; decide),fun r hr0=>?_⟩
  generalize eH1:upd H r _=H1
  obtain⟨g1,e1⟩:=aR eH1 hr0
  refine⟨_,rfl,_,rfl,_,rfl,b,f,g,n,bk,fl,x,rfl,hb.mono g1,SqT.of (g1 _ _ hf),SqT.of (g1 _ _ hg),hlb,by rw[ox.1]; lia,f0,fun r1 H2 s2 er1=>?_⟩
  refine gN ?_
  refine Bd (fun σ H3=>∃ (j:Nat) (us:List V) (d:Addr),j<=m/\σ=[some (.ref b),some (.ref f),some (.ref g),some (.ref r),some (.ref d)]/\aP H H3/\H3 r=some (.lst us)/\fD H3 us (jQ (Fd fl bk) x j)/\H3 d=some (.tup ((itF (Fd fl bk) x (j+1)).map V.int)))
   (fun _ H3=>m+2 - zm H3 r) ⟨0,[.ref g],r1,NP _,rfl,g1.trans s2,s2 _ _ e1,.cons (s2 _ _ (g1 _ _ hg)) (by rw[(og 0).1]; lia) .nil,er1⟩ ?_ ?_
  ·rintro σ H3 ⟨j,us,d,hj,rfl,s3,er,gr,ed⟩
   obtain⟨a,ha,ea⟩:=jX gr
   have lu:=gr.length
   rw[jF] at lu
   refine⟨_,rfl,_,rfl,_,rfl,r,_,_,_,rfl,rfl,SqL.of er,ha,d,a,_,_,rfl,rfl,SqT.of ed,SqT.of ea,_,rfl,?_⟩
   by_cases e:itF (Fd fl bk) x (j+1)=itF (Fd fl bk) x j
   ·rw[decide_eq_true e]
    refine gF ?_
    have ej:j=m:=by
     rcases PJ j m with z | z
     ·exact absurd e (st.2 j z)
     ·lia
    subst ej
    exact⟨_,rfl,q r us H3 s3 hr0 er gr⟩
   ·rw[decide_eq_false e]
    refine jN ?_
    have hjm:j < m:=by
     rcases PJ j m with z | z
     ·exact z
     ·have:j=m:=by lia
      subst this
      exact absurd st.1 e
    refine⟨_,rfl,.inl ⟨rfl,_,SqL.of er⟩,_,rfl,r,_,_,rfl,rfl,er,aK (by lia),?_⟩
    have tk:=cZ (zs':=us++[.ref d]) er
    have s4:aP H (upd H3 r (.lst (us++[.ref d]))):=aG s3 hr0 _
    refine⟨_,rfl,_,rfl,_,rfl,b,f,d,n,bk,fl,_,rfl,hb.mono s4,SqT.of (s4 _ _ hf),SqT.of (tk _ _ ed),hlb,by rw[(og (j+1)).1]; lia,f0,fun r5 H5 s5 er5=>?_⟩
    have er':H5 r=some (.lst (us++[.ref d])):=s5 _ _ aj
    refine⟨⟨j+1,us++[.ref d],r5,hjm,rfl,s4.trans s5,er',?_,er5⟩,?_⟩
    ·rw[wy]
     exact ((gr.bJ tk).snoc (tk _ _ ed) (by rw[(og (j+1)).1]; lia)).mono s5
    ·show m+2 - zm H5 r < m+2 - zm H3 r
     rw[uN er',uN er,Mv]
     show m+2 - (us.length+1) < m+2 - us.length
     lia
  ·rintro σ H3 Q1 Q2 hQ ⟨v1,h1,v2,h2,i0,h3,p,xs,i,z,h4,h5,h6,h7,a1,a2,ns,ms,h8,h9,h10,h11,c,h12,qq⟩
   exact⟨v1,h1,v2,h2,i0,h3,p,xs,i,z,h4,h5,h6,h7,a1,a2,ns,ms,h8,h9,h10,h11,c,h12,hQ _ _ qq⟩
def nR (st:List Int->List (List Pl)->List Int):Sp:=fun vs H Q _=>∃ (b f:Addr) (n:Nat) (bk:List (List Pl)) (fl:List Int),vs=[.ref b,.ref f]/\mO n H b bk/\bk.length=n/\H f=some (.tup (fl.map V.int))/\okG n fl ∧
 ∀ (m:Nat) (r:Addr) (us:List V) (H':Hp),m<=9 * n->Stops (Fd fl bk) (st fl bk) m->aP H H'->H r=none->H' r=some (.lst us)->fD H' us (jQ (Fd fl bk) (st fl bk) m)->Q (.ref r) H'
def pA (st:List Int->List (List Pl)->List Int):Sp:=fun vs H Q _=>∃ (b f:Addr) (n:Nat) (bk:List (List Pl)) (fl:List Int),vs=[.ref b,.ref f]/\mO n H b bk/\bk.length=n/\H f=some (.tup (fl.map V.int))/\okG n fl ∧
 ∀ (m:Nat) (a:Addr) (H':Hp),m<=9 * n->Stops (Fd fl bk) (st fl bk) m->aP H H'->H' a=some (.tup ((itF (Fd fl bk) (st fl bk) m).map V.int))->Q (.ref a) H'
abbrev Hs:List Int->List (List Pl)->List Int:=fun fl _=>fl
theorem mU {n:Nat} {fl:List Int} {bk:List (List Pl)} (hb:bk.length=n) (ok:okB bk) (hf:okG n fl):∃ m,m<=9 * n/\Stops (Fd fl bk) fl m:=uT hb ok hf hf (fJ hb ok hf fl)
theorem jA {n:Nat} {fl:List Int} {bk:List (List Pl)} (hb:bk.length=n) (ok:okB bk) (hf:okG n fl):∃ m,m<=9 * n/\Stops (Fd fl bk) (rfF fl bk) m:=vU hb ok hf (gZ hb ok hf) (uY hb ok hf _)
abbrev yN:Stmt:=top 18
abbrev qQ:Stmt:=top 20
theorem Ed:aQ ["book","floor"] ["book","floor"] (aD yN):=⟨rfl,rfl,rfl,by decide+kernel,rfl,by decide+kernel,by decide+kernel⟩
theorem Av:aQ ["book","floor"] ["book","floor"] (aD qQ):=⟨rfl,rfl,rfl,by decide+kernel,rfl,by decide+kernel,by decide+kernel⟩
theorem Gy {k:Nat} (F:Fun K "rise" "rise" yN f fd) (B:Bt mg)
  (D_settled:Df P w K mg base "settled" k ["book","floor","giving"] (jo K)):fu P w K mg base CX0 (k+1) f fd ["book","floor"] (nR Hs):=by
 refine F.ok Ed (fun vs H Q E h=>?_) (fun cdv A outer s H vs Q E hr h=>?_)
 ·obtain⟨b,f,n,bk,fl,rfl,_⟩:=h
  rfl
 ·obtain⟨b,f,n,bk,fl,rfl,hb,lb,hf,of,q⟩:=h
  refine⟨_,(aA (aO (aY D_settled hr (aa (pv 0) (aa (pv 1) (aa (pv 1) ak)))))),?_⟩
  obtain⟨m,hm,st⟩:=mU lb hb.okB of
  exact⟨_,rfl,_,rfl,_,rfl,b,f,f,n,bk,fl,fl,m,rfl,hb,lb,hf,of,hf,of,hm,st,fun r us H' s1 fr er gr=>q m r us H' hm st s1 fr er gr⟩
theorem Bw {k:Nat} (F:Fun K "least" "least" qQ f fd) (B:Bt mg)
  (D_rise:Df P w K mg base "rise" k ["book","floor"] (nR Hs)):fu P w K mg base CX0 (k+1) f fd ["book","floor"] (pA Hs):=by
 refine F.ok Av (fun vs H Q E h=>?_) (fun cdv A outer s H vs Q E hr h=>?_)
 ·obtain⟨b,f,n,bk,fl,rfl,_⟩:=h
  rfl
 ·obtain⟨b,f,n,bk,fl,rfl,hb,lb,hf,of,q⟩:=h
  refine⟨_,(aA (aO (bH (r:=jK K) bj (aY D_rise hr (aa (pv 0) (aa (pv 1) ak))) (Am uI aF) (fun _ _=>rfl)))),?_⟩
  refine⟨_,rfl,_,rfl,b,f,n,bk,fl,rfl,hb,lb,hf,of,fun m r us H' hm st s1 fr er gr=>?_⟩
  obtain⟨a,ha,ea⟩:=jX gr
  exact⟨_,rfl,r,_,_,_,rfl,rfl,SqL.of er,ha,q m a H' hm st s1 ea⟩
abbrev wV:Stmt:=top 19
abbrev jz:Stmt:=top 21
theorem Gr:aQ ["book","floor"] ["book","floor"] (aD wV):=⟨rfl,rfl,rfl,by decide+kernel,rfl,by decide+kernel,by decide+kernel⟩
theorem rC:aQ ["book","floor"] ["book","floor"] (aD jz):=⟨rfl,rfl,rfl,by decide+kernel,rfl,by decide+kernel,by decide+kernel⟩
theorem Ek {k:Nat} (hk:2<=k) (F:Fun K "fall" "fall" wV f fd) (B:Bt mg)
  (D_settled:Df P w K mg base "settled" k ["book","floor","giving"] (jo K)) (D_roof:Df P w K mg base "roof" 2 ["book","floor"] (Dg K)):fu P w K mg base CX0 (k+1) f fd ["book","floor"] (nR rfF):=by
 refine F.ok Gr (fun vs H Q E h=>?_) (fun cdv A outer s H vs Q E hr h=>?_)
 ·obtain⟨b,f,n,bk,fl,rfl,_⟩:=h
  rfl
 ·obtain⟨b,f,n,bk,fl,rfl,hb,lb,hf,of,q⟩:=h
  refine⟨_,(aA (aO (aY D_settled hr (aa (pv 0) (aa (pv 1) (aa (aY D_roof hr (aa (pv 0) (aa (pv 1) ak))) ak)))))),?_⟩
  obtain⟨m,hm,st⟩:=jA lb hb.okB of
  exact⟨_,rfl,_,rfl,_,rfl,_,rfl,b,f,n,bk,fl,rfl,hb,SqT.of hf,by rw[of.1,lb],fun r1 H1 s1 e1=>⟨b,f,r1,n,bk,fl,rfF fl bk,m,rfl,hb.mono s1,lb,s1 _ _ hf,of,e1,gZ lb hb.okB of,hm,st,fun r us H' s2 fr er gr=>q m r us H' hm st (s1.trans s2) (s1.free fr) er gr⟩⟩
theorem sE {k:Nat} (F:Fun K "greatest" "greatest" jz f fd) (B:Bt mg)
  (D_fall:Df P w K mg base "fall" k ["book","floor"] (nR rfF)):fu P w K mg base CX0 (k+1) f fd ["book","floor"] (pA rfF):=by
 refine F.ok rC (fun vs H Q E h=>?_) (fun cdv A outer s H vs Q E hr h=>?_)
 ·obtain⟨b,f,n,bk,fl,rfl,_⟩:=h
  rfl
 ·obtain⟨b,f,n,bk,fl,rfl,hb,lb,hf,of,q⟩:=h
  refine⟨_,(aA (aO (bH (r:=jK K) bj (aY D_fall hr (aa (pv 0) (aa (pv 1) ak))) (Am uI aF) (fun _ _=>rfl)))),?_⟩
  refine⟨_,rfl,_,rfl,b,f,n,bk,fl,rfl,hb,lb,hf,of,fun m r us H' hm st s1 fr er gr=>?_⟩
  obtain⟨a,ha,ea⟩:=jX gr
  exact⟨_,rfl,r,_,_,_,rfl,rfl,SqL.of er,ha,q m a H' hm st s1 ea⟩
theorem LeG.trans {a b c:List Int} (h:LeG a b) (k:LeG b c):LeG a c:=fun i=>Int.le_trans (h i) (k i)
theorem yI:∀ {ns ms:List Int},ns.length=ms.length->(abv ns ms=true ↔ LeG ms ns)
 | [],[],_=>⟨fun _ i=>N6 _,fun _=>by rw[abv]; simp⟩
 | n::ns,m::ms,h=>by
  have ih:=yI (ns:=ns) (ms:=ms) (by simpa using h)
  rw[abv,Qh,decide_eq_true_eq,ih]
  constructor
  ·rintro⟨h1,h2⟩ i
   cases i with
   | zero=>exact h1
   | succ i=>simpa using h2 i
  ·intro h
   exact⟨h 0,fun i=>by simpa using h (i+1)⟩
section
variable {n:Nat} {fl:List Int} {bk:List (List Pl)}
theorem lR (hb:bk.length=n) (ok:okB bk) (hf:okG n fl) {g:List Int} (h:LeG (cM g fl bk) g):∀ k,LeG (itF (Fd fl bk) fl k) g
 | 0=>(fJ hb ok hf g).trans h
 | k+1=>(gO hb ok hf (lR hb ok hf h k)).trans h
theorem jq (hb:bk.length=n) (ok:okB bk) (hf:okG n fl) {g:List Int} (h:LeG g (cM g fl bk)):∀ k,LeG g (itF (Fd fl bk) (rfF fl bk) k)
 | 0=>h.trans (uY hb ok hf g)
 | k+1=>h.trans (gO hb ok hf (jq hb ok hf h k))
end
theorem fD.at {H:Hp}:∀ {us:List V} {gs:List (List Int)} {i:Nat} {v:V},fD H us gs->us[i]? = some v->∃ a g,v = .ref a/\gs[i]? = some g/\H a=some (.tup (g.map V.int))/\g.length<=1000
 | _,_,_,_,.nil,h=>by simp at h
 | _,_,0,_,.cons h l _,e=>by
  cases (show some _=some _ from e)
  exact⟨_,_,rfl,rfl,h,l⟩
 | _,_,i+1,_,.cons _ _ r,e=>by
  obtain⟨a,g,h1,h2,h3⟩:=fD.at (i:=i) r (by simpa using e)
  exact⟨a,g,h1,by simpa using h2,h3⟩
section
variable {K:Nq} {σ:St} {H:Hp} {Q:V->Hp->Prop} {i j:Nat} {a:Addr} {k:Nat} {xs:List V}
end
section
variable {n:Nat} {fl:List Int} {bk:List (List Pl)}
theorem JH {i:Nat} (h:i < bk.length):bk.getD i []=bk[i]:=by rw[Mg,Mi h]; rfl
theorem cg {g g':List Int} (hl:g.length=g'.length) (h:LeG g g') (h':LeG g' g):g=g':=by
 have e1:=dI hl fun i _=>h i
 have e2:=dI hl.symm fun i _=>h' i
 exact e1.2 (by lia)
end
section
variable {n:Nat} {fl fl':List Int} {bk:List (List Pl)}
theorem bF (hb:bk.length=n) (hf:okG n fl) (g:List Int) {i:Nat} (hi:i < n):(cM g fl bk).getD i 0=max (fl.getD i 0) (duF g 0 (bk.getD i [])):=by
 have h1:i < fl.length:=by rw[hf.1]; exact hi
 have h2:i < bk.length:=by lia
 unfold cM
 rw[eX (duF g) h1 h2,JH h2]
 exact Bh g (cJ hf hi).1 _
theorem jY {g:List Int} {i:Nat} (h:g.length<=i):g.getD i 0=0:=by rw[Mg,Px h]; rfl
theorem gJ {g g':List Int} (hg:g.length=n) (hg':g'.length=n) (h:∀ i < n,g.getD i 0<=g'.getD i 0):LeG g g':=gA (by lia) fun i hi=>h i (by lia)
end
theorem uO (x:Nat):∀ c:List Nat,inV (.int (x:Int)) (c.map vN)=decide (x∈c)
 | []=>rfl
 | y::c=>by
  have ih:=uO x c
  unfold inV at ih ⊢
  rw[Ni,RT,ih]
  by_cases e:x=y
  ·subst e
   rw[decide_eq_true Ml]
   simp [vN,eqV]
  ·have:eqV (vN y) (.int (x:Int))=false:=by
    simp [vN,eqV]
    lia
   rw[this,Uc]
   exact decide_eq_decide.mpr (by simp [e])
theorem wU (c:List Nat):(c.map vN).all oY=true:=by
 rw[List.all_map,List.all_eq_true]
 intro x _
 rfl
def lfF (gs hs:List Int) (c:List Nat):List Int:=(Ms gs.length).map fun i=>if i∈c then hs.getD i 0 else gs.getD i 0
abbrev oU:Stmt:=top 5
theorem zg:aQ ["giving","high","crowd"] ["giving","high","crowd"] (aD oU):=⟨rfl,rfl,rfl,by decide+kernel,rfl,by decide+kernel,by decide+kernel⟩
def wX:Sp:=fun vs H Q _=>∃ (a b d:Addr) (gs hs:List Int) (c:List Nat),vs=[.ref a,.ref b,.ref d]/\H a=some (.tup (gs.map V.int))/\H b=some (.tup (hs.map V.int))/\H d=some (.lst (c.map vN))/\gs.length=hs.length/\gs.length<=100/\∀ (r:Addr) (H':Hp),aP H H'->H' r=some (.tup ((lfF gs hs c).map V.int))->Q (.ref r) H'
theorem yj (F:Fun K "lifted" "lifted" oU f fd) (B:Bt mg) :
  fu P w K mg base CX0 1 f fd ["giving","high","crowd"] wX:=by
 refine F.ok zg (fun vs H Q E h=>?_) (fun cdv A outer s H vs Q E hr h=>?_)
 ·obtain⟨a,b,d,gs,hs,c,rfl,_⟩:=h
  rfl
 ·obtain⟨a,b,d,gs,hs,c,rfl,ha,hb,hd,hl,l100,q⟩:=h
  refine⟨_,(aA (aO (dH (r:=jG K) cO rfl B.tuple_ dY (aa (bV (L:=["one","step"]) (F:=["crowd","high"]) (cap:=[2,1]) rfl (bG rfl rfl (by kernel_rfl)) (uR rfl B.enumerate_ (aa (pv 0) ak)) (fun _ _ _ _ _=>(d8 (K:=K) 2 rfl rfl (aW (aH (i:=0) (aU (by decide+kernel)) rfl (MT rfl)) (aW (aH (i:=1) (aU (by decide+kernel)) rfl (MT rfl)) eF)))) (fun _ _ _ _ _=>bW) (fun _ _ _ _ _=>(Bb (aX (r:=rIn K false) ym (pv 0) (pv 2) rfl) (bH (r:=oZ K) dz (pv 3) (pv 0) (fun _ _=>rfl)) (pv 1)))) ak)))),?_⟩
  refine⟨_,rfl,a,_,rfl,SqT.of ha,fun D hD=>mK (K:=K) (a:=a) (xs:=gs.map V.int) (fun i zs σ' H3=>(∃ u v,σ'=[u,v,some (.ref d),some (.ref b)])/\aP H H3/\H3 D=some (.lst zs)/\zs=((Ms i).map fun j=>if j∈c then hs.getD j 0 else gs.getD j 0).map V.int)
   ⟨⟨_,_,rfl⟩,au hD _,aj,rfl⟩ (fun i zs σ' H3 _ h=>⟨SqT.of (h.2.1 _ _ ha),h.2.2.1⟩) ?_ ?_⟩
  ·rintro i zs x p σ' H3 hx hp ⟨⟨u,v,rfl⟩,sm,eD,rfl⟩
   obtain⟨y,hy,rfl⟩:=int_at hx
   have hin:=(List.getElem?_eq_some_iff.mp hy).1
   generalize eH4:upd H3 p _=H4
   obtain⟨g4,e4⟩:=aR eH4 hp
   have s4:aP H H4:=sm.trans g4
   refine⟨p,_,rfl,SqT.of e4,rfl,_,_,rfl,_,_,rfl,rfl,?_⟩
   refine tT ?_
   have gy:gs.getD i 0=y:=by rw[Mg,hy]; rfl
   have hih:i < hs.length:=by lia
   have gi:hs.getD i 0=hs[i]:=by rw[Mg,Mi hih]; rfl
   refine⟨_,rfl,_,rfl,d,_,rfl,.inl (SqL.of (s4 _ _ hd)),rfl,wU c,_,rfl,?_⟩
   have nx:∀ z:Int,z=(if i∈c then hs.getD i 0 else gs.getD i 0)->((Ms (i+1)).map fun j=>if j∈c then hs.getD j 0 else gs.getD j 0).map V.int=((Ms i).map fun j=>if j∈c then hs.getD j 0 else gs.getD j 0).map V.int++[.int z]:=fun z ez=>by
    rw[ez,Pg,Mu,Mu]
    rfl
   have ln:(((Ms i).map fun j=>if j∈c then hs.getD j 0 else gs.getD j 0).map V.int).length < sizeLine:=aK (by rw[Mf,Mf,MN]; lia)
   rw[uO]
   by_cases e:i∈c
   ·rw[decide_eq_true e]
    refine jN ⟨_,rfl,_,rfl,b,_,_,_,rfl,rfl,SqT.of (s4 _ _ hb),wM hih,g4 _ _ eD,ln,⟨_,_,rfl⟩,aG s4 hD _,aj,?_⟩
    exact (nx _ (by rw[if_pos e,gi])).symm
   ·rw[decide_eq_false e]
    refine gF ⟨_,rfl,g4 _ _ eD,ln,⟨_,_,rfl⟩,aG s4 hD _,aj,?_⟩
    exact (nx _ (by rw[if_neg e,gy])).symm
  ·rintro zs σ' H3 ⟨_,sm,eD,rfl⟩
   refine⟨D,_,rfl,.inl ⟨SqL.of eD,fun l hl'=>?_⟩⟩
   refine q l _ (sm.trans (au hl' _)) ?_
   rw[aj,Mf]
   rfl
theorem aB {t u:TS} {D:Ends} {σ:St} {H:Hp} (P:St->Hp->Prop) (h2:∀ σ H,P σ H->u D σ H) (h1:∀ N:St->Hp->Prop,(∀ σ H,P σ H->N σ H)->t { D with nx:=N } σ H):K4 t u D σ H:=h1 (u D) h2
theorem nG (z:Int) (n:Nat):(Mz n [V.int z]).flatten=(Mz n z).map V.int:=by
 induction n with
 | zero=>rfl
 | succ n ih=>rw[OD,O1,ih,OD]; rfl
abbrev iC:Stmt:=top 35
theorem qt:aQ ["_law_cell","_law_many"] ["_law_cell","_law_many"] (aD iC):=⟨rfl,rfl,rfl,by decide+kernel,rfl,by decide+kernel,by decide+kernel⟩
def yd:Sp:=fun vs H Q _=>∃ (c:Int) (m:Nat),vs=[.int c,.int (m:Int)]/\m<=100/\∀ (r:Addr) (ns:List Int) (H':Hp),aP H H'->H r=none->ns.length=m->(∀ x∈ns,0<=x)->H' r=some (.lst (ns.map V.int))->Q (.ref r) H'
theorem pG (F:Fun K "_law_picks" "_law_picks" iC f fd) (B:Bt mg)
  (D_law_draws:Df P w K mg base "_law_draws" 1 ["_law_cell","_law_parts"] (tO K)):fu P w K mg base CX0 2 f fd ["_law_cell","_law_many"] yd:=by
 refine F.ok qt (fun vs H Q E h=>?_) (fun cdv A outer s H vs Q E hr h=>?_)
 ·obtain⟨c,m,rfl,_⟩:=h
  rfl
 ·obtain⟨c,m,rfl,hm,q⟩:=h
  refine⟨_,(aq (cU (aX tH (aJ oG rfl B.abs_ zN (aa (pv 0) ak)) (bB yc aF aF) (aZ _)) (aA (aO (aY D_law_draws hr (aa (pv 0) (aa (bB ye (bO (aa aF ak)) (pv 1)) ak))))) aV)
 (aA (aO (bV (L:=["_law_k"]) (F:=["_law_cell"]) (cap:=[0]) rfl (bG rfl rfl (by kernel_rfl)) (dC rfl B.range_ (aa (pv 1) ak)) (fun _ _ _ _ _=>(aH (i:=0) (aU (by decide+kernel)) rfl (MT rfl))) (fun _ _ _ _ _=>bW) (fun _ _ _ _ _=>(bH (r:=jK K) bj (aY D_law_draws hr (aa (bB eY (pv 1) (bB km aF (pv 0))) (aa (bO (aa aF ak)) ak))) aF (fun _ _=>rfl))))))),?_⟩
  have em:((m:Int)).toNat=m:=PN m
  refine⟨_,rfl,_,rfl,_,_,rfl,rfl,⟨by decide,by decide,by decide⟩,_,_,rfl,rfl,_,rfl,?_⟩
  refine CK (fun h=>?_) (fun h=>?_)
  ·refine⟨_,rfl,small (by show 1<=1000; decide),fun p1 h1=>?_⟩
   generalize eH1:upd H p1 _=H1
   obtain⟨g1,e1⟩:=aR eH1 h1
   refine⟨_,rfl,p1,_,_,rfl,rfl,e1,by lia,by lia,small (by show 1 * ((m:Int)).toNat<=1000; lia),fun p2 h2=>?_⟩
   rw[nG,em]
   generalize eH2:upd H1 p2 _=H2
   obtain⟨g2,e2⟩:=aR eH2 h2
   refine⟨c,p2,Mz m 27720,rfl,SqL.of e2,fun x hx=>by rw[(List.mem_replicate.mp hx).2]; decide,by rw[Nv]; lia,fun r h3=>?_⟩
   have s12:aP H H2:=g1.trans g2
   refine q r _ _ (s12.trans (au h3 _)) (s12.free h3) ?_ ?_ aj
   ·unfold xH
    rw[eE,Nv]
   ·intro x hx
    obtain⟨i,hi,rfl⟩:=OJ hx
    unfold xH at hi ⊢
    have hi':i < m:=by rw[eE,Nv] at hi; exact hi
    obtain⟨v,e,b0,_⟩:=oF (c:=Fz c) (i:=i) (ps:=Mz m 27720) (p:=27720) (fun x hx=>by rw[(List.mem_replicate.mp hx).2]; decide) (by rw[Pj,if_pos hi'])
    rw[Mi hi] at e
    rw[M9 e]
    exact b0
  ·refine nN ?_
   dsimp only
   refine⟨_,rfl,_,rfl,by lia,by lia,fun D hD=>dg (lo:=0) (n:=((m:Int)).toNat) (fun i zs σ' H2=>(∃ u,σ'=[u,some (.int c)])/\aP H H2/\H2 D=some (.lst zs)/\∃ ns:List Int,zs=ns.map V.int/\ns.length=i/\∀ x∈ns,0<=x)
    ⟨⟨_,rfl⟩,au hD _,aj,[],rfl,rfl,by simp⟩ (fun i zs σ' H2 _ h=>h.2.2.1) ?_ ?_⟩
   ·rintro i zs σ' H2 hi ⟨⟨u,rfl⟩,sm,eD,ns,ez,ln,hns⟩
    refine gT ?_
    refine⟨_,rfl,_,rfl,_,_,rfl,rfl,.inl ⟨by decide,by decide⟩,_,_,rfl,rfl,small (by show 1<=1000; decide),fun p1 h1=>?_⟩
    generalize eH3:upd H2 p1 _=H3
    obtain⟨g3,e3⟩:=aR eH3 h1
    refine⟨_,p1,[27720],rfl,SqL.of e3,by decide,by decide,fun r h4=>?_⟩
    generalize eH4:upd H3 r _=H4
    obtain⟨g4,e4⟩:=aR eH4 h4
    obtain⟨d0,k0,b0⟩:=oF (c:=Fz (c+101 * (0+(i:Int)))) (i:=0) (ps:=[27720]) (by decide) rfl
    have a0:=bu (lK k0)
    have s24:aP H2 H4:=g3.trans g4
    refine⟨r,_,_,_,rfl,rfl,SqL.of e4,a0,s24 _ _ eD,aK (by rw[ez,Mf]; lia),⟨_,rfl⟩,aG (sm.trans s24) hD _,aj,ns++[d0],?_,?_,?_⟩
    ·rw[ez,Mu]
     rfl
    ·rw[Mv,ln]
     rfl
    ·intro x hx
     rcases List.mem_append.mp hx with z | z
     ·exact hns x z
     ·rw[List.mem_singleton.mp z]
      exact b0.1
   ·rintro zs σ' H2 ⟨_,sm,eD,ns,ez,ln,hns⟩
    exact q D ns H2 sm hD (by lia) hns (by rw[eD,ez])
def hdF (bk:List (List Pl)) (lo g:List Int):List Int:=(Ms bk.length).map fun i=>max (lo.getD i 0) (min (g.getD i 0) (duF g 0 (bk.getD i [])))
theorem mV {bk:List (List Pl)} {lo g:List Int} {i:Nat} (h:i < bk.length):(hdF bk lo g).getD i 0=max (lo.getD i 0) (min (g.getD i 0) (duF g 0 (bk.getD i []))):=by
 unfold hdF
 rw[Mg,Nj,Rg h]
 rfl
theorem fL (bk:List (List Pl)) (lo g:List Int):(hdF bk lo g).length=bk.length:=by unfold hdF; rw[Mf,MN]
def Low (n:Nat) (fl:List Int) (bk:List (List Pl)) (lo:List Int):Prop:=okG n lo/\cM lo fl bk=lo/\∀ g,LeG (cM g fl bk) g->LeG lo g
def InS (n:Nat) (fl:List Int) (bk:List (List Pl)) (lo:List Int) (c:List Nat) (g:List Int):Prop:=okG n g/\(∀ i < n,i ∉ c->g.getD i 0=lo.getD i 0)/\LeG lo g/\LeG g (cM g fl bk)
def wB (n:Nat) (fl:List Int) (bk:List (List Pl)) (lo:List Int) (c:List Nat) (g:List Int):Prop:=InS n fl bk lo c g/\∀ w,InS n fl bk lo c w->LeG w g
section
variable {n:Nat} {fl:List Int} {bk:List (List Pl)}
theorem bI (g:List Int):LeG g g:=fun i=>N6 _
theorem Low.uniq {lo lo':List Int} (h:Low n fl bk lo) (h':Low n fl bk lo'):lo=lo' :=
 cg (by rw[h.1.1,h'.1.1]) (h.2.2 _ (by rw[h'.2.1]; exact bI _)) (h'.2.2 _ (by rw[h.2.1]; exact bI _))
theorem wB.uniq {lo:List Int} {c:List Nat} {g g':List Int} (h:wB n fl bk lo c g) (h':wB n fl bk lo c g'):g=g' :=
 cg (by rw[h.1.1.1,h'.1.1.1]) (h'.2 _ h.1) (h.2 _ h'.1)
theorem eU (hb:bk.length=n) (ok:okB bk) (hf:okG n fl) {m:Nat} (st:Stops (Fd fl bk) fl m):Low n fl bk (itF (Fd fl bk) fl m) :=
 ⟨dR hb ok hf hf m,st.1,fun _ h=>lR hb ok hf h m⟩
theorem fH (hb:bk.length=n) (ok:okB bk) (hf:okG n fl) {lo:List Int} (h:Low n fl bk lo):LeG fl lo:=by
 have:=fJ hb ok hf lo
 rw[h.2.1] at this
 exact this
theorem j5 (hb:bk.length=n) (ok:okB bk) {g g':List Int} (l:LeG g g') {i:Nat} (hi:i < n):duF g 0 (bk.getD i [])<=duF g' 0 (bk.getD i []):=by
 have h2:i < bk.length:=by lia
 rw[JH h2]
 exact uA l (ok bk[i] (Nk h2)) (N6 _)
theorem CP (hb:bk.length=n) {lo g:List Int} (hl:okG n lo) (hg:okG n g) (l:LeG lo g):okG n (hdF bk lo g):=by
 refine lH (by rw[fL]; exact hb) fun i hi=>?_
 rw[mV (by lia)]
 have:=cJ hl hi
 have:=cJ hg hi
 have:=l i
 lia
theorem Jm (hb:bk.length=n) {lo g:List Int} (hl:okG n lo):LeG lo (hdF bk lo g):=by
 refine gA (by rw[fL,hl.1,hb]) fun i hi=>?_
 rw[hl.1] at hi
 rw[mV (by lia)]
 lia
theorem Ii (hb:bk.length=n) {lo g:List Int} (hg:okG n g) (l:LeG lo g):LeG (hdF bk lo g) g:=by
 refine gA (by rw[fL,hg.1,hb]) fun i hi=>?_
 rw[fL] at hi
 rw[mV hi]
 have:=l i
 lia
theorem tR (hb:bk.length=n) (ok:okB bk) (hf:okG n fl) {lo g w:List Int} (hlo:Low n fl bk lo) (hw:okG n w) (hk:LeG w (cM w fl bk)) (l:LeG w g):LeG w (hdF bk lo g):=by
 refine gA (by rw[fL,hw.1,hb]) fun i hi=>?_
 rw[hw.1] at hi
 rw[mV (by lia)]
 have h1:=hk i
 rw[bF hb hf w hi] at h1
 have h2:=fH hb ok hf hlo i
 have h3:=j5 hb ok l hi
 have h4:=l i
 lia
theorem rz (hb:bk.length=n) {lo x:List Int} (hl:okG n lo) (hx:okG n x) (l:LeG lo x):∀ j,okG n (itF (hdF bk lo) x j)/\LeG lo (itF (hdF bk lo) x j)/\LeG (itF (hdF bk lo) x j) x
 | 0=>⟨hx,l,bI _⟩
 | j+1=>by
  obtain⟨h1,h2,h3⟩:=rz hb hl hx l j
  exact⟨CP hb hl h1 h2,Jm hb hl,(Ii hb h1 h2).trans h3⟩
theorem uL (hb:bk.length=n) {lo x:List Int} (hl:okG n lo) (hx:okG n x) (l:LeG lo x):∃ m,m<=9 * n/\Stops (hdF bk lo) x m:=by
 refine oE (fun g=>9 * (n:Int) - g.sum) (9 * n) (fun k=>?_) (fun k=>?_) fun k hk=>?_
 ·obtain⟨h1,_,_⟩:=rz hb hl hx l k
  have:=sum_bound h1.2
  rw[h1.1] at this
  lia
 ·obtain⟨h1,_,_⟩:=rz hb hl hx l k
  have:=sum_bound h1.2
  lia
 ·obtain⟨h1,h2,_⟩:=rz hb hl hx l k
  have h3:=CP hb hl h1 h2
  have h4:=Ii hb h1 h2
  obtain⟨s1,s2⟩:=dI (g:=hdF bk lo (itF (hdF bk lo) x k)) (g':=itF (hdF bk lo) x k) (by rw[h3.1,h1.1]) fun i _=>h4 i
  have:(hdF bk lo (itF (hdF bk lo) x k)).sum≠(itF (hdF bk lo) x k).sum:=fun z=>hk (s2 z)
  show 9 * (n:Int) - (itF (hdF bk lo) x k).sum < 9 * (n:Int) - (hdF bk lo (itF (hdF bk lo) x k)).sum
  lia
theorem j6 {gs hs:List Int} {c:List Nat} {i:Nat} (h:i < gs.length):(lfF gs hs c).getD i 0=if i∈c then hs.getD i 0 else gs.getD i 0:=by
 unfold lfF
 rw[Mg,Nj,Rg h]
 rfl
theorem ju (gs hs:List Int) (c:List Nat):(lfF gs hs c).length=gs.length:=by unfold lfF; rw[Mf,MN]
theorem pI {gs hs:List Int} (hg:okG n gs) (hh:okG n hs) (c:List Nat):okG n (lfF gs hs c):=by
 refine lH (by rw[ju]; exact hg.1) fun i hi=>?_
 rw[j6 (by rw[hg.1]; exact hi)]
 have:=cJ hg hi
 have:=cJ hh hi
 split <;> lia
theorem Ew {gs hs:List Int} (hg:okG n gs) (l:LeG gs hs) (c:List Nat):LeG gs (lfF gs hs c):=by
 refine gA (by rw[ju]) fun i hi=>?_
 rw[j6 hi]
 have:=l i
 split <;> lia
theorem uU (hb:bk.length=n) (ok:okB bk) (hf:okG n fl) {lo hi:List Int} (hlo:Low n fl bk lo) (hh:okG n hi) (l:LeG lo hi) (hup:∀ w,okG n w->LeG w (cM w fl bk)->LeG w hi) {c:List Nat} {m:Nat} (st:Stops (hdF bk lo) (lfF lo hi c) m):wB n fl bk lo c (itF (hdF bk lo) (lfF lo hi c) m):=by
 obtain⟨h1,h2,h3⟩:=rz hb hlo.1 (pI hlo.1 hh c) (Ew hlo.1 l c) m
 have fx:=st.1
 refine⟨⟨h1,fun i hi' hc=>?_,h2,?_⟩,fun w hw=>?_⟩
 ·have a:=h2 i
  have b:=h3 i
  rw[j6 (by rw[hlo.1.1]; exact hi'),if_neg hc] at b
  lia
 ·refine gA (by rw[h1.1,(di hb ok hf _).1]) fun i hi'=>?_
  rw[h1.1] at hi'
  have e:=mV (bk:=bk) (lo:=lo) (g:=itF (hdF bk lo) (lfF lo hi c) m) (i:=i) (by lia)
  rw[fx] at e
  rw[bF hb hf _ hi']
  have a:=bF hb hf lo hi'
  rw[hlo.2.1] at a
  have b:=j5 hb ok h2 hi'
  lia
 ·have hwl:LeG w (lfF lo hi c):=by
   refine gA (by rw[ju,hw.1.1,hlo.1.1]) fun i hi'=>?_
   rw[hw.1.1] at hi'
   rw[j6 (by rw[hlo.1.1]; exact hi')]
   split
   ·exact hup w hw.1 hw.2.2.2 i
   ·rename_i hc
    rw[hw.2.1 i hi' hc]
    exact N6 _
  have key:∀ j,LeG w (itF (hdF bk lo) (lfF lo hi c) j):=by
   intro j
   induction j with
   | zero=>exact hwl
   | succ j ih=>exact tR hb ok hf hlo hw.1 hw.2.2.2 ih
  exact key m
end
abbrev iR:Stmt:=top 25
abbrev wQ:Stmt:=top 26
theorem o4:aQ ["pledges","low","step","giving"] ["pledges","low","step","giving"] (aD iR):=⟨rfl,rfl,rfl,by decide+kernel,rfl,by decide+kernel,by decide+kernel⟩
theorem kW:aQ ["book","sure","giving","lesser"] ["book","sure","giving"] (aD wQ):=⟨rfl,rfl,rfl,by decide+kernel,rfl,by decide+kernel,by decide+kernel⟩
theorem jb {α:Type} (u:α->Int) (st:Int):∀ (ps:List α) (a b:Int),min st b<=a->(ps.map fun p=>min st (u p)).foldl max a=max a (min st ((ps.map u).foldl max b))
 | [],a,b,h=>by
  show a=max a (min st b)
  lia
 | p::ps,a,b,h=>by
  rw[Ni,Ni,Ot,Ot,jb u st ps (max a (min st (u p))) (max b (u p)) (by lia)]
  have:=(dB (ps.map u) (max b (u p))).1
  lia
def wH (K:Nq):Sp:=fun vs H Q _=>∃ (c g:Addr) (n:Nat) (as:List Addr) (ps:List Pl) (ns:List Int) (lo st:Int),vs=[.ref c,.int lo,.int st,.ref g]/\H c=some (.lst (as.map V.ref))/\as.length<=100/\eO n H as ps/\SqT K H g (ns.map V.int)/\n<=ns.length/\0<=lo/\lo<=st ∧
 ∀ H',aP H H'->Q (.int (max lo (min st (duF ns 0 ps)))) H'
theorem pX {k:Nat} (F:Fun K "held_step" "held_step" iR f fd) (B:Bt mg)
  (D_owes:Df P w K mg base "owes" k ["pledge","giving"] (yp K)):fu P w K mg base CX0 (k+1) f fd ["pledges","low","step","giving"] (wH K):=by
 refine F.ok o4 (fun vs H Q E h=>?_) (fun cdv A outer s H vs Q E hr h=>?_)
 ·obtain⟨c,g,n,as,ps,ns,lo,st,rfl,_⟩:=h
  rfl
 ·obtain⟨c,g,n,as,ps,ns,lo,st,rfl,hc,l100,rps,hg,hn,h0,hls,q⟩:=h
  have ell:=rps.length
  refine⟨_,(aq (cU (aX iT (pv 2) (pv 1) (aZ _)) (aA (aO (pv 1))) aV)
 (aA (aO (aJ (r:=Bl K) (kI rfl) rfl B.max_ yr (aa (bB pL (bO (aa (pv 1) ak)) (bV (L:=["pledge"]) (F:=["step","giving"]) (cap:=[2,3]) rfl (bG rfl rfl (by kernel_rfl)) (cB (pv 0)) (fun _ _ _ _ _=>(aH (i:=0) (aU (by decide+kernel)) rfl (MT rfl))) (fun _ _ _ _ _=>bW) (fun _ _ _ _ _=>(aJ (zU rfl) rfl B.min_ Io (aa (pv 1) (aa (aY D_owes hr (aa (pv 0) (aa (pv 2) ak))) ak)))))) ak))))),?_⟩
  refine⟨_,rfl,_,rfl,rfl,_,rfl,?_⟩
  by_cases e:st=lo
  ·subst e
   rw[decide_eq_true rfl]
   refine jN ⟨_,rfl,?_⟩
   have:=q H (aP.refl _)
   rw[show max st (min st (duF ns 0 ps))=st by lia] at this
   exact this
  ·rw[decide_eq_false (fun z=>e (by cases z; rfl))]
   refine gF ?_
   refine⟨_,rfl,small (by show 1<=1000; decide),fun p4 h4=>?_⟩
   generalize eH4:upd H p4 _=H4
   obtain⟨g4,e4⟩:=aR eH4 h4
   refine⟨_,rfl,c,rfl,⟨_,SqL.of (g4 _ _ hc)⟩,fun D2 hD2=>d9 (K:=K) (a:=c) (xs:=as.map V.ref) (fun j ws σ' H5=>(∃ u,σ'=[u,some (.int st),some (.ref g)])/\ws=((ps.take j).map fun p=>min st (owF ns p)).map V.int/\aP H4 H5/\H5 D2=some (.lst ws))
    ⟨⟨_,rfl⟩,rfl,au hD2 _,aj⟩ (fun j ws σ' H5 _ h=>⟨SqL.of (h.2.2.1 _ _ (g4 _ _ hc)),h.2.2.2⟩) ?_ ?_⟩
   ·rintro j ws x σ' H5 hx ⟨⟨u,rfl⟩,e5,s5,hD5⟩
    obtain⟨a,ha,rfl⟩:=zL hx
    obtain⟨pl,hpl,rpl⟩:=rps.get ha
    refine gT ?_
    refine⟨_,rfl,_,rfl,_,rfl,a,g,n,pl,ns,rfl,rpl.mono (g4.trans s5),ig (g4.trans s5) hg,hn,fun H6 s6=>?_⟩
    refine⟨_,_,rfl,s6 _ _ hD5,?_,⟨_,rfl⟩,?_,aG (s5.trans s6) hD2 _,aj⟩
    ·rw[e5,Mf,Mf,Nf]
     exact aK (by lia)
    ·rw[e5,take_snoc (fun p=>min st (owF ns p)) hpl,Mu]
     congr 1
     show[V.int _]=[V.int _]
     congr 2
     split <;> lia
   ·rintro ws σ' H5 ⟨_,e5,s5,hD5⟩
    rw[Mf,ell,M4] at e5
    subst e5
    refine⟨p4,D2,_,_,rfl,rfl,s5 _ _ e4,hD5,small ?_,fun p6 h6=>?_⟩
    ·rw[Mf,Mf]
     show 1+ps.length<=1000
     lia
    generalize eH6:upd H5 p6 _=H6
    obtain⟨g6,e6⟩:=aR eH6 h6
    refine⟨p6,lo::ps.map fun p=>min st (owF ns p),rfl,SqL.of e6,by simp,?_⟩
    have:=q H6 (g4.trans (s5.trans g6))
    rw[show max lo (min st (duF ns 0 ps))=mxD 0 (lo::ps.map fun p=>min st (owF ns p)) from (jb (owF ns) st ps lo 0 (by lia)).symm] at this
    exact this
def zc:Sp:=fun vs H Q _=>∃ (b f g:Addr) (n:Nat) (bk:List (List Pl)) (lo x:List Int),vs=[.ref b,.ref f,.ref g]/\mO n H b bk/\bk.length=n/\H f=some (.tup (lo.map V.int))/\okG n lo/\H g=some (.tup (x.map V.int))/\okG n x/\LeG lo x ∧
 ∀ (m:Nat) (r:Addr) (H':Hp),Stops (hdF bk lo) x m->aP H H'->H' r=some (.tup ((itF (hdF bk lo) x m).map V.int))->Q (.ref r) H'
def HW (bk:List (List Pl)) (lo x:List Int) (M:Nat) (b f:Addr) (H:Hp) (m:Nat) (σ:St) (H3:Hp):Prop:=∃ (t:Nat) (la:Addr) (gv:V),t+m=M+1/\σ=[some (.ref b),some (.ref f),some gv,some (.ref la)]/\aP H H3/\H3 la=some (.tup ((itF (hdF bk lo) x t).map V.int)) ∧
 ((t=0/\gv = .non)∨∃ (ga:Addr) (j:Nat),t=j+1/\gv = .ref ga/\H3 ga=some (.tup ((itF (hdF bk lo) x j).map V.int)))
theorem Fe {k:Nat} (F:Fun K "held" "held" wQ f fd) (B:Bt mg)
  (D_held_step:Df P w K mg base "held_step" k ["pledges","low","step","giving"] (wH K)):fu P w K mg base CX0 (k+1) f fd ["book","sure","giving"] zc:=by
 refine F.ok kW (fun vs H Q E h=>?_) (fun cdv A outer s H vs Q E hr h=>?_)
 ·obtain⟨b,f,g,n,bk,lo,x,rfl,_⟩:=h
  rfl
 ·obtain⟨b,f,g,n,bk,lo,x,rfl,hB,lb,hf,ol,hg,ox,lx,q⟩:=h
  refine⟨_,(aq (aM (i:=3) kW.nd rfl (MT rfl) (pv 2))
 (aq (aM (i:=2) kW.nd rfl (Td rfl) Iw)
 (aq (jR Nz (aX (r:=yE K) (Ci hr.kJ) (pv 3) (pv 2) (aZ _)) (aq (aM (i:=2) kW.nd rfl (Td rfl) (pv 3))
 (aA (aM (i:=3) kW.nd rfl (MT rfl) (dH (r:=jG K) cO rfl B.tuple_ dY (aa (bV (L:=["pledges","low","step"]) (F:=["giving"]) (cap:=[2]) rfl (bG rfl rfl (by kernel_rfl)) (Kz rfl B.zip_ (aa (pv 0) (aa (pv 1) (aa (pv 2) ak)))) (fun _ _ _ _ _=>(d8 (K:=K) 3 rfl rfl (aW (aH (i:=0) (aU (by decide+kernel)) rfl (MT rfl)) (aW (aH (i:=1) (aU (by decide+kernel)) rfl (MT rfl)) (aW (aH (i:=2) (aU (by decide+kernel)) rfl (MT rfl)) eF))))) (fun _ _ _ _ _=>bW) (fun _ _ _ _ _=>(aY D_held_step hr (aa (pv 0) (aa (pv 1) (aa (pv 2) (aa (pv 3) ak))))))) ak))))))
 (aA (aO (pv 2)))))),?_⟩
  obtain⟨us0,hb,rb,l12⟩:=id hB
  have el:=rb.length
  obtain⟨M,hM,st⟩:=uL lb ol ox lx
  have io:=rz lb ol ox lx
  refine⟨_,rfl,?_⟩
  refine⟨HW bk lo x M b f H,⟨M+1,0,g,.non,by lia,rfl,aP.refl _,hg,.inl ⟨rfl,rfl⟩⟩,?_⟩
  rintro m σ H3 ⟨t,la,gv,htm,rfl,s3,ela,hgv⟩
  obtain⟨og,olow,_⟩:=io t
  have s3b:=s3 _ _ hb
  have s3f:=s3 _ _ hf
  have key:∀ Q':VK,(1<=m->Q' (.bl true) H3)->(∀ (ga:Addr),gv = .ref ga->H3 ga=some (.tup ((itF (hdF bk lo) x M).map V.int))->Q' (.bl false) H3)->yE K (.ref la) gv H3 Q':=fun Q' hT hF=>by
   rcases hgv with⟨ht,rfl⟩ | ⟨ga,j,ht,rfl,ega⟩
   ·exact .inr ⟨la,_,rfl,rfl,SqT.of ela,hT (by lia)⟩
   ·refine .inl ⟨la,ga,_,_,rfl,rfl,SqT.of ela,SqT.of ega,?_⟩
    subst ht
    by_cases e:itF (hdF bk lo) x (j+1)=itF (hdF bk lo) x j
    ·rw[decide_eq_true e]
     have ej:j=M:=by
      rcases PJ j M with z | z
      ·exact absurd e (st.2 j z)
      ·lia
     subst ej
     exact hF ga rfl ega
    ·rw[decide_eq_false e]
     refine hT ?_
     rcases PJ j M with z | z
     ·lia
     ·have:j=M:=by lia
      subst this
      exact absurd st.1 e
  refine⟨_,rfl,_,rfl,key _ (fun h1=>⟨_,rfl,jN ⟨HW bk lo x M b f H (m - 1),fun σ' H' h=>⟨m - 1,by lia,h⟩,?_⟩⟩) fun ga hga ega=>⟨_,rfl,gF ⟨_,rfl,?_⟩⟩⟩
  ·refine⟨_,rfl,_,rfl,_,rfl,_,rfl,b,f,la,_,_,_,rfl,SqL.of s3b,SqT.of s3f,SqT.of ela,fun D hD=>Es (K:=K) (a:=b) (b:=f) (c:=la) (xs:=us0) (ys:=lo.map V.int) (vs:=(itF (hdF bk lo) x t).map V.int) (by rw[Mf,ol.1]; lia) (by rw[Mf,og.1]; lia)
    (fun i zs σ' H4=>(∃ u v w,σ'=[u,v,w,some (.ref la)])/\zs=((Ms i).map fun i=>max (lo.getD i 0) (min ((itF (hdF bk lo) x t).getD i 0) (duF (itF (hdF bk lo) x t) 0 (bk.getD i [])))).map V.int/\aP H3 H4/\H4 D=some (.lst zs))
    ⟨⟨_,_,_,rfl⟩,rfl,au hD _,aj⟩ (fun i zs σ' H4 _ h=>⟨SqL.of (h.2.2.1 _ _ s3b),SqT.of (h.2.2.1 _ _ s3f),SqT.of (h.2.2.1 _ _ ela),h.2.2.2⟩) ?_ ?_⟩
   ·rintro i zs y1 y2 y3 p σ' H4 hx hy hv hp ⟨⟨u,v,w,rfl⟩,e1,sm,hDl⟩
    obtain⟨c,as,ps,rfl,hps,hc,l100,rps⟩:=rb.get hx
    obtain⟨l1,hl1,rfl⟩:=int_at hy
    obtain⟨g1,hg1,rfl⟩:=int_at hv
    have hi:=(List.getElem?_eq_some_iff.mp hx).1
    have gl:lo.getD i 0=l1:=by rw[Mg,hl1]; rfl
    have gg:(itF (hdF bk lo) x t).getD i 0=g1:=by rw[Mg,hg1]; rfl
    have gb:bk.getD i []=ps:=by rw[Mg,hps]; rfl
    have l01:=(cJ ol (i:=i) (by lia)).1
    have llg:=olow i
    rw[gl] at l01
    rw[gl,gg] at llg
    generalize eH5:upd H4 p _=H5
    obtain⟨g5,e5⟩:=aR eH5 hp
    have s5:=sm.trans g5
    refine⟨p,_,rfl,SqT.of e5,rfl,_,_,rfl,_,_,rfl,_,_,rfl,rfl,?_⟩
    refine tT ?_
    refine⟨_,rfl,_,rfl,_,rfl,_,rfl,c,la,n,as,ps,_,l1,g1,rfl,(s3.trans s5) _ _ hc,l100,rps.bJ (fun a xs q=>(s3.trans s5) a _ q),SqT.of (s5 _ _ ela),by rw[og.1]; lia,l01,llg,fun H6 s6=>?_⟩
    refine⟨s6 _ _ (g5 _ _ hDl),?_,⟨_,_,_,rfl⟩,?_,aG (s5.trans s6) hD _,aj⟩
    ·rw[e1,Mf,Mf,MN]
     exact aK (by lia)
    ·rw[e1,Pg,Mu,Mu,gb.symm,← gl,← gg]
     rfl
   ·rintro zs σ' H4 ⟨_,e1,sm,hDl⟩
    refine⟨D,_,rfl,.inl ⟨SqL.of hDl,fun l hl'=>?_⟩⟩
    refine⟨t+1,l,.ref la,by lia,rfl,s3.trans (sm.trans (au hl' _)),?_,.inr ⟨la,t,rfl,rfl,au hl' _ _ _ (sm _ _ ela)⟩⟩
    rw[aj,e1,el]
    rfl
  ·subst hga
   exact q M ga H3 st s3 ega
abbrev qU:Stmt:=top 27
theorem uc:aQ ["book","floor","crowd","sure"] ["book","floor","crowd"] (aD qU):=⟨rfl,rfl,rfl,by decide+kernel,rfl,by decide+kernel,by decide+kernel⟩
def rE:Sp:=fun vs H Q _=>∃ (b f d:Addr) (n:Nat) (bk:List (List Pl)) (fl:List Int) (c:List Nat),vs=[.ref b,.ref f,.ref d]/\mO n H b bk/\bk.length=n/\H f=some (.tup (fl.map V.int))/\okG n fl/\H d=some (.lst (c.map vN)) ∧
 ∀ (r:Addr) (z:List Int) (H':Hp),aP H H'->H' r=some (.tup (z.map V.int))->(∀ lo,Low n fl bk lo->wB n fl bk lo c z)->Q (.ref r) H'
theorem Ad {k j:Nat} (hj:j<=k+1) (F:Fun K "alone" "alone" qU f fd) (B:Bt mg)
  (D_least:Df P w K mg base "least" (k+1) ["book","floor"] (pA Hs)) (D_greatest:Df P w K mg base "greatest" (k+1) ["book","floor"] (pA rfF)) (D_lifted:Df P w K mg base "lifted" 1 ["giving","high","crowd"] wX) (D_held:Df P w K mg base "held" j ["book","sure","giving"] zc) :
  fu P w K mg base CX0 (k+2) f fd ["book","floor","crowd"] rE:=by
 refine F.ok uc (fun vs H Q E h=>?_) (fun cdv A outer s H vs Q E hr h=>?_)
 ·obtain⟨b,f,d,n,bk,fl,c,rfl,_⟩:=h
  rfl
 ·obtain⟨b,f,d,n,bk,fl,c,rfl,hB,lb,hf,of,hd,q⟩:=h
  refine⟨_,(aq (aM (i:=3) uc.nd rfl (MT rfl) (aY D_least hr (aa (pv 0) (aa (pv 1) ak))))
 (aA (aO (aY D_held hr (aa (pv 0) (aa (pv 3) (aa (aY D_lifted hr (aa (pv 3) (aa (aY D_greatest hr (aa (pv 0) (aa (pv 1) ak))) (aa (pv 2) ak)))) ak))))))),?_⟩
  have okb:=hB.okB
  have b12:n<=12:=by obtain⟨_,_,_,h⟩:=hB; lia
  refine⟨_,rfl,_,rfl,b,f,n,bk,fl,rfl,hB,lb,hf,of,fun m1 a1 H1 _ st1 s1 e1=>?_⟩
  have low:=eU lb okb of st1
  have clr:=fun {g:List Int} (h:LeG (cM g fl bk) g)=>lR lb okb of h m1
  generalize itF (Fd fl bk) fl m1=lo at *
  refine gN ?_
  refine⟨_,rfl,_,rfl,_,rfl,_,rfl,_,rfl,b,f,n,bk,fl,rfl,hB.mono s1,lb,s1 _ _ hf,of,fun m2 a2 H2 _ st2 s2 e2=>?_⟩
  have oh:=dR lb okb of (gZ lb okb of) m2
  have kep:=fun {g:List Int} (h:LeG g (cM g fl bk))=>jq lb okb of h m2
  have fx:=st2.1
  have lh:LeG lo (itF (Fd fl bk) (rfF fl bk) m2):=clr (by rw[show cM (itF (Fd fl bk) (rfF fl bk) m2) fl bk=itF (Fd fl bk) (rfF fl bk) m2 from fx]; exact bI _)
  generalize itF (Fd fl bk) (rfF fl bk) m2=hi at *
  have s12:=s1.trans s2
  refine⟨_,rfl,a1,a2,d,lo,hi,c,rfl,s2 _ _ e1,e2,s12 _ _ hd,by rw[low.1.1,oh.1],by rw[low.1.1]; lia,fun a3 H3 s3 e3=>?_⟩
  refine⟨b,a1,a3,n,bk,lo,_,rfl,hB.mono (s12.trans s3),lb,(s2.trans s3) _ _ e1,low.1,e3,pI low.1 oh c,Ew low.1 lh c,fun m3 r H4 st3 s4 e4=>?_⟩
  refine q r _ H4 (s12.trans (s3.trans s4)) e4 fun lo' hlo'=>?_
  rw[hlo'.uniq low]
  exact uU lb okb of low oh lh (fun w _ hw=>kep hw) st3
def iN (c:List Nat):List Int:=c.map fun i:Nat=>(i:Int)
theorem Hu {n:Nat} (h:n<=10000):n < sizeLine:=QD h (by decide)
theorem jr:∀ {c:List Nat} {m n:Nat},c.Pairwise (· < ·)->(∀ i∈c,m<=i/\i < n)->c.length<=n - m
 | [],m,n,_,_=>NP _
 | a::c,m,n,hp,h=>by
  rw[O3] at hp
  have h1:=h a Ml
  have:=jr (c:=c) (m:=a+1) (n:=n) hp.2 fun i hi=>⟨hp.1 i hi,(h i (MF _ hi)).2⟩
  rw[MK]
  lia
section
variable {n:Nat} {fl lo:List Int} {bk:List (List Pl)}
theorem yD (hb:bk.length=n) (ok:okB bk) (hf:okG n fl) (hlo:Low n fl bk lo) {x:List Int} (hx:okG n x) (l:LeG lo x) {c:List Nat} (hc:∀ i < n,i ∉ c->x.getD i 0=lo.getD i 0) (hup:∀ w,InS n fl bk lo c w->LeG w x) {m:Nat} (st:Stops (hdF bk lo) x m):wB n fl bk lo c (itF (hdF bk lo) x m):=by
 obtain⟨h1,h2,h3⟩:=rz hb hlo.1 hx l m
 have fx:=st.1
 refine⟨⟨h1,fun i hi' hci=>?_,h2,?_⟩,fun w hw=>?_⟩
 ·have a:=h2 i
  have b:=h3 i
  rw[hc i hi' hci] at b
  lia
 ·refine gA (by rw[h1.1,(di hb ok hf _).1]) fun i hi'=>?_
  rw[h1.1] at hi'
  have e:=mV (bk:=bk) (lo:=lo) (g:=itF (hdF bk lo) x m) (i:=i) (by lia)
  rw[fx] at e
  rw[bF hb hf _ hi']
  have a:=bF hb hf lo hi'
  rw[hlo.2.1] at a
  have b:=j5 hb ok h2 hi'
  lia
 ·have:∀ j,LeG w (itF (hdF bk lo) x j):=by
   intro j
   induction j with
   | zero=>exact hup w hw
   | succ j ih=>exact tR hb ok hf hlo hw.1 hw.2.2.2 ih
  exact this m
theorem Jc (hb:bk.length=n) (ok:okB bk) (hf:okG n fl) (hlo:Low n fl bk lo) (c:List Nat):∃ g,wB n fl bk lo c g:=by
 have o9:okG n (Mz n (9:Int)):=⟨Nv,fun x hx=>by rw[(List.mem_replicate.mp hx).2]; decide⟩
 have r9:∀ i < n,(Mz n (9:Int)).getD i 0=9:=fun i hi=>by rw[Mg,Pj,if_pos hi]; rfl
 have up9:∀ w:List Int,okG n w->LeG w (Mz n (9:Int)):=fun w hw=>gJ hw.1 o9.1 fun i hi=>by
  rw[r9 i hi]
  exact (cJ hw hi).2
 have l:=up9 lo hlo.1
 obtain⟨m,_,st⟩:=uL hb hlo.1 (pI hlo.1 o9 c) (Ew hlo.1 l c)
 exact⟨_,uU hb ok hf hlo o9 l (fun w hw _=>up9 w hw) st⟩
open Classical in
def al (n:Nat) (fl:List Int) (bk:List (List Pl)) (lo:List Int) (c:List Nat):List Int:=if h:∃ g,wB n fl bk lo c g then h.choose else lo
theorem bT (hb:bk.length=n) (ok:okB bk) (hf:okG n fl) (hlo:Low n fl bk lo) (c:List Nat):wB n fl bk lo c (al n fl bk lo c):=by
 have h:=Jc hb ok hf hlo c
 unfold al
 rw[dif_pos h]
 exact h.choose_spec
theorem tM (hb:bk.length=n) (ok:okB bk) (hf:okG n fl) (hlo:Low n fl bk lo) {c:List Nat} {g:List Int} (h:wB n fl bk lo c g):g=al n fl bk lo c:=h.uniq (bT hb ok hf hlo c)
theorem InS.mono {c d:List Nat} {g:List Int} (h:InS n fl bk lo c g) (s:∀ i < n,i∈c->i∈d):InS n fl bk lo d g:=⟨h.1,fun i hi hd=>h.2.1 i hi fun z=>hd (s i hi z),h.2.2⟩
theorem rK (hb:bk.length=n) (ok:okB bk) (hf:okG n fl) (hlo:Low n fl bk lo) {c d:List Nat} (s:∀ i < n,i∈c->i∈d):LeG (al n fl bk lo c) (al n fl bk lo d):=(bT hb ok hf hlo d).2 _ ((bT hb ok hf hlo c).1.mono s)
theorem gC (hb:bk.length=n) (ok:okB bk) (hf:okG n fl) (hlo:Low n fl bk lo) (c:List Nat):(al n fl bk lo c).length=n:=(bT hb ok hf hlo c).1.1.1
def ris (n:Nat) (lo g:List Int):List Nat:=(Ms n).filter fun i=>decide (lo.getD i 0 < g.getD i 0)
theorem dZ {g:List Int} {i:Nat}:i∈ris n lo g ↔ i < n/\lo.getD i 0 < g.getD i 0:=by
 unfold ris
 rw[QG,QZ]
 simp
theorem sY {c:List Nat} {g:List Int} (h:InS n fl bk lo c g) {i:Nat} (hi:i∈ris n lo g):i∈c:=by
 obtain⟨h1,h2⟩:=dZ.mp hi
 refine Rf fun z=>?_
 have:=h.2.1 i h1 z
 lia
theorem G8 {c:List Nat} {g:List Int} (h:InS n fl bk lo c g):InS n fl bk lo (ris n lo g) g:=by
 refine⟨h.1,fun i hi hn=>?_,h.2.2⟩
 have a:=h.2.2.1 i
 have b:¬ lo.getD i 0 < g.getD i 0:=fun z=>hn (dZ.mpr ⟨hi,z⟩)
 lia
theorem zP (hb:bk.length=n) (ok:okB bk) (hf:okG n fl) (hlo:Low n fl bk lo) (c:List Nat):al n fl bk lo (ris n lo (al n fl bk lo c))=al n fl bk lo c:=by
 have m:=bT hb ok hf hlo c
 refine cg (by rw[gC hb ok hf hlo,gC hb ok hf hlo]) (rK hb ok hf hlo fun i hi=>sY m.1) ?_
 exact (bT hb ok hf hlo _).2 _ (G8 m.1)
theorem Ei (hb:bk.length=n) (ok:okB bk) (hf:okG n fl) (hlo:Low n fl bk lo) {c:List Nat} (h:ris n lo (al n fl bk lo c)=[]):al n fl bk lo c=lo:=by
 have m:=bT hb ok hf hlo c
 refine cg (by rw[gC hb ok hf hlo,hlo.1.1]) (gJ (gC hb ok hf hlo c) hlo.1.1 fun i hi=>?_) m.1.2.2.1
 have:i ∉ ris n lo (al n fl bk lo c):=by rw[h]; simp
 have h':¬ lo.getD i 0 < (al n fl bk lo c).getD i 0:=fun z=>this (dZ.mpr ⟨hi,z⟩)
 lia
theorem Dy:ris n lo lo=[]:=by
 unfold ris
 rw[List.filter_eq_nil_iff]
 intro i _
 simp
theorem j9 {g:List Int} {one:Nat} (hg:g.length=n) (hl:lo.length=n):ris n lo (lfF g lo [one])=(ris n lo g).filter fun i=>decide (i≠one):=by
 unfold ris
 rw[List.filter_filter]
 refine O9 fun i hi=>?_
 have hi':=List.mem_range.mp hi
 rw[j6 (by rw[hg]; exact hi')]
 by_cases e:i=one
 ·subst e
  simp
 ·simp [e]
theorem rG (hb:bk.length=n) (ok:okB bk) (hf:okG n fl) (hlo:Low n fl bk lo) {c:List Nat} (hcl:ris n lo (al n fl bk lo c)=c) {one:Nat} {m:Nat} (st:Stops (hdF bk lo) (lfF (al n fl bk lo c) lo [one]) m) :
  itF (hdF bk lo) (lfF (al n fl bk lo c) lo [one]) m=al n fl bk lo (c.filter fun i=>decide (i≠one)):=by
 have mx:=bT hb ok hf hlo c
 have lg:=gC hb ok hf hlo c
 have ox:okG n (lfF (al n fl bk lo c) lo [one]):=pI mx.1.1 hlo.1 [one]
 have at1:∀ i < n,(lfF (al n fl bk lo c) lo [one]).getD i 0=if i∈[one] then lo.getD i 0 else (al n fl bk lo c).getD i 0:=fun i hi=>j6 (by rw[lg]; exact hi)
 have lx:LeG lo (lfF (al n fl bk lo c) lo [one]):=gJ hlo.1.1 ox.1 fun i hi=>by
  rw[at1 i hi]
  split
  ·exact N6 _
  ·exact mx.1.2.2.1 i
 refine tM hb ok hf hlo (yD hb ok hf hlo ox lx (fun i hi hn=>?_) (fun w hw=>?_) st)
 ·rw[at1 i hi]
  split
  ·rfl
  ·rename_i hne
   have:i ∉ c:=fun z=>hn (List.mem_filter.mpr ⟨z,decide_eq_true fun q=>hne (by rw[q]; exact List.mem_singleton.mpr rfl)⟩)
   exact mx.1.2.1 i hi this
 ·refine gJ hw.1.1 ox.1 fun i hi=>?_
  rw[at1 i hi]
  split
  ·rename_i he
   rw[hw.2.1 i hi (fun z=>by
    have:=(List.mem_filter.mp z).2
    rw[List.mem_singleton.mp he] at this
    simp at this)]
   exact N6 _
  ·exact (mx.2 w (hw.mono fun i _ z=>(List.mem_filter.mp z).1)) i
def Knot (n:Nat) (fl:List Int) (bk:List (List Pl)) (lo:List Int) (c:List Nat):Prop:=al n fl bk lo c≠lo/\∀ one∈c,al n fl bk lo (c.filter fun i=>decide (i≠one))=lo
theorem uJ (hb:bk.length=n) (ok:okB bk) (hf:okG n fl) (hlo:Low n fl bk lo) {c:List Nat} (hk:Knot n fl bk lo c) {i:Nat} (hi:i∈c):i∈ris n lo (al n fl bk lo c):=by
 refine Rf fun z=>hk.1 ?_
 rw[← zP hb ok hf hlo c]
 have le:LeG (al n fl bk lo (ris n lo (al n fl bk lo c))) lo:=by
  have h0:LeG (al n fl bk lo (ris n lo (al n fl bk lo c))) (al n fl bk lo (c.filter fun j=>decide (j≠i))):=rK hb ok hf hlo fun j hj hr=>List.mem_filter.mpr ⟨sY (bT hb ok hf hlo c).1 hr,decide_eq_true (p:=j≠i) fun q=>z (q▸hr)⟩
  rw[hk.2 i hi] at h0
  exact h0
 exact cg (by rw[gC hb ok hf hlo,hlo.1.1]) le (bT hb ok hf hlo _).1.2.2.1
end
theorem jC {p:Nat->Bool} (i:Nat):(Ms (i+1)).filter p=(Ms i).filter p++if p i=true then [i] else []:=by
 rw[Pg,Qi,Oz,List.filter_nil]
theorem fG (p:Nat->Bool):∀ n,(Ms n).filter p∈cQ n
 | 0=>List.mem_singleton.mpr rfl
 | n+1=>by
  rw[jC]
  have ih:=fG p n
  show _∈cQ n++(cQ n).map fun c=>c++[n]
  by_cases e:p n=true
  ·rw[if_pos e]
   exact List.mem_append.mpr (.inr (List.mem_map.mpr ⟨_,ih,rfl⟩))
  ·rw[if_neg e,Ro]
   exact List.mem_append.mpr (.inl ih)
theorem eN:∀ n,(cQ n).length=2 ^ n
 | 0=>rfl
 | n+1=>by
  show (cQ n++(cQ n).map fun c=>c++[n]).length=_
  rw[Mv,Mf,eN n,Nat.pow_succ]
  lia
theorem bC {α:Type} [DecidableEq α]:∀ {l m:List α},l.Nodup->(∀ a∈l,a∈m)->l.length<=m.length
 | [],_,_,_=>NP _
 | a::l,m,nd,h=>by
  have ha:=h a Ml
  obtain⟨na,nl⟩:=List.nodup_cons.mp nd
  have:=bC (m:=m.erase a) nl fun b hb=>(List.mem_erase_of_ne fun z=>na (by rw[← z]; exact hb)).mpr (h b (MF _ hb))
  rw[List.length_erase_of_mem ha] at this
  have:0 < m.length:=List.length_pos_of_mem ha
  rw[MK]
  lia
theorem fC {n:Nat} {c:List Nat} (hr:c.Pairwise (· < ·)) (hn:∀ i∈c,i < n):(Ms n).filter (fun i=>decide (i∈c))=c:=by
 have s1:((Ms n).filter fun i=>decide (i∈c)).Pairwise (· < ·):=List.pairwise_lt_range.filter _
 have m:∀ i,i∈(Ms n).filter (fun i=>decide (i∈c)) ↔ i∈c:=fun i=>by
  rw[QG,QZ]
  simp
  exact hn i
 generalize (Ms n).filter (fun i=>decide (i∈c))=d at *
 clear hn
 induction d generalizing c with
 | nil =>
  cases c with
  | nil=>rfl
  | cons x c=>exact absurd ((m x).mpr Ml) (by simp)
 | cons y d ih =>
  cases c with
  | nil=>exact absurd ((m y).mp Ml) (by simp)
  | cons x c =>
   rw[O3] at s1 hr
   have hxy:y=x:=by
    rcases List.mem_cons.mp ((m y).mp Ml) with h | h
    ·exact h
    ·rcases List.mem_cons.mp ((m x).mpr Ml) with h' | h'
     ·exact h'.symm
     ·have:=hr.1 y h
      have:=s1.1 x h'
      lia
   subst hxy
   refine congrArg _ (ih hr.2 s1.2 fun i=>⟨fun h=>?_,fun h=>?_⟩)
   ·rcases List.mem_cons.mp ((m i).mp (MF _ h)) with z | z
    ·have:=s1.1 i h
     lia
    ·exact z
   ·rcases List.mem_cons.mp ((m i).mpr (MF _ h)) with z | z
    ·have:=hr.1 i h
     lia
    ·exact z
section
variable {n:Nat} {fl lo:List Int} {bk:List (List Pl)}
theorem gY (g:List Int):(ris n lo g).Pairwise (· < ·):=List.pairwise_lt_range.filter _
theorem wg (hb:bk.length=n) (ok:okB bk) (hf:okG n fl) (hlo:Low n fl bk lo) {S:List (List Nat)} (cl:∀ c∈S,ris n lo (al n fl bk lo c)=c) {W:List Nat} (hW:W∈S) (top:∀ c:List Nat,∀ i∈ris n lo (al n fl bk lo c),i∈W)
  (step:∀ c∈S,c≠[]->∀ one∈c,ris n lo (al n fl bk lo (c.filter fun i=>decide (i≠one)))∈S) {k:List Nat} (hr:k.Pairwise (· < ·)) (hn:∀ i∈k,i < n) (hk:Knot n fl bk lo k):k∈S:=by
 have main:∀ (m:Nat) (c:List Nat),c.length<=m->c∈S->(∀ i∈k,i∈c)->k∈S:=by
  intro m
  induction m with
  | zero =>
   intro c hl hc hs
   have:c=[]:=List.length_eq_zero_iff.mp (by lia)
   subst this
   have:k=[]:=by
    cases k with
    | nil=>rfl
    | cons x _=>exact absurd (hs x Ml) (by simp)
   rw[this]
   exact hc
  | succ m ih =>
   intro c hl hc hs
   by_cases e:∀ i∈c,i∈k
   ·have hcr:c.Pairwise (· < ·):=by rw[← cl c hc]; exact gY _
    have hcn:∀ i∈c,i < n:=fun i hi=>by rw[← cl c hc] at hi; exact (dZ.mp hi).1
    have:k=c:=by
     rw[← fC hr hn,← fC hcr hcn]
     refine O9 fun i _=>decide_eq_decide.mpr ⟨fun h=>?_,fun h=>?_⟩
     ·exact hs i (by simpa using h)
     ·exact e i (by simpa using h)
    rw[this]
    exact hc
   ·have ⟨one,h1,h2⟩:∃ one,one∈c/\one ∉ k:=by
     refine Rf fun z=>e fun i hi=>Rf fun q=>z ⟨i,hi,q⟩
    have c0:c≠[]:=fun z=>by rw[z] at h1; cases h1
    have mem:=step c hc c0 one h1
    have sub:∀ i∈ris n lo (al n fl bk lo (c.filter fun i=>decide (i≠one))),i∈c.filter fun i=>decide (i≠one):=fun i hi=>sY (bT hb ok hf hlo _).1 hi
    have ndr:(ris n lo (al n fl bk lo (c.filter fun i=>decide (i≠one)))).Nodup:=(gY _).imp fun h=>Nb h
    have l1:=bC ndr sub
    have l2:(c.filter fun i=>decide (i≠one)).length < c.length:=by
     rw[Tw]
     exact⟨one,h1,by simp⟩
    refine ih _ (by lia) mem fun i hi=>?_
    have a:=uJ hb ok hf hlo hk hi
    obtain⟨a1,a2⟩:=dZ.mp a
    have b:=rK hb ok hf hlo (c:=k) (d:=c.filter fun i=>decide (i≠one)) (fun j _ hj=>List.mem_filter.mpr ⟨hs j hj,decide_eq_true fun q=>h2 (q▸hj)⟩) i
    exact dZ.mpr ⟨a1,by lia⟩
 refine main W.length W (Mt _) hW fun i hi=>top k i (uJ hb ok hf hlo hk hi)
end
abbrev oO:Stmt:=top 28
theorem xZ:aQ ["sure","giving"] ["sure","giving"] (aD oO):=⟨rfl,rfl,rfl,by decide+kernel,rfl,by decide+kernel,by decide+kernel⟩
def oK:Sp:=fun vs H Q _=>∃ (f g:Addr) (n:Nat) (lo x:List Int),vs=[.ref f,.ref g]/\n<=12/\H f=some (.tup (lo.map V.int))/\okG n lo/\H g=some (.tup (x.map V.int))/\okG n x ∧
 ∀ (r:Addr) (H':Hp),aP H H'->H' r=some (.tup ((ris n lo x).map vN))->Q (.ref r) H'
theorem yG (F:Fun K "risers" "risers" oO f fd) (B:Bt mg) :
  fu P w K mg base CX0 1 f fd ["sure","giving"] oK:=by
 refine F.ok xZ (fun vs H Q E h=>?_) (fun cdv A outer s H vs Q E hr h=>?_)
 ·obtain⟨f,g,n,lo,x,rfl,_⟩:=h
  rfl
 ·obtain⟨f,g,n,lo,y,rfl,b12,hf,ol,hg,oy,q⟩:=h
  refine⟨_,(aA (aO (dH (r:=jG K) cO rfl B.tuple_ dY (aa (bV (L:=["one","step"]) (F:=["sure"]) (cap:=[0]) rfl (bG rfl rfl (by kernel_rfl)) (uR rfl B.enumerate_ (aa (pv 1) ak)) (fun _ _ _ _ _=>(d8 (K:=K) 2 rfl rfl (aW (aH (i:=0) (aU (by decide+kernel)) rfl (MT rfl)) (aW (aH (i:=1) (aU (by decide+kernel)) rfl (MT rfl)) eF)))) (fun _ _ _ _ _=>(nC (aX Gw (pv 1) (bH (r:=oZ K) dz (pv 2) (pv 0) (fun _ _=>rfl)) (aZ _)))) (fun _ _ _ _ _=>(pv 0))) ak)))),?_⟩
  refine⟨_,rfl,g,_,rfl,SqT.of hg,fun D hD=>mK (K:=K) (a:=g) (xs:=y.map V.int) (fun i zs σ' H3=>(∃ u v,σ'=[u,v,some (.ref f)])/\aP H H3/\H3 D=some (.lst zs)/\zs=((Ms i).filter fun j=>decide (lo.getD j 0 < y.getD j 0)).map vN)
   ⟨⟨_,_,rfl⟩,au hD _,aj,rfl⟩ (fun i zs σ' H3 _ h=>⟨SqT.of (h.2.1 _ _ hg),h.2.2.1⟩) ?_ ?_⟩
  ·rintro i zs x p σ' H3 hx hp ⟨⟨u,v,rfl⟩,sm,eD,ez⟩
   obtain⟨y1,hy1,rfl⟩:=int_at hx
   have hin:=(List.getElem?_eq_some_iff.mp hy1).1
   generalize eH4:upd H3 p _=H4
   obtain⟨g4,e4⟩:=aR eH4 hp
   have s4:=sm.trans g4
   refine⟨p,_,rfl,SqT.of e4,rfl,_,_,rfl,_,_,rfl,rfl,?_⟩
   have hih:i < lo.length:=by rw[ol.1,← oy.1]; exact hin
   have gy:y.getD i 0=y1:=by rw[Mg,hy1]; rfl
   have gi:lo.getD i 0=lo[i]:=by rw[Mg,Mi hih]; rfl
   have lz:zs.length<=i:=by
    rw[ez,Mf]
    exact Ob (Oo _ _) (by rw[MN]; exact Mt _)
   have l12:i<=12:=by have:=oy.1; lia
   refine⟨_,rfl,_,rfl,_,rfl,f,_,_,_,rfl,rfl,SqT.of (s4 _ _ hf),wM hih,_,_,rfl,rfl,_,rfl,?_⟩
   by_cases c1:y1 > lo[i]
   ·rw[decide_eq_true c1]
    refine jN ⟨_,rfl,g4 _ _ eD,aK (by lia),⟨_,_,rfl⟩,aG s4 hD _,aj,?_⟩
    rw[jC,if_pos (by rw[gy,gi]; exact decide_eq_true c1),Mu,← ez]
    rfl
   ·rw[decide_eq_false c1]
    refine gF ⟨⟨_,_,rfl⟩,s4,g4 _ _ eD,?_⟩
    rw[jC,if_neg (by rw[gy,gi]; simp only[decide_eq_true_eq]; exact c1),Ro]
    exact ez
  ·rintro zs σ' H3 ⟨_,sm,eD,rfl⟩
   refine⟨D,_,rfl,.inl ⟨SqL.of eD,fun l hl'=>?_⟩⟩
   refine q l _ (sm.trans (au hl' _)) ?_
   rw[aj,Mf,oy.1]
   rfl
def kc (c:List Nat):List Key:=c.map fun i:Nat=>(Tc (i:Int):Key)
theorem Kh (c:List Nat):(kc c).map kV=c.map vN:=by
 unfold kc
 rw[Qe]
 rfl
theorem Jx {c d:List Nat} (h:kc c=kc d):c=d:=by
 unfold kc at h
 exact (Ui fun a b e=>by
  have:(a:Int)=(b:Int):=Sum.inl.inj e
  lia).mp h
def qM (n:Nat) (fl:List Int) (bk:List (List Pl)) (lo:List Int) (H:Hp) (kvs:List (List Key × V)):Prop :=
 (kvs.map (·.1)).Nodup/\∀ p∈kvs,∃ (c:List Nat) (a:Addr),c∈cQ n/\p.1=kc c/\p.2 = .ref a/\H a=some (.tup ((al n fl bk lo c).map V.int))
section
variable {n:Nat} {fl lo:List Int} {bk:List (List Pl)} {H H':Hp} {kvs:List (List Key × V)}
theorem qM.bJ (h:qM n fl bk lo H kvs) (e:∀ a xs,H a=some (HO.tup xs)->H' a=some (HO.tup xs)):qM n fl bk lo H' kvs :=
 ⟨h.1,fun p hp=>by
  obtain⟨c,a,h1,h2,h3,h4⟩:=h.2 p hp
  exact⟨c,a,h1,h2,h3,e _ _ h4⟩⟩
theorem qM.len (h:qM n fl bk lo H kvs):kvs.length<=2 ^ n:=by
 have:=bC (m:=(cQ n).map kc) h.1 fun k hk=>by
  obtain⟨p,hp,rfl⟩:=List.mem_map.mp hk
  obtain⟨c,a,h1,h2,_⟩:=h.2 p hp
  rw[h2]
  exact List.mem_map.mpr ⟨c,h1,rfl⟩
 rw[Mf,Mf,eN] at this
 exact this
theorem qM.get (h:qM n fl bk lo H kvs) {c:List Nat} {v:V} (e:ie kvs (kc c)=some v):∃ a,v = .ref a/\H a=some (.tup ((al n fl bk lo c).map V.int)):=by
 unfold ie at e
 obtain⟨p,hp,rfl⟩:=Option.map_eq_some_iff.mp e
 obtain⟨c',a,_,h2,h3,h4⟩:=h.2 p (List.mem_of_find?_eq_some hp)
 have k1:p.1=kc c:=by simpa using List.find?_some hp
 have:c'=c:=Jx (by rw[← h2,k1])
 subst this
 exact⟨a,h3,h4⟩
theorem qM.put (h:qM n fl bk lo H kvs) {c:List Nat} (hc:c∈cQ n) {a:Addr} (ha:H a=some (.tup ((al n fl bk lo c).map V.int))) (e:ie kvs (kc c)=none):qM n fl bk lo H (putK kvs (kc c) (.ref a)):=by
 rw[jU _ e]
 refine⟨?_,fun p hp=>?_⟩
 ·rw[Mu]
  show (_++[kc c]).Nodup
  refine List.nodup_append.mpr ⟨h.1,by simp,fun x hx y hy=>?_⟩
  rw[List.mem_singleton.mp hy]
  obtain⟨p,hp,rfl⟩:=List.mem_map.mp hx
  intro z
  unfold ie at e
  have:=List.find?_eq_none.mp (Option.map_eq_none_iff.mp e) p hp
  exact this (decide_eq_true z)
 ·rcases List.mem_append.mp hp with z | z
  ·exact h.2 p z
  ·rw[List.mem_singleton.mp z]
   exact⟨c,a,hc,rfl,rfl,ha⟩
end
theorem lQ {H:Hp} {D:Addr} {k:List (List Key × V)} {o:HO} (h:H D=some (.dT k)):∀ a xs,H a=some (HO.tup xs)->upd H D o a=some (HO.tup xs):=fun a xs q=>by
 rw[aL (fun z=>by rw[z,h] at q; cases q)]
 exact q
abbrev lF:Stmt:=top 29
theorem fK:aQ ["book","sure","giving","known","rows","one","start","crowd"] ["book","sure","giving","known"] (aD lF):=⟨rfl,rfl,rfl,by decide+kernel,rfl,by decide+kernel,by decide+kernel⟩
def wo (c:List Nat) (one:Nat):List Nat:=c.filter fun i=>decide (i≠one)
def u0:Sp:=fun vs H Q _=>∃ (b f g d:Addr) (n:Nat) (bk:List (List Pl)) (fl lo:List Int) (c:List Nat) (kvs:List (List Key × V)) (H0:Hp),vs=[.ref b,.ref f,.ref g,.ref d]/\n<=12/\aP H0 H/\H0 d=none/\mO n H0 b bk/\bk.length=n/\okG n fl/\H0 f=some (.tup (lo.map V.int))/\Low n fl bk lo ∧
 H g=some (.tup ((al n fl bk lo c).map V.int))/\ris n lo (al n fl bk lo c)=c/\H d=some (.dT kvs)/\qM n fl bk lo H kvs ∧
 ∀ (r:Addr) (us:List V) (kvs':List (List Key × V)) (H':Hp),aP H0 H'->(∀ a o,a≠d->H a=some o->H' a=some o)->H r=none->H' r=some (.lst us)->fD H' us (c.map fun one=>al n fl bk lo (wo c one))->H' d=some (.dT kvs')->qM n fl bk lo H' kvs'->Q (.ref r) H'
theorem vR {k:Nat} (F:Fun K "put_off" "put_off" lF f fd) (B:Bt mg)
  (D_risers:Df P w K mg base "risers" 1 ["sure","giving"] oK) (D_lifted:Df P w K mg base "lifted" 1 ["giving","high","crowd"] wX) (D_held:Df P w K mg base "held" (k+1) ["book","sure","giving"] zc) :
  fu P w K mg base CX0 (k+2) f fd ["book","sure","giving","known"] u0:=by
 refine F.ok fK (fun vs H Q E h=>?_) (fun cdv A outer s H vs Q E hr h=>?_)
 ·obtain⟨b,f,g,d,n,bk,fl,lo,c,kvs,H0,rfl,_⟩:=h
  rfl
 ·obtain⟨b,f,g,d,n,bk,fl,lo,c,kvs0,H0,rfl,n12,s0,d0,hB,lb,of,hf,low,hg,hcl,hd,kn,q⟩:=h
  refine⟨_,(aq (aM (i:=4) fK.nd rfl (MT rfl) (bO ak))
 (aq (dF Nz rfl (mQ (aY D_risers hr (aa (pv 1) (aa (pv 2) ak)))) (aH (i:=5) fK.nd rfl (MT rfl)) (aq (aM (i:=6) fK.nd rfl (MT rfl) (aY D_lifted hr (aa (pv 2) (aa (pv 1) (aa (bO (aa (pv 5) ak)) ak)))))
 (aq (aM (i:=7) fK.nd rfl (MT rfl) (aY D_risers hr (aa (pv 1) (aa (pv 6) ak))))
 (aq (cU (wZ (qi hr.o5 (pv 7) (pv 3))) (aA (xr hr.o5 (pv 3) (pv 7) (aY D_held hr (aa (pv 0) (aa (pv 1) (aa (pv 6) ak)))) rfl)) aV)
 (aA (dM (jt Np NZ NT bM (pv 4) (aa (GC hr.o5 (pv 3) (pv 7) (fun _ _=>rfl)) ak))))))))
 (aA (aO (pv 4))))),?_⟩
  have okb:=hB.okB
  have oc:okG n (al n fl bk lo c):=(bT lb okb of low c).1.1
  have p12:2 ^ n<=4096:=by
   have:2 ^ n<=2 ^ 12:=Nat.pow_le_pow_right (by decide) n12
   simpa using this
  have cn:∀ i∈c,i < n:=fun i hi=>by rw[← hcl] at hi; exact (dZ.mp hi).1
  have c12:c.length<=12:=by
   rw[← hcl]
   exact Ob (Oo _ _) (by rw[MN]; exact n12)
  refine⟨small (by show 0<=1000; decide),fun R hR=>?_⟩
  generalize eHa:upd H R _=Ha
  obtain⟨ga,ea⟩:=aR eHa hR
  have nRd:R≠d:=fun z=>by rw[z,hd] at hR; cases hR
  refine⟨_,rfl,_,rfl,f,g,n,lo,_,rfl,n12,(s0.trans ga) _ _ hf,low.1,ga _ _ hg,oc,fun ra H1 s1 era=>?_⟩
  rw[hcl] at era
  have sa1:=ga.trans s1
  have s01:=s0.trans sa1
  have R0:H0 R=none:=s0.free hR
  refine⟨ra,rfl,⟨_,SqT.of era⟩,rO (K:=K) (a:=ra) (xs:=c.map vN) (fun i σ Hx=>∃ (us:List V) (kvs:List (List Key × V)) (u5 u6 u7:Option V),σ=[some (.ref b),some (.ref f),some (.ref g),some (.ref d),some (.ref R),u5,u6,u7]/\aP H0 Hx/\(∀ a o,a≠d->a≠R->H1 a=some o->Hx a=some o)/\Hx R=some (.lst us)/\Hx d=some (.dT kvs)/\qM n fl bk lo Hx kvs/\fD Hx us ((c.take i).map fun one=>al n fl bk lo (wo c one)))
   ⟨[],kvs0,_,_,_,rfl,s01,fun a o _ _ e=>e,s1 _ _ ea,sa1 _ _ hd,kn.bJ fun a xs e=>sa1 _ _ e,by rw[Od]; exact .nil⟩ (fun i σ Hx _ h=>?_) ?_ ?_⟩
  ·obtain⟨_,_,_,_,_,_,_,kb,_⟩:=h
   exact SqT.of (kb _ _ (fun z=>by have:=sa1 _ _ hd; rw[← z,era] at this; cases this) (fun z=>by have:=s1 _ _ ea; rw[← z,era] at this; cases this) era)
  ·rintro i x σ Hx hx ⟨us,kvs,u5,u6,u7,rfl,sx,kb,eR,ed,kx,gx⟩
   obtain⟨one,hone,rfl⟩:=pP hx
   have onen:=cn one (MJ hone)
   refine gN ?_
   have gxH:Hx g=some (.tup ((al n fl bk lo c).map V.int)):=kb _ _ (fun z=>by rw[z,hd] at hg; cases hg) (fun z=>by rw[z,hR] at hg; cases hg) (sa1 _ _ hg)
   have lus:=gx.length
   rw[Mf,Nf] at lus
   have ox:=pI oc low.1 [one]
   refine aB (fun σ Hc=>∃ a4:Addr,σ=[some (.ref b),some (.ref f),some (.ref g),some (.ref d),some (.ref R),some (vN one),some (.ref a4),u7]/\aP Hx Hc/\Hc a4=some (.tup ((lfF (al n fl bk lo c) lo [one]).map V.int))) ?qs ?ts
   case ts =>
    intro N Rc
    refine⟨_,rfl,_,rfl,_,rfl,small (by show 1<=1000; decide),fun p3 h3=>?_⟩
    generalize eHb:upd Hx p3 _=Hb
    obtain⟨gb,eb⟩:=aR eHb h3
    exact⟨g,f,p3,_,lo,[one],rfl,gb _ _ gxH,(sx.trans gb) _ _ hf,eb,by rw[oc.1,low.1.1],by rw[oc.1]; lia,fun a4 Hc sc e4=>Rc _ _ ⟨a4,rfl,gb.trans sc,e4⟩⟩
   case qs =>
   rintro σ Hc ⟨a4,rfl,sxc,e4⟩
   refine aB (fun σ Hd=>∃ a5:Addr,σ=[some (.ref b),some (.ref f),some (.ref g),some (.ref d),some (.ref R),some (vN one),some (.ref a4),some (.ref a5)]/\aP Hc Hd/\Hd a5=some (.tup ((wo c one).map vN))) ?qc ?tc
   case tc =>
    intro N Rc
    refine⟨_,rfl,_,rfl,f,a4,n,lo,_,rfl,n12,(sx.trans sxc) _ _ hf,low.1,e4,ox,fun a5 Hd sd e5=>?_⟩
    rw[j9 oc.1 low.1.1,hcl] at e5
    exact Rc _ _ ⟨a5,rfl,sd,e5⟩
   case qc =>
   rintro σ Hd ⟨a5,rfl,sd,e5⟩
   have sxd:=sxc.trans sd
   have hcr:wo c one∈cQ n:=by
    have:=fG (fun i=>decide (lo.getD i 0 < (lfF (al n fl bk lo c) lo [one]).getD i 0)) n
    have e:ris n lo (lfF (al n fl bk lo c) lo [one])=wo c one:=by rw[j9 oc.1 low.1.1,hcl]; rfl
    rw[← e]
    exact this
   have e5k:Hd a5=some (.tup ((kc (wo c one)).map kV)):=by rw[Kh]; exact e5
   refine aB (fun σ He=>∃ (kvs:List (List Key × V)) (ao:Addr),σ=[some (.ref b),some (.ref f),some (.ref g),some (.ref d),some (.ref R),some (vN one),some (.ref a4),some (.ref a5)]/\aP H0 He/\(∀ a o,a≠d->Hd a=some o->He a=some o)/\He d=some (.dT kvs)/\qM n fl bk lo He kvs/\ie kvs (kc (wo c one))=some (.ref ao)/\He ao=some (.tup ((al n fl bk lo (wo c one)).map V.int))) ?q1 ?t1
   case t1 =>
    intro N Rc
    have edd:=sxd _ _ ed
    refine⟨_,rfl,_,rfl,d,ie kvs (kc (wo c one)),rfl,zZ.t edd e5k,_,rfl,?_⟩
    cases hv:ie kvs (kc (wo c one)) with
    | some v =>
     obtain⟨ao,rfl,eao⟩:=kx.get hv
     exact gF (Rc _ _ ⟨kvs,ao,rfl,sx.trans sxd,fun a o _ e=>e,edd,kx.bJ fun a xs e=>sxd _ _ e,hv,sxd _ _ eao⟩)
    | none =>
     refine jN ⟨_,rfl,_,rfl,_,rfl,b,f,a4,n,bk,lo,_,rfl,hB.mono (sx.trans sxd),lb,(sx.trans sxd) _ _ hf,low.1,sd _ _ e4,ox,?_,fun m r He st se er=>?_⟩
     ·refine gJ low.1.1 ox.1 fun j hj=>?_
      rw[j6 (by rw[oc.1]; exact hj)]
      split
      ·exact N6 _
      ·exact (bT lb okb of low c).1.2.2.1 j
     rw[rG lb okb of low hcl st] at er
     have ede:=se _ _ edd
     have kxe:=kx.bJ fun a xs e=>(sxd.trans se) _ _ e
     refine⟨_,rfl,_,rfl,d,_,rfl,Ht.t ede (se _ _ e5k) (QD kx.len (QD p12 (by decide))),?_⟩
     refine Rc _ _ ⟨_,r,rfl,aG ((sx.trans sxd).trans se) d0 _,fun a o na e=>by rw[aL na]; exact se _ _ e,aj,(kxe.put hcr er hv).bJ (lQ ede),by rw[Bu,if_pos rfl],lQ ede _ _ er⟩
   case q1 =>
   rintro σ He ⟨kvs',ao,rfl,s0e,kbe,ede,kne,hv,eao⟩
   have eRe:He R=some (.lst us):=kbe _ _ nRd (sxd _ _ eR)
   have e5e:He a5=some (.tup ((kc (wo c one)).map kV)):=kbe _ _ (fun z=>by have:=sxd _ _ ed; rw[← z,e5] at this; cases this) e5k
   refine⟨_,rfl,.inl ⟨rfl,_,SqL.of eRe⟩,_,rfl,_,rfl,d,_,rfl,hv▸zZ.t ede e5e,R,us,_,rfl,rfl,eRe,aK (by lia),?_⟩
   refine⟨us++[.ref ao],kvs',_,_,_,rfl,aG s0e R0 _,fun a o na nr e=>by rw[aL nr]; exact kbe _ _ na (sxd _ _ (kb _ _ na nr e)),aj,by rw[aL nRd.symm]; exact ede,kne.bJ (cZ eRe),?_⟩
   rw[Nt,hone,Mu]
   have gxe:fD He us ((c.take i).map fun one=>al n fl bk lo (wo c one)):=gx.bJ fun a xs e=>kbe _ _ (fun z=>by rw[z,ed] at e; cases e) (sxd _ _ e)
   exact (fD.snoc eao (by rw[gC lb okb of low]; lia) gxe).bJ (cZ eRe)
  ·rintro σ Hx ⟨us,kvs,u5,u6,u7,rfl,sx,kb,eR,ed,kx,gx⟩
   rw[Mf,M4] at gx
   exact⟨_,rfl,q R us kvs Hx sx (fun a o na e=>kb a o na (fun z=>by rw[z,hR] at e; cases e) (sa1 _ _ e)) hR eR gx ed kx⟩
def kg (g:List Int):List Key:=g.map fun i:Int=>(Tc i:Key)
theorem DY (g:List Int):(kg g).map kV=g.map V.int:=by
 unfold kg
 rw[Qe]
 rfl
theorem Dk {c d:List Int} (h:kg c=kg d):c=d:=by
 unfold kg at h
 exact (Ui fun a b e=>by
  have:a=b:=Sum.inl.inj e
  exact this).mp h
theorem fD.De {H:Hp}:∀ {us:List V} {gs:List (List Int)} {g:List Int},fD H us (gs++[g])->∃ (us':List V) (a:Addr),us=us'++[.ref a]/\fD H us' gs/\H a=some (.tup (g.map V.int))
 | _,[],_,.cons h l .nil=>⟨[],_,rfl,.nil,h⟩
 | _,x::gs,g,.cons h l r=>by
  obtain⟨us',a,e,r',ha⟩:=fD.De (gs:=gs) r
  exact⟨_::us',a,by rw[e]; rfl,.cons h l r',ha⟩
inductive LF (H0 H:Hp):List V->List (List Nat)->Prop where
 | nil:LF H0 H [] []
 | cons {a:Addr} {c:List Nat} {us:List V} {cs:List (List Nat)}:H a=some (.lst (c.map vN))->H0 a=none->LF H0 H us cs->LF H0 H (.ref a::us) (c::cs)
section
variable {n:Nat} {fl lo hi:List Int} {bk:List (List Pl)}
theorem m8 (hb:bk.length=n) (ok:okB bk) (hf:okG n fl) (hlo:Low n fl bk lo):al n fl bk lo []=lo:=by
 have m:=bT hb ok hf hlo []
 refine cg (by rw[gC hb ok hf hlo,hlo.1.1]) (gJ (gC hb ok hf hlo []) hlo.1.1 fun i hi=>?_) m.1.2.2.1
 rw[m.1.2.1 i hi (by simp)]
 exact N6 _
theorem CN (hb:bk.length=n) (ok:okB bk) (hf:okG n fl) (hlo:Low n fl bk lo) (oh:okG n hi) (fx:cM hi fl bk=hi) (hup:∀ g,LeG g (cM g fl bk)->LeG g hi) (lh:LeG lo hi):al n fl bk lo (ris n lo hi)=hi:=by
 have e:al n fl bk lo (Ms n)=hi:=by
  refine (tM hb ok hf hlo ⟨⟨oh,fun i h1 h2=>absurd (List.mem_range.mpr h1) h2,lh,?_⟩,fun w hw=>hup w hw.2.2.2⟩).symm
  rw[fx]
  exact bI _
 have:=zP hb ok hf hlo (Ms n)
 rw[e] at this
 exact this
theorem Gs (hb:bk.length=n) (ok:okB bk) (hf:okG n fl) (hlo:Low n fl bk lo) (hup:∀ g,LeG g (cM g fl bk)->LeG g hi) (c:List Nat) {i:Nat} (h:i∈ris n lo (al n fl bk lo c)):i∈ris n lo hi:=by
 obtain⟨h1,h2⟩:=dZ.mp h
 have:=hup _ (bT hb ok hf hlo c).1.2.2.2 i
 exact dZ.mpr ⟨h1,by lia⟩
structure zr (n:Nat) (fl:List Int) (bk:List (List Pl)) (lo hi:List Int) (S A F:List (List Nat)):Prop where
 cl:∀ c∈S,ris n lo (al n fl bk lo c)=c
 nd:S.Nodup
 e0:[]∈S
 tp:ris n lo hi∈S
 aS:∀ c∈A,c∈S/\c≠[]
 aN:A.Nodup
 st:∀ c∈S,c ∉ A->c≠[]->∀ one∈c,ris n lo (al n fl bk lo (wo c one))∈S
 fN:F.Nodup
 fI:∀ c,c∈F ↔ c∈S/\c ∉ A/\c≠[]/\Knot n fl bk lo c
theorem zr.len {S A F:List (List Nat)} (h:zr n fl bk lo hi S A F):S.length<=2 ^ n:=by
 have:=bC (m:=cQ n) h.nd fun c hc=>by
  rw[← h.cl c hc]
  exact fG _ n
 rw[eN] at this
 exact this
theorem zr.done {S F:List (List Nat)} (hb:bk.length=n) (ok:okB bk) (hf:okG n fl) (hlo:Low n fl bk lo) (hup:∀ g,LeG g (cM g fl bk)->LeG g hi) (h:zr n fl bk lo hi S [] F) (c:List Nat):c∈F ↔ c.Pairwise (· < ·)/\(∀ i∈c,i < n)/\Knot n fl bk lo c:=by
 rw[h.fI]
 refine⟨fun⟨h1,_,_,h4⟩=>?_,fun⟨h1,h2,h3⟩=>?_⟩
 ·refine⟨?_,fun i hi'=>?_,h4⟩
  ·rw[← h.cl c h1]
   exact gY _
  ·rw[← h.cl c h1] at hi'
   exact (dZ.mp hi').1
 ·refine⟨wg hb ok hf hlo h.cl h.tp (fun c i hi'=>Gs hb ok hf hlo hup c hi') (fun c hc c0 one ho=>h.st c hc (by simp) c0 one ho) h1 h2 h3,by simp,fun z=>?_,h3⟩
  rw[z] at h3
  exact h3.1 (m8 hb ok hf hlo)
theorem zr.turn {S A F:List (List Nat)} {c:List Nat} {N:List (List Nat)} (hb:bk.length=n) (ok:okB bk) (hf:okG n fl) (hlo:Low n fl bk lo) (h:zr n fl bk lo hi S (A++[c]) F) (n1:N.Nodup) (n2:∀ d∈N,d ∉ S/\ris n lo (al n fl bk lo d)=d)
  (all:∀ one∈c,ris n lo (al n fl bk lo (wo c one))∈S++N) {F':List (List Nat)} (hF:F'=if (∀ one∈c,al n fl bk lo (wo c one)=lo) then F++[c] else F):zr n fl bk lo hi (S++N) (A++N) F':=by
 obtain⟨cS,c0⟩:=h.aS c (List.mem_append.mpr (.inr (List.mem_singleton.mpr rfl)))
 have cA:c ∉ A:=fun z=>(List.nodup_append.mp h.aN).2.2 c z c (List.mem_singleton.mpr rfl) rfl
 have cN:c ∉ N:=fun z=>(n2 c z).1 cS
 have alc:al n fl bk lo c≠lo:=fun z=>c0 (by rw[← h.cl c cS,z,Dy])
 have kn:Knot n fl bk lo c ↔ ∀ one∈c,al n fl bk lo (wo c one)=lo:=⟨fun k=>k.2,fun k=>⟨alc,k⟩⟩
 have cF:c ∉ F:=fun z=>((h.fI c).mp z).2.1 (List.mem_append.mpr (.inr (List.mem_singleton.mpr rfl)))
 have nn0:∀ d∈N,d≠[]:=fun d hd z=>(n2 d hd).1 (by rw[z]; exact h.e0)
 refine⟨fun d hd=>?_,?_,List.mem_append.mpr (.inl h.e0),List.mem_append.mpr (.inl h.tp),fun d hd=>?_,?_,fun d hd hA d0 one ho=>?_,?_,fun d=>?_⟩
 ·rcases List.mem_append.mp hd with z | z
  ·exact h.cl d z
  ·exact (n2 d z).2
 ·exact List.nodup_append.mpr ⟨h.nd,n1,fun a ha b hb' e=>(n2 b hb').1 (e▸ha)⟩
 ·rcases List.mem_append.mp hd with z | z
  ·obtain⟨a,b⟩:=h.aS d (List.mem_append.mpr (.inl z))
   exact⟨List.mem_append.mpr (.inl a),b⟩
  ·exact⟨List.mem_append.mpr (.inr z),nn0 d z⟩
 ·exact List.nodup_append.mpr ⟨(List.nodup_append.mp h.aN).1,n1,fun a ha b hb' e=>(n2 b hb').1 (e▸(h.aS a (List.mem_append.mpr (.inl ha))).1)⟩
 ·have hdN:d ∉ N:=fun z=>hA (List.mem_append.mpr (.inr z))
  have hdA:d ∉ A:=fun z=>hA (List.mem_append.mpr (.inl z))
  have hdS:d∈S:=by
   rcases List.mem_append.mp hd with z | z
   ·exact z
   ·exact absurd z hdN
  by_cases e:d=c
  ·subst e
   exact all one ho
  ·refine List.mem_append.mpr (.inl (h.st d hdS (fun z=>?_) d0 one ho))
   rcases List.mem_append.mp z with z | z
   ·exact hdA z
   ·exact e (List.mem_singleton.mp z)
 ·rw[hF]
  split
  ·exact List.nodup_append.mpr ⟨h.fN,by simp,fun a ha b hb' e=>cF (by rw[← List.mem_singleton.mp hb',← e]; exact ha)⟩
  ·exact h.fN
 ·have old:d≠c->(d∈F ↔ d∈S++N/\d ∉ A++N/\d≠[]/\Knot n fl bk lo d):=fun ne=>by
   rw[h.fI d]
   refine⟨fun⟨a1,a2,a3,a4⟩=>⟨List.mem_append.mpr (.inl a1),fun z=>?_,a3,a4⟩,fun⟨a1,a2,a3,a4⟩=>⟨?_,fun z=>?_,a3,a4⟩⟩
   ·rcases List.mem_append.mp z with z | z
    ·exact a2 (List.mem_append.mpr (.inl z))
    ·exact (n2 d z).1 a1
   ·rcases List.mem_append.mp a1 with z | z
    ·exact z
    ·exact absurd (List.mem_append.mpr (.inr z)) a2
   ·rcases List.mem_append.mp z with z | z
    ·exact a2 (List.mem_append.mpr (.inl z))
    ·exact ne (List.mem_singleton.mp z)
  rw[hF]
  by_cases k:∀ one∈c,al n fl bk lo (wo c one)=lo
  ·rw[if_pos k,Qj,Uh]
   by_cases e:d=c
   ·subst e
    exact⟨fun _=>⟨List.mem_append.mpr (.inl cS),fun z=>by
     rcases List.mem_append.mp z with z | z
     ·exact cA z
     ·exact cN z,c0,kn.mpr k⟩,fun _=>.inr rfl⟩
   ·rw[← old e]
    exact⟨fun z=>z.resolve_right e,fun z=>.inl z⟩
  ·rw[if_neg k]
   by_cases e:d=c
   ·subst e
    exact⟨fun z=>absurd z cF,fun z=>absurd (kn.mp z.2.2.2) k⟩
   ·exact old e
end
theorem LF.keep {H0 H H':Hp} (k:∀ (a:Addr) (c:List Nat),H0 a=none->H a=some (HO.lst (c.map vN))->H' a=some (HO.lst (c.map vN))):∀ {us:List V} {cs:List (List Nat)},LF H0 H us cs->LF H0 H' us cs
 | _,_,.nil=>.nil
 | _,_,.cons h1 h2 r=>.cons (k _ _ h2 h1) h2 (LF.keep k r)
theorem LF.snoc {H0 H:Hp} {a:Addr} {c:List Nat} (h1:H a=some (.lst (c.map vN))) (h2:H0 a=none):∀ {us:List V} {cs:List (List Nat)},LF H0 H us cs->LF H0 H (us++[.ref a]) (cs++[c])
 | _,_,.nil=>.cons h1 h2 .nil
 | _,_,.cons k1 k2 r=>.cons k1 k2 (LF.snoc h1 h2 r)
theorem LF.length {H0 H:Hp}:∀ {us:List V} {cs:List (List Nat)},LF H0 H us cs->us.length=cs.length
 | _,_,.nil=>rfl
 | _,_,.cons _ _ r=>by rw[MK,MK,LF.length r]
theorem LF.pairs {H0 H:Hp}:∀ {us:List V} {cs:List (List Nat)},LF H0 H us cs->∃ ps:List (Addr × List Int),us=ps.map (fun p=>V.ref p.1)/\ps.map (·.2)=cs.map iN/\∀ p∈ps,∃ c∈cs,p.2=iN c/\H p.1=some (.lst (c.map vN))/\H0 p.1=none
 | _,_,.nil=>⟨[],rfl,rfl,fun p hp=>by cases hp⟩
 | _,_,.cons (a:=a) (c:=c) h1 h2 r=>by
  obtain⟨ps,e1,e2,e3⟩:=LF.pairs r
  refine⟨(a,iN c)::ps,by rw[e1]; rfl,by rw[Ni,Ni,e2],fun p hp=>?_⟩
  rcases List.mem_cons.mp hp with z | z
  ·subst z
   exact⟨c,Ml,rfl,h1,h2⟩
  ·obtain⟨c',h3,h4⟩:=e3 p z
   exact⟨c',MF _ h3,h4⟩
theorem eZ (c:List Nat):(iN c).map S8=c:=by
 unfold iN
 rw[Qe]
 exact (R9 fun a _=>PN a).trans (List.map_id c)
theorem LF.ordered {H0 H:Hp} {cs:List (List Nat)} {ps:List (Addr × List Int)} (h:∀ p∈ps,∃ c∈cs,p.2=iN c/\H p.1=some (.lst (c.map vN))/\H0 p.1=none):∀ {qs:List (Addr × List Int)},(∀ p∈qs,p∈ps)->LF H0 H (qs.map fun p=>V.ref p.1) (qs.map fun p=>p.2.map S8)
 | [],_=>.nil
 | q::qs,k=>by
  obtain⟨c,_,h2,h3,h4⟩:=h q (k q Ml)
  refine .cons ?_ h4 (LF.ordered h fun p hp=>k p (MF _ hp))
  show H q.1=some (.lst ((q.2.map S8).map vN))
  rw[h2,eZ]
  exact h3
abbrev tK:Stmt:=top 30
theorem du:aQ ["book","floor","sure","whole","found","known","seen","ahead","giving","rows","row"] ["book","floor"] (aD tK):=⟨rfl,rfl,rfl,by decide+kernel,rfl,by decide+kernel,by decide+kernel⟩
def bx (n:Nat) (fl:List Int) (bk:List (List Pl)) (ks:List (List Nat)):Prop :=
 (∀ lo,Low n fl bk lo->∀ c,c∈ks ↔ c.Pairwise (· < ·)/\(∀ i∈c,i < n)/\Knot n fl bk lo c)/\ks.Pairwise fun c d=>HT.lexLt (iN c) (iN d)=true
def JR (n:Nat) (fl:List Int) (bk:List (List Pl)):Prop:=∀ lo,Low n fl bk lo->∀ F:List (List Nat),F.Nodup->(∀ c∈F,c.Pairwise (· < ·)/\(∀ i∈c,i < n)/\Knot n fl bk lo c)->F.length < 64
def qT:Sp:=fun vs H Q _=>∃ (b f:Addr) (n:Nat) (bk:List (List Pl)) (fl:List Int),vs=[.ref b,.ref f]/\n<=12/\JR n fl bk/\mO n H b bk/\bk.length=n/\H f=some (.tup (fl.map V.int))/\okG n fl ∧
 ∀ (r:Addr) (us:List V) (ks:List (List Nat)) (H':Hp),aP H H'->H r=none->H' r=some (.lst us)->LF H H' us ks->(∀ a,V.ref a∈us->a≠r)->bx n fl bk ks->Q (.ref r) H'
def KW (n:Nat) (fl:List Int) (bk:List (List Pl)) (lo hi:List Int) (b f su wh fo kn se ah:Addr) (H0 Hi:Hp) (m:Nat) (σ:St) (Hx:Hp):Prop :=
 ∃ (S A F:List (List Nat)) (kvs svs:List (List Key × V)) (ua uf:List V),(∃ u8 u9 u10,σ=[some (.ref b),some (.ref f),some (.ref su),some (.ref wh),some (.ref fo),some (.ref kn),some (.ref se),some (.ref ah),u8,u9,u10])/\m+2 * S.length=2 * 2 ^ n+A.length ∧
 aP H0 Hx/\(∀ a o,Hi a=some o->∃ o',Hx a=some o')/\zr n fl bk lo hi S A F/\Hx kn=some (.dT kvs)/\qM n fl bk lo Hx kvs/\Hx se=some (.dT svs)/\svs.map (·.1)=S.map (fun c=>kg (al n fl bk lo c))/\Hx ah=some (.lst ua)/\fD Hx ua (A.map fun c=>al n fl bk lo c)/\Hx fo=some (.lst uf)/\LF Hi Hx uf F
theorem Bo {k:Nat} (hk1:1<=k) (F:Fun K "knots" "knots" tK f fd) (B:Bt mg)
  (D_least:Df P w K mg base "least" (k+1) ["book","floor"] (pA Hs)) (D_greatest:Df P w K mg base "greatest" (k+1) ["book","floor"] (pA rfF)) (D_put_off:Df P w K mg base "put_off" k ["book","sure","giving","known"] u0) (D_risers:Df P w K mg base "risers" 1 ["sure","giving"] oK) :
  fu P w K mg base CX0 (k+2) f fd ["book","floor"] qT:=by
 refine F.ok du (fun vs H Q E h=>?_) (fun cdv A outer s H vs Q E hr h=>?_)
 ·obtain⟨b,f,n,bk,fl,rfl,_⟩:=h
  rfl
 ·obtain⟨b,f,n,bk,fl,rfl,n6,few,hB,lb,hf,of,q⟩:=h
  refine⟨_,(aq (aM (i:=2) du.nd rfl (Td rfl) (aY D_least hr (aa (pv 0) (aa (pv 1) ak))))
 (aq (aM (i:=3) du.nd rfl (MT rfl) (aY D_greatest hr (aa (pv 0) (aa (pv 1) ak))))
 (aq (cU (aX (r:=FP K) (zB hr.kJ) (pv 3) (pv 2) (aZ _)) (aA (aO (bO ak))) aV)
 (aq (aM (i:=4) du.nd rfl (MT rfl) (bO ak))
 (aq (aM (i:=5) du.nd rfl (MT rfl) Ah)
 (aq (aM (i:=6) du.nd rfl (MT rfl) (Af hr.kJ (uX (pv 2) iH (uX (pv 3) iH Ej)) rfl rfl (by simp) (by decide)))
 (aq (aM (i:=7) du.nd rfl (MT rfl) (bO (aa (pv 3) ak)))
 (aq (jR Nz (aX Gw (aJ (r:=pQ K) bw rfl B.len_ dX (aa (pv 7) ak)) aF (aZ _)) (aq (aM (i:=8) du.nd rfl (MT rfl) (Jy Np PySem.F.slot_list_pop PySem.F.type_list_pop Ja (pv 7)))
 (aq (aM (i:=9) du.nd rfl (MT rfl) (aY D_put_off hr (aa (pv 0) (aa (pv 2) (aa (pv 8) (aa (pv 5) ak))))))
 (aq (cU (gB (aJ (r:=FT K) (pZ rfl) rfl B.all_ Dw (aa (bV (L:=["row"]) (F:=["sure"]) (cap:=[2]) rfl (bG rfl rfl (by kernel_rfl)) (cB (pv 9)) (fun _ _ _ _ _=>(aH (i:=0) (aU (by decide+kernel)) rfl (MT rfl))) (fun _ _ _ _ _=>bW) (fun _ _ _ _ _=>(fX (r:=FP K) (zB hr.kJ) (pv 0) (pv 1) (aZ _)))) ak))) (aA (dM (jt Np NZ NT bM (pv 4) (aa (dH (r:=yl K) vL rfl B.list_ rB (aa (aY D_risers hr (aa (pv 2) (aa (pv 8) ak))) ak)) ak)))) aV)
 (aA (dF Nz rfl (cB (pv 9)) (aH (i:=10) du.nd rfl (MT rfl)) (aA (cU (wZ (qi hr.o5 (pv 10) (pv 6))) (aq (xr hr.o5 (pv 6) (pv 10) iH rfl)
 (aA (dM (jt Np NZ NT bM (pv 7) (aa (pv 10) ak))))) aV))))))))
 (aA (aO (aJ (r:=zb K) (qO hr) rfl B.sorted_ (by decide+kernel) (aa (pv 4) ak)))))))))))),?_⟩
  have okb:=hB.okB
  have p6:2 ^ n<=4096:=by
   have:2 ^ n<=2 ^ 12:=Nat.pow_le_pow_right (by decide) n6
   simpa using this
  refine aB (fun σ H1=>∃ (su:Addr) (lo:List Int),σ=[some (.ref b),some (.ref f),some (.ref su),none,none,none,none,none,none,none,none]/\aP H H1/\H1 su=some (.tup (lo.map V.int))/\Low n fl bk lo) ?q1 ?t1
  case t1 =>
   intro N Rc
   exact⟨_,rfl,_,rfl,b,f,n,bk,fl,rfl,hB,lb,hf,of,fun m1 a1 H1 _ st1 s1 e1=>Rc _ _ ⟨a1,_,rfl,s1,e1,eU lb okb of st1⟩⟩
  case q1 =>
  rintro σ H1 ⟨su,lo,rfl,s1,esu,low⟩
  refine aB (fun σ H2=>∃ (wh:Addr) (hi:List Int),σ=[some (.ref b),some (.ref f),some (.ref su),some (.ref wh),none,none,none,none,none,none,none]/\aP H1 H2/\H2 wh=some (.tup (hi.map V.int))/\okG n hi/\cM hi fl bk=hi/\∀ g,LeG g (cM g fl bk)->LeG g hi) ?q2 ?t2
  case t2 =>
   intro N Rc
   refine⟨_,rfl,_,rfl,b,f,n,bk,fl,rfl,hB.mono s1,lb,s1 _ _ hf,of,fun m2 a2 H2 _ st2 s2 e2=>Rc _ _ ⟨a2,_,rfl,s2,e2,dR lb okb of (gZ lb okb of) m2,st2.1,fun g h=>jq lb okb of h m2⟩⟩
  case q2 =>
  rintro σ H2 ⟨wh,hi,rfl,s2,ewh,oh,fx,hup⟩
  have s12:=s1.trans s2
  have lh:LeG lo hi:=low.2.2 hi (by rw[fx]; exact bI _)
  refine aB (fun σ H3=>σ=[some (.ref b),some (.ref f),some (.ref su),some (.ref wh),none,none,none,none,none,none,none]/\H3=H2/\hi≠lo) ?q3 ?t3
  case t3 =>
   intro N Rc
   refine⟨_,rfl,_,rfl,wh,su,hi,lo,rfl,rfl,SqT.of ewh,SqT.of (s2 _ _ esu),_,rfl,?_⟩
   by_cases e:hi=lo
   ·rw[decide_eq_true e]
    refine jN ⟨small (by show 0<=1000; decide),fun p hp=>?_⟩
    refine q p [] [] _ (s12.trans (au hp _)) (s12.free hp) aj .nil (fun a h=>by cases h) ⟨fun lo' hlo' c=>⟨fun z=>(by cases z),fun z=>absurd ?_ z.2.2.1⟩,.nil⟩
    have:lo'=lo:=hlo'.uniq low
    subst this
    have m:=bT lb okb of low c
    refine cg (by rw[gC lb okb of low,low.1.1]) ?_ m.1.2.2.1
    have:=hup _ m.1.2.2.2
    rw[e] at this
    exact this
   ·rw[decide_eq_false e]
    exact gF (Rc _ _ ⟨rfl,rfl,e⟩)
  case q3 =>
  rintro σ H3 ⟨rfl,rfl,hne⟩
  refine aB (fun σ H4=>∃ fo:Addr,σ=[some (.ref b),some (.ref f),some (.ref su),some (.ref wh),some (.ref fo),none,none,none,none,none,none]/\aP H3 H4/\H3 fo=none/\H4 fo=some (.lst [])) ?q4 ?t4
  case t4 =>
   intro N Rc
   exact⟨small (by show 0<=1000; decide),fun p hp=>Rc _ _ ⟨p,rfl,au hp _,hp,aj⟩⟩
  case q4 =>
  rintro σ H4 ⟨fo,rfl,s4,ffo,efo⟩
  refine aB (fun σ H5=>∃ kn:Addr,σ=[some (.ref b),some (.ref f),some (.ref su),some (.ref wh),some (.ref fo),some (.ref kn),none,none,none,none,none]/\aP H4 H5/\H4 kn=none/\H5 kn=some (.dT [])) ?q5 ?t5
  case t5 =>
   intro N Rc
   exact fun p hp=>Rc _ _ ⟨p,rfl,au hp _,hp,aj⟩
  case q5 =>
  rintro σ H5 ⟨kn,rfl,s5,fkn,ekn⟩
  have s35:=s4.trans s5
  refine aB (fun σ H6=>∃ (se:Addr) (svs:List (List Key × V)),σ=[some (.ref b),some (.ref f),some (.ref su),some (.ref wh),some (.ref fo),some (.ref kn),some (.ref se),none,none,none,none]/\aP H5 H6/\H5 se=none/\H6 se=some (.dT svs)/\svs.map (·.1)=[kg lo,kg hi]) ?q6 ?t6
  case t6 =>
   intro N Rc p hp
   have nk:kg lo≠kg hi:=fun z=>hne (Dk z).symm
   have e1:putK ([]:List (List Key × V)) (kg lo) (.bl true)=[(kg lo,.bl true)]:=jU _ Ar
   have e2:putK ([(kg lo,.bl true)]:List (List Key × V)) (kg hi) (.bl true)=[(kg lo,.bl true),(kg hi,.bl true)]:=jU _ (cL nk)
   refine⟨_,rfl,_,rfl,[],kg lo,su,aj,rfl,?_,Hu (by show 0<=10000; decide),_,kg hi,wh,aj,rfl,?_,Hu (by rw[e1]; show 1<=10000; decide),Rc _ _ ⟨p,_,rfl,aG (aG (au hp _) hp _) hp _,hp,aj,by rw[e1,e2]; rfl⟩⟩
   ·rw[DY]
    exact au hp _ _ _ (s35 _ _ (s2 _ _ esu))
   ·rw[DY]
    exact aG (au hp _) hp _ _ _ (s35 _ _ ewh)
  case q6 =>
  rintro σ H6 ⟨se,svs0,rfl,s6,fse,ese,esv⟩
  refine aB (fun σ H7=>∃ ah:Addr,σ=[some (.ref b),some (.ref f),some (.ref su),some (.ref wh),some (.ref fo),some (.ref kn),some (.ref se),some (.ref ah),none,none,none]/\aP H6 H7/\H6 ah=none/\H7 ah=some (.lst [.ref wh])) ?q7 ?t7
  case t7 =>
   intro N Rc
   exact⟨_,rfl,small (by show 1<=1000; decide),fun p hp=>Rc _ _ ⟨p,rfl,au hp _,hp,aj⟩⟩
  case q7 =>
  rintro σ Hi ⟨ah,rfl,s7,fah,eah⟩
  have s3i:=s35.trans (s6.trans s7)
  have kn3:H3 kn=none:=s4.free fkn
  have se3:H3 se=none:=s35.free fse
  have ah3:H3 ah=none:=(s35.trans s6).free fah
  have efoi:=(s5.trans (s6.trans s7)) _ _ efo
  have ekni:=(s6.trans s7) _ _ ekn
  have esei:=s7 _ _ ese
  have nfa:fo≠ah:=fun z=>by rw[← z,(s5.trans s6) _ _ efo] at fah; cases fah
  have alt:=CN lb okb of low oh fx hup lh
  have rtop:ris n lo hi≠[]:=fun z=>hne (by
   rw[← alt] at z
   have:=Ei lb okb of low z
   rw[alt] at this
   exact this)
  have hBi:=hB.mono s12
  refine aB (fun σ Hx=>∃ (S F:List (List Nat)) (uf:List V),(∃ u8 u9 u10,σ=[some (.ref b),some (.ref f),some (.ref su),some (.ref wh),some (.ref fo),some (.ref kn),some (.ref se),some (.ref ah),u8,u9,u10])/\aP H3 Hx/\zr n fl bk lo hi S [] F/\Hx fo=some (.lst uf)/\LF Hi Hx uf F) ?qR ?tW
  case qR =>
   rintro σ Hx ⟨S,Fs,uf,⟨u8,u9,u10,rfl⟩,sx,sr,efx,lf⟩
   obtain⟨ps,e1,e2,e3⟩:=lf.pairs
   subst e1
   have fl63:Fs.length < 64:=few lo low Fs sr.fN fun c hc=>(sr.done lb okb of low hup c).mp hc
   have lps:ps.length=Fs.length:=by
    have:=congrArg Rx e2
    rw[Mf,Mf] at this
    exact this
   have ndp:(ps.map (·.2)).Nodup:=by
    rw[e2]
    exact List.Pairwise.map _ (fun a b ne e=>ne (by rw[← eZ a,← eZ b,e])) sr.fN
   refine⟨_,rfl,fo,ps,rfl,SqL.of efx,by lia,fun p hp=>?_,ndp,fun qs pq pw l hl=>?_⟩
   ·obtain⟨c,_,h2,h3,_⟩:=e3 p hp
    exact SqL.of (h3.trans (by rw[h2,fj]; rfl))
   ·have inp:∀ p∈qs,p∈ps:=fun p hp=>pq.mem_iff.mp hp
    have sn:=au hl (.lst (qs.map fun p=>V.ref p.1))
    have lo':=LF.ordered (qs:=qs) e3 inp
    have lo2:LF H (upd Hx l (.lst (qs.map fun p=>V.ref p.1))) (qs.map fun p=>V.ref p.1) (qs.map fun p=>p.2.map S8):=by
     have:∀ {us cs},LF Hi Hx us cs->LF H (upd Hx l (.lst (qs.map fun p=>V.ref p.1))) us cs:=by
      intro us cs z
      induction z with
      | nil=>exact .nil
      | cons h1 h2 _ ih=>exact .cons (sn _ _ h1) ((s12.trans s3i).free h2) ih
     exact this lo'
    have memF:∀ c,c∈(qs.map fun p=>p.2.map S8) ↔ c∈Fs:=fun c=>by
     have e4:ps.map (fun p=>p.2.map S8)=Fs:=by
      have:=congrArg (List.map (List.map S8)) e2
      rw[Qe,Qe] at this
      exact this.trans ((R9 fun a _=>eZ a).trans (List.map_id Fs))
     rw[← e4]
     exact (pq.map _).mem_iff
    refine q l _ _ _ ((s12.trans sx).trans sn) ((s12.trans sx).free hl) aj lo2 (fun a ha=>?_) ⟨fun lo2 hlo2 c=>?_,?_⟩
    ·obtain⟨p,hp,e⟩:=List.mem_map.mp ha
     obtain⟨c,_,_,h3,_⟩:=e3 p (inp p hp)
     intro z
     cases e
     rw[z,hl] at h3
     cases h3
    ·have:lo2=lo:=hlo2.uniq low
     subst this
     rw[memF]
     exact sr.done lb okb of low hup c
    ·rw[Ur]
     refine pw.imp_of_mem fun {a b} ha hb h=>?_
     obtain⟨c,_,h2,_⟩:=e3 a (inp a ha)
     obtain⟨d,_,h3,_⟩:=e3 b (inp b hb)
     rw[h2,h3,eZ,eZ,← h2,← h3]
     exact h
  case tW =>
   intro N Rc
   have sr0:zr n fl bk lo hi [[],ris n lo hi] [ris n lo hi] []:=by
    refine⟨fun c hc=>?_,?_,by simp,by simp,fun c hc=>?_,by simp,fun c hc hA c0=>?_,.nil,fun c=>⟨fun z=>(by cases z),fun z=>?_⟩⟩
    ·rcases List.mem_cons.mp hc with z | z
     ·rw[z,m8 lb okb of low,Dy]
     ·rw[List.mem_singleton.mp z,alt]
    ·refine List.nodup_cons.mpr ⟨fun z=>rtop (List.mem_singleton.mp z).symm,by simp⟩
    ·rw[List.mem_singleton.mp hc]
     exact⟨by simp,rtop⟩
    ·rcases List.mem_cons.mp hc with z | z
     ·exact absurd z c0
     ·exact absurd z hA
    ·rcases List.mem_cons.mp z.1 with y | y
     ·exact absurd y z.2.2.1
     ·exact absurd y z.2.1
   refine⟨KW n fl bk lo hi b f su wh fo kn se ah H3 Hi,⟨2 * 2 ^ n+1 - 4,[[],ris n lo hi],[ris n lo hi],[],[],svs0,[.ref wh],[],⟨_,_,_,rfl⟩,?_,s3i,fun a o e=>⟨o,e⟩,sr0,ekni,⟨.nil,fun p hp=>by cases hp⟩,esei,?_,eah,?_,efoi,.nil⟩,?_⟩
   ·have:=sr0.len
    show _+2 * 2=2 * 2 ^ n+1
    have h2:([[],ris n lo hi]:List (List Nat)).length=2:=rfl
    lia
   ·rw[esv,Ni,Ni,RD,m8 lb okb of low,alt]
   ·rw[Ni,RD,alt]
    exact .cons (s3i _ _ ewh) (by rw[oh.1]; lia) .nil
   rintro m σ Hx ⟨S,Ap,Fs,kvs,svs,ua,uf,⟨u8,u9,u10,rfl⟩,hm,sx,kept,sr,ekx,kno,esx,esk,eax,gax,efx,lf⟩
   refine⟨_,rfl,ah,_,rfl,.inl (SqL.of eax),_,_,rfl,rfl,_,rfl,?_⟩
   rcases List.eq_nil_or_concat Ap with hA | ⟨A',c,hA⟩
   ·subst hA
    cases gax
    exact gF (Rc _ _ ⟨S,Fs,uf,⟨_,_,_,rfl⟩,sx,sr,efx,lf⟩)
   rw[List.concat_eq_append] at hA
   subst hA
   rw[Mu] at gax
   obtain⟨ua',ga,rfl,gax',ega0⟩:=gax.De
   have ega:Hx ga=some (.tup ((al n fl bk lo c).map V.int)):=ega0
   rw[decide_eq_true (show (((ua'++[V.ref ga]).length:Nat):Int) > 0 by rw[Mv]; have:([V.ref ga]:List V).length=1:=rfl; lia)]
   refine jN ⟨fun σ' H'=>∃ m',m' < m/\KW n fl bk lo hi b f su wh fo kn se ah H3 Hi m' σ' H',fun _ _ h=>h,?_⟩
   obtain⟨cS,c0⟩:=sr.aS c (List.mem_append.mpr (.inr (List.mem_singleton.mpr rfl)))
   have hcl:=sr.cl c cS
   have c12:c.length<=12:=by
    rw[← hcl]
    exact Ob (Oo _ _) (by rw[MN]; exact n6)
   refine aB (fun σ Hy=>σ=[some (.ref b),some (.ref f),some (.ref su),some (.ref wh),some (.ref fo),some (.ref kn),some (.ref se),some (.ref ah),some (.ref ga),u9,u10]/\Hy=upd Hx ah (.lst ua')) ?qp ?tp
   case tp =>
    intro N2 Rc2
    refine⟨_,rfl,.inl ⟨rfl,_,SqL.of eax⟩,ah,_,.ref ga,rfl,rfl,eax,by simp,Rc2 _ _ ⟨rfl,by rw[List.dropLast_concat]⟩⟩
   case qp =>
   rintro σ Hy ⟨rfl,eHy⟩
   have sHy:aP H3 Hy:=by rw[eHy]; exact aG sx ah3 _
   have yo:∀ a o,a≠ah->Hx a=some o->Hy a=some o:=fun a o na e=>by rw[eHy,aL na]; exact e
   have nka:kn≠ah:=fun z=>by rw[z,eax] at ekx; cases ekx
   have nsa:se≠ah:=fun z=>by rw[z,eax] at esx; cases esx
   have nsk:se≠kn:=fun z=>by rw[z,ekn] at fse; cases fse
   have tyo:∀ a xs,Hx a=some (HO.tup xs)->Hy a=some (HO.tup xs):=fun a xs e=>yo a _ (fun z=>by rw[z,eax] at e; cases e) e
   have eya:Hy ah=some (.lst ua'):=by rw[eHy]; exact aj
   refine aB (fun σ Hz=>∃ (ro:Addr) (ur:List V) (kvs':List (List Key × V)),σ=[some (.ref b),some (.ref f),some (.ref su),some (.ref wh),some (.ref fo),some (.ref kn),some (.ref se),some (.ref ah),some (.ref ga),some (.ref ro),u10]/\aP H3 Hz/\(∀ a o,a≠kn->Hy a=some o->Hz a=some o)/\Hy ro=none/\Hz ro=some (.lst ur)/\fD Hz ur (c.map fun one=>al n fl bk lo (wo c one))/\Hz kn=some (.dT kvs')/\qM n fl bk lo Hz kvs') ?qo ?to
   case to =>
    intro N2 Rc2
    exact⟨_,rfl,_,rfl,_,rfl,_,rfl,b,su,ga,kn,n,bk,fl,lo,c,kvs,H3,rfl,by lia,sHy,kn3,hBi,lb,of,s2 _ _ esu,low,tyo _ _ ega,hcl,yo _ _ nka ekx,kno.bJ tyo,fun r us kvs' H' h1 h2 h3 h4 h5 h6 h7=>Rc2 _ _ ⟨r,us,kvs',rfl,h1,h2,h3,h4,h5,h6,h7⟩⟩
   case qo =>
   rintro σ Hz ⟨ro,ur,kvs',rfl,sz,yz,fro,ero,gr,ekz,knz⟩
   have efy:=yo _ _ nfa efx
   have nfk:fo≠kn:=fun z=>by rw[z,ekx] at efx; cases efx
   have nfs:fo≠se:=fun z=>by rw[z,esx] at efx; cases efx
   have efz:=yz _ _ nfk efy
   have ezs:Hz se=some (.dT svs):=yz _ _ nsk (yo _ _ nsa esx)
   have eza:Hz ah=some (.lst ua'):=yz _ _ nka.symm eya
   have tyz:∀ a xs,Hy a=some (HO.tup xs)->Hz a=some (HO.tup xs):=fun a xs e=>yz a _ (fun z=>by rw[z,yo _ _ nka ekx] at e; cases e) e
   have egz:=tyz _ _ (tyo _ _ ega)
   have keptz:∀ a o,Hi a=some o->∃ o',Hz a=some o':=fun a o e=>by
    obtain⟨o',e'⟩:=kept a o e
    by_cases z1:a=kn
    ·rw[z1]; exact⟨_,ekz⟩
    ·by_cases z2:a=ah
     ·rw[z2]; exact⟨_,eza⟩
     ·exact⟨o',yz _ _ z1 (yo _ _ z2 e')⟩
   have fresh:∀ {a:Addr} {G:Hp},(∀ b o,Hz b=some o->∃ o',G b=some o')->G a=none->Hi a=none:=fun {a G} kp e=>by
    cases z:Hi a with
    | none=>rfl
    | some o =>
     obtain⟨o1,h1⟩:=keptz a o z
     obtain⟨o2,h2⟩:=kp a o1 h1
     rw[e] at h2
     cases h2
   have lfz:LF Hi Hz uf Fs:=lf.keep fun a c' ha e=>yz _ _ (fun z=>by rw[z,ekni] at ha; cases ha) (yo _ _ (fun z=>by rw[z,eah] at ha; cases ha) e)
   have nro:ro≠ah/\ro≠se/\ro≠fo:=⟨fun z=>(by rw[z,eya] at fro; cases fro),fun z=>(by rw[z,yo _ _ nsa esx] at fro; cases fro),fun z=>(by rw[z,efy] at fro; cases fro)⟩
   have luf:uf.length<=4096:=by
    rw[lf.length]
    have h1:=bC (m:=S) sr.fN fun c hc=>((sr.fI c).mp hc).1
    have:=sr.len
    lia
   refine aB (fun σ Hw=>∃ uf':List V,σ=[some (.ref b),some (.ref f),some (.ref su),some (.ref wh),some (.ref fo),some (.ref kn),some (.ref se),some (.ref ah),some (.ref ga),some (.ref ro),u10]/\aP H3 Hw/\(∀ a o,a≠fo->Hz a=some o->Hw a=some o)/\Hw fo=some (.lst uf')/\LF Hi Hw uf' (if (∀ one∈c,al n fl bk lo (wo c one)=lo) then Fs++[c] else Fs)) ?qf ?tf
   case tf =>
    intro N2 Rc2
    have lrw:(c.map fun one=>al n fl bk lo (wo c one)).length<=12:=by rw[Mf]; exact c12
    have lur:=gr.length
    refine⟨_,rfl,ro,rfl,⟨_,SqL.of ero⟩,fun D hD=>d9 (K:=K) (a:=ro) (xs:=ur) (fun i zs σ' Hq=>(∃ u,σ'=[u,some (.ref su)])/\aP Hz Hq/\Hq D=some (.lst zs)/\zs=(((c.map fun one=>al n fl bk lo (wo c one)).take i).map fun g=>decide (g=lo)).map V.bl)
     ⟨⟨_,rfl⟩,au hD _,aj,rfl⟩ (fun i zs σ' Hq _ h=>⟨SqL.of (h.2.1 _ _ ero),h.2.2.1⟩) ?_ ?_⟩
    ·rintro i zs x σ' Hq hx ⟨⟨u,rfl⟩,sq,eDq,rfl⟩
     obtain⟨a,g,rfl,hg,ea,_⟩:=gr.at hx
     refine gT ?_
     refine⟨_,rfl,_,rfl,a,su,g,lo,rfl,rfl,SqT.of (sq _ _ ea),SqT.of ((sz.trans sq) _ _ (s2 _ _ esu)),eDq,Hu (by rw[Mf,Mf,Nf]; lia),⟨_,rfl⟩,aG sq hD _,aj,?_⟩
     rw[Nt,hg,Mu,Mu]
     rfl
    ·rintro zs σ' Hq ⟨_,sq,eDq,rfl⟩
     rw[lur,M4] at eDq
     refine⟨D,_,rfl,SqL.of eDq,_,rfl,?_⟩
     have hall:(((c.map fun one=>al n fl bk lo (wo c one)).map fun g=>decide (g=lo)).all fun b=>b)=decide (∀ one∈c,al n fl bk lo (wo c one)=lo):=by
      rw[Qc,List.all_eq_true]
      simp
     rw[hall]
     by_cases e:∀ one∈c,al n fl bk lo (wo c one)=lo
     ·rw[decide_eq_true e]
      have efq:=sq _ _ efz
      refine jN ⟨_,rfl,.inl ⟨rfl,_,SqL.of efq⟩,_,rfl,_,rfl,su,ga,n,lo,_,rfl,by lia,(sz.trans sq) _ _ (s2 _ _ esu),low.1,sq _ _ egz,(bT lb okb of low c).1.1,fun rr Hr sr' err=>⟨rr,c.map vN,rfl,.inr (SqT.of (err.trans (by rw[hcl]))),fun l hl=>?_⟩⟩
      have sn:=au hl (.lst (c.map vN))
      have sqr:=sq.trans sr'
      have efl:=(sr'.trans sn) _ _ efq
      refine⟨fo,uf,_,rfl,rfl,efl,Hu (by lia),?_⟩
      ·refine Rc2 _ _ ⟨_,rfl,?_,fun a o na e'=>by rw[aL na]; exact (sqr.trans sn) _ _ e',aj,?_⟩
       ·exact aG (sz.trans (sqr.trans sn)) ffo _
       ·rw[if_pos e]
        have hl0:Hi l=none:=fresh (G:=Hr) (fun b o e'=>⟨o,sqr _ _ e'⟩) hl
        have lfn:LF Hi (upd Hr l (.lst (c.map vN))) uf Fs:=lfz.keep fun a c' ha e'=>(sqr.trans sn) _ _ e'
        exact (LF.snoc aj hl0 lfn).keep fun a c' ha e'=>by
         rw[aL (fun z=>by rw[z,efoi] at ha; cases ha)]
         exact e'
     ·rw[decide_eq_false e]
      refine gF (Rc2 _ _ ⟨uf,rfl,sz.trans sq,fun a o _ e'=>sq _ _ e',sq _ _ efz,?_⟩)
      rw[if_neg e]
      exact lfz.keep fun a c' ha e'=>sq _ _ e'
   case qf =>
   rintro σ Hw ⟨uf',rfl,sw,zw,efw,lfw⟩
   have erw:Hw ro=some (.lst ur):=zw _ _ nro.2.2 ero
   have esw:Hw se=some (.dT svs):=zw _ _ nfs.symm ezs
   have eaw:Hw ah=some (.lst ua'):=zw _ _ nfa.symm eza
   have ekw:Hw kn=some (.dT kvs'):=zw _ _ nfk.symm ekz
   have tzw:∀ a xs,Hz a=some (HO.tup xs)->Hw a=some (HO.tup xs):=fun a xs e=>zw a _ (fun z=>by rw[z,efz] at e; cases e) e
   have gaw:fD Hw ua' (A'.map fun c=>al n fl bk lo c):=gax'.bJ fun a xs e=>tzw _ _ (tyz _ _ (tyo _ _ e))
   have grw:=gr.bJ tzw
   have keptw:∀ a o,Hi a=some o->∃ o',Hw a=some o':=fun a o e=>by
    obtain⟨o',e'⟩:=keptz a o e
    by_cases z1:a=fo
    ·rw[z1]; exact⟨_,efw⟩
    ·exact⟨o',zw _ _ z1 e'⟩
   refine⟨_,rfl,ro,rfl,⟨_,SqL.of erw⟩,cY (K:=K) (a:=ro) (xs:=ur) (fun i σ Hv=>∃ (Nn:List (List Nat)) (svs2:List (List Key × V)) (ua2:List V),(∃ v10,σ=[some (.ref b),some (.ref f),some (.ref su),some (.ref wh),some (.ref fo),some (.ref kn),some (.ref se),some (.ref ah),some (.ref ga),some (.ref ro),v10])/\aP H3 Hv/\(∀ a o,a≠se->a≠ah->Hw a=some o->Hv a=some o)/\Hv se=some (.dT svs2)/\svs2.map (·.1)=(S++Nn).map (fun c=>kg (al n fl bk lo c))/\Hv ah=some (.lst ua2)/\fD Hv ua2 ((A'++Nn).map fun c=>al n fl bk lo c)/\Nn.Nodup/\(∀ d∈Nn,d ∉ S/\ris n lo (al n fl bk lo d)=d)/\∀ one∈c.take i,ris n lo (al n fl bk lo (wo c one))∈S++Nn)
    ⟨[],svs,ua',⟨_,rfl⟩,sw,fun a o _ _ e=>e,esw,by rw[Ro]; exact esk,eaw,by rw[Ro]; exact gaw,.nil,fun d hd=>(by cases hd),fun one ho=>(by rw[Od] at ho; cases ho)⟩ (fun i σ Hv _ h=>?_) ?_ ?_⟩
   ·obtain⟨_,_,_,_,_,kp,_⟩:=h
    exact SqL.of (kp _ _ nro.2.1 nro.1 erw)
   ·rintro i x σ Hv hx ⟨Nn,svs2,ua2,⟨v10,rfl⟩,sv,kp,es2,ek2,ea2,g2,nn,nS,al2⟩
    obtain⟨a,g,rfl,hg,ea,_⟩:=grw.at hx
    rw[Nj] at hg
    obtain⟨one,hone,rfl⟩:=Option.map_eq_some_iff.mp hg
    have ea':Hv a=some (.tup ((al n fl bk lo (wo c one)).map V.int)):=kp _ _ (fun z=>by rw[z,esw] at ea; cases ea) (fun z=>by rw[z,eaw] at ea; cases ea) ea
    have hd:=zP lb okb of low (wo c one)
    have key:Hv a=some (.tup ((kg (al n fl bk lo (wo c one))).map kV)):=by rw[DY]; exact ea'
    have nds:(S++Nn).Nodup:=List.nodup_append.mpr ⟨sr.nd,nn,fun a ha b hb' e=>(nS b hb').1 (e▸ha)⟩
    have lSN:(S++Nn).length<=4096:=by
     have:=bC (m:=cQ n) nds fun d hd'=>by
      have:ris n lo (al n fl bk lo d)=d:=by
       rcases List.mem_append.mp hd' with z | z
       ·exact sr.cl d z
       ·exact (nS d z).2
      rw[← this]
      exact fG _ n
     rw[eN] at this
     lia
    have lsv:svs2.length=(S++Nn).length:=by
     have:=congrArg Rx ek2
     rw[Mf,Mf] at this
     exact this
    have lua:=g2.length
    rw[Mf,Mv] at lua
    have lA:A'.length<=4096:=by
     have h1:=bC (m:=S) (List.nodup_append.mp sr.aN).1 fun d hd'=>(sr.aS d (List.mem_append.mpr (.inl hd'))).1
     rw[Mv] at lSN
     lia
    have nxt:∀ {X:List (List Nat)},(∀ d∈S++Nn,d∈X)->ris n lo (al n fl bk lo (wo c one))∈X->∀ o'∈c.take (i+1),ris n lo (al n fl bk lo (wo c o'))∈X:=fun {X} h1 h2 o' ho=>by
     rw[Nt,hone,Qj] at ho
     rcases ho with z | z
     ·exact h1 _ (al2 o' z)
     ·cases List.mem_singleton.mp z
      exact h2
    refine gN ?_
    refine⟨_,rfl,_,rfl,se,ie svs2 (kg (al n fl bk lo (wo c one))),rfl,zZ.t es2 key,_,rfl,?_⟩
    cases hv:ie svs2 (kg (al n fl bk lo (wo c one))) with
    | some v =>
     refine gF ⟨Nn,svs2,ua2,⟨_,rfl⟩,sv,kp,es2,ek2,ea2,g2,nn,nS,nxt (fun d z=>z) ?_⟩
     unfold ie at hv
     obtain⟨p,hp,_⟩:=Option.map_eq_some_iff.mp hv
     have k1:p.1=kg (al n fl bk lo (wo c one)):=by simpa using List.find?_some hp
     have k2:p.1∈svs2.map (·.1):=List.mem_map.mpr ⟨p,List.mem_of_find?_eq_some hp,rfl⟩
     rw[ek2] at k2
     obtain⟨d,hd1,hd2⟩:=List.mem_map.mp k2
     have hd3:=Dk (hd2.trans k1)
     have hd4:ris n lo (al n fl bk lo d)=d:=by
      rcases List.mem_append.mp hd1 with z | z
      ·exact sr.cl d z
      ·exact (nS d z).2
     rw[← hd3,hd4]
     exact hd1
    | none =>
     have dN:ris n lo (al n fl bk lo (wo c one)) ∉ S++Nn:=fun z=>by
      have:kg (al n fl bk lo (wo c one))∈svs2.map (·.1):=by
       rw[ek2]
       exact List.mem_map.mpr ⟨_,z,by rw[hd]⟩
      obtain⟨p,hp,e⟩:=List.mem_map.mp this
      unfold ie at hv
      exact List.find?_eq_none.mp (Option.map_eq_none_iff.mp hv) p hp (decide_eq_true e)
     refine jN ⟨_,rfl,_,rfl,se,_,rfl,Ht.t es2 key (Hu (by lia)),?_⟩
     have ea3:upd Hv se (.dT (putK svs2 (kg (al n fl bk lo (wo c one))) (.bl true))) ah=some (.lst ua2):=by rw[aL nsa.symm]; exact ea2
     refine⟨_,rfl,.inl ⟨rfl,_,SqL.of ea3⟩,_,rfl,ah,ua2,_,rfl,rfl,ea3,Hu (by rw[Mv] at lSN; lia),?_⟩
     refine⟨Nn++[ris n lo (al n fl bk lo (wo c one))],_,ua2++[.ref a],⟨_,rfl⟩,aG (aG sv se3 _) ah3 _,fun a' o' n1 n2 e'=>by rw[aL n2,aL n1]; exact kp _ _ n1 n2 e',by rw[aL nsa]; exact aj,?_,aj,?_,?_,fun d hd'=>?_,nxt (fun d z=>?_) ?_⟩
     ·rw[jU _ hv,Mu,ek2,← PL,Mu (l₁:=S++Nn)]
      show _++[kg (al n fl bk lo (wo c one))]=_++[kg (al n fl bk lo (ris n lo (al n fl bk lo (wo c one))))]
      rw[hd]
     ·rw[← PL,Mu]
      have t1:=lQ (o:=.dT (putK svs2 (kg (al n fl bk lo (wo c one))) (.bl true))) es2
      refine fD.bJ (cZ ea3) (fD.snoc ?_ (by rw[gC lb okb of low]; lia) (g2.bJ t1))
      show upd Hv se _ a=some (.tup ((al n fl bk lo (ris n lo (al n fl bk lo (wo c one)))).map V.int))
      rw[hd]
      exact t1 _ _ ea'
     ·exact List.nodup_append.mpr ⟨nn,by simp,fun x hx' y hy e=>dN (List.mem_append.mpr (.inr (by rw[← List.mem_singleton.mp hy,← e]; exact hx')))⟩
     ·rcases List.mem_append.mp hd' with z | z
      ·exact nS d z
      ·rw[List.mem_singleton.mp z]
       exact⟨fun q=>dN (List.mem_append.mpr (.inl q)),by rw[hd]⟩
     ·rw[← PL]
      exact List.mem_append.mpr (.inl z)
     ·rw[← PL]
      exact List.mem_append.mpr (.inr (List.mem_singleton.mpr rfl))
   ·rintro σ Hv ⟨Nn,svs2,ua2,⟨v10,rfl⟩,sv,kp,es2,ek2,ea2,g2,nn,nS,al2⟩
    rw[grw.length,Mf,M4] at al2
    have sr2:=zr.turn lb okb of low sr nn nS al2 rfl
    have l2:=sr2.len
    rw[Mv] at l2 hm
    have l1:([c]:List (List Nat)).length=1:=rfl
    have tw:∀ a xs,Hw a=some (HO.tup xs)->Hv a=some (HO.tup xs):=fun a xs e=>kp _ _ (fun z=>by rw[z,esw] at e; cases e) (fun z=>by rw[z,eaw] at e; cases e) e
    refine⟨2 * 2 ^ n+(A'++Nn).length - 2 * (S++Nn).length,by rw[Mv,Mv]; lia,S++Nn,A'++Nn,_,kvs',svs2,ua2,uf',⟨_,_,_,rfl⟩,by rw[Mv,Mv]; lia,sv,fun a o e=>?_,sr2,kp _ _ nsk.symm nka ekw,knz.bJ fun a xs e=>tw _ _ (tzw _ _ e),es2,ek2,ea2,g2,kp _ _ nfs nfa efw,lfw.keep fun a c' ha e=>kp _ _ (fun z=>by rw[z,esei] at ha; cases ha) (fun z=>by rw[z,eah] at ha; cases ha) e⟩
    obtain⟨o',e'⟩:=keptw a o e
    by_cases z1:a=se
    ·rw[z1]; exact⟨_,es2⟩
    ·by_cases z2:a=ah
     ·rw[z2]; exact⟨_,ea2⟩
     ·exact⟨o',kp _ _ z1 z2 e'⟩
section
variable {n:Nat} {fl:List Int} {bk:List (List Pl)} {lo:List Int}
theorem JC (c:List Nat) (one:Nat):(wo c one).Sublist c:=List.filter_sublist
theorem xT:∀ (m:Nat) (c:List Nat),c.length<=m->al n fl bk lo []=lo->al n fl bk lo c≠lo->∃ k,k.Sublist c/\Knot n fl bk lo k
 | 0,c,hl,h0,h=>by
  have:c=[]:=List.length_eq_zero_iff.mp (by lia)
  rw[this] at h
  exact absurd h0 h
 | m+1,c,hl,h0,h=>by
  by_cases e:∀ one∈c,al n fl bk lo (wo c one)=lo
  ·exact⟨c,List.Sublist.refl c,h,e⟩
  ·have ⟨one,h1,h2⟩:∃ one,one∈c/\¬ al n fl bk lo (wo c one)=lo:=by
    refine Pu fun z=>e fun i hi=>Pu fun q=>z ⟨i,hi,q⟩
   have l2:(wo c one).length < c.length:=by
    unfold wo
    rw[Tw]
    exact⟨one,h1,by simp⟩
   obtain⟨k,hk,kk⟩:=xT m (wo c one) (by lia) h0 h2
   exact⟨k,hk.trans (JC c one),kk⟩
theorem bx.uniq (hb:bk.length=n) (ok:okB bk) (hf:okG n fl) (hlo:Low n fl bk lo) {ks js:List (List Nat)} (h:bx n fl bk ks) (h':bx n fl bk js):ks=js:=by
 have m:∀ c,c∈ks ↔ c∈js:=fun c=>(h.1 lo hlo c).trans (h'.1 lo hlo c).symm
 have p1:=h.2
 have p2:=h'.2
 clear h h'
 induction ks generalizing js with
 | nil =>
  cases js with
  | nil=>rfl
  | cons x _=>exact absurd ((m x).mpr Ml) (by simp)
 | cons x ks ih =>
  cases js with
  | nil=>exact absurd ((m x).mp Ml) (by simp)
  | cons y js =>
   rw[O3] at p1 p2
   have irr:∀ {a b:List Nat},HT.lexLt (iN a) (iN b)=true->HT.lexLt (iN b) (iN a)=true->False:=fun h1 h2=>by
    have:=gf h1 h2
    rw[fB] at this
    cases this
   have hxy:x=y:=by
    rcases List.mem_cons.mp ((m x).mp Ml) with z | z
    ·exact z
    ·rcases List.mem_cons.mp ((m y).mpr Ml) with z' | z'
     ·exact z'.symm
     ·exact (irr (p2.1 x z) (p1.1 y z')).elim
   subst hxy
   have ne:∀ {c},HT.lexLt (iN x) (iN c)=true->c≠x:=fun h e=>by
    rw[e,fB] at h
    cases h
   refine congrArg _ (ih (fun c=>⟨fun h=>?_,fun h=>?_⟩) p1.2 p2.2)
   ·exact (List.mem_cons.mp ((m c).mp (MF _ h))).resolve_left (ne (p1.1 c h))
   ·exact (List.mem_cons.mp ((m c).mpr (MF _ h))).resolve_left (ne (p2.1 c h))
end
def cD (c:List Nat):Dm:=.lst ((iN c).map Dm.int)
theorem zj {H:Hp} {a:Addr} {c:List Nat} (h:H a=some (.lst (c.map vN))) (l:c.length<=1000):Rep H (.ref a) (cD c):=by
 rw[fj] at h
 exact .lst h (by rw[Mf,Mf]; lia) (gK _)
theorem Cw (c:List Nat):(cD c).dep=1:=by
 unfold cD
 rw[Dm.dep,jj]
theorem LF.rep {H0 H:Hp}:∀ {us:List V} {cs:List (List Nat)},LF H0 H us cs->(∀ c∈cs,c.length<=1000)->mC H us (cs.map cD)
 | _,_,.nil,_=>.nil
 | _,_,.cons h _ r,l=>.cons (zj h (l _ Ml)) (LF.rep r fun c hc=>l c (MF _ hc))
theorem yX:∀ cs:List (List Nat),jP (cs.map cD)<=1
 | []=>by rw[RD,jP]; decide
 | c::cs=>by
  have:=yX cs
  rw[Ni,jP]
  have:(cD c).dep=1:=Cw c
  lia
theorem Ju {a b:List Nat} (h:iN a=iN b):a=b:=by
 rw[← eZ a,← eZ b,h]
theorem bx.few {n:Nat} {fl lo:List Int} {bk:List (List Pl)} {ks:List (List Nat)} (hlo:Low n fl bk lo) (h:bx n fl bk ks):ks.length<=2 ^ n/\∀ c∈ks,c.length<=n:=by
 refine⟨?_,fun c hc=>?_⟩
 ·have nd:ks.Nodup:=h.2.imp fun {a b} q e=>by
   rw[e,fB] at q
   cases q
  have:=bC (m:=cQ n) nd fun c hc=>by
   obtain⟨h1,h2,_⟩:=(h.1 lo hlo c).mp hc
   rw[← fC h1 h2]
   exact fG _ n
  rw[eN] at this
  exact this
 ·obtain⟨h1,h2,_⟩:=(h.1 lo hlo c).mp hc
  have:=jr (m:=0) h1 fun k hk=>⟨NP _,h2 k hk⟩
  lia
def wA (n:Nat) (fl:List Int) (bk:List (List Pl)) (hi:List Int):Prop:=okG n hi/\cM hi fl bk=hi/\∀ g,LeG g (cM g fl bk)->LeG g hi
open Classical in
def cl (n:Nat) (bk:List (List Pl)) (x:List Int):List Int:=if h:∃ y,Low n x bk y then Classical.choose h else []
section
variable {n:Nat} {fl hi:List Int} {bk:List (List Pl)}
theorem wA.uniq {a b:List Int} (h:wA n fl bk a) (h':wA n fl bk b):a=b :=
 cg (by rw[h.1.1,h'.1.1]) (h'.2.2 _ (by rw[h.2.1]; exact bI _)) (h.2.2 _ (by rw[h'.2.1]; exact bI _))
theorem fQ (hb:bk.length=n) (ok:okB bk) (hf:okG n fl) {m:Nat} (st:Stops (Fd fl bk) (rfF fl bk) m):wA n fl bk (itF (Fd fl bk) (rfF fl bk) m) :=
 ⟨dR hb ok hf (gZ hb ok hf) m,st.1,fun _ h=>jq hb ok hf h m⟩
theorem vQ (hb:bk.length=n) (ok:okB bk) (hf:okG n fl) (h:wA n fl bk hi):LeG fl hi:=by
 have:=fJ hb ok hf hi
 rw[h.2.1] at this
 exact this
theorem yJ {x y:List Int} (h:Low n x bk y):cl n bk x=y:=by
 have e:∃ y,Low n x bk y:=⟨y,h⟩
 unfold cl
 rw[dif_pos e]
 exact (Classical.choose_spec e).uniq h
theorem Cp (hb:bk.length=n) (ok:okB bk) {x:List Int} (hx:okG n x):Low n x bk (cl n bk x):=by
 obtain⟨m,_,st⟩:=mU hb ok hx
 have:=eU hb ok hx st
 rw[yJ this]
 exact this
end
section
variable {n:Nat} {fl lo hi x:List Int} {bk:List (List Pl)}
theorem fO (hb:bk.length=n) (ok:okB bk) (hf:okG n fl) (hx:okG n x) (l:LeG fl x) (k:LeG x (cM x fl bk)) {g:List Int} (h:LeG x g):cM g x bk=cM g fl bk:=by
 have o1:=di hb ok hx g
 have o2:=di hb ok hf g
 refine cg (by rw[o1.1,o2.1]) (gJ o1.1 o2.1 fun i hi=>?_) (gJ o2.1 o1.1 fun i hi=>?_)
 ·have a:=k i
  have b:=gO hb ok hf h i
  have c:=bF hb hf g hi
  rw[bF hb hx g hi]
  lia
 ·have a:=l i
  rw[bF hb hx g hi,bF hb hf g hi]
  lia
theorem jW (hlo:Low n fl bk lo):LeG lo (cM lo fl bk):=by rw[hlo.2.1]; exact bI _
theorem mJ (hb:bk.length=n) (ok:okB bk) (hf:okG n fl) (hlo:Low n fl bk lo):Low n lo bk lo :=
 ⟨hlo.1,by rw[fO hb ok hf hlo.1 (fH hb ok hf hlo) (jW hlo) (bI _)]; exact hlo.2.1,fun g hg=>(fJ hb ok hlo.1 g).trans hg⟩
theorem qC (hb:bk.length=n) (ok:okB bk) (hf:okG n fl) (hlo:Low n fl bk lo) {c:List Nat} {g:List Int}:InS n lo bk lo c g ↔ InS n fl bk lo c g:=by
 have e:LeG lo g->cM g lo bk=cM g fl bk:=fun h=>fO hb ok hf hlo.1 (fH hb ok hf hlo) (jW hlo) h
 constructor
 ·rintro⟨h1,h2,h3,h4⟩
  rw[e h3] at h4
  exact⟨h1,h2,h3,h4⟩
 ·rintro⟨h1,h2,h3,h4⟩
  rw[← e h3] at h4
  exact⟨h1,h2,h3,h4⟩
theorem Aj (hb:bk.length=n) (ok:okB bk) (hf:okG n fl) (hlo:Low n fl bk lo) (c:List Nat):al n lo bk lo c=al n fl bk lo c:=by
 have m:=bT hb ok hlo.1 (mJ hb ok hf hlo) c
 exact tM hb ok hf hlo ⟨(qC hb ok hf hlo).mp m.1,fun w hw=>m.2 w ((qC hb ok hf hlo).mpr hw)⟩
theorem lM (hb:bk.length=n) (ok:okB bk) (hf:okG n fl) (hlo:Low n fl bk lo) (c:List Nat):Knot n lo bk lo c ↔ Knot n fl bk lo c:=by
 unfold Knot
 rw[Aj hb ok hf hlo c]
 refine and_congr_right fun _=>forall_congr' fun one=>?_
 rw[Aj hb ok hf hlo]
theorem tY (hb:bk.length=n) (ok:okB bk) (hf:okG n fl) (hlo:Low n fl bk lo) {ks:List (List Nat)}:bx n lo bk ks ↔ bx n fl bk ks:=by
 constructor
 ·rintro⟨h1,h2⟩
  refine⟨fun lo' hl c=>?_,h2⟩
  rw[hl.uniq hlo,h1 lo (mJ hb ok hf hlo) c,lM hb ok hf hlo]
 ·rintro⟨h1,h2⟩
  refine⟨fun lo' hl c=>?_,h2⟩
  rw[hl.uniq (mJ hb ok hf hlo),h1 lo hlo c,lM hb ok hf hlo]
theorem yQ (hb:bk.length=n) (ok:okB bk) (hf:okG n fl) (hx:okG n x) (l:LeG fl x) (k:LeG x (cM x fl bk)) {m:Nat} (st:Stops (Fd fl bk) x m):Low n x bk (itF (Fd fl bk) x m):=by
 have up:∀ j,LeG x (itF (Fd fl bk) x j):=fun j=>by
  induction j with
  | zero=>exact bI _
  | succ j ih=>exact ih.trans (Gk hb ok hf k j)
 refine⟨dR hb ok hf hx m,?_,fun g hg=>?_⟩
 ·rw[fO hb ok hf hx l k (up m)]
  exact st.1
 ·have xg:LeG x g:=(fJ hb ok hx g).trans hg
  rw[fO hb ok hf hx l k xg] at hg
  have:∀ j,LeG (itF (Fd fl bk) x j) g:=fun j=>by
   induction j with
   | zero=>exact xg
   | succ j ih=>exact (gO hb ok hf ih).trans hg
  exact this m
theorem wR (hb:bk.length=n) (ok:okB bk) (hf:okG n fl) (hh:wA n fl bk hi) (hx:okG n x) (l:LeG fl x) (k:LeG x (cM x fl bk)):wA n x bk hi:=by
 obtain⟨m,_,st⟩:=jA hb ok hx
 have h':=fQ hb ok hx st
 generalize itF (Fd x bk) (rfF x bk) m=hi' at h'
 have e1:LeG hi hi':=h'.2.2 hi (by rw[fO hb ok hf hx l k (hh.2.2 x k),hh.2.1]; exact bI _)
 have e2:LeG hi' hi:=hh.2.2 hi' (by rw[← fO hb ok hf hx l k (vQ hb ok hx h'),h'.2.1]; exact bI _)
 rw[cg (by rw[hh.1.1,h'.1.1]) e1 e2]
 exact h'
theorem o8 (hb:bk.length=n) (ok:okB bk) (hf:okG n fl) (hlo:Low n fl bk lo) (hh:wA n fl bk hi):bx n fl bk [] ↔ lo=hi:=by
 have lh:LeG lo hi:=hh.2.2 lo (jW hlo)
 constructor
 ·intro h
  by_cases e:al n fl bk lo (ris n lo hi)=lo
  ·rw[CN hb ok hf hlo hh.1 hh.2.1 hh.2.2 lh] at e
   exact e.symm
  ·obtain⟨k,hs,hk⟩:=xT _ (ris n lo hi) (Mt _) (m8 hb ok hf hlo) e
   have:=(h.1 lo hlo k).mpr ⟨(gY hi).sublist hs,fun i hi=>(dZ.mp (hs.subset hi)).1,hk⟩
   cases this
 ·rintro rfl
  refine⟨fun lo' hl c=>⟨fun h=>(by cases h),fun h=>?_⟩,List.Pairwise.nil⟩
  rw[hl.uniq hlo] at h
  have m:=bT hb ok hf hlo c
  exact absurd (cg (by rw[m.1.1.1,hlo.1.1]) (hh.2.2 _ m.1.2.2.2) m.1.2.2.1) h.2.2.1
def At (n:Nat) (bk:List (List Pl)) (hi h:List Int):Prop:=Low n h bk h/\wA n h bk hi
theorem uM (hb:bk.length=n) (ok:okB bk) (hf:okG n fl) (hlo:Low n fl bk lo) (hh:wA n fl bk hi):At n bk hi lo :=
 ⟨mJ hb ok hf hlo,wR hb ok hf hh hlo.1 (fH hb ok hf hlo) (jW hlo)⟩
theorem Gx (hb:bk.length=n) (ok:okB bk) {h y:List Int} (a:At n bk hi h) {k:List Nat} (hk:Knot n h bk h k) (ly:Low n (al n h bk h k) bk y):At n bk hi y/\h.sum < y.sum:=by
 obtain⟨low,hh⟩:=a
 have m:=bT hb ok low.1 low k
 have ox:=m.1.1
 have hx:=m.1.2.2.1
 have kx:=m.1.2.2.2
 have xy:=fH hb ok ox ly
 have fy:=fO hb ok low.1 ox hx kx xy
 have hy:=hx.trans xy
 have ky:LeG y (cM y h bk):=by rw[← fy,ly.2.1]; exact bI _
 refine⟨⟨mJ hb ok ox ly,wR hb ok low.1 hh ly.1 hy ky⟩,?_⟩
 have s1:=dI (g:=h) (g':=al n h bk h k) (by rw[low.1.1,ox.1]) fun i _=>hx i
 have s2:=dI (g:=al n h bk h k) (g':=y) (by rw[ox.1,ly.1.1]) fun i _=>xy i
 have:h.sum≠(al n h bk h k).sum:=fun z=>hk.1 (s1.2 z).symm
 lia
open Classical in
def kN (n:Nat) (bk:List (List Pl)) (h:List Int):List (List Nat):=if e:∃ ks,bx n h bk ks then e.choose else []
theorem Bq (hb:bk.length=n) (ok:okB bk) (hf:okG n fl) (hlo:Low n fl bk lo) {ks:List (List Nat)} (h:bx n fl bk ks):kN n bk fl=ks:=by
 have e:∃ ks,bx n fl bk ks:=⟨ks,h⟩
 unfold kN
 rw[dif_pos e]
 exact bx.uniq hb ok hf hlo e.choose_spec h
def nxF (n:Nat) (bk:List (List Pl)) (h:List Int):List Int:=cl n bk (al n h bk h ((kN n bk h).headD []))
def hrF (n:Nat) (bk:List (List Pl)) (lo:List Int):Nat->List Int
 | 0=>lo
 | i+1=>nxF n bk (hrF n bk lo i)
def prF (n:Nat) (bk:List (List Pl)) (lo:List Int) (i:Nat):List Nat × List Int:=((kN n bk (hrF n bk lo i)).headD [],hrF n bk lo (i+1))
def prs (n:Nat) (bk:List (List Pl)) (lo:List Int) (m:Nat):List (List Nat × List Int):=(Ms m).map (prF n bk lo)
theorem Bm (m:Nat):prs n bk lo (m+1)=prs n bk lo m++[prF n bk lo m]:=by
 unfold prs
 rw[Pg,Mu]
 rfl
def vK (n:Nat) (bk:List (List Pl)) (lo:List Int) (m:Nat):Prop:=kN n bk (hrF n bk lo m)=[]/\∀ j < m,kN n bk (hrF n bk lo j)≠[]
theorem vK.uniq {m m':Nat} (h:vK n bk lo m) (h':vK n bk lo m'):m=m':=by
 rcases Nat.lt_trichotomy m m' with z | z | z
 ·exact absurd h.1 (h'.2 m z)
 ·exact z
 ·exact absurd h'.1 (h.2 m' z)
theorem Bs (hb:bk.length=n) (ok:okB bk) {h:List Int} (a:At n bk hi h) {ks:List (List Nat)} (hk:bx n h bk ks):(ks=[] ↔ h=hi)/\∀ k∈ks,Knot n h bk h k/\(∀ i∈k,i < n)/\k.length<=n:=by
 refine⟨⟨fun e=>?_,fun e=>?_⟩,fun k hm=>?_⟩
 ·rw[e] at hk
  exact (o8 hb ok a.1.1 a.1 a.2).mp hk
 ·exact bx.uniq hb ok a.1.1 a.1 hk ((o8 hb ok a.1.1 a.1 a.2).mpr e)
 ·have:=(hk.1 h a.1 k).mp hm
  exact⟨this.2.2,this.2.1,(hk.few a.1).2 k hm⟩
theorem zq {h:List Int} (a:At n bk hi h):0<=h.sum/\h.sum<=9 * (n:Int):=by
 have:=sum_bound a.1.1.2
 rw[a.1.1.1] at this
 exact this
end
abbrev sW:Stmt:=top 23
theorem BV:aQ ["book","floor","giving"] ["book","floor","giving"] (aD sW):=⟨rfl,rfl,rfl,by decide+kernel,rfl,by decide+kernel,by decide+kernel⟩
def uq:Sp:=fun vs H Q _=>∃ (b f g:Addr) (n:Nat) (bk:List (List Pl)) (fl x:List Int),vs=[.ref b,.ref f,.ref g]/\mO n H b bk/\bk.length=n/\H f=some (.tup (fl.map V.int))/\okG n fl/\H g=some (.tup (x.map V.int))/\okG n x/\LeG x (cM x fl bk) ∧
 ∀ (m:Nat) (a:Addr) (H':Hp),Stops (Fd fl bk) x m->aP H H'->H' a=some (.tup ((itF (Fd fl bk) x m).map V.int))->Q (.ref a) H'
theorem Bf {k:Nat} (F:Fun K "risen" "risen" sW f fd) (B:Bt mg)
  (D_kept:Df P w K mg base "kept" (k+1) ["book","floor","giving"] (yO K abv)) (D_settled:Df P w K mg base "settled" (k+1) ["book","floor","giving"] (jo K)):fu P w K mg base CX0 (k+2) f fd ["book","floor","giving"] uq:=by
 refine F.ok BV (fun vs H Q E h=>?_) (fun cdv A outer s H vs Q E hr h=>?_)
 ·obtain⟨b,f,g,n,bk,fl,x,rfl,_⟩:=h
  rfl
 ·obtain⟨b,f,g,n,bk,fl,x,rfl,hb,lb,hf,of,hg,ox,up,q⟩:=h
  refine⟨_,(aq (cU (nq (gB (aY D_kept hr (aa (pv 0) (aa (pv 1) (aa (pv 2) ak)))))) (aA Cd) aV)
 (aA (aO (bH (r:=jK K) bj (aY D_settled hr (aa (pv 0) (aa (pv 1) (aa (pv 2) ak)))) (Am uI aF) (fun _ _=>rfl))))),?_⟩
  have okb:=hb.okB
  have hlb:fl.length=bk.length:=by rw[of.1,lb]
  have lx:x.length=bk.length:=by rw[ox.1,lb]
  have f0:∀ y∈fl,0<=y:=fun y hy=>(of.2 y hy).1
  refine⟨_,rfl,_,rfl,_,rfl,b,f,g,n,bk,fl,x,rfl,hb,SqT.of hf,SqT.of hg,hlb,lx,by lia,f0,fun H1 s1=>⟨_,rfl,?_⟩⟩
  rw[(yI (by rw[iy hlb]; lia)).mpr up]
  refine gF ?_
  obtain⟨m,hm,st⟩:=uT lb okb of ox up
  refine⟨_,rfl,_,rfl,_,rfl,b,f,g,n,bk,fl,x,m,rfl,hb.mono s1,lb,s1 _ _ hf,of,s1 _ _ hg,ox,hm,st,fun r us H' s2 _ er gr=>?_⟩
  obtain⟨a,ha,ea⟩:=jX gr
  exact⟨_,rfl,r,_,_,_,rfl,rfl,SqL.of er,ha,q m a H' st (s1.trans s2) ea⟩
inductive bQ (H0 H:Hp):List V->List (List Nat × List Int)->Prop where
 | nil:bQ H0 H [] []
 | cons {a k g:Addr} {c:List Nat} {y:List Int} {us:List V} {ps:List (List Nat × List Int)}:H a=some (.tup [.ref k,.ref g])->H k=some (.lst (c.map vN))->H0 k=none->c.length<=12->H g=some (.tup (y.map V.int))->y.length<=1000->bQ H0 H us ps->bQ H0 H (.ref a::us) ((c,y)::ps)
theorem bQ.mono {H0 H H':Hp} (s:aP H H'):∀ {us:List V} {ps:List (List Nat × List Int)},bQ H0 H us ps->bQ H0 H' us ps
 | _,_,.nil=>.nil
 | _,_,.cons h1 h2 h3 h4 h5 h6 r=>.cons (s _ _ h1) (s _ _ h2) h3 h4 (s _ _ h5) h6 (bQ.mono s r)
theorem bQ.length {H0 H:Hp}:∀ {us:List V} {ps:List (List Nat × List Int)},bQ H0 H us ps->us.length=ps.length
 | _,_,.nil=>rfl
 | _,_,.cons _ _ _ _ _ _ r=>by rw[MK,MK,bQ.length r]
theorem bQ.snoc {H0 H:Hp} {a k g:Addr} {c:List Nat} {y:List Int} (h1:H a=some (.tup [.ref k,.ref g])) (h2:H k=some (.lst (c.map vN))) (h3:H0 k=none) (h4:c.length<=12) (h5:H g=some (.tup (y.map V.int))) (h6:y.length<=1000):∀ {us:List V} {ps:List (List Nat × List Int)},bQ H0 H us ps->bQ H0 H (us++[.ref a]) (ps++[(c,y)])
 | _,_,.nil=>.cons h1 h2 h3 h4 h5 h6 .nil
 | _,_,.cons a1 a2 a3 a4 a5 a6 r=>.cons a1 a2 a3 a4 a5 a6 (bQ.snoc h1 h2 h3 h4 h5 h6 r)
theorem rP {a:Addr} {us:List V} {c:List Nat} (h:V.ref a∈us) (e:us=c.map vN):False:=by
 rw[e] at h
 obtain⟨i,_,z⟩:=List.mem_map.mp h
 cases z
theorem bQ.put {H0 H:Hp} {D:Addr} {zs zs':List V} (hD:H D=some (.lst zs)) (hz:∀ c:List Nat,zs≠c.map vN):∀ {us:List V} {ps:List (List Nat × List Int)},bQ H0 H us ps->bQ H0 (upd H D (.lst zs')) us ps
 | _,_,.nil=>.nil
 | _,_,.cons h1 h2 h3 h4 h5 h6 r=>.cons (cZ hD _ _ h1) (by
   rw[aL fun z=>?_]
   ·exact h2
   ·rw[z,hD] at h2
    injection h2 with h2
    injection h2 with h2
    exact hz _ h2) h3 h4 (cZ hD _ _ h5) h6 (bQ.put hD hz r)
theorem bQ.putN {H0 H:Hp} {D:Addr} {zs zs':List V} (hD:H D=some (.lst zs)):∀ {us:List V} {ps:List (List Nat × List Int)},(zs=us∨us≠[])->(∀ u∈us,u∈zs)->bQ H0 H us ps->bQ H0 (upd H D (.lst zs')) us ps:=fun {us ps} h hs r=>by
 cases us with
 | nil=>cases r; exact .nil
 | cons u us =>
  refine r.put hD fun c e=>?_
  have:∃ a,u = .ref a:=by cases r; exact⟨_,rfl⟩
  obtain⟨a,rfl⟩:=this
  exact rP (hs _ Ml) e
theorem bQ.refs {H0 H:Hp}:∀ {us:List V} {ps:List (List Nat × List Int)},bQ H0 H us ps->∀ u∈us,∃ a,u = .ref a
 | _,_,.nil,_,h=>by cases h
 | _,_,.cons _ _ _ _ _ _ r,u,h=>by
  rcases List.mem_cons.mp h with e | e
  ·exact⟨_,e⟩
  ·exact bQ.refs r u e
theorem LF.old {H0 H1 H:Hp} (s:aP H0 H1):∀ {us:List V} {cs:List (List Nat)},LF H1 H us cs->LF H0 H us cs
 | _,_,.nil=>.nil
 | _,_,.cons h n r=>.cons h (s.free n) (LF.old s r)
abbrev tG:Stmt:=top 31
theorem jf:aQ ["book","floor","pairs","left"] ["book","floor"] (aD tG):=⟨rfl,rfl,rfl,by decide+kernel,rfl,by decide+kernel,by decide+kernel⟩
def KY (n:Nat) (fl:List Int) (bk:List (List Pl)):Prop:=JR n fl bk/\∀ t,JR n (hrF n bk (cl n bk fl) t) bk
def wD:Sp:=fun vs H Q _=>∃ (b f:Addr) (n:Nat) (bk:List (List Pl)) (fl:List Int),vs=[.ref b,.ref f]/\n<=12/\KY n fl bk/\mO n H b bk/\bk.length=n/\H f=some (.tup (fl.map V.int))/\okG n fl ∧
 ∀ (r:Addr) (us:List V) (m:Nat) (H':Hp),aP H H'->H r=none->H' r=some (.lst us)->vK n bk (cl n bk fl) m->bQ H H' us (prs n bk (cl n bk fl) m)->m<=108->Q (.ref r) H'
def CW (n:Nat) (bk:List (List Pl)) (fl hi:List Int) (b pa:Addr) (H:Hp) (m:Nat) (σ:St) (Hx:Hp):Prop :=
 ∃ (t:Nat) (fa li:Addr) (ft:List Int) (us ul:List V) (ks:List (List Nat)),σ=[some (.ref b),some (.ref fa),some (.ref pa),some (.ref li)]/\aP H Hx/\H pa=none/\Hx pa=some (.lst us)/\bQ H Hx us (prs n bk (cl n bk fl) t)/\Hx fa=some (.tup (ft.map V.int))/\okG n ft/\Low n ft bk (hrF n bk (cl n bk fl) t) ∧
 At n bk hi (hrF n bk (cl n bk fl) t)/\Hx li=some (.lst ul)/\LF H Hx ul ks/\bx n ft bk ks/\(∀ j < t,kN n bk (hrF n bk (cl n bk fl) j)≠[])/\(t:Int)<=(hrF n bk (cl n bk fl) t).sum/\t+m=108
theorem vW {n:Nat} {bk:List (List Pl)} {ft h hi:List Int} (hb:bk.length=n) (ok:okB bk) (hf:okG n ft) (low:Low n ft bk h) (at':At n bk hi h) {k:List Nat} {ks:List (List Nat)} (hk:bx n ft bk (k::ks)) :
  kN n bk h=k::ks/\nxF n bk h=cl n bk (al n h bk h k)/\al n h bk h k=al n ft bk h k/\Knot n h bk h k/\(∀ i∈k,i < n)/\k.length<=n:=by
 have hk':=(tY hb ok hf low).mpr hk
 have e:=Bq hb ok low.1 at'.1 hk'
 obtain⟨h1,h2,h3⟩:=(Bs hb ok at' hk').2 k Ml
 exact⟨e,by unfold nxF; rw[e]; rfl,Aj hb ok hf low k,h1,h2,h3⟩
theorem An {k j i:Nat} (hj:j<=k+1) (hi':i<=k+1) (F:Fun K "climb" "climb" tG f fd) (B:Bt mg)
  (D_knots:Df P w K mg base "knots" (k+1) ["book","floor"] qT) (D_alone:Df P w K mg base "alone" j ["book","floor","crowd"] rE) (D_risen:Df P w K mg base "risen" i ["book","floor","giving"] uq) :
  fu P w K mg base CX0 (k+2) f fd ["book","floor"] wD:=by
 refine F.ok jf (fun vs H Q E h=>?_) (fun cdv A outer s H vs Q E hr h=>?_)
 ·obtain⟨b,f,n,bk,fl,rfl,_⟩:=h
  rfl
 ·obtain⟨b,f,n,bk,fl,rfl,n6,few,hB,lb,hf,of,q⟩:=h
  refine⟨_,(aq (aM (i:=2) jf.nd rfl (MT rfl) (bO ak))
 (aq (aM (i:=3) jf.nd rfl (MT rfl) (aY D_knots hr (aa (pv 0) (aa (pv 1) ak))))
 (aq (jR Nz (aX Gw (aJ (r:=pQ K) bw rfl B.len_ dX (aa (pv 3) ak)) aF (aZ _)) (aq (aM (i:=1) jf.nd rfl (MT rfl) (aY D_risen hr (aa (pv 0) (aa (pv 1) (aa (aY D_alone hr (aa (pv 0) (aa (pv 1) (aa (bH (r:=jK K) bj (pv 3) aF (fun _ _=>rfl)) ak)))) ak)))))
 (aq (dM (jt Np NZ NT bM (pv 2) (aa (dW (aa (bH (r:=jK K) bj (pv 3) aF (fun _ _=>rfl)) (aa (pv 1) ak))) ak)))
 (aA (aM (i:=3) jf.nd rfl (MT rfl) (aY D_knots hr (aa (pv 0) (aa (pv 1) ak))))))))
 (aA (aO (pv 2)))))),?_⟩
  have okb:=hB.okB
  have low0:=Cp lb okb of
  obtain⟨mf,_,stf⟩:=jA lb okb of
  have hh:=fQ lb okb of stf
  generalize itF (Fd fl bk) (rfF fl bk) mf=hi at hh
  refine aB (fun σ H1=>∃ pa:Addr,σ=[some (.ref b),some (.ref f),some (.ref pa),none]/\aP H H1/\H pa=none/\H1 pa=some (.lst [])) ?q1 ?t1
  case t1 =>
   intro N Rc
   exact⟨small (by show 0<=1000; decide),fun p hp=>Rc _ _ ⟨p,rfl,au hp _,hp,aj⟩⟩
  case q1 =>
  rintro σ H1 ⟨pa,rfl,s1,fpa,epa⟩
  refine aB (fun σ H2=>∃ m,CW n bk fl hi b pa H m σ H2) ?q2 ?t2
  case t2 =>
   intro N Rc
   refine⟨_,rfl,_,rfl,b,f,n,bk,fl,rfl,n6,few.1,hB.mono s1,lb,s1 _ _ hf,of,fun r us ks H2 s2 fr er lr hne ka=>Rc _ _ ⟨108,0,f,r,fl,[],us,ks,rfl,s1.trans s2,fpa,s2 _ _ epa,.nil,(s1.trans s2) _ _ hf,of,low0,uM lb okb of low0 hh,er,lr.old s1,ka,fun j hj=>absurd hj (P0 j),?_,by lia⟩⟩
   exact (zq (uM lb okb of low0 hh)).1
  case q2 =>
  rintro σ H2 ⟨m0,cw0⟩
  refine⟨CW n bk fl hi b pa H,⟨m0,cw0⟩,?_⟩
  rintro m σ Hx ⟨t,fa,li,ft,us,ul,ks,rfl,sx,_,epx,hpr,efa,oft,lowt,att,eli,lli,ka,hj0,hts,htm⟩
  have lk:=lli.length
  refine⟨_,rfl,li,_,rfl,.inl (SqL.of eli),_,_,rfl,rfl,_,rfl,?_⟩
  cases ks with
  | nil =>
   have:ul=[]:=R4 (by rw[lk]; rfl)
   subst this
   refine gF ⟨_,rfl,q pa us t Hx sx fpa epx ⟨Bq lb okb lowt.1 att.1 ((tY lb okb oft lowt).mpr ka),hj0⟩ hpr ?_⟩
   have:=(zq att).2
   lia
  | cons k0 ks =>
   obtain⟨e1,e2,e3,kn,kin,kl⟩:=vW lb okb oft lowt att ka
   cases lli with
   | @cons ka0 _ ul' _ hka fka rest =>
   rw[decide_eq_true (show (0:Int) < (((V.ref ka0::ul').length:Nat):Int) by rw[MK]; lia)]
   have hx0:atI (V.ref ka0::ul') 0=some (.ref ka0):=iQ (j:=0) rfl
   have mx:=bT lb okb att.1.1 att.1 k0
   generalize ehr:hrF n bk (cl n bk fl) t=h at *
   have e4:hrF n bk (cl n bk fl) (t+1)=cl n bk (al n h bk h k0):=by
    show nxF n bk (hrF n bk (cl n bk fl) t)=_
    rw[ehr,e2]
   have ox:=mx.1.1
   have lowy:=Cp lb okb ox
   obtain⟨aty,sumy⟩:=Gx lb okb att kn lowy
   have sy:=(zq aty).2
   refine jN ⟨CW n bk fl hi b pa H (m - 1),fun σ' H' h=>⟨m - 1,by lia,h⟩,?_⟩
   have hBx:=hB.mono sx
   refine⟨_,rfl,_,rfl,_,rfl,_,rfl,_,rfl,li,_,_,_,rfl,rfl,SqL.of eli,hx0,b,fa,ka0,n,bk,ft,k0,rfl,hBx,lb,efa,oft,hka,fun r z H3 s3 er mz=>?_⟩
   have ez:=tM lb okb oft lowt (mz h lowt)
   rw[← e3] at ez
   subst ez
   have kx:LeG (al n h bk h k0) (cM (al n h bk h k0) ft bk):=by
    rw[e3]
    exact (bT lb okb oft lowt k0).1.2.2.2
   have fx:LeG ft (al n h bk h k0):=(fH lb okb oft lowt).trans mx.1.2.2.1
   refine⟨b,fa,r,n,bk,ft,al n h bk h k0,rfl,hBx.mono s3,lb,s3 _ _ efa,oft,er,ox,kx,fun mm a H4 st4 s4 ea=>?_⟩
   have ey:itF (Fd ft bk) (al n h bk h k0) mm=cl n bk (al n h bk h k0):=(yJ (yQ lb okb oft ox fx kx st4)).symm
   rw[ey] at ea
   have s34:=s3.trans s4
   refine gN ?_
   dsimp only
   refine⟨_,rfl,.inl ⟨rfl,_,SqL.of (s34 _ _ epx)⟩,_,rfl,li,_,_,_,rfl,rfl,SqL.of (s34 _ _ eli),hx0,_,rfl,small (by show 2<=1000; decide),fun p5 h5=>?_⟩
   generalize eH5:upd H4 p5 _=H5
   obtain⟨g5,e5⟩:=aR eH5 h5
   have s35:=s34.trans g5
   have lus:us.length=t:=by rw[hpr.length]; unfold prs; rw[Mf,MN]
   refine⟨pa,_,_,rfl,rfl,s35 _ _ epx,aK (by lia),?_⟩
   have tk:=cZ (zs':=us++[.ref p5]) (s35 _ _ epx)
   generalize eH6:upd H5 pa _=H6
   have kap:ka0≠pa:=fun z=>by
    rw[z,epx] at hka
    injection hka with hka
    injection hka with hka
    cases us with
    | nil =>
     have k00:k0=[]:=List.map_eq_nil_iff.mp hka.symm
     exact kn.1 (by rw[k00]; exact m8 lb okb att.1.1 att.1)
    | cons u us' =>
     obtain⟨a,rfl⟩:=hpr.refs u Ml
     exact rP Ml hka
   have epa6:H6 pa=some (.lst (us++[.ref p5])):=by rw[← eH6]; exact aj
   have s6:aP H H6:=by rw[← eH6]; exact aG (sx.trans s35) fpa _
   have hk6:H6 ka0=some (.lst (k0.map vN)):=by rw[← eH6,aL kap]; exact s35 _ _ hka
   rw[eH6] at tk
   refine⟨_,rfl,_,rfl,b,a,n,bk,cl n bk (al n h bk h k0),rfl,n6,e4▸few.2 (t+1),hB.mono s6,lb,tk _ _ (g5 _ _ ea),lowy.1,fun r7 u7 k7 H7 s7 fr7 er7 lr7 hne7 ka7=>?_⟩
   refine⟨t+1,a,r7,_,us++[.ref p5],u7,k7,rfl,s6.trans s7,fpa,s7 _ _ epa6,?_,s7 _ _ (tk _ _ (g5 _ _ ea)),lowy.1,?_,?_,er7,lr7.old s6,ka7,?_,?_,by lia⟩
   ·rw[Bm]
    have:prF n bk (cl n bk fl) t=(k0,cl n bk (al n h bk h k0)):=by
     unfold prF
     rw[e4,ehr,e1]
     rfl
    rw[this]
    refine bQ.snoc (s7 _ _ (tk _ _ e5)) (s7 _ _ hk6) fka (by lia) (s7 _ _ (tk _ _ (g5 _ _ ea))) (by rw[lowy.1.1]; lia) (bQ.mono s7 ?_)
    rw[← eH6]
    exact (hpr.mono s35).putN (s35 _ _ epx) (.inl rfl) fun u hu=>hu
   ·rw[e4]
    exact mJ lb okb ox lowy
   ·rw[e4]
    exact aty
   ·intro j hj
    by_cases e:j < t
    ·exact hj0 j e
    ·have:j=t:=by lia
     rw[this,ehr,e1]
     exact List.cons_ne_nil _ _
   ·rw[e4]
    lia
structure aC where
 n:Nat
 rs:List (List Nat)
 rest:List Nat
 st:Nat->Int
 fr:Nat
 many:Int
namespace aC
variable (R:aC)
def rg (a:Nat):List Nat:=R.rs.getD a []
def of (i:Nat):Option Nat:=R.rs.findIdx? fun r=>decide (i∈r)
structure Ok:Prop where
 perm:(R.rs.flatten++R.rest).Perm (Ms R.n)
 two:∀ r∈R.rs,2<=r.length
 st1:∀ a,1<=R.st a/\R.st a<=9
 n12:R.n<=12
def cnt (C:Nat->Bool):Nat:=((Ms R.n).filter fun i=>match R.of i with | some a=>C a | none=>false).length
def gvA (C:Nat->Bool) (i:Nat):Int:=match R.of i with
 | some a=>if C a=true then R.st a else 0
 | none=>if R.rs≠[]/\R.many<=(R.cnt C:Int) then 3 else 0
def gv (C:Nat->Bool):List Int:=(Ms R.n).map (R.gvA C)
structure Bk (bk:List (List Pl)):Prop where
 len:bk.length=R.n
 ok:okB bk
 ring:∀ a k i j,(R.rg a)[k]? = some i->(R.rg a)[(k+1) % (R.rg a).length]? = some j->∀ g:List Int,duF g 0 (bk.getD i [])=if (a=R.fr/\k=0)∨R.st a<=g.getD j 0 then R.st a else 0
 rest:∀ i∈R.rest,∀ g:List Int,duF g 0 (bk.getD i [])=if R.rs≠[]/\R.many<=(((Ms R.n).filter fun i=>(R.of i).isSome && decide (1<=g.getD i 0)).length:Int) then 3 else 0
variable {R}
theorem jg {a i:Nat} (h:i∈R.rg a):a < R.rs.length/\R.rg a∈R.rs:=by
 unfold rg at h ⊢
 by_cases z:a < R.rs.length
 ·rw[Mg,Mi z]
  exact⟨z,Nk z⟩
 ·rw[Mg,Px (by lia)] at h
  cases h
theorem jd (O:R.Ok):(R.rs.flatten++R.rest).Nodup:=O.perm.nodup_iff.mpr Uz
theorem vp {rs:List (List Nat)} (nd:rs.flatten.Nodup):∀ {a b i:Nat},i∈rs.getD a []->i∈rs.getD b []->a=b:=by
 induction rs with
 | nil=>intro a b i h; simp at h
 | cons r rs ih =>
  intro a b i ha hb
  rw[O1,Us] at nd
  cases a with
  | zero =>
   cases b with
   | zero=>rfl
   | succ b =>
    refine absurd rfl (nd.2.2 i (by simpa using ha) i ?_)
    rw[T5] at hb
    by_cases z:b < rs.length
    ·rw[Mg,Mi z] at hb
     exact List.mem_flatten.mpr ⟨_,Nk z,hb⟩
    ·rw[Mg,Px (by lia)] at hb
     cases hb
  | succ a =>
   cases b with
   | zero =>
    refine absurd rfl (nd.2.2 i (by simpa using hb) i ?_)
    rw[T5] at ha
    by_cases z:a < rs.length
    ·rw[Mg,Mi z] at ha
     exact List.mem_flatten.mpr ⟨_,Nk z,ha⟩
    ·rw[Mg,Px (by lia)] at ha
     cases ha
   | succ b =>
    rw[T5] at ha hb
    rw[ih nd.2.1 ha hb]
theorem apart (O:R.Ok) {a b i:Nat} (ha:i∈R.rg a) (hb:i∈R.rg b):a=b:=vp (List.nodup_append.mp (jd O)).1 ha hb
theorem eG (O:R.Ok) {a i:Nat} (h:i∈R.rg a):R.of i=some a:=by
 obtain⟨ha,hm⟩:=jg h
 cases e:R.of i with
 | none =>
  unfold of at e
  rw[List.findIdx?_eq_none_iff] at e
  have:=e _ hm
  rw[decide_eq_true h] at this
  cases this
 | some b =>
  unfold of at e
  obtain⟨hb,h1,_⟩:=List.findIdx?_eq_some_iff_getElem.mp e
  have h2:i∈R.rg b:=by
   unfold rg
   rw[Mg,Mi hb]
   exact of_decide_eq_true h1
  rw[apart O h2 h]
theorem jk {a i:Nat} (h:R.of i=some a):i∈R.rg a:=by
 unfold of at h
 obtain⟨hb,h1,_⟩:=List.findIdx?_eq_some_iff_getElem.mp h
 unfold rg
 rw[Mg,Mi hb]
 exact of_decide_eq_true h1
theorem cV (O:R.Ok) {a i:Nat} (h:i∈R.rg a):i < R.n:=by
 obtain⟨_,hm⟩:=jg h
 exact List.mem_range.mp (O.perm.mem_iff.mp (R3 _ (List.mem_flatten.mpr ⟨_,hm,h⟩)))
theorem of_none (O:R.Ok) {i:Nat} (hi:i < R.n):R.of i=none ↔ i∈R.rest:=by
 constructor
 ·intro h
  rcases List.mem_append.mp (O.perm.mem_iff.mpr (List.mem_range.mpr hi)) with z | z
  ·obtain⟨r,hr,hir⟩:=List.mem_flatten.mp z
   unfold of at h
   rw[List.findIdx?_eq_none_iff] at h
   have:=h r hr
   rw[decide_eq_true hir] at this
   cases this
  ·exact z
 ·intro h
  cases e:R.of i with
  | none=>rfl
  | some a =>
   have h1:=jk e
   have:=(List.nodup_append.mp (jd O)).2.2 i (List.mem_flatten.mpr ⟨_,(jg h1).2,h1⟩) i h
   exact absurd rfl this
theorem dD {C:Nat->Bool} {i:Nat} (h:i < R.n):(R.gv C).getD i 0=R.gvA C i:=by
 unfold gv
 rw[Mg,Nj,Rg h]
 rfl
theorem dU (C:Nat->Bool):(R.gv C).length=R.n:=by unfold gv; rw[Mf,MN]
theorem bR (O:R.Ok) {C:Nat->Bool} {a i:Nat} (h:i∈R.rg a):R.gvA C i=if C a=true then R.st a else 0:=by
 unfold gvA
 rw[eG O h]
theorem iU (O:R.Ok) {C:Nat->Bool} {i:Nat} (hi:i < R.n) (h:i∈R.rest):R.gvA C i=if R.rs≠[]/\R.many<=(R.cnt C:Int) then 3 else 0:=by
 unfold gvA
 rw[(of_none O hi).mpr h]
theorem cj (O:R.Ok) (C:Nat->Bool):okG R.n (R.gv C):=lH (dU C) fun i hi=>by
 rw[dD hi]
 unfold gvA
 split
 ·have:=O.st1 ‹_›
  split <;> lia
 ·split <;> lia
theorem gW (O:R.Ok) {i:Nat} (hi:i < R.n):(∃ a k j,i∈R.rg a/\(R.rg a)[k]? = some i/\(R.rg a)[(k+1) % (R.rg a).length]? = some j/\j∈R.rg a)∨i∈R.rest:=by
 cases e:R.of i with
 | none=>exact .inr ((of_none O hi).mp e)
 | some a =>
  have h:=jk e
  obtain⟨k,hk,ek⟩:=OJ h
  have hl:0 < (R.rg a).length:=by lia
  have hj:=Ug (k+1) hl
  exact .inl ⟨a,k,(R.rg a)[(k+1) % (R.rg a).length],h,by rw[Mi hk,ek],Mi hj,Nk hj⟩
theorem CT (O:R.Ok) (C:Nat->Bool):((Ms R.n).filter fun i=>(R.of i).isSome && decide (1<=(R.gv C).getD i 0)).length=R.cnt C:=by
 unfold cnt
 congr 1
 refine O9 fun i hi=>?_
 rw[dD (List.mem_range.mp hi)]
 unfold gvA
 cases e:R.of i with
 | none=>rfl
 | some a =>
  have:=O.st1 a
  show (true && decide (1<=if C a=true then R.st a else 0))=C a
  cases c:C a with
  | true =>
   rw[if_pos rfl,decide_eq_true this.1]
   rfl
  | false=>rfl
theorem BL {C D:Nat->Bool} (h:∀ a,C a=true->D a=true):R.cnt C<=R.cnt D:=by
 unfold cnt
 refine filter_le _ _ (fun i e=>?_) _
 revert e
 cases R.of i with
 | none=>exact id
 | some a=>exact h a
theorem Dn (O:R.Ok) {bk:List (List Pl)} (B:R.Bk bk) {C:Nat->Bool} (hC:∀ a,a < R.rs.length->a=R.fr->C a=true) {i:Nat} (hi:i < R.n):duF (R.gv C) 0 (bk.getD i [])=(R.gv C).getD i 0:=by
 rcases gW O hi with⟨a,k,j,hia,hk,hj,hja⟩ | h
 ·rw[B.ring a k i j hk hj,dD hi,dD (cV O hja),bR O hia,bR O hja]
  have s1:=O.st1 a
  have ha:=(jg hia).1
  by_cases c:C a=true
  ·rw[if_pos c,if_pos (.inr (N6 _))]
  ·rw[if_neg c,if_neg]
   rintro (⟨z,_⟩ | z)
   ·exact c (hC a ha z)
   ·lia
 ·rw[B.rest i h,CT O,dD hi,iU O hi h]
def Good (R:aC) (C:Nat->Bool):Prop:=∀ a,a < R.rs.length->a=R.fr->C a=true
theorem Dt (O:R.Ok) {bk:List (List Pl)} (B:R.Bk bk) {C:Nat->Bool} (hC:R.Good C) {fl:List Int} (of:okG R.n fl) (l:LeG fl (R.gv C)):cM (R.gv C) fl bk=R.gv C:=by
 have o1:=di B.len B.ok of (R.gv C)
 refine cg (by rw[o1.1,dU]) (gJ o1.1 (dU C) fun i hi=>?_) (gJ (dU C) o1.1 fun i hi=>?_)
 ·rw[bF B.len of _ hi,Dn O B hC hi]
  have:=l i
  lia
 ·rw[bF B.len of _ hi,Dn O B hC hi]
  lia
theorem G6 (O:R.Ok) {C D:Nat->Bool} (h:∀ a,C a=true->D a=true):LeG (R.gv C) (R.gv D):=gJ (dU C) (dU D) fun i hi=>by
 rw[dD hi,dD hi]
 unfold gvA
 cases e:R.of i with
 | none =>
  have:=BL (R:=R) h
  dsimp only
  by_cases z:R.rs≠[]/\R.many<=(R.cnt C:Int)
  ·rw[if_pos z,if_pos ⟨z.1,by lia⟩]
   exact N6 _
  ·rw[if_neg z]
   split <;> decide
 | some a =>
  have:=O.st1 a
  dsimp only
  by_cases c:C a=true
  ·rw[if_pos c,if_pos (h a c)]
   exact N6 _
  ·rw[if_neg c]
   split <;> lia
theorem Eo (O:R.Ok) {bk:List (List Pl)} (B:R.Bk bk) {g:List Int} {a i:Nat} (h:i∈R.rg a):duF g 0 (bk.getD i [])<=R.st a:=by
 rcases gW O (cV O h) with⟨b,k,j,hib,hk,hj,_⟩ | z
 ·cases apart O h hib
  rw[B.ring a k i j hk hj]
  have:=O.st1 a
  split <;> lia
 ·have:=(of_none O (cV O h)).mpr z
  rw[eG O h] at this
  cases this
theorem FW (O:R.Ok) {bk:List (List Pl)} (B:R.Bk bk) {fl:List Int} (of:okG R.n fl) (l:LeG fl (R.gv fun _=>true)):wA R.n fl bk (R.gv fun _=>true):=by
 refine⟨cj O _,Dt O B (fun _ _ _=>rfl) of l,fun g h i=>?_⟩
 by_cases hi:i < R.n
 ·have h1:=h i
  rw[bF B.len of _ hi] at h1
  have h2:=l i
  suffices z:duF g 0 (bk.getD i [])<=(R.gv fun _=>true).getD i 0 by lia
  rw[dD hi]
  rcases gW O hi with⟨a,k,j,hia,hk,hj,hja⟩ | z
  ·rw[bR O hia,if_pos rfl]
   exact Eo O B hia
  ·rw[B.rest i z,iU O hi z]
   have:((Ms R.n).filter fun i=>(R.of i).isSome && decide (1<=g.getD i 0)).length<=R.cnt fun _=>true:=by
    unfold cnt
    refine filter_le _ _ (fun i e=>?_) _
    revert e
    cases R.of i with
    | none=>intro e; cases e
    | some a=>intro _; rfl
   by_cases c:R.rs≠[]/\R.many<=(((Ms R.n).filter fun i=>(R.of i).isSome && decide (1<=g.getD i 0)).length:Int)
   ·rw[if_pos c,if_pos ⟨c.1,by lia⟩]
    exact N6 _
   ·rw[if_neg c]
    split <;> decide
 ·have h1:=h i
  rw[jY (g:=cM g fl bk) (by rw[(di B.len B.ok of g).1]; lia)] at h1
  rw[jY (g:=R.gv _) (by rw[dU]; lia)]
  exact h1
theorem around {L:Nat} {P:Nat->Prop} {j0:Nat} (hj:j0 < L) (h0:P j0) (st:∀ k,k < L->P ((k+1) % L)->P k):∀ k,k < L->P k:=by
 have key:∀ d k,k < L->(k+d) % L=j0->P k:=by
  intro d
  induction d with
  | zero =>
   intro k hk e
   rw[Nat.add_zero,Nat.mod_eq_of_lt hk] at e
   rw[e]
   exact h0
  | succ d ih =>
   intro k hk e
   refine st k hk (ih _ (Ug _ (by lia)) ?_)
   rw[Nat.mod_add_mod,← e]
   congr 1
   lia
 intro k hk
 refine key (j0+L - k) k hk ?_
 rw[show k+(j0+L - k)=j0+L by lia,Nat.add_mod_right,Nat.mod_eq_of_lt hj]
theorem zG (O:R.Ok) {bk:List (List Pl)} (B:R.Bk bk) {C:Nat->Bool} (hC:R.Good C) {fl:List Int} (of:okG R.n fl) (l:LeG fl (R.gv C))
  (hm:∀ g,LeG (cM g fl bk) g->∀ a i,C a=true->i∈R.rg a->R.st a<=g.getD i 0):Low R.n fl bk (R.gv C):=by
 refine⟨cj O _,Dt O B hC of l,fun g h i=>?_⟩
 by_cases hi:i < R.n
 ·have h1:=h i
  rw[bF B.len of _ hi] at h1
  rw[dD hi]
  have f0:=cJ of hi
  rcases gW O hi with⟨a,k,j,hia,hk,hj,hja⟩ | z
  ·rw[bR O hia]
   by_cases c:C a=true
   ·rw[if_pos c]
    exact hm g h a i c hia
   ·rw[if_neg c]
    lia
  ·rw[B.rest i z] at h1
   rw[iU O hi z]
   have:R.cnt C<=((Ms R.n).filter fun i=>(R.of i).isSome && decide (1<=g.getD i 0)).length:=by
    unfold cnt
    refine filter_le _ _ (fun i e=>?_) _
    revert e
    cases e':R.of i with
    | none=>intro e; cases e
    | some a =>
     intro e
     have:=hm g h a i e (jk e')
     have:=O.st1 a
     rw[decide_eq_true (by lia)]
     rfl
   by_cases c:R.rs≠[]/\R.many<=(R.cnt C:Int)
   ·rw[if_pos c]
    rw[if_pos ⟨c.1,by lia⟩] at h1
    lia
   ·rw[if_neg c]
    split at h1 <;> lia
 ·have h1:=h i
  rw[jY (g:=cM g fl bk) (by rw[(di B.len B.ok of g).1]; lia)] at h1
  rw[jY (g:=R.gv _) (by rw[dU]; lia)]
  exact h1
theorem fV (O:R.Ok) {bk:List (List Pl)} (B:R.Bk bk) {C:Nat->Bool} (hC:R.Good C):Low R.n (R.gv C) bk (R.gv C):=zG O B hC (cj O C) (bI _) fun g h a i c hi=>by
 have h1:=h i
 rw[bF B.len (cj O C) _ (cV O hi),dD (cV O hi),bR O hi,if_pos c] at h1
 lia
def zeros (n:Nat):List Int:=Mz n 0
theorem uG (n i:Nat):(zeros n).getD i 0=0:=by
 unfold zeros
 rw[Mg,Pj]
 split <;> rfl
theorem fP (n:Nat):okG n (zeros n):=lH (by unfold zeros; rw[Nv]) fun i _=>by rw[uG]; decide
theorem uH (O:R.Ok) (C:Nat->Bool):LeG (zeros R.n) (R.gv C):=gJ (fP R.n).1 (dU C) fun i hi=>by
 rw[uG]
 exact (cJ (cj O C) hi).1
theorem gR (O:R.Ok) {bk:List (List Pl)} (B:R.Bk bk):Low R.n (zeros R.n) bk (R.gv fun a=>decide (a=R.fr)):=by
 refine zG O B (fun a _ e=>decide_eq_true e) (fP _) (uH O _) fun g h a i c hi=>?_
 have ea:a=R.fr:=of_decide_eq_true c
 subst ea
 obtain⟨k,hk,ek⟩:=OJ hi
 have key:∀ k,k < (R.rg R.fr).length->∀ i,(R.rg R.fr)[k]? = some i->R.st R.fr<=g.getD i 0:=by
  have one:∀ k i j,(R.rg R.fr)[k]? = some i->(R.rg R.fr)[(k+1) % (R.rg R.fr).length]? = some j->(k=0∨R.st R.fr<=g.getD j 0)->R.st R.fr<=g.getD i 0:=fun k i j e1 e2 hk=>by
   have hin:=cV O (MJ e1)
   have h1:=h i
   rw[bF B.len (fP _) _ hin,B.ring _ k i j e1 e2,if_pos (hk.elim (fun z=>.inl ⟨rfl,z⟩) .inr)] at h1
   lia
  have nx:∀ k,k < (R.rg R.fr).length->(R.rg R.fr)[(k+1) % (R.rg R.fr).length]? = some ((R.rg R.fr)[(k+1) % (R.rg R.fr).length]'(Ug _ (by lia))):=fun k hk=>Mi _
  refine around (L:=(R.rg R.fr).length) (j0:=0) (by lia) (fun i e=>one 0 i _ e (nx 0 (by lia)) (.inl rfl)) fun k hk ih i e=>one k i _ e (nx k hk) (.inr (ih _ (nx k hk)))
 exact key k hk i (by rw[Mi hk,ek])
end aC
namespace aC
variable {R:aC}
def upA (R:aC) (C:Nat->Bool) (a i:Nat):Int:=if i∈R.rg a then R.st a else R.gvA C i
def up (R:aC) (C:Nat->Bool) (a:Nat):List Int:=(Ms R.n).map (R.upA C a)
theorem kE {C:Nat->Bool} {a i:Nat} (h:i < R.n):(R.up C a).getD i 0=R.upA C a i:=by
 unfold up
 rw[Mg,Nj,Rg h]
 rfl
theorem ni (C:Nat->Bool) (a:Nat):(R.up C a).length=R.n:=by unfold up; rw[Mf,MN]
theorem zK (O:R.Ok) (C:Nat->Bool) (a:Nat):okG R.n (R.up C a):=lH (ni C a) fun i hi=>by
 rw[kE hi]
 unfold upA
 have h1:=O.st1 a
 have h2:=cJ (cj O C) hi
 rw[dD hi] at h2
 split <;> lia
theorem J0 (O:R.Ok) {C:Nat->Bool} {a:Nat}:LeG (R.gv C) (R.up C a):=gJ (dU C) (ni C a) fun i hi=>by
 rw[dD hi,kE hi]
 unfold upA
 have:=O.st1 a
 by_cases z:i∈R.rg a
 ·rw[if_pos z,bR O z]
  split <;> lia
 ·rw[if_neg z]
  exact N6 _
theorem qC (O:R.Ok) {bk:List (List Pl)} (B:R.Bk bk) {C:Nat->Bool} {a:Nat} {c:List Nat} (hc:∀ i∈R.rg a,i∈c):InS R.n (R.gv C) bk (R.gv C) c (R.up C a):=by
 refine⟨zK O C a,fun i hi hn=>?_,J0 O,gJ (ni C a) (di B.len B.ok (cj O C) _).1 fun i hi=>?_⟩
 ·rw[kE hi,dD hi]
  unfold upA
  rw[if_neg fun z=>hn (hc i z)]
 ·rw[bF B.len (cj O C) _ hi]
  by_cases z:i∈R.rg a
  ·rcases gW O hi with⟨b,k,j,hib,hk,hj,hja⟩ | w
   ·cases apart O z hib
    rw[B.ring a k i j hk hj,kE hi,kE (cV O hja)]
    unfold upA
    rw[if_pos z,if_pos hja,if_pos (.inr (N6 _))]
    lia
   ·have:=(of_none O hi).mpr w
    rw[eG O z] at this
    cases this
  ·rw[kE hi,dD hi]
   unfold upA
   rw[if_neg z]
   lia
theorem Dq (O:R.Ok) {bk:List (List Pl)} (B:R.Bk bk) {C:Nat->Bool} {a:Nat} (hC:C a=false) {c:List Nat} (hc:∀ i,i∈c ↔ i∈R.rg a):wB R.n (R.gv C) bk (R.gv C) c (R.up C a):=by
 refine⟨qC O B fun i hi=>(hc i).mpr hi,fun w hw=>gJ hw.1.1 (ni C a) fun i hi=>?_⟩
 rw[kE hi]
 unfold upA
 by_cases z:i∈R.rg a
 ·rw[if_pos z]
  have h1:=hw.2.2.2 i
  have h2:=Eo O B (g:=w) z
  have h3:=O.st1 a
  rw[bF B.len (cj O C) _ hi,dD hi,bR O z,hC] at h1
  simp only[O4,if_false] at h1
  lia
 ·rw[if_neg z,hw.2.1 i hi fun w=>z ((hc i).mp w),dD hi]
  exact N6 _
theorem JL (O:R.Ok) {bk:List (List Pl)} (B:R.Bk bk) {C:Nat->Bool} (hg:R.Good C) {a:Nat} (ha:a < R.rs.length) (hC:C a=false) {c:List Nat} (hc:∀ i∈R.rg a,i∈c):al R.n (R.gv C) bk (R.gv C) c≠R.gv C:=fun e=>by
 have h:=(bT B.len B.ok (cj O C) (fV O B hg) c).2 _ (qC O B hc)
 rw[e] at h
 have hr:R.rg a∈R.rs:=by
  unfold rg
  rw[Mg,Mi ha]
  exact Nk ha
 have h2:=O.two _ hr
 have hi:(R.rg a)[0]'(by lia)∈R.rg a:=Nk _
 have:=h ((R.rg a)[0]'(by lia))
 rw[kE (cV O hi),dD (cV O hi),bR O hi,hC] at this
 unfold upA at this
 rw[if_pos hi] at this
 have:=O.st1 a
 simp only[O4,if_false] at *
 lia
theorem Il (O:R.Ok) {bk:List (List Pl)} (B:R.Bk bk) {C:Nat->Bool} (hg:R.Good C) {c:List Nat} (h:∀ a,a < R.rs.length->C a=false->∃ j∈R.rg a,j ∉ c):al R.n (R.gv C) bk (R.gv C) c=R.gv C:=by
 have mx:=(bT B.len B.ok (cj O C) (fV O B hg) c).1
 generalize al R.n (R.gv C) bk (R.gv C) c=g at mx
 obtain⟨og,out,lo,kp⟩:=mx
 have rings:∀ a i,i∈R.rg a->g.getD i 0<=(R.gv C).getD i 0:=fun a i hi=>by
  have hin:=cV O hi
  have ha:=(jg hi).1
  rw[dD hin,bR O hi]
  cases cC:C a with
  | true =>
   have h1:=kp i
   have h2:=Eo O B (g:=g) hi
   rw[bF B.len (cj O C) _ hin,dD hin,bR O hi,cC] at h1
   simp only[if_true] at h1 ⊢
   lia
  | false =>
   obtain⟨j,hj,nj⟩:=h a ha cC
   have key:∀ k,k < (R.rg a).length->∀ i,(R.rg a)[k]? = some i->g.getD i 0<=0:=by
    obtain⟨j0,hj0,ej⟩:=OJ hj
    have nx:∀ k,k < (R.rg a).length->(R.rg a)[(k+1) % (R.rg a).length]? = some ((R.rg a)[(k+1) % (R.rg a).length]'(Ug _ (by lia))):=fun k hk=>Mi _
    refine around (L:=(R.rg a).length) (j0:=j0) hj0 (fun i e=>?_) fun k hk ih i e=>?_
    ·rw[Mi hj0,ej] at e
     cases e
     have:=out j (cV O hj) nj
     rw[dD (cV O hj),bR O hj,cC] at this
     simp only[O4,if_false] at this
     lia
    ·have hia:=MJ e
     have h0:=ih _ (nx k hk)
     have h1:=kp i
     have s1:=O.st1 a
     rw[bF B.len (cj O C) _ (cV O hia),dD (cV O hia),bR O hia,cC,if_neg Mr,B.ring a k i _ e (nx k hk),if_neg] at h1
     ·lia
     ·rintro (⟨z,_⟩ | z)
      ·have:=hg a ha z
       rw[cC] at this
       cases this
      ·lia
   obtain⟨k,hk,ek⟩:=OJ hi
   simp only[O4,if_false]
   exact key k hk i (by rw[Mi hk,ek])
 refine cg (by rw[og.1,dU]) (gJ og.1 (dU C) fun i hi=>?_) lo
 rcases gW O hi with⟨a,k,j,hia,_⟩ | z
 ·exact rings a i hia
 ·have h1:=kp i
  rw[bF B.len (cj O C) _ hi,B.rest i z] at h1
  have same:((Ms R.n).filter fun i=>(R.of i).isSome && decide (1<=g.getD i 0)).length=R.cnt C:=by
   rw[← CT O C]
   congr 1
   refine O9 fun j hj=>?_
   cases e:R.of j with
   | none=>rfl
   | some a =>
    have h2:=rings a j (jk e)
    have h3:=lo j
    rw[show g.getD j 0=(R.gv C).getD j 0 by lia]
  rw[same,dD hi,iU O hi z] at h1
  rw[dD hi,iU O hi z]
  lia
theorem nM (O:R.Ok) {bk:List (List Pl)} (B:R.Bk bk) {C:Nat->Bool} (hg:R.Good C) {c:List Nat}:Knot R.n (R.gv C) bk (R.gv C) c ↔ ∃ a,a < R.rs.length/\C a=false/\∀ i,i∈c ↔ i∈R.rg a:=by
 constructor
 ·rintro⟨h1,h2⟩
  have:∃ a,a < R.rs.length/\C a=false/\∀ i∈R.rg a,i∈c:=Pu fun z=>h1 (Il O B hg fun a ha hC=>Pu fun y=>z ⟨a,ha,hC,fun i hi=>Pu fun x=>y ⟨i,hi,x⟩⟩)
  obtain⟨a,ha,hC,hs⟩:=this
  refine⟨a,ha,hC,fun i=>⟨fun hi=>Pu fun z=>?_,hs i⟩⟩
  exact JL O B hg ha hC (c:=c.filter fun j=>decide (j≠i)) (fun j hj=>List.mem_filter.mpr ⟨hs j hj,decide_eq_true fun e=>z (e▸hj)⟩) (h2 i hi)
 ·rintro⟨a,ha,hC,hs⟩
  refine⟨JL O B hg ha hC fun i hi=>(hs i).mpr hi,fun one ho=>Il O B hg fun b hb hD=>?_⟩
  by_cases e:a=b
  ·subst e
   exact⟨one,(hs one).mp ho,fun z=>absurd rfl (of_decide_eq_true (List.mem_filter.mp z).2)⟩
  ·have hr:R.rg b∈R.rs:=by
    unfold rg
    rw[Mg,Mi hb]
    exact Nk hb
   have h2:=O.two _ hr
   have hi:(R.rg b)[0]'(by lia)∈R.rg b:=Nk _
   exact⟨_,hi,fun z=>e (apart O ((hs _).mp (List.mem_filter.mp z).1) hi)⟩
def sr (R:aC) (a:Nat):List Nat:=(Ms R.n).filter fun i=>decide (i∈R.rg a)
theorem ik (O:R.Ok) {a i:Nat}:i∈R.sr a ↔ i∈R.rg a:=by
 unfold sr
 rw[QG,QZ,decide_eq_true_eq]
 exact⟨fun h=>h.2,fun h=>⟨cV O h,h⟩⟩
theorem Fy (R:aC) (a:Nat):(R.sr a).Pairwise (· < ·):=List.pairwise_lt_range.filter _
theorem HX (O:R.Ok) {a:Nat} {c:List Nat} (hc:c.Pairwise (· < ·)) (hs:∀ i,i∈c ↔ i∈R.rg a):c=R.sr a:=by
 rw[← fC (n:=R.n) hc fun i hi=>cV O ((hs i).mp hi)]
 unfold sr
 exact O9 fun i _=>decide_eq_decide.mpr (hs i)
theorem few (O:R.Ok) {bk:List (List Pl)} (B:R.Bk bk) {C:Nat->Bool} (hg:R.Good C) {fl:List Int} (of:okG R.n fl) (lo:Low R.n fl bk (R.gv C)) (l6:R.rs.length<=6):JR R.n fl bk:=fun lo' h' F nd hF=>by
 cases Low.uniq lo h'
 have:F.length<=((Ms R.rs.length).map R.sr).length:=bC nd fun c hc=>by
  obtain⟨h1,h2,h3⟩:=hF c hc
  obtain⟨a,ha,_,hs⟩:=(nM O B hg).mp ((lM B.len B.ok of lo c).mpr h3)
  exact List.mem_map.mpr ⟨a,List.mem_range.mpr ha,(HX O h1 hs).symm⟩
 rw[Mf,MN] at this
 lia
theorem j4 (O:R.Ok) {bk:List (List Pl)} (B:R.Bk bk) {C:Nat->Bool} (hg:R.Good C) {fl:List Int} (of:okG R.n fl) (lo:Low R.n fl bk (R.gv C)) {as:List Nat} (h1:∀ a,a∈as ↔ a < R.rs.length/\C a=false) (h2:as.Pairwise fun a b=>HT.lexLt (iN (R.sr a)) (iN (R.sr b))=true):bx R.n fl bk (as.map R.sr):=by
 refine⟨fun lo' h' c=>?_,List.pairwise_map.mpr h2⟩
 cases Low.uniq lo h'
 constructor
 ·intro h
  obtain⟨a,ha,rfl⟩:=List.mem_map.mp h
  obtain⟨h3,h4⟩:=(h1 a).mp ha
  exact⟨Fy R a,fun i hi=>cV O ((ik O).mp hi),(lM B.len B.ok of lo _).mp ((nM O B hg).mpr ⟨a,h3,h4,fun i=>ik O⟩)⟩
 ·rintro⟨h3,h4,h5⟩
  obtain⟨a,ha,hC,hs⟩:=(nM O B hg).mp ((lM B.len B.ok of lo c).mpr h5)
  exact List.mem_map.mpr ⟨a,(h1 a).mpr ⟨ha,hC⟩,(HX O h3 hs).symm⟩
theorem Aq (O:R.Ok) {bk:List (List Pl)} (B:R.Bk bk) {C:Nat->Bool} (hg:R.Good C) (a:Nat):Low R.n (R.up C a) bk (R.gv fun b=>C b || decide (b=a)):=by
 refine zG O B (fun b h1 h2=>by rw[hg b h1 h2]; rfl) (zK O C a) ?_ fun g h b i c hi=>?_
 ·refine gJ (ni C a) (dU _) fun i hi=>?_
  rw[kE hi]
  unfold upA
  by_cases z:i∈R.rg a
  ·rw[if_pos z,dD hi,bR O z,if_pos (by rw[decide_eq_true rfl,Tg])]
   exact N6 _
  ·rw[if_neg z,← dD hi]
   exact G6 O (fun b e=>by rw[e]; rfl) i
 ·have h1:=h i
  rw[bF B.len (zK O C a) _ (cV O hi),kE (cV O hi)] at h1
  unfold upA at h1
  by_cases z:i∈R.rg a
  ·cases apart O z hi
   rw[if_pos z] at h1
   lia
  ·rw[if_neg z,bR O hi] at h1
   have hb:b≠a:=fun e=>z (e▸hi)
   have:C b=true:=by
    rw[decide_eq_false hb,S7] at c
    exact c
   rw[if_pos this] at h1
   lia
def clo (R:aC) (as:List Nat) (t:Nat) (a:Nat):Bool:=decide (a=R.fr) || decide (a∈as.take t)
structure Left (R:aC) (as:List Nat):Prop where
 mem:∀ a,a∈as ↔ a < R.rs.length/\a≠R.fr
 nd:as.Nodup
 up:as.Pairwise fun a b=>HT.lexLt (iN (R.sr a)) (iN (R.sr b))=true
theorem gQ (R:aC) (as:List Nat) (t:Nat):R.Good (R.clo as t):=fun a _ e=>by unfold clo; rw[decide_eq_true e]; rfl
theorem nA {as:List Nat} (L:R.Left as) (t a:Nat):a∈as.drop t ↔ a < R.rs.length/\R.clo as t a=false:=by
 have nd:=L.nd
 rw[← Tv t as,Us] at nd
 have sp:a∈as ↔ a∈as.take t∨a∈as.drop t:=by
  conv=>lhs; rw[← Tv t as]
  exact Qj
 unfold clo
 rw[Bool.or_eq_false_iff,decide_eq_false_iff_not,decide_eq_false_iff_not]
 constructor
 ·intro h
  have:=(L.mem a).mp (sp.mpr (.inr h))
  exact⟨this.1,this.2,fun z=>nd.2.2 a z a h rfl⟩
 ·rintro⟨h1,h2,h3⟩
  exact (sp.mp ((L.mem a).mpr ⟨h1,h2⟩)).resolve_left h3
theorem mR (O:R.Ok) {bk:List (List Pl)} (B:R.Bk bk) {as:List Nat} (L:R.Left as):∀ t,hrF R.n bk (cl R.n bk (zeros R.n)) t=R.gv (R.clo as t)
 | 0=>by
  have:R.clo as 0=fun a=>decide (a=R.fr):=funext fun a=>by unfold clo; rw[Od]; simp
  show cl R.n bk (zeros R.n)=_
  rw[this]
  exact yJ (gR O B)
 | t+1=>by
  show nxF R.n bk (hrF R.n bk (cl R.n bk (zeros R.n)) t)=_
  rw[mR O B L t]
  have gd:=gQ R as t
  have lo:=fV O B gd
  have ka:=j4 O B gd (cj O _) lo (nA L t) (L.up.sublist (List.drop_sublist t as))
  unfold nxF
  rw[Bq B.len B.ok (cj O _) lo ka]
  cases e:as.drop t with
  | nil =>
   have:as.take (t+1)=as.take t:=by
    have:as.length<=t:=List.drop_eq_nil_iff.mp e
    rw[RC this,RC (by lia)]
   show cl R.n bk (al R.n _ bk _ [])=_
   rw[m8 B.len B.ok (cj O _) lo,yJ lo]
   unfold clo
   rw[this]
  | cons a r =>
   show cl R.n bk (al R.n _ bk _ (R.sr a))=_
   have hC:=((nA L t a).mp (by rw[e]; exact Ml)).2
   rw[← tM B.len B.ok (cj O _) lo (Dq O B hC fun i=>ik O),yJ (Aq O B gd a)]
   congr 1
   funext b
   have ht:as[t]? = some a:=by
    have:=congrArg List.head? e
    rw[List.head?_drop] at this
    exact this
   unfold clo
   rw[Nt,ht,Bool.or_assoc]
   congr 1
   rw[Qc,QJ,decide_eq_true_eq,decide_eq_true_eq,decide_eq_true_eq,Qj]
   exact or_congr Iff.rfl (Uh (α:=Nat)).symm
theorem yx (O:R.Ok) {bk:List (List Pl)} (B:R.Bk bk) {as:List Nat} (L:R.Left as) (t:Nat):kN R.n bk (R.gv (R.clo as t))=(as.drop t).map R.sr :=
 Bq B.len B.ok (cj O _) (fV O B (gQ R as t)) (j4 O B (gQ R as t) (cj O _) (fV O B (gQ R as t)) (nA L t) (L.up.sublist (List.drop_sublist t as)))
theorem Fj (O:R.Ok) {bk:List (List Pl)} (B:R.Bk bk) {as:List Nat} (L:R.Left as):vK R.n bk (cl R.n bk (zeros R.n)) as.length:=by
 refine⟨by rw[mR O B L,yx O B L,List.drop_length]; rfl,fun j hj e=>?_⟩
 rw[mR O B L,yx O B L] at e
 have:=List.drop_eq_nil_iff.mp (List.map_eq_nil_iff.mp e)
 lia
theorem Fp (O:R.Ok) {bk:List (List Pl)} (B:R.Bk bk) {as:List Nat} (L:R.Left as) {m:Nat} (h:vK R.n bk (cl R.n bk (zeros R.n)) m):m=as.length/\prs R.n bk (cl R.n bk (zeros R.n)) m=(Ms as.length).map fun t=>(R.sr (as.getD t 0),R.gv (R.clo as (t+1))):=by
 have e:=h.uniq (Fj O B L)
 subst e
 refine⟨rfl,?_⟩
 unfold prs
 refine R9 fun t ht=>?_
 have ht:=List.mem_range.mp ht
 unfold prF
 rw[mR O B L,mR O B L,yx O B L,Pr ht]
 simp [ht]
end aC
theorem HS {X:Cx} {o e:Expr} {es:List Expr} {to:TE} {t:TA} {name:Ou} {apos cpos:R8} {T id:String} {r:V->List V->Hp->VK->Prop} (K:Nq) (hK:X.K=K) (pa:PlainAttrs T) (slot:Slot T name id) (hty:typeOf (.builtin id)=pure (.type "method_descriptor")) (hm:MtR X id r) (ho:PE X o to) (ha:PA X (e::es) t)
  (hbase:attributeBase o name X.env (Qd o X.env)=Qd o X.env:=by rfl)
  (hfew:((Ru cpos (Nm (e::es) X.env)).all (fun x=>!x.1) && (backToKw cpos (keywordEach [] X.env)).all (fun x=>x.1.isSome)
   && decide ((e::es).length+([]:List Keyword).length+(if ([]:List Keyword).isEmpty then 0 else 1) < 30))=true:=by rfl)
  (hline:(apos.endLine == cpos.line)=true:=by rfl) (hs:Nm (e::es) X.env=(false,Qd e X.env)::Nm es X.env:=by rfl) (hplain:(Ru cpos (Nm es X.env)).any (·.1)=false:=by rfl) :
  PE X (.Call (.Attribute o name apos) (e::es) [] cpos) (tBM K T r to t):=by
 subst hK
 exact jt pa slot hty hm ho ha hbase hfew hline hs hplain
theorem Be {l:Addr} {xs:List V} {k:Nat} {y:V} {H:Hp} {Q:VK} (hl:H l=some (.lst xs)) (hk:k < xs.length) (h5:xs.length<=100) (hy:xs[k]? = some y) (q:Q y (upd H l (.lst (xs.eraseIdx k)))):DK (.ref l) [.int (k:Int)] H Q:=by
 refine⟨l,xs,(k:Int),k,y,rfl,rfl,hl,by lia,by lia,?_,hy,q⟩
 have hj:(if (k:Int) < 0 then (k:Int)+(xs.length:Int) else (k:Int))=(k:Int):=if_neg (by lia)
 have hd:((decide (0<=(k:Int)) && decide ((k:Int) < (xs.length:Int)))=true):=by
  rw[decide_eq_true (by lia),decide_eq_true (by lia)]
  rfl
 show (if (decide (0<=if (k:Int) < 0 then (k:Int)+(xs.length:Int) else (k:Int)) && decide ((if (k:Int) < 0 then (k:Int)+(xs.length:Int) else (k:Int)) < (xs.length:Int)))=true then some (if (k:Int) < 0 then (k:Int)+(xs.length:Int) else (k:Int)).toNat else none)=some k
 rw[hj,if_pos hd,PN]
theorem m6 {α:Type}:∀ {xs:List α} {k:Nat} {y:α},xs[k]? = some y->(y::xs.eraseIdx k).Perm xs
 | [],_,_,h=>by simp at h
 | x::r,0,y,h=>by
  cases (show some x=some y from h)
  exact .refl _
 | x::r,k+1,y,h=>by
  have ih:=m6 (xs:=r) (k:=k) (y:=y) (by simpa using h)
  exact (List.Perm.swap x y (r.eraseIdx k)).trans (ih.cons x)
theorem pJ {α β:Type} (f:α->β):∀ (xs:List α) (k:Nat),(xs.map f).eraseIdx k=(xs.eraseIdx k).map f
 | [],_=>rfl
 | _::_,0=>rfl
 | x::r,k+1=>by
  show f x::(r.map f).eraseIdx k=f x::(r.eraseIdx k).map f
  rw[pJ f r k]
abbrev iK:Stmt:=top 36
theorem cT:aQ ["_law_cell","_law_n","_law_rings_here","_law_rest","_law_pick","_law_length","_law_ring"] ["_law_cell","_law_n"] (aD iK):=⟨rfl,rfl,rfl,by decide+kernel,rfl,by decide+kernel,by decide+kernel⟩
def xF:Sp:=fun vs H Q _=>∃ (c:Int) (n:Nat),vs=[.int c,.int (n:Int)]/\n<=12 ∧
 ∀ (p pr pe:Addr) (us:List V) (rs:List (List Nat)) (rest:List Nat) (H':Hp),aP H H'->H' p=some (.tup [.ref pr,.ref pe])->H' pr=some (.lst us)->LF H H' us rs->H' pe=some (.lst (rest.map vN))->(rs.flatten++rest).Perm (Ms n)->(∀ r∈rs,2<=r.length/\r.length<=4)->Q (.ref p) H'
def RgI (n:Nat) (c:Int) (H H3:Hp) (pr pe:Addr) (σ:St) (Hx:Hp):Prop :=
 ∃ (us:List V) (rs:List (List Nat)) (rest:List Nat) (u4 u5 u6:Option V),σ=[some (.int c),some (.int (n:Int)),some (.ref pr),some (.ref pe),u4,u5,u6]/\aP H Hx/\(∀ a o,a≠pr->a≠pe->H3 a=some o->Hx a=some o) ∧
  Hx pr=some (.lst us)/\LF H3 Hx us rs/\Hx pe=some (.lst (rest.map vN))/\(rs.flatten++rest).Perm (Ms n)/\∀ r∈rs,2<=r.length/\r.length<=4
theorem qy (F:Fun K "_law_rings" "_law_rings" iK f fd) (B:Bt mg)
  (D_law_picks:Df P w K mg base "_law_picks" 2 ["_law_cell","_law_many"] yd):fu P w K mg base CX0 3 f fd ["_law_cell","_law_n"] xF:=by
 refine F.ok cT (fun vs H Q E h=>?_) (fun cdv A outer s H vs Q E hr h=>?_)
 ·obtain⟨c,n,rfl,_⟩:=h
  rfl
 ·obtain⟨c,n,rfl,n12,q⟩:=h
  refine⟨_,(aq (aM (i:=2) cT.nd rfl (MT rfl) (bO ak))
 (aq (aM (i:=3) cT.nd rfl (Td rfl) (jL rfl rfl B.list_ rfl B.range_ (aa (pv 1) ak)))
 (aq (dF Nz rfl (cB (aY D_law_picks hr (aa (pv 0) (aa aF ak)))) (aH (i:=4) cT.nd rfl (Td rfl)) (aq (aM (i:=5) cT.nd rfl (MT rfl) (bB eY aF (bB jD (pv 4) aF)))
 (aq (cU (aX tH (aJ (r:=pQ K) bw rfl B.len_ dX (aa (pv 3) ak)) (pv 5) (aZ _)) (aq (nJ (L:=["_law_k"]) (F:=["_law_rest","_law_pick"]) (cap:=[3,4]) (j:=6) cT.nd rfl (MT rfl) rfl (bG rfl rfl (by kernel_rfl)) (dC rfl B.range_ (aa (pv 5) ak)) (fun _ _ _ _ _=>(aH (i:=0) (aU (by decide+kernel)) rfl (MT rfl))) (fun _ _ _ _ _=>bW) (fun _ _ _ _ _=>(HS K rfl Np PySem.F.slot_list_pop PySem.F.type_list_pop Cg (pv 1) (aa (bB jD (bB rR (pv 2) aF) (aJ (r:=pQ K) bw rfl B.len_ dX (aa (pv 1) ak))) ak))))
 (aA (dM (jt Np NZ NT bM (pv 2) (aa (pv 6) ak))))) aV)
 (aA (cU (PW.pt (CZ (aX iT (bB jD (pv 4) aF) aF (aZ _)) (zy (aX Em (aJ (r:=pQ K) bw rfl B.len_ dX (aa (pv 3) ak)) (bB rR (pv 1) aF) (aZ _))))) (aA (aO (dW (aa (pv 2) (aa (pv 3) ak))))) aV)))))
 (aA (aO (dW (aa (pv 2) (aa (pv 3) ak)))))))),?_⟩
  refine⟨small (by show 0<=1000; decide),fun pr hpr=>?_⟩
  generalize eH1:upd H pr _=H1
  obtain⟨g1,e1⟩:=aR eH1 hpr
  refine⟨_,rfl,n,rfl,by lia,fun pe hpe=>?_⟩
  generalize eH2:upd H1 pe _=H2
  obtain⟨g2,e2⟩:=aR eH2 hpe
  have npp:pr≠pe:=fun z=>by rw[← z,e1] at hpe; cases hpe
  refine⟨_,rfl,c,12,rfl,by decide,fun pk ns H3 s3 fk ln _ ek=>?_⟩
  have npk:pk≠pr/\pk≠pe:=⟨fun z=>(by rw[z,g2 _ _ e1] at fk; cases fk),fun z=>(by rw[z,e2] at fk; cases fk)⟩
  have e13:=s3 _ _ (g2 _ _ e1)
  have e23:=s3 _ _ e2
  have fin:∀ σ Hx,RgI n c H H3 pr pe σ Hx->KC (KN (Bg (JT 2) (Bg (JT 3) Ks))) {nx:=fun _ H'=>Q .non H',rt:=Q} σ Hx:=by
   rintro σ Hx ⟨us,rs,rest,u4,u5,u6,rfl,sx,kp,er,lf,ee,pm,ls⟩
   exact⟨_,rfl,_,rfl,small (by show 2<=1000; decide),fun p hp=>q p pr pe us rs rest _ (sx.trans (au hp _)) aj ((au hp _) _ _ er) ((lf.old (g1.trans (g2.trans s3))).keep fun a c _ e=>(au hp _) _ _ e) ((au hp _) _ _ ee) pm ls⟩
  refine⟨pk,rfl,⟨_,SqL.of ek⟩,cY (K:=K) (a:=pk) (xs:=ns.map V.int) (fun i σ Hx=>RgI n c H H3 pr pe σ Hx) ?_ (fun i σ Hx _ h=>?_) ?_ (fun σ Hx h=>fin σ Hx h)⟩
  ·exact⟨[],[],Ms n,_,_,_,rfl,g1.trans (g2.trans s3),fun a o _ _ h=>h,e13,.nil,by rw[e23,fj],TY _,fun r hr=>by cases hr⟩
  ·obtain⟨us,rs,rest,u4,u5,u6,rfl,sx,kp,_⟩:=h
   exact SqL.of (kp _ _ npk.1 npk.2 ek)
  ·rintro i x σ Hx hx ⟨us,rs,rest,u4,u5,u6,rfl,sx,kp,er,lf,ee,pm,ls⟩
   obtain⟨z,hz,rfl⟩:=int_at hx
   have h1:0<=z % 3:=Qa _ (by lia)
   have h2:z % 3 < 3:=Ph _ (by lia)
   obtain⟨le,ele⟩:∃ m:Nat,2+z % 3=(m:Int):=⟨(2+z % 3).toNat,by lia⟩
   refine gN ?_
   refine aB (fun σ Hy=>σ=[some (.int c),some (.int (n:Int)),some (.ref pr),some (.ref pe),some (.int z),some (.int (le:Int)),u6]/\Hx=Hy) ?q1 ?t1
   case t1 =>
    intro N R
    refine⟨_,rfl,_,_,rfl,rfl,(by show (0:Int) < 3; decide),_,_,rfl,rfl,?_⟩
    refine R _ _ ⟨?_,rfl⟩
    show[some (V.int c),some (.int (n:Int)),some (.ref pr),some (.ref pe),some (.int z),some (.int (2+z % 3)),u6]=_
    rw[ele]
   case q1 =>
   rintro σ Hy ⟨rfl,rfl⟩
   have lr:rest.length<=n:=by
    have:=pm.length_eq
    rw[Mv,MN] at this
    lia
   refine aB (fun σ Hy=>∃ u6',RgI n c H H3 pr pe σ Hy/\∃ (us:List V) (rest:List Nat),σ=[some (.int c),some (.int (n:Int)),some (.ref pr),some (.ref pe),some (.int z),some (.int (le:Int)),u6']/\Hy pe=some (.lst (rest.map vN))/\Hy pr=some (.lst us)) ?q2 ?t2
   case t2 =>
    intro N R
    refine⟨_,rfl,pe,_,rfl,.inl (SqL.of ee),_,rfl,_,_,rfl,rfl,_,rfl,?_⟩
    refine CK (fun cc=>?_) (fun cc=>?_)
    ·have lle:le<=rest.length:=by
      have:=of_decide_eq_true cc
      rw[Mf] at this
      lia
     refine⟨_,rfl,_,rfl,by lia,by lia,fun D hD=>dg (lo:=0) (n:=((le:Int)).toNat) (fun i zs σ' H4=>∃ tk rest',(∃ u,σ'=[u,some (.ref pe),some (.int z)])/\zs=(tk:List Nat).map vN/\tk.length=i/\(tk++rest').Perm rest/\H4 pe=some (.lst ((rest':List Nat).map vN))/\H4 D=some (.lst zs)/\aP H H4/\∀ a o,a≠pe->Hx a=some o->H4 a=some o)
      ⟨[],rest,⟨_,rfl⟩,rfl,rfl,TY _,(au hD _) _ _ ee,aj,sx.trans (au hD _),fun a o _ e=>(au hD _) _ _ e⟩ (fun i zs σ' H4 _ h=>?_) ?_ ?_⟩
     ·obtain⟨_,_,_,_,_,_,_,h,_⟩:=h
      exact h
     ·rintro j zs σ' H4 hj ⟨tk,rest',⟨u,rfl⟩,ez,lt,pt,ep,eD,s4,k4⟩
      have hlt:=pt.length_eq
      rw[Mv] at hlt
      have v1:0<=z / 3 % ((rest'.map vN).length:Int):=Qa _ (by rw[Mf]; lia)
      have v2:z / 3 % ((rest'.map vN).length:Int) < ((rest'.map vN).length:Int):=Ph _ (by rw[Mf]; lia)
      obtain⟨kk,hkk⟩:=Int.eq_ofNat_of_zero_le v1
      rw[Mf] at v2
      have hkm:kk < rest'.length:=by
       rw[Mf] at hkk
       lia
      obtain⟨y,hy⟩:∃ y,rest'[kk]? = some y:=⟨_,Mi hkm⟩
      have nD:D≠pe:=fun e=>by rw[e,ee] at hD; cases hD
      refine gT ?_
      refine⟨_,rfl,.inl ⟨rfl,_,SqL.of ep⟩,_,rfl,_,_,rfl,rfl,⟨by decide,by decide⟩,_,rfl,pe,_,rfl,.inl (SqL.of ep),_,_,rfl,rfl,(by show (0:Int) < ((rest'.map vN).length:Int); rw[Mf]; lia),?_⟩
      dsimp only
      rw[hkk]
      unfold Ks
      dsimp only
      refine Be ep (by rw[Mf]; exact hkm) (by rw[Mf]; lia) (y:=vN y) (by rw[Nj,hy]; rfl) ?_
      refine⟨by rw[aL nD]; exact eD,aK (by rw[ez,Mf]; lia),tk++[y],rest'.eraseIdx kk,⟨_,rfl⟩,by rw[ez,Mu]; rfl,by rw[Mv,lt]; rfl,?_,?_,aj,?_,fun a o na e=>?_⟩
      ·rw[PL]
       exact ((m6 hy).append_left tk).trans pt
      ·rw[aL (Rk nD),aj,pJ]
      ·exact aG (aG s4 (g1.free hpe) _) (sx.free hD) _
      ·have naD:a≠D:=fun q=>by rw[q,hD] at e; cases e
       rw[aL naD,aL na]
       exact k4 a o na e
     ·rintro zs σ' H4 ⟨tk,rest',_,ez,lt,pt,ep,eD,s4,k4⟩
      have er4:=k4 _ _ npp er
      have nDr:D≠pr:=fun e=>by rw[e,er] at hD; cases hD
      have nD:D≠pe:=fun e=>by rw[e,ee] at hD; cases hD
      have h3D:H3 D=none:=by
       cases e:H3 D with
       | none=>rfl
       | some o=>rw[kp D o nDr nD e] at hD; cases hD
      have lus:=lf.length
      have lrs:rs.length<=12:=by
       have h1:=pm.length_eq
       rw[Mv,MN] at h1
       have h2:∀ l:List (List Nat),(∀ r∈l,2<=r.length/\r.length<=4)->l.length<=l.flatten.length:=by
        intro l
        induction l with
        | nil=>intro _; exact Mt _
        | cons r l ih =>
         intro h
         have h1:=h r Ml
         have h2:=ih fun x hx=>h x (MF _ hx)
         rw[MK,O1,Mv]
         lia
       have:=h2 rs ls
       lia
      refine⟨_,rfl,.inl ⟨rfl,_,SqL.of er4⟩,_,rfl,pr,us,_,rfl,rfl,er4,aK (by lia),?_⟩
      have kz:∀ a o,a≠pr->H4 a=some o->upd H4 pr (.lst (us++[.ref D])) a=some o:=fun a o na e=>by rw[aL na]; exact e
      have I:RgI n c H H3 pr pe [some (.int c),some (.int (n:Int)),some (.ref pr),some (.ref pe),some (.int z),some (.int (le:Int)),some (.ref D)] (upd H4 pr (.lst (us++[.ref D]))):=by
       refine⟨us++[.ref D],rs++[tk],rest',_,_,_,rfl,aG s4 hpr _,fun a o n1 n2 e=>kz a o n1 (k4 a o n2 (kp a o n1 n2 e)),aj,LF.snoc (kz _ _ nDr (by rw[eD,ez])) h3D (lf.keep fun a c' ha e=>?_),kz _ _ npp.symm ep,?_,fun r hr=>?_⟩
       ·have n1:a≠pr:=fun q=>by rw[q,e13] at ha; cases ha
        have n2:a≠pe:=fun q=>by rw[q,e23] at ha; cases ha
        exact kz _ _ n1 (k4 _ _ n2 e)
       ·rw[T6,List.flatten_singleton,PL]
        exact (pt.append_left rs.flatten).trans pm
       ·rcases List.mem_append.mp hr with h | h
        ·exact ls r h
        ·rw[List.mem_singleton.mp h,lt]
         lia
      exact R _ _ ⟨_,I,us++[.ref D],rest',rfl,kz _ _ npp.symm ep,aj⟩
    ·exact R _ _ ⟨u6,⟨us,rs,rest,_,_,_,rfl,sx,kp,er,lf,ee,pm,ls⟩,us,rest,rfl,ee,er⟩
   case q2 =>
   rintro σ Hy ⟨u6',I,us',rest',rfl,ee',er'⟩
   refine⟨_,rfl,_,_,rfl,rfl,(by show (0:Int) < 5; decide),rfl,_,rfl,?_⟩
   refine CK (fun cc=>?_) (fun cc=>I)
   refine⟨_,rfl,pe,_,rfl,.inl (SqL.of ee'),_,rfl,_,_,rfl,rfl,⟨by decide,by decide⟩,_,_,rfl,rfl,_,rfl,?_⟩
   exact CK (fun _=>fin _ _ I) (fun _=>I)
def Gf (x:Nat):List Nat->List Nat
 | []=>[x]
 | y::r=>if x<=y then x::y::r else y::Gf x r
def GD:List Nat->List Nat
 | []=>[]
 | x::r=>Gf x (GD r)
theorem kj (x:Nat):∀ l:List Nat,(Gf x l).Perm (x::l)
 | []=>.refl _
 | y::r=>by
  rw[Gf]
  split
  ·exact .refl _
  ·exact ((kj x r).cons y).trans (.swap x y r)
theorem lJ:∀ l:List Nat,(GD l).Perm l
 | []=>.refl _
 | x::r=>(kj x _).trans ((lJ r).cons x)
theorem lO (x:Nat):∀ {l:List Nat},l.Pairwise (·<=·)->(Gf x l).Pairwise (·<=·)
 | [],_=>by rw[Gf]; simp
 | y::r,h=>by
  rw[Gf]
  rw[O3] at h
  split
  ·rw[O3,O3]
   refine⟨fun z hz=>?_,h⟩
   rcases List.mem_cons.mp hz with rfl | hz
   ·assumption
   ·have:=h.1 z hz
    lia
  ·rw[O3]
   refine⟨fun z hz=>?_,lO x h.2⟩
   rcases List.mem_cons.mp ((kj x r).mem_iff.mp hz) with rfl | hz
   ·lia
   ·exact h.1 z hz
theorem iM:∀ l:List Nat,(GD l).Pairwise (·<=·)
 | []=>by rw[GD]; simp
 | x::r=>lO x (iM r)
theorem zu {l:List Nat} {ms:List Int} (p:ms.Perm (l.map fun i:Nat=>(i:Int))) (h:ms.Pairwise (·<=·)):ms=(GD l).map fun i:Nat=>(i:Int):=by
 refine mX (p.trans ((lJ l).map _).symm) h ?_
 rw[Ur]
 exact (iM l).imp fun h=>by lia
theorem Ku {b:Bool} {A B:Prop} (h:b=true) (a:A):if b=true then A else B:=by rw[if_pos h]; exact a
theorem GF {b:Bool} {A B:Prop} (h:b=false) (a:B):if b=true then A else B:=by rw[if_neg (by rw[h]; exact Mr)]; exact a
theorem bZ.Fq {n:Nat} {H:Hp} {D:Addr} {zs zs':List V} (hD:H D=some (.lst zs)):∀ {us:List V} {bs:List (List Pl)},bZ n H us bs->(∀ u∈us,u≠.ref D)->bZ n (upd H D (.lst zs')) us bs
 | _,_,.nil,_=>.nil
 | _,_,.cons h l p r,hne=>.cons (by rw[aL fun z=>hne _ Ml (by rw[z])]; exact h) l (p.bJ (cZ hD)) (bZ.Fq hD r fun u hu=>hne u (MF _ hu))
theorem bZ.add {n:Nat} {H:Hp} {c p:Addr} {as:List Addr} {pl:Pl} (hc:H c=some (.lst (as.map V.ref))) (hl:as.length < 100) (hp:lX n H p pl):∀ {us:List V} {bs:List (List Pl)} {j:Nat},bZ n H us bs->us[j]? = some (.ref c)->us.Nodup->bZ n (upd H c (.lst (as.map V.ref++[.ref p]))) us (bs.set j (bs.getD j []++[pl]))
 | _,_,_,.nil,q,_=>by cases q
 | _,_,0,@bZ.cons _ _ c' as' ps' us' bs' x y z r,q,nd=>by
  have e:V.ref c'=V.ref c:=M9 q
  injection e with e
  subst e
  rw[hc] at x
  have ea:as.map V.ref=as'.map V.ref:=by
   injection x with x
   injection x
  have e2:as=as':=(Ui fun _ _ q=>by injection q).mp ea
  subst e2
  have tk:=cZ (zs':=as.map V.ref++[.ref p]) hc
  refine .cons (as:=as++[p]) (by rw[aj,Mu]; rfl) (by rw[Mv]; show as.length+1<=100; lia) ?_ ?_
  ·exact eO.snoc (hp.bJ tk) (z.bJ tk)
  ·exact r.Fq hc fun u hu y=>(List.nodup_cons.mp nd).1 (by rw[← y]; exact hu)
 | _,_,j+1,@bZ.cons _ _ c' as' ps' us' bs' x y z r,q,nd=>by
  have ne:c'≠c:=fun y=>(List.nodup_cons.mp nd).1 (by rw[y]; exact MJ (show us'[j]? = some (V.ref c) from q))
  exact .cons (by rw[aL ne]; exact x) y (z.bJ (cZ hc)) (bZ.add (j:=j) hc hl hp r q (List.nodup_cons.mp nd).2)
theorem lE:∀ {l:List Nat},l.Nodup->l.Pairwise (·<=·)->l.Pairwise (· < ·)
 | [],_,_=>.nil
 | x::r,nd,pw=>by
  rw[List.nodup_cons] at nd
  rw[O3] at pw ⊢
  exact⟨fun y hy=>Nat.lt_of_le_of_ne (pw.1 y hy) fun e=>nd.1 (e▸hy),lE nd.2 pw.2⟩
theorem xx {n:Nat} {l:List Nat} (nd:l.Nodup) (hn:∀ i∈l,i < n):GD l=(Ms n).filter fun i=>decide (i∈l):=by
 have p:=lJ l
 rw[← fC (n:=n) (lE (p.nodup_iff.mpr nd) (iM l)) fun i hi=>hn i (p.mem_iff.mp hi)]
 exact O9 fun i _=>decide_eq_decide.mpr p.mem_iff
theorem mW:∀ {rs:List (List Nat)},rs.flatten.Nodup->∀ r∈rs,r.Nodup
 | [],_,r,h=>by cases h
 | x::rs,nd,r,h=>by
  rw[O1,Us] at nd
  rcases List.mem_cons.mp h with e | e
  ·rw[e]; exact nd.1
  ·exact mW nd.2.1 r e
namespace aC
variable {R:aC}
def ix (R:aC) (a i:Nat):Nat:=(R.rg a).idxOf i
theorem xN (O:R.Ok) (a:Nat):(R.rg a).Nodup:=by
 by_cases z:a < R.rs.length
 ·have h:R.rg a∈R.rs:=by
   unfold rg
   rw[Mg,Mi z]
   exact Nk z
  exact mW (List.nodup_append.mp (jd O)).1 _ h
 ·unfold rg
  rw[Mg,Px (by lia)]
  exact List.nodup_nil
theorem xY (O:R.Ok) {a k i:Nat} (h:(R.rg a)[k]? = some i):R.ix a i=k:=by
 obtain⟨hk,e⟩:=List.getElem?_eq_some_iff.mp h
 unfold ix
 rw[← e,List.Nodup.idxOf_getElem (xN O a)]
theorem Eh {a i:Nat} (h:i∈R.rg a):R.ix a i < (R.rg a).length:=List.idxOf_lt_length_iff.mpr h
theorem Gm {a i:Nat} (h:i∈R.rg a):(R.rg a)[R.ix a i]? = some i:=by
 have:=Eh h
 unfold ix at this ⊢
 exact List.getElem?_eq_some_iff.mpr ⟨this,List.getElem_idxOf this⟩
def gp (R:aC) (a i:Nat):Pl:=[(R.st a,.gives ((R.rg a).getD ((R.ix a i+1) % (R.rg a).length) 0) (R.st a))]
def full (R:aC) (a i:Nat):List Pl:=R.gp a i::if a=R.fr/\R.ix a i=0 then [[(R.st a,.free)]] else []
def qe (R:aC):List Nat:=(Ms R.n).filter fun i=>(R.of i).isSome
def want (R:aC) (a k i:Nat):List Pl:=match R.of i with
 | some b=>if b < a then R.full b i else if b=a/\R.ix b i < k then [R.gp b i] else []
 | none=>[]
def jO (R:aC) (j i:Nat):List Pl:=match R.of i with
 | some b=>R.full b i
 | none=>if i∈R.rest.take j/\R.rs≠[] then [[(3,.crowd R.qe 1 R.many)]] else []
theorem yZ (O:R.Ok) {a k i0:Nat} (h:(R.rg a)[k]? = some i0) (i:Nat):R.want a (k+1) i=if i=i0 then R.want a k i++[R.gp a i0] else R.want a k i:=by
 have hm:=MJ h
 have hx:=xY O h
 unfold want
 by_cases e:i=i0
 ·subst e
  rw[if_pos rfl,eG O hm]
  dsimp only
  rw[if_neg (O5 _),if_neg (O5 _),if_pos ⟨rfl,by lia⟩,if_neg (fun z=>by lia)]
  rfl
 ·rw[if_neg e]
  cases e1:R.of i with
  | none=>rfl
  | some b =>
   dsimp only
   by_cases q:b=a
   ·subst q
    have ne:R.ix b i≠k:=fun z=>by
     have:=Gm (jk e1)
     rw[z,h] at this
     exact e (M9 this).symm
    rw[if_neg (O5 _),if_neg (O5 _)]
    by_cases q2:R.ix b i < k
    ·rw[if_pos ⟨rfl,by lia⟩,if_pos ⟨rfl,q2⟩]
    ·rw[if_neg (fun z=>by lia),if_neg (fun z=>q2 z.2)]
   ·simp only[q,false_and,if_false]
theorem pC (O:R.Ok) {a i0:Nat} (h:(R.rg a)[0]? = some i0) (i:Nat):R.want (a+1) 0 i=if a=R.fr/\i=i0 then R.want a (R.rg a).length i++[[(R.st a,.free)]] else R.want a (R.rg a).length i:=by
 have hm:=MJ h
 have hx:=xY O h
 unfold want
 cases e1:R.of i with
 | none =>
  dsimp only
  rw[if_neg]
  rintro⟨_,rfl⟩
  rw[eG O hm] at e1
  cases e1
 | some b =>
  have hb:=jk e1
  dsimp only
  by_cases q:b=a
  ·subst q
   have e2:(if b < b then R.full b i else if b=b/\R.ix b i < (R.rg b).length then [R.gp b i] else [])=[R.gp b i]:=by rw[if_neg (O5 _),if_pos ⟨rfl,Eh hb⟩]
   rw[if_pos (RM b),e2]
   unfold full
   have:i=i0 ↔ R.ix b i=0:=⟨fun z=>by rw[z,hx],fun z=>by
    have:=Gm hb
    rw[z,h] at this
    exact (M9 this).symm⟩
   by_cases c:b=R.fr/\i=i0
   ·rw[if_pos (show b=R.fr/\R.ix b i=0 from ⟨c.1,this.mp c.2⟩),if_pos c]
    rfl
   ·rw[if_neg (show ¬ (b=R.fr/\R.ix b i=0) from fun z=>c ⟨z.1,this.mpr z.2⟩),if_neg c]
  ·have ne:¬ (a=R.fr/\i=i0):=by
    rintro⟨_,rfl⟩
    exact q (apart O hb hm)
   rw[if_neg ne]
   by_cases c:b < a
   ·rw[if_pos (show b < a+1 by lia),if_pos c]
   ·rw[if_neg (show ¬ b < a+1 by lia),if_neg c,if_neg (show ¬ (b=a+1/\R.ix b i < 0) from fun z=>absurd z.2 (P0 _)),if_neg (show ¬ (b=a/\R.ix b i < (R.rg a).length) from fun z=>q z.1)]
theorem Ai (O:R.Ok) (i:Nat):R.jO 0 i=R.want R.rs.length 0 i:=by
 unfold jO want
 cases e:R.of i with
 | none =>
  dsimp only
  rw[if_neg (by rw[Od]; rintro⟨h,_⟩; cases h)]
 | some b =>
  dsimp only
  rw[if_pos (jg (jk e)).1]
theorem m7 (O:R.Ok) {j i0:Nat} (h:R.rest[j]? = some i0) (hi:i0 < R.n) (i:Nat):R.jO (j+1) i=if i=i0/\R.rs≠[] then R.jO j i++[[(3,.crowd R.qe 1 R.many)]] else R.jO j i:=by
 have hm:=MJ h
 have nd:R.rest.Nodup:=(List.nodup_append.mp (jd O)).2.1
 have hn:i0 ∉ R.rest.take j:=fun z=>by
  obtain⟨q,hq,e⟩:=OJ z
  rw[List.getElem_take] at e
  obtain⟨hj,e2⟩:=List.getElem?_eq_some_iff.mp h
  rw[← e2] at e
  have:=(Q9 nd).mp e
  rw[Nf] at hq
  lia
 unfold jO
 cases e:R.of i with
 | some b =>
  dsimp only
  rw[if_neg]
  rintro⟨rfl,_⟩
  rw[(of_none O hi).mpr hm] at e
  cases e
 | none =>
  dsimp only
  rw[Nt,h]
  by_cases c:R.rs=[]
  ·rw[if_neg (show ¬ (i∈R.rest.take j++(some i0).toList/\R.rs≠[]) from fun z=>z.2 c),if_neg (show ¬ (i=i0/\R.rs≠[]) from fun z=>z.2 c),if_neg (show ¬ (i∈R.rest.take j/\R.rs≠[]) from fun z=>z.2 c)]
  ·by_cases q:i=i0
   ·subst q
    rw[if_pos (show i∈R.rest.take j++(some i).toList/\R.rs≠[] from ⟨Nu _ (List.mem_singleton.mpr rfl),c⟩),if_pos (show i=i/\R.rs≠[] from ⟨rfl,c⟩),if_neg (show ¬ (i∈R.rest.take j/\R.rs≠[]) from fun z=>hn z.1)]
    rfl
   ·rw[if_neg (show ¬ (i=i0/\R.rs≠[]) from fun z=>q z.1)]
    have:i∈R.rest.take j++(some i0).toList ↔ i∈R.rest.take j:=by
     rw[Qj]
     exact⟨fun z=>z.elim id fun w=>absurd (List.mem_singleton.mp w) q,.inl⟩
    simp only[this]
theorem HH (g:List Int) {k:Int} {t:Tm} (h:0<=k):duF g 0 [[(k,t)]]=if hF g t=true then k else 0:=by
 show max 0 (if hF g t=true then k else 0)=_
 split <;> lia
theorem J6 (O:R.Ok) {bk:List (List Pl)} (l:bk.length=R.n) (ok:okB bk) (h:∀ i,i < R.n->bk.getD i []=R.jO R.rest.length i):R.Bk bk:=by
 refine⟨l,ok,fun a k i j hk hj g=>?_,fun i hi g=>?_⟩
 ·have hm:=MJ hk
  have hx:=xY O hk
  have s1:=O.st1 a
  rw[h i (cV O hm)]
  unfold jO
  rw[eG O hm]
  dsimp only
  unfold full gp
  rw[hx]
  have ej:(R.rg a).getD ((k+1) % (R.rg a).length) 0=j:=by rw[Mg,hj]; rfl
  rw[ej]
  have e1:∀ t,owF g [(R.st a,t)]=if hF g t=true then R.st a else 0:=fun t=>rfl
  by_cases c:a=R.fr/\k=0
  ·rw[if_pos c,if_pos (.inl c)]
   show max (max 0 (owF g [(R.st a,.gives j (R.st a))])) (owF g [(R.st a,.free)])=_
   rw[e1,e1,hF,hF,if_pos rfl]
   split <;> lia
  ·rw[if_neg c]
   show max 0 (owF g [(R.st a,.gives j (R.st a))])=_
   rw[e1,hF]
   by_cases d:R.st a<=g.getD j 0
   ·rw[if_pos (decide_eq_true d),if_pos (.inr d)]
    lia
   ·rw[if_neg (fun z=>d (of_decide_eq_true z)),if_neg (fun z=>z.elim c d)]
    lia
 ·have hin:i < R.n:=List.mem_range.mp (O.perm.mem_iff.mp (Nu _ hi))
  rw[h i hin]
  unfold jO
  rw[(of_none O hin).mpr hi,M4]
  dsimp only
  by_cases c:R.rs=[]
  ·rw[if_neg (fun z=>z.2 c),if_neg (fun z=>z.1 c)]
   rfl
  ·rw[if_pos ⟨hi,c⟩,HH g (by decide),hF]
   unfold qe
   rw[List.filter_filter]
   have e:(Ms R.n).filter (fun a=>decide (1<=g.getD a 0) && (R.of a).isSome)=(Ms R.n).filter fun i=>(R.of i).isSome && decide (1<=g.getD i 0):=O9 fun a _=>Bool.and_comm _ _
   rw[e]
   by_cases d:R.many<=(((Ms R.n).filter fun i=>(R.of i).isSome && decide (1<=g.getD i 0)).length:Int)
   ·rw[if_pos (decide_eq_true d),if_pos ⟨c,d⟩]
   ·rw[if_neg (fun z=>d (of_decide_eq_true z)),if_neg (fun z=>d z.2)]
theorem zT (O:R.Ok):GD R.rs.flatten=R.qe:=by
 have nd:=(List.nodup_append.mp (jd O)).1
 rw[xx (n:=R.n) nd fun i hi=>List.mem_range.mp (O.perm.mem_iff.mp (R3 _ hi))]
 unfold qe
 refine O9 fun i hi=>?_
 rw[Qc,decide_eq_true_eq,Option.isSome_iff_exists]
 constructor
 ·intro h
  obtain⟨r,hr,hir⟩:=List.mem_flatten.mp h
  obtain⟨a,ha,e⟩:=OJ hr
  exact⟨a,eG O (by unfold rg; rw[Mg,Mi ha,e]; exact hir)⟩
 ·rintro⟨a,h⟩
  have:=jk h
  exact List.mem_flatten.mpr ⟨_,(jg this).2,this⟩
end aC
theorem LF.get {H0 H:Hp}:∀ {us:List V} {cs:List (List Nat)} {i:Nat} {c:List Nat},LF H0 H us cs->cs[i]? = some c->∃ a,us[i]? = some (.ref a)/\H a=some (.lst (c.map vN))
 | _,_,_,_,.nil,h=>by simp at h
 | _,_,0,_,.cons h _ _,e=>by
  cases (show some _=some _ from e)
  exact⟨_,rfl,h⟩
 | _,_,i+1,_,.cons _ _ r,e=>by
  obtain⟨a,h1,h2⟩:=LF.get (i:=i) r (by simpa using e)
  exact⟨a,by simpa using h1,h2⟩
def WB (n:Nat) (H Hx:Hp) (pb:Addr) (us:List V) (bk:List (List Pl)):Prop:=aP H Hx/\Hx pb=some (.lst us)/\us.Nodup/\(∀ u∈us,∃ c,u = .ref c/\H c=none/\c≠pb)/\bZ n Hx us bk/\bk.length=n/\H pb=none
theorem WB.mono {n:Nat} {H Hx Hy:Hp} {pb:Addr} {us:List V} {bk:List (List Pl)} (h:WB n H Hx pb us bk) (s:aP Hx Hy):WB n H Hy pb us bk:=⟨h.1.trans s,s _ _ h.2.1,h.2.2.1,h.2.2.2.1,h.2.2.2.2.1.mono s,h.2.2.2.2.2⟩
theorem WB.at {n j:Nat} {H Hx:Hp} {pb:Addr} {us:List V} {bk:List (List Pl)} (h:WB n H Hx pb us bk) (hj:j < n):∃ (c:Addr) (as:List Addr),us[j]? = some (.ref c)/\Hx c=some (.lst (as.map V.ref))/\as.length=(bk.getD j []).length:=by
 obtain⟨h1,h2,h3,h4,h5,h6,h7⟩:=h
 have l:=h5.length
 obtain⟨c,as,ps,e1,e2,e3,e4,e5⟩:=h5.get (Mi (show j < us.length by lia))
 refine⟨c,as,by rw[Mi (by lia),e1],e3,?_⟩
 rw[Mg,e2]
 exact e5.length
theorem WB.add {n j:Nat} {H Hy:Hp} {pb c p:Addr} {us:List V} {bk:List (List Pl)} {as:List Addr} {pl:Pl} (h:WB n H Hy pb us bk) (e1:us[j]? = some (.ref c)) (e2:Hy c=some (.lst (as.map V.ref))) (l:as.length < 100) (hp:lX n Hy p pl) :
  WB n H (upd Hy c (.lst (as.map V.ref++[.ref p]))) pb us (bk.set j (bk.getD j []++[pl])):=by
 obtain⟨h1,h2,h3,h4,h5,h6,h7⟩:=h
 obtain⟨c',q1,q2,q3⟩:=h4 _ (MJ e1)
 injection q1 with q1
 subst q1
 exact⟨aG h1 q2 _,by rw[aL (Rk q3)]; exact h2,h3,h4,h5.add e2 l hp e1 h3,by rw[Tu]; exact h6,h7⟩
theorem lX.one {n:Nat} {H:Hp} {p r:Addr} {v:V} {k:Int} {t:Tm} (h1:H p=some (.tup [.ref r])) (h2:H r=some (.tup [.int k,v])) (h3:m9 n H v t) (k1:1<=k) (k9:k<=9) (d:t.dep<=4):lX n H p [(k,t)] :=
 ⟨⟨by simp,by show 1<=9; decide,by simp,fun x hx=>by rw[List.mem_singleton.mp hx]; exact⟨k1,k9,d⟩⟩,_,h1,.cons h2 h3 .nil⟩
theorem rN {bk:List (List Pl)} {j i:Nat} {x:List Pl} (h:j < bk.length):(bk.set j x).getD i []=if i=j then x else bk.getD i []:=by
 rw[Mg,List.getElem?_set]
 by_cases e:j=i
 ·subst e
  rw[if_pos rfl,if_pos h,if_pos rfl]
  rfl
 ·rw[if_neg e,if_neg fun z=>e z.symm,Mg]
abbrev jB:Stmt:=top 37
theorem bL:aQ ["_law_rings_here","_law_rest","_law_steps","_law_n","_law_many","_law_free","_law_book","_law_at","_law_ring","_law_k","_law_inside","_law_one"] ["_law_rings_here","_law_rest","_law_steps","_law_n","_law_many","_law_free"] (aD jB):=⟨rfl,rfl,rfl,by decide+kernel,rfl,by decide+kernel,by decide+kernel⟩
structure RgR (H:Hp) (pr pe ps:Addr) (R:aC):Prop where
 ok:R.Ok
 rg:∃ us H0,H pr=some (.lst us)/\LF H0 H us R.rs
 re:H pe=some (.lst (R.rest.map vN))
 st:∃ ss:List Int,H ps=some (.lst (ss.map V.int))/\∀ a,a < R.rs.length->ss[a]? = some (R.st a)
 m1:1<=R.many
 m12:R.many<=12
theorem RgR.mono {H H':Hp} {pr pe ps:Addr} {R:aC} (s:aP H H') (h:RgR H pr pe ps R):RgR H' pr pe ps R:=by
 obtain⟨o,⟨us,H0,h1,h2⟩,h3,⟨ss,h4,h5⟩,h6,h7⟩:=h
 exact⟨o,⟨us,H0,s _ _ h1,h2.keep fun a c _ e=>s _ _ e⟩,s _ _ h3,⟨ss,s _ _ h4,h5⟩,h6,h7⟩
def Dz:Sp:=fun vs H Q _=>∃ (pr pe ps:Addr) (R:aC),vs=[.ref pr,.ref pe,.ref ps,.int (R.n:Int),.int R.many,.int (R.fr:Int)]/\RgR H pr pe ps R/\∀ pb bk H',aP H H'->mO R.n H' pb bk->R.Bk bk->Q (.ref pb) H'
theorem sZ (F:Fun K "_law_laid" "_law_laid" jB f fd) (B:Bt mg):fu P w K mg base CX0 1 f fd ["_law_rings_here","_law_rest","_law_steps","_law_n","_law_many","_law_free"] Dz:=by
 refine F.ok bL (fun vs H Q E h=>?_) (fun cdv A outer s H vs Q E hr h=>?_)
 ·obtain⟨pr,pe,ps,R,rfl,_⟩:=h
  rfl
 ·obtain⟨pr,pe,ps,R,rfl,⟨O,⟨us,H0,er,lf⟩,ee,⟨ss,es,hs⟩,m1,m12⟩,q⟩:=h
  refine⟨_,(aq (nJ (L:=["_law_one"]) (F:=[]) (cap:=[]) (j:=6) bL.nd rfl (MT rfl) rfl (bG rfl rfl (by kernel_rfl)) (dC rfl B.range_ (aa (pv 3) ak)) (fun _ _ _ _ _=>(aH (i:=0) (aU (by decide+kernel)) rfl (MT rfl))) (fun _ _ _ _ _=>bW) (fun _ _ _ _ _=>(bO ak)))
 (aq (dF Nz rfl (dC rfl B.range_ (aa (aJ (r:=pQ K) bw rfl B.len_ dX (aa (pv 0) ak)) ak)) (aH (i:=7) bL.nd rfl (MT rfl)) (aq (aM (i:=8) bL.nd rfl (MT rfl) (bH (r:=jK K) bj (pv 0) (pv 7) (fun _ _=>rfl)))
 (aq (dF Nz rfl (dC rfl B.range_ (aa (aJ (r:=pQ K) bw rfl B.len_ dX (aa (pv 8) ak)) ak)) (aH (i:=9) bL.nd rfl (MT rfl)) (aA (dM (jt Np NZ NT bM (bH (r:=jK K) bj (pv 6) (bH (r:=jK K) bj (pv 8) (pv 9) (fun _ _=>rfl)) (fun _ _=>rfl)) (aa (dW (aa (dW (aa (bH (r:=jK K) bj (pv 2) (pv 7) (fun _ _=>rfl)) (aa (dW (aa iZ (aa (bH (r:=jK K) bj (pv 8) (bB jD (bB eY (pv 9) aF) (aJ (r:=pQ K) bw rfl B.len_ dX (aa (pv 8) ak))) (fun _ _=>rfl)) (aa (bH (r:=jK K) bj (pv 2) (pv 7) (fun _ _=>rfl)) ak)))) ak))) ak)) ak)))))
 (aA (cU (aX iT (pv 7) (pv 5) (aZ _)) (aA (dM (jt Np NZ NT bM (bH (r:=jK K) bj (pv 6) (bH (r:=jK K) bj (pv 8) aF (fun _ _=>rfl)) (fun _ _=>rfl)) (aa (dW (aa (dW (aa (bH (r:=jK K) bj (pv 2) (pv 7) (fun _ _=>rfl)) (aa (dW (aa iZ ak)) ak))) ak)) ak)))) aV)))))
 (aq (aM (i:=10) bL.nd rfl (MT rfl) (bO ak))
 (aq (dF Nz rfl (cB (pv 0)) (aH (i:=8) bL.nd rfl (MT rfl)) (aA (dM (jt Np PySem.F.slot_list_extend PySem.F.type_list_extend xJ (pv 10) (aa (pv 8) ak)))))
 (aq (aM (i:=10) bL.nd rfl (MT rfl) (dH (r:=jG K) cO rfl B.tuple_ dY (aa (aJ (r:=zp K) nu rfl B.sorted_ (by decide+kernel) (aa (pv 10) ak)) ak)))
 (aq (dF Nz rfl (cB (pv 1)) (aH (i:=11) bL.nd rfl (MT rfl)) (aA (cU (aX (r:=BR K) (sX hr.kJ) (pv 10) (dW ak) (aZ _)) (aA (dM (jt Np NZ NT bM (bH (r:=jK K) bj (pv 6) (pv 11) (fun _ _=>rfl)) (aa (dW (aa (dW (aa aF (aa (dW (aa iZ (aa (pv 10) (aa aF (aa (pv 4) ak))))) ak))) ak)) ak)))) aV)))
 (aA (aO (pv 6))))))))),?_⟩
  have n12:=O.n12
  have lus:=lf.length
  have lrs:R.rs.length<=12:=by
   have h1:=O.perm.length_eq
   rw[Mv,MN] at h1
   have h2:∀ l:List (List Nat),(∀ r∈l,2<=r.length)->l.length<=l.flatten.length:=by
    intro l
    induction l with
    | nil=>intro _; exact Mt _
    | cons r l ih =>
     intro h
     have h1:=h r Ml
     have h2:=ih fun x hx=>h x (MF _ hx)
     rw[MK,O1,Mv]
     lia
   have:=h2 R.rs O.two
   lia
  refine aB (fun σ H1=>∃ pb ub,σ=[some (.ref pr),some (.ref pe),some (.ref ps),some (.int (R.n:Int)),some (.int R.many),some (.int (R.fr:Int)),some (.ref pb),none,none,none,none,none]/\WB R.n H H1 pb ub (Mz R.n [])) ?q1 ?t1
  case t1 =>
   intro N Rc
   refine⟨_,rfl,_,rfl,by lia,by lia,fun D hD=>dg (lo:=0) (n:=((R.n:Int)).toNat) (fun i zs σ' H2=>(∃ u,σ'=[u])/\aP H H2/\H2 D=some (.lst zs)/\zs.length=i/\zs.Nodup/\(∀ u∈zs,∃ c,u = .ref c/\H c=none/\c≠D/\∃ o,H2 c=some o)/\bZ R.n H2 zs (Mz i []))
    ⟨⟨_,rfl⟩,au hD _,aj,rfl,List.nodup_nil,fun u hu=>(by cases hu),.nil⟩ (fun i zs σ' H2 _ h=>h.2.2.1) ?_ ?_⟩
   ·rintro i zs σ' H2 hi ⟨⟨u,rfl⟩,s2,eD,lz,nd,fz,bs⟩
    refine gT ?_
    refine⟨small (by show 0<=1000; decide),fun p hp=>?_⟩
    have pD:p≠D:=fun z=>by rw[z,eD] at hp; cases hp
    have sn:=au hp (.lst [])
    have e2:=sn _ _ eD
    refine⟨e2,aK (by lia),⟨_,rfl⟩,aG (s2.trans sn) hD _,aj,by rw[Mv,lz]; rfl,?_,fun u hu=>?_,?_⟩
    ·refine List.nodup_append.mpr ⟨nd,(by simp),fun a ha b hb e=>?_⟩
     rw[List.mem_singleton.mp hb] at e
     obtain⟨c,q1,_,_,o,q2⟩:=fz a ha
     rw[q1] at e
     injection e with e
     rw[e,hp] at q2
     cases q2
    ·rcases List.mem_append.mp hu with z | z
     ·obtain⟨c,q1,q2,q3,o,q4⟩:=fz u z
      exact⟨c,q1,q2,q3,o,by rw[aL q3]; exact sn _ _ q4⟩
     ·exact⟨p,List.mem_singleton.mp z,s2.free hp,pD,_,by rw[aL pD]; exact aj⟩
    ·rw[R1]
     have hz:∀ u∈zs,u≠.ref D:=fun u hu z=>by
      obtain⟨c,q1,_,q3,_⟩:=fz u hu
      rw[q1] at z
      injection z with z
      exact q3 z
     exact bZ.snoc (as:=[]) (by rw[aL pD]; exact aj) (by show 0<=100; decide) .nil ((bs.mono sn).Fq e2 hz)
   ·rintro zs σ' H2 ⟨_,s2,eD,lz,nd,fz,bs⟩
    refine Rc _ _ ⟨D,zs,rfl,s2,eD,nd,fun u hu=>?_,?_,by rw[Nv],hD⟩
    ·obtain⟨c,q1,q2,q3,_⟩:=fz u hu
     exact⟨c,q1,q2,q3⟩
    ·rw[show ((R.n:Int)).toNat=R.n by lia] at bs
     exact bs
  case q1 =>
  rintro σ H1 ⟨pb,ub,rfl,wb⟩
  have stp:∀ a,a < R.rs.length->atI (ss.map V.int) (a:Int)=some (.int (R.st a)):=fun a ha=>bu (lK (hs a ha))
  have rga:∀ a,a < R.rs.length->R.rs[a]? = some (R.rg a):=fun a ha=>by
   unfold aC.rg
   rw[Mg,Mi ha]
   rfl
  have wlen:∀ a k i,(R.want a k i).length<=2:=fun a k i=>by
   unfold aC.want
   split
   ·split
    ·unfold aC.full
     split <;> simp
    ·split <;> simp
   ·simp
  refine aB (fun σ H2=>∃ bk u7 u8 u9,σ=[some (.ref pr),some (.ref pe),some (.ref ps),some (.int (R.n:Int)),some (.int R.many),some (.int (R.fr:Int)),some (.ref pb),u7,u8,u9,none,none]/\WB R.n H H2 pb ub bk/\∀ i,i < R.n->bk.getD i []=R.want R.rs.length 0 i) ?q2 ?t2
  case t2 =>
   intro N Rc
   refine⟨_,rfl,pr,_,rfl,.inl (SqL.of (wb.1 _ _ er)),_,rfl,by lia,by lia,qG (lo:=0) (n:=((us.length:Int)).toNat) (fun a σ H2=>∃ bk u7 u8 u9,σ=[some (.ref pr),some (.ref pe),some (.ref ps),some (.int (R.n:Int)),some (.int R.many),some (.int (R.fr:Int)),some (.ref pb),u7,u8,u9,none,none]/\WB R.n H H2 pb ub bk/\∀ i,i < R.n->bk.getD i []=R.want a 0 i) ?_ ?_ ?_⟩
   ·refine⟨_,_,_,_,rfl,wb,fun i hi=>?_⟩
    rw[Mg,Pj,if_pos hi]
    unfold aC.want
    split
    ·rw[if_neg (P0 _),if_neg fun z=>absurd z.2 (P0 _)]
     rfl
    ·rfl
   ·rintro a σ H2 ha ⟨bk,u7,u8,u9,rfl,wb2,hw⟩
    have ha:a < R.rs.length:=by lia
    obtain⟨ra,e1,e2⟩:=lf.get (rga a ha)
    have hra:=wb2.1 _ _ e2
    have two:=O.two _ (MJ (rga a ha))
    refine gN ?_
    rw[Ra]
    refine aB (fun σ H3=>σ=[some (.ref pr),some (.ref pe),some (.ref ps),some (.int (R.n:Int)),some (.int R.many),some (.int (R.fr:Int)),some (.ref pb),some (.int (a:Int)),some (.ref ra),u9,none,none]/\H2=H3) ?q0 ?t0
    case t0 =>
     intro N2 Rc2
     exact⟨_,rfl,_,rfl,pr,_,_,_,rfl,rfl,SqL.of (wb2.1 _ _ er),bu e1,Rc2 _ _ ⟨rfl,rfl⟩⟩
    case q0 =>
    rintro σ H3 ⟨rfl,rfl⟩
    refine aB (fun σ H3=>∃ bk u9,σ=[some (.ref pr),some (.ref pe),some (.ref ps),some (.int (R.n:Int)),some (.int R.many),some (.int (R.fr:Int)),some (.ref pb),some (.int (a:Int)),some (.ref ra),u9,none,none]/\WB R.n H H3 pb ub bk/\∀ i,i < R.n->bk.getD i []=R.want a (R.rg a).length i) ?q3 ?t3
    case t3 =>
     intro N2 Rc2
     have lrg:(R.rg a).length<=12:=by
      have:=jr (c:=R.sr a) (m:=0) (n:=R.n) (aC.Fy R a) fun i hi=>⟨NP _,aC.cV O ((aC.ik O).mp hi)⟩
      have h2:(R.rg a).length<=(Ms R.n).length:=bC (aC.xN O a) fun i hi=>List.mem_range.mpr (aC.cV O hi)
      rw[MN] at h2
      lia
     refine⟨_,rfl,ra,_,rfl,.inl (SqL.of hra),_,rfl,by rw[Mf]; lia,by rw[Mf]; lia,qG (lo:=0) (n:=((((R.rg a).map vN).length:Int)).toNat) (fun k σ H3=>∃ bk u9,σ=[some (.ref pr),some (.ref pe),some (.ref ps),some (.int (R.n:Int)),some (.int R.many),some (.int (R.fr:Int)),some (.ref pb),some (.int (a:Int)),some (.ref ra),u9,none,none]/\WB R.n H H3 pb ub bk/\∀ i,i < R.n->bk.getD i []=R.want a k i) ?_ ?_ ?_⟩
     ·exact⟨bk,_,rfl,wb2,hw⟩
     ·rintro k σ H3 hk ⟨bk3,u9',rfl,wb3,hw3⟩
      have hk:k < (R.rg a).length:=by rw[Mf] at hk; lia
      have hi0:(R.rg a)[k]? = some (R.rg a)[k]:=Mi hk
      generalize (R.rg a)[k]=i0 at hi0
      have hin:=aC.cV O (MJ hi0)
      have hm:=Ug (k+1) (show 0 < (R.rg a).length by lia)
      have hj0:(R.rg a)[(k+1) % (R.rg a).length]? = some ((R.rg a).getD ((k+1) % (R.rg a).length) 0):=by rw[Mg,Mi hm]; rfl
      generalize ej:(R.rg a).getD ((k+1) % (R.rg a).length) 0=j0 at hj0
      have hjn:=aC.cV O (MJ hj0)
      obtain⟨c,as,c1,c2,c3⟩:=wb3.at hin
      have s1:=O.st1 a
      have hra3:=wb3.1 _ _ e2
      have es3:=wb3.1 _ _ es
      have vat:∀ {k i:Nat},(R.rg a)[k]? = some i->((R.rg a).map vN)[k]? = some (vN i):=fun h=>by rw[Nj,h]; rfl
      have pos:(0:Int) < (((R.rg a).map vN).length:Int):=by
       rw[Mf]
       lia
      have atj:atI ((R.rg a).map vN) (((k:Int)+1) % (((R.rg a).map vN).length:Int))=some (vN j0):=by
       rw[show ((k:Int)+1) % (((R.rg a).map vN).length:Int)=(((k+1) % (R.rg a).length:Nat):Int) by rw[Mf]; rfl]
       exact bu (vat hj0)
      refine gN ?_
      rw[Ra]
      refine⟨_,rfl,_,rfl,_,rfl,ra,_,_,_,rfl,rfl,SqL.of hra3,bu (vat hi0),pb,_,_,_,rfl,rfl,SqL.of wb3.2.1,bu c1,.inl ⟨rfl,_,SqL.of c2⟩,_,rfl,_,rfl,ps,_,_,_,rfl,rfl,SqL.of es3,stp a ha,_,rfl,_,rfl,_,_,rfl,rfl,_,rfl,ra,_,rfl,.inl (SqL.of hra3),_,_,rfl,rfl,pos,ra,_,_,_,rfl,rfl,SqL.of hra3,atj,_,rfl,_,rfl,ps,_,_,_,rfl,rfl,SqL.of es3,stp a ha,small (by show 3<=1000; decide),fun p1 h1=>?_⟩
      ·generalize eH4:upd H3 p1 _=H4
       obtain⟨g4,f4⟩:=aR eH4 h1
       refine⟨small (by show 2<=1000; decide),fun p2 h2=>?_⟩
       generalize eH5:upd H4 p2 _=H5
       obtain⟨g5,f5⟩:=aR eH5 h2
       refine⟨small (by show 1<=1000; decide),fun p3 h3=>?_⟩
       generalize eH6:upd H5 p3 _=H6
       obtain⟨g6,f6⟩:=aR eH6 h3
       have s36:=g4.trans (g5.trans g6)
       have hl:as.length < 100:=by
        have:=wlen a k i0
        rw[← hw3 i0 hin,← c3] at this
        lia
       refine⟨c,_,_,rfl,rfl,s36 _ _ c2,aK (by rw[Mf]; lia),?_⟩
       have rp:lX R.n H6 p3 (R.gp a i0):=by
        unfold aC.gp
        rw[aC.xY O hi0,ej]
        exact lX.one f6 (g6 _ _ f5) (.gives ((g5.trans g6) _ _ f4) hjn s1.1 s1.2) s1.1 s1.2 (by show 1<=4; decide)
       refine⟨_,_,rfl,(wb3.mono s36).add c1 (s36 _ _ c2) hl rp,fun i hi=>?_⟩
       rw[rN (by rw[wb3.2.2.2.2.2.1]; exact hin),aC.yZ O hi0,hw3 i0 hin,hw3 i hi]
       by_cases e:i=i0
       ·rw[if_pos e,if_pos e,e]
       ·rw[if_neg e,if_neg e]
     ·rintro σ H3 ⟨bk3,u9',rfl,wb3,hw3⟩
      rw[show ((((R.rg a).map vN).length:Int)).toNat=(R.rg a).length by rw[Mf]; lia] at hw3
      exact Rc2 _ _ ⟨bk3,u9',rfl,wb3,hw3⟩
    case q3 =>
    rintro σ H3 ⟨bk3,u9',rfl,wb3,hw3⟩
    have hi0:(R.rg a)[0]? = some (R.rg a)[0]:=Mi (by lia)
    generalize (R.rg a)[0]=i0 at hi0
    have hin:=aC.cV O (MJ hi0)
    refine⟨_,rfl,_,rfl,rfl,_,rfl,?_⟩
    by_cases cf:a=R.fr
    ·refine Ep (by rw[cf]) ?_
     obtain⟨c,as,c1,c2,c3⟩:=wb3.at hin
     have s1:=O.st1 a
     have hra3:=wb3.1 _ _ e2
     have es3:=wb3.1 _ _ es
     refine⟨_,rfl,_,rfl,ra,_,_,_,rfl,rfl,SqL.of hra3,bu (k:=0) (by rw[Nj,hi0]; rfl),pb,_,_,_,rfl,rfl,SqL.of wb3.2.1,bu c1,.inl ⟨rfl,_,SqL.of c2⟩,_,rfl,_,rfl,ps,_,_,_,rfl,rfl,SqL.of es3,stp a ha,small (by show 1<=1000; decide),fun p1 h1=>?_⟩
     generalize eH4:upd H3 p1 _=H4
     obtain⟨g4,f4⟩:=aR eH4 h1
     refine⟨small (by show 2<=1000; decide),fun p2 h2=>?_⟩
     generalize eH5:upd H4 p2 _=H5
     obtain⟨g5,f5⟩:=aR eH5 h2
     refine⟨small (by show 1<=1000; decide),fun p3 h3=>?_⟩
     generalize eH6:upd H5 p3 _=H6
     obtain⟨g6,f6⟩:=aR eH6 h3
     have s36:=g4.trans (g5.trans g6)
     have hl:as.length < 100:=by
      have:=wlen a (R.rg a).length i0
      rw[← hw3 i0 hin,← c3] at this
      lia
     refine⟨c,_,_,rfl,rfl,s36 _ _ c2,aK (by rw[Mf]; lia),?_⟩
     have rp:lX R.n H6 p3 [(R.st a,.free)]:=lX.one f6 (g6 _ _ f5) (.free ((g5.trans g6) _ _ f4)) s1.1 s1.2 (by show 1<=4; decide)
     refine⟨_,_,_,_,rfl,(wb3.mono s36).add c1 (s36 _ _ c2) hl rp,fun i hi=>?_⟩
     rw[rN (by rw[wb3.2.2.2.2.2.1]; exact hin),aC.pC O hi0,hw3 i0 hin,hw3 i hi]
     by_cases e:i=i0
     ·rw[if_pos e,if_pos ⟨cf,e⟩,e]
     ·rw[if_neg e,if_neg fun z=>e z.2]
    ·refine lW (fun z=>cf (by injection z with z; lia)) ⟨bk3,_,_,_,rfl,wb3,fun i hi=>?_⟩
     rw[aC.pC O hi0,if_neg fun z=>cf z.1,hw3 i hi]
   ·rintro σ H2 ⟨bk,u7,u8,u9,rfl,wb2,hw⟩
    rw[show ((us.length:Int)).toNat=R.rs.length by lia] at hw
    exact Rc _ _ ⟨bk,u7,u8,u9,rfl,wb2,hw⟩
  case q2 =>
  rintro σ H2 ⟨bk,u7,u8,u9,rfl,wb2,hw⟩
  have er2:=wb2.1 _ _ er
  refine aB (fun σ H3=>∃ pi,σ=[some (.ref pr),some (.ref pe),some (.ref ps),some (.int (R.n:Int)),some (.int R.many),some (.int (R.fr:Int)),some (.ref pb),u7,u8,u9,some (.ref pi),none]/\aP H2 H3/\H2 pi=none/\H3 pi=some (.lst [])) ?q4 ?t4
  case t4 =>
   intro N Rc
   exact⟨small (by show 0<=1000; decide),fun pi hpi=>Rc _ _ ⟨pi,rfl,au hpi _,hpi,aj⟩⟩
  case q4 =>
  rintro σ H3 ⟨pi,rfl,s23,hpi,epi⟩
  have fl12:∀ i,(R.rs.take i).flatten.length<=12:=fun i=>by
   have h1:=O.perm.length_eq
   rw[Mv,MN] at h1
   have h2:=congrArg Rx (congrArg List.flatten (Tv i R.rs))
   rw[T6,Mv] at h2
   lia
  refine aB (fun σ H4=>∃ u8,σ=[some (.ref pr),some (.ref pe),some (.ref ps),some (.int (R.n:Int)),some (.int R.many),some (.int (R.fr:Int)),some (.ref pb),u7,u8,u9,some (.ref pi),none]/\aP H2 H4/\H4 pi=some (.lst (R.rs.flatten.map vN))) ?q5 ?t5
  case t5 =>
   intro N Rc
   refine⟨_,rfl,pr,rfl,⟨_,SqL.of (s23 _ _ er2)⟩,cY (K:=K) (a:=pr) (xs:=us) (fun i σ H4=>∃ u8,σ=[some (.ref pr),some (.ref pe),some (.ref ps),some (.int (R.n:Int)),some (.int R.many),some (.int (R.fr:Int)),some (.ref pb),u7,u8,u9,some (.ref pi),none]/\aP H2 H4/\H4 pi=some (.lst ((R.rs.take i).flatten.map vN))) ⟨_,rfl,s23,epi⟩ (fun i σ H4 _ h=>?_) ?_ ?_⟩
   ·obtain⟨_,_,s4,_⟩:=h
    exact SqL.of (s4 _ _ er2)
   ·rintro i x σ H4 hx ⟨u8',rfl,s4,e4⟩
    have hi:i < R.rs.length:=by
     have:=(List.getElem?_eq_some_iff.mp hx).1
     lia
    obtain⟨ra,q1,q2⟩:=lf.get (rga i hi)
    rw[q1] at hx
    cases hx
    have q4:=s4 _ _ (wb2.1 _ _ q2)
    refine gN ?_
    refine⟨_,rfl,.inl ⟨rfl,_,SqL.of e4⟩,_,rfl,pi,ra,_,_,rfl,rfl,e4,q4,?_,_,rfl,aG s4 hpi _,?_⟩
    ·have h1:=fl12 i
     have h2:(R.rg i).length<=12:=by
      have h2:(R.rg i).length<=(Ms R.n).length:=bC (aC.xN O i) fun j hj=>List.mem_range.mpr (aC.cV O hj)
      rw[MN] at h2
      lia
     rw[Mf,Mf]
     exact small (by lia)
    ·rw[aj,Nt,rga i hi,T6,Mu]
     show _=some (HO.lst (_++List.map vN ([R.rg i].flatten)))
     rw[List.flatten_singleton]
   ·rintro σ H4 ⟨u8',rfl,s4,e4⟩
    rw[lus,M4] at e4
    exact Rc _ _ ⟨_,rfl,s4,e4⟩
  case q5 =>
  rintro σ H4 ⟨u8',rfl,s4,e4⟩
  refine aB (fun σ H5=>∃ pt,σ=[some (.ref pr),some (.ref pe),some (.ref ps),some (.int (R.n:Int)),some (.int R.many),some (.int (R.fr:Int)),some (.ref pb),u7,u8',u9,some (.ref pt),none]/\aP H2 H5/\H5 pt=some (.tup (R.qe.map vN))) ?q6 ?t6
  case t6 =>
   intro N Rc
   have hl:=fl12 R.rs.length
   rw[M4] at hl
   refine⟨_,rfl,pi,R.rs.flatten.map fun i:Nat=>(i:Int),rfl,SqL.of (by rw[e4,fj]),by rw[Mf]; lia,fun ms pm pw l hl'=>⟨l,_,rfl,.inl ⟨SqL.of aj,fun pt hpt=>Rc _ _ ⟨pt,rfl,s4.trans ((au hl' _).trans (au hpt _)),?_⟩⟩⟩⟩
   rw[aj,zu pm pw,aC.zT O,← fj]
  case q6 =>
  rintro σ H5 ⟨pt,rfl,s5,e5⟩
  have ins1:∀ i∈R.qe,i < R.n:=fun i hi=>List.mem_range.mp (List.mem_filter.mp hi).1
  have insp:R.qe.Pairwise (· < ·):=List.pairwise_lt_range.filter _
  have insl:R.qe.length<=12:=by
   have:=Oo (fun i=>(R.of i).isSome) (Ms R.n)
   rw[MN] at this
   unfold aC.qe
   lia
  have insn:R.qe=[] ↔ R.rs=[]:=by
   constructor
   ·intro h
    cases e:R.rs with
    | nil=>rfl
    | cons r rs' =>
     have hr:R.rg 0=r:=by unfold aC.rg; rw[e]; rfl
     have h2:=O.two r (by rw[e]; exact Ml)
     have hm:r[0]'(by lia)∈R.rg 0:=by rw[hr]; exact Nk _
     have:r[0]'(by lia)∈R.qe:=List.mem_filter.mpr ⟨List.mem_range.mpr (aC.cV O hm),by rw[aC.eG O hm]; rfl⟩
     rw[h] at this
     cases this
   ·intro h
    rw[← aC.zT O,h]
    rfl
  refine aB (fun σ H6=>∃ bk u11,σ=[some (.ref pr),some (.ref pe),some (.ref ps),some (.int (R.n:Int)),some (.int R.many),some (.int (R.fr:Int)),some (.ref pb),u7,u8',u9,some (.ref pt),u11]/\WB R.n H H6 pb ub bk/\∀ i,i < R.n->bk.getD i []=R.jO R.rest.length i) ?q7 ?t7
  case t7 =>
   intro N Rc
   have wb5:=wb2.mono s5
   refine⟨_,rfl,pe,rfl,⟨_,SqL.of (wb5.1 _ _ ee)⟩,cY (K:=K) (a:=pe) (xs:=R.rest.map vN) (fun j σ H6=>∃ bk u11,σ=[some (.ref pr),some (.ref pe),some (.ref ps),some (.int (R.n:Int)),some (.int R.many),some (.int (R.fr:Int)),some (.ref pb),u7,u8',u9,some (.ref pt),u11]/\WB R.n H H6 pb ub bk/\H6 pt=some (.tup (R.qe.map vN))/\∀ i,i < R.n->bk.getD i []=R.jO j i) ⟨bk,_,rfl,wb5,e5,fun i hi=>by rw[hw i hi,aC.Ai O]⟩ (fun j σ H6 _ h=>?_) ?_ ?_⟩
   ·obtain⟨_,_,_,wb6,_⟩:=h
    exact SqL.of (wb6.1 _ _ ee)
   ·rintro j x σ H6 hx ⟨bk6,u11,rfl,wb6,e6,hw6⟩
    obtain⟨i0,hi0,rfl⟩:=pP hx
    have hin:i0 < R.n:=List.mem_range.mp (O.perm.mem_iff.mp (Nu _ (MJ hi0)))
    refine gN ?_
    refine⟨_,rfl,small (by show 0<=1000; decide),fun pz hpz=>?_⟩
    generalize eH7:upd H6 pz _=H7
    obtain⟨g7,f7⟩:=aR eH7 hpz
    refine⟨pt,pz,R.qe.map fun i:Nat=>(i:Int),[],rfl,rfl,SqT.of (by rw[g7 _ _ e6,fj]),SqT.of f7,_,rfl,?_⟩
    have wb7:=wb6.mono g7
    by_cases cr:R.rs=[]
    ·refine GF (by rw[insn.mpr cr]; rfl) ⟨bk6,_,rfl,wb7,g7 _ _ e6,fun i hi=>?_⟩
     rw[aC.m7 O hi0 hin,if_neg fun z=>z.2 cr,hw6 i hi]
    ·refine Ku ?_ ?_
     ·rw[decide_eq_false]
      ·rfl
      ·intro z
       exact cr (insn.mp (List.map_eq_nil_iff.mp z))
     ·obtain⟨c,as,c1,c2,c3⟩:=wb7.at hin
      refine⟨_,rfl,_,rfl,pb,_,_,_,rfl,rfl,SqL.of wb7.2.1,bu c1,.inl ⟨rfl,_,SqL.of c2⟩,_,rfl,_,rfl,small (by show 4<=1000; decide),fun p1 h1=>?_⟩
      generalize eH8:upd H7 p1 _=H8
      obtain⟨g8,f8⟩:=aR eH8 h1
      refine⟨small (by show 2<=1000; decide),fun p2 h2=>?_⟩
      generalize eH9:upd H8 p2 _=H9
      obtain⟨g9,f9⟩:=aR eH9 h2
      refine⟨small (by show 1<=1000; decide),fun p3 h3=>?_⟩
      generalize eHa:upd H9 p3 _=Ha
      obtain⟨ga,fa⟩:=aR eHa h3
      have s7a:=g8.trans (g9.trans ga)
      have hl:as.length < 100:=by
       rw[c3,hw6 i0 hin]
       unfold aC.jO
       split
       ·unfold aC.full
        split <;> simp
       ·split <;> simp
      refine⟨c,_,_,rfl,rfl,s7a _ _ c2,aK (by rw[Mf]; lia),?_⟩
      have i1:1<=R.qe.length:=by
       cases e:R.qe with
       | nil=>exact absurd (insn.mp e) cr
       | cons _ _=>rw[MK]; lia
      have rp:lX R.n Ha p3 [(3,.crowd R.qe 1 R.many)]:=lX.one fa (ga _ _ f9) (.crowd ((g9.trans ga) _ _ f8) ((g7.trans s7a) _ _ e6) ins1 insp (by lia) i1 (by decide) (by decide) m1 m12) (by decide) (by decide) (by show 1<=4; decide)
      have nct:c≠pt:=fun z=>by
       have:=g7 _ _ e6
       rw[← z,c2] at this
       cases this
      refine⟨_,_,rfl,(wb7.mono s7a).add c1 (s7a _ _ c2) hl rp,by rw[aL nct.symm]; exact (g7.trans s7a) _ _ e6,fun i hi=>?_⟩
      rw[rN (by rw[wb6.2.2.2.2.2.1]; exact hin),aC.m7 O hi0 hin,hw6 i0 hin,hw6 i hi]
      by_cases e:i=i0
      ·rw[if_pos e,if_pos ⟨e,cr⟩,e]
      ·rw[if_neg e,if_neg fun z=>e z.1]
   ·rintro σ H6 ⟨bk6,u11,rfl,wb6,e6,hw6⟩
    rw[Mf] at hw6
    exact Rc _ _ ⟨bk6,u11,rfl,wb6,hw6⟩
  case q7 =>
  rintro σ H6 ⟨bk6,u11,rfl,wb6,hw6⟩
  have hB:mO R.n H6 pb bk6:=⟨ub,wb6.2.1,wb6.2.2.2.2.1,by rw[wb6.2.2.2.2.2.1]; exact n12⟩
  exact⟨_,rfl,q pb bk6 H6 wb6.1 hB (aC.J6 O wb6.2.2.2.2.2.1 hB.okB hw6)⟩
theorem Cy {p q:Nat->Bool}:∀ {l:List Nat},(∀ i∈l,¬ (p i=true/\q i=true))->(l.filter fun i=>p i || q i).length=(l.filter p).length+(l.filter q).length
 | [],_=>rfl
 | x::r,h=>by
  have ih:=Cy (l:=r) fun i hi=>h i (MF _ hi)
  have hx:=h x Ml
  rw[Oz,Oz,Oz]
  cases ep:p x with
  | true =>
   cases eq:q x with
   | true=>exact absurd ⟨ep,eq⟩ hx
   | false =>
    simp only[S7,if_true,O4,if_false,MK]
    lia
  | false =>
   cases eq:q x with
   | true =>
    simp only[Tg,if_true,O4,if_false,MK]
    lia
   | false =>
    simp only[S7,O4,if_false]
    exact ih
namespace aC
variable {R:aC}
theorem yU (O:R.Ok) (a:Nat):(R.sr a).length=(R.rg a).length:=by
 have n1:(R.sr a).Nodup:=(Fy R a).imp Nb
 have h1:=bC n1 fun i hi=>(ik O).mp hi
 have h2:=bC (xN O a) fun i hi=>(ik O).mpr hi
 lia
theorem Gb (O:R.Ok) {C:Nat->Bool} {a:Nat} (h:C a=false):R.cnt (fun b=>C b || decide (b=a))=R.cnt C+(R.rg a).length:=by
 rw[← yU O a]
 unfold cnt sr
 have key:=Cy (p:=fun i=>match R.of i with | some b=>C b | none=>false) (q:=fun i=>decide (i∈R.rg a)) (l:=Ms R.n) fun i _ hh=>by
  have:=eG O (of_decide_eq_true hh.2)
  have h1:=hh.1
  rw[this] at h1
  dsimp only at h1
  rw[h] at h1
  cases h1
 refine Eq.trans (congrArg Rx (O9 fun i _=>?_)) key
 cases e:R.of i with
 | none =>
  show false=(false || decide (i∈R.rg a))
  rw[decide_eq_false fun z=>by rw[eG O z] at e; cases e]
  rfl
 | some b =>
  show (C b || decide (b=a))=(C b || decide (i∈R.rg a))
  congr 1
  exact decide_eq_decide.mpr ⟨fun z=>z▸jk e,fun z=>apart O (jk e) z⟩
def pw (R:aC) (C:Nat->Bool) (a k i:Nat):Int:=match R.of i with
 | some b=>if C b=true∨(b=a/\R.ix b i < k) then R.st b else 0
 | none=>0
theorem xj (C:Nat->Bool) (a b i:Nat):R.pw C a 0 i=R.pw C b 0 i:=by
 unfold pw
 split
 ·simp only[P0,and_false]
 ·rfl
theorem El (O:R.Ok) {C:Nat->Bool} {a k i0:Nat} (h:(R.rg a)[k]? = some i0) (i:Nat):R.pw C a (k+1) i=if i=i0 then R.st a else R.pw C a k i:=by
 have hm:=MJ h
 have hx:=xY O h
 unfold pw
 by_cases e:i=i0
 ·subst e
  rw[if_pos rfl,eG O hm]
  dsimp only
  rw[if_pos (.inr ⟨rfl,by lia⟩)]
 ·rw[if_neg e]
  cases e1:R.of i with
  | none=>rfl
  | some b =>
   dsimp only
   have:(b=a/\R.ix b i < k+1) ↔ (b=a/\R.ix b i < k):=by
    refine and_congr_right fun q=>?_
    subst q
    have ne:R.ix b i≠k:=fun z=>by
     have:=Gm (jk e1)
     rw[z,h] at this
     exact e (M9 this).symm
    lia
   simp only[this]
theorem Gh (C:Nat->Bool) (a i:Nat):R.pw C a (R.rg a).length i=R.pw (fun b=>C b || decide (b=a)) a 0 i:=by
 unfold pw
 cases e1:R.of i with
 | none=>rfl
 | some b =>
  dsimp only
  have:(C b=true∨b=a/\R.ix b i < (R.rg a).length) ↔ ((C b || decide (b=a))=true∨b=a/\R.ix b i < 0):=by
   rw[QJ,decide_eq_true_eq]
   constructor
   ·rintro (h | ⟨h,_⟩)
    ·exact .inl (.inl h)
    ·exact .inl (.inr h)
   ·rintro ((h | h) | ⟨_,h⟩)
    ·exact .inl h
    ·subst h
     exact .inr ⟨rfl,Eh (jk e1)⟩
    ·lia
  simp only[this]
end aC
theorem ue {L:List Int} {j i:Nat} {x:Int} (h:j < L.length):(L.set j x).getD i 0=if i=j then x else L.getD i 0:=by
 rw[Mg,List.getElem?_set]
 by_cases e:j=i
 ·subst e
  rw[if_pos rfl,if_pos h,if_pos rfl]
  rfl
 ·rw[if_neg e,if_neg fun z=>e z.symm,Mg]
theorem tV (L:List Int) (j:Nat) (x:Int):(L.map V.int).set j (.int x)=(L.set j x).map V.int:=by rw[List.map_set]
theorem xR {n j:Nat} (h:j < n):ixN n (j:Int)=some j:=by
 unfold ixN
 rw[if_pos (by lia),if_pos (by lia)]
 rfl
abbrev iG:Stmt:=top 38
theorem bU:aQ ["_law_rings_here","_law_rest","_law_steps","_law_n","_law_many","_law_closed","_law_giving","_law_count","_law_at","_law_one"] ["_law_rings_here","_law_rest","_law_steps","_law_n","_law_many","_law_closed"] (aD iG):=⟨rfl,rfl,rfl,by decide+kernel,rfl,by decide+kernel,by decide+kernel⟩
def za:Sp:=fun vs H Q _=>∃ (pr pe ps pc:Addr) (R:aC) (cs:List Nat),vs=[.ref pr,.ref pe,.ref ps,.int (R.n:Int),.int R.many,.ref pc]/\RgR H pr pe ps R/\H pc=some (.lst (cs.map vN))/\cs.Nodup/\(∀ a∈cs,a < R.rs.length) ∧
 ∀ p H',aP H H'->H' p=some (.tup ((R.gv fun a=>decide (a∈cs)).map V.int))->Q (.ref p) H'
theorem pO (F:Fun K "_law_given" "_law_given" iG f fd) (B:Bt mg):fu P w K mg base CX0 1 f fd ["_law_rings_here","_law_rest","_law_steps","_law_n","_law_many","_law_closed"] za:=by
 refine F.ok bU (fun vs H Q E h=>?_) (fun cdv A outer s H vs Q E hr h=>?_)
 ·obtain⟨pr,pe,ps,pc,R,cs,rfl,_⟩:=h
  rfl
 ·obtain⟨pr,pe,ps,pc,R,cs,rfl,⟨O,⟨us,H0,er,lf⟩,ee,⟨ss,es,hs⟩,m1,m12⟩,ec,nd,hc,q⟩:=h
  refine⟨_,(aq (aM (i:=6) bU.nd rfl (MT rfl) (bB ye (bO (aa aF ak)) (pv 3)))
 (aq (aM (i:=7) bU.nd rfl (MT rfl) aF)
 (aq (dF Nz rfl (cB (pv 5)) (aH (i:=8) bU.nd rfl (MT rfl)) (aA (dF Nz rfl (cB (bH (r:=jK K) bj (pv 0) (pv 8) (fun _ _=>rfl))) (aH (i:=9) bU.nd rfl (MT rfl)) (aq (xV (bH (r:=jK K) bj (pv 2) (pv 8) (fun _ _=>rfl)) (Ck (pv 6) (pv 9) set_list))
 (aA (aM (i:=7) bU.nd rfl (MT rfl) (bB eY (pv 7) aF)))))))
 (aq (dF Nz rfl (cB (pv 1)) (aH (i:=9) bU.nd rfl (MT rfl)) (aA (cU (PW.pt (CZ (aX tH (pv 7) (pv 4) (aZ _)) (zy (aX (r:=KQ K) (Ip hr.kJ) (pv 0) (bO ak) (aZ _))))) (aA (xV aF (Ck (pv 6) (pv 9) set_list))) aV)))
 (aA (aO (dH (r:=jG K) cO rfl B.tuple_ dY (aa (pv 6) ak)))))))),?_⟩
  have n12:=O.n12
  have lus:=lf.length
  have stp:∀ a,a < R.rs.length->atI (ss.map V.int) (a:Int)=some (.int (R.st a)):=fun a ha=>bu (lK (hs a ha))
  have rga:∀ a,a < R.rs.length->R.rs[a]? = some (R.rg a):=fun a ha=>by
   unfold aC.rg
   rw[Mg,Mi ha]
   rfl
  refine aB (fun σ H1=>∃ pg,σ=[some (.ref pr),some (.ref pe),some (.ref ps),some (.int (R.n:Int)),some (.int R.many),some (.ref pc),some (.ref pg),none,none,none]/\aP H H1/\H pg=none/\H1 pg=some (.lst ((Mz R.n (0:Int)).map V.int))) ?q1 ?t1
  case t1 =>
   intro N Rc
   refine⟨small (by show 1<=1000; decide),fun p0 h0=>?_⟩
   refine⟨_,rfl,p0,(R.n:Int),_,rfl,rfl,aj,by lia,by lia,?_,fun pg hg=>Rc _ _ ⟨pg,rfl,(au h0 _).trans (au hg _),(au h0 _).free hg,?_⟩⟩
   ·rw[show ((R.n:Int)).toNat=R.n by lia]
    exact small (by show 1 * R.n<=1000; lia)
   ·rw[aj,show ((R.n:Int)).toNat=R.n by lia]
    congr 2
    rw[List.map_replicate]
    induction R.n with
    | zero=>rfl
    | succ m ih=>rw[OD,O1,ih,OD]; rfl
  case q1 =>
  rintro σ H1 ⟨pg,rfl,s1,hpg,eg⟩
  refine aB (fun σ H2=>σ=[some (.ref pr),some (.ref pe),some (.ref ps),some (.int (R.n:Int)),some (.int R.many),some (.ref pc),some (.ref pg),some (.int 0),none,none]/\H1=H2) ?q2 ?t2
  case t2 =>
   intro N Rc
   exact Rc _ _ ⟨rfl,rfl⟩
  case q2 =>
  rintro σ H2 ⟨rfl,rfl⟩
  refine aB (fun σ H3=>∃ (L:List Int) (u8 u9:Option V),σ=[some (.ref pr),some (.ref pe),some (.ref ps),some (.int (R.n:Int)),some (.int R.many),some (.ref pc),some (.ref pg),some (.int ((R.cnt fun a=>decide (a∈cs)):Int)),u8,u9]/\aP H H3/\H3 pg=some (.lst (L.map V.int))/\L.length=R.n/\∀ i,i < R.n->L.getD i 0=R.pw (fun a=>decide (a∈cs)) 0 0 i) ?q3 ?t3
  case t3 =>
   intro N Rc
   refine⟨_,rfl,pc,rfl,⟨_,SqL.of (s1 _ _ ec)⟩,cY (K:=K) (a:=pc) (xs:=cs.map vN) (fun t σ H3=>∃ (L:List Int) (u8 u9:Option V),σ=[some (.ref pr),some (.ref pe),some (.ref ps),some (.int (R.n:Int)),some (.int R.many),some (.ref pc),some (.ref pg),some (.int ((R.cnt fun a=>decide (a∈cs.take t)):Int)),u8,u9]/\aP H H3/\H3 pg=some (.lst (L.map V.int))/\L.length=R.n/\∀ i,i < R.n->L.getD i 0=R.pw (fun a=>decide (a∈cs.take t)) 0 0 i) ?_ (fun t σ H3 _ h=>?_) ?_ ?_⟩
   ·refine⟨Mz R.n 0,none,none,?_,s1,eg,Nv,fun i hi=>?_⟩
    ·have:R.cnt (fun a=>decide (a∈cs.take 0))=0:=by
      unfold aC.cnt
      rw[List.length_eq_zero_iff,List.filter_eq_nil_iff]
      intro i _
      cases R.of i with
      | none=>exact Mr
      | some a=>simp
     rw[this]
     rfl
    ·rw[Mg,Pj,if_pos hi]
     unfold aC.pw
     split
     ·rw[if_neg (by simp)]
      rfl
     ·rfl
   ·obtain⟨_,_,_,_,s3,_⟩:=h
    exact SqL.of (s3 _ _ ec)
   ·rintro t x σ H3 hx ⟨L,u8,u9,rfl,s3,e3,lL,hL⟩
    obtain⟨a,ha,rfl⟩:=pP hx
    have hal:=hc a (MJ ha)
    obtain⟨ra,q1,q2⟩:=lf.get (rga a hal)
    have hnot:a ∉ cs.take t:=fun z=>by
     obtain⟨q,hq,e⟩:=OJ z
     rw[List.getElem_take] at e
     obtain⟨hj,e2⟩:=List.getElem?_eq_some_iff.mp ha
     rw[← e2] at e
     have:=(Q9 nd).mp e
     rw[Nf] at hq
     lia
    have eC:(fun b=>decide (b∈cs.take (t+1)))=fun b=>(decide (b∈cs.take t) || decide (b=a)):=funext fun b=>by
     rw[Nt,ha,Qc,QJ,decide_eq_true_eq,decide_eq_true_eq,decide_eq_true_eq,Qj]
     exact or_congr Iff.rfl (Uh (α:=Nat))
    have ecn:R.cnt (fun b=>decide (b∈cs.take (t+1)))=R.cnt (fun b=>decide (b∈cs.take t))+(R.rg a).length:=by
     rw[eC]
     exact aC.Gb O (decide_eq_false hnot)
    have hra3:=s3 _ _ q2
    refine gN ?_
    refine⟨_,rfl,_,rfl,pr,_,_,_,rfl,rfl,SqL.of (s3 _ _ er),bu q1,ra,rfl,⟨_,SqL.of hra3⟩,cY (K:=K) (a:=ra) (xs:=(R.rg a).map vN) (fun k σ H4=>∃ (L:List Int) (u9:Option V),σ=[some (.ref pr),some (.ref pe),some (.ref ps),some (.int (R.n:Int)),some (.int R.many),some (.ref pc),some (.ref pg),some (.int ((R.cnt (fun b=>decide (b∈cs.take t))+k:Nat):Int)),some (.int (a:Int)),u9]/\aP H H4/\H4 pg=some (.lst (L.map V.int))/\L.length=R.n/\∀ i,i < R.n->L.getD i 0=R.pw (fun b=>decide (b∈cs.take t)) a k i) ?_ (fun k σ H4 _ h=>?_) ?_ ?_⟩
    ·exact⟨L,_,rfl,s3,e3,lL,fun i hi=>by rw[hL i hi]; exact aC.xj _ _ _ _⟩
    ·obtain⟨_,_,_,s4,_⟩:=h
     exact SqL.of (s4 _ _ q2)
    ·rintro k x σ H4 hx ⟨L4,u9',rfl,s4,e4,l4,h4⟩
     obtain⟨i0,hi0,rfl⟩:=pP hx
     have hin:=aC.cV O (MJ hi0)
     refine gN ?_
     refine⟨_,rfl,_,rfl,ps,_,_,_,rfl,rfl,SqL.of (s4 _ _ es),stp a hal,_,rfl,_,rfl,pg,_,_,i0,rfl,rfl,e4,by rw[Mf,l4]; exact xR hin,_,rfl,_,_,rfl,rfl,L4.set i0 (R.st a),some (vN i0),?_,aG s4 hpg _,by rw[aj,tV],by rw[Tu]; exact l4,fun i hi=>?_⟩
     ·rfl
     ·rw[ue (by lia),aC.El O hi0,h4 i hi]
    ·rintro σ H4 ⟨L4,u9',rfl,s4,e4,l4,h4⟩
     rw[Mf] at h4 ⊢
     refine⟨L4,some (.int (a:Int)),u9',?_,s4,e4,l4,fun i hi=>?_⟩
     ·rw[ecn]
     ·rw[h4 i hi,aC.Gh,eC]
      exact aC.xj _ _ _ _
   ·rintro σ H3 ⟨L,u8,u9,rfl,s3,e3,lL,hL⟩
    rw[Mf] at hL ⊢
    rw[M4] at hL ⊢
    exact Rc _ _ ⟨L,u8,u9,rfl,s3,e3,lL,hL⟩
  case q3 =>
  rintro σ H3 ⟨L,u8,u9,rfl,s3,e3,lL,hL⟩
  generalize eCn:R.cnt (fun a=>decide (a∈cs))=cn at *
  refine aB (fun σ H4=>∃ (L:List Int) (u9:Option V),σ=[some (.ref pr),some (.ref pe),some (.ref ps),some (.int (R.n:Int)),some (.int R.many),some (.ref pc),some (.ref pg),some (.int (cn:Int)),u8,u9]/\aP H H4/\H4 pg=some (.lst (L.map V.int))/\L.length=R.n/\∀ i,i < R.n->L.getD i 0=R.gvA (fun a=>decide (a∈cs)) i) ?q4 ?t4
  case t4 =>
   intro N Rc
   refine⟨_,rfl,pe,rfl,⟨_,SqL.of (s3 _ _ ee)⟩,cY (K:=K) (a:=pe) (xs:=R.rest.map vN) (fun j σ H4=>∃ (L:List Int) (u9:Option V),σ=[some (.ref pr),some (.ref pe),some (.ref ps),some (.int (R.n:Int)),some (.int R.many),some (.ref pc),some (.ref pg),some (.int (cn:Int)),u8,u9]/\aP H H4/\H4 pg=some (.lst (L.map V.int))/\L.length=R.n/\∀ i,i < R.n->L.getD i 0=if i∈R.rest.take j/\R.many<=(cn:Int)/\R.rs≠[] then 3 else R.pw (fun a=>decide (a∈cs)) 0 0 i) ?_ (fun j σ H4 _ h=>?_) ?_ ?_⟩
   ·exact⟨L,_,rfl,s3,e3,lL,fun i hi=>by rw[hL i hi,Od,if_neg (fun z=>absurd z.1 (Om))]⟩
   ·obtain⟨_,_,_,s4,_⟩:=h
    exact SqL.of (s4 _ _ ee)
   ·rintro j x σ H4 hx ⟨L4,u9',rfl,s4,e4,l4,h4⟩
    obtain⟨i0,hi0,rfl⟩:=pP hx
    have hin:i0 < R.n:=List.mem_range.mp (O.perm.mem_iff.mp (Nu _ (MJ hi0)))
    have skip:¬ (R.many<=(cn:Int)/\R.rs≠[])->∀ i,i < R.n->L4.getD i 0=if i∈R.rest.take (j+1)/\R.many<=(cn:Int)/\R.rs≠[] then 3 else R.pw (fun a=>decide (a∈cs)) 0 0 i:=fun hn i hi=>by
     rw[h4 i hi,if_neg fun z=>hn z.2,if_neg fun z=>hn z.2]
    refine gN ?_
    refine⟨_,rfl,_,rfl,_,_,rfl,rfl,_,rfl,?_⟩
    refine CK (fun cc=>?_) (fun cc=>?_)
    ·have hm:=of_decide_eq_true cc
     refine⟨_,rfl,small (by show 0<=1000; decide),fun pz hpz=>?_⟩
     generalize eH5:upd H4 pz _=H5
     obtain⟨g5,f5⟩:=aR eH5 hpz
     have s5:=s4.trans g5
     refine⟨pr,pz,us,rfl,rfl,SqL.of (s5 _ _ er),SqL.of f5,_,rfl,?_⟩
     by_cases cr:R.rs=[]
     ·have:us=[]:=R4 (by rw[lus,cr]; rfl)
      refine GF (by rw[this]; rfl) ⟨L4,_,rfl,s5,g5 _ _ e4,l4,skip fun z=>z.2 cr⟩
     ·have:us≠[]:=fun z=>cr (R4 (by rw[← lus,z]; rfl))
      refine Ku ?_ ?_
      ·cases us with
       | nil=>exact absurd rfl this
       | cons _ _=>rfl
      ·refine⟨_,rfl,_,rfl,pg,_,_,i0,rfl,rfl,g5 _ _ e4,by rw[Mf,l4]; exact xR hin,L4.set i0 3,_,rfl,aG s5 hpg _,by rw[aj]; exact congrArg _ (congrArg _ (tV L4 i0 3)),by rw[Tu]; exact l4,fun i hi=>?_⟩
       rw[ue (by lia),Nt,hi0]
       by_cases e:i=i0
       ·rw[if_pos e,if_pos ⟨Nu _ (List.mem_singleton.mpr e),hm,cr⟩]
       ·rw[if_neg e,h4 i hi]
        have:i∈R.rest.take j++(some i0).toList ↔ i∈R.rest.take j:=by
         rw[Qj]
         exact⟨fun z=>z.elim id fun w=>absurd (List.mem_singleton.mp w) e,.inl⟩
        simp only[this]
    ·exact⟨L4,_,rfl,s4,e4,l4,skip fun z=>cc (decide_eq_true z.1)⟩
   ·rintro σ H4 ⟨L4,u9',rfl,s4,e4,l4,h4⟩
    rw[Mf,M4] at h4
    refine Rc _ _ ⟨L4,_,rfl,s4,e4,l4,fun i hi=>?_⟩
    rw[h4 i hi]
    unfold aC.pw aC.gvA
    rw[eCn]
    cases e:R.of i with
    | none =>
     have:=(aC.of_none O hi).mp e
     dsimp only
     by_cases c:R.many<=(cn:Int)/\R.rs≠[]
     ·rw[if_pos ⟨this,c⟩,if_pos ⟨c.2,c.1⟩]
     ·rw[if_neg fun z=>c z.2,if_neg fun z=>c ⟨z.2,z.1⟩]
    | some b =>
     have:i ∉ R.rest:=fun z=>by
      rw[(aC.of_none O hi).mpr z] at e
      cases e
     dsimp only
     rw[if_neg fun z=>this z.1]
     simp only[P0,and_false,or_false]
  case q4 =>
  rintro σ H4 ⟨L4,u9',rfl,s4,e4,l4,h4⟩
  refine⟨_,rfl,pg,_,rfl,.inl ⟨SqL.of e4,fun p hp=>q p _ (s4.trans (au hp _)) ?_⟩⟩
  rw[aj]
  congr 2
  congr 1
  refine List.ext_getElem (by rw[l4,aC.dU]) fun i h1 h2=>?_
  have h3:=h4 i (by lia)
  rw[← aC.dD (by lia),Mg,Mi h1,Mg,Mi h2] at h3
  exact h3
def pD (p:List Nat × List Int):Dm:=.tup [cD p.1,.tup (p.2.map Dm.int)]
theorem bQ.rep {H0 H:Hp}:∀ {us:List V} {ps:List (List Nat × List Int)},bQ H0 H us ps->mC H us (ps.map pD)
 | _,_,.nil=>.nil
 | _,_,.cons h1 h2 _ h4 h5 h6 r=>.cons (.tup h1 (by show 2<=100000; decide) (.cons (zj h2 (Ob h4 (by decide))) (.cons (je h5 h6) .nil))) (bQ.rep r)
theorem yt:∀ ps:List (List Nat × List Int),jP (ps.map pD)<=2
 | []=>by rw[RD,jP]; decide
 | p::ps=>by
  have h1:=yt ps
  have h2:(cD p.1).dep=1:=Cw p.1
  have h3:(Dm.tup (p.2.map Dm.int)).dep=1:=tE p.2
  rw[Ni,jP,pD,Dm.dep,jP,jP,jP,h2,h3]
  lia
theorem wW {α β:Type} {f:α->β}:∀ {qs ms:List β},qs.Perm ms->∀ {l:List α},l.map f=ms->∃ l':List α,l'.Perm l/\l'.map f=qs:=by
 intro qs ms h
 induction h with
 | nil=>intro l e; exact⟨l,.refl _,e⟩
 | cons x _ ih =>
  intro l e
  cases l with
  | nil=>cases e
  | cons a l =>
   obtain⟨e1,e2⟩:=Ub e
   obtain⟨l',p,e3⟩:=ih e2
   exact⟨a::l',p.cons a,by rw[Ni,e1,e3]⟩
 | swap x y m =>
  intro l e
  cases l with
  | nil=>cases e
  | cons a l =>
   cases l with
   | nil=>simp at e
   | cons b l =>
    obtain⟨e1,e2⟩:=Ub e
    obtain⟨e3,e4⟩:=Ub e2
    exact⟨b::a::l,List.Perm.swap _ _ _,by rw[Ni,Ni,e1,e3,e4]⟩
 | trans _ _ ih1 ih2 =>
  intro l e
  obtain⟨l2,p2,e2⟩:=ih2 e
  obtain⟨l1,p1,e1⟩:=ih1 e2
  exact⟨l1,p1.trans p2,e1⟩
namespace aC
variable {R:aC}
theorem oW {C D:Nat->Bool} (h:∀ a,a < R.rs.length->C a=D a):R.gv C=R.gv D:=by
 have hc:R.cnt C=R.cnt D:=by
  unfold cnt
  refine congrArg Rx (O9 fun i _=>?_)
  cases e:R.of i with
  | none=>rfl
  | some a=>exact h a (jg (jk e)).1
 unfold gv
 refine R9 fun i _=>?_
 unfold gvA
 rw[hc]
 cases e:R.of i with
 | none=>rfl
 | some a =>
  dsimp only
  rw[h a (jg (jk e)).1]
theorem yL (O:R.Ok):2 * R.rs.length<=R.n:=by
 have h1:=O.perm.length_eq
 rw[Mv,MN] at h1
 have h2:∀ l:List (List Nat),(∀ r∈l,2<=r.length)->2 * l.length<=l.flatten.length:=by
  intro l
  induction l with
  | nil=>intro _; exact Mt _
  | cons r l ih =>
   intro h
   have h1:=h r Ml
   have h2:=ih fun x hx=>h x (MF _ hx)
   rw[MK,O1,Mv]
   lia
 have:=h2 R.rs O.two
 lia
theorem HF (O:R.Ok) {a:Nat} (ha:a < R.rs.length):R.sr a≠[]:=fun z=>by
 have hr:R.rg a∈R.rs:=by
  unfold rg
  rw[Mg,Mi ha]
  exact Nk ha
 have h1:=O.two _ hr
 have h2:=yU O a
 rw[z,List.length_nil] at h2
 lia
theorem Ik (O:R.Ok) {a b:Nat} (ha:a < R.rs.length) (h:R.sr a=R.sr b):a=b:=by
 cases e:R.sr a with
 | nil=>exact absurd e (HF O ha)
 | cons x _ =>
  have hx:x∈R.sr a:=by rw[e]; exact Ml
  exact apart O ((ik O).mp hx) ((ik O).mp (h▸hx))
theorem wN (O:R.Ok) (a:Nat):(R.sr a).length<=12:=by
 have:=Oo (fun i=>decide (i∈R.rg a)) (Ms R.n)
 rw[MN] at this
 have:=O.n12
 unfold sr
 lia
def cs0 (R:aC):List Nat:=(Ms R.rs.length).filter fun a=>decide (a=R.fr)
theorem JG {as:List Nat} (t:Nat):R.gv (fun a=>decide (a∈R.cs0++as.take t))=R.gv (R.clo as t):=oW fun a ha=>by
 unfold clo cs0
 rw[Qc,QJ,decide_eq_true_eq,decide_eq_true_eq,decide_eq_true_eq,Qj,QG,QZ,decide_eq_true_eq]
 exact or_congr ⟨fun z=>z.2,fun z=>⟨ha,z⟩⟩ Iff.rfl
theorem Ij:R.gv (fun a=>decide (a∈R.cs0))=R.gv fun a=>decide (a=R.fr):=oW fun a ha=>by
 unfold cs0
 refine decide_eq_decide.mpr ?_
 rw[QG,QZ,decide_eq_true_eq]
 exact⟨fun z=>z.2,fun z=>⟨ha,z⟩⟩
theorem GP (O:R.Ok) {bk:List (List Pl)} (B:R.Bk bk) {a:Nat} (hf:a≠R.fr) {z:List Int} (mz:∀ lo,Low R.n (zeros R.n) bk lo->wB R.n (zeros R.n) bk lo (R.sr a) z):z=R.up (fun b=>decide (b=R.fr)) a:=by
 have lo:=gR O B
 have gd:R.Good fun b=>decide (b=R.fr):=fun b _ e=>decide_eq_true e
 have h1:=tM B.len B.ok (fP _) lo (mz _ lo)
 have h2:=tM B.len B.ok (cj O _) (fV O B gd) (Dq O B (C:=fun b=>decide (b=R.fr)) (decide_eq_false hf) fun i=>ik O)
 rw[h1,h2]
 exact (Aj B.len B.ok (fP _) lo _).symm
theorem DR (O:R.Ok) {bk:List (List Pl)} (B:R.Bk bk) {as:List Nat} (L:R.Left as) (h:R.n<=12):KY R.n (zeros R.n) bk:=by
 have l6:R.rs.length<=6:=by
  have:=yL O
  lia
 refine⟨few O B (C:=fun b=>decide (b=R.fr)) (fun b _ e=>decide_eq_true e) (fP _) (gR O B) l6,fun t=>?_⟩
 rw[mR O B L]
 exact few O B (gQ R as t) (cj O _) (fV O B (gQ R as t)) l6
end aC
abbrev Fw:Stmt:=top 39
theorem cG:aQ ["_law_script","_law_cell","_law_drawn","_law_n","_law_rings_here","_law_rest","_law_steps","_law_many","_law_free","_law_book","_law_floor","_law_closed","_law_sure_giving","_law_whole","_law_left","_law_want","_law_knot","_law_at","_law_here"] ["_law_script"] (aD Fw):=⟨rfl,rfl,rfl,by decide+kernel,rfl,by decide+kernel,by decide+kernel⟩
def Aa (K:Nq):Sp:=fun vs H Q _=>∃ (a:Addr) (ns:List Int),vs=[.ref a]/\SqL K H a (ns.map V.int)/\ns.length<=63/\∀ H',Q (.bl true) H'
def LnR (H0 H:Hp) (R:aC) (p:Addr × Addr × Nat):Prop:=H p.1=some (.tup [.ref p.2.1,vN p.2.2])/\H p.2.1=some (.lst ((R.sr p.2.2).map vN))/\H0 p.2.1=none
theorem LnR.mono {H0 H H':Hp} {R:aC} {p:Addr × Addr × Nat} (s:aP H H') (h:LnR H0 H R p):LnR H0 H' R p:=⟨s _ _ h.1,s _ _ h.2.1,h.2.2⟩
theorem LnR.rep {H0 H:Hp} {R:aC} (O:R.Ok):∀ {pp:List (Addr × Addr × Nat)},(∀ p∈pp,LnR H0 H R p)->mC H (pp.map fun p=>V.ref p.2.1) (((pp.map (·.2.2)).map R.sr).map cD)
 | [],_=>.nil
 | p::pp,h=>.cons (zj (h p Ml).2.1 (Ob (aC.wN O _) (by decide))) (LnR.rep O fun q hq=>h q (MF _ hq))
theorem bQ.DP {H0 H:Hp} {us:List V} {ps:List (List Nat × List Int)} (h:bQ H0 H us ps) {D k:Addr} {c:List Nat} (hD:H D=some (.lst us)) (hk:H k=some (.lst (c.map vN))) (hc:c≠[]):k≠D:=fun z=>by
 rw[z,hD] at hk
 injection hk with hk
 injection hk with hk
 cases us with
 | nil=>exact hc (List.map_eq_nil_iff.mp hk.symm)
 | cons u us' =>
  obtain⟨a,rfl⟩:=h.refs u Ml
  exact rP Ml hk
theorem Iu (F:Fun K "law" "law" Fw f fd) (B:Bt mg)
  (D_law_draws:Df P w K mg base "_law_draws" 1 ["_law_cell","_law_parts"] (tO K)) (D_law_same:Df P w K mg base "_law_same" 4 ["_law_found","_law_due"] (mY 4)) (D_law_rings:Df P w K mg base "_law_rings" 3 ["_law_cell","_law_n"] xF) (D_law_laid:Df P w K mg base "_law_laid" 1 ["_law_rings_here","_law_rest","_law_steps","_law_n","_law_many","_law_free"] Dz) (D_law_given:Df P w K mg base "_law_given" 1 ["_law_rings_here","_law_rest","_law_steps","_law_n","_law_many","_law_closed"] za)
  (D_least:Df P w K mg base "least" 13 ["book","floor"] (pA Hs)) (D_greatest:Df P w K mg base "greatest" 13 ["book","floor"] (pA rfF)) (D_knots:Df P w K mg base "knots" 14 ["book","floor"] qT) (D_alone:Df P w K mg base "alone" 14 ["book","floor","crowd"] rE) (D_climb:Df P w K mg base "climb" 15 ["book","floor"] wD):fu P w K mg base CX0 16 f fd ["_law_script"] (Aa K):=by
 refine F.ok cG (fun vs H Q E h=>?_) (fun cdv A outer s H vs Q E hr h=>?_)
 ·obtain⟨a,ns,rfl,_⟩:=h
  rfl
 ·obtain⟨a,ns0,rfl,hS,lN,q⟩:=h
  refine⟨_,(aq (aM (i:=0) cG.nd rfl (MT rfl) (oX (r:=JV K) qW (pv 0) rY (rA aF)))
 (aq (dF Nz rfl (cB (bB pL (oX (r:=JV K) qW (pv 0) rY (rA aF)) (bO (aa aF (aa aF ak))))) (aH (i:=1) cG.nd rfl (MT rfl)) (aq (aM (i:=2) cG.nd rfl (MT rfl) (aY D_law_draws hr (aa (pv 1) (aa (bO (fM aF (fM aF (fM aF (fM aF (fM aF (fM aF (fM aF ak)))))))) ak))))
 (aq (aM (i:=3) cG.nd rfl (MT rfl) (bB eY aF (bH (r:=jK K) bj (pv 2) aF (fun _ _=>rfl))))
 (aq (xV (aY D_law_rings hr (aa (bB eY (pv 1) aF) (aa (pv 3) ak))) (d8 (K:=K) 2 rfl rfl (aW (aH (i:=4) cG.nd rfl (Td rfl)) (aW (aH (i:=5) cG.nd rfl (MT rfl)) eF))))
 (aq (nJ (L:=["_law_step"]) (F:=[]) (cap:=[]) (j:=6) cG.nd rfl (MT rfl) rfl (bG rfl rfl (by kernel_rfl)) (cB (oX (r:=JV K) qW (pv 2) (rA aF) rY)) (fun _ _ _ _ _=>(aH (i:=0) (aU (by decide+kernel)) rfl (MT rfl))) (fun _ _ _ _ _=>bW) (fun _ _ _ _ _=>(bB eY aF (pv 0))))
 (aq (aM (i:=7) cG.nd rfl (MT rfl) (bB eY aF (bH (r:=jK K) bj (pv 2) aF (fun _ _=>rfl))))
 (aq (aM (i:=8) cG.nd rfl (Td rfl) (bH (r:=jK K) bj (pv 2) aF (fun _ _=>rfl)))
 (aq (aM (i:=9) cG.nd rfl (MT rfl) (aY D_law_laid hr (aa (pv 4) (aa (pv 5) (aa (pv 6) (aa (pv 3) (aa (pv 7) (aa (pv 8) ak))))))))
 (aq (aM (i:=10) cG.nd rfl (MT rfl) (bB (r:=HY K) Fi (dW (aa aF ak)) (pv 3)))
 (aq (nJ (L:=["_law_at"]) (F:=["_law_free"]) (cap:=[8]) (j:=11) cG.nd rfl (MT rfl) rfl (bG rfl rfl (by kernel_rfl)) (dC rfl B.range_ (aa (aJ (r:=pQ K) bw rfl B.len_ dX (aa (pv 4) ak)) ak)) (fun _ _ _ _ _=>(aH (i:=0) (aU (by decide+kernel)) rfl (MT rfl))) (fun _ _ _ _ _=>(nC (aX iT (pv 0) (pv 1) (aZ _)))) (fun _ _ _ _ _=>(pv 0)))
 (aq (aM (i:=12) cG.nd rfl (MT rfl) (aY D_law_given hr (aa (pv 4) (aa (pv 5) (aa (pv 6) (aa (pv 3) (aa (pv 7) (aa (pv 11) ak))))))))
 (aq (aM (i:=13) cG.nd rfl (MT rfl) (aY D_law_given hr (aa (pv 4) (aa (pv 5) (aa (pv 6) (aa (pv 3) (aa (pv 7) (aa (jL rfl rfl B.list_ rfl B.range_ (aa (aJ (r:=pQ K) bw rfl B.len_ dX (aa (pv 4) ak)) ak)) ak))))))))
 (aq (cU (nq (gB (aY D_law_same hr (aa (bO (aa (aY D_least hr (aa (pv 9) (aa (pv 10) ak))) (aa (aY D_greatest hr (aa (pv 9) (aa (pv 10) ak))) ak))) (aa (bO (aa (pv 12) (aa (pv 13) ak))) ak))))) (aA (aO iH)) aV)
 (aq (aM (i:=14) cG.nd rfl (MT rfl) (aJ (r:=xM K) (sJ hr) rfl B.sorted_ (by decide+kernel) (aa (bV (L:=["_law_at"]) (F:=["_law_rings_here","_law_free"]) (cap:=[4,8]) rfl (bG rfl rfl (by kernel_rfl)) (dC rfl B.range_ (aa (aJ (r:=pQ K) bw rfl B.len_ dX (aa (pv 4) ak)) ak)) (fun _ _ _ _ _=>(aH (i:=0) (aU (by decide+kernel)) rfl (MT rfl))) (fun _ _ _ _ _=>(nC (aX Gu (pv 0) (pv 2) (aZ _)))) (fun _ _ _ _ _=>(dW (aa (aJ (r:=zp K) nu rfl B.sorted_ (by decide+kernel) (aa (bH (r:=jK K) bj (pv 1) (pv 0) (fun _ _=>rfl)) ak)) (aa (pv 0) ak))))) ak)))
 (aq (cU (nq (gB (aY D_law_same hr (aa (aY D_knots hr (aa (pv 9) (aa (pv 10) ak))) (aa (bV (L:=["_law_knot","_law_at"]) (F:=[]) (cap:=[]) rfl (bG rfl rfl (by kernel_rfl)) (cB (pv 14)) (fun _ _ _ _ _=>(d8 (K:=K) 2 rfl rfl (aW (aH (i:=0) (aU (by decide+kernel)) rfl (MT rfl)) (aW (aH (i:=1) (aU (by decide+kernel)) rfl (MT rfl)) eF)))) (fun _ _ _ _ _=>bW) (fun _ _ _ _ _=>(pv 0))) ak))))) (aA (aO iH)) aV)
 (aq (aM (i:=15) cG.nd rfl (MT rfl) (bO ak))
 (aq (dF Nz rfl (cB (pv 14)) (d8 (K:=K) 2 rfl rfl (aW (aH (i:=16) cG.nd rfl (MT rfl)) (aW (aH (i:=17) cG.nd rfl (MT rfl)) eF))) (aq (aM (i:=11) cG.nd rfl (MT rfl) (bB pL (pv 11) (bO (aa (pv 17) ak))))
 (aq (dM (jt Np NZ NT bM (pv 15) (aa (dW (aa (pv 16) (aa (aY D_law_given hr (aa (pv 4) (aa (pv 5) (aa (pv 6) (aa (pv 3) (aa (pv 7) (aa (pv 11) ak))))))) ak))) ak)))
 (aq (aM (i:=18) cG.nd rfl (Td rfl) (aY D_alone hr (aa (pv 9) (aa (pv 10) (aa (pv 16) ak)))))
 (aA (cU (nq (gB (aY D_law_same hr (aa (bV (L:=["_law_one"]) (F:=["_law_here"]) (cap:=[18]) rfl (bG rfl rfl (by kernel_rfl)) (cB (pv 16)) (fun _ _ _ _ _=>(aH (i:=0) (aU (by decide+kernel)) rfl (MT rfl))) (fun _ _ _ _ _=>bW) (fun _ _ _ _ _=>(bH (r:=oZ K) dz (pv 1) (pv 0) (fun _ _=>rfl)))) (aa (bB ye (bO (aa (bH (r:=jK K) bj (pv 6) (pv 17) (fun _ _=>rfl)) ak)) (aJ (r:=pQ K) bw rfl B.len_ dX (aa (pv 16) ak))) ak))))) (aA (aO iH)) aV))))))
 (aA (cU (nq (gB (aY D_law_same hr (aa (aY D_climb hr (aa (pv 9) (aa (pv 10) ak))) (aa (pv 15) ak))))) (aA (aO iH)) aV)))))))))))))))))))
 (aA (aO iH)))),?_⟩
  refine aB (fun σ H2=>∃ (p1:Addr) (ss:List Int),σ=[some (.ref p1),none,none,none,none,none,none,none,none,none,none,none,none,none,none,none,none,none,none]/\H2 p1=some (.lst (ss.map V.int))/\ss.length<=63) ?r1 ?s1
  case s1 =>
   intro N R
   refine⟨_,rfl,_,rfl,a,_,rfl,hS,fun p1 h1=>?_⟩
   obtain⟨ss,es,ls⟩:=uF ns0 none (some 63)
   refine R _ _ ⟨p1,ss,rfl,?_,by lia⟩
   rw[aj,es]
  case r1 =>
  rintro σ H1 ⟨p1,ss,rfl,e1,ls⟩
  refine⟨_,rfl,_,rfl,p1,_,rfl,SqL.of e1,fun p4 h4=>?_⟩
  obtain⟨ks,ek,lk⟩:=uF ss none (some 9)
  rw[ek]
  generalize eH4:upd H1 p4 _=H4
  obtain⟨g4,e4⟩:=aR eH4 h4
  refine⟨small (by decide),fun p5 h5=>?_⟩
  generalize eH5:upd H4 p5 _=H5
  obtain⟨g5,e5⟩:=aR eH5 h5
  refine⟨p4,p5,_,_,rfl,rfl,g5 _ _ e4,e5,small (by rw[Mf]; show ks.length+2<=1000; lia),fun p6 h6=>?_⟩
  rw[show ks.map V.int++[V.int 1,V.int 2]=(ks++[1,2]).map V.int by rw[Mu]; rfl]
  generalize eH6:upd H5 p6 _=H6
  obtain⟨g6,e6⟩:=aR eH6 h6
  refine⟨p6,rfl,⟨_,SqL.of e6⟩,cY (K:=K) (a:=p6) (xs:=(ks++[1,2]).map V.int) (fun i σ H7=>(∃ v1 v2 v3 v4 v5 v6 v7 v8 v9 va vb vc vd ve vf vg vh vi:Option V,σ=[some (.ref p1),v1,v2,v3,v4,v5,v6,v7,v8,v9,va,vb,vc,vd,ve,vf,vg,vh,vi])/\aP H6 H7) ⟨⟨_,_,_,_,_,_,_,_,_,_,_,_,_,_,_,_,_,_,rfl⟩,aP.refl _⟩
   (fun i σ H7 _ h=>SqL.of (h.2 _ _ e6)) ?_ ?_⟩
  ·rintro i x σ H7 hx ⟨⟨v1,v2,v3,v4,v5,v6,v7,v8,v9,va,vb,vc,vd,ve,vf,vg,vh,vi,rfl⟩,s7⟩
   obtain⟨z,hz,rfl⟩:=int_at hx
   refine gN ?_
   refine aB (fun σ H8=>∃ (pd:Addr) (x0 x1 x2 x3 x4 x5 x6:Int),σ=[some (.ref p1),some (.int z),some (.ref pd),v3,v4,v5,v6,v7,v8,v9,va,vb,vc,vd,ve,vf,vg,vh,vi]/\aP H7 H8/\H8 pd=some (.lst ([x0,x1,x2,x3,x4,x5,x6].map V.int))/\(0<=x0/\x0 < 6)/\(0<=x1/\x1 < 8)/\(0<=x2/\x2 < 4)/\∀ x∈[x3,x4,x5,x6],0<=x/\x < 9) ?q1 ?t1
   case t1 =>
    intro N R
    refine⟨_,rfl,small (by show 7<=1000; decide),fun pl hl=>?_⟩
    generalize eH8:upd H7 pl _=H8
    obtain⟨g8,e8⟩:=aR eH8 hl
    refine⟨z,pl,[6,8,4,9,9,9,9],rfl,SqL.of e8,by decide,by decide,fun pd hd=>?_⟩
    refine R _ _ ⟨pd,_,_,_,_,_,_,_,rfl,g8.trans (au hd _),aj,⟨Qa _ (by decide),Ph _ (by decide)⟩,⟨Qa _ (by decide),Ph _ (by decide)⟩,⟨Qa _ (by decide),Ph _ (by decide)⟩,fun x hx=>?_⟩
    simp only[Og,Om,or_false] at hx
    rcases hx with rfl | rfl | rfl | rfl <;> exact⟨Qa _ (by decide),Ph _ (by decide)⟩
   case q1 =>
   rintro σ H8 ⟨pd,x0,x1,x2,x3,x4,x5,x6,rfl,s8,ed,b0,b1,b2,b3⟩
   obtain⟨n,en⟩:∃ n:Nat,3+x0=(n:Int):=⟨(3+x0).toNat,by lia⟩
   refine aB (fun σ H9=>H8=H9/\σ=[some (.ref p1),some (.int z),some (.ref pd),some (.int (n:Int)),v4,v5,v6,v7,v8,v9,va,vb,vc,vd,ve,vf,vg,vh,vi]) ?q2 ?t2
   case t2 =>
    intro N R
    refine⟨_,rfl,pd,_,_,_,rfl,rfl,SqL.of ed,bu (k:=0) rfl,_,_,rfl,rfl,?_⟩
    refine R _ _ ⟨rfl,?_⟩
    show[some (V.ref p1),some (.int z),some (.ref pd),some (.int (3+x0)),v4,v5,v6,v7,v8,v9,va,vb,vc,vd,ve,vf,vg,vh,vi]=_
    rw[en]
   case q2 =>
   rintro σ H9 ⟨rfl,rfl⟩
   have n8:n<=8:=by lia
   refine aB (fun σ H9=>∃ (pr pe:Addr) (us:List V) (rs:List (List Nat)) (rest:List Nat),σ=[some (.ref p1),some (.int z),some (.ref pd),some (.int (n:Int)),some (.ref pr),some (.ref pe),v6,v7,v8,v9,va,vb,vc,vd,ve,vf,vg,vh,vi]/\aP H8 H9/\H9 pr=some (.lst us)/\LF H8 H9 us rs/\H9 pe=some (.lst (rest.map vN))/\(rs.flatten++rest).Perm (Ms n)/\∀ r∈rs,2<=r.length/\r.length<=4) ?q3 ?t3
   case t3 =>
    intro N R
    refine⟨_,rfl,_,_,rfl,rfl,_,rfl,z+3,n,rfl,by lia,fun p pr pe us rs rest H9 s9 ep er lf ee pm ls=>?_⟩
    exact⟨p,_,rfl,SqT.of ep,rfl,_,_,rfl,_,_,rfl,rfl,R _ _ ⟨pr,pe,us,rs,rest,rfl,s9,er,lf,ee,pm,ls⟩⟩
   case q3 =>
   rintro σ H9 ⟨pr,pe,us,rs,rest,rfl,s9,er,lf,ee,pm,ls⟩
   refine aB (fun σ Ha=>∃ ps:Addr,σ=[some (.ref p1),some (.int z),some (.ref pd),some (.int (n:Int)),some (.ref pr),some (.ref pe),some (.ref ps),v7,v8,v9,va,vb,vc,vd,ve,vf,vg,vh,vi]/\aP H9 Ha/\Ha ps=some (.lst (([x3,x4,x5,x6].map (1 + ·)).map V.int))) ?q4 ?t4
   case t4 =>
    intro N R
    refine⟨_,rfl,_,rfl,pd,_,rfl,SqL.of (s9 _ _ ed),fun pc hc=>?_⟩
    rw[show Gv ([x0,x1,x2,x3,x4,x5,x6].map V.int) (some 3) none=[x3,x4,x5,x6].map V.int from rfl]
    generalize eHa:upd H9 pc _=Ha
    obtain⟨ga,ea⟩:=aR eHa hc
    refine⟨pc,rfl,⟨_,SqL.of ea⟩,fun D hD=>d9 (K:=K) (a:=pc) (xs:=[x3,x4,x5,x6].map V.int) (fun i zs σ' Hb=>(∃ u,σ'=[u])/\zs=(([x3,x4,x5,x6].take i).map (1 + ·)).map V.int/\aP Ha Hb/\Hb D=some (.lst zs))
     ⟨⟨_,rfl⟩,rfl,au hD _,aj⟩ (fun i zs σ' Hb _ h=>⟨SqL.of (h.2.2.1 _ _ ea),h.2.2.2⟩) ?_ ?_⟩
    ·rintro j zs x σ' Hb hx ⟨⟨u,rfl⟩,ez,sb,eD⟩
     obtain⟨y,hy,rfl⟩:=int_at hx
     refine gT ?_
     refine⟨_,rfl,_,_,rfl,rfl,eD,?_,⟨_,rfl⟩,?_,aG sb hD _,aj⟩
     ·rw[ez,Mf,Mf,Nf]
      exact aK (Ob (Nat.min_le_right _ _) (by show 4<=1000; decide))
     ·rw[ez,Nt,hy,Mu,Mu]
      rfl
    ·rintro zs σ' Hb ⟨_,ez,sb,eD⟩
     refine R _ _ ⟨D,rfl,ga.trans sb,?_⟩
     rw[eD,ez]
     rfl
   case q4 =>
   rintro σ Ha ⟨ps,rfl,sa,es⟩
   refine aB (fun σ Hb=>σ=[some (.ref p1),some (.int z),some (.ref pd),some (.int (n:Int)),some (.ref pr),some (.ref pe),some (.ref ps),some (.int (1+x1)),v8,v9,va,vb,vc,vd,ve,vf,vg,vh,vi]/\Ha=Hb) ?q5 ?t5
   case t5 =>
    intro N R
    exact⟨_,rfl,pd,_,_,_,rfl,rfl,SqL.of (sa _ _ (s9 _ _ ed)),bu (k:=1) rfl,_,_,rfl,rfl,R _ _ ⟨rfl,rfl⟩⟩
   case q5 =>
   rintro σ Hb ⟨rfl,rfl⟩
   have O:aC.Ok ⟨n,rs,rest,fun a=>([x3,x4,x5,x6].map (1 + ·)).getD a 1,x2.toNat,1+x1⟩:=by
    refine⟨pm,fun r hr=>(ls r hr).1,fun a=>?_,by show n<=12; lia⟩
    have h3:=b3 x3 (by simp)
    have h4:=b3 x4 (by simp)
    have h5:=b3 x5 (by simp)
    have h6:=b3 x6 (by simp)
    match a with
    | 0=>show 1<=1+x3/\1+x3<=9; lia
    | 1=>show 1<=1+x4/\1+x4<=9; lia
    | 2=>show 1<=1+x5/\1+x5<=9; lia
    | 3=>show 1<=1+x6/\1+x6<=9; lia
    | a+4=>show (1:Int)<=1/\(1:Int)<=9; decide
   have rg:RgR Ha pr pe ps ⟨n,rs,rest,fun a=>([x3,x4,x5,x6].map (1 + ·)).getD a 1,x2.toNat,1+x1⟩:=by
    refine⟨O,⟨us,H8,sa _ _ er,lf.keep fun a c _ e=>sa _ _ e⟩,sa _ _ ee,⟨_,es,fun a ha=>?_⟩,by show 1<=1+x1; lia,by show 1+x1<=12; lia⟩
    have h4:a < 4:=by
     have:=aC.yL O
     have hn:2 * rs.length<=n:=this
     have ha:a < rs.length:=ha
     lia
    show ([x3,x4,x5,x6].map (1 + ·))[a]? = some (([x3,x4,x5,x6].map (1 + ·)).getD a 1)
    rw[Mg,Mi (by show a < 4; exact h4)]
    rfl
   refine aB (fun σ Hb=>∃ R:aC,R.n=n/\RgR Hb pr pe ps R/\σ=[some (.ref p1),some (.int z),some (.ref pd),some (.int (R.n:Int)),some (.ref pr),some (.ref pe),some (.ref ps),some (.int R.many),some (.int (R.fr:Int)),v9,va,vb,vc,vd,ve,vf,vg,vh,vi]/\aP H8 Hb) ?q6 ?t6
   case t6 =>
    intro N R
    refine⟨_,rfl,pd,_,_,_,rfl,rfl,SqL.of (sa _ _ (s9 _ _ ed)),bu (k:=2) rfl,R _ _ ⟨_,rfl,rg,?_,s9.trans sa⟩⟩
    show[some (V.ref p1),some (.int z),some (.ref pd),some (.int (n:Int)),some (.ref pr),some (.ref pe),some (.ref ps),some (.int (1+x1)),some (.int x2),v9,va,vb,vc,vd,ve,vf,vg,vh,vi]=[some (V.ref p1),some (.int z),some (.ref pd),some (.int (n:Int)),some (.ref pr),some (.ref pe),some (.ref ps),some (.int (1+x1)),some (.int ((x2.toNat:Nat):Int)),v9,va,vb,vc,vd,ve,vf,vg,vh,vi]
    rw[show ((x2.toNat:Nat):Int)=x2 by lia]
   case q6 =>
   clear rg O
   rintro σ Hb ⟨R,rn,rg,rfl,sb⟩
   have O:=rg.ok
   have n8':R.n<=8:=by lia
   have lrs:=aC.yL O
   refine aB (fun σ Hc=>∃ (b:Addr) (bk:List (List Pl)),σ=[some (.ref p1),some (.int z),some (.ref pd),some (.int (R.n:Int)),some (.ref pr),some (.ref pe),some (.ref ps),some (.int R.many),some (.int (R.fr:Int)),some (.ref b),va,vb,vc,vd,ve,vf,vg,vh,vi]/\aP Hb Hc/\mO R.n Hc b bk/\R.Bk bk) ?q7 ?t7
   case t7 =>
    intro N Rc
    exact⟨_,rfl,_,rfl,_,rfl,_,rfl,_,rfl,_,rfl,pr,pe,ps,R,rfl,rg,fun b bk Hc sc hB hR=>Rc _ _ ⟨b,bk,rfl,sc,hB,hR⟩⟩
   case q7 =>
   rintro σ Hc ⟨b,bk,rfl,sc,hB,hR⟩
   refine aB (fun σ Hd=>∃ (fl:Addr),σ=[some (.ref p1),some (.int z),some (.ref pd),some (.int (R.n:Int)),some (.ref pr),some (.ref pe),some (.ref ps),some (.int R.many),some (.int (R.fr:Int)),some (.ref b),some (.ref fl),vb,vc,vd,ve,vf,vg,vh,vi]/\aP Hc Hd/\Hd fl=some (.tup ((aC.zeros R.n).map V.int))) ?q8 ?t8
   case t8 =>
    intro N Rc
    refine⟨small (by show 1<=1000; decide),fun p0 h0=>⟨_,rfl,p0,(R.n:Int),_,rfl,rfl,SqT.of aj,by simp,by lia,by lia,?_,fun e=>absurd e (by lia),fun _ fl hf=>Rc _ _ ⟨fl,rfl,(au h0 _).trans (au hf _),?_⟩⟩⟩
    ·rw[show ((R.n:Int)).toNat=R.n by lia]
     exact small (by show 1 * R.n<=1000; lia)
    ·rw[aj,show ((R.n:Int)).toNat=R.n by lia,nG]
     rfl
   case q8 =>
   rintro σ Hd ⟨fl,rfl,sd,ef⟩
   have rgd:=rg.mono (sc.trans sd)
   obtain⟨ur,H0r,erd,lfd⟩:=rgd.rg
   have lur:=lfd.length
   refine aB (fun σ He=>∃ (pc:Addr),σ=[some (.ref p1),some (.int z),some (.ref pd),some (.int (R.n:Int)),some (.ref pr),some (.ref pe),some (.ref ps),some (.int R.many),some (.int (R.fr:Int)),some (.ref b),some (.ref fl),some (.ref pc),vc,vd,ve,vf,vg,vh,vi]/\aP Hd He/\He pc=some (.lst (R.cs0.map vN))) ?q9 ?t9
   case t9 =>
    intro N Rc
    refine⟨_,rfl,pr,_,rfl,.inl (SqL.of erd),_,rfl,by lia,by lia,fun D hD=>dg (lo:=0) (n:=((ur.length:Int)).toNat) (fun i zs σ' He=>(∃ u,σ'=[u,some (.int (R.fr:Int))])/\zs=((Ms i).filter fun a=>decide (a=R.fr)).map vN/\aP Hd He/\He D=some (.lst zs))
     ⟨⟨_,rfl⟩,rfl,au hD _,aj⟩ (fun i zs σ' He _ h=>h.2.2.2) ?_ ?_⟩
    ·rintro i zs σ' He hi ⟨⟨u,rfl⟩,ez,se,eD⟩
     have lz:zs.length<=1000:=by
      have:=Oo (fun a=>decide (a=R.fr)) (Ms i)
      rw[MN] at this
      rw[ez,Mf]
      lia
     refine⟨_,rfl,_,rfl,rfl,_,rfl,?_⟩
     rw[Ra]
     by_cases e:i=R.fr
     ·refine Ep (by rw[e]) ⟨_,rfl,eD,aK lz,⟨_,rfl⟩,?_,aG se hD _,aj⟩
      rw[ez,Pg,Qi,Oz,if_pos (decide_eq_true e),Mu]
      rfl
     ·refine lW (fun y=>e (by injection y with y; lia)) ⟨⟨_,rfl⟩,?_,se,eD⟩
      rw[ez,Pg,Qi,Oz,if_neg (fun y=>e (of_decide_eq_true y))]
      simp
    ·rintro zs σ' He ⟨_,ez,se,eD⟩
     refine Rc _ _ ⟨D,rfl,se,?_⟩
     rw[eD,ez,show ((ur.length:Int)).toNat=R.rs.length by lia]
     rfl
   case q9 =>
   rintro σ He ⟨pc,rfl,se,ec⟩
   have nd0:R.cs0.Nodup:=List.nodup_range.filter _
   have lt0:∀ a∈R.cs0,a < R.rs.length:=fun a ha=>List.mem_range.mp (List.mem_filter.mp ha).1
   refine aB (fun σ Hf=>∃ (pg:Addr),σ=[some (.ref p1),some (.int z),some (.ref pd),some (.int (R.n:Int)),some (.ref pr),some (.ref pe),some (.ref ps),some (.int R.many),some (.int (R.fr:Int)),some (.ref b),some (.ref fl),some (.ref pc),some (.ref pg),vd,ve,vf,vg,vh,vi]/\aP He Hf/\Hf pg=some (.tup ((R.gv fun a=>decide (a=R.fr)).map V.int))) ?q10 ?t10
   case t10 =>
    intro N Rc
    refine⟨_,rfl,_,rfl,_,rfl,_,rfl,_,rfl,_,rfl,pr,pe,ps,pc,R,R.cs0,rfl,rgd.mono se,ec,nd0,lt0,fun p Hf sf ep=>Rc _ _ ⟨p,rfl,sf,?_⟩⟩
    rw[ep,aC.Ij]
   case q10 =>
   rintro σ Hf ⟨pg,rfl,sf,eg⟩
   refine aB (fun σ Hg=>∃ (pw:Addr),σ=[some (.ref p1),some (.int z),some (.ref pd),some (.int (R.n:Int)),some (.ref pr),some (.ref pe),some (.ref ps),some (.int R.many),some (.int (R.fr:Int)),some (.ref b),some (.ref fl),some (.ref pc),some (.ref pg),some (.ref pw),ve,vf,vg,vh,vi]/\aP Hf Hg/\Hg pw=some (.tup ((R.gv fun _=>true).map V.int))) ?q11 ?t11
   case t11 =>
    intro N Rc
    have sef:=se.trans sf
    refine⟨_,rfl,_,rfl,_,rfl,_,rfl,_,rfl,_,rfl,pr,_,rfl,.inl (SqL.of (sef _ _ erd)),ur.length,rfl,by lia,fun l hl=>?_⟩
    generalize eHg:upd Hf l _=Hg
    obtain⟨gg,eg'⟩:=aR eHg hl
    refine⟨pr,pe,ps,l,R,Ms R.rs.length,rfl,rgd.mono (sef.trans gg),by rw[eg',fj,lur],Uz,fun a ha=>List.mem_range.mp ha,fun p Hh sh ep=>Rc _ _ ⟨p,rfl,gg.trans sh,?_⟩⟩
    rw[ep,aC.oW (D:=fun _=>true) fun a ha=>decide_eq_true (List.mem_range.mpr ha)]
   case q11 =>
   rintro σ Hg ⟨pw,rfl,sg,ew⟩
   have sdg:=se.trans (sf.trans sg)
   have hBg:=hB.mono (sd.trans sdg)
   have efg:=sdg _ _ ef
   have z0:=aC.fP R.n
   refine aB (fun σ Hh=>σ=[some (.ref p1),some (.int z),some (.ref pd),some (.int (R.n:Int)),some (.ref pr),some (.ref pe),some (.ref ps),some (.int R.many),some (.int (R.fr:Int)),some (.ref b),some (.ref fl),some (.ref pc),some (.ref pg),some (.ref pw),ve,vf,vg,vh,vi]/\aP Hg Hh) ?q12 ?t12
   case t12 =>
    intro N Rc
    refine⟨_,rfl,_,rfl,b,fl,R.n,bk,_,rfl,hBg,hR.len,efg,z0,fun m1 a1 Hh _ st1 sh e1'=>?_⟩
    rw[Low.uniq (eU hR.len hR.ok z0 st1) (aC.gR O hR)] at e1'
    refine⟨_,rfl,_,rfl,b,fl,R.n,bk,_,rfl,hBg.mono sh,hR.len,sh _ _ efg,z0,fun m2 a2 Hi _ st2 si e2'=>?_⟩
    rw[wA.uniq (fQ hR.len hR.ok z0 st2) (aC.FW O hR z0 (aC.uH O _))] at e2'
    refine⟨small (by show 2<=1000; decide),fun q1 k1=>?_⟩
    generalize eHj:upd Hi q1 _=Hj
    obtain⟨gj,ej⟩:=aR eHj k1
    refine⟨_,rfl,_,rfl,small (by show 2<=1000; decide),fun q2 k2=>?_⟩
    generalize eHk:upd Hj q2 _=Hk
    obtain⟨gk,ek'⟩:=aR eHk k2
    have lg:∀ C,(R.gv C).length<=1000:=fun C=>by rw[aC.dU]; lia
    have sgk:=sh.trans (si.trans (gj.trans gk))
    refine⟨.ref q1,.ref q2,.lst [.tup ((R.gv fun a=>decide (a=R.fr)).map Dm.int),.tup ((R.gv fun _=>true).map Dm.int)],rfl,.lst (gk _ _ ej) (by show 2<=100000; decide) (.cons (je ((si.trans (gj.trans gk)) _ _ e1') (lg _)) (.cons (je ((gj.trans gk) _ _ e2') (lg _)) .nil)),.lst ek' (by show 2<=100000; decide) (.cons (je (sgk _ _ (sg _ _ eg)) (lg _)) (.cons (je (sgk _ _ ew) (lg _)) .nil)),?_,fun Hl sl=>⟨_,rfl,gF (Rc _ _ ⟨rfl,sgk.trans sl⟩)⟩⟩
    rw[Dm.dep,jP,jP,jP,tE,tE]
    decide
   case q12 =>
   rintro σ Hh ⟨rfl,sh⟩
   have sdh:=sdg.trans sh
   have erh:=sdh _ _ erd
   refine aB (fun σ Hi=>∃ (pl:Addr) (pp:List (Addr × Addr × Nat)),σ=[some (.ref p1),some (.int z),some (.ref pd),some (.int (R.n:Int)),some (.ref pr),some (.ref pe),some (.ref ps),some (.int R.many),some (.int (R.fr:Int)),some (.ref b),some (.ref fl),some (.ref pc),some (.ref pg),some (.ref pw),some (.ref pl),vf,vg,vh,vi]/\aP Hh Hi/\Hi pl=some (.lst (pp.map fun p=>V.ref p.1))/\(∀ p∈pp,LnR Hh Hi R p)/\R.Left (pp.map (·.2.2))) ?q13 ?t13
   case t13 =>
    intro N Rc
    refine⟨_,rfl,pr,_,rfl,.inl (SqL.of erh),_,rfl,by lia,by lia,fun D hD=>dg (lo:=0) (n:=((ur.length:Int)).toNat) (fun i zs σ' Hi=>(∃ u,σ'=[u,some (.ref pr),some (.int (R.fr:Int))])/\∃ pp:List (Addr × Addr × Nat),zs=(pp.map fun p=>V.ref p.1)/\pp.map (·.2.2)=((Ms i).filter fun a=>!decide (a=R.fr))/\aP Hh Hi/\Hi D=some (.lst zs)/\∀ p∈pp,LnR Hh Hi R p)
     ⟨⟨_,rfl⟩,[],rfl,rfl,au hD _,aj,fun p hp=>by cases hp⟩ (fun i zs σ' Hi _ h=>?_) ?_ ?_⟩
    ·obtain⟨_,_,_,_,_,h,_⟩:=h
     exact h
    ·rintro i zs σ' Hi hi ⟨⟨u,rfl⟩,pp,ez,eid,si,eD,hpp⟩
     have hil:i < R.rs.length:=by lia
     have lz:zs.length<=1000:=by
      have h1:=congrArg Rx eid
      have h2:=Oo (fun a=>!decide (a=R.fr)) (Ms i)
      rw[MN] at h2
      rw[Mf] at h1
      rw[ez,Mf]
      lia
     refine⟨_,rfl,_,rfl,rfl,_,rfl,?_⟩
     rw[Ra]
     by_cases e:i=R.fr
     ·refine GF (by rw[e,decide_eq_true rfl]; rfl) ⟨⟨_,rfl⟩,pp,ez,?_,si,eD,hpp⟩
      rw[eid,Pg,Qi,Oz,if_neg (by rw[decide_eq_true e]; exact Mr)]
      simp
     ·refine Ku (by rw[decide_eq_false fun y=>e (by injection y with y; lia)]; rfl) ?_
      obtain⟨ra,q1,q2⟩:=lfd.get (show R.rs[i]? = some (R.rg i) by unfold aC.rg; rw[Mg,Mi hil]; rfl)
      have q2':=si _ _ (sdh _ _ q2)
      have lrg:(R.rg i).length < 64:=by
       have h1:=aC.yU O i
       have h2:=aC.wN O i
       lia
      refine⟨_,rfl,_,rfl,pr,_,_,_,rfl,rfl,SqL.of (si _ _ erh),bu q1,ra,(R.rg i).map fun i:Nat=>(i:Int),rfl,SqL.of (by rw[q2',fj]),by rw[Mf]; exact lrg,fun ms pm' pw' l hl=>⟨_,rfl,small (by show 2<=1000; decide),fun t ht=>?_⟩⟩
      have em:ms.map V.int=(R.sr i).map vN:=by
       rw[zu pm' pw',xx (n:=R.n) (aC.xN O i) fun j hj=>aC.cV O hj,← fj]
       rfl
      have sl:=au hl (.lst (ms.map V.int))
      have st:=au ht (.tup [.ref l,.int (i:Int)])
      have slt:=sl.trans st
      have eDt:=slt _ _ eD
      have nD:∀ {a:Addr} {o:HO},Hi a=none->∀ {H':Hp},a≠D:=fun {a o} h {H'} z=>by rw[z,eD] at h; cases h
      have lD:l≠D:=fun y=>by rw[y,eD] at hl; cases hl
      have tD:t≠D:=fun y=>by rw[y,sl _ _ eD] at ht; cases ht
      refine⟨eDt,aK lz,⟨_,rfl⟩,pp++[(t,l,i)],by rw[ez,Mu]; rfl,?_,aG (si.trans slt) hD _,aj,fun p hp=>?_⟩
      ·rw[Mu,eid,Pg,Qi,Oz,if_pos (by rw[decide_eq_false e]; rfl)]
       rfl
      ·rcases List.mem_append.mp hp with y | y
       ·obtain⟨h1,h2,h3⟩:=hpp p y
        have n1:p.1≠D:=fun y=>by rw[y,eD] at h1; cases h1
        have n2:p.2.1≠D:=fun y=>by
         rw[y,eD] at h2
         injection h2 with h2
         injection h2 with h2
         rw[ez] at h2
         cases pp with
         | nil=>cases p; simp at *
         | cons p0 r =>
          cases e':R.sr p.2.2 with
          | nil=>rw[e'] at h2; cases h2
          | cons a0 r0 =>
           rw[e'] at h2
           have:=(Ub h2).1
           cases this
        exact⟨by rw[aL n1]; exact slt _ _ h1,by rw[aL n2]; exact slt _ _ h2,h3⟩
       ·rw[List.mem_singleton.mp y]
        refine⟨by rw[aL tD]; exact aj,?_,si.free hl⟩
        show upd _ D _ l=_
        rw[aL lD,st _ _ aj,em]
    ·rintro zs σ' Hi ⟨_,pp,ez,eid,si,eD,hpp⟩
     rw[show ((ur.length:Int)).toNat=R.rs.length by lia] at eid
     have idm:∀ p∈pp,p.2.2 < R.rs.length/\p.2.2≠R.fr:=fun p hp=>by
      have:p.2.2∈pp.map (·.2.2):=List.mem_map.mpr ⟨p,hp,rfl⟩
      rw[eid,QG,QZ] at this
      refine⟨this.1,fun y=>?_⟩
      have:=this.2
      rw[decide_eq_true y] at this
      cases this
     have ndi:(pp.map (·.2.2)).Nodup:=by rw[eid]; exact List.nodup_range.filter _
     have lpp:pp.length < 64:=by
      have h1:=congrArg Rx eid
      have h2:=Oo (fun a=>!decide (a=R.fr)) (Ms R.rs.length)
      rw[MN] at h2
      rw[Mf] at h1
      lia
     refine⟨D,pp.map fun p=>(p.1,iN (R.sr p.2.2)),rfl,SqL.of (by rw[eD,ez,Qe]; rfl),by rw[Mf]; exact lpp,fun q hq=>?_,?_,fun qs pq pw' l hl=>?_⟩
     ·obtain⟨p,hp,rfl⟩:=List.mem_map.mp hq
      obtain⟨h1,h2,_⟩:=hpp p hp
      exact⟨p.2.1,(p.2.2:Int),SqT.of h1,SqL.of (by rw[h2,fj]; rfl)⟩
     ·rw[Qe]
      show (pp.map fun p=>iN (R.sr p.2.2)).Pairwise (·≠·)
      rw[Ur]
      have:=List.pairwise_map.mp ndi
      refine List.Pairwise.imp_of_mem (fun {p q} hp hq ne y=>ne ?_) this
      exact aC.Ik O (idm p hp).1 (Ju y)
     ·obtain⟨pp',pm',e'⟩:=wW pq rfl
      subst e'
      rw[Qe]
      have sl:=au hl (.lst (pp'.map ((fun p=>V.ref p.1) ∘ fun p=>(p.1,iN (R.sr p.2.2)))))
      refine Rc _ _ ⟨l,pp',rfl,si.trans sl,aj,fun p hp=>(hpp p (pm'.mem_iff.mp hp)).mono sl,?_⟩
      refine⟨fun a=>?_,(pm'.map _).nodup_iff.mpr ndi,List.pairwise_map.mpr (List.pairwise_map.mp pw')⟩
      rw[(pm'.map (·.2.2)).mem_iff,eid,QG,QZ]
      refine and_congr_right fun _=>?_
      by_cases y:a=R.fr
      ·rw[decide_eq_true y]
       exact⟨fun h=>(by cases h),fun h=>absurd y h⟩
      ·rw[decide_eq_false y]
       exact⟨fun _=>y,fun _=>rfl⟩
   case q13 =>
   rintro σ Hi ⟨pl,pp,rfl,si,el,hpp,L⟩
   have lpp:(pp.map (·.2.2)).length<=4:=by
    have:(pp.map (·.2.2)).length<=(Ms R.rs.length).length:=bC L.nd fun a ha=>List.mem_range.mpr ((L.mem a).mp ha).1
    rw[MN] at this
    lia
   have fa:=aC.DR O hR L (by lia)
   have hBi:=hBg.mono (sh.trans si)
   have efi:=(sh.trans si) _ _ efg
   refine aB (fun σ Hj=>σ=[some (.ref p1),some (.int z),some (.ref pd),some (.int (R.n:Int)),some (.ref pr),some (.ref pe),some (.ref ps),some (.int R.many),some (.int (R.fr:Int)),some (.ref b),some (.ref fl),some (.ref pc),some (.ref pg),some (.ref pw),some (.ref pl),vf,vg,vh,vi]/\aP Hi Hj) ?q14 ?t14
   case t14 =>
    intro N Rc
    refine⟨_,rfl,_,rfl,b,fl,R.n,bk,_,rfl,by lia,fa.1,hBi,hR.len,efi,z0,fun r us' ks' Hj sj fr er' lr hne ka=>?_⟩
    have eks:ks'=(pp.map (·.2.2)).map R.sr:=bx.uniq hR.len hR.ok z0 (aC.gR O hR) ka (aC.j4 O hR (C:=fun a=>decide (a=R.fr)) (fun a _ e=>decide_eq_true e) z0 (aC.gR O hR) (fun a=>(L.mem a).trans (and_congr_right fun _=>decide_eq_false_iff_not.symm)) L.up)
    subst eks
    refine⟨_,rfl,pl,rfl,⟨_,SqL.of (sj _ _ el)⟩,fun D hD=>d9 (K:=K) (a:=pl) (xs:=pp.map fun p=>V.ref p.1) (fun i zs σ' Hk=>(∃ u1 u2,σ'=[u1,u2])/\zs=(pp.take i).map (fun p=>V.ref p.2.1)/\aP Hj Hk/\Hk D=some (.lst zs))
     ⟨⟨_,_,rfl⟩,rfl,au hD _,aj⟩ (fun i zs σ' Hk _ h=>⟨SqL.of (h.2.2.1 _ _ (sj _ _ el)),h.2.2.2⟩) ?_ ?_⟩
    ·rintro i zs x σ' Hk hx ⟨⟨u1,u2,rfl⟩,ez,sk,eD⟩
     rw[Nj] at hx
     cases hp:pp[i]? with
     | none=>rw[hp] at hx; cases hx
     | some p =>
      rw[hp] at hx
      have hx:V.ref p.1=x:=M9 hx
      subst hx
      have hln:=((hpp p (MJ hp)).mono sj).mono sk
      refine⟨p.1,_,rfl,SqT.of hln.1,rfl,_,_,rfl,_,_,rfl,rfl,tT ?_⟩
      refine⟨_,rfl,eD,?_,⟨_,_,rfl⟩,?_,aG sk hD _,aj⟩
      ·rw[ez,Mf,Nf]
       rw[Mf] at lpp
       exact aK (by lia)
      ·rw[ez,Nt,hp,Mu]
       rfl
    ·rintro zs σ' Hk ⟨_,ez,sk,eD⟩
     rw[Mf,M4] at ez
     have hr12:∀ c∈(pp.map (·.2.2)).map R.sr,c.length<=1000:=fun c hc=>by
      obtain⟨a,_,rfl⟩:=List.mem_map.mp hc
      exact Ob (aC.wN O a) (by decide)
     have lus':=lr.length
     rw[Mf] at lus'
     refine⟨.ref r,.ref D,.lst (((pp.map (·.2.2)).map R.sr).map cD),rfl,.lst (sk _ _ er') (by lia) ((lr.keep fun a c _ e=>sk _ _ e).rep hr12),.lst (by rw[eD,ez]) (by rw[Mf] at *; lia) (LnR.rep O fun p hp=>((hpp p hp).mono sj).mono sk),?_,fun Hl sl=>⟨_,rfl,gF (Rc _ _ ⟨rfl,sj.trans (sk.trans sl)⟩)⟩⟩
     have:=yX ((pp.map (·.2.2)).map R.sr)
     rw[Dm.dep]
     lia
   case q14 =>
   rintro σ Hj ⟨rfl,sj⟩
   refine aB (fun σ Hk=>∃ pv:Addr,σ=[some (.ref p1),some (.int z),some (.ref pd),some (.int (R.n:Int)),some (.ref pr),some (.ref pe),some (.ref ps),some (.int R.many),some (.int (R.fr:Int)),some (.ref b),some (.ref fl),some (.ref pc),some (.ref pg),some (.ref pw),some (.ref pl),some (.ref pv),vg,vh,vi]/\aP Hj Hk/\Hj pv=none/\Hk pv=some (.lst [])) ?q15 ?t15
   case t15 =>
    intro N Rc
    exact⟨small (by show 0<=1000; decide),fun p hp=>Rc _ _ ⟨p,rfl,au hp _,hp,aj⟩⟩
   case q15 =>
   rintro σ Hk ⟨pv,rfl,sjk,fpv,epv⟩
   have hppj:∀ p∈pp,LnR Hh Hj R p:=fun p hp=>(hpp p hp).mono sj
   have rgj:=rgd.mono (sdh.trans (si.trans sj))
   have hBj:=hBi.mono sj
   have efj:=sj _ _ efi
   have elj:=sj _ _ el
   have ecj:Hj pc=some (.lst (R.cs0.map vN)):=(sf.trans (sg.trans (sh.trans (si.trans sj)))) _ _ ec
   obtain⟨ss',esj,hss⟩:=rgj.st
   refine aB (fun σ Hl=>∃ (us':List V) (vb' vg' vh' vi':Option V),σ=[some (.ref p1),some (.int z),some (.ref pd),some (.int (R.n:Int)),some (.ref pr),some (.ref pe),some (.ref ps),some (.int R.many),some (.int (R.fr:Int)),some (.ref b),some (.ref fl),vb',some (.ref pg),some (.ref pw),some (.ref pl),some (.ref pv),vg',vh',vi']/\aP Hj Hl/\Hl pv=some (.lst us')/\bQ Hh Hl us' ((Ms (pp.map (·.2.2)).length).map fun t=>(R.sr ((pp.map (·.2.2)).getD t 0),R.gv (R.clo (pp.map (·.2.2)) (t+1))))) ?q16 ?t16
   case t16 =>
    intro N Rc
    have stp:∀ a,a < R.rs.length->atI (ss'.map V.int) (a:Int)=some (.int (R.st a)):=fun a ha=>bu (lK (hss a ha))
    generalize eas:pp.map (·.2.2)=as at *
    refine⟨_,rfl,pl,rfl,⟨_,SqL.of (sjk _ _ elj)⟩,cY (K:=K) (a:=pl) (xs:=pp.map fun p=>V.ref p.1) (fun t σ Hl=>∃ (us':List V) (pcx:Addr) (vg' vh' vi':Option V),σ=[some (.ref p1),some (.int z),some (.ref pd),some (.int (R.n:Int)),some (.ref pr),some (.ref pe),some (.ref ps),some (.int R.many),some (.int (R.fr:Int)),some (.ref b),some (.ref fl),some (.ref pcx),some (.ref pg),some (.ref pw),some (.ref pl),some (.ref pv),vg',vh',vi']/\aP Hj Hl/\Hl pv=some (.lst us')/\Hl pcx=some (.lst ((R.cs0++as.take t).map vN))/\bQ Hh Hl us' ((Ms t).map fun t=>(R.sr (as.getD t 0),R.gv (R.clo as (t+1))))) ?_ (fun t σ Hl _ h=>?_) ?_ ?_⟩
    ·refine⟨[],pc,_,_,_,rfl,sjk,epv,?_,.nil⟩
     rw[Od,Ro]
     exact sjk _ _ ecj
    ·obtain⟨_,_,_,_,_,_,sl,_⟩:=h
     exact SqL.of (sl _ _ elj)
    ·rintro t x σ Hl hx ⟨us',pcx,vg',vh',vi',rfl,sl,ev,ecx,hpr⟩
     rw[Nj] at hx
     cases hp:pp[t]? with
     | none=>rw[hp] at hx; cases hx
     | some p =>
     rw[hp] at hx
     have hx:V.ref p.1=x:=M9 hx
     subst hx
     have hln:=(hppj p (MJ hp)).mono sl
     obtain⟨pa,pk,ra⟩:=p
     have hat:as[t]? = some ra:=by rw[← eas,Nj,hp]; rfl
     obtain⟨har,haf⟩:=(L.mem ra).mp (MJ hat)
     obtain⟨hl1,hl2,hl3⟩:=hln
     have hl1:Hl pa=some (.tup [.ref pk,vN ra]):=hl1
     have hl2:Hl pk=some (.lst ((R.sr ra).map vN)):=hl2
     have hl3:Hh pk=none:=hl3
     have tl:t < as.length:=(List.getElem?_eq_some_iff.mp hat).1
     have et:as.take (t+1)=as.take t++[ra]:=by rw[Nt,hat]; rfl
     have lus:=hpr.length
     rw[Mf,MN] at lus
     refine⟨pa,_,rfl,SqT.of hl1,rfl,_,_,rfl,_,_,rfl,rfl,?_⟩
     refine aB (fun σ Hm=>∃ pc2:Addr,σ=[some (.ref p1),some (.int z),some (.ref pd),some (.int (R.n:Int)),some (.ref pr),some (.ref pe),some (.ref ps),some (.int R.many),some (.int (R.fr:Int)),some (.ref b),some (.ref fl),some (.ref pc2),some (.ref pg),some (.ref pw),some (.ref pl),some (.ref pv),some (.ref pk),some (vN ra),vi']/\aP Hl Hm/\Hm pc2=some (.lst ((R.cs0++as.take (t+1)).map vN))) ?w1 ?y1
     case y1 =>
      intro N2 Rc2
      refine⟨_,rfl,_,rfl,small (by show 1<=1000; decide),fun q hq=>⟨pcx,q,_,_,rfl,rfl,(au hq _) _ _ ecx,aj,?_,fun q2 hq2=>Rc2 _ _ ⟨q2,rfl,(au hq _).trans (au hq2 _),?_⟩⟩⟩
      ·have h1:R.cs0.length<=R.rs.length:=by
        have:=Oo (fun a=>decide (a=R.fr)) (Ms R.rs.length)
        rw[MN] at this
        exact this
       rw[Mf,Mv,Nf]
       show _+1<=_
       exact small (by lia)
      ·rw[aj,et,← PL,Mu (l₁:=R.cs0++as.take t)]
       rfl
     case w1 =>
     rintro σ Hm ⟨pc2,rfl,sm,ec2⟩
     have slm:=sl.trans sm
     have nde:(R.cs0++as.take (t+1)).Nodup:=List.nodup_append.mpr ⟨nd0,L.nd.sublist (List.take_sublist _ _),fun a ha c hc e=>by
      have h1:=of_decide_eq_true (List.mem_filter.mp ha).2
      exact ((L.mem c).mp (List.mem_of_mem_take hc)).2 (e▸h1)⟩
     refine aB (fun σ Hn=>∃ us'':List V,σ=[some (.ref p1),some (.int z),some (.ref pd),some (.int (R.n:Int)),some (.ref pr),some (.ref pe),some (.ref ps),some (.int R.many),some (.int (R.fr:Int)),some (.ref b),some (.ref fl),some (.ref pc2),some (.ref pg),some (.ref pw),some (.ref pl),some (.ref pv),some (.ref pk),some (vN ra),vi']/\aP Hj Hn/\Hn pv=some (.lst us'')/\Hn pc2=some (.lst ((R.cs0++as.take (t+1)).map vN))/\Hn pk=some (.lst ((R.sr ra).map vN))/\bQ Hh Hn us'' ((Ms (t+1)).map fun t=>(R.sr (as.getD t 0),R.gv (R.clo as (t+1))))) ?w2 ?y2
     case y2 =>
      intro N2 Rc2
      refine⟨_,rfl,.inl ⟨rfl,_,SqL.of (sm _ _ ev)⟩,_,rfl,_,rfl,_,rfl,_,rfl,_,rfl,_,rfl,_,rfl,pr,pe,ps,pc2,R,R.cs0++as.take (t+1),rfl,rgj.mono slm,ec2,nde,fun a ha=>?_,fun pgv Hn sn egv=>⟨small (by show 2<=1000; decide),fun pt hpt=>?_⟩⟩
      ·rcases List.mem_append.mp ha with y | y
       ·exact lt0 a y
       ·exact ((L.mem a).mp (List.mem_of_mem_take y)).1
      ·rw[aC.JG] at egv
       generalize eHo:upd Hn pt _=Ho
       obtain⟨go,eo⟩:=aR eHo hpt
       have slo:=sm.trans (sn.trans go)
       have evo:=slo _ _ ev
       refine⟨pv,us',_,rfl,rfl,evo,aK (by lia),?_⟩
       have hpo:=hpr.mono slo
       have tk:=cZ (zs':=us'++[.ref pt]) evo
       have nk:=hpo.DP evo (slo _ _ hl2) (aC.HF O har)
       have nc:=hpo.DP evo ((sn.trans go) _ _ ec2) (by rw[et]; simp)
       refine Rc2 _ _ ⟨us'++[.ref pt],rfl,aG (sl.trans slo) fpv _,aj,by rw[aL nc]; exact (sn.trans go) _ _ ec2,by rw[aL nk]; exact slo _ _ hl2,?_⟩
       rw[Pg,Mu]
       have eg':as.getD t 0=ra:=by rw[Mg,hat]; rfl
       refine bQ.snoc (c:=R.sr (as.getD t 0)) (y:=R.gv (R.clo as (t+1))) (tk _ _ eo) ?_ hl3 (aC.wN O _) (tk _ _ (go _ _ egv)) (by rw[aC.dU]; lia) (hpo.putN evo (.inl rfl) fun u hu=>hu)
       rw[aL nk,eg']
       exact slo _ _ hl2
     case w2 =>
     rintro σ Hn ⟨us'',rfl,sn,ev2,ec3,ek2,hpr2⟩
     refine aB (fun σ Ho=>∃ r:Addr,σ=[some (.ref p1),some (.int z),some (.ref pd),some (.int (R.n:Int)),some (.ref pr),some (.ref pe),some (.ref ps),some (.int R.many),some (.int (R.fr:Int)),some (.ref b),some (.ref fl),some (.ref pc2),some (.ref pg),some (.ref pw),some (.ref pl),some (.ref pv),some (.ref pk),some (vN ra),some (.ref r)]/\aP Hn Ho/\Ho r=some (.tup ((R.up (fun b=>decide (b=R.fr)) ra).map V.int))) ?w3 ?y3
     case y3 =>
      intro N2 Rc2
      refine⟨_,rfl,_,rfl,_,rfl,b,fl,pk,R.n,bk,_,R.sr ra,rfl,hBj.mono sn,hR.len,sn _ _ efj,z0,ek2,fun r zz Ho so er' mz=>Rc2 _ _ ⟨r,rfl,so,?_⟩⟩
      rw[er',aC.GP O hR haf mz]
     case w3 =>
     rintro σ Ho ⟨r,rfl,so,er'⟩
     have eko:=so _ _ ek2
     have lsr:=aC.wN O ra
     refine⟨_,rfl,pk,rfl,⟨_,SqL.of eko⟩,fun D hD=>d9 (K:=K) (a:=pk) (xs:=(R.sr ra).map vN) (fun i zs σ' Hp=>(∃ u,σ'=[u,some (.ref r)])/\zs=(Mz i (R.st ra)).map V.int/\aP Ho Hp/\Hp D=some (.lst zs))
      ⟨⟨_,rfl⟩,rfl,au hD _,aj⟩ (fun i zs σ' Hp _ h=>⟨SqL.of (h.2.2.1 _ _ eko),h.2.2.2⟩) ?_ ?_⟩
     ·rintro i zs x σ' Hp hx ⟨⟨u,rfl⟩,ez,sp,eD⟩
      obtain⟨i0,hi0,rfl⟩:=pP hx
      have hm:=(aC.ik O).mp (MJ hi0)
      have hin:=aC.cV O hm
      have hil:i < (R.sr ra).length:=(List.getElem?_eq_some_iff.mp hi0).1
      have upv:atI ((R.up (fun b=>decide (b=R.fr)) ra).map V.int) (i0:Int)=some (.int (R.st ra)):=by
       refine bu (lK ?_)
       have h1:=aC.kE (R:=R) (C:=fun b=>decide (b=R.fr)) (a:=ra) hin
       have h2:i0 < (R.up (fun b=>decide (b=R.fr)) ra).length:=by rw[aC.ni]; exact hin
       rw[Mg,Mi h2] at h1
       rw[Mi h2]
       have h3:R.upA (fun b=>decide (b=R.fr)) ra i0=R.st ra:=if_pos hm
       rw[h3] at h1
       exact congrArg some h1
      refine gT ?_
      refine⟨_,rfl,_,rfl,r,_,_,_,rfl,rfl,SqT.of (sp _ _ er'),upv,eD,?_,⟨_,rfl⟩,?_,aG sp hD _,aj⟩
      ·rw[ez,Mf,Nv]
       exact aK (by lia)
      ·rw[ez,R1,Mu]
       rfl
     ·rintro zs σ' Hp ⟨_,ez,sp,eD⟩
      rw[Mf] at ez
      have snp:=sn.trans (so.trans sp)
      refine⟨_,rfl,_,rfl,ps,_,_,_,rfl,rfl,SqL.of (snp _ _ esj),stp ra har,small (by show 1<=1000; decide),fun q hq=>⟨_,rfl,pk,_,rfl,.inl (SqL.of ((au hq _) _ _ (sp _ _ eko))),q,_,_,rfl,rfl,aj,by rw[Mf]; lia,by rw[Mf]; lia,?_,fun q2 hq2=>?_⟩⟩
      ·rw[Mf,show (((R.sr ra).length:Nat):Int).toNat=(R.sr ra).length by lia]
       exact small (by show 1 * _<=1000; lia)
      ·rw[Mf,show (((R.sr ra).length:Nat):Int).toNat=(R.sr ra).length by lia,nG]
       generalize eHq:upd _ q2 _=Hq
       obtain⟨gq,eq⟩:=aR eHq hq2
       have sq:=(au hq (.lst [V.int (R.st ra)])).trans gq
       refine⟨.ref D,.ref q2,.lst ((Mz (R.sr ra).length (R.st ra)).map Dm.int),rfl,.lst (sq _ _ (by rw[eD,ez])) (by rw[Mf,Nv]; lia) (gK _),.lst eq (by rw[Mf,Nv]; lia) (gK _),?_,fun Hr sr'=>⟨_,rfl,gF ?_⟩⟩
       ·rw[Dm.dep,jj]
        decide
       ·have sf':=so.trans (sp.trans (sq.trans sr'))
        exact⟨us'',pc2,_,_,_,rfl,sn.trans sf',sf' _ _ ev2,sf' _ _ ec3,hpr2.mono sf'⟩
    ·rintro σ Hl ⟨us',pcx,vg',vh',vi',rfl,sl,ev,ecx,hpr⟩
     have hl':pp.length=as.length:=by rw[← eas,Mf]
     rw[Mf,hl'] at hpr
     exact Rc _ _ ⟨us',_,vg',vh',vi',rfl,sl,ev,hpr⟩
   case q16 =>
   rintro σ Hl ⟨us',vb',vg',vh',vi',rfl,sl,ev,hpr⟩
   refine⟨_,rfl,_,rfl,b,fl,R.n,bk,_,rfl,by lia,fa,hBj.mono sl,hR.len,sl _ _ efj,z0,fun r us2 m Hm sm fr2 er2 ea pr2 _=>?_⟩
   obtain⟨em,ep⟩:=aC.Fp O hR L ea
   rw[ep] at pr2
   have l1:=pr2.length
   have l2:=hpr.length
   rw[Mf,MN] at l1 l2
   refine⟨_,rfl,.ref r,.ref pv,.lst (((Ms (pp.map (·.2.2)).length).map fun t=>(R.sr ((pp.map (·.2.2)).getD t 0),R.gv (R.clo (pp.map (·.2.2)) (t+1)))).map pD),rfl,.lst er2 (by lia) pr2.rep,.lst (sm _ _ ev) (by lia) (hpr.mono sm).rep,?_,fun Hn sn=>⟨_,rfl,gF ?_⟩⟩
   ·have:=yt ((Ms (pp.map (·.2.2)).length).map fun t=>(R.sr ((pp.map (·.2.2)).getD t 0),R.gv (R.clo (pp.map (·.2.2)) (t+1))))
    rw[Dm.dep]
    lia
   ·exact⟨⟨_,_,_,_,_,_,_,_,_,_,_,_,_,_,_,_,_,_,rfl⟩,s7.trans (s8.trans (sb.trans (sc.trans (sd.trans (sdg.trans (sh.trans (si.trans (sj.trans (sl.trans (sm.trans sn))))))))))⟩
  ·rintro σ H7 _
   exact q H7
theorem all_mk {l:W.OpenLaw} {w:NQ} {K:Nq} {h:N5} {mg:Ou->Option Mh} {fa fq0 fq1 fq2 fq3 fq4 fq5 fq6 fq7 fq8 fq9 fq10 fq11 fq12 fq13 fq14 fq15 fq16 fq17 fq18 fq19 fq20 fq21 fq22 fq23 fq24 fq25 fq26 fq27 fq28 fq29:Addr} (X:K.In h) (G:h.Ns Ng mg) (hfa:mg "law" = some (.ref fa))
  (qq0:HasDef K "above" sV fq0)
  (qq1:HasDef K "lifted" oU fq1)
  (qq2:HasDef K "all_hold" jx fq2)
  (qq3:HasDef K "any_holds" iz fq3)
  (qq4:HasDef K "holds" rT fq4)
  (qq5:HasDef K "owes" wJ fq5)
  (qq6:HasDef K "last_step" iI fq6)
  (qq7:HasDef K "what_is_due" gh fq7)
  (qq8:HasDef K "kept" wO fq8)
  (qq9:HasDef K "roof" xm fq9)
  (qq10:HasDef K "settled" j7 fq10)
  (qq11:HasDef K "rise" yN fq11)
  (qq12:HasDef K "fall" wV fq12)
  (qq13:HasDef K "least" qQ fq13)
  (qq14:HasDef K "greatest" jz fq14)
  (qq15:HasDef K "risen" sW fq15)
  (qq16:HasDef K "held_step" iR fq16)
  (qq17:HasDef K "held" wQ fq17)
  (qq18:HasDef K "alone" qU fq18)
  (qq19:HasDef K "risers" oO fq19)
  (qq20:HasDef K "put_off" lF fq20)
  (qq21:HasDef K "knots" tK fq21)
  (qq22:HasDef K "climb" tG fq22)
  (qq23:HasDef K "_law_draws" iB fq23)
  (qq24:HasDef K "_law_same" jw fq24)
  (qq25:HasDef K "_law_picks" iC fq25)
  (qq26:HasDef K "_law_rings" iK fq26)
  (qq27:HasDef K "_law_laid" jB fq27)
  (qq28:HasDef K "_law_given" iG fq28)
  (qq29:HasDef K "law" Fw fq29)
  (z_len:QL K Ng "len" = some none)
  (z_range:QL K Ng "range" = some none)
  (z_all:QL K Ng "all" = some none)
  (z_isinstance:QL K Ng "isinstance" = some none)
  (z_int:QL K Ng "int" = some none)
  (z_bool:QL K Ng "bool" = some none)
  (z_str:QL K Ng "str" = some none)
  (z_list:QL K Ng "list" = some none)
  (z_tuple:QL K Ng "tuple" = some none)
  (z_abs:QL K Ng "abs" = some none)
  (z_max:QL K Ng "max" = some none)
  (z_min:QL K Ng "min" = some none)
  (z_sum:QL K Ng "sum" = some none)
  (z_sorted:QL K Ng "sorted" = some none)
  (z_zip:QL K Ng "zip" = some none)
  (z_reversed:QL K Ng "reversed" = some none)
  (z_divmod:QL K Ng "divmod" = some none)
  (z_set:QL K Ng "set" = some none)
  (z_any:QL K Ng "any" = some none)
  (z_enumerate:QL K Ng "enumerate" = some none)
  : ∃ fd:QH,(∀ (s:Mj) (v:Mh),T4 s fd ⟨[v],[]⟩ [("_law_script",v)])/\∀ base:N5,K.In base->base.Ns Ng mg->fu l.prog w K mg base CX0 16 fa fd ["_law_script"] (Aa K):=by
 have e:=hfa.symm.trans (qq29.name X G)
 cases e
 have B:Bt mg:=⟨Oi X G z_len,Oi X G z_range,Oi X G z_all,Oi X G z_isinstance,Oi X G z_int,Oi X G z_bool,Oi X G z_str,Oi X G z_list,Oi X G z_tuple,Oi X G z_abs,Oi X G z_max,Oi X G z_min,Oi X G z_sum,Oi X G z_sorted,Oi X G z_zip,Oi X G z_reversed,Oi X G z_divmod,Oi X G z_set,Oi X G z_any,Oi X G z_enumerate⟩
 obtain⟨_,Fq29,bq29⟩:=qq29.law (y:="_law_script") fun _ _ _ _ _ _ s v=>.of_eq rfl
 refine⟨_,bq29,fun base _ _=>?_⟩
 have dd:=fun {x:Ou} {st:Stmt} {f:Addr} {ps:List Ou} {sp:Sp} {k:Nat} (q:HasDef K x st f)=>q.df (P:=l.prog) (w:=w) (mg:=mg) (base:=base) (ps:=ps) (sp:=sp) (k:=k) X G
 have Dq23:=dd qq23 cR fun _ F=>ph F B
 have S0:Df l.prog w K mg base "_law_same" 0 ["_law_found","_law_due"] (mY 0):=dd qq24 cR fun _ _=>same_none
 have S1:=dd qq24 cR fun _ F=>fZ F B S0
 have S2:=dd qq24 cR fun _ F=>fZ F B S1
 have S3:=dd qq24 cR fun _ F=>fZ F B S2
 have S4:=dd qq24 cR fun _ F=>fZ F B S3
 have H0:Df l.prog w K mg base "holds" 0 ["term","giving"] (iD K 0):=dd qq4 cR fun _ _=>wu
 have A1:=dd qq2 cR fun _ F=>fY F B H0
 have Y1:=dd qq3 cR fun _ F=>eV F B H0
 have H1:=dd qq4 cR fun _ F=>jT F B A1 Y1
 have A2:=dd qq2 cR fun _ F=>fY F B H1
 have Y2:=dd qq3 cR fun _ F=>eV F B H1
 have H2:=dd qq4 cR fun _ F=>jT F B A2 Y2
 have A3:=dd qq2 cR fun _ F=>fY F B H2
 have Y3:=dd qq3 cR fun _ F=>eV F B H2
 have H3:=dd qq4 cR fun _ F=>jT F B A3 Y3
 have A4:=dd qq2 cR fun _ F=>fY F B H3
 have Y4:=dd qq3 cR fun _ F=>eV F B H3
 have H4:=dd qq4 cR fun _ F=>jT F B A4 Y4
 have Dq5:=dd qq5 cR fun _ F=>GK F B H4
 have Dq6:=dd qq6 bind1 fun _ F=>pW F B
 have Dq7:=dd qq7 sG fun _ F=>mj F B Dq5
 have Dq9:=dd qq9 cR fun _ F=>DW F B Dq6
 have Dq0:=dd qq0 cR fun _ F=>Ab F B
 have Dq8:=dd qq8 sG fun _ F=>Gi (by decide) F B Dq7 Dq0
 have Dq10:=dd qq10 sG fun _ F=>vG F B Dq7
 have Dq11:=dd qq11 cR fun _ F=>Gy F B Dq10
 have Dq12:=dd qq12 cR fun _ F=>Ek (by decide) F B Dq10 Dq9
 have Dq13:=dd qq13 cR fun _ F=>Bw F B Dq11
 have Dq14:=dd qq14 cR fun _ F=>sE F B Dq12
 have Dq25:=dd qq25 cR fun _ F=>pG F B Dq23
 have Dq1:=dd qq1 sG fun _ F=>yj F B
 have Dq16:=dd qq16 Jf fun _ F=>pX F B Dq5
 have Dq17:=dd qq17 sG fun _ F=>Fe F B Dq16
 have Dq18:=dd qq18 sG fun _ F=>Ad (by decide) F B Dq13 Dq14 Dq1 Dq17
 have Dq19:=dd qq19 cR fun _ F=>yG F B
 have Dq20:=dd qq20 Jf fun _ F=>vR F B Dq19 Dq1 Dq17
 have Dq21:=dd qq21 cR fun _ F=>Bo (by decide) F B Dq13 Dq14 Dq20 Dq19
 have Dq15:=dd qq15 sG fun _ F=>Bf F B Dq8 Dq10
 have Dq22:=dd qq22 cR fun _ F=>An (by decide) (by decide) F B Dq21 Dq18 Dq15
 have Dq26:=dd qq26 cR fun _ F=>qy F B Dq25
 have Dq27:=dd qq27 Jq fun _ F=>sZ F B
 have Dq28:=dd qq28 Jq fun _ F=>pO F B
 exact Iu Fq29 B Dq23 S4 Dq26 Dq27 Dq28 Dq13 Dq14 Dq21 Dq18 Dq22
theorem walk {l:W.OpenLaw} {q:M8} {loose:List Ou} {XP:(Ou->Option Mh)->N5->Prop} {YP:NQ->N5->Prop} {d:DefRec} {K:Params->Nq} (hn:l.most=some 63) (hdf:d.params.defaults=[])
  (hY:∀ (w:NQ) (h:N5),YP w h->(K w.params).In h)
  (F:∀ (w:NQ) (mg:Ou->Option Mh) (fa:Addr) (h:N5),(K w.params).In h->h.Ns Ng mg->mg d.name=some (.ref fa) →
   ∃ fd:QH,(∀ (s:Mj) (u:Mh),T4 s fd ⟨[u],[]⟩ [("_law_script",u)])/\∀ base:N5,(K w.params).In base->base.Ns Ng mg->fu l.prog w (K w.params) mg base CX0 16 fa fd ["_law_script"] (Aa (K w.params))) :
  W.WalkO q loose XP YP l.row.toRowW d [] (fun f vs=>PySem.call f vs) :=
 L2.Gn (n:=63) (k:=16) (x:="_law_script") (CX:=fun _=>CX0) (sp:=fun w=>Aa (K w.params)) hn (by decide) hdf ⟨rfl,by decide,by decide⟩ hY F (fun _ _ a ns hl _ hS=>⟨a,ns,rfl,hS,hl,fun _=>rfl⟩) fun _ _ _ _ _ z=>z
end My
end
open PySem PySem.W PyProof.Rows
namespace PySem.Challenge.cw_loveboon_k30_whole_knots_of_rings_and_cr_holds
theorem tw1566118655364766868:True:=trivial
theorem tw10381361358903057051:True:=trivial
theorem tw6852643074274528945:True:=trivial
theorem tw8029386225740701730:True:=trivial
theorem tw14273772860869293028:True:=trivial
theorem tw7004873919723193588:True:=trivial
theorem tw15476092401204842023:True:=trivial
theorem tw3758411391107579712:True:=trivial
theorem tw17043704689505520538:True:=trivial
theorem tw15441167056208084663:True:=trivial
theorem tw2996392411351962912:True:=trivial
theorem tw1835807258328978048:True:=trivial
theorem tw21010704571685858:True:=trivial
theorem tw17139444981534592659:True:=trivial
theorem tw16633492189288130676:True:=trivial
theorem tw12076505724183522570:True:=trivial
theorem tw16429216851771707244:True:=trivial
theorem tw14288561498619671651:True:=trivial
theorem tw9088669273749987797:True:=trivial
end PySem.Challenge.cw_loveboon_k30_whole_knots_of_rings_and_cr_holds
set_option maxRecDepth 100000 in
set_option maxHeartbeats 0 in
theorem PySem.Challenge.cw_loveboon_k30_whole_knots_of_rings_and_cr_holds : PySem.Challenge.rw_loveboon_k30_whole_knots_of_rings_and_cr.Holds := by
 w_on; o_law; k_head; (case hw=>w_witness2)
 k_fill
 refine My.walk (l:=PySem.Challenge.rw_loveboon_k30_whole_knots_of_rings_and_cr) rfl rfl (fun w h Y=>W.kIn_of Y) ?F
 case F =>
  intro w mg fa h KX G hmg
  refine' My.all_mk KX G hmg ?qq0 ?qq1 ?qq2 ?qq3 ?qq4 ?qq5 ?qq6 ?qq7 ?qq8 ?qq9 ?qq10 ?qq11 ?qq12 ?qq13 ?qq14 ?qq15 ?qq16 ?qq17 ?qq18 ?qq19 ?qq20 ?qq21 ?qq22 ?qq23 ?qq24 ?qq25 ?qq26 ?qq27 ?qq28 ?qq29 ?z_len ?z_range ?z_all ?z_isinstance ?z_int ?z_bool ?z_str ?z_list ?z_tuple ?z_abs ?z_max ?z_min ?z_sum ?z_sorted ?z_zip ?z_reversed ?z_divmod ?z_set ?z_any ?z_enumerate
  (case qq0|qq1|qq2|qq3|qq4|qq5|qq6|qq7|qq8|qq9|qq10|qq11|qq12|qq13|qq14|qq15|qq16|qq17|qq18|qq19|qq20|qq21|qq22|qq23|qq24|qq25|qq26|qq27|qq28|qq29=>apply L2.HasDef.mk <;> k_is)
  (case z_len|z_range|z_all|z_isinstance|z_int|z_bool|z_str|z_list|z_tuple|z_abs|z_max|z_min|z_sum|z_sorted|z_zip|z_reversed|z_divmod|z_set|z_any|z_enumerate=>k_is)
