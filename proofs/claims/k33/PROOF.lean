import PyProof.Rows.All
import Wide.All
import OpenK.AllK
import Wide.FinOn
import Lean
import PyProof.EqAt
import PyProof.EqKinds
import PyProof.TupleCall
import PyProof.NeKinds
import PySem.Challenge.RW_loveboon_k33_folk_come_and_leave
noncomputable section
open Array renaming getElem?_eq_getElem→Pu,length_toList→Qk,getElem?_toList→QD,getD_eq_getD_getElem?→RJ,getElem?_eq_none→Ss,append_assoc→Vl
open Bool renaming false_ne_true→O2,and_eq_true→QS,true_and→Sx,false_and→Tr,and_false→Tt,or_true→TF,eq_iff_iff→U5,false_or→Wr,false_eq_true→Wy,or_eq_true→XJ
open False renaming elim→Qi
open ForInStep renaming yield→Ua
open Int renaming toNat_natCast→PN,zero_add→Us,emod_lt_of_pos→Wv,emod_nonneg→XH
open List renaming length_map→Ow,map_append→O7,mem_cons_of_mem→Pb,mem_cons_self→Ph,size_toArray→Pj,getElem?_map→Pk,take_length→Pq,getElem?_eq_getElem→PB,length_cons→PK,take_add_one→PL,mem_append_right→PQ,length_append→Qa,mem_of_getElem?→Qe,length_take→Qf,take_zero→Qj,getD_eq_getElem?_getD→Qq,map_cons→Qv,lookup_cons→Qx,replicate→QL,append_nil→Q8,contains_cons→Q9,range→Rk,length_filter_le→Ro,pairwise_cons→Rr,mem_singleton→Rt,eq_nil_of_length_eq_zero→Rv,length_range→RB,take_succ_cons→R1,filter_append→Sg,any_cons→Sw,length_replicate→SJ,getElem?_eq_none→SM,lookup→Tq,drop_eq_getElem_cons→TJ,mem_append→T7,foldl_cons→T8,find?_cons→T9,filter_cons_of_pos→Uh,filter_cons_of_neg→Ui,getElem?_set_self→Ur,mem_append_left→UT,filterMap_cons→U7,getElem?_append_right→Vj,mem_cons→Vu,all_cons→Vv,length_drop→Vz,getElem?_replicate→VB,of_mem_zip→V1,getElem?_toArray→V3,getElem?_set_ne→V8,mem_map_of_mem→Wh,getElem_of_mem→Wi,getElem?_range→Wj,pairwise_map→WY,nodup_append→W6,append_assoc→W7,filter_cons→Xl,drop_length→Xm,range_succ→XD,length_set→XF
open List.Pairwise renaming nil→Vo
open Nat renaming lt_of_lt_of_le→OD,le_refl→OJ,ne_of_lt→Pa,le_trans→PX,zero_le→Ql,lt_irrefl→Qu,lt_succ_of_lt→QB,le_of_lt→Q7,le_succ→Rm,succ_ne_zero→R5,lt_succ_self→R6,ne_of_gt→Tz,lt_of_le_of_lt→Ud,le_of_succ_le→Uq,lt_trans→VJ,not_lt_zero→V0
open Ne renaming symm→QM
open Option.some renaming inj→Qh
open Or renaming inl→Pr,inr→Xk
open PyProof.Rows renaming IntsAre→QG,step_dedup→Ra,callWith_type1→SX,seqObj→U4,AllBare→Vp,slot_tuple_getitem→Xd,callWith_builtin1→Xj,entry_list_sort→Xx
open PyProof.Rows.F renaming plain_set_update_loop→VD
open PySem renaming wpAny_bind→Ou,Shared→Ov,wpAny_pure→Oz,wpAny→O3,model→O5,mainGlobals→O8,Program→O9,Str→Px,starEach→Pz,Around→Qc,World→Qd,wpAny_newObj_type→Qg,wpAny_mono→Qm,bootBuiltins→Qn,Heap→Qo,rawInt→Qp,mem_of_lookup→Qt,FuncData→Qw,wpAny_holding→QC,codeAny→QF,wpAny_Call_Name_kw→QH,wpAny_call_entry→QR,wpAny_loadPart_at→QV,eval→QZ,wpAny_setField→Q0,codeAny_builtin→Q5,wpAny_truthy_bool→Rh,backTo→Rn,Obj→Rx,wpAny_callSpecial?_slot→Ry,foldedSetIterable→Rz,wpAny_isSubtype_exc→RC,Scope→RD,codeAny_mono→RG,wpAny_standAt→RK,wpAny_of_eq→RL,wpAny_field→RM,builtinLookup_eq_fast→RN,letOwnedTupleGo→RP,plainId_quiet→RZ,wpAny_askSetting→R3,isSubtype_type→R4,excClassObj→R8,Builtin→Sq,compareOp→Su,behindInMarks→Sv,pyNext→Sy,wpAny_setState_of→SN,wpAny_call→Td,codeAny_call_builtin→Te,SetTable→Tj,standAt→Tu,intKind→Tv,checkBuiltinCall→Tw,wpAny_attempt→TV,bindArgs→TX,typeLookup_type→T5,holding→T6,sysModules→Ub,keywordEach→Ue,wpAny_pyIter_list→Uj,firstArgMember→Uk,binaryOp→Ul,Pos→Ut,wpAny_isInstance→Uv,pickOrder→Uw,getMethod→Ux,assignEach→Uy,TriplesOk→Uz,sliceBounds→UL,wpAny_updateSeq→UW,wpAny_specialOf→U0,wpAny_passesOwn→U3,wpAny_setEntries_of→U6,noteFrame→U9,codeAmong→Va,Env→Vb,wpAny_tryCatch→Vc,wpAny_seqItems→Vd,wpAny_rule→Ve,typeLookup→Vf,Result→Vg,NameKind→Vi,wpAny_comprehension_free→Vq,attributeBase→Vr,argsOk→Vs,compPost→Vw,backToKw→Vx,assign→VF,BindsTo→VL,wpAny_ite_false→VM,wpAny_execs_nil→VN,codeAny_of_tree→VP,wpAny_newFunctionEnv→V4,pyIter→V5,callWith→V6,swapsWith→V9,getItem→Wb,Arguments→Wd,wpAny_newList→Wl,signature?_of→Wm,wpAny_typeOf→Wz,wpAny_pyIter_slot→WD,valueAt→WK,relayAll→WL,compEnvC→WM,callerA→WN,GenState→W8,plainObj_wpAny_Assign_Attribute→Xb,tupleKind→Xe,seqItems?→Xf,noFill_tuple_add→Xg,IsPart→Xn,wpAny_letGo→Xp,subscripted→Xq,sizeLine_eq→Xr,Tok→Xu,wpAny_ite_split→Xv,theTreesLotGoes→Xw,setNext→XM
open PySem.Around renaming under_plainId→Rb
open PySem.Builtin.Builtins renaming bindParams→U8
open PySem.Builtin.List renaming listExtendWith→Tc,listLengthHint→XQ
open PySem.Builtin.Slice renaming slicePlaces→TQ,sliceAdjust→Vn
open PySem.Builtin.SmallTypes renaming newClass→XN
open PySem.Builtin.Tuple renaming tupleExact→T4
open PySem.Calls renaming call_function_entry→Vm,spliced_cons→Ww,spliced_nil→Xa
open PySem.Code renaming quiet_builtin→Vk
open PySem.F renaming plain_max_loop→R7,type_list_append→TY,slot_list_append→T3,plainAttrs_list→Ug,args_tuple_add_2→Vt,entry_tuple_add→Vy,slot_tuple_add→VH,entry_max_loop→Xo
open PySem.Heap renaming get?_push_of_some→Ox,lt_size→O4,get?_push_size→O6,get?_update_other→Pn,get?_update_self→PJ,size_push→QX,SameBut→Sh
open PySem.Heap.SameBut renaming update→QT
open PySem.NameKind renaming free→Rf,cell→Wq
open PySem.Obj renaming mapFields→Q4,mapSeq→Sd,data_mapFields→Vh,isFreed_of_fields→V2,putSet→Wu
open PySem.PassesOwn renaming never→Qy
open PySem.SetTable renaming below→QK,grown→Ti
open PySem.SetTable.below renaming go→Uo
open PySem.SetTable.probe renaming go→WR
open PySem.Str renaming ofString→Um
open PySem.Value renaming ref→Pg,none→QJ,int→RQ,type→R0,bool→VG,builtin→Wn,str→Xh
open PySem.W renaming Frag→O1,Frag→Py,mg_none_of→Qs,findIn→Qz,keepIn→QW,kia_one→Q6,nsIn→Ri,emptyDict→Rj,instObj→RT,fnOf→RV,hasDictIn→SQ,kitOne→Tf,findIn→Tg,looks_findIn→Tn,codeIn→Tp,callWith_K→Uc,methodCall_KW→Uu,plainGet→UG,mg_of→UJ,takerIn→VR,kla_obj→VV,lookIn→V7,mg_of→Wc,plainGet_of→We,looks_clsIn→Wf,callWith_K0→Wg,Looks→Wo,fnOf→Wt,plainOver→WT,methodObj→WW,isFn→WX,handedIn→Xi,makesIn→Xy,hideAll→Xz
open PySem.W.Looks renaming here→Rp
open PySem.Walks renaming list→Ws
open Sum renaming inl→Ru,inr→WQ
open True renaming intro→R9
set_option Elab.async false
set_option linter.all false
set_option maxRecDepth 100000
namespace L2
open PySem PySem.Spec PyProof.Rows
abbrev Key:=Sum Int Px
def vg:Key->Value->Bool
 | .inl k,v=>Value.isInt k v
 | .inr x,v=>Value.isStrOf x v
def Oi (w:Qd):Key->Int
 | .inl k=>hashInt k
 | .inr x=>hashStr w x
theorem bZ:∀ {k:Key} {v:Value},vg k v=true->(∃ i t,k=Ru i/\v=RQ i t)∨(∃ x t,k=WQ x/\v=Xh x t)
 | .inl i,v,h=>by
  obtain⟨t,e⟩:=Value.isInt_shape (k:=i) (v:=v) h
  exact .inl ⟨i,t,rfl,e⟩
 | .inr x,v,h=>by
  obtain⟨t,e⟩:=Value.isStrOf_shape (x:=x) (v:=v) h
  exact .inr ⟨x,t,rfl,e⟩
theorem Cp (i:Int) (t:Xu):vg (.inl i) (.int i t)=true:=by simp [vg,Value.isInt]
theorem Dj (x:Px) (t:Xu):vg (.inr x) (.str x t)=true:=by simp [vg,Value.isStrOf]
theorem JT (a b:Int):decide ((Ru a:Key)=Ru b)=(a == b):=by
 by_cases e:a=b
 ·subst e; simp
 ·have h:¬ (Ru a:Key)=Ru b:=fun q=>e (Sum.inl.inj q)
  rw[decide_eq_false h]
  exact (beq_eq_false_iff_ne.mpr e).symm
theorem Ky (a b:Px):decide ((WQ a:Key)=WQ b)=decide (a=b):=by
 by_cases e:a=b
 ·subst e; simp
 ·have h:¬ (WQ a:Key)=WQ b:=fun q=>e (Sum.inr.inj q)
  rw[decide_eq_false h,decide_eq_false e]
theorem JD (a:Int) (b:Px):decide ((Ru a:Key)=WQ b)=false:=decide_eq_false (fun q=>nomatch q)
theorem Kr (a:Px) (b:Int):decide ((WQ a:Key)=Ru b)=false:=decide_eq_false (fun q=>nomatch q)
def cV (prog:O9) (w:Qd):PySem.KeyKind prog w Key where
 is:=vg
 hash:=Oi w
 inj:=fun v a b ha hb=>by
  rcases bZ ha with⟨i,t,rfl,rfl⟩ | ⟨x,t,rfl,rfl⟩
  ·rcases bZ hb with⟨j,u,rfl,e⟩ | ⟨y,u,rfl,e⟩
   ·injection e with e1 _; rw[e1]
   ·exact nomatch e
  ·rcases bZ hb with⟨j,u,rfl,e⟩ | ⟨y,u,rfl,e⟩
   ·exact nomatch e
   ·injection e with e1 _; rw[e1]
 byValue:=fun k v h=>by
  rcases bZ h with⟨i,t,rfl,rfl⟩ | ⟨x,t,rfl,rfl⟩ <;> rfl
 pyHash:=fun hv h=>by
  rcases bZ hv with⟨i,t,rfl,rfl⟩ | ⟨x,t,rfl,rfl⟩
  ·exact wpAny_pyHash_int h
  ·exact wpAny_pyHash_str h
 eqBool:=fun hu hv h=>by
  rcases bZ hu with⟨i,t,rfl,rfl⟩ | ⟨x,t,rfl,rfl⟩
  ·rcases bZ hv with⟨j,u,rfl,rfl⟩ | ⟨y,u,rfl,rfl⟩
   ·rw[JT] at h; exact wpAny_eqBool_int h
   ·rw[JD] at h; exact SeqAt.EqAt.int_str i t y u _ _ _ _ h
  ·rcases bZ hv with⟨j,u,rfl,rfl⟩ | ⟨y,u,rfl,rfl⟩
   ·rw[Kr] at h; exact SeqAt.EqAt.str_int x t j u _ _ _ _ h
   ·rw[Ky] at h; exact wpAny_eqBool_str h
 «strs»:=fun k x t v h=>by
  rcases bZ h with⟨i,u,rfl,e⟩ | ⟨y,u,rfl,e⟩
  ·exact nomatch e
  ·injection e with e1 _
   subst e1
   cases v <;> rfl
theorem vO (prog:O9) (w:Qd) (i:Int) (t:Xu):(cV prog w).is (.inl i) (.int i t)=true:=Cp i t
theorem vH (prog:O9) (w:Qd) (x:Px) (t:Xu):(cV prog w).is (.inr x) (.str x t)=true:=Dj x t
end L2
namespace L2
open PySem PySem.Spec PyProof.Rows
inductive V where
 | non | bl (b:Bool) | int (i:Int) | str (x:Px) | byt (b:Array UInt8) | flt (b:UInt64) | ref (a:Addr) | ty (n:String)
 deriving DecidableEq
def RelV:V->Value->Prop
 | .non,u=>u=QJ
 | .bl b,u=>u=VG b
 | .int i,u=>∃ t,u=RQ i t
 | .str x,u=>∃ t,u=Xh x t
 | .byt b,u=>∃ t,u=Value.bytes b t
 | .flt b,u=>∃ t,u=Value.float b t
 | .ref a,u=>u=Pg a
 | .ty n,u=>u=R0 n
abbrev Vals:List V->List Value->Prop:=Paired RelV
theorem Vals.length {xs:List V} {us:List Value} (r:Vals xs us):xs.length=us.length:=Paired.length r
theorem Vals.get:∀ {xs:List V} {us:List Value} {i:Nat} {x:V},Vals xs us->xs[i]? = some x->∃ u,us[i]? = some u/\RelV x u
 | _,_,_,_,.nil,e=>by simp at e
 | _,_,0,_,.cons r _,e=>by simp at e; subst e; exact⟨_,rfl,r⟩
 | _,_,i+1,x,.cons _ t,e=>by
  obtain⟨u,h1,h2⟩:=Vals.get (i:=i) (x:=x) t (by simpa using e)
  exact⟨u,by simpa using h1,h2⟩
theorem Vals.set {x:V} {u:Value} (r:RelV x u):∀ {xs:List V} {us:List Value} (i:Nat),Vals xs us->Vals (xs.set i x) (us.set i u)
 | _,_,_,.nil=>.nil
 | _,_,0,.cons _ t=>.cons r t
 | _,_,i+1,.cons q t=>.cons q (Vals.set r i t)
theorem Vals.append:∀ {xs ys:List V} {us ws:List Value},Vals xs us->Vals ys ws->Vals (xs++ys) (us++ws)
 | _,_,_,_,.nil,s=>s
 | _,_,_,_,.cons r t,s=>.cons r (Vals.append t s)
theorem Vals.take:∀ {xs:List V} {us:List Value} (n:Nat),Vals xs us->Vals (xs.take n) (us.take n)
 | _,_,0,_=>.nil
 | _,_,_+1,.nil=>.nil
 | _,_,n+1,.cons r t=>.cons r (Vals.take n t)
theorem Vals.drop:∀ {xs:List V} {us:List Value} (n:Nat),Vals xs us->Vals (xs.drop n) (us.drop n)
 | _,_,0,r=>r
 | _,_,_+1,.nil=>.nil
 | _,_,n+1,.cons _ t=>Vals.drop n t
def pY:Option V->Option Value->Prop
 | some v,some u=>RelV v u
 | none,none=>True
 | _,_=>False
def KV {κ:Type}:List (κ × V)->List (κ × Value)->Prop:=Paired fun (p:κ × V) (q:κ × Value)=>p.1=q.1/\RelV p.2 q.2
def kV:Key->V
 | .inl i=>.int i
 | .inr x=>.str x
inductive HO where
 /-- a list -/
 | lst (xs:List V)
 /-- a tuple (never changes) -/
 | tup (xs:List V)
 /-- a dict whose keys are ints and texts; one whose keys are tuples of ints and texts (the empty one is both) -/
 | dK (kvs:List (Key × V)) | dT (kvs:List (List Key × V))
 /-- a set of ints: its members,its size -/
 | set (S:Int->Bool) (n:Nat)
 /-- an instance of the class at C,its dict at dx,its attributes -/
 | ins (C dx:Addr) (fs:List (Px × V))
 /-- the dict of the instance at x -/
 | own (x:Addr)
 /-- the dict of an exception -/
 | xd (fs:List (Px × V))
 /-- a bound method,f of x -/
 | met (f x:Addr)
 /-- a range object lo,lo+1,.. below hi -/
 | rng (lo hi:Int)
 /-- a thing that is known to the object (the script; a dict while a loop walks it): read,never written while it is so -/
 | frz (o:Rx) (u:HO)
 /-- a code object's table -/
 | tbl (ps:Array Value)
 /-- any other thing,by what is true of its one object (a def of one's own: SetO a S n:=HO.ext fun h=>..) -/
 | ext (φ:Qo->Prop)
abbrev Hp:=Addr->Option HO
def upd (H:Hp) (a:Addr) (o:HO):Hp:=fun b=>if b=a then some o else H b
theorem ao {H:Hp} {a:Addr} {o:HO}:upd H a o a=some o:=by unfold upd; rw[if_pos rfl]
theorem aN {H:Hp} {a b:Addr} {o:HO} (h:b≠a):upd H a o b=H b:=by unfold upd; rw[if_neg h]
theorem qj {H:Hp} {a:Addr} {o u:HO}:upd (upd H a o) a u=upd H a u:=by
 funext b; unfold upd; split <;> rfl
theorem MF {H:Hp} {a b:Addr} {o u:HO} (h:H a=some o) (h':H b=some u) (d:o≠u):a≠b:=by
 intro e; subst e; rw[h] at h'; exact d (Qh h')
theorem cz {H:Hp} {a b:Addr} {o:HO} (h:H a=some o) (h':H b=none):a≠b:=by
 intro e; subst e; rw[h] at h'; cases h'
section
variable (P:O9) (w:Qd)
def cU (H:Hp) (h:Qo) (a:Addr):HO->Prop
 | .lst xs=>xs.length<=sizeLine/\∃ (its:List Value) (n:Nat),Vals xs its/\h.get? a=some { cls:=.type "list",data:=.seq its.toArray n }
 | .tup xs=>xs.length<=sizeLine/\∃ its:List Value,Vals xs its/\IsTup h a its.toArray
 | .dK kvs=>kvs.length<=sizeLine/\(a == Ub)=false/\∃ vs,KV kvs vs/\h.DictOf (cV P w) a vs
 | .dT kvs=>kvs.length<=sizeLine/\(a == Ub)=false/\∃ xs:List (List Key × Addr × Value),
   Paired (fun (p:List Key × V) (q:List Key × Addr × Value)=>p.1=q.1/\H q.2.1=some (.tup (p.1.map kV))/\RelV p.2 q.2.2) kvs xs ∧
   ∃ o es ep,h.get? a=some o/\o.ExactDict/\o.data = .dict es ep/\es.toList=xs.map (entryOfKey (Xe (cV P w)))/\(xs.map (·.1)).Nodup
 | .set S n=>h.SetOf (Tv P w) a S n
 | .ins C dx fs=>H dx=some (.own a)/\fs.length<=1000/\dx≠a/\h.get? a=some (RT C dx) ∧
   ∃ mA,h.Ns1 dx mA/\(∀ f,pY (fs.lookup f) (mA f))/\PySem.Within mA (fs.map (·.1))
 | .own _=>∃ o,h.get? a=some o
 | .xd fs=>∃ mA,h.Ns1 a mA/\∀ f,pY (fs.lookup f) (mA f)
 | .rng lo hi=>∃ t u v,h.get? a=some { cls:=.type "range",data:=.fields #[.int lo t,.int hi u,.int 1 v] }
 | .frz o u=>h.get? a=some o/\cU H h a u
 | .tbl ps=>h.get? a=some { cls:=.none,data:=.fields ps }
 | .met f x=>h.get? a=some (WW (.ref f) (.ref x))
 | .ext φ=>φ h/\(∃ o,h.get? a=some o)/\∀ h1 h2:Qo,φ h1->(∀ o,h1.get? a=some o->h2.get? a=some o)->φ h2
def HOk (H:Hp) (h:Qo):Prop:=∀ a o,H a=some o->cU P w H h a o
end
section
variable {P:O9} {w:Qd} {H H':Hp} {h h':Qo} {a:Addr} {o:HO}
theorem cU.lt (x:cU P w H h a o):a < h.objs.size:=by
 cases o with
 | lst xs=>obtain⟨_,_,_,_,e⟩:=x; exact O4 e
 | tup xs=>obtain⟨_,_,_,p⟩:=x; exact p.lt
 | dK kvs=>obtain⟨_,_,_,_,o,_,_,e,_⟩:=x; exact O4 e
 | dT kvs=>obtain⟨_,_,_,_,o,_,_,e,_⟩:=x; exact O4 e
 | set S n=>obtain⟨o,_,_,_,e,_⟩:=x; exact O4 e
 | ins C dx fs=>obtain⟨_,_,_,e,_⟩:=x; exact O4 e
 | own y=>obtain⟨_,e⟩:=x; exact O4 e
 | xd fs=>obtain⟨_,⟨_,_,_,e,_⟩,_⟩:=x; exact O4 e
 | rng lo hi=>obtain⟨_,_,_,e⟩:=x; exact O4 e
 | frz ob u=>obtain⟨e,_⟩:=x; exact O4 e
 | tbl ps=>exact O4 (show h.get? a=some _ from x)
 | met f y=>exact O4 (show h.get? a=some _ from x)
 | ext φ=>obtain⟨_,⟨_,e⟩,_⟩:=x; exact O4 e
theorem Paired.MJ {α β:Type} {F G:α->β->Prop}:∀ {l₁:List α} {l₂:List β},Paired F l₁ l₂->(∀ a b,F a b->G a b)->Paired G l₁ l₂
 | _,_,.nil,_=>.nil
 | _,_,.cons r t,f=>.cons (f _ _ r) (Paired.MJ t f)
theorem cU.stay (x:cU P w H h a o) (k:∀ b u,(b=a∨H b=some (.own a))->h.get? b=some u->h'.get? b=some u)
  (ho:∀ b,H b=some (.own a)->H' b=some (.own a)) (ht:∀ b xs,H b=some (.tup xs)->H' b=some (.tup xs)):cU P w H' h' a o:=by
 induction o with
 | lst xs=>obtain⟨z,its,n,r,e⟩:=x; exact⟨z,its,n,r,k _ _ (.inl rfl) e⟩
 | tup xs=>obtain⟨z,its,r,ob,e,c⟩:=x; exact⟨z,its,r,ob,k _ _ (.inl rfl) e,c⟩
 | dK kvs=>obtain⟨z,y,vs,r,ob,es,ep,e,c⟩:=x; exact⟨z,y,vs,r,ob,es,ep,k _ _ (.inl rfl) e,c⟩
 | dT kvs =>
  obtain⟨z,y,xs,r,ob,es,ep,e,c⟩:=x
  exact⟨z,y,xs,Paired.MJ r fun p q z=>⟨z.1,ht _ _ z.2.1,z.2.2⟩,ob,es,ep,k _ _ (.inl rfl) e,c⟩
 | set S n=>obtain⟨ob,es,ep,t,e,c⟩:=x; exact⟨ob,es,ep,t,k _ _ (.inl rfl) e,c⟩
 | ins C dx fs =>
  obtain⟨d,z,ne,e,mA,⟨od,es,ep,e2,c⟩,r⟩:=x
  exact⟨ho _ d,z,ne,k _ _ (.inl rfl) e,mA,⟨od,es,ep,k _ _ (.inr d) e2,c⟩,r⟩
 | own y=>obtain⟨ob,e⟩:=x; exact⟨ob,k _ _ (.inl rfl) e⟩
 | xd fs=>obtain⟨mA,⟨od,es,ep,e,c⟩,r⟩:=x; exact⟨mA,⟨od,es,ep,k _ _ (.inl rfl) e,c⟩,r⟩
 | rng lo hi=>obtain⟨t,u,v,e⟩:=x; exact⟨t,u,v,k _ _ (.inl rfl) e⟩
 | frz ob u ih=>obtain⟨e,q⟩:=x; exact⟨k _ _ (.inl rfl) e,ih q⟩
 | tbl ps =>
  have e:h.get? a=some { cls:=.none,data:=.fields ps }:=x
  show h'.get? a=some { cls:=.none,data:=.fields ps }
  exact k a _ (.inl rfl) e
 | met f y =>
  have e:h.get? a=some (WW (.ref f) (.ref y)):=x
  show h'.get? a=some (WW (.ref f) (.ref y))
  exact k a _ (.inl rfl) e
 | ext φ=>obtain⟨p,⟨o,e⟩,st⟩:=x; exact⟨st _ _ p fun o q=>k _ _ (.inl rfl) q,⟨o,k _ _ (.inl rfl) e⟩,st⟩
theorem HOk.lt (x:HOk P w H h) (e:H a=some o):a < h.objs.size:=(x a o e).lt
theorem HOk.fresh (x:HOk P w H h) (e:h.objs.size<=a):H a=none:=by
 cases q:H a with
 | none=>rfl
 | some u=>exact absurd (OD (x.lt q) e) (Qu _)
theorem HOk.kept (x:HOk P w H h) (k:∀ b u,h.get? b=some u->h'.get? b=some u):HOk P w H h':=fun a o e =>
 (x a o e).stay (fun b u _ q=>k b u q) (fun _ q=>q) fun _ _ q=>q
theorem HOk.laid (x:HOk P w H h) (k:∀ b u,h.get? b=some u->h'.get? b=some u) (hp:h.objs.size<=a) (new:cU P w (upd H a o) h' a o):HOk P w (upd H a o) h':=fun b u e=>by
 have hn:=x.fresh hp
 by_cases hb:b=a
 ·subst hb; rw[ao] at e; cases e; exact new
 ·rw[aN hb] at e
  exact (x b u e).stay (fun c v _ q=>k c v q) (fun c q=>by rw[aN (cz q hn)]; exact q) fun c xs q=>by rw[aN (cz q hn)]; exact q
end
def Rd (H:Hp) (a:Addr) (u:HO):Prop:=H a=some u∨∃ o,H a=some (.frz o u)
theorem Rd.ok {P:O9} {w:Qd} {H:Hp} {h:Qo} {a:Addr} {u:HO} (r:Rd H a u) (x:HOk P w H h):cU P w H h a u:=by
 rcases r with r | ⟨o,r⟩
 ·exact x a u r
 ·obtain⟨_,q⟩:=x a _ r
  exact q
def Mut:Option HO->Prop
 | some (.lst _)=>True
 | some (.dK _)=>True
 | some (.dT _)=>True
 | some (.set _ _)=>True
 | some (.ins _ _ _)=>True
 | some (.ext _)=>True
 | _=>False
section
variable {P:O9} {w:Qd} {H:Hp} {h h':Qo} {x e:Addr} {o':HO}
theorem HOk.write (ok:HOk P w H h) (mu:Mut (H x)) (he:e=x∨H e=some (.own x)) (k:∀ b u,b≠e->h.get? b=some u->h'.get? b=some u) (heo:∃ u,h'.get? e=some u)
  (new:cU P w (upd H x o') h' x o'):HOk P w (upd H x o') h':=fun b u q=>by
 have nown:∀ c y,H c=some (.own y)->c≠x:=fun c y r z=>by subst z; rw[r] at mu; exact mu
 have ntup:∀ c xs,H c=some (.tup xs)->c≠x:=fun c xs r z=>by subst z; rw[r] at mu; exact mu
 by_cases hb:b=x
 ·subst hb; rw[ao] at q; cases q; exact new
 ·rw[aN hb] at q
  by_cases hbe:b=e
  ·have q':H b=some (.own x):=by
    rcases he with z | z
    ·exact absurd (hbe.trans z) hb
    ·rw[hbe]; exact z
   rw[q] at q'; cases q'
   obtain⟨v,hv⟩:=heo
   exact⟨v,by rw[hbe]; exact hv⟩
  ·refine (ok b u q).stay (fun c v hc r=>k c v ?_ r) (fun c r=>by rw[aN (nown c b r)]; exact r) fun c xs r=>by rw[aN (ntup c xs r)]; exact r
   rcases hc with rfl | hc
   ·exact hbe
   ·rintro rfl
    rcases he with z | z
    ·exact nown c b hc z
    ·rw[hc] at z; cases z; exact hb rfl
end
structure Un (fs ex:List Addr) (H H':Hp) (h h':Qo):Prop where
 keep:∀ b o,h.get? b=some o->H b=none->b ∉ fs->b ∉ ex->h'.get? b=some o
 slot:∀ b o,h.get? b=some o->H b=none->b∈fs->b ∉ ex->∃ sl,h'.get? b=some { o with slots:=sl }
 free:∀ b o,h.get? b=some o->H b=none->b ∉ ex->H' b=none
 there:∀ b o,h.get? b=some o->b ∉ ex->∃ o',h'.get? b=some o'
 tups:∀ b xs,H b=some (.tup xs)->H' b=some (.tup xs)
 frzs:∀ b o u,H b=some (.frz o u)->H' b=some (.frz o u)
 tbls:∀ b ps,H b=some (.tbl ps)->∃ more,H' b=some (.tbl (ps++more))
section
variable {fs fs' ex ex':List Addr} {H H1 H2:Hp} {h h1 h2 h':Qo} {a x e:Addr} {o:HO}
theorem Un.any (u:Un fs ex H H1 h h1) {b:Addr} {ob:Rx} (q:h.get? b=some ob) (n:H b=none) (hx:b ∉ ex):∃ sl,h1.get? b=some { ob with slots:=sl }:=by
 by_cases hb:b∈fs
 ·exact u.slot b ob q n hb hx
 ·exact⟨ob.slots,u.keep b ob q n hb hx⟩
theorem Un.trans (a:Un fs ex H H1 h h1) (b:Un fs ex H1 H2 h1 h2):Un fs ex H H2 h h2 where
 keep:=fun c ob q n hc hx=>b.keep c ob (a.keep c ob q n hc hx) (a.free c ob q n hx) hc hx
 slot:=fun c ob q n hc hx=>by
  obtain⟨sl,e1⟩:=a.slot c ob q n hc hx
  obtain⟨sl',e2⟩:=b.slot c _ e1 (a.free c ob q n hx) hc hx
  exact⟨sl',e2⟩
 free:=fun c ob q n hx=>by
  obtain⟨o',e1⟩:=a.there c ob q hx
  exact b.free c o' e1 (a.free c ob q n hx) hx
 there:=fun c ob q hx=>by
  obtain⟨o',e1⟩:=a.there c ob q hx
  exact b.there c o' e1 hx
 tups:=fun c xs q=>b.tups c xs (a.tups c xs q)
 frzs:=fun c ob xs q=>b.frzs c ob xs (a.frzs c ob xs q)
 tbls:=fun c ps q=>by
  obtain⟨m1,e1⟩:=a.tbls c ps q
  obtain⟨m2,e2⟩:=b.tbls c _ e1
  exact⟨m1++m2,by rw[e2,Vl]⟩
theorem Un.kept (k:∀ b u,h.get? b=some u->h'.get? b=some u):Un fs ex H H h h' :=
 ⟨fun b ob q _ _ _=>k b ob q,fun b ob q _ _ _=>⟨ob.slots,k b ob q⟩,fun _ _ _ n _=>n,fun b ob q _=>⟨ob,k b ob q⟩,fun _ _ q=>q,fun _ _ _ q=>q,fun _ ps q=>⟨#[],by rw[q]; simp⟩⟩
theorem Un.refl:Un fs ex H H h h:=Un.kept fun _ _ q=>q
theorem Un.laid (k:∀ b u,h.get? b=some u->h'.get? b=some u) (hp:h.objs.size<=a) (hn:H a=none):Un fs ex H (upd H a o) h h' where
 keep:=fun b u q _ _ _=>k b u q
 slot:=fun b u q _ _ _=>⟨u.slots,k b u q⟩
 free:=fun b u q n _=>by rw[aN (Pa (OD (O4 q) hp))]; exact n
 there:=fun b u q _=>⟨u,k b u q⟩
 tups:=fun b xs q=>by rw[aN (cz q hn)]; exact q
 frzs:=fun b u xs q=>by rw[aN (cz q hn)]; exact q
 tbls:=fun b ps q=>⟨#[],by rw[aN (cz q hn),q]; simp⟩
theorem Un.write (mu:Mut (H x)) (he:e=x∨H e=some (.own x)) (k:∀ b u,b≠e->h.get? b=some u->h'.get? b=some u) (heo:∃ u,h'.get? e=some u):Un fs ex H (upd H x o) h h':=by
 have hx:∀ b,H b=none->b≠x:=fun b n z=>by subst z; rw[n] at mu; exact mu
 have hb:∀ b,H b=none->b≠e:=fun b n z=>by
  subst z
  rcases he with r | r
  ·exact hx b n r
  ·rw[n] at r; cases r
 have hm:∀ b u,H b=some u->¬ Mut (some u)->b≠x:=fun b u q nm z=>by subst z; rw[q] at mu; exact nm mu
 refine⟨fun b u q n _ _=>k b u (hb b n) q,fun b u q n _ _=>⟨u.slots,k b u (hb b n) q⟩,fun b u q n _=>by rw[aN (hx b n)]; exact n,fun b u q _=>?_,
  fun b xs q=>by rw[aN (hm b _ q fun z=>z)]; exact q,fun b u xs q=>by rw[aN (hm b _ q fun z=>z)]; exact q,fun b ps q=>⟨#[],by rw[aN (hm b _ q fun z=>z),q]; simp⟩⟩
 by_cases hbe:b=e
 ·subst hbe; exact heo
 ·exact⟨u,k b u hbe q⟩
end
def trk (h:Qo) (H:Hp):List Addr:=(Rk h.objs.size).filter fun a=>(H a).isSome
def Fy (h:Qo) (H:Hp):Qo:=Xz h (trk h H)
theorem Cu (h:Qo) (H:Hp):(Fy h H).objs.size=h.objs.size:=PySem.W.hideAll_size _ _
theorem FP {h:Qo} {H:Hp} {b:Addr} {o:Rx} (e:h.get? b=some o) (n:H b=none):(Fy h H).get? b=some o :=
 PySem.W.hideAll_get _ e fun hm=>by
  have q:(H b).isSome=true:=(List.mem_filter.mp hm).2
  rw[n] at q; simp at q
theorem HB {h:Qo} {H:Hp} {b:Addr} {o:Rx} (e:(Fy h H).get? b=some o):h.get? b=some o/\H b=none:=by
 have e':h.get? b=some o:=PySem.W.of_hideAll (trk h H) e
 refine⟨e',?_⟩
 cases q:H b with
 | none=>rfl
 | some x =>
  have hm:b∈trk h H:=List.mem_filter.mpr ⟨List.mem_range.mpr (O4 e'),by simp [q]⟩
  have z:(Fy h H).get? b=none:=PySem.W.hideAll_none (trk h H) hm
  rw[z] at e; cases e
def Hs (g h:Qo) (L:Addr):List (Addr × Rx):=(Rk h.objs.size).filterMap fun a=>if a=L∨(g.get? a).isSome=true then none else (h.get? a).map fun o=>(a,o)
def rest (g h:Qo) (L d:Addr):List (Addr × Rx):=(Hs g h L).filter fun p=>decide (p.1≠d)
end L2
namespace L2
open PySem PySem.Spec PyProof.Rows
structure Mod (K:O1) (mg:Px->Option Value) (base:Qo):Prop where
 kin:K.In base
 glob:base.Ns O8 mg
 blt:∃ mb,base.Ns builtinsNs mb/\∀ x:Px,x≠"__name__"->mb x=Qn x
 nolimit:base.NoLimit
structure Cx where
 prog:O9
 w:Qd
 K:O1
 mg:Px->Option Value
 base:Qo
 A:Qc
 N:List Px
 s₀:Ov
 H₀:Hp
 env:Vb
 outer:List Vb
 stack:List Vb
 ex:List Addr
 fn:Px->Bool
 calm:Bool
 pn:List (Addr × Rx)
 xe:Value->Ov->Prop
def frs (l:List Vb):List Addr:=l.filterMap (·.frame)
abbrev Cx.fs (X:Cx):List Addr:=frs X.outer
def Vis (sc:RD) (x:Px):Prop:=sc.names.lookup x=some .local∨sc.names.lookup x=some .cell∨sc.names.lookup x=some .free
def Loc (sc:RD) (x:Px):Prop:=sc.names.lookup x=some .local∨sc.names.lookup x=some .cell
def Look (env:Vb) (h:Qo) (m:Px->Option Value) (x:Px) (u:Value):Prop :=
 (env.kindOf x=some .local/\m x=some u)∨((env.kindOf x=some .cell∨env.kindOf x=some .free)/\∃ c,env.cells.lookup x=some c/\h.IsCell c (some u))
structure Cx.Ok (X:Cx):Prop where
 mod:Mod X.K X.mg X.base
 kind:X.env.scope.kind = .function
 glob:X.env.globals=O8
 blt:X.env.builtins=builtinsNs
 above:X.s₀.heap.objs.size<=X.env.locals
 inj:∀ x y c,X.env.cells.lookup x=some c->X.env.cells.lookup y=some c->x=y
 has:∀ x,(X.env.kindOf x=some .cell∨X.env.kindOf x=some .free)->∃ c,X.env.cells.lookup x=some c
 cab:∀ x c,X.fn x=true->X.env.cells.lookup x=some c->X.s₀.heap.objs.size<=c
 hd:X.calm=true->X.A.handled=none
 frames:X.A.frames=some X.stack
 stk:X.stack=X.outer∨(X.stack=X.env::X.outer/\X.env.frame=some X.env.locals)
 exf:∀ b∈X.ex,b≠X.env.locals/\∀ x c,X.env.cells.lookup x=some c->c≠b
 bs:∀ b o,X.base.get? b=some o->X.s₀.heap.get? b=some o/\X.H₀ b=none
 bsz:X.base.objs.size<=X.s₀.heap.objs.size
 noex:∀ b o,X.base.get? b=some o->b ∉ X.ex
 exfs:∀ b∈X.ex,b ∉ X.fs
 o4:X.s₀.heap.FunFrames X.base X.outer
 frf:∀ b∈X.fs,X.H₀ b=none
structure Inv (X:Cx) (pins:List (Addr × Rx)) (σ:List (Option V)) (H:Hp) (s:Ov):Prop where
 ok:X.Ok
 os:s.os=X.s₀.os
 bare:Vp s.gens
 base:Un X.fs X.ex X.H₀ H X.s₀.heap s.heap
 loc:∃ m,s.heap.Ns X.env.locals m/\∀ (i:Nat) (x:Px) (v:V),X.N[i]? = some x->σ[i]? = some (some v)->Vis X.env.scope x->∃ u,RelV v u/\Look X.env s.heap m x u
 cell:∀ x c,X.env.cells.lookup x=some c->∃ v,s.heap.IsCell c v
 free:H X.env.locals=none
 freeC:∀ x c,X.env.cells.lookup x=some c->H c=none
 pin:∀ p∈X.pn++pins,s.heap.get? p.1=some p.2/\H p.1=none/\p.1≠X.env.locals/\p.1 ∉ X.fs/\∀ v,p.2.data≠.cell v
 hok:HOk X.prog X.w H s.heap
 len:σ.length=X.N.length
section
variable {X:Cx} {pins:List (Addr × Rx)} {σ:List (Option V)} {H H':Hp} {s:Ov} {h':Qo}
theorem Cx.Ok.NK (ok:X.Ok) {b:Addr} {o:Rx} (e:X.base.get? b=some o):b ∉ X.fs:=fun hb=>by
 have:=(ok.o4.mem hb).1
 rw[e] at this; cases this
theorem Inv.bs (I:Inv X pins σ H s):∀ b o,X.base.get? b=some o->s.heap.get? b=some o/\H b=none:=fun b o e =>
 ⟨I.base.keep b o (I.ok.bs b o e).1 (I.ok.bs b o e).2 (I.ok.NK e) (I.ok.noex b o e),I.base.free b o (I.ok.bs b o e).1 (I.ok.bs b o e).2 (I.ok.noex b o e)⟩
theorem Inv.bk (I:Inv X pins σ H s):∀ b o,X.base.get? b=some o->s.heap.get? b=some o:=fun b o e=>(I.bs b o e).1
theorem Inv.mod (I:Inv X pins σ H s):Mod X.K X.mg X.base:=I.ok.mod
theorem Inv.kIn (I:Inv X pins σ H s):X.K.In s.heap:=I.ok.mod.kin.keeps I.bk
theorem Inv.fr (I:Inv X pins σ H s):∃ m,Fr X.base X.env.locals s.heap m :=
 let ⟨m,hn,_⟩:=I.loc
 ⟨m,hn,I.bk,PX I.ok.bsz I.ok.above⟩
theorem Inv.lt (I:Inv X pins σ H s):X.env.locals < s.heap.objs.size:=let ⟨_,hn,_⟩:=I.loc; hn.lt
theorem Inv.sz (I:Inv X pins σ H s):X.s₀.heap.objs.size<=s.heap.objs.size:=PX I.ok.above (Q7 I.lt)
theorem Inv.Oc (I:Inv X pins σ H s) {a:Addr} (h:s.heap.objs.size<=a):a ∉ X.fs:=fun hb=>by
 obtain⟨_,o,ho,_⟩:=I.ok.o4.mem hb
 exact absurd (OD (O4 ho) (PX I.sz h)) (Qu _)
theorem Inv.cne (I:Inv X pins σ H s):∀ x c,X.env.cells.lookup x=some c->c≠X.env.locals:=fun x c e z=>by
 obtain⟨v,o,ho,hd⟩:=I.cell x c e
 obtain⟨m,⟨o',es,ep,ho',hd',_⟩,_⟩:=I.loc
 rw[z,ho'] at ho; cases ho; rw[hd'] at hd; cases hd
theorem Inv.o4 (I:Inv X pins σ H s):s.heap.FunFrames X.base X.outer:=by
 have all:∀ (l:List Vb),(∀ b∈frs l,b∈X.fs)->X.s₀.heap.FunFrames X.base l->s.heap.FunFrames X.base l:=by
  intro l
  induction l with
  | nil=>intro _ _; trivial
  | cons env r ih =>
   intro hs hl
   obtain⟨hk,⟨L,o,hf,hn,ho,hd⟩,hr⟩:=hl
   have hL:L∈X.fs:=hs L (by unfold frs; rw[U7,hf]; exact Ph)
   obtain⟨sl,e⟩:=I.base.slot L o ho (I.ok.frf L hL) hL fun z=>I.ok.exfs L z hL
   exact⟨hk,⟨L,_,hf,hn,e,hd⟩,ih (fun b hb=>hs b (by unfold frs; rw[U7,hf]; exact Pb _ hb)) hr⟩
 exact all X.outer (fun _ hb=>hb) I.ok.o4
theorem Inv.stack (I:Inv X pins σ H s):s.heap.FunFrames X.base X.stack:=by
 rcases I.ok.stk with e | ⟨e,hf⟩
 ·rw[e]; exact I.o4
 ·rw[e]
  obtain⟨m,hn,_⟩:=I.loc
  refine .cons (by rw[I.ok.kind]; decide) hf hn ?_ I.o4
  exact Heap.get?_none_of_le (PX I.ok.bsz I.ok.above)
theorem Inv.pC (I:Inv X pins σ H s):∀ b∈frs X.stack,b∈X.env.locals::X.fs:=fun b hb=>by
 rcases I.ok.stk with e | ⟨e,hf⟩
 ·rw[e] at hb; exact Pb _ hb
 ·rw[e] at hb
  unfold frs at hb
  rw[U7,hf] at hb
  exact hb
theorem Inv.vy (I:Inv X pins σ H s):∀ b∈frs X.stack,H b=none:=fun b hb=>by
 rcases List.mem_cons.mp (I.pC b hb) with e | hb
 ·rw[e]; exact I.free
 ·obtain⟨_,o,ho,_⟩:=I.ok.o4.mem hb
  exact I.base.free b o ho (I.ok.frf b hb) fun z=>I.ok.exfs b z hb
theorem Inv.step {g':Array W8} {t':Nat} {d':Drawn} {ch:List Addr} (I:Inv X pins σ H s)
  (hch:∀ b∈ch,(b∈X.ex∨X.s₀.heap.objs.size<=b)/\b≠X.env.locals/\(∀ x c,X.env.cells.lookup x=some c->c≠b)/\∀ p∈X.pn++pins,p.1≠b)
  (keep:∀ b o,b≠X.env.locals->b ∉ X.fs->b ∉ ch->s.heap.get? b=some o->H b=none->h'.get? b=some o)
  (slot:∀ b o,b≠X.env.locals->b∈X.fs->b ∉ ch->s.heap.get? b=some o->H b=none->∃ sl,h'.get? b=some { o with slots:=sl }) (free:∀ b o,b ∉ ch->s.heap.get? b=some o->H b=none->H' b=none)
  (there:∀ b o,b ∉ ch->s.heap.get? b=some o->∃ o',h'.get? b=some o')
  (tups:∀ b xs,H b=some (.tup xs)->H' b=some (.tup xs)) (frzs:∀ b o u,H b=some (.frz o u)->H' b=some (.frz o u)) (tbls:∀ b ps,H b=some (.tbl ps)->∃ more,H' b=some (.tbl (ps++more)))
  (ns:∀ m,s.heap.Ns X.env.locals m->h'.Ns X.env.locals m) (hok:HOk X.prog X.w H' h') (hg:Vp g') :
  Inv X pins σ H' { s with heap:=h',gens:=g',drawn:=d',toks:=t' }:=by
 have neL:∀ b o,X.s₀.heap.get? b=some o->b≠X.env.locals:=fun b o e=>Pa (OD (O4 e) I.ok.above)
 have neC:∀ b o,X.s₀.heap.get? b=some o->b ∉ X.ex->b ∉ ch:=fun b o e hx hb=>by
  rcases (hch b hb).1 with z | z
  ·exact hx z
  ·exact absurd (OD (O4 e) z) (Qu _)
 have cellK:∀ x c,X.env.cells.lookup x=some c->∀ v,s.heap.IsCell c v->h'.IsCell c v:=fun x c e v ⟨o,ho,hd⟩=>by
  have nch:c ∉ ch:=fun z=>(hch c z).2.2.1 x c e rfl
  by_cases hc:c∈X.fs
  ·obtain⟨sl,q⟩:=slot c o (I.cne x c e) hc nch ho (I.freeC x c e)
   exact⟨_,q,hd⟩
  ·exact⟨o,keep c o (I.cne x c e) hc nch ho (I.freeC x c e),hd⟩
 refine⟨I.ok,I.os,hg,⟨fun b o e n hb hx=>?_,fun b o e n hb hx=>?_,fun b o e n hx=>?_,fun b o e hx=>?_,fun b xs e=>tups b xs (I.base.tups b xs e),fun b o xs e=>frzs b o xs (I.base.frzs b o xs e),fun b ps e=>?_⟩,?_,fun x c e=>?_,?_,fun x c e=>?_,fun p hp=>?_,hok,I.len⟩
 ·exact keep b o (neL b o e) hb (neC b o e hx) (I.base.keep b o e n hb hx) (I.base.free b o e n hx)
 ·obtain⟨sl,e1⟩:=I.base.slot b o e n hb hx
  obtain⟨sl',e2⟩:=slot b _ (neL b o e) hb (neC b o e hx) e1 (I.base.free b o e n hx)
  exact⟨sl',e2⟩
 ·obtain⟨o',e1⟩:=I.base.there b o e hx
  exact free b o' (neC b o e hx) e1 (I.base.free b o e n hx)
 ·obtain⟨o',e1⟩:=I.base.there b o e hx
  exact there b o' (neC b o e hx) e1
 ·obtain⟨m1,e1⟩:=I.base.tbls b ps e
  obtain⟨m2,e2⟩:=tbls b _ e1
  exact⟨m1++m2,by rw[e2,Vl]⟩
 ·obtain⟨m,hn,hl⟩:=I.loc
  refine⟨m,ns m hn,fun i x v e1 e2 e3=>?_⟩
  obtain⟨u,r,l⟩:=hl i x v e1 e2 e3
  refine⟨u,r,?_⟩
  rcases l with l | ⟨k,c,e,z⟩
  ·exact .inl l
  ·exact .inr ⟨k,c,e,cellK x c e _ z⟩
 ·obtain⟨v,z⟩:=I.cell x c e
  exact⟨v,cellK x c e v z⟩
 ·obtain⟨m,⟨o,_,_,ho,_⟩,_⟩:=I.loc
  exact free _ o (fun z=>(hch _ z).2.1 rfl) ho I.free
 ·obtain⟨v,o,ho,hd⟩:=I.cell x c e
  exact free c o (fun z=>(hch c z).2.2.1 x c e rfl) ho (I.freeC x c e)
 ·obtain⟨e,n,ne,nf,d⟩:=I.pin p hp
  have nch:p.1 ∉ ch:=fun z=>(hch p.1 z).2.2.2 p hp rfl
  exact⟨keep p.1 p.2 ne nf nch e n,free p.1 p.2 nch e n,ne,nf,d⟩
theorem Inv.un {t':Nat} (I:Inv X pins σ H s) (u:Un X.fs [] H H' s.heap h') (hok:HOk X.prog X.w H' h'):Inv X pins σ H' { s with heap:=h',toks:=t' }:=by
 obtain⟨m,⟨o,es,ep,ho,r⟩,_⟩:=id I.loc
 obtain⟨sl,hL⟩:=u.any ho I.free (by simp)
 exact I.step (g':=s.gens) (d':=s.drawn) (ch:=[]) (fun _ z=>nomatch z) (fun b o _ hb _ e n=>u.keep b o e n hb (by simp)) (fun b o _ hb _ e n=>u.slot b o e n hb (by simp)) (fun b o _ e n=>u.free b o e n (by simp)) (fun b o _ e=>u.there b o e (by simp)) u.tups u.frzs u.tbls (fun m' hm=>by
  obtain⟨o',es',ep',ho',r'⟩:=hm
  rw[ho] at ho'; cases ho'
  exact⟨_,es',ep',hL,r'⟩) hok I.bare
theorem Inv.call {g':Array W8} {t':Nat} {d':Drawn} {ch:List Addr} (I:Inv X pins σ H s) (u:Un (frs X.stack) ch H H' s.heap h') (hok:HOk X.prog X.w H' h') (hg:Vp g')
  (hch:∀ b∈ch,(b∈X.ex∨X.s₀.heap.objs.size<=b)/\b≠X.env.locals/\(∀ x c,X.env.cells.lookup x=some c->c≠b)/\∀ p∈X.pn++pins,p.1≠b) :
  Inv X pins σ H' { s with heap:=h',gens:=g',drawn:=d',toks:=t' }:=by
 obtain⟨m,⟨o,es,ep,ho,r⟩,_⟩:=id I.loc
 obtain⟨sl,hL⟩:=u.any ho I.free fun z=>(hch _ z).2.1 rfl
 exact I.step (ch:=ch) hch (fun b o hL hb hc e n=>u.keep b o e n (fun z=>(List.mem_cons.mp (I.pC b z)).elim hL hb) hc) (fun b o _ _ hc e n=>u.any e n hc) (fun b o hc e n=>u.free b o e n hc) (fun b o hc e=>u.there b o e hc) u.tups u.frzs u.tbls (fun m' hm=>by
  obtain⟨o',es',ep',ho',r'⟩:=hm
  rw[ho] at ho'; cases ho'
  exact⟨_,es',ep',hL,r'⟩) hok hg
theorem Inv.turned {t':Nat} {it:Addr} (I:Inv X pins σ H s) (k:∀ b o,b≠it->s.heap.get? b=some o->h'.get? b=some o) (hn:H it=none) (hL:it≠X.env.locals)
  (h1:it∈X.ex∨X.s₀.heap.objs.size<=it) (h2:∀ x c,X.env.cells.lookup x=some c->c≠it) (h3:∀ p∈X.pn++pins,p.1≠it):Inv X pins σ H { s with heap:=h',toks:=t' }:=by
 have nit:∀ b u,H b=some u->b≠it:=fun b u e z=>by rw[z,hn] at e; cases e
 refine I.step (g':=s.gens) (d':=s.drawn) (ch:=[it]) (fun b hb=>?_) (fun b o _ _ hc e _=>k b o (fun z=>hc (by simp [z])) e) (fun b o _ _ hc e _=>⟨o.slots,k b o (fun z=>hc (by simp [z])) e⟩) (fun _ _ _ _ n=>n)
  (fun b o hc e=>⟨o,k b o (fun z=>hc (by simp [z])) e⟩) (fun _ _ e=>e) (fun _ _ _ e=>e) (fun b ps e=>⟨#[],by rw[e]; simp⟩) (fun m hm=>?_) (fun b u e=>?_) I.bare
 ·have e:b=it:=by simpa using hb
  subst e
  exact⟨h1,hL,h2,h3⟩
 ·obtain⟨o,es,ep,ho,r⟩:=hm
  exact⟨o,es,ep,k _ o (QM hL) ho,r⟩
 ·refine (I.hok b u e).stay (fun c v hc q=>k c v ?_ q) (fun _ q=>q) fun _ _ q=>q
  rcases hc with z | z
  ·rw[z]; exact nit b u e
  ·exact nit c _ z
theorem Inv.tok (I:Inv X pins σ H s) (t:Nat):Inv X pins σ H { s with toks:=t }:=I.un (h':=s.heap) (t':=t) Un.refl I.hok
theorem Inv.kept {t':Nat} (I:Inv X pins σ H s) (k:∀ b u,s.heap.get? b=some u->h'.get? b=some u):Inv X pins σ H { s with heap:=h',toks:=t' }:=I.un (Un.kept k) (I.hok.kept k)
theorem Inv.laid {a:Addr} {o:HO} {t':Nat} (I:Inv X pins σ H s) (k:∀ b u,s.heap.get? b=some u->h'.get? b=some u) (hp:s.heap.objs.size<=a) (new:cU X.prog X.w (upd H a o) h' a o) :
  Inv X pins σ (upd H a o) { s with heap:=h',toks:=t' }:=I.un (Un.laid k hp (I.hok.fresh hp)) (I.hok.laid k hp new)
theorem Inv.write {x e:Addr} {o:HO} {t':Nat} (I:Inv X pins σ H s) (mu:Mut (H x)) (he:e=x∨H e=some (.own x)) (k:∀ b u,b≠e->s.heap.get? b=some u->h'.get? b=some u) (heo:∃ u,h'.get? e=some u)
  (new:cU X.prog X.w (upd H x o) h' x o):Inv X pins σ (upd H x o) { s with heap:=h',toks:=t' }:=I.un (Un.write mu he k heo) (I.hok.write mu he k heo new)
theorem Inv.zu {pins':List (Addr × Rx)} (I:Inv X pins σ H s) (h:∀ p∈pins',s.heap.get? p.1=some p.2/\H p.1=none/\p.1≠X.env.locals/\p.1 ∉ X.fs/\∀ v,p.2.data≠.cell v):Inv X pins' σ H s :=
 ⟨I.ok,I.os,I.bare,I.base,I.loc,I.cell,I.free,I.freeC,fun p hp=>(List.mem_append.mp hp).elim (fun z=>I.pin p (UT _ z)) (h p),I.hok,I.len⟩
theorem wK {N:List Px} (hN:N.Nodup) {i j:Nat} {x:Px} (a:N[i]? = some x) (b:N[j]? = some x):i=j:=by
 obtain⟨h1,e1⟩:=List.getElem?_eq_some_iff.mp a
 obtain⟨h2,e2⟩:=List.getElem?_eq_some_iff.mp b
 exact (List.getElem_inj hN).mp (e1.trans e2.symm)
theorem ur {M:Model} {A:Qc} {E:Value->Ov->Prop} {i:Nat} {x:Px} {v:V} {u:Value} {Q:Unit->Ov->Prop} (I:Inv X pins σ H s) (hN:X.N.Nodup) (hi:X.N[i]? = some x) (hx:Loc X.env.scope x) (r:RelV v u)
  (h:∀ s',Inv X pins (σ.set i (some v)) H s'->(∃ a,Sh a s.heap s'.heap/\(a=X.env.locals∨X.env.cells.lookup x=some a))->Q () s') (hf:X.fn x=true∨X.env.scope.names.lookup x=some .local:=by first | exact .inl rfl | exact .inr rfl | assumption):O3 M A (storeName X.env x u) Q E s:=by
 obtain⟨m,hn,hl⟩:=id I.loc
 have hcls:(X.env.scope.kind == .class || (X.env.scope.kind == .module && X.env.locals != X.env.globals))=false:=by rw[I.ok.kind]; rfl
 have hiσ:i < σ.length:=by rw[I.len]; exact (List.getElem?_eq_some_iff.mp hi).1
 have cne:=I.cne
 have tracked:∀ {a:Addr} {h':Qo},(∃ o,s.heap.get? a=some o/\H a=none)->Sh a s.heap h'->HOk X.prog X.w H h':=fun {a h'} ha hs b ob e=>by
  obtain⟨_,_,hfree⟩:=ha
  refine (I.hok b ob e).stay (fun c w' hc q=>(hs.2 c ?_).trans q) (fun _ q=>q) fun _ _ q=>q
  rintro rfl
  rcases hc with rfl | hc
  ·rw[hfree] at e; cases e
  ·rw[hfree] at hc; cases hc
 rcases hx with hk | hk
 ·refine wpAny_storeName_local hk hn (fun h' hn' hs=>?_) hcls
  obtain⟨oL,_,_,hoL,_⟩:=id hn
  refine h _ ⟨I.ok,I.os,I.bare,⟨fun b o e n hb hx=>?_,fun b o e n hb hx=>?_,I.base.free,fun b o e hx=>?_,I.base.tups,I.base.frzs,I.base.tbls⟩,⟨_,hn',fun j y v' e1 e2 e3=>?_⟩,fun y c e=>?_,I.free,I.freeC,fun p hp=>?_,tracked ⟨oL,hoL,I.free⟩ hs,by simpa using I.len⟩ ⟨_,hs,.inl rfl⟩
  ·exact (hs.2 b (Pa (OD (O4 e) I.ok.above))).trans (I.base.keep b o e n hb hx)
  ·obtain⟨sl,e1⟩:=I.base.slot b o e n hb hx
   exact⟨sl,(hs.2 b (Pa (OD (O4 e) I.ok.above))).trans e1⟩
  ·obtain⟨o',e1⟩:=I.base.there b o e hx
   exact⟨o',(hs.2 b (Pa (OD (O4 e) I.ok.above))).trans e1⟩
  ·by_cases hj:j=i
   ·subst hj
    rw[hi] at e1; cases e1
    rw[Ur hiσ] at e2
    cases e2
    exact⟨u,r,.inl ⟨hk,by simp⟩⟩
   ·rw[V8 (QM hj)] at e2
    obtain⟨u',r',q⟩:=hl j y v' e1 e2 e3
    refine⟨u',r',?_⟩
    rcases q with⟨k,e⟩ | ⟨k,c,e,z⟩
    ·refine .inl ⟨k,?_⟩
     have:y≠x:=fun e=>hj (wK hN e1 (e▸hi))
     simp [this,e]
    ·exact .inr ⟨k,c,e,z.sameBut hs (cne y c e)⟩
  ·obtain⟨w',z⟩:=I.cell y c e
   exact⟨w',z.sameBut hs (cne y c e)⟩
  ·obtain⟨e,n,ne,nf,d⟩:=I.pin p hp
   exact⟨(hs.2 p.1 ne).trans e,n,ne,nf,d⟩
 ·have hfn:X.fn x=true:=by
   rcases hf with z | z
   ·exact z
   ·rw[z] at hk; cases hk
  obtain⟨c,hc⟩:=I.ok.has x (.inl hk)
  obtain⟨w',z⟩:=I.cell x c hc
  refine wpAny_storeName_cell I.ok.kind hk hc z (fun h' hc' hs=>?_)
  obtain⟨oc,hoc,hocd⟩:=id z
  refine h { s with heap:=h' } ⟨I.ok,I.os,I.bare,⟨fun b o e n hb hx=>?_,fun b o e n hb hx=>?_,I.base.free,fun b o e hx=>?_,I.base.tups,I.base.frzs,I.base.tbls⟩,⟨m,hn.sameBut hs (QM (cne x c hc)),fun j y v' e1 e2 e3=>?_⟩,fun y c' e=>?_,I.free,I.freeC,fun p hp=>?_,tracked ⟨oc,hoc,I.freeC x c hc⟩ hs,by simpa using I.len⟩ ⟨c,hs,.inr hc⟩
  ·exact (hs.2 b (Pa (OD (O4 e) (I.ok.cab x c hfn hc)))).trans (I.base.keep b o e n hb hx)
  ·obtain⟨sl,e1⟩:=I.base.slot b o e n hb hx
   exact⟨sl,(hs.2 b (Pa (OD (O4 e) (I.ok.cab x c hfn hc)))).trans e1⟩
  ·obtain⟨o',e1⟩:=I.base.there b o e hx
   exact⟨o',(hs.2 b (Pa (OD (O4 e) (I.ok.cab x c hfn hc)))).trans e1⟩
  ·by_cases hj:j=i
   ·subst hj
    rw[hi] at e1; cases e1
    rw[Ur hiσ] at e2
    cases e2
    exact⟨u,r,.inr ⟨.inl hk,c,hc,hc'⟩⟩
   ·rw[V8 (QM hj)] at e2
    obtain⟨u',r',q⟩:=hl j y v' e1 e2 e3
    refine⟨u',r',?_⟩
    rcases q with q | ⟨k,c',e,z'⟩
    ·exact .inl q
    ·refine .inr ⟨k,c',e,z'.sameBut hs ?_⟩
     rintro rfl
     exact hj (wK hN e1 (I.ok.inj _ _ _ e hc▸hi))
  ·by_cases hcc:c'=c
   ·subst hcc; exact⟨_,hc'⟩
   ·obtain⟨w2,z2⟩:=I.cell y c' e
    exact⟨w2,z2.sameBut hs hcc⟩
  ·obtain⟨e,n,ne,nf,d⟩:=I.pin p hp
   refine⟨(hs.2 p.1 ?_).trans e,n,ne,nf,d⟩
   intro q
   rw[q,hoc] at e
   have q':oc=p.2:=Qh e
   exact d w' (by rw[← q']; exact hocd)
theorem qN {M:Model} {A:Qc} {E:Value->Ov->Prop} {i:Nat} {x:Px} {v:V} {u:Value} {Q:Unit->Ov->Prop} (I:Inv X pins σ H s) (hN:X.N.Nodup) (hi:X.N[i]? = some x) (hx:Loc X.env.scope x) (r:RelV v u)
  (h:∀ s',Inv X pins (σ.set i (some v)) H s'->Q () s') (hf:X.fn x=true∨X.env.scope.names.lookup x=some .local:=by first | exact .inl rfl | exact .inr rfl | assumption):O3 M A (storeName X.env x u) Q E s :=
 ur I hN hi hx r (fun s' I' _=>h s' I') hf
theorem Inv.call' {s':Ov} {ch:List Addr} (I:Inv X pins σ H s) (ho:s'.os=s.os) (u:Un (frs X.stack) ch H H' s.heap s'.heap) (hok:HOk X.prog X.w H' s'.heap) (hg:Vp s'.gens)
  (hch:∀ b∈ch,(b∈X.ex∨X.s₀.heap.objs.size<=b)/\b≠X.env.locals/\(∀ x c,X.env.cells.lookup x=some c->c≠b)/\∀ p∈X.pn++pins,p.1≠b):Inv X pins σ H' s':=by
 obtain⟨h',g',d',t',o'⟩:=s'
 have e:o'=s.os:=ho
 subst e
 exact I.call (g':=g') (t':=t') (d':=d') u hok hg hch
end
abbrev XK:=Value->Option Addr->Hp->Prop
abbrev St:=List (Option V)
abbrev VK:=V->Hp->Prop
abbrev TE:=St->Hp->VK->Prop
abbrev TT:=St->Hp->(Bool->Hp->Prop)->Prop
abbrev TA:=St->Hp->(List V->Hp->Prop)->Prop
structure Ends where
 nx:St->Hp->Prop
 rt:VK
 bk:St->Hp->Prop:=fun _ _=>False
 ct:St->Hp->Prop:=fun _ _=>False
abbrev TS:=Ends->St->Hp->Prop
inductive EP (X:Cx) (pins:List (Addr × Rx)) (σ:St) (Q:VK) (u:Value) (s':Ov):Prop where
 | mk (v:V) (H':Hp) (z0:Inv X pins σ H' s') (z1:RelV v u) (z2:Q v H'):EP X pins σ Q u s'
def TP (X:Cx) (pins:List (Addr × Rx)) (σ:St) (Q:Bool->Hp->Prop) (b:Bool) (s':Ov):Prop:=∃ H',Inv X pins σ H' s'/\Q b H'
inductive AP (X:Cx) (pins:List (Addr × Rx)) (σ:St) (Q:List V->Hp->Prop) (us:List Value) (s':Ov):Prop where
 | mk (vs:List V) (H':Hp) (z0:Inv X pins σ H' s') (z1:Vals vs us) (z2:Q vs H'):AP X pins σ Q us s'
def SP (X:Cx) (pins:List (Addr × Rx)) (D:Ends) (f:Flow) (s':Ov):Prop :=
 match f with
 | .next=>∃ σ' H',Inv X pins σ' H' s'/\D.nx σ' H'
 | .brk=>∃ σ' H',Inv X pins σ' H' s'/\D.bk σ' H'
 | .cont=>∃ σ' H',Inv X pins σ' H' s'/\D.ct σ' H'
 | .ret u=>∃ v σ' H',Inv X pins σ' H' s'/\RelV v u/\D.rt v H'
def PE (X:Cx) (e:Expr) (t:TE):Prop :=
 ∀ (pins:List (Addr × Rx)) (s:Ov) (σ:St) (H:Hp) (Q:VK),Inv X pins σ H s->t σ H Q->O3 (O5 X.prog X.w) X.A (QZ e X.env) (EP X pins σ Q) X.xe s
def PT (X:Cx) (e:Expr) (t:TT):Prop :=
 ∀ (pins:List (Addr × Rx)) (s:Ov) (σ:St) (H:Hp) (Q:Bool->Hp->Prop),Inv X pins σ H s->t σ H Q->O3 (O5 X.prog X.w) X.A (isTrue e X.env (QZ e X.env)) (TP X pins σ Q) X.xe s
def PW (X:Cx) (e:Expr) (t:TT):Prop :=
 ∀ (whole:Sem Value) (pins:List (Addr × Rx)) (s:Ov) (σ:St) (H:Hp) (Q:Bool->Hp->Prop),Inv X pins σ H s->t σ H Q->O3 (O5 X.prog X.w) X.A (isTrue e X.env whole) (TP X pins σ Q) X.xe s
theorem PW.pt {X:Cx} {e:Expr} {t:TT} (h:PW X e t):PT X e t:=h _
def PA (X:Cx) (es:List Expr) (t:TA):Prop :=
 ∀ (pos:Ut) (pins:List (Addr × Rx)) (s:Ov) (σ:St) (H:Hp) (Q:List V->Hp->Prop),Inv X pins σ H s->t σ H Q->O3 (O5 X.prog X.w) X.A (spliced (Rn pos (Pz es X.env))) (AP X pins σ Q) X.xe s
def PS (X:Cx) (st:Stmt) (t:TS):Prop :=
 ∀ (pins:List (Addr × Rx)) (s:Ov) (σ:St) (H:Hp) (D:Ends),Inv X pins σ H s->t D σ H->O3 (O5 X.prog X.w) X.A (exec st X.env) (SP X pins D) X.xe s
def PSs (X:Cx) (st:List Stmt) (t:TS):Prop :=
 ∀ (pins:List (Addr × Rx)) (s:Ov) (σ:St) (H:Hp) (D:Ends),Inv X pins σ H s->t D σ H->O3 (O5 X.prog X.w) X.A (execs st X.env) (SP X pins D) X.xe s
theorem thn {α:Type} {t:Sem α} {Q Q':α->Ov->Prop} {M:Model} {A:Qc} {E:Value->Ov->Prop} {s:Ov} (h:O3 M A t Q E s) (hQ:∀ a s,Q a s->Q' a s):O3 M A t Q' E s:=Qm h hQ fun _ _ x=>x
end L2
namespace L2
open PySem PySem.Spec PyProof.Rows
section
variable {X:Cx}
inductive ExB (x:V) (P:Bool->Prop):Prop where
 | mk (c:Bool) (z0:x = .bl c) (z1:P c):ExB x P
inductive Ke (i:Nat) (σ:St) (H:Hp) (Q:VK):Prop where
 | mk (v:V) (z0:σ[i]? = some (some v)) (z1:Q v H):Ke i σ H Q
def KN (i:Nat):TE:=fun σ H Q=>Ke i σ H Q
def tC (v:V):TE:=fun _ H Q=>Q v H
theorem Gu {i:Nat} {x:Px} {pos:Ut} (hN:X.N[i]? = some x) (hv:Vis X.env.scope x) (hd:(x == ("__debug__" : Px))=false:=by decide) (hcd:(x == ("__classdict__" : Px))=false:=by decide):PE X (.Name x pos) (KN i):=by
 intro pins s σ H Q I h
 obtain⟨v,e,h⟩:=h
 obtain⟨m,hn,hl⟩:=I.loc
 obtain⟨u,r,l⟩:=hl i x v hN e hv
 have fin:EP X pins σ Q u s:=⟨v,H,I,r,h⟩
 rcases l with⟨hk,hm⟩ | ⟨hk,c,hc,hcell⟩
 ·exact wpAny_Name (wpAny_loadName_local I.ok.kind hk hn hm fin) hd
 ·rcases hk with hk | hk
  ·exact wpAny_Name (wpAny_loadName_cell I.ok.kind hk hc hcell fin) hd
  ·exact wpAny_Name (wpAny_loadName_free I.ok.kind hk hc hcell fin hcd) hd
theorem az {i j pos}:PE X (.Constant (.int i) j pos) (tC (.int i)):=fun _ _ _ H _ I h=>wpAny_Constant_int ⟨.int i,H,I.tok _,⟨_,rfl⟩,h⟩
theorem eE {b j pos}:PE X (.Constant (.bool b) j pos) (tC (.bl b)):=fun _ _ _ H _ I h=>Constant_bool ⟨.bl b,H,I,rfl,h⟩
theorem K4 {j pos}:PE X (.Constant .none j pos) (tC .non):=fun _ _ _ H _ I h=>Constant_none ⟨.non,H,I,rfl,h⟩
theorem aO {x j pos}:PE X (.Constant (.str x) j pos) (tC (.str x)):=fun _ _ _ H _ I h=>Calls.Constant_str ⟨.str x,H,I.tok _,⟨_,rfl⟩,h⟩
def Gl (X:Cx) (x:Px):Prop:=X.env.kindOf x=some .globalImplicit
theorem gP {E:Value->Ov->Prop} {pins:List (Addr × Rx)} {s:Ov} {σ:St} {H:Hp} {x:Px} {u:Value} {pos:Ut} {Q:Value->Ov->Prop} (I:Inv X pins σ H s) (hg:Gl X x) (hm:X.mg x=some u) (h:Q u s)
  (hd:(x == ("__debug__" : Px))=false:=by decide):O3 (O5 X.prog X.w) X.A (QZ (.Name x pos) X.env) Q E s :=
 Calls.Name_function_global I.ok.kind hg (Calls.loadGlobal_global (by rw[I.ok.glob]; exact I.mod.glob.keeps I.bk) hm h) hd
theorem jO {E:Value->Ov->Prop} {pins:List (Addr × Rx)} {s:Ov} {σ:St} {H:Hp} {x:Px} {u:Value} {pos:Ut} {Q:Value->Ov->Prop} (I:Inv X pins σ H s) (hg:Gl X x) (hm:X.mg x=none) (hv:Qn x=some u) (h:Q u s)
  (hn:x≠"__name__":=by decide) (hd:(x == ("__debug__" : Px))=false:=by decide):O3 (O5 X.prog X.w) X.A (QZ (.Name x pos) X.env) Q E s:=by
 obtain⟨mb,h1,h2⟩:=I.mod.blt
 exact Calls.Name_function_global I.ok.kind hg (Calls.loadGlobal_builtin (by rw[I.ok.glob]; exact I.mod.glob.keeps I.bk) hm (by rw[I.ok.blt]; exact h1.keeps I.bk) ((h2 x hn).trans hv) h) hd
theorem HQ {x:Px} {v:V} {u:Value} {pos:Ut} (hg:Gl X x) (hm:X.mg x=some u) (r:RelV v u) (hd:(x == ("__debug__" : Px))=false:=by decide):PE X (.Name x pos) (tC v) :=
 fun _ _ _ H _ I h=>gP I hg hm ⟨v,H,I,r,h⟩ hd
theorem Hm {x:Px} {v:V} {u:Value} {pos:Ut} (hg:Gl X x) (hm:X.mg x=none) (hv:Qn x=some u) (r:RelV v u) (hn:x≠"__name__":=by decide) (hd:(x == ("__debug__" : Px))=false:=by decide):PE X (.Name x pos) (tC v) :=
 fun _ _ _ H _ I h=>jO I hg hm hv ⟨v,H,I,r,h⟩ hn hd
variable {a b:Expr} {ta tb:TE} {pos:Ut}
def PC (X:Cx) (op:CmpOp) (a b:Expr) (t:TE):Prop :=
 ∀ (pins:List (Addr × Rx)) (s:Ov) (σ:St) (H:Hp) (Q:VK),Inv X pins σ H s->t σ H Q →
  O3 (O5 X.prog X.w) X.A (QZ a X.env) (fun v s₁=>O3 (O5 X.prog X.w) X.A (QZ b X.env) (fun u s₂=>O3 (O5 X.prog X.w) X.A (Su op v u) (EP X pins σ Q) X.xe s₂) X.xe s₁) X.xe s
theorem wU (b:Expr) {op:CmpOp} (h:op≠.In) (h2:op≠.NotIn):Sv op b=false:=by
 have e1:(op == CmpOp.In)=false:=by cases op <;> first | rfl | exact absurd rfl h
 have e2:(op == CmpOp.NotIn)=false:=by cases op <;> first | rfl | exact absurd rfl h2
 cases b <;> simp [Sv,e1,e2]
def Ol (ta:TE):TE:=fun σ H Q=>ta σ H fun x H1=>Q (.bl (decide (x = .non))) H1
theorem RelV.EY {x:V} {v:Value} (r:RelV x v):(v == QJ)=decide (x = .non):=by
 cases x with
 | non=>cases r; rfl
 | bl _=>cases r; rfl
 | int _=>obtain⟨t,rfl⟩:=r; rfl
 | str _=>obtain⟨t,rfl⟩:=r; rfl
 | byt _=>obtain⟨t,rfl⟩:=r; rfl
 | flt _=>obtain⟨t,rfl⟩:=r; rfl
 | ref _=>cases r; rfl
 | ty _=>cases r; rfl
theorem Gy {j pos'} (ha:PE X a ta):PC X .Is a (.Constant .none j pos') (Ol ta):=by
 intro pins s σ H Q I h
 refine thn (ha pins s σ H _ I h) fun v s1 ⟨x,H1,I1,r1,q1⟩=>?_
 exact Constant_none (is_none_gen ⟨.bl _,H1,I1,by rw[r1.EY]; rfl,q1⟩)
def tB (t:TE):TT:=fun σ H Q=>t σ H fun x H1=>ExB x fun c=>Q c H1
theorem Jy {op:CmpOp} {t:TE} (h:PC X op a b t) (h1:Sv op b=false:=by first | exact wU _ (by decide) (by decide) | rfl):PE X (.Compare a [op] [b] pos) t:=fun pins s σ H Q I hw=>wpAny_Compare1 (h pins s σ H Q I hw) h1
theorem Kz {op:CmpOp} {t:TE} (h:PC X op a b t) (h1:Sv op b=false:=by first | exact wU _ (by decide) (by decide) | rfl):PT X (.Compare a [op] [b] pos) (tB t):=by
 intro pins s σ H Q I hw
 refine wpAny_isTrue_Compare1 (thn (h pins s σ H _ I hw) fun v s1 h1=>thn h1 fun u s2 h2=>thn h2 fun c s3 ⟨x,H1,I1,r1,q1⟩=>?_) h1
 obtain⟨d,rfl,q⟩:=q1
 cases r1
 exact Rh ⟨H1,I1,q⟩
theorem cI {e:Expr} {t:TE} (h:PE X e t) (he:∀ whole,isTrue e X.env whole=(do let v ← whole; Tu e.pos; T6 [v] (truthy v)):=by intro _; rfl):PT X e (tB t):=by
 intro pins s σ H Q I hw
 refine isTrue_plain (thn (h pins s σ H _ I hw) fun v s1 ⟨x,H1,I1,r1,q1⟩=>?_) (he _)
 obtain⟨d,rfl,q⟩:=q1
 cases r1
 exact Rh ⟨H1,I1,q⟩
variable {tA tB':TT} {rest:List Expr}
def Oj (t u:TT):TT:=fun σ H Q=>t σ H fun c H1=>if c=true then u σ H1 Q else Q false H1
def tOr (t u:TT):TT:=fun σ H Q=>t σ H fun c H1=>if c=true then Q true H1 else u σ H1 Q
def Oa (t:TT):TT:=fun σ H Q=>t σ H fun c H1=>Q (!c) H1
theorem G5 (ha:PT X a tA):PW X (.BoolOp .And [a] pos) tA:=by
 intro wh pins s σ H Q I h
 refine isTrue_and (thn (ha pins s σ H Q I h) fun c s1 e=>?_)
 cases c with
 | true=>exact isTrue_and_nil e
 | false=>exact e
theorem d9 (ha:PT X a tA):PW X (.BoolOp .Or [a] pos) tA:=by
 intro wh pins s σ H Q I h
 refine isTrue_or (thn (ha pins s σ H Q I h) fun c s1 e=>?_)
 cases c with
 | false=>exact isTrue_or_nil e
 | true=>exact e
theorem JC (ha:PT X a tA) (hb:PW X (.BoolOp .And (b::rest) pos) tB'):PW X (.BoolOp .And (a::b::rest) pos) (Oj tA tB'):=by
 intro wh pins s σ H Q I h
 refine isTrue_and (thn (ha pins s σ H _ I h) fun c s1 ⟨H1,I1,q1⟩=>?_)
 cases c with
 | true=>exact hb wh pins s1 σ H1 Q I1 q1
 | false=>exact⟨H1,I1,q1⟩
theorem gM (ha:PT X a tA) (hb:PW X (.BoolOp .Or (b::rest) pos) tB'):PW X (.BoolOp .Or (a::b::rest) pos) (tOr tA tB'):=by
 intro wh pins s σ H Q I h
 refine isTrue_or (thn (ha pins s σ H _ I h) fun c s1 ⟨H1,I1,q1⟩=>?_)
 cases c with
 | true=>exact⟨H1,I1,q1⟩
 | false=>exact hb wh pins s1 σ H1 Q I1 q1
theorem du (ha:PT X a tA):PT X (.UnaryOp .Not a pos) (Oa tA):=by
 intro pins s σ H Q I h
 exact isTrue_not (ha pins s σ H (fun c H1=>Q (!c) H1) I h)
def Mi (ta tb:TE):TE:=fun σ H Q=>ta σ H fun x H1=>ExB x fun c=>if c=true then tb σ H1 Q else Q (.bl false) H1
def Ob (ta tb:TE):TE:=fun σ H Q=>ta σ H fun x H1=>ExB x fun c=>if c=true then Q (.bl true) H1 else tb σ H1 Q
def Mj (ta:TE):TE:=fun σ H Q=>ta σ H fun x H1=>ExB x fun c=>Q (.bl (!c)) H1
theorem gF {op} {t:TE} (h:PE X a t):PE X (.BoolOp op [a] pos) t:=fun pins s σ H Q I hw=>BoolOp_one (h pins s σ H Q I hw)
theorem dF (ha:PE X a ta) (hb:PE X (.BoolOp .And (b::rest) pos) tb):PE X (.BoolOp .And (a::b::rest) pos) (Mi ta tb):=by
 intro pins s σ H Q I h
 refine BoolOp_and (thn (ha pins s σ H _ I h) fun v s1 ⟨x,H1,I1,r1,q1⟩=>?_)
 obtain⟨c,rfl,q1⟩:=q1
 cases r1
 refine Rh ?_
 cases c with
 | true=>exact hb pins s1 σ H1 Q I1 q1
 | false=>exact⟨.bl false,H1,I1,rfl,q1⟩
theorem Mh (ha:PE X a ta) (hb:PE X (.BoolOp .Or (b::rest) pos) tb):PE X (.BoolOp .Or (a::b::rest) pos) (Ob ta tb):=by
 intro pins s σ H Q I h
 refine BoolOp_or (thn (ha pins s σ H _ I h) fun v s1 ⟨x,H1,I1,r1,q1⟩=>?_)
 obtain⟨c,rfl,q1⟩:=q1
 cases r1
 refine Rh ?_
 cases c with
 | false=>exact hb pins s1 σ H1 Q I1 q1
 | true=>exact⟨.bl true,H1,I1,rfl,q1⟩
theorem K8 (ha:PE X a ta):PE X (.UnaryOp .Not a pos) (Mj ta):=by
 intro pins s σ H Q I h
 refine UnaryOp_ (thn (ha pins s σ H _ I h) fun v s1 ⟨x,H1,I1,r1,q1⟩=>?_)
 obtain⟨c,rfl,q1⟩:=q1
 cases r1
 exact not_of (Rh ⟨.bl (!c),H1,I1,rfl,q1⟩)
def tIf (t:TT) (ta tb:TE):TE:=fun σ H Q=>t σ H fun c H1=>if c=true then ta σ H1 Q else tb σ H1 Q
theorem pQ {c:Expr} (hc:PT X c tA) (ha:PE X a ta) (hb:PE X b tb):PE X (.IfExp c a b pos) (tIf tA ta tb):=by
 intro pins s σ H Q I h
 refine wpAny_IfExp (thn (hc pins s σ H _ I h) fun d s1 ⟨H1,I1,q1⟩=>?_)
 cases d with
 | true=>exact ha pins s1 σ H1 Q I1 q1
 | false=>exact hb pins s1 σ H1 Q I1 q1
end
end L2
namespace L2
open PySem PySem.Spec PyProof.Rows
def SqL (K:O1) (H:Hp) (a:Addr) (xs:List V):Prop :=
 Rd H a (.lst xs) ∨
  ∃ (o:Rx) (its:Array Value) (n:Nat),K.lookup a=some o/\o.cls = .type "list"/\o.dict=none/\o.data = .seq its n/\its.size<=sizeLine/\Vals xs its.toList
def SqT (K:O1) (H:Hp) (a:Addr) (xs:List V):Prop :=
 Rd H a (.tup xs) ∨
  ∃ (o:Rx) (its:Array Value) (n:Nat),K.lookup a=some o/\o.cls = .type "tuple"/\o.data = .seq its n/\its.size<=sizeLine/\Vals xs its.toList
def Od:Value->Option V
 | .none=>some .non
 | .bool b=>some (.bl b)
 | .int i _=>some (.int i)
 | .str x _=>some (.str x)
 | .bytes b _=>some (.byt b)
 | .float b _=>some (.flt b)
 | .ref a=>some (.ref a)
 | .type n=>some (.ty n)
 | _=>none
theorem RelV.abs {x:V} {u:Value} (r:RelV x u):Od u=some x:=by
 cases x with
 | non=>cases r; rfl
 | bl _=>cases r; rfl
 | int _=>obtain⟨t,rfl⟩:=r; rfl
 | str _=>obtain⟨t,rfl⟩:=r; rfl
 | byt _=>obtain⟨t,rfl⟩:=r; rfl
 | flt _=>obtain⟨t,rfl⟩:=r; rfl
 | ref _=>cases r; rfl
 | ty _=>cases r; rfl
theorem RelV.inj {x y:V} {u:Value} (r:RelV x u) (q:RelV y u):x=y:=Qh (r.abs.symm.trans q.abs)
theorem Vals.inj:∀ {xs ys:List V} {us:List Value},Vals xs us->Vals ys us->xs=ys
 | _,_,_,.nil,.nil=>rfl
 | _,_,_,.cons r t,.cons r' t'=>by rw[r.inj r',Vals.inj t t']
section
variable {X:Cx} {pins:List (Addr × Rx)} {σ:St} {H:Hp} {s:Ov} {a:Addr} {xs ys:List V}
theorem SqL.of {K:O1} (h:H a=some (.lst xs)):SqL K H a xs:=.inl (.inl h)
theorem SqT.of {K:O1} (h:H a=some (.tup xs)):SqT K H a xs:=.inl (.inl h)
theorem Inv.list (I:Inv X pins σ H s) (h:SqL X.K H a xs):∃ its:List Value,Vals xs its/\PlainL s.heap a its.toArray/\xs.length<=sizeLine:=by
 rcases h with h | ⟨o,its,n,hk,hc,hd,hs,hz,r⟩
 ·obtain⟨z,its,n,r,e⟩:=h.ok I.hok
  exact⟨its,r,⟨_,n,e,rfl,rfl,rfl⟩,z⟩
 ·refine⟨its.toList,r,⟨o,n,I.kIn a o hk,hc,hd,by simpa using hs⟩,?_⟩
  have e:=r.length
  simp only[Qk] at e
  lia
theorem Inv.tuple (I:Inv X pins σ H s) (h:SqT X.K H a xs):∃ its:List Value,Vals xs its/\IsTup s.heap a its.toArray/\xs.length<=sizeLine:=by
 rcases h with h | ⟨o,its,n,hk,hc,hs,hz,r⟩
 ·obtain⟨z,its,r,p⟩:=h.ok I.hok
  exact⟨its,r,p,z⟩
 ·refine⟨its.toList,r,⟨o,I.kIn a o hk,hc,n,by simpa using hs⟩,?_⟩
  have e:=r.length
  simp only[Qk] at e
  lia
theorem Inv.Fq (I:Inv X pins σ H s) (h:SqL X.K H a xs) (h':SqL X.K H a ys):xs=ys:=by
 obtain⟨its,r,⟨o,n,e,_,_,d⟩,_⟩:=I.list h
 obtain⟨its',r',⟨o',n',e',_,_,d'⟩,_⟩:=I.list h'
 rw[e] at e'; cases e'
 rw[d] at d'
 injection d' with d1 _
 have:its=its':=by simpa using congrArg Array.toList d1
 subst this
 exact r.inj r'
theorem Inv.rC (I:Inv X pins σ H s) (h:SqT X.K H a xs) (h':SqT X.K H a ys):xs=ys:=by
 obtain⟨its,r,⟨o,e,_,n,d⟩,_⟩:=I.tuple h
 obtain⟨its',r',⟨o',e',_,n',d'⟩,_⟩:=I.tuple h'
 rw[e] at e'; cases e'
 rw[d] at d'
 injection d' with d1 _
 have:its=its':=by simpa using congrArg Array.toList d1
 subst this
 exact r.inj r'
end
abbrev Cx.wish (X:Cx) (E:Value->Ov->Prop):Cx:={ X with xe:=E }
abbrev Cx.nox (X:Cx):Cx:=X.wish fun _ _=>False
theorem Cx.Ok.wish {X:Cx} (ok:X.Ok) (E:Value->Ov->Prop):(X.wish E).Ok :=
 ⟨ok.mod,ok.kind,ok.glob,ok.blt,ok.above,ok.inj,ok.has,ok.cab,ok.hd,ok.frames,ok.stk,ok.exf,ok.bs,ok.bsz,ok.noex,ok.exfs,ok.o4,ok.frf⟩
theorem Cx.Ok.lK {X:Cx} {E:Value->Ov->Prop} (ok:(X.wish E).Ok):X.Ok :=
 ⟨ok.mod,ok.kind,ok.glob,ok.blt,ok.above,ok.inj,ok.has,ok.cab,ok.hd,ok.frames,ok.stk,ok.exf,ok.bs,ok.bsz,ok.noex,ok.exfs,ok.o4,ok.frf⟩
section
variable {X:Cx} {pins:List (Addr × Rx)} {σ:St} {H:Hp} {s:Ov} {E:Value->Ov->Prop}
theorem Inv.wish (I:Inv X pins σ H s) (E:Value->Ov->Prop):Inv (X.wish E) pins σ H s:=⟨I.ok.wish E,I.os,I.bare,I.base,I.loc,I.cell,I.free,I.freeC,I.pin,I.hok,I.len⟩
theorem Inv.lK (I:Inv (X.wish E) pins σ H s):Inv X pins σ H s:=⟨I.ok.lK,I.os,I.bare,I.base,I.loc,I.cell,I.free,I.freeC,I.pin,I.hok,I.len⟩
theorem SP.lK {D:Ends} {f:Flow} {s':Ov} (h:SP (X.wish E) pins D f s'):SP X pins D f s':=by
 cases f with
 | next=>obtain⟨σ',H',I,q⟩:=h; exact⟨σ',H',I.lK,q⟩
 | brk=>obtain⟨σ',H',I,q⟩:=h; exact⟨σ',H',I.lK,q⟩
 | cont=>obtain⟨σ',H',I,q⟩:=h; exact⟨σ',H',I.lK,q⟩
 | ret u=>obtain⟨v,σ',H',I,r,q⟩:=h; exact⟨v,σ',H',I.lK,r,q⟩
theorem PSs.nox {st:List Stmt} {t:TS} (h:PSs X.nox st t):PSs X st t:=fun pins s σ H D I hw =>
 Qm (h pins s σ H D (I.wish _) hw) (fun _ _ q=>q.lK) fun _ _ z=>Qi z
end
section
variable {X:Cx} {st:Stmt} {rest:List Stmt} {t u:TS} {e:Expr} {te:TE} {pos:Ut}
def JF:TS:=fun D σ H=>D.nx σ H
def Np (t u:TS):TS:=fun D σ H=>t { D with nx:=u D } σ H
theorem aH:PSs X [] JF:=fun _ _ σ H _ I h=>VN ⟨σ,H,I,h⟩
theorem aj (h1:PS X st t) (h2:PSs X rest u):PSs X (st::rest) (Np t u):=by
 intro pins s σ H D I h
 refine wpAny_execs_cons (thn (h1 pins s σ H { D with nx:=u D } I h) fun f s1 q=>?_)
 cases f with
 | next =>
  obtain⟨σ',H',I',q⟩:=q
  exact h2 pins s1 σ' H' D I' q
 | ret v=>exact q
 | brk=>exact q
 | cont=>exact q
theorem aq (h1:PS X st t):PSs X [st] t:=by
 intro pins s σ H D I h
 refine wpAny_execs_cons (thn (h1 pins s σ H D I h) fun f s1 q=>?_)
 cases f with
 | next=>exact VN q
 | ret v=>exact q
 | brk=>exact q
 | cont=>exact q
theorem Inv.quiet {pins:List (Addr × Rx)} {σ:St} {H:Hp} {s:Ov} (I:Inv X pins σ H s):interactive X.env=false:=by simp [interactive,I.ok.kind]
def Ml (te:TE):TS:=fun D σ H=>te σ H fun _ H1=>D.nx σ H1
theorem cj (he:PE X e te) (hs:V9 e none pos.line X.env=pure false:=by rfl):PS X (.Expr e pos) (Ml te):=by
 intro pins s σ H D I h
 exact wpAny_Expr_any (thn (he pins s σ H _ I h) fun v s1 ⟨x,H1,I1,r1,q1⟩=>⟨σ,H1,I1,q1⟩) I.quiet hs
def Nk (te:TE):TS:=fun D σ H=>te σ H D.rt
theorem aJ (he:PE X e te):PS X (.Return (some e) pos) (Nk te):=by
 intro pins s σ H D I h
 exact wpAny_Return_some (thn (he pins s σ H _ I h) fun v s1 ⟨x,H1,I1,r1,q1⟩=>⟨x,σ,H1,I1,r1,q1⟩)
def Nf (c:TT) (t u:TS):TS:=fun D σ H=>c σ H fun b H1=>if b=true then t D σ H1 else u D σ H1
theorem aY {c:Expr} {a b:List Stmt} {tc:TT} (hc:PT X c tc) (ha:PSs X a t) (hb:PSs X b u):PS X (.If c a b pos) (Nf tc t u):=by
 intro pins s σ H D I h
 refine wpAny_If (thn (hc pins s σ H _ I h) fun d s1 ⟨H1,I1,q1⟩=>?_)
 cases d with
 | true=>exact ha pins s1 σ H1 D I1 q1
 | false=>exact hb pins s1 σ H1 D I1 q1
def Js:TS:=fun _ _ _=>False
theorem dN:PS X st Js:=fun _ _ _ _ _ _ h=>h.elim
end
abbrev TG:=V->St->Hp->(St->Hp->Prop)->Prop
abbrev TGs:=List V->St->Hp->(St->Hp->Prop)->Prop
def PG (X:Cx) (target:Expr) (t:TG):Prop :=
 ∀ (pins:List (Addr × Rx)) (s:Ov) (σ:St) (H:Hp) (v:V) (u:Value) (Q:St->Hp->Prop),Inv X pins σ H s->RelV v u->t v σ H Q →
  O3 (O5 X.prog X.w) X.A (VF target X.env u) (fun _ s'=>∃ σ' H',Inv X pins σ' H' s'/\Q σ' H') X.xe s
def PGs (X:Cx) (ts:List Expr) (t:TGs):Prop :=
 ∀ (pins:List (Addr × Rx)) (s:Ov) (σ:St) (H:Hp) (vs:List V) (us:List Value) (Q:St->Hp->Prop),Inv X pins σ H s->Vals vs us->t vs σ H Q →
  O3 (O5 X.prog X.w) X.A (assignInOrder ((Uy ts X.env).map (·.2)) us) (fun _ s'=>∃ σ' H',Inv X pins σ' H' s'/\Q σ' H') X.xe s
abbrev MT:=V->V->V->Hp->(Hp->Prop)->Prop
def Ni (X:Cx) (t:MT):Prop :=
 ∀ (pins:List (Addr × Rx)) (s:Ov) (σ:St) (H:Hp) (o i v:V) (ov iv u:Value) (Q:Hp->Prop),Inv X pins σ H s->RelV o ov->RelV i iv->RelV v u->t o i v H Q →
  O3 (O5 X.prog X.w) X.A (setItem ov iv u) (fun _ s'=>∃ H',Inv X pins σ H' s'/\Q H') X.xe s
section
variable {X:Cx} {pos:Ut}
def vR (i:Nat):TG:=fun v σ H Q=>Q (σ.set i (some v)) H
theorem aP {i:Nat} {x:Px} (hN:X.N.Nodup) (hi:X.N[i]? = some x) (hx:Loc X.env.scope x) (hf:X.fn x=true∨X.env.scope.names.lookup x=some .local:=by first | exact .inl rfl | exact .inr rfl | assumption):PG X (.Name x pos) (vR i):=by
 intro pins s σ H v u Q I r h
 exact wpAny_assign_Name (qN I hN hi hx r (fun s' I'=>⟨_,H,I',h⟩) hf)
def N5:TGs:=fun vs σ H Q=>vs=[]/\Q σ H
inductive Ga (t:TG) (u:TGs) (vs:List V) (σ:St) (H:Hp) (Q:St->Hp->Prop):Prop where
 | mk (v:V) (r:List V) (z0:vs=v::r) (z1:t v σ H fun σ' H'=>u r σ' H' Q):Ga t u vs σ H Q
def Ln (t:TG) (u:TGs):TGs:=fun vs σ H Q=>Ga t u vs σ H Q
theorem d7:PGs X [] N5:=by
 intro pins s σ H vs us Q I r h
 obtain⟨e,h⟩:=h
 subst e
 cases r
 exact assignInOrder_nil ⟨σ,H,I,h⟩
theorem aZ {e:Expr} {es:List Expr} {t:TG} {u:TGs} (h1:PG X e t) (h2:PGs X es u)
  (hs:(Uy (e::es) X.env).map (·.2)=VF e X.env::(Uy es X.env).map (·.2):=by rfl):PGs X (e::es) (Ln t u):=by
 intro pins s σ H vs us Q I r h
 obtain⟨v,vr,e1,h⟩:=h
 subst e1
 cases r with
 | cons r rr =>
  rw[hs]
  refine assignInOrder_cons (thn (h1 pins s σ H _ _ _ I r h) fun _ s1 ⟨σ1,H1,I1,q1⟩=>?_)
  exact h2 pins s1 σ1 H1 _ _ Q I1 rr q1
inductive J2 (K:O1) (n:Nat) (t:TGs) (v:V) (σ:St) (H:Hp) (Q:St->Hp->Prop):Prop where
 | mk (a:Addr) (xs:List V) (z0:v = .ref a) (z1:SqT K H a xs) (z2:xs.length=n) (z3:t xs σ H Q):J2 K n t v σ H Q
def M9 (K:O1) (n:Nat) (t:TGs):TG:=fun v σ H Q=>J2 K n t v σ H Q
theorem Ju {es:List Expr} {k:Nat} {t:TGs} {n:Nat} (hc:X.calm=true) (h:PGs X es t)
  (hn:(Uy es X.env).length=n:=by rfl) (hst:(Uy es X.env).findIdx? (·.1)=none:=by rfl):PG X (.Tuple es k pos) (M9 X.K n t):=by
 intro pins s σ H v u Q I r hw
 obtain⟨a,xs,e1,hq,hl,hw⟩:=hw
 subst e1
 cases r
 obtain⟨its,rv,ht,hz⟩:=I.tuple hq
 refine assign_Tuple_tuple (I.ok.hd hc) ht (by simp [hn,← hl,rv.length]) hst fun h' hx=>?_
 have I1:Inv X pins σ H { s with heap:=h' }:=I.kept (t':=s.toks) fun b o e=>hx b o (Pa (O4 e)) e
 exact h pins _ σ H xs _ Q I1 (by simpa using rv) hw
def NP (to ti:TE) (t:MT):TG:=fun v σ H Q=>to σ H fun o H1=>ti σ H1 fun i H2=>t o i v H2 fun H3=>Q σ H3
theorem Gx {o i:Expr} {to ti:TE} {t:MT} (ho:PE X o to) (hi:PE X i ti) (hs:Ni X t)
  (ha:∀ v,VF (.Subscript o i pos) X.env v=(do
   let ov ← T6 [v] (QZ o X.env)
   let iv ← T6 [v,ov] (QZ i X.env)
   Tu pos
   T6 [v,ov,iv] (setItem ov iv v)
   release [v,ov,iv] []):=by intro _; rfl):PG X (.Subscript o i pos) (NP to ti t):=by
 intro pins s σ H v u Q I r h
 rw[ha]
 refine Ou (QC (thn (ho pins s σ H _ I h) fun ov s1 ⟨x,H1,I1,r1,q1⟩=>?_))
 refine Ou (QC (thn (hi pins s1 σ H1 _ I1 q1) fun iv s2 ⟨y,H2,I2,r2,q2⟩=>?_))
 refine Ou (RK (Ou (QC (thn (hs pins s2 σ H2 x y v ov iv u _ I2 r1 r2 r q2) fun _ s3 ⟨H3,I3,q3⟩=>?_))))
 exact wpAny_release ⟨σ,H3,I3,q3⟩
def M7 (te:TE) (g:TG):TS:=fun D σ H=>te σ H fun x H1=>g x σ H1 D.nx
theorem rY {tg e:Expr} {te:TE} {g:TG} (he:PE X e te) (hg:PG X tg g) (hs:swapsWithSole [tg] e pos.line X.env=pure false:=by rfl) (hw:swappedStores [tg] e X.env=pure none:=by rfl)
  (h1:(Uy [tg] X.env).map (·.2)=[VF tg X.env]:=by rfl):PS X (.Assign [tg] e pos) (M7 te g):=by
 intro pins s σ H D I h
 refine wpAny_Assign_stores (thn (he pins s σ H _ I h) fun v s1 ⟨x,H1,I1,r1,q1⟩=>?_) hs hw
 rw[h1]
 exact thn (hg pins s1 σ H1 x v _ I1 r1 q1) fun _ s2 q=>q
theorem bh {i:Nat} {x:Px} {e:Expr} {te:TE} {pos':Ut} (hN:X.N.Nodup) (hi:X.N[i]? = some x) (hx:Loc X.env.scope x) (he:PE X e te) (hs:V9 e (some (.Name x pos')) pos.line X.env=pure false:=by rfl) (hf:X.fn x=true∨X.env.scope.names.lookup x=some .local:=by first | exact .inl rfl | exact .inr rfl | assumption) :
  PS X (.Assign [.Name x pos'] e pos) (M7 te (vR i)):=by
 intro pins s σ H D I h
 refine wpAny_Assign_Name (thn (he pins s σ H _ I h) fun v s1 ⟨y,H1,I1,r1,q1⟩=>?_) hs
 exact qN I1 hN hi hx r1 (fun s2 I2=>⟨_,H1,I2,q1⟩) hf
end
section
variable {X:Cx} {pos:Ut}
end
structure It where
 go:Nat->Hp->Prop
 yld:Nat->Hp->V->Hp->Prop
 stop:Nat->Hp->Prop
def vZ (X:Cx) (pins:List (Addr × Rx)) (H:Hp) (b:Addr):Prop :=
 H b=none/\b≠X.env.locals/\b ∉ X.fs/\(b∈X.ex∨X.s₀.heap.objs.size<=b)/\(∀ x c,X.env.cells.lookup x=some c->c≠b)/\∀ p∈X.pn++pins,p.1≠b
theorem Inv.Jm {X:Cx} {pins:List (Addr × Rx)} {σ:St} {H H':Hp} {s:Ov} {b:Addr} (I:Inv X pins σ H s) (hb:s.heap.objs.size<=b) (hn:H' b=none):vZ X pins H' b:=by
 refine⟨hn,Tz (OD I.lt hb),I.Oc hb,.inr (PX I.sz hb),fun x c e z=>?_,fun p hp z=>?_⟩
 ·obtain⟨v,q⟩:=I.cell x c e
  exact absurd (OD q.lt (by rw[z]; exact hb)) (Qu _)
 ·exact absurd (OD (O4 (I.pin p hp).1) (by rw[z]; exact hb)) (Qu _)
structure Turn (P:O9) (w:Qd) (K:O1) (tg:Expr) (J:It) (fp:List Addr) (it:Addr) (tn:Nat->Qo->Prop):Prop where
 mem:it∈fp
 obj:∀ i h,tn i h->∀ b∈fp,∃ o,h.get? b=some o/\∀ v,o.data≠.cell v
 keep:∀ i h h',tn i h->(∀ b∈fp,∀ o,h.get? b=some o->h'.get? b=some o)->tn i h'
 item:∀ (X:Cx),X.prog=P->X.w=w->X.K=K->X.calm=true->∀ (i:Nat) (pins:List (Addr × Rx)) (s:Ov) (σ:St) (H:Hp) (E:Value->Ov->Prop),Inv X pins σ H s->(∀ b∈fp,vZ X pins H b)->tn i s.heap->J.go i H →
  O3 (O5 P w) X.A (Sy (.ref it)) (fun r s1=>∃ u,r=some u ∧
   O3 (O5 P w) X.A (RP tg (.ref it) u) (fun _ s2=>∃ x H',Inv X pins σ H' s2/\RelV x u/\J.yld i H x H'/\tn (i+1) s2.heap/\∀ b∈fp,H' b=none) E s1) E s
 done:∀ (X:Cx),X.prog=P->X.w=w->X.K=K->X.calm=true->∀ (i:Nat) (pins:List (Addr × Rx)) (s:Ov) (σ:St) (H:Hp) (E:Value->Ov->Prop),Inv X pins σ H s->(∀ b∈fp,vZ X pins H b)->tn i s.heap->J.stop i H →
  O3 (O5 P w) X.A (Sy (.ref it)) (fun r s1=>r=none/\Inv X pins σ H s1) E s
 self:∀ (A:Qc) (i:Nat) (s:Ov) (Q:Value->Ov->Prop) (E:Value->Ov->Prop),tn i s.heap->Q (.ref it) s->O3 (O5 P w) A (V5 (.ref it)) Q E s
abbrev TI:=St->Hp->(It->Hp->Prop)->Prop
def PIE (X:Cx) (pins:List (Addr × Rx)) (σ:St) (tg:Expr) (R:It->Hp->Prop) (itv:Value) (s2:Ov):Prop :=
 ∃ (it:Addr) (fp:List Addr) (tn:Nat->Qo->Prop) (J:It) (H':Hp),itv = .ref it/\Inv X pins σ H' s2/\Turn X.prog X.w X.K tg J fp it tn/\tn 0 s2.heap/\(∀ b∈fp,vZ X pins H' b)/\R J H'
def PI (X:Cx) (tg iter:Expr) (wi:TI):Prop :=
 ∀ (pins:List (Addr × Rx)) (s:Ov) (σ:St) (H:Hp) (R:It->Hp->Prop),Inv X pins σ H s->wi σ H R →
  O3 (O5 X.prog X.w) X.A (QZ iter X.env) (fun v s1=>O3 (O5 X.prog X.w) X.A (V5 v) (PIE X pins σ tg R) X.xe s1) X.xe s
theorem En {M : Model} {A : Qc} {E : Value → Ov → Prop} {s : Ov} {tg : Expr} {it : Addr} {u : Value} {o : Rx} {n : String} {vs : Array Value} {Q : Unit → Ov → Prop} (ho : s.heap.get? it = some o) (hc : o.cls = .type n) (hd : o.data = .fields vs)
    (hn : ["enumerate", "zip", "dict_itemiterator", "dict_reverseitemiterator", "odict_iterator", "itertools.zip_longest", "itertools.pairwise"].contains n = false) (hQ : Q () s) : O3 M A (RP tg (.ref it) u) Q E s := by
  unfold RP
  cases tg <;> first
    | exact Oz hQ
    | (cases u <;> first
        | exact Oz hQ
        | (refine Ou (wpAny_load ho ?_)
           rw [hc, hd]
           show O3 M A (if (["enumerate", "zip", "dict_itemiterator", "dict_reverseitemiterator", "odict_iterator", "itertools.zip_longest", "itertools.pairwise"].contains n && vs[0]? == some (Qp _)) = true then _ else _) Q E s
           rw [if_neg (by intro h; rw [hn, Tr] at h; cases h)]
           exact Oz hQ))
def Itl (K:O1) (a:Addr):It :=
 ⟨fun i H=>∃ xs x,SqL K H a xs/\xs[i]? = some x,fun i H x H'=>H'=H/\∀ xs,SqL K H a xs->xs[i]? = some x,fun i H=>∃ xs,SqL K H a xs/\xs.length<=i⟩
def Itt (K:O1) (a:Addr):It :=
 ⟨fun i H=>∃ xs x,SqT K H a xs/\xs[i]? = some x,fun i H x H'=>H'=H/\∀ xs,SqT K H a xs->xs[i]? = some x,fun i H=>∃ xs,SqT K H a xs/\xs.length<=i⟩
def Itr (lo:Int) (n:Nat):It:=⟨fun i _=>i < n,fun i H x H'=>H'=H/\x = .int (lo+i),fun i _=>n<=i⟩
theorem Dn {P:O9} {w:Qd} {K:O1} {tg:Expr} (a it:Addr):Turn P w K tg (Itl K a) [it] it (fun i h=>h.IsListIter it a i) where
 mem:=by simp
 obj:=fun i h st b hb=>by
  have e:b=it:=by simpa using hb
  subst e
  obtain⟨o,e,c,d⟩:=st
  exact⟨o,e,fun v z=>by rw[d] at z; cases z⟩
 keep:=fun i h h' st k=>st.at fun o e=>k it (by simp) o e
 item:=by
  intro X hP hw hK hc i pins s σ H E I hf st hg
  subst hP hw hK
  obtain⟨xs,x,hq,hx⟩:=hg
  obtain⟨its,rv,p,hz⟩:=I.list hq
  obtain⟨u,hu,ru⟩:=rv.get hx
  obtain⟨f0,f1,f2,f3,f4,f5⟩:=hf it (by simp)
  refine wpAny_pyNext_list_item st p.isList (x:=u) (by simpa using hu) fun h' st' sb=>?_
  have I1:Inv X pins σ H { s with heap:=h' }:=I.turned (t':=s.toks) (fun b o hb e=>(sb.2 b hb).trans e) f0 f1 f3 f4 f5
  obtain⟨o,e,c,d⟩:=id st'
  exact⟨u,rfl,En (s:={ s with heap:=h' }) e c d (by decide) ⟨x,H,I1,ru,⟨rfl,fun ys hy=>by rw[I.Fq hy hq]; exact hx⟩,st',fun b hb=>(hf b hb).1⟩⟩
 done:=by
  intro X hP hw hK hc i pins s σ H E I hf st hg
  subst hP hw hK
  obtain⟨xs,hq,hx⟩:=hg
  obtain⟨its,rv,p,hz⟩:=I.list hq
  obtain⟨f0,f1,f2,f3,f4,f5⟩:=hf it (by simp)
  have hl:=rv.length
  exact wpAny_pyNext_list_end (I.ok.hd hc) st p.isList (by simp; lia) fun h' eb=>⟨rfl,I.turned (t':=s.toks) (fun b o hb e=>eb b o hb e) f0 f1 f3 f4 f5⟩
 self:=fun _ _ _ _ _ st h=>wpAny_pyIter_listiter st h
theorem yE {P:O9} {w:Qd} {K:O1} {tg:Expr} (a it:Addr):Turn P w K tg (Itt K a) [it] it (fun i h=>h.IsTupleIter it a i) where
 mem:=by simp
 obj:=fun i h st b hb=>by
  have e:b=it:=by simpa using hb
  subst e
  obtain⟨o,e,c,d⟩:=st
  exact⟨o,e,fun v z=>by rw[d] at z; cases z⟩
 keep:=fun i h h' st k=>st.at fun o e=>k it (by simp) o e
 item:=by
  intro X hP hw hK hc i pins s σ H E I hf st hg
  subst hP hw hK
  obtain⟨xs,x,hq,hx⟩:=hg
  obtain⟨its,rv,p,hz⟩:=I.tuple hq
  obtain⟨u,hu,ru⟩:=rv.get hx
  obtain⟨f0,f1,f2,f3,f4,f5⟩:=hf it (by simp)
  refine wpAny_pyNext_tuple_item st (show s.heap.IsTuple a its.toArray from p) (x:=u) (by simpa using hu) fun h' st' sb=>?_
  have I1:Inv X pins σ H { s with heap:=h' }:=I.turned (t':=s.toks) (fun b o hb e=>(sb.2 b hb).trans e) f0 f1 f3 f4 f5
  obtain⟨o,e,c,d⟩:=id st'
  exact⟨u,rfl,En (s:={ s with heap:=h' }) e c d (by decide) ⟨x,H,I1,ru,⟨rfl,fun ys hy=>by rw[I.rC hy hq]; exact hx⟩,st',fun b hb=>(hf b hb).1⟩⟩
 done:=by
  intro X hP hw hK hc i pins s σ H E I hf st hg
  subst hP hw hK
  obtain⟨xs,hq,hx⟩:=hg
  obtain⟨its,rv,p,hz⟩:=I.tuple hq
  obtain⟨f0,f1,f2,f3,f4,f5⟩:=hf it (by simp)
  have hl:=rv.length
  exact wpAny_pyNext_tuple_end (I.ok.hd hc) st (show s.heap.IsTuple a its.toArray from p) (by simp; lia) fun h' eb=>⟨rfl,I.turned (t':=s.toks) (fun b o hb e=>eb b o hb e) f0 f1 f3 f4 f5⟩
 self:=fun _ _ _ _ _ st h=>wpAny_pyIter_tupleiter st h
theorem yl {P:O9} {w:Qd} {K:O1} {tg:Expr} (it:Addr) (lo:Int) (n:Nat):Turn P w K tg (Itr lo n) [it] it (fun i h=>IsRangeIter h it (lo+(i:Nat) * 1) ((n:Int) - (i:Nat)) 1) where
 mem:=by simp
 obj:=fun i h st b hb=>by
  have e:b=it:=by simpa using hb
  subst e
  exact⟨_,st,fun v z=>by
   have z':Data.fields _=Data.cell v:=z
   cases z'⟩
 keep:=fun i h h' st k=>k it (by simp) _ st
 item:=by
  intro X hP hw hK hc i pins s σ H E I hf st hg
  subst hP hw hK
  obtain⟨f0,f1,f2,f3,f4,f5⟩:=hf it (by simp)
  have W:=Walks.range (prog:=X.prog) (w:=X.w) (I.ok.hd hc) it lo 1 n
  refine W.item i s _ _ hg st fun v h' tk hv st' kk=>?_
  obtain⟨t,rfl⟩:=hv
  have I1:Inv X pins σ H { s with heap:=h',toks:=tk }:=I.turned (fun b o hb e=>kk b o (by simpa using hb) e) f0 f1 f3 f4 f5
  refine⟨_,rfl,En (s:={ s with heap:=h',toks:=tk }) (n:="range_iterator") st' rfl rfl (by decide) ⟨.int (lo+i),H,I1,⟨t,?_⟩,⟨rfl,rfl⟩,st',fun b hb=>(hf b hb).1⟩⟩
  rw[Int.mul_one]
 done:=by
  intro X hP hw hK hc i pins s σ H E I hf st hg
  subst hP hw hK
  obtain⟨f0,f1,f2,f3,f4,f5⟩:=hf it (by simp)
  exact wpAny_pyNext_range_end (I.ok.hd hc) st (by have:n<=i:=hg; lia) fun h' eb=>⟨rfl,I.turned (t':=s.toks) (fun b o hb e=>eb b o hb e) f0 f1 f3 f4 f5⟩
 self:=fun _ _ _ _ _ st h=>wpAny_pyIter_rangeiter st h
end L2
namespace L2
open PySem PySem.Spec PyProof.Rows
section
variable {X:Cx} {tg:Expr}
def GZ (K:O1) (tl:TE):TI:=fun σ H R=>tl σ H fun x H1=>∃ a,x = .ref a/\(∃ xs,SqL K H1 a xs)/\R (Itl K a) H1
def N8 (K:O1) (tl:TE):TI:=fun σ H R=>tl σ H fun x H1=>∃ a,x = .ref a/\(∃ xs,SqT K H1 a xs)/\R (Itt K a) H1
theorem dh {l:Expr} {tl:TE} (hl:PE X l tl):PI X tg l (GZ X.K tl):=by
 intro pins s σ H R I h
 refine thn (hl pins s σ H _ I h) fun v s1 ⟨x,H1,I1,r1,q1⟩=>?_
 obtain⟨a,e,⟨xs,hq⟩,q⟩:=q1
 subst e
 cases r1
 obtain⟨its,rv,p,hz⟩:=I1.list hq
 refine Uj p.isList ?_
 refine⟨s1.heap.objs.size,[s1.heap.objs.size],_,_,H1,rfl,I1.kept (t':=s1.toks) fun b o e=>Ox _ e,Dn a _,⟨_,O6 _ rfl,rfl,rfl⟩,fun b hb=>?_,q⟩
 have e:b=s1.heap.objs.size:=by simpa using hb
 subst e
 exact I1.Jm (OJ _) (I1.hok.fresh (OJ _))
theorem c7 {l:Expr} {tl:TE} (hl:PE X l tl):PI X tg l (N8 X.K tl):=by
 intro pins s σ H R I h
 refine thn (hl pins s σ H _ I h) fun v s1 ⟨x,H1,I1,r1,q1⟩=>?_
 obtain⟨a,e,⟨xs,hq⟩,q⟩:=q1
 subst e
 cases r1
 obtain⟨its,rv,p,hz⟩:=I1.tuple hq
 refine wpAny_pyIter_tuple (show s1.heap.IsTuple a its.toArray from p) ?_
 refine⟨s1.heap.objs.size,[s1.heap.objs.size],_,_,H1,rfl,I1.kept (t':=s1.toks) fun b o e=>Ox _ e,yE a _,⟨_,O6 _ rfl,rfl,rfl⟩,fun b hb=>?_,q⟩
 have e:b=s1.heap.objs.size:=by simpa using hb
 subst e
 exact I1.Jm (OJ _) (I1.hok.fresh (OJ _))
theorem DW {pins:List (Addr × Rx)} {σ:St} {H:Hp} {s:Ov} {R:It->Hp->Prop} {E:Value->Ov->Prop} {lo hi:Int} {t u v:Xu} {tk:Nat} (I:Inv X pins σ H s) (h1 : -(2 ^ 62)<=lo) (h2:lo < 2 ^ 62) (h3 : -(2 ^ 62)<=hi) (h4:hi < 2 ^ 62)
  (q:R (Itr lo (hi - lo).toNat) H):O3 (O5 X.prog X.w) X.A (V5 (.ref s.heap.objs.size)) (PIE X pins σ tg R) E { s with heap:=s.heap.push { cls:=.type "range",data:=.fields #[.int lo t,.int hi u,.int 1 v] },toks:=tk }:=by
 refine wpAny_pyIter_range (IsRange.new ..) (small_one h1 h2 h3 h4) ?_
 have I1:Inv X pins σ H { s with heap:=s.heap.push { cls:=.type "range",data:=.fields #[.int lo t,.int hi u,.int 1 v] },toks:=tk }:=I.kept fun b o e=>Ox _ e
 refine⟨(s.heap.push { cls:=.type "range",data:=.fields #[.int lo t,.int hi u,.int 1 v] }).objs.size,[(s.heap.push { cls:=.type "range",data:=.fields #[.int lo t,.int hi u,.int 1 v] }).objs.size],_,_,H,rfl,
  I1.kept (t':=tk) fun b o e=>Ox _ e,yl _ lo (hi - lo).toNat,?_,fun b hb=>?_,q⟩
 ·have e1:lo+((0:Nat):Int) * 1=lo:=by simp
  have e2:(((hi - lo).toNat:Nat):Int) - ((0:Nat):Int)=Builtin.Range.rangeSize lo hi 1:=by rw[rangeSize_one]; split <;> lia
  show IsRangeIter _ _ (lo+((0:Nat):Int) * 1) ((((hi - lo).toNat:Nat):Int) - ((0:Nat):Int)) 1
  rw[e1,e2]
  exact O6 _ rfl
 ·have e:b=(s.heap.push { cls:=.type "range",data:=.fields #[.int lo t,.int hi u,.int 1 v] }).objs.size:=by simpa using hb
  subst e
  exact I1.Jm (OJ _) (I1.hok.fresh (OJ _))
def Ma (ta:TA):TI:=fun σ H R=>ta σ H fun vs H1=>∃ j:Int,vs=[.int j]/\-(2 ^ 62)<=j/\j < 2 ^ 62/\R (Itr 0 j.toNat) H1
theorem jL {a:Expr} {ta:TA} {p pos:Ut} (hg:Gl X "range") (hm:X.mg "range" = none) (ha:PA X [a] ta) (hs:Pz [a] X.env=[(false,QZ a X.env)]:=by rfl):PI X tg (.Call (.Name "range" p) [a] [] pos) (Ma ta):=by
 intro pins s σ H R I h
 refine Call_ (jO I hg hm boot_range (SX (thn (ha pos pins s σ H _ I h) fun us s1 ⟨vs,H1,I1,r1,q1⟩=>?_) hs rfl))
 obtain⟨j,e,q1,q2,q⟩:=q1
 subst e
 cases r1 with
 | cons r rr =>
  cases rr
  obtain⟨t,rfl⟩:=r
  exact call_range_1 (DW I1 (by lia) (by lia) q1 q2 (by simpa using q))
def NZ (wi:TI) (g:TG) (tb:TS):TS:=fun D σ H=>wi σ H fun J H1=>∃ W:Nat->Nat->St->Hp->Prop,(∃ m,W 0 m σ H1)/\∀ i m σ H,W i m σ H →
 (J.stop i H/\D.nx σ H)∨(J.go i H/\∃ N:St->Hp->Prop,(∀ σ' H',N σ' H'->∃ m',m' < m/\W (i+1) m' σ' H')/\∀ x H',J.yld i H x H'->g x σ H' fun σ2 H2=>tb { D with nx:=N,ct:=N,bk:=D.nx } σ2 H2)
def lD (fp:List Addr) (h:Qo):List (Addr × Rx):=fp.filterMap fun b=>(h.get? b).map fun o=>(b,o)
theorem cT {fp:List Addr} {h:Qo} {b:Addr} {o:Rx} (hb:b∈fp) (e:h.get? b=some o):(b,o)∈lD fp h:=List.mem_filterMap.mpr ⟨b,hb,by rw[e]; rfl⟩
theorem zy {fp:List Addr} {h:Qo} {p:Addr × Rx} (hp:p∈lD fp h):p.1∈fp/\h.get? p.1=some p.2:=by
 obtain⟨b,hb,e⟩:=List.mem_filterMap.mp hp
 cases q:h.get? b with
 | none=>rw[q] at e; cases e
 | some o =>
  rw[q] at e
  have e':(b,o)=p:=Qh e
  subst e'
  exact⟨hb,q⟩
theorem Inv.pinned {pins:List (Addr × Rx)} {σ:St} {H:Hp} {s:Ov} {fp:List Addr} (I:Inv X pins σ H s) (hf:∀ b∈fp,vZ X pins H b) (ho:∀ b∈fp,∃ o,s.heap.get? b=some o/\∀ v,o.data≠.cell v):Inv X (pins++lD fp s.heap) σ H s :=
 I.zu fun p hp=>(List.mem_append.mp hp).elim (fun z=>I.pin p (PQ _ z)) fun z=>by
  obtain⟨hb,e⟩:=zy z
  obtain⟨f0,f1,f2,_⟩:=hf p.1 hb
  obtain⟨o,e',d⟩:=ho p.1 hb
  rw[e] at e'; cases e'
  exact⟨e,f0,f1,f2,d⟩
theorem Inv.iC {pins pl:List (Addr × Rx)} {σ:St} {H:Hp} {s:Ov} (I:Inv X (pins++pl) σ H s):Inv X pins σ H s:=I.zu fun p hp=>I.pin p (PQ _ (UT _ hp))
theorem cZ {iter:Expr} {body:List Stmt} {wi:TI} {g:TG} {tb:TS} {pos:Ut} (hp:PassesOwn (O5 X.prog X.w) X.A X.env X.xe) (hc:X.calm=true) (hi:PI X tg iter wi) (hg:PG X tg g) (hb:PSs X body tb)
  (hs:∀ x,Rz iter X.env x=pure x:=by intro _; rfl):PS X (.For tg iter body [] pos) (NZ wi g tb):=by
 intro pins s σ H D I h
 refine wpAny_For (thn (hi pins s σ H _ I h) fun v s1 h1=>thn h1 fun itv s2 h2=>?_) hs
 obtain⟨it,fp,tn,J,H2,e,I2,T,st2,f2,W,⟨m0,w0⟩,turn⟩:=h2
 subst e
 have stat:∀ {H':Hp},(∀ b∈fp,H' b=none)->∀ b∈fp,vZ X pins H' b:=fun hn b hb=>⟨hn b hb,(f2 b hb).2⟩
 refine codeAny_forLoop_any (fun n s'=>∃ i σ' H',Inv X pins σ' H' s'/\tn i s'.heap/\(∀ b∈fp,H' b=none)/\W i n σ' H') ?_ m0 ⟨0,σ,H2,I2,st2,fun b hb=>(f2 b hb).1,w0⟩
 rintro n s3 ⟨i,σ3,H3,I3,st3,fr3,w3⟩
 rcases turn i n σ3 H3 w3 with⟨stop,qn⟩ | ⟨go,N,hN,step⟩
 ·refine U3 hp (thn (T.done X rfl rfl rfl hc i pins s3 σ3 H3 X.xe I3 (stat fr3) st3 stop) fun r s4 ⟨hr,I4⟩=>?_)
  subst hr
  exact VN ⟨σ3,H3,I4,qn⟩
 ·refine U3 hp (thn (T.item X rfl rfl rfl hc i pins s3 σ3 H3 X.xe I3 (stat fr3) st3 go) fun r s4 ⟨u,hr,h4⟩=>?_)
  subst hr
  refine U3 hp (thn h4 fun _ s5 ⟨x,H5,I5,r5,y5,st5,fr5⟩=>?_)
  have I5':=I5.pinned (stat fr5) (T.obj _ _ st5)
  refine U3 hp (thn (hg _ s5 σ3 H5 x u _ I5' r5 (step x H5 y5)) fun _ s6 ⟨σ6,H6,I6,q6⟩=>?_)
  refine U3 hp (thn (hb _ s6 σ6 H6 _ I6 q6) fun f s7 q7=>?_)
  have again:∀ {σ7:St} {H7:Hp},Inv X (pins++lD fp s5.heap) σ7 H7 s7->N σ7 H7->∃ m,m < n/\∃ i σ' H',Inv X pins σ' H' s7/\tn i s7.heap/\(∀ b∈fp,H' b=none)/\W i m σ' H':=fun {σ7 H7} I7 n7=>by
   obtain⟨m',hm,w7⟩:=hN σ7 H7 n7
   refine⟨m',hm,i+1,σ7,H7,I7.iC,T.keep _ _ _ st5 fun b hb o e=>(I7.pin (b,o) (PQ _ (PQ _ (cT hb e)))).1,fun b hb=>?_,w7⟩
   obtain⟨o,e,d⟩:=T.obj _ _ st5 b hb
   exact (I7.pin (b,o) (PQ _ (PQ _ (cT hb e)))).2.1
  cases f with
  | next=>obtain⟨σ7,H7,I7,n7⟩:=q7; exact again I7 n7
  | cont=>obtain⟨σ7,H7,I7,n7⟩:=q7; exact again I7 n7
  | brk=>obtain⟨σ7,H7,I7,q7⟩:=q7; exact⟨σ7,H7,I7.iC,q7⟩
  | ret v=>obtain⟨x7,σ7,H7,I7,r7,q7⟩:=q7; exact⟨x7,σ7,H7,I7.iC,r7,q7⟩
end
theorem dq {K:O1} {a:Addr} {xs:List V} {g:TG} {tb:TS} {D:Ends} {σ:St} {H:Hp} (Pv:Nat->St->Hp->Prop) (h0:Pv 0 σ H) (hl:∀ i σ H,i<=xs.length->Pv i σ H->SqL K H a xs)
  (hs:∀ i x σ H,xs[i]? = some x->Pv i σ H->g x σ H fun σ2 H2=>tb { D with nx:=Pv (i+1),ct:=Pv (i+1),bk:=D.nx } σ2 H2) (hd:∀ σ H,Pv xs.length σ H->D.nx σ H) :
  ∃ W:Nat->Nat->St->Hp->Prop,(∃ m,W 0 m σ H)/\∀ i m σ H,W i m σ H →
   ((Itl K a).stop i H/\D.nx σ H)∨((Itl K a).go i H/\∃ N:St->Hp->Prop,(∀ σ' H',N σ' H'->∃ m',m' < m/\W (i+1) m' σ' H')/\∀ x H',(Itl K a).yld i H x H'->g x σ H' fun σ2 H2=>tb { D with nx:=N,ct:=N,bk:=D.nx } σ2 H2):=by
 refine⟨fun i m σ H=>m=xs.length - i/\i<=xs.length/\Pv i σ H,⟨xs.length,by simp,Ql _,h0⟩,?_⟩
 rintro i m σ H ⟨rfl,hi,p⟩
 have q:=hl i σ H hi p
 by_cases hlt:i < xs.length
 ·refine .inr ⟨⟨xs,xs[i],q,by simp [hlt]⟩,Pv (i+1),fun σ' H' p'=>⟨xs.length - (i+1),by lia,rfl,hlt,p'⟩,fun x H' y=>?_⟩
  obtain⟨e,y⟩:=y
  subst e
  exact hs i x σ _ (y xs q) p
 ·have e:i=xs.length:=by lia
  subst e
  exact .inl ⟨⟨xs,q,OJ _⟩,hd σ H p⟩
theorem dH {K:O1} {a:Addr} {xs:List V} {g:TG} {tb:TS} {D:Ends} {σ:St} {H:Hp} (Pv:Nat->St->Hp->Prop) (h0:Pv 0 σ H) (hl:∀ i σ H,i<=xs.length->Pv i σ H->SqT K H a xs)
  (hs:∀ i x σ H,xs[i]? = some x->Pv i σ H->g x σ H fun σ2 H2=>tb { D with nx:=Pv (i+1),ct:=Pv (i+1),bk:=D.nx } σ2 H2) (hd:∀ σ H,Pv xs.length σ H->D.nx σ H) :
  ∃ W:Nat->Nat->St->Hp->Prop,(∃ m,W 0 m σ H)/\∀ i m σ H,W i m σ H →
   ((Itt K a).stop i H/\D.nx σ H)∨((Itt K a).go i H/\∃ N:St->Hp->Prop,(∀ σ' H',N σ' H'->∃ m',m' < m/\W (i+1) m' σ' H')/\∀ x H',(Itt K a).yld i H x H'->g x σ H' fun σ2 H2=>tb { D with nx:=N,ct:=N,bk:=D.nx } σ2 H2):=by
 refine⟨fun i m σ H=>m=xs.length - i/\i<=xs.length/\Pv i σ H,⟨xs.length,by simp,Ql _,h0⟩,?_⟩
 rintro i m σ H ⟨rfl,hi,p⟩
 have q:=hl i σ H hi p
 by_cases hlt:i < xs.length
 ·refine .inr ⟨⟨xs,xs[i],q,by simp [hlt]⟩,Pv (i+1),fun σ' H' p'=>⟨xs.length - (i+1),by lia,rfl,hlt,p'⟩,fun x H' y=>?_⟩
  obtain⟨e,y⟩:=y
  subst e
  exact hs i x σ _ (y xs q) p
 ·have e:i=xs.length:=by lia
  subst e
  exact .inl ⟨⟨xs,q,OJ _⟩,hd σ H p⟩
end L2
namespace L2
open PySem PySem.Spec PyProof.Rows
abbrev R2:=V->V->Hp->VK->Prop
def OpR (X:Cx) (f:Value->Value->Sem Value) (r:R2):Prop :=
 ∀ (pins:List (Addr × Rx)) (s:Ov) (σ:St) (H:Hp) (x y:V) (v u:Value) (Q:VK),Inv X pins σ H s->RelV x v->RelV y u->r x y H Q →
  O3 (O5 X.prog X.w) X.A (f v u) (EP X pins σ Q) X.xe s
def UnR (X:Cx) (f:Value->Sem Value) (r:V->Hp->VK->Prop):Prop :=
 ∀ (pins:List (Addr × Rx)) (s:Ov) (σ:St) (H:Hp) (x:V) (v:Value) (Q:VK),Inv X pins σ H s->RelV x v->r x H Q →
  O3 (O5 X.prog X.w) X.A (f v) (EP X pins σ Q) X.xe s
def fL (X:Cx) (f:Value) (r:List V->Hp->VK->Prop):Prop :=
 ∀ (pins:List (Addr × Rx)) (s:Ov) (σ:St) (H:Hp) (xs:List V) (us:List Value) (Q:VK),Inv X pins σ H s->Vals xs us->r xs H Q →
  O3 (O5 X.prog X.w) X.A (call f us) (EP X pins σ Q) X.xe s
def tOp (r:R2) (ta tb:TE):TE:=fun σ H Q=>ta σ H fun x H1=>tb σ H1 fun y H2=>r x y H2 Q
def tUn (r:V->Hp->VK->Prop) (ta:TE):TE:=fun σ H Q=>ta σ H fun x H1=>r x H1 Q
inductive RII (C:Int->Int->Prop) (g:Int->Int->V) (x:V) (y:V) (H:Hp) (Q:VK):Prop where
 | mk (i:Int) (j:Int) (z0:x = .int i) (z1:y = .int j) (z2:C i j) (z3:Q (g i j) H):RII C g x y H Q
def rI (C:Int->Int->Prop) (g:Int->Int->V):R2:=fun x y H Q=>RII C g x y H Q
inductive M6 (g:Int->Int->V) (x:V) (y:V) (H:Hp) (Q:VK):Prop where
 | mk (i:Int) (j:Int) (z0:x = .int i) (z1:y = .int j) (z2:Q (g i j) H):M6 g x y H Q
def rI0 (g:Int->Int->V):R2:=fun x y H Q=>M6 g x y H Q
inductive RUI (g:Int->V) (x:V) (H:Hp) (Q:VK):Prop where
 | mk (i:Int) (z0:x = .int i) (z1:Q (g i) H):RUI g x H Q
def rU (g:Int->V):V->Hp->VK->Prop:=fun x H Q=>RUI g x H Q
section
variable {X:Cx} {a b c:Expr} {ta tb tc:TE} {pos:Ut}
theorem Mm (ha:PE X a ta) (hb:PE X b tb) {pins:List (Addr × Rx)} {s:Ov} {σ:St} {H:Hp} {R:V->V->Hp->Prop} (I:Inv X pins σ H s)
  (h:ta σ H fun x H1=>tb σ H1 fun y H2=>R x y H2) {Q:Value->Ov->Prop} {f:Value->Value->Sem Value}
  (hf:∀ v u s2 x y H2,Inv X pins σ H2 s2->RelV x v->RelV y u->R x y H2->O3 (O5 X.prog X.w) X.A (f v u) Q X.xe s2) :
  O3 (O5 X.prog X.w) X.A (QZ a X.env) (fun v s₁=>O3 (O5 X.prog X.w) X.A (QZ b X.env) (fun u s₂=>O3 (O5 X.prog X.w) X.A (f v u) Q X.xe s₂) X.xe s₁) X.xe s:=by
 refine thn (ha pins s σ H _ I h) fun v s1 ⟨x,H1,I1,r1,q1⟩=>?_
 refine thn (hb pins s1 σ H1 _ I1 q1) fun u s2 ⟨y,H2,I2,r2,q2⟩=>?_
 exact hf v u s2 x y H2 I2 r1 r2 q2
theorem bW {op:Operator} {r:R2} (ho:OpR X (Ul op) r) (ha:PE X a ta) (hb:PE X b tb):PE X (.BinOp a op b pos) (tOp r ta tb):=by
 intro pins s σ H Q I h
 exact wpAny_BinOp (Mm ha hb I h fun v u s2 x y H2 I2 rx ry q=>ho pins s2 σ H2 x y v u Q I2 rx ry q)
theorem Mr {op:UnaryOp} {r:V->Hp->VK->Prop} (ho:UnR X (unaryOp op) r) (ha:PE X a ta):PE X (.UnaryOp op a pos) (tUn r ta):=by
 intro pins s σ H Q I h
 exact UnaryOp_ (thn (ha pins s σ H _ I h) fun v s1 ⟨x,H1,I1,r1,q1⟩=>ho pins s1 σ H1 x v Q I1 r1 q1)
theorem opI {f:Value->Value->Sem Value} {C:Int->Int->Prop} {g:Int->Int->Int}
  (rule:∀ (i j:Int) (t u:Xu) (s:Ov) (Q:Value->Ov->Prop) (E:Value->Ov->Prop),C i j->Q (.int (g i j) s.toks) { s with toks:=s.toks+1 }->O3 (O5 X.prog X.w) X.A (f (.int i t) (.int j u)) Q E s) :
  OpR X f (rI C fun i j=>.int (g i j)):=by
 intro pins s σ H x y v u Q I rx ry h
 obtain⟨i,j,rfl,rfl,hc,q⟩:=h
 obtain⟨t,rfl⟩:=rx
 obtain⟨t',rfl⟩:=ry
 exact rule i j t t' s _ _ hc ⟨.int (g i j),H,I.tok _,⟨_,rfl⟩,q⟩
theorem Nj {f:Value->Value->Sem Value} {g:Int->Int->Int}
  (rule:∀ (i j:Int) (t u:Xu) (s:Ov) (Q:Value->Ov->Prop) (E:Value->Ov->Prop),Q (.int (g i j) s.toks) { s with toks:=s.toks+1 }->O3 (O5 X.prog X.w) X.A (f (.int i t) (.int j u)) Q E s) :
  OpR X f (rI0 fun i j=>.int (g i j)):=by
 intro pins s σ H x y v u Q I rx ry h
 obtain⟨i,j,rfl,rfl,q⟩:=h
 obtain⟨t,rfl⟩:=rx
 obtain⟨t',rfl⟩:=ry
 exact rule i j t t' s _ _ ⟨.int (g i j),H,I.tok _,⟨_,rfl⟩,q⟩
theorem Le {f:Value->Value->Sem Value} {g:Int->Int->Bool}
  (rule:∀ (i j:Int) (t u:Xu) (s:Ov) (Q:Value->Ov->Prop) (E:Value->Ov->Prop),Q (.bool (g i j)) s->O3 (O5 X.prog X.w) X.A (f (.int i t) (.int j u)) Q E s) :
  OpR X f (rI0 fun i j=>.bl (g i j)):=by
 intro pins s σ H x y v u Q I rx ry h
 obtain⟨i,j,rfl,rfl,q⟩:=h
 obtain⟨t,rfl⟩:=rx
 obtain⟨t',rfl⟩:=ry
 exact rule i j t t' s _ _ ⟨.bl (g i j),H,I,rfl,q⟩
def Og (i j:Int):Prop:=0 < j/\j < 1073741824
def Nx (i j:Int):Prop:=0<=j/\j<=1000000/\i.natAbs < 2 ^ 64
def Lh (i j:Int):Prop:=(-(2 ^ 64) < i/\i < 2 ^ 64)∨(-(2 ^ 64) < j/\j < 2 ^ 64)
theorem Lh.ok {i j:Int} (h:Lh i j):IntMulOk i j:=by
 rcases h with⟨h1,h2⟩ | ⟨h1,h2⟩
 ·exact .of_left (intBits_le_64 h1 h2)
 ·exact .of_right (intBits_le_64 h1 h2)
theorem gG:OpR X (Ul .Add) (rI0 fun i j=>.int (i+j)):=Nj fun _ _ _ _ _ _ _ q=>add_int q
theorem rm:OpR X (Ul .Sub) (rI0 fun i j=>.int (i - j)):=Nj fun _ _ _ _ _ _ _ q=>sub_int q
theorem pG:OpR X (Ul .Mult) (rI Lh fun i j=>.int (i * j)):=opI fun _ _ _ _ _ _ _ hc q=>mul_int q hc.ok
theorem Jb:OpR X (Ul .FloorDiv) (rI Og fun i j=>.int (i / j)):=opI fun i j _ _ _ _ _ hc q=>by
 have h1:(0:Int) < j:=hc.1
 have h2:j < 1073741824:=hc.2
 exact floordiv_int (by lia) (by rw[Int.fdiv_eq_ediv_of_nonneg i (by lia)]; exact q) (.inl (PyProof.noPylong_small (by lia)))
theorem pH:OpR X (Ul .Mod) (rI (fun _ j=>0 < j) fun i j=>.int (i % j)):=opI fun i j _ _ _ _ _ hc q=>by
 have h1:(0:Int) < j:=hc
 exact mod_int' (by lia) (by rw[Int.fmod_eq_emod_of_nonneg i (by lia)]; exact q)
theorem Bj:OpR X (Ul .Pow) (rI Nx fun i j=>.int (i ^ j.toNat)):=opI fun _ _ _ _ _ _ _ hc q=>pow_int_small hc.1 hc.2.1 hc.2.2 q
theorem unI {f:Value->Sem Value} {g:Int->Int}
  (rule:∀ (i:Int) (t:Xu) (s:Ov) (Q:Value->Ov->Prop) (E:Value->Ov->Prop),Q (.int (g i) s.toks) { s with toks:=s.toks+1 }->O3 (O5 X.prog X.w) X.A (f (.int i t)) Q E s) :
  UnR X f (rU fun i=>.int (g i)):=by
 intro pins s σ H x v Q I rx h
 obtain⟨i,rfl,q⟩:=h
 obtain⟨t,rfl⟩:=rx
 exact rule i t s _ _ ⟨.int (g i),H,I.tok _,⟨_,rfl⟩,q⟩
theorem K1:UnR X (unaryOp .USub) (rU fun i=>.int (-i)):=unI fun _ _ _ _ _ q=>neg_int q
end
def Nt:V->V->Bool
 | .non,.non=>true | .non,.int _=>true | .int _,.non=>true | .non,.bl _=>true | .bl _,.non=>true | .non,.str _=>true | .str _,.non=>true
 | .int _,.int _=>true | .bl _,.bl _=>true | .str _,.str _=>true | .byt _,.byt _=>true
 | .int _,.str _=>true | .str _,.int _=>true | .bl _,.str _=>true | .str _,.bl _=>true
 | _,_=>false
def rEq:R2:=fun x y H Q=>Nt x y=true/\Q (.bl (decide (x=y))) H
def rNe:R2:=fun x y H Q=>Nt x y=true/\Q (.bl (!decide (x=y))) H
theorem Ck {i j:Int}:decide (V.int i=V.int j)=(i == j):=by
 rw[U5]
 simp
theorem Gg {i j:Bool}:decide (V.bl i=V.bl j)=(i == j):=by
 rw[U5]
 simp
theorem zN {i j:Px}:decide (V.str i=V.str j)=(i == j):=by
 rw[U5]
 simp
theorem Dl {i j:Array UInt8}:decide (V.byt i=V.byt j)=(i.toList == j.toList):=by
 rw[U5]
 cases i
 cases j
 simp
section
variable {X:Cx} {a b c:Expr} {ta tb tc:TE} {pos:Ut}
theorem bN {pins:List (Addr × Rx)} {σ:St} {H:Hp} {s:Ov} {Q:VK} {k k':Bool} (I:Inv X pins σ H s) (q:Q (.bl k) H) (e:k=k'):EP X pins σ Q (.bool k') s:=by
 subst e
 exact⟨.bl k,H,I,rfl,q⟩
theorem bD:OpR X (Su .Eq) rEq:=by
 intro pins s σ H x y v u Q I rx ry h
 obtain⟨hs,q⟩:=h
 cases x with
 | non =>
  cases rx
  cases y with
  | non=>cases ry; exact PySem.EqNone.eq_none_none (bN I q (by simp))
  | bl j=>cases ry; exact PySem.EqNone.eq_none_bool (bN I q (by simp))
  | int j=>obtain⟨t',rfl⟩:=ry; exact PySem.EqNone.eq_none_int (bN I q (by simp))
  | str j=>obtain⟨t',rfl⟩:=ry; exact PySem.EqNone.eq_none_str (bN I q (by simp))
  | _=>exact absurd (show false=true from hs) O2
 | bl i =>
  cases rx
  cases y with
  | non=>cases ry; exact PySem.EqNone.eq_bool_none (bN I q (by simp))
  | bl j=>cases ry; exact eq_bool (bN I q Gg)
  | str j=>obtain⟨t',rfl⟩:=ry; exact PySem.EqMixed.eq_bool_str (bN I q (by simp))
  | _=>exact absurd (show false=true from hs) O2
 | int i =>
  obtain⟨t,rfl⟩:=rx
  cases y with
  | non=>cases ry; exact PySem.EqNone.eq_int_none (bN I q (by simp))
  | int j=>obtain⟨t',rfl⟩:=ry; exact eq_int (bN I q Ck)
  | str j=>obtain⟨t',rfl⟩:=ry; exact PySem.EqMixed.eq_int_str (bN I q (by simp))
  | _=>exact absurd (show false=true from hs) O2
 | str i =>
  obtain⟨t,rfl⟩:=rx
  cases y with
  | non=>cases ry; exact PySem.EqNone.eq_str_none (bN I q (by simp))
  | bl j=>cases ry; exact PySem.EqMixed.eq_str_bool (bN I q (by simp))
  | int j=>obtain⟨t',rfl⟩:=ry; exact PySem.EqMixed.eq_str_int (bN I q (by simp))
  | str j=>obtain⟨t',rfl⟩:=ry; exact eq_str (bN I q zN)
  | _=>exact absurd (show false=true from hs) O2
 | byt i =>
  obtain⟨t,rfl⟩:=rx
  cases y with
  | byt j=>obtain⟨t',rfl⟩:=ry; exact PySem.W.eq_bytes (bN I q Dl)
  | _=>exact absurd (show false=true from hs) O2
 | _=>cases y <;> exact absurd (show false=true from hs) O2
theorem qI:OpR X (Su .NotEq) rNe:=by
 intro pins s σ H x y v u Q I rx ry h
 obtain⟨hs,q⟩:=h
 cases x with
 | non =>
  cases rx
  cases y with
  | non=>cases ry; exact PySem.EqNone.ne_none_none (bN I q (by simp))
  | bl j=>cases ry; exact PySem.EqNone.ne_none_bool (bN I q (by simp))
  | int j=>obtain⟨t',rfl⟩:=ry; exact PySem.EqNone.ne_none_int (bN I q (by simp))
  | str j=>obtain⟨t',rfl⟩:=ry; exact PySem.EqNone.ne_none_str (bN I q (by simp))
  | _=>exact absurd (show false=true from hs) O2
 | bl i =>
  cases rx
  cases y with
  | non=>cases ry; exact PySem.EqNone.ne_bool_none (bN I q (by simp))
  | bl j=>cases ry; exact ne_bool (bN I q (congrArg not Gg))
  | str j=>obtain⟨t',rfl⟩:=ry; exact PySem.EqMixed.ne_bool_str (bN I q (by simp))
  | _=>exact absurd (show false=true from hs) O2
 | int i =>
  obtain⟨t,rfl⟩:=rx
  cases y with
  | non=>cases ry; exact PySem.EqNone.ne_int_none (bN I q (by simp))
  | int j=>obtain⟨t',rfl⟩:=ry; exact ne_int (bN I q (congrArg not Ck))
  | str j=>obtain⟨t',rfl⟩:=ry; exact PySem.EqMixed.ne_int_str (bN I q (by simp))
  | _=>exact absurd (show false=true from hs) O2
 | str i =>
  obtain⟨t,rfl⟩:=rx
  cases y with
  | non=>cases ry; exact PySem.EqNone.ne_str_none (bN I q (by simp))
  | bl j=>cases ry; exact PySem.EqMixed.ne_str_bool (bN I q (by simp))
  | int j=>obtain⟨t',rfl⟩:=ry; exact PySem.EqMixed.ne_str_int (bN I q (by simp))
  | str j=>obtain⟨t',rfl⟩:=ry; exact ne_str (bN I q (congrArg not zN))
  | _=>exact absurd (show false=true from hs) O2
 | byt i =>
  obtain⟨t,rfl⟩:=rx
  cases y with
  | byt j=>obtain⟨t',rfl⟩:=ry; exact PySem.W.ne_bytes (bN I q (congrArg not Dl))
  | _=>exact absurd (show false=true from hs) O2
 | _=>cases y <;> exact absurd (show false=true from hs) O2
theorem yx:OpR X (Su .Lt) (rI0 fun i j=>.bl (decide (i < j))):=Le fun _ _ _ _ _ _ _ q=>lt_int q
theorem Hg:OpR X (Su .LtE) (rI0 fun i j=>.bl (decide (i<=j))):=Le fun _ _ _ _ _ _ _ q=>le_int q
theorem Hf:OpR X (Su .Gt) (rI0 fun i j=>.bl (decide (j < i))):=Le fun _ _ _ _ _ _ _ q=>gt_int q
theorem jM:OpR X (Su .GtE) (rI0 fun i j=>.bl (decide (j<=i))):=Le fun _ _ _ _ _ _ _ q=>ge_int q
theorem aL (b:Expr) {op:CmpOp} (h:op≠.In:=by decide) (h2:op≠.NotIn:=by decide):Sv op b=false:=by
 have e1:(op == CmpOp.In)=false:=by cases op <;> first | rfl | exact absurd rfl h
 have e2:(op == CmpOp.NotIn)=false:=by cases op <;> first | rfl | exact absurd rfl h2
 cases b <;> simp [Sv,e1,e2]
theorem bO {op:CmpOp} {r:R2} (ho:OpR X (Su op) r) (ha:PE X a ta) (hb:PE X b tb) (hm:Sv op b=false):PE X (.Compare a [op] [b] pos) (tOp r ta tb):=by
 intro pins s σ H Q I h
 exact wpAny_Compare1 (Mm ha hb I h fun v u s2 x y H2 I2 rx ry q=>ho pins s2 σ H2 x y v u Q I2 rx ry q) hm
def Lq (t:TE):TT:=fun σ H Q=>t σ H fun x H'=>ExB x fun k=>Q k H'
theorem aG {op:CmpOp} {r:R2} (ho:OpR X (Su op) r) (ha:PE X a ta) (hb:PE X b tb) (hm:Sv op b=false):PT X (.Compare a [op] [b] pos) (Lq (tOp r ta tb)):=by
 intro pins s σ H Q I h
 refine wpAny_isTrue_Compare1 (thn (ha pins s σ H _ I h) fun v s1 ⟨x,H1,I1,r1,q1⟩=>thn (hb pins s1 σ H1 _ I1 q1) fun u s2 ⟨y,H2,I2,r2,q2⟩ =>
  thn (ho pins s2 σ H2 x y v u _ I2 r1 r2 q2) fun c s3 ⟨z,H3,I3,r3,k,e,q3⟩=>?_) hm
 subst e
 cases r3
 exact Rh ⟨H3,I3,q3⟩
theorem pB:(sizeLine:Nat) < 2 ^ 63:=by rw[Xr]; decide
theorem vals1 {x:V} {us:List Value} (r:Vals [x] us):∃ u,us=[u]/\RelV x u:=by
 cases r with
 | cons r1 r2=>cases r2; exact⟨_,rfl,r1⟩
theorem vals2 {x y:V} {us:List Value} (r:Vals [x,y] us):∃ u w',us=[u,w']/\RelV x u/\RelV y w':=by
 cases r with
 | cons r1 r2 =>
  cases r2 with
  | cons r3 r4=>cases r4; exact⟨_,_,rfl,r1,r3⟩
theorem wY:fL X (.builtin "abs") (fun xs H Q=>∃ i,xs=[.int i]/\Q (.int (if i < 0 then -i else i)) H):=by
 intro pins s σ H xs us Q I r h
 obtain⟨i,rfl,q⟩:=h
 obtain⟨u,rfl,t,rfl⟩:=vals1 r
 exact call_abs_int fun u tk=>⟨.int (if i < 0 then -i else i),H,I.tok _,⟨_,rfl⟩,q⟩
theorem n8 (hc:X.calm=true):fL X (.builtin "max") (fun xs H Q=>∃ i j,xs=[.int i,.int j]/\Q (.int (if j > i then j else i)) H):=by
 intro pins s σ H xs us Q I r h
 obtain⟨i,j,rfl,q⟩:=h
 obtain⟨u,w',rfl,⟨t,rfl⟩,⟨t',rfl⟩⟩:=vals2 r
 refine max_two_ints (I.ok.hd hc) fun h' tk k=>⟨_,H,I.kept k,?_,q⟩
 by_cases hj:j > i
 ·rw[if_pos hj,if_pos hj]; exact⟨_,rfl⟩
 ·rw[if_neg hj,if_neg hj]; exact⟨_,rfl⟩
theorem Bl:fL X (.type "int") (fun xs H Q=>(∃ i,xs=[.int i]/\Q (.int i) H)∨∃ k,xs=[.bl k]/\Q (.int (if k then 1 else 0)) H):=by
 intro pins s σ H xs us Q I r h
 rcases h with⟨i,rfl,q⟩ | ⟨k,rfl,q⟩
 ·obtain⟨u,rfl,t,rfl⟩:=vals1 r
  exact call_int_int ⟨.int i,H,I,⟨_,rfl⟩,q⟩
 ·obtain⟨u,rfl,r1⟩:=vals1 r
  cases r1
  exact call_int_bool ⟨.int (if k then 1 else 0),H,I.tok _,⟨_,rfl⟩,q⟩
end
end L2
namespace L2
open PySem PySem.Spec PyProof.Rows
structure Jf (h:Qo) (x dx C:Addr) (mA:Px->Option Value):Prop where
 obj:h.get? x=some (RT C dx)
 ns:h.Ns1 dx mA
 ne:dx≠x
theorem sU {h:Qo} {dx:Addr} {mA:Px->Option Value} (n:h.Ns1 dx mA):∃ od,h.get? dx=some od/\∀ name,V7 name od=some (mA name):=by
 obtain⟨o,es,ep,ho,hd,hk,_,hm⟩:=n
 refine⟨o,ho,fun name=>?_⟩
 have e:=hm name
 unfold nsFind findBy at e
 rw[← Array.find?_toList] at e
 unfold V7
 rw[hd]
 dsimp only
 split
 ·rename_i y q
  rw[q] at e
  exact congrArg some e
 ·rename_i q
  rw[q] at e
  have a:es.toList.any (·.refKey)=false:=by
   rw[List.any_eq_false]
   intro y hy
   obtain⟨z,t,hkey⟩:=hk y (Array.mem_toList_iff.mp hy)
   simp [DictEntry.refKey,hkey]
  have a':¬ es.toList.any (·.refKey)=true:=by rw[a]; exact O2
  rw[if_neg a']
  exact congrArg some e
theorem Jf.look {h:Qo} {x dx C:Addr} {mA:Px->Option Value} (I:Jf h x dx C mA):∃ od,PySem.W.InstAt h x (RT C dx) C (some od)/\∀ name,V7 name od=some (mA name) :=
 let ⟨od,ho,hl⟩:=sU I.ns
 ⟨od,⟨I.obj,rfl,rfl,ho⟩,hl⟩
section
variable {prog:O9} {w:Qd} {A:Qc} {E:Value->Ov->Prop} {s:Ov} {K:O1} {x dx C f:Addr} {mA:Px->Option Value} {name:Px} {v:Value}
theorem get_map {expr:Bool} {Q:Value->Ov->Prop} (X:K.In s.heap) (I:Jf s.heap x dx C mA) (hg:UG K C name=true) (hh:SQ K C=true)
  (ha:Qz K (.ref C) name=some none) (hv:mA name=some v) (hv':Xi v=true) (h:Q v { s with toks:=s.toks+1 }) :
  O3 (O5 prog w) A (getAttr (.ref x) name expr) Q E s:=by
 obtain⟨od,J,hl⟩:=I.look
 exact PySem.W.get_value X J (We hg).1 (PySem.W.findObj_own hh ha rfl (by rw[hl,hv])) hv' h
theorem Ek {pl:Sem Bool} {Q:Value × List Value->Ov->Prop} (X:K.In s.heap) (I:Jf s.heap x dx C mA) (hg:UG K C name=true)
  (hf:Qz K (.ref C) name=some (some (.ref f))) (ht:WX K (.ref f)=true) (hv:mA name=none) (h:Q (.ref f,[.ref x]) s) :
  O3 (O5 prog w) A (Ux (.ref x) name pl) Q E s:=by
 obtain⟨od,J,hl⟩:=I.look
 exact PySem.W.method_fn X J (We hg).1 (We hg).2 hf (beq_iff_eq.mp ht) (by show (V7 name od).map (·.isSome)=some false; rw[hl,hv]; rfl) h
theorem Iu {ns:List Px} {Q:Unit->Ov->Prop} (X:K.In s.heap) (I:Jf s.heap x dx C mA)
  (hs:Qz K (.ref C) "__setattr__" = some (some (.builtin "object.__setattr__"))) (hp:WT K C=true) (ht:VR K C name=some none) (hh:SQ K C=true)
  (hw:PySem.Within mA ns) (hsz:ns.length<=sizeLine)
  (h:∀ h',Jf h' x dx C (fun y=>if y=name then some v else mA y)->Sh dx s.heap h'->Q () { s with heap:=h',toks:=s.toks+2 }) :
  O3 (O5 prog w) A (setAttr (.ref x) name v) Q E s:=by
 obtain⟨od,J,hl⟩:=I.look
 refine PySem.W.set_plain X J hs (PySem.W.osa_open (s:={ s with toks:=s.toks+1 }) (r:=none) X J hp ht fun b=>?_)
 obtain⟨cd,hc,hd'⟩:=PySem.W.any_some hh
 have hx:s.heap.get? x=some ⟨.ref C,some dx,.plain,#[]⟩:=I.obj
 refine Ou (Oz (Ou (Ou (wpAny_loadPart hx (Ou (Rp (s:={ s with toks:=s.toks+1 }) (Wf X hc) ?_))))))
 rw[hd']
 refine Oz (a:=some dx) (Ou (Oz (Ou ?_)))
 refine wpAny_nsSet1 (s:={ s with toks:=s.toks+1 }) I.ns fun h' hn2 hs2=>?_
 obtain⟨oD,esD,epD,hoD,hdD,hcD⟩:=hn2.count (PySem.Within.cons name v hw)
 refine Ou (wpAny_lookBehind hoD (by rw[hdD]; exact pastItsLine_dict (PX hcD (by rw[PK]; lia))) ?_)
 exact Oz (h _ ⟨(hs2.2 _ (QM I.ne)).trans I.obj,hn2,I.ne⟩ hs2)
theorem DG {R:Vg->Ov->Prop} {vs:List Value} {kw:List (Px × Value)} (X:K.In s.heap) (hm:Xy K C=true)
  (hi:Qz K (.ref C) "__init__" = some (some (.ref f))) (hf:PySem.W.typeIn K (.ref f)=some (.type "function"))
  (h:QF (O5 prog w) (A.under (.builtin "type.__call__" ⟨.ref C::vs,kw⟩)) (.call (.ref f) ⟨.ref (s.heap.objs.size+1)::vs,kw⟩) (PySem.W.InitBack (s.heap.objs.size+1) R)
   {s with heap:=(s.heap.push Rj).push (RT C s.heap.objs.size) }) :
  QF (O5 prog w) A (.call (.ref C) ⟨vs,kw⟩) R s:=by
 obtain⟨hh,g,d,t,os⟩:=s
 exact PySem.W.make_core (PySem.W.makes_of X hm) (Tn X hi) (fun self=>PySem.W.bind_fn X self hf) (.inl rfl) h
end
def pq (f:Px) (v:V):List (Px × V)->List (Px × V)
 | []=>[(f,v)]
 | (g,x)::r=>if g=f then (g,v)::r else (g,x)::pq f v r
theorem oA (f g:Px) (v:V):∀ fs:List (Px × V),(pq f v fs).lookup g=if g=f then some v else fs.lookup g
 | []=>by
  show Tq g [(f,v)]=_
  by_cases h:g=f
  ·have hb:(g == f)=true:=beq_iff_eq.mpr h
   simp only[Tq,hb,if_pos h]
  ·have hb:(g == f)=false:=beq_eq_false_iff_ne.mpr h
   simp only[Tq,hb,if_neg h]
 | (k,x)::r=>by
  have ih:=oA f g v r
  rw[show pq f v ((k,x)::r)=(if k=f then (k,v)::r else (k,x)::pq f v r) from rfl]
  by_cases hk:k=f
  ·rw[if_pos hk]
   by_cases h:g=k
   ·have hb:(g == k)=true:=beq_iff_eq.mpr h
    simp only[Tq,hb,if_pos (h.trans hk)]
   ·have hb:(g == k)=false:=beq_eq_false_iff_ne.mpr h
    simp only[Tq,hb,if_neg (fun e:g=f=>h (e.trans hk.symm))]
  ·rw[if_neg hk]
   by_cases h:g=k
   ·have hb:(g == k)=true:=beq_iff_eq.mpr h
    simp only[Tq,hb,if_neg (fun e:g=f=>hk (h.symm.trans e))]
   ·have hb:(g == k)=false:=beq_eq_false_iff_ne.mpr h
    simp only[Tq,hb]
    exact ih
theorem nW (f:Px) (v:V):∀ fs:List (Px × V),f∈(pq f v fs).map (·.1)/\∀ g,g∈fs.map (·.1)->g∈(pq f v fs).map (·.1)
 | []=>⟨by simp [pq],fun g h=>by simp at h⟩
 | (k,x)::r=>by
  obtain⟨i1,i2⟩:=nW f v r
  rw[show pq f v ((k,x)::r)=(if k=f then (k,v)::r else (k,x)::pq f v r) from rfl]
  by_cases hk:k=f
  ·rw[if_pos hk]
   subst hk
   exact⟨by simp,fun g h=>by simpa using h⟩
  ·rw[if_neg hk]
   refine⟨?_,fun g h=>?_⟩
   ·rw[Qv]
    exact Pb _ i1
   ·rw[Qv] at h ⊢
    rcases List.mem_cons.mp h with e | e
    ·exact List.mem_cons.mpr (.inl e)
    ·exact Pb _ (i2 g e)
theorem mU (f:Px) (v:V):∀ fs:List (Px × V),(pq f v fs).length<=fs.length+1
 | []=>by simp [pq]
 | (k,x)::r=>by
  have ih:=mU f v r
  rw[show pq f v ((k,x)::r)=(if k=f then (k,v)::r else (k,x)::pq f v r) from rfl]
  by_cases hk:k=f
  ·rw[if_pos hk,PK,PK]; lia
  ·rw[if_neg hk,PK,PK]; lia
theorem pY.some_of {v:V} {o:Option Value} (r:pY (some v) o):∃ u,o=some u/\RelV v u:=by
 cases o with
 | none=>exact (show False from r).elim
 | some u=>exact⟨u,rfl,r⟩
theorem pY.none_of {o:Option Value} (r:pY none o):o=none:=by
 cases o with
 | none=>rfl
 | some u=>exact (show False from r).elim
theorem sV {v:V} {u:Value} (r:RelV v u):Xi u=true:=by
 cases v with
 | non=>cases (show u=QJ from r); rfl
 | bl b=>cases (show u=VG b from r); rfl
 | int i=>obtain⟨t,e⟩:=(show ∃ t,u=RQ i t from r); cases e; rfl
 | str x=>obtain⟨t,e⟩:=(show ∃ t,u=Xh x t from r); cases e; rfl
 | byt b=>obtain⟨t,e⟩:=(show ∃ t,u=Value.bytes b t from r); cases e; rfl
 | flt b=>obtain⟨t,e⟩:=(show ∃ t,u=Value.float b t from r); cases e; rfl
 | ref a=>cases (show u=Pg a from r); rfl
 | ty n=>cases (show u=R0 n from r); rfl
section
variable {P:O9} {w:Qd} {H H':Hp} {h h':Qo} {a C dx:Addr} {fs fs':List (Px × V)}
theorem qH (hok:HOk P w H h) (e:H a=some (.ins C dx fs)):∃ mA,Jf h a dx C mA/\(∀ f,pY (fs.lookup f) (mA f))/\PySem.Within mA (fs.map (·.1))/\fs.length<=1000/\H dx=some (.own a):=by
 obtain⟨d,z,ne,ob,mA,n,r,q⟩:=(show cU P w H h a (.ins C dx fs) from hok a _ e)
 exact⟨mA,⟨ob,n,ne⟩,r,q,z,d⟩
end
structure Cls (K:O1) (C:Addr):Prop where
 pg:UG K C Str.empty=true
 hd:SQ K C=true
 po:WT K C=true
 sa:Qz K (.ref C) "__setattr__" = some (some (.builtin "object.__setattr__"))
theorem Cls.get {K:O1} {C:Addr} (c:Cls K C) (f:Px):UG K C f=true:=c.pg
def fM (K:O1) (C:Addr) (f:Px):Prop:=Qz K (.ref C) f=some none
theorem fM.taker {K:O1} {C:Addr} {f:Px} (n:fM K C f):VR K C f=some none:=by
 unfold VR
 rw[show Qz K (.ref C) f=some none from n]
 rfl
structure Meth (K:O1) (C:Addr) (m:Px) (f:Addr):Prop where
 at_:Qz K (.ref C) m=some (some (.ref f))
 fn:WX K (.ref f)=true
 kp:QW K (.ref f)=true
section
variable {X:Cx} {pins:List (Addr × Rx)} {σ:St} {H:Hp} {s:Ov} {a C dx:Addr} {fs:List (Px × V)} {f:Px} {v:V} {A:Qc} {E:Value->Ov->Prop}
theorem yK {b:Bool} {Q:Value->Ov->Prop} (I:Inv X pins σ H s) (e:H a=some (.ins C dx fs)) (c:Cls X.K C) (n:fM X.K C f) (l:fs.lookup f=some v)
  (h:∀ u s',Inv X pins σ H s'->RelV v u->Q u s'):O3 (O5 X.prog X.w) A (getAttr (.ref a) f b) Q E s:=by
 obtain⟨mA,O,r,_,_,_⟩:=qH I.hok e
 obtain⟨u,hu,ru⟩:=pY.some_of (v:=v) (o:=mA f) (by rw[← l]; exact r f)
 exact get_map I.kIn O (c.get f) c.hd n hu (sV ru) (h u _ (I.tok _) ru)
theorem pF {m:Px} {g:Addr} {pl:Sem Bool} {Q:Value × List Value->Ov->Prop} (I:Inv X pins σ H s) (e:H a=some (.ins C dx fs)) (c:Cls X.K C) (k:Meth X.K C m g) (l:fs.lookup m=none)
  (h:Q (.ref g,[.ref a]) s):O3 (O5 X.prog X.w) A (Ux (.ref a) m pl) Q E s:=by
 obtain⟨mA,O,r,_,_,_⟩:=qH I.hok e
 have hn:mA m=none:=pY.none_of (by rw[← l]; exact r m)
 exact Ek I.kIn O (c.get m) k.at_ k.fn hn h
theorem yC {y:V} {u:Value} {Q:Unit->Ov->Prop} (I:Inv X pins σ H s) (e:H a=some (.ins C dx fs)) (c:Cls X.K C) (n:fM X.K C f) (hl:fs.length < 1000) (ry:RelV y u)
  (h:∀ s',Inv X pins σ (upd H a (.ins C dx (pq f y fs))) s'->Q () s'):O3 (O5 X.prog X.w) A (setAttr (.ref a) f u) Q E s:=by
 obtain⟨mA,O,r,wi,_,ho⟩:=qH I.hok e
 have hz:(fs.map (·.1)).length<=sizeLine:=by rw[Ow,Xr]; lia
 refine Iu I.kIn O c.sa c.po n.taker c.hd wi hz fun h' O' sb=>h _ ?_
 have hd:∃ o,h'.get? dx=some o:=let ⟨o,_,_,e',_⟩:=O'.ns; ⟨o,e'⟩
 refine I.write (x:=a) (e:=dx) (by rw[e]; exact R9) (.inr ho) (fun b q hb z=>(sb.2 b hb).trans z) hd ?_
 refine⟨by rw[aN O.ne]; exact ho,?_,O.ne,O'.obj,_,O'.ns,fun g=>?_,fun g hg=>?_⟩
 ·have:=mU f y fs; lia
 ·show pY ((pq f y fs).lookup g) (if g=f then some u else mA g)
  rw[oA]
  by_cases q:g=f
  ·rw[if_pos q,if_pos q]; exact ry
  ·rw[if_neg q,if_neg q]; exact r g
 ·by_cases q:g=f
  ·rw[q]; exact (nW f y fs).1
  ·refine (nW f y fs).2 g (wi g fun z=>hg ?_)
   show (if g=f then some u else mA g)=none
   rw[if_neg q]; exact z
theorem Inv.made (I:Inv X pins σ H s):Inv X pins σ (upd (upd H s.heap.objs.size (.own (s.heap.objs.size+1))) (s.heap.objs.size+1) (.ins C s.heap.objs.size []))
  {s with heap:=(s.heap.push Rj).push (RT C s.heap.objs.size) }:=by
 have e1:(s.heap.push Rj).get? s.heap.objs.size=some Rj:=O6 s.heap rfl
 have e2:((s.heap.push Rj).push (RT C s.heap.objs.size)).get? (s.heap.objs.size+1)=some (RT C s.heap.objs.size):=by
  have:=O6 (s.heap.push Rj) (o:=RT C s.heap.objs.size) rfl
  rwa [QX] at this
 have e3:(s.heap.push Rj).Ns s.heap.objs.size (fun _=>none):=⟨Rj,#[],_,e1,rfl,(fun e he=>absurd he (by simp)),fun _=>rfl⟩
 have I1:=I.laid (a:=s.heap.objs.size) (o:=.own (s.heap.objs.size+1)) (h':=s.heap.push Rj) (t':=s.toks) (fun b u q=>Ox _ q) (OJ _) ⟨_,e1⟩
 refine I1.laid (a:=s.heap.objs.size+1) (o:=.ins C s.heap.objs.size []) (t':=s.toks) (fun b u q=>Ox _ q) (Nat.le_of_eq (QX _ _)) ?_
 have ne:s.heap.objs.size≠s.heap.objs.size+1:=Pa (R6 _)
 refine⟨by rw[aN ne,ao],Ql _,ne,e2,fun _=>none,(Heap.Ns1.of_empty e3).at fun o q=>Ox _ q,fun _=>R9,fun y hy=>absurd rfl hy⟩
theorem Aa {prog:O9} {w:Qd} {env:Vb} {e:Expr} {f:Px} {pos:Ut} {s:Ov} {Q:Value->Ov->Prop} (hb:Vr e f env (QZ e env)=QZ e env)
  (h:O3 (O5 prog w) A (QZ e env) (fun o s₁=>O3 (O5 prog w) A (getAttr o f true) Q E s₁) E s):O3 (O5 prog w) A (QZ (.Attribute e f pos) env) Q E s :=
 Attribute_any_ h (by rw[arm_eval_Attribute,hb])
end
def Ny (K:O1) (ta:TE) (f:Px):TE:=fun σ H Q=>ta σ H fun x H1=>∃ a C dx fs v,x = .ref a/\H1 a=some (.ins C dx fs)/\Cls K C/\fM K C f/\fs.lookup f=some v/\Q v H1
def Oe (K:O1) (ta tv:TE) (f:Px):TS:=fun D σ H=>tv σ H fun y H1=>ta σ H1 fun x H2=>∃ a C dx fs,x = .ref a/\H2 a=some (.ins C dx fs)/\Cls K C/\fM K C f/\fs.length < 1000 ∧
 D.nx σ (upd H2 a (.ins C dx (pq f y fs)))
section
variable {X:Cx} {o e value:Expr} {f:Px} {pos pos' tpos:Ut} {ta tv:TE}
theorem J7 (he:PE X e ta) (hb:Vr e f X.env (QZ e X.env)=QZ e X.env):PE X (.Attribute e f pos) (Ny X.K ta f):=by
 intro pins s σ H Q I h
 refine Aa hb (thn (he pins s σ H _ I h) fun u s1 ⟨x,H1,I1,rx,a,C,dx,fs,v,ex,ea,c,n,l,q⟩=>?_)
 subst ex
 obtain rfl:u=Pg a:=rx
 exact yK I1 ea c n l fun u' s2 I2 ru=>⟨v,H1,I2,ru,q⟩
theorem jE (ha:PE X o ta) (hv:PE X value tv) (hs:V9 value (some (.Attribute o f pos')) pos.line X.env=pure false):PS X (.Assign [.Attribute o f pos'] value pos) (Oe X.K ta tv f):=by
 intro pins s σ H D I h
 refine Xb (thn (hv pins s σ H _ I h) fun u s1 ⟨y,H1,I1,ry,q⟩=>thn (ha pins s1 σ H1 _ I1 q) fun ov s2 ⟨x,H2,I2,rx,a,C,dx,fs,ex,ea,c,n,l,q2⟩=>?_) hs
 subst ex
 obtain rfl:ov=Pg a:=rx
 exact yC I2 ea c n l ry fun s3 I3=>⟨σ,_,I3,q2⟩
end
section
variable {X:Cx} {pins:List (Addr × Rx)} {σ:St} {H:Hp} {s:Ov} {A:Qc} {E:Value->Ov->Prop} {Q:Value->Ov->Prop} {c:Value} {b:Bool}
inductive ye (K:O1) (H:Hp):V->Value->Prop where
 | non:ye K H .non (.type "NoneType")
 | bl (x:Bool):ye K H (.bl x) (.type "bool")
 | int (i:Int):ye K H (.int i) (.type "int")
 | str (x:Px):ye K H (.str x) (.type "str")
 | flt (x:UInt64):ye K H (.flt x) (.type "float")
 | lst {a:Addr} {xs:List V} (e:H a=some (.lst xs)):ye K H (.ref a) (.type "list")
 | frz {a:Addr} {o:Rx} {xs:List V} (e:H a=some (.frz o (.lst xs))):ye K H (.ref a) (.type "list")
 | tup {a:Addr} {xs:List V} (e:H a=some (.tup xs)):ye K H (.ref a) (.type "tuple")
 | dK {a:Addr} {kvs:List (Key × V)} (e:H a=some (.dK kvs)):ye K H (.ref a) (.type "dict")
 | dT {a:Addr} {kvs:List (List Key × V)} (e:H a=some (.dT kvs)):ye K H (.ref a) (.type "dict")
 | ins {a C dx:Addr} {fs:List (Px × V)} (e:H a=some (.ins C dx fs)) (cl:Cls K C) (ha:Qz K (.ref C) "__class__" = some (some (.builtin "object.__class__")))
   (hn:PySem.W.specialIn K (.builtin "object.__class__") "__get__" = some (some (.builtin "getset_descriptor.__get__"))) (htk:PySem.W.takesIn K (.builtin "object.__class__")=some true)
   (hm:PySem.W.mroIn K C (.type "object")=some true):ye K H (.ref a) (.ref C)
theorem Ab {x:V} {u t:Value} (I:Inv X pins σ H s) (rx:RelV x u) (ty:ye X.K H x t) (e:PySem.W.kitOne X.K t c=some b) (h:∀ tk,Q (.bool b) { s with toks:=tk }) :
  O3 (O5 X.prog X.w) A (call (.builtin "isinstance") [u,c]) Q E s:=by
 cases ty with
 | non=>cases (show u=QJ from rx); exact Q6 PySem.W.kitx_none I.kIn R9 e (fun z=>nomatch z) h
 | bl y=>cases (show u=VG y from rx); exact Q6 PySem.W.kitx_bool I.kIn R9 e (fun z=>nomatch z) h
 | int i=>obtain⟨t,q⟩:=(show ∃ t,u=RQ i t from rx); cases q; exact Q6 PySem.W.kitx_int I.kIn R9 e (fun z=>nomatch z) h
 | str y=>obtain⟨t,q⟩:=(show ∃ t,u=Xh y t from rx); cases q; exact Q6 PySem.W.kitx_str I.kIn R9 e (fun z=>nomatch z) h
 | flt y=>obtain⟨t,q⟩:=(show ∃ t,u=Value.float y t from rx); cases q; exact Q6 PySem.W.kitx_float I.kIn R9 e (fun z=>nomatch z) h
 | @lst a xs ea =>
  cases (show u=Pg a from rx)
  obtain⟨_,_,n,_,h1⟩:=(show cU X.prog X.w H s.heap a (.lst xs) from I.hok a _ ea)
  exact Q6 PySem.W.kitx_list I.kIn ⟨_,h1,rfl⟩ e (fun z=>nomatch z) h
 | @frz a ob xs ea =>
  cases (show u=Pg a from rx)
  obtain⟨_,_,_,n,_,h1⟩:=(show cU X.prog X.w H s.heap a (.frz ob (.lst xs)) from I.hok a _ ea)
  exact Q6 PySem.W.kitx_list I.kIn ⟨_,h1,rfl⟩ e (fun z=>nomatch z) h
 | @tup a xs ea =>
  cases (show u=Pg a from rx)
  obtain⟨_,_,_,p⟩:=(show cU X.prog X.w H s.heap a (.tup xs) from I.hok a _ ea)
  obtain⟨o,h1,h2,_⟩:=p
  exact Q6 PySem.W.kitx_tuple I.kIn ⟨o,h1,h2⟩ e (fun z=>nomatch z) h
 | @dK a kvs ea =>
  cases (show u=Pg a from rx)
  obtain⟨_,_,vs,_,p⟩:=(show cU X.prog X.w H s.heap a (.dK kvs) from I.hok a _ ea)
  obtain⟨o,es,ep,h1,h2,_⟩:=p
  exact Q6 PySem.W.kitx_dict I.kIn ⟨o,h1,h2.1⟩ e (fun z=>nomatch z) h
 | @dT a kvs ea =>
  cases (show u=Pg a from rx)
  obtain⟨_,_,xs,_,o,es,ep,h1,h2,_⟩:=(show cU X.prog X.w H s.heap a (.dT kvs) from I.hok a _ ea)
  exact Q6 PySem.W.kitx_dict I.kIn ⟨o,h1,h2.1⟩ e (fun z=>nomatch z) h
 | @ins a C dx fs ea cl ha hn htk hm =>
  cases (show u=Pg a from rx)
  obtain⟨mA,O,_⟩:=qH I.hok ea
  obtain⟨od,J,_⟩:=O.look
  exact Q6 (PySem.W.kitx_own (cl.get _) cl.hd ha hn htk hm) I.kIn J e (fun z=>nomatch z) h
end
end L2
namespace L2
open PySem PySem.Spec PyProof.Rows
structure dG (k:Nat) (A:Qc):Prop where
 hd:A.handled=none
 dp:A.depth+3 * k+5 < recursionLimit
 un:A.units+16 * k+200 < cLine
theorem dG.mono {j k:Nat} {A:Qc} (r:dG k A) (h:j<=k):dG j A:=⟨r.hd,by have:=r.dp; lia,by have:=r.un; lia⟩
theorem dG.deeper {k:Nat} {A:Qc} (r:dG (k+1) A) (env:Vb):dG k (A.deeper env) :=
 ⟨r.hd,by have:=r.dp; show A.depth+1+3 * k+5 < _; lia,by have:=r.un; show A.units+3+16 * k+200 < _; lia⟩
theorem yh {A:Qc} {C:Addr} {us:List Value} {kw:List (Px × Value)}:(A.under (.builtin "type.__call__" ⟨.ref C::us,kw⟩)).depth=A.depth+1:=by
 first | rfl | simp [Around.under,Code.weight,Code.isCreation,Code.isGuard,Code.isCaller,Code.frames,Code.isFrame,guardIds]
theorem yG {A:Qc} {C:Addr} {us:List Value} {kw:List (Px × Value)}:(A.under (.builtin "type.__call__" ⟨.ref C::us,kw⟩)).units=A.units+1:=by
 first | rfl | simp [Around.under,Code.cUnits,Code.frames,Code.isFrame]
theorem dG.make {k:Nat} {A:Qc} (r:dG (k+1) A) (C:Addr) (us:List Value) (kw:List (Px × Value)):dG k (A.under (.builtin "type.__call__" ⟨.ref C::us,kw⟩)) :=
 ⟨r.hd,by have:=r.dp; rw[yh]; lia,by have:=r.un; rw[yG]; lia⟩
theorem dG.depth {k:Nat} {A:Qc} (r:dG k A):A.depth < recursionLimit:=by have:=r.dp; lia
theorem dG.La {k:Nat} {A:Qc} (r:dG k A):A.units < cLine:=by have:=r.un; lia
def Gp:TA:=fun _ H Q=>Q [] H
def Fb (ta:TE) (tr:TA):TA:=fun σ H Q=>ta σ H fun x H1=>tr σ H1 fun xs H2=>Q (x::xs) H2
section
variable {X:Cx} {e:Expr} {es:List Expr} {te:TE} {t:TA} {pos:Ut}
theorem ak:PA X [] Gp:=fun _ _ _ _ H Q I h=>Xa ⟨[],H,I,.nil,h⟩
theorem aa (ha:PE X e te) (hr:PA X es t) (hs:Pz (e::es) X.env=(false,QZ e X.env)::Pz es X.env:=by rfl):PA X (e::es) (Fb te t):=by
 intro pos pins s σ H Q I h
 rw[hs]
 show O3 _ _ (spliced ((false,QZ e X.env)::Rn pos (Pz es X.env))) _ _ s
 refine Ww (thn (ha pins s σ H _ I h) fun u s1 ⟨x,H1,I1,r1,q1⟩=>?_)
 exact thn (hr pos pins s1 σ H1 _ I1 q1) fun us s2 ⟨xs,H2,I2,r2,q2⟩=>⟨x::xs,H2,I2,.cons r1 r2,q2⟩
def Ng (t:TA):TE:=fun σ H Q=>t σ H fun xs H1=>xs.length<=sizeLine/\∀ p,H1 p=none->Q (.ref p) (upd H1 p (.tup xs))
def NT (t:TA):TE:=fun σ H Q=>t σ H fun xs H1=>xs.length<=sizeLine/\∀ p,H1 p=none->Q (.ref p) (upd H1 p (.lst xs))
theorem bM {x1} (h:PA X es t):PE X (.Tuple es x1 pos) (Ng t):=by
 intro pins s σ H Q I hq
 refine wpAny_Tuple_spliced (thn (h pos pins s σ H _ I hq) fun us s1 ⟨xs,H1,I1,r,z,q⟩=>⟨by rw[← r.length]; exact z,?_⟩)
 have hf:H1 s1.heap.objs.size=none:=I1.hok.fresh (OJ _)
 refine⟨.ref s1.heap.objs.size,upd H1 s1.heap.objs.size (.tup xs),I1.laid (t':=s1.toks) (fun b u e=>Ox _ e) (OJ _) ?_,rfl,q _ hf⟩
 exact⟨z,us,r,⟨_,O6 _ rfl,rfl,_,rfl⟩⟩
theorem cJ (h:PA X es t):PE X (.List es pos) (NT t):=by
 intro pins s σ H Q I hq
 refine wpAny_List_spliced (thn (h pos pins s σ H _ I hq) fun us s1 ⟨xs,H1,I1,r,z,q⟩=>⟨by rw[← r.length]; exact z,?_⟩)
 have hf:H1 s1.heap.objs.size=none:=I1.hok.fresh (OJ _)
 refine⟨.ref s1.heap.objs.size,upd H1 s1.heap.objs.size (.lst xs),I1.laid (t':=s1.toks) (fun b u e=>Ox _ e) (OJ _) ?_,rfl,q _ hf⟩
 exact⟨z,us,0,r,O6 _ rfl⟩
end
abbrev Sp:=List V->Hp->VK->XK->Prop
abbrev CXT:=List Vb->Hp->Ov->XK->Value->Ov->Prop
structure Ds (P:O9) (w:Qd) (K:O1) (mg:Px->Option Value) (base:Qo) (A:Qc) (outer:List Vb) (s:Ov) (H:Hp):Prop where
 frames:A.frames=some outer
 mod:Mod K mg base
 bs:∀ b o,base.get? b=some o->s.heap.get? b=some o/\H b=none
 bsz:base.objs.size<=s.heap.objs.size
 o4:s.heap.FunFrames base outer
 frf:∀ b∈frs outer,H b=none
 hok:HOk P w H s.heap
 bare:Vp s.gens
def CE (outer:List Vb) (P:O9) (w:Qd) (H:Hp) (s:Ov) (Q:VK) (u:Value) (s':Ov):Prop :=
 ∃ v H',s'.os=s.os/\Vp s'.gens/\Un (frs outer) [] H H' s.heap s'.heap/\HOk P w H' s'.heap/\RelV v u/\Q v H'
def CR (CX:CXT) (outer:List Vb) (P:O9) (w:Qd) (H:Hp) (s:Ov) (Q:VK) (E:XK) (r:Vg) (s':Ov):Prop :=
 match r with
 | .ok (.ret u)=>CE outer P w H s Q u s'
 | .ok _=>False
 | .error e=>CX outer H s E e s'
structure bK (P:O9) (w:Qd) (K:O1) (mg:Px->Option Value) (base:Qo) (CX:CXT) (k:Nat) (f:Addr) (fd:Qw) (ps:List Px) (sp:Sp):Prop where
 len:∀ vs H Q E,sp vs H Q E->vs.length=ps.length
 run:∀ (A:Qc) (outer:List Vb) (s:Ov) (H:Hp) (args:Args) (us:List Value) (vs:List V) (Q:VK) (E:XK),dG k A->Ds P w K mg base A outer s H->VL s fd args (ps.zip us)->Vals vs us->sp vs H Q E →
  QF (O5 P w) A (.call (.ref f) args) (CR CX outer P w H s Q E) s
theorem bK.mono {P:O9} {w:Qd} {K:O1} {mg:Px->Option Value} {base:Qo} {CX:CXT} {j k:Nat} {f:Addr} {fd:Qw} {ps:List Px} {sp:Sp} (F:bK P w K mg base CX j f fd ps sp) (h:j<=k) :
  bK P w K mg base CX k f fd ps sp:=⟨F.len,fun A outer s H args us vs Q E hr=>F.run A outer s H args us vs Q E (hr.mono h)⟩
theorem Ds.make {P:O9} {w:Qd} {K:O1} {mg:Px->Option Value} {base:Qo} {A:Qc} {outer:List Vb} {s:Ov} {H:Hp} (e:Ds P w K mg base A outer s H) (C:Addr) (us:List Value) (kw:List (Px × Value)) :
  Ds P w K mg base (A.under (.builtin "type.__call__" ⟨.ref C::us,kw⟩)) outer s H:=⟨by first | exact e.frames | (simpa [Around.under,Code.envs,Code.isFrame,pushEnvs] using e.frames),e.mod,e.bs,e.bsz,e.o4,e.frf,e.hok,e.bare⟩
section
variable {X:Cx} {pins:List (Addr × Rx)} {σ:St} {H:Hp} {s s':Ov}
theorem Inv.env0 (I:Inv X pins σ H s):Ds X.prog X.w X.K X.mg X.base X.A X.stack s H :=
 ⟨I.ok.frames,I.ok.mod,I.bs,PX I.ok.bsz I.sz,I.stack,I.vy,I.hok,I.bare⟩
theorem Inv.after {Q:VK} {u:Value} (I:Inv X pins σ H s) (h:CE X.stack X.prog X.w H s Q u s'):EP X pins σ Q u s':=by
 obtain⟨v,H',os,bare,un,hok,r,q⟩:=h
 obtain⟨hh,g,d,t,os'⟩:=s'
 obtain rfl:os'=s.os:=os
 exact⟨v,H',I.call (h':=hh) (g':=g) (d':=d) (t':=t) (ch:=[]) un hok bare (fun b z=>absurd z (by simp)),r,q⟩
end
def Dk (sp:Sp) (dvs:List V) (E:XK) (t:TA):TE:=fun σ H Q=>t σ H fun vs H1=>sp (vs++dvs) H1 Q E
def zL (C:Addr) (m:Px) (sp:Sp) (dvs:List V) (E:XK) (ta:TE) (t:TA):TE:=fun σ H Q=>ta σ H fun x H1=>∃ a dx fs,x = .ref a/\H1 a=some (.ins C dx fs)/\fs.lookup m=none ∧
 t σ H1 fun vs H2=>sp (x::(vs++dvs)) H2 Q E
def Ew (C:Addr) (sp:Sp) (dvs:List V) (E:XK) (t:TA):TE:=fun σ H Q=>t σ H fun vs H1=>∀ x dx,H1 x=none->H1 dx=none->dx≠x →
 sp (.ref x::(vs++dvs)) (upd (upd H1 dx (.own x)) x (.ins C dx [])) (fun v H2=>v = .non/\Q (.ref x) H2) E
def Binds (K:O1) (fd:Qw) (ps:List Px) (ds:List Value):Prop :=
 ∀ (s:Ov) (us:List Value),K.In s.heap->(us++ds).length=ps.length->VL s fd ⟨us,[]⟩ (ps.zip (us++ds))
theorem Binds.all {K:O1} {fd:Qw} {ps:List Px} (h:∀ us:List Value,us.length=ps.length->TX fd ⟨us,[]⟩=pure (ps.zip us)):Binds K fd ps []:=fun s us _ hl=>by
 rw[Q8] at hl ⊢
 exact .of_eq (h us hl)
def Passes (CX:CXT) (X:Cx) (E:XK):Prop:=∀ (pins:List (Addr × Rx)) (σ:St) (H:Hp) (s:Ov) (e:Value) (s':Ov),Inv X pins σ H s->CX X.stack H s E e s'->X.xe e s'
section
variable {X:Cx} {CX:CXT} {k:Nat} {f C:Addr} {fd:Qw} {ps:List Px} {sp:Sp} {dvs:List V} {ds:List Value} {E:XK} {x m:Px} {p pos apos:Ut} {e o:Expr} {es:List Expr} {ta:TE} {t:TA}
theorem xV {pins:List (Addr × Rx)} {σ:St} {H:Hp} {s:Ov} {Q:VK} {us:List Value} {vs:List V} (F:bK X.prog X.w X.K X.mg X.base CX k f fd ps sp) (hr:dG k X.A) (hb:Binds X.K fd ps ds) (hd:Vals dvs ds) (hx:Passes CX X E)
  (I:Inv X pins σ H s) (r:Vals vs us) (h:sp (vs++dvs) H Q E):O3 (O5 X.prog X.w) X.A (call (.ref f) us) (EP X pins σ Q) X.xe s:=by
 have r2:Vals (vs++dvs) (us++ds):=r.append hd
 have hl:(us++ds).length=ps.length:=by rw[← r2.length]; exact F.len _ _ _ _ h
 refine Td (RG (F.run X.A X.stack s H ⟨us,[]⟩ (us++ds) (vs++dvs) Q E hr I.env0 (hb s us I.kIn hl) r2 h) fun r s' hq=>?_)
 cases r with
 | error e=>exact hx pins σ H s e s' I hq
 | ok fl =>
  cases fl with
  | ret u=>exact I.after hq
  | next=>exact Qi hq
  | brk=>exact Qi hq
  | cont=>exact Qi hq
theorem Cq (F:bK X.prog X.w X.K X.mg X.base CX k f fd ps sp) (hr:dG k X.A) (hg:Gl X x) (hm:X.mg x=some (.ref f)) (hk:QW X.K (.ref f)=true) (hb:Binds X.K fd ps ds) (hd:Vals dvs ds) (hx:Passes CX X E)
  (ha:PA X (e::es) t) (hdb:(x == ("__debug__" : Px))=false:=by decide) (he:Pz (e::es) X.env=(false,QZ e X.env)::Pz es X.env:=by rfl) (hpl:(Rn pos (Pz es X.env)).any (·.1)=false:=by rfl) :
  PE X (.Call (.Name x p) (e::es) [] pos) (Dk sp dvs E t):=by
 intro pins s σ H Q I h
 refine QH (gP I hg hm ?_ hdb)
 refine Uc (h₀:=X.base) I.ok.mod.kin hk (thn (ha pos pins s σ H _ I h) fun us s1 ⟨vs,H1,I1,r,q⟩=>⟨I1.kIn,?_⟩) he hpl
 exact xV F hr hb hd hx I1 r q
theorem zR {pl:Sem Bool} (he:PE X o ta) (c:Cls X.K C) (hm:Meth X.K C m f) (F:bK X.prog X.w X.K X.mg X.base CX k f fd ps sp) (hr:dG k X.A) (hb:Binds X.K fd ps ds) (hd:Vals dvs ds) (hx:Passes CX X E) (ha:PA X (e::es) t)
  (hst:Pz (e::es) X.env=(false,QZ e X.env)::Pz es X.env:=by rfl) (hpl:(Rn pos (Pz es X.env)).any (·.1)=false:=by rfl)
  (ht:QZ (.Call (.Attribute o m apos) (e::es) [] pos) X.env=(do
   let ov ← QZ o X.env
   Tu apos.atName
   let (f,first) ← T6 [ov] (Ux ov m pl)
   V6 pos f first (Rn pos (Pz (e::es) X.env)) (Vx pos (Ue [] X.env))):=by rfl) :
  PE X (.Call (.Attribute o m apos) (e::es) [] pos) (zL C m sp dvs E ta t):=by
 intro pins s σ H Q I h
 refine Uu (pl:=pl) (thn (he pins s σ H _ I h) fun u s1 ⟨x,H1,I1,rx,a,dx,fs,ex,ea,l,q⟩=>?_) ht
 subst ex
 obtain rfl:u=Pg a:=rx
 refine pF I1 ea c hm l ?_
 refine Uc (first:=[.ref a]) (h₀:=X.base) I.ok.mod.kin hm.kp (thn (ha pos pins s1 σ H1 _ I1 q) fun us s2 ⟨vs,H2,I2,r,q2⟩=>⟨I2.kIn,?_⟩) hst hpl
 exact xV (us:=.ref a::us) (vs:=.ref a::vs) F hr hb hd hx I2 (.cons rfl r) q2
theorem Dv {pl:Sem Bool} (he:PE X o ta) (c:Cls X.K C) (hm:Meth X.K C m f) (F:bK X.prog X.w X.K X.mg X.base CX k f fd ps sp) (hr:dG k X.A) (hb:Binds X.K fd ps ds) (hd:Vals dvs ds) (hx:Passes CX X E)
  (ht:QZ (.Call (.Attribute o m apos) [] [] pos) X.env=(do
   let ov ← QZ o X.env
   Tu apos.atName
   let (f,first) ← T6 [ov] (Ux ov m pl)
   V6 pos f first (Rn pos (Pz [] X.env)) (Vx pos (Ue [] X.env))):=by rfl) :
  PE X (.Call (.Attribute o m apos) [] [] pos) (zL C m sp dvs E ta Gp):=by
 intro pins s σ H Q I h
 refine Uu (pl:=pl) (thn (he pins s σ H _ I h) fun u s1 ⟨x,H1,I1,rx,a,dx,fs,ex,ea,l,q⟩=>?_) ht
 subst ex
 obtain rfl:u=Pg a:=rx
 refine pF I1 ea c hm l ?_
 exact Wg (first:=[.ref a]) I1.kIn hm.kp (xV (us:=[.ref a]) (vs:=[.ref a]) F hr hb hd hx I1 (.cons rfl .nil) q)
structure Mk (K:O1) (C f:Addr):Prop where
 makes:Xy K C=true
 init:Qz K (.ref C) "__init__" = some (some (.ref f))
 fn:WX K (.ref f)=true
 kp:QW K (.ref C)=true
theorem wI {pins:List (Addr × Rx)} {σ:St} {H:Hp} {s:Ov} {Q:VK} {us:List Value} {vs:List V} (M:Mk X.K C f) (F:bK X.prog X.w X.K X.mg X.base CX k f fd ps sp) (hr:dG (k+1) X.A) (hb:Binds X.K fd ps ds) (hd:Vals dvs ds)
  (hx:Passes CX X E) (I:Inv X pins σ H s) (r:Vals vs us)
  (h:∀ x dx,H x=none->H dx=none->dx≠x->sp (.ref x::(vs++dvs)) (upd (upd H dx (.own x)) x (.ins C dx [])) (fun v H2=>v = .non/\Q (.ref x) H2) E) :
  O3 (O5 X.prog X.w) X.A (call (.ref C) us) (EP X pins σ Q) X.xe s:=by
 have hq:=h (s.heap.objs.size+1) s.heap.objs.size (I.hok.fresh (Rm _)) (I.hok.fresh (OJ _)) (Pa (R6 _))
 have I2:=Inv.made (C:=C) I
 have r2:Vals (V.ref (s.heap.objs.size+1)::(vs++dvs)) (Pg (s.heap.objs.size+1)::(us++ds)):=.cons rfl (r.append hd)
 have hl:(Pg (s.heap.objs.size+1)::us++ds).length=ps.length:=by
  have e:=r2.length
  rw[F.len _ _ _ _ hq] at e
  exact e.symm
 refine Td (DG (f:=f) I.kIn M.makes M.init (beq_iff_eq.mp M.fn) (RG (F.run _ X.stack _ _ ⟨Pg (s.heap.objs.size+1)::us,[]⟩ (Pg (s.heap.objs.size+1)::(us++ds)) _ _ E (hr.make C us [])
  (I2.env0.make C us []) (hb _ (Pg (s.heap.objs.size+1)::us) I2.kIn hl) r2 hq) fun r s' hq'=>?_))
 cases r with
 | error e=>exact hx pins σ _ _ e s' I2 hq'
 | ok fl =>
  cases fl with
  | ret u =>
   obtain⟨v,H',I3,rv,ev,q3⟩:=I2.after hq'
   subst ev
   exact⟨rv,⟨V.ref (s.heap.objs.size+1),H',I3,rfl,q3⟩⟩
  | next=>exact Qi hq'
  | brk=>exact Qi hq'
  | cont=>exact Qi hq'
theorem Ip (M:Mk X.K C f) (F:bK X.prog X.w X.K X.mg X.base CX k f fd ps sp) (hr:dG (k+1) X.A) (hg:Gl X x) (hm:X.mg x=some (.ref C)) (hb:Binds X.K fd ps ds) (hd:Vals dvs ds) (hx:Passes CX X E)
  (ha:PA X (e::es) t) (hdb:(x == ("__debug__" : Px))=false:=by decide) (he:Pz (e::es) X.env=(false,QZ e X.env)::Pz es X.env:=by rfl) (hpl:(Rn pos (Pz es X.env)).any (·.1)=false:=by rfl) :
  PE X (.Call (.Name x p) (e::es) [] pos) (Ew C sp dvs E t):=by
 intro pins s σ H Q I h
 refine QH (gP I hg hm ?_ hdb)
 refine Uc (h₀:=X.base) I.ok.mod.kin M.kp (thn (ha pos pins s σ H _ I h) fun us s1 ⟨vs,H1,I1,r,q⟩=>⟨I1.kIn,?_⟩) he hpl
 exact wI M F hr hb hd hx I1 r q
theorem Fe (M:Mk X.K C f) (F:bK X.prog X.w X.K X.mg X.base CX k f fd ps sp) (hr:dG (k+1) X.A) (hg:Gl X x) (hm:X.mg x=some (.ref C)) (hb:Binds X.K fd ps ds) (hd:Vals dvs ds) (hx:Passes CX X E)
  (hdb:(x == ("__debug__" : Px))=false:=by decide):PE X (.Call (.Name x p) [] [] pos) (Ew C sp dvs E Gp):=by
 intro pins s σ H Q I h
 refine QH (gP I hg hm ?_ hdb)
 exact Wg I.kIn M.kp (wI (us:=[]) M F hr hb hd hx I .nil h)
end
section
variable {X:Cx} {CX:CXT} {k:Nat} {f C:Addr} {fd:Qw} {ps ks:List Px} {sp:Sp} {E:XK} {x m:Px} {p pos apos kpos:Ut} {e o:Expr} {es:List Expr} {kws:List Keyword} {te ta:TE} {t tk:TA} {nm:Option Px}
variable {g:List Value->List Value->List Value} {gV:List V->List V->List V}
end
structure aM (N P:List Px) (sc:RD):Prop where
 kind:sc.kind = .function
 co:sc.isCoroutine=false
 gen:sc.isGenerator=false
 nd:N.Nodup
 pre:N.take P.length=P
 par:∀ x∈P,sc.names.lookup x=some .local∨sc.names.lookup x=some .cell
 nofree:∀ y∈sc.names,y.2≠.free
theorem rP {kindOf:Px->Option Vi} {x:Px}:∀ {binds:List (Px × Value)} {m:Px->Option Value},(∀ v,(x,v) ∉ binds)->bindL kindOf binds m x=m x
 | [],_,_=>rfl
 | (n,v)::r,m,h=>by
  unfold bindL
  rw[rP fun w hw=>h w (Pb _ hw)]
  split
  ·have:x≠n:=by rintro rfl; exact h v Ph
   simp [this]
  ·rfl
theorem rH {kindOf:Px->Option Vi} {x:Px}:∀ {binds:List (Px × Value)} {m:Px->Option Value},(∀ v,(x,v) ∉ binds)->bindC kindOf binds m x=m x
 | [],_,_=>rfl
 | (n,v)::r,m,h=>by
  unfold bindC
  rw[rH fun w hw=>h w (Pb _ hw)]
  split
  ·rfl
  ·have:x≠n:=by rintro rfl; exact h v Ph
   simp [this]
theorem uK {kindOf:Px->Option Vi} {x:Px} {v:Value}:∀ {P:List Px} {vs:List Value} {i:Nat} {m:Px->Option Value},P.Nodup->P[i]? = some x->vs[i]? = some v->kindOf x=some .local →
  bindL kindOf (P.zip vs) m x=some v
 | [],_,_,_,_,h,_,_=>by simp at h
 | _::_,[],_,_,_,_,h,_=>by simp at h
 | p::P,w::vs,0,m,nd,h1,h2,hk=>by
  simp at h1 h2; subst h1; subst h2
  show bindL kindOf ((p,w)::P.zip vs) m p=_
  unfold bindL
  rw[rP fun v hv=>(List.nodup_cons.mp nd).1 (V1 hv).1,if_pos hk]
  simp
 | p::P,w::vs,i+1,m,nd,h1,h2,hk=>by
  show bindL kindOf ((p,w)::P.zip vs) m x=_
  unfold bindL
  exact uK (i:=i) (List.nodup_cons.mp nd).2 (by simpa using h1) (by simpa using h2) hk
theorem sE {kindOf:Px->Option Vi} {x:Px} {v:Value}:∀ {P:List Px} {vs:List Value} {i:Nat} {m:Px->Option Value},P.Nodup->P[i]? = some x->vs[i]? = some v->kindOf x≠some .local →
  bindC kindOf (P.zip vs) m x=some v
 | [],_,_,_,_,h,_,_=>by simp at h
 | _::_,[],_,_,_,_,h,_=>by simp at h
 | p::P,w::vs,0,m,nd,h1,h2,hk=>by
  simp at h1 h2; subst h1; subst h2
  show bindC kindOf ((p,w)::P.zip vs) m p=_
  unfold bindC
  rw[rH fun v hv=>(List.nodup_cons.mp nd).1 (V1 hv).1,if_neg hk]
  simp
 | p::P,w::vs,i+1,m,nd,h1,h2,hk=>by
  show bindC kindOf ((p,w)::P.zip vs) m x=_
  unfold bindC
  exact sE (i:=i) (List.nodup_cons.mp nd).2 (by simpa using h1) (by simpa using h2) hk
def start (N:List Px) (vs:List V):St:=vs.map some++QL (N.length - vs.length) none
def vQ (CX:CXT) (P:O9) (w:Qd) (K:O1) (mg:Px->Option Value) (base:Qo) (N:List Px) (qual:Px) (scope:RD) (f:Addr) (cd:Value) (A:Qc) (outer:List Vb) (s:Ov) (H:Hp) (E:XK):Cx where
 prog:=P
 w:=w
 K:=K
 mg:=mg
 base:=base
 A:=A.deeper (envOfC qual scope s.heap.objs.size f cd)
 N:=N
 s₀:=s
 H₀:=H
 env:=envOfC qual scope s.heap.objs.size f cd
 outer:=outer
 stack:=envOfC qual scope s.heap.objs.size f cd::outer
 ex:=[]
 calm:=true
 fn:=fun _=>true
 pn:=[]
 xe:=fun e s'=>O3 (O5 P w) (A.deeper (envOfC qual scope s.heap.objs.size f cd)) (leaving (envOfC qual scope s.heap.objs.size f cd) e) (fun _ s''=>CX outer H s E e s'') (fun e' s''=>CX outer H s E e' s'') s'
theorem wO {sc:RD} {n:Nat} {x:Px} (h:sc.names.lookup x=some .cell):∃ c,(cellsFrom n sc.names []).lookup x=some c:=by
 have q:=PySem.W.cellsFrom_some sc.names n [] (.inl h)
 exact Option.isSome_iff_exists.mp q
theorem rK {CX:CXT} {P:O9} {w:Qd} {K:O1} {mg:Px->Option Value} {base:Qo} {N ps:List Px} {qual:Px} {scope:RD} {f:Addr} {cd:Value} {A:Qc} {outer:List Vb} {s s1:Ov} {H:Hp} {E:XK} {us:List Value} {vs:List V}
  (S:aM N ps scope) (hd:A.handled=none) (e0:Ds P w K mg base A outer s H) (hl:vs.length=ps.length) (r:Vals vs us)
  (x:InCallC s s.heap.objs.size (bindL (envOfC qual scope s.heap.objs.size f cd).kindOf (ps.zip us) fun _=>none) (cellsFrom (s.heap.objs.size+1) scope.names []) (bindC (envOfC qual scope s.heap.objs.size f cd).kindOf (ps.zip us) fun _=>none) s1) :
  Inv (vQ CX P w K mg base N qual scope f cd A outer s H E) [] (start N vs) H s1:=by
 have hpl:ps.length<=N.length:=by have:=congrArg List.length S.pre; rw[Qf] at this; lia
 obtain⟨h1,tk,rfl,hk⟩:=x.done
 have noA:∀ b:Addr,b ∉ (vQ CX P w K mg base N qual scope f cd A outer s H E).ex:=fun b z=>absurd (show b∈([]:List Addr) from z) (by simp)
 refine⟨⟨e0.mod,S.kind,rfl,rfl,OJ _,fun y z c h1 h2=>?_,fun y hy=>?_,fun y c _ h=>?_,fun _=>hd,Around.frames_deeper e0.frames,.inr ⟨rfl,rfl⟩,fun b z=>absurd z (noA b),e0.bs,e0.bsz,fun b _ _=>noA b,fun b z=>absurd z (noA b),e0.o4,e0.frf⟩,
  rfl,e0.bare,Un.kept hk,⟨_,x.toInCall.ns,fun i y v h1 h2 h3=>?_⟩,fun y c h=>⟨_,x.cell y c h⟩,e0.hok.fresh (OJ _),fun y c h=>?_,fun p hp=>absurd (show p∈([]:List (Addr × Rx)) from hp) (by simp),e0.hok.kept hk,?_⟩
 ·exact name_of_addr x.apart (Qt h1) (Qt h2)
 ·have hy:scope.names.lookup y=some .cell∨scope.names.lookup y=some .free:=hy
  rcases hy with hy | hy
  ·exact wO hy
  ·exact absurd rfl (S.nofree _ (Qt hy))
 ·exact Q7 (x.above y c (Qt h))
 ·have hi:i < vs.length:=by
   unfold start at h2
   by_cases hi:i < vs.length
   ·exact hi
   ·rw[Vj (by simpa using hi)] at h2
    rw[VB] at h2
    split at h2 <;> cases h2
  have ha:vs[i]? = some v:=by
   unfold start at h2
   rw[List.getElem?_append_left (by simpa using hi),Pk] at h2
   cases e:vs[i]? with
   | none=>rw[e] at h2; cases h2
   | some a=>rw[e] at h2; cases h2; rfl
  obtain⟨u,hu,rv⟩:=r.get ha
  have hp:ps[i]? = some y:=by
   rw[← S.pre,List.getElem?_take_of_lt (by lia)]; exact h1
  have ndP:ps.Nodup:=by rw[← S.pre]; exact S.nd.sublist (List.take_sublist _ _)
  refine⟨u,rv,?_⟩
  rcases S.par y (Qe hp) with k | k
  ·exact .inl ⟨k,uK ndP hp hu k⟩
  ·obtain⟨c,e⟩:=wO (n:=s.heap.objs.size+1) k
   refine .inr ⟨.inl k,c,e,?_⟩
   have q:=x.cell y c e
   rw[sE ndP hp hu (by show scope.names.lookup y≠_; rw[k]; decide)] at q
   exact q
 ·exact e0.hok.fresh (Q7 (x.above y c (Qt h)))
 ·unfold start
  show _=N.length
  rw[Qa,Ow,SJ]
  lia
theorem G3 {CX:CXT} {P:O9} {w:Qd} {K:O1} {mg:Px->Option Value} {base:Qo} {k:Nat} {f:Addr} {name qual:Px} {params:Wd} {body:List Stmt} {scope:RD} {dV kV doc pm cdv ct oc:Value} {an od:Option Addr}
  {osl:Array (Option Value)} {N ps:List Px} {sp:Sp} (lk:K.lookup f=some ⟨oc,od,.func (RV name qual params body scope dV kV doc pm an cdv ct),osl⟩) (hcd:Tp K cdv qual=true) (S:aM N ps scope)
  (len:∀ vs H Q E,sp vs H Q E->vs.length=ps.length)
  (hbody:∀ (A:Qc) (outer:List Vb) (s:Ov) (H:Hp) (vs:List V) (Q:VK) (E:XK),dG k (A.deeper (envOfC qual scope s.heap.objs.size f cdv))->sp vs H Q E →
   ∃ t,PSs (vQ CX P w K mg base N qual scope f cdv A outer s H E) body t/\t { nx:=fun _ H'=>Q .non H',rt:=Q } (start N vs) H) :
  bK P w K mg base CX (k+1) f (RV name qual params body scope dV kV doc pm an cdv ct) ps sp:=by
 refine⟨len,fun A outer s H args us vs Q E hr e0 hb r hsp=>?_⟩
 have hl:=len _ _ _ _ hsp
 have KX:K.In s.heap:=e0.mod.kin.keeps fun b o e=>(e0.bs b o e).1
 have lim:s.heap.NoLimit:=e0.mod.nolimit.keeps fun b o e=>(e0.bs b o e).1
 have hkind:∀ y∈ps.zip us,scope.names.lookup y.1=some .local∨(scope.names.lookup y.1=some .cell/\((cellsFrom (s.heap.objs.size+1) scope.names []).lookup y.1).isSome=true):=fun⟨n,v⟩ hy=>by
  rcases S.par n (V1 hy).1 with q | q
  ·exact .inl q
  ·exact .inr ⟨q,PySem.W.cellsFrom_some _ _ _ (.inl q)⟩
 refine codeAny_call_function hr.depth (KX _ _ lk) rfl S.co S.gen rfl (PySem.W.codeRec_of KX hcd) (hb _ _ _ _ ?_)
 refine wpAny_newFunctionEnv_cells S.kind hkind fun env he s1 x=>?_
 subst he
 refine⟨lim.keeps x.toInCall.keep,codeAny_func ?_⟩
 obtain⟨t,ht,hq⟩:=hbody A outer s H vs Q E (hr.deeper _) hsp
 have I:Inv (vQ CX P w K mg base N qual scope f cdv A outer s H E) [] (start N vs) H s1:=rK S hr.hd e0 hl r x
 refine Qm (ht [] s1 (start N vs) H _ I hq) (fun fl s' hs=>?_) fun e s' hs=>hs
 have fin:∀ {σ':St} {H':Hp} {v:V} {u:Value},Inv (vQ CX P w K mg base N qual scope f cdv A outer s H E) [] σ' H' s'->RelV v u->Q v H'->CE outer P w H s Q u s' :=
  fun {σ' H' v u} J rv q=>⟨v,H',J.os,J.bare,J.base,J.hok,rv,q⟩
 cases fl with
 | ret u =>
  obtain⟨v,σ',H',J,rv,q⟩:=hs
  exact fin J rv q
 | next =>
  obtain⟨σ',H',J,q⟩:=hs
  exact fin (v:=V.non) (u:=QJ) J rfl q
 | brk =>
  obtain⟨_,_,_,q⟩:=hs
  exact Qi q
 | cont =>
  obtain⟨_,_,_,q⟩:=hs
  exact Qi q
end L2
namespace L2
open PySem PySem.Spec PyProof.Rows
section
variable {X:Cx} {x:Px} {p pos:Ut} {e:Expr} {es:List Expr} {t:TA} {id T:String} {r:List V->Hp->VK->Prop}
def tCB (r:List V->Hp->VK->Prop) (t:TA):TE:=fun σ H Q=>t σ H fun vs H1=>r vs H1 Q
theorem aC (hc:fL X (.builtin id) r) (hg:Gl X x) (hm:X.mg x=none) (hv:Qn x=some (.builtin id)) (ha:PA X (e::es) t) (hn:x≠"__name__":=by decide) (hdb:(x == ("__debug__" : Px))=false:=by decide)
  (he:Pz (e::es) X.env=(false,QZ e X.env)::Pz es X.env:=by rfl) (hpl:(Rn pos (Pz es X.env)).any (·.1)=false:=by rfl):PE X (.Call (.Name x p) (e::es) [] pos) (tCB r t):=by
 intro pins s σ H Q I h
 refine QH (jO I hg hm hv ?_ hn hdb)
 exact Xj (thn (ha pos pins s σ H _ I h) fun us s1 ⟨vs,H1,I1,r1,q1⟩=>hc pins s1 σ H1 vs us Q I1 r1 q1) he hpl
theorem cu (hc:fL X (.type T) r) (hg:Gl X x) (hm:X.mg x=none) (hv:Qn x=some (.type T)) (ha:PA X (e::es) t) (hn:x≠"__name__":=by decide) (hdb:(x == ("__debug__" : Px))=false:=by decide)
  (he:Pz (e::es) X.env=(false,QZ e X.env)::Pz es X.env:=by rfl) (hpl:(Rn pos (Pz es X.env)).any (·.1)=false:=by rfl):PE X (.Call (.Name x p) (e::es) [] pos) (tCB r t):=by
 intro pins s σ H Q I h
 refine QH (jO I hg hm hv ?_ hn hdb)
 exact SX (thn (ha pos pins s σ H _ I h) fun us s1 ⟨vs,H1,I1,r1,q1⟩=>hc pins s1 σ H1 vs us Q I1 r1 q1) he hpl
end
end L2
namespace HT
open PySem PyProof.Rows
section
open PySem.SeqAt
open PySem.AutoSeq1 (wpAny_loadPart')
open PySem.MeetsSeq PySem.MeetsSeq2 PySem.MeetsSeq3
end
section
variable {prog:O9} {w:Qd} {A:Qc} {E:Value->Ov->Prop} {s:Ov}
theorem IK {t b:Addr} {vs ws:List Value} {Q:Value->Ov->Prop} (ht:IsTup s.heap t vs.toArray) (hb:IsTup s.heap b ws.toArray) (hv:vs≠[])
  (h1:ws=[]->Q (.ref t) s) (h2:ws≠[]->Q (.ref s.heap.objs.size) { s with heap:=s.heap.push { cls:=.type "tuple",data:=.seq (vs++ws).toArray } })
  (hsz:vs.length+ws.length<=sizeLine):O3 (O5 prog w) A (Ul .Add (.ref t) (.ref b)) Q E s:=by
 obtain⟨⟨cls,dd,data,sl⟩,ho,hc,n,hd⟩:=id ht
 obtain⟨⟨cls2,dd2,data2,sl2⟩,ho2,hc2,n2,hd2⟩:=id hb
 simp only at hc hd hc2 hd2
 subst hc hd hc2 hd2
 have e:vs.toArray++ws.toArray=(vs++ws).toArray:=by simp
 by_cases hw:ws=[]
 ·exact concat_meets ⟨_,ho,rfl⟩ ⟨_,ho2,rfl⟩ Xg seq_tuple_add VH Vy (Vt _ _)
   (tuple_addW1 t b vs.toArray ws.toArray n n2 dd dd2 sl sl2 (by simpa using hv) (by simp [hw])) ⟨ho,ho2,h1 hw⟩
 ·refine concat_meets ⟨_,ho,rfl⟩ ⟨_,ho2,rfl⟩ Xg seq_tuple_add VH Vy (Vt _ _)
   (tuple_addW2 t b vs.toArray ws.toArray n n2 dd dd2 sl sl2 (by simpa using hv) (by simpa using hw) (by rw[Pj,Pj]; exact hsz)) ⟨ho,ho2,?_⟩
  rw[e]
  exact h2 hw
def sIx (n d:Nat):Option Int->Nat
 | none=>d
 | some v=>if v < 0 then (v+(n:Int)).toNat else min v.toNat n
theorem Kp (n d:Nat) (hd:d<=n) (o:Option Int):sIx n d o<=n:=by
 cases o with
 | none=>exact hd
 | some v =>
  show (if v < 0 then (v+(n:Int)).toNat else min v.toNat n)<=n
  by_cases hv:v < 0
  ·rw[if_pos hv]; lia
  ·rw[if_neg hv]; exact Nat.min_le_right _ _
theorem BP (v:Int) (n d:Nat):(if v < 0 then max (v+(n:Int)) 0 else min v (n:Int))=((sIx n d (some v):Nat):Int):=by
 show (if v < 0 then max (v+(n:Int)) 0 else min v (n:Int))=(((if v < 0 then (v+(n:Int)).toNat else min v.toNat n):Nat):Int)
 by_cases hv:v < 0
 ·simp only[if_pos hv]; lia
 ·simp only[if_neg hv]; lia
theorem yR (lo hi:Option Int) (n:Nat):Vn lo hi 1 (n:Int)=(((sIx n 0 lo:Nat):Int),((sIx n n hi:Nat):Int)):=by
 have h1:¬ ((1:Int) < 0):=by lia
 unfold Vn
 simp only[h1,if_false]
 refine Prod.ext ?_ ?_
 ·cases lo with
  | none=>rfl
  | some v=>exact BP v n 0
 ·cases hi with
  | none=>rfl
  | some v=>exact BP v n n
theorem yW (i j:Nat):TQ (i:Int) (j:Int) 1=j - i:=by
 unfold TQ
 have h1:(1:Int) > 0:=by lia
 simp only[h1,if_true,Int.ediv_one]
 split <;> lia
theorem o8 {v:Value} {o:Option Int} {Q:Option Int->Ov->Prop} (p:Xn v o) (h:Q o s):O3 (O5 prog w) A (Builtin.Slice.slicePartIndex v) Q E s:=by
 cases p with
 | none=>exact slicePart_none h
 | int i t=>exact slicePart_int h
theorem lL {sl:Addr} {vl vu:Value} {lo hi:Option Int} {n:Nat} {Q:Int × Int × Nat->Ov->Prop} (hs:s.heap.IsSliceOf sl vl vu .none) (pl:Xn vl lo) (pu:Xn vu hi)
  (h:Q (((sIx n 0 lo:Nat):Int),1,sIx n n hi - sIx n 0 lo) s):O3 (O5 prog w) A (Builtin.Slice.sliceApplied (.ref sl) (pure (n:Int))) Q E s:=by
 obtain⟨os,hos,hcs,hds⟩:=id hs
 unfold Builtin.Slice.sliceApplied Builtin.Slice.sliceFields
 refine Ou (Ou (RM hos hds (x:=vl) rfl (Ou (RM hos hds (x:=vu) rfl (Ou (RM hos hds (x:=.none) rfl (Oz ?_)))))))
 refine Ou (slicePart_none ?_)
 show O3 _ _ (if ((1:Int) == 0)=true then _ else _) _ _ s
 rw[if_neg (by decide)]
 refine Ou (o8 pl (Ou (o8 pu (Ou (Oz ?_)))))
 show O3 _ _ (match Vn lo hi 1 (n:Int) with | (lo,hi)=>pure (lo,(1:Int),TQ lo hi 1)) _ _ s
 rw[yR lo hi n]
 show O3 _ _ (pure (((sIx n 0 lo:Nat):Int),(1:Int),TQ ((sIx n 0 lo:Nat):Int) ((sIx n n hi:Nat):Int) 1)) _ _ s
 rw[yW]
 exact Oz h
theorem Du (xs:Array Value) (i k:Nat):((Rk k).filterMap fun (m:Nat)=>xs[((i:Int)+(m:Int) * 1).toNat]?).toArray=((xs.toList.drop i).take k).toArray:=by
 have e:(fun (m:Nat)=>xs[((i:Int)+(m:Int) * 1).toNat]?)=fun m=>xs[i+m]?:=by
  funext m
  have:((i:Int)+(m:Int) * 1).toNat=i+m:=by lia
  rw[this]
 rw[e]
 have:=pick_run xs i k
 rw[List.filterMap_map] at this
 have e2:((fun x=>xs[x]?) ∘ fun x=>i+x)=fun m=>xs[i+m]?:=rfl
 rw[e2] at this
 rw[this]
theorem j8 {t sl:Addr} {items:Array Value} {vl vu:Value} {lo hi:Option Int} {Q:Value->Ov->Prop} (ht:IsTup s.heap t items) (hs:s.heap.IsSliceOf sl vl vu .none) (pl:Xn vl lo) (pu:Xn vu hi)
  (hw:¬ (sIx items.size 0 lo=0/\sIx items.size items.size hi=items.size))
  (h:Q (.ref s.heap.objs.size) { s with heap:=s.heap.push { cls:=.type "tuple",data:=.seq ((items.toList.drop (sIx items.size 0 lo)).take (sIx items.size items.size hi - sIx items.size 0 lo)).toArray } })
  (hsz:items.size<=sizeLine):O3 (O5 prog w) A (Wb (.ref t) (.ref sl)) Q E s:=by
 have htake:sizeOk (.seq ((items.toList.drop (sIx items.size 0 lo)).take (sIx items.size items.size hi - sIx items.size 0 lo)).toArray):=by
  show ((items.toList.drop (sIx items.size 0 lo)).take (sIx items.size items.size hi - sIx items.size 0 lo)).toArray.size<=sizeLine
  rw[Pj,Qf,Vz,Qk]
  lia
 have hj:sIx items.size items.size hi<=items.size:=Kp _ _ (OJ _) hi
 obtain⟨os,hos,hcs,hds⟩:=id hs
 have hTs:s.TypeIs (.ref sl) "slice":=⟨os,hos,hcs⟩
 unfold Wb
 try with_reducible refine QC ?_
 first | refine Ou (Oz ?_) | skip
 refine Ou (wpAny_sequenceKey ht.typeIs (by decide) ?_)
 refine Ou (Ry (name:=Um "__getitem__") ht.typeIs Xd
  (QR Xd ht.typeIs entry_tuple_getitem ?_ (args_tuple_getitem _ _)))
 show O3 _ _ (Builtin.Tuple.tupleItemsOf (.ref t) >>= _) _ _ s
 refine Ou (tupleItemsOf_ ht ?_)
 refine Ou (Wz hTs ?_)
 rw[if_pos (by decide)]
 refine Ou (lL hs pl pu ?_)
 have hno:¬ ((((sIx items.size 0 lo:Nat):Int) == 0 && (1:Int) == 1 && (sIx items.size items.size hi - sIx items.size 0 lo) == items.size)=true):=by
  intro q
  rw[QS,QS] at q
  have q1:((sIx items.size 0 lo:Nat):Int)=0:=eq_of_beq q.1.1
  have q2:sIx items.size items.size hi - sIx items.size 0 lo=items.size:=eq_of_beq q.2
  exact hw ⟨by lia,by lia⟩
 show O3 _ _ (if (((sIx items.size 0 lo:Nat):Int) == 0 && (1:Int) == 1 && (sIx items.size items.size hi - sIx items.size 0 lo) == items.size)=true then _ else _) _ _ s
 rw[if_neg hno,Du]
 first
  | exact Ou (m:=T4 _) (Qg (Oz ⟨_,rfl,Oz h⟩) htake)
  | exact Ou (m:=T4 _) (Qg (Ou (Oz (Oz ⟨_,rfl,Oz h⟩))) htake)
  | exact Ou (Ou (m:=T4 _) (Qg (Oz (Oz ⟨_,rfl,Oz h⟩)) htake))
  | exact Ou (Ou (m:=T4 _) (Qg (Oz ⟨_,rfl,Oz h⟩) htake))
end
end HT
namespace L2
open PySem PySem.Spec PyProof.Rows
abbrev TO:=St->Hp->(Option Int->Hp->Prop)->Prop
def PO (X:Cx) (e:Option Expr) (t:TO):Prop :=
 ∀ (pins:List (Addr × Rx)) (s:Ov) (σ:St) (H:Hp) (Q:Option Int->Hp->Prop),Inv X pins σ H s->t σ H Q →
  O3 (O5 X.prog X.w) X.A (evalPart e X.env) (fun u s'=>∃ o H',Inv X pins σ H' s'/\Xn u o/\Q o H') X.xe s
def Jd:TO:=fun _ H Q=>Q none H
def Mf (t:TE):TO:=fun σ H Q=>t σ H fun x H1=>∃ i,x = .int i/\Q (some i) H1
theorem intsAre_of {ns:List Int}:∀ {us:List Value},Vals (ns.map V.int) us->QG us ns:=by
 induction ns with
 | nil=>intro us r; rw[List.map_nil] at r; cases r; exact .nil
 | cons n ns ih =>
  intro us r
  rw[Qv] at r
  cases r with
  | cons r1 r2 =>
   obtain⟨t,e⟩:=r1
   subst e
   exact .cons n t (ih r2)
section
variable {X:Cx} {e:Expr} {te:TE} {lo hi:Option Expr} {tl th:TO} {pos p2:Ut}
theorem Ai:PO X none Jd:=by
 intro pins s σ H Q I h
 rw[evalPart_none]
 exact Oz ⟨none,H,I,.none,h⟩
theorem BJ (h:PE X e te):PO X (some e) (Mf te):=by
 intro pins s σ H Q I hw
 rw[evalPart_some]
 refine thn (h pins s σ H _ I hw) fun u s1 ⟨x,H1,I1,r1,q1⟩=>?_
 obtain⟨i,rfl,q⟩:=q1
 obtain⟨t,rfl⟩:=r1
 exact⟨some i,H1,I1,.int i t,q⟩
def SlR (X:Cx) (r:V->Option Int->Option Int->Hp->VK->Prop):Prop :=
 ∀ (pins:List (Addr × Rx)) (s:Ov) (σ:St) (H:Hp) (x:V) (v vl vu:Value) (lo hi:Option Int) (sl:Addr) (Q:VK),Inv X pins σ H s->RelV x v->s.heap.IsSliceOf sl vl vu .none->Xn vl lo->Xn vu hi->r x lo hi H Q →
  ∃ T id,Vf (.type T) "__getitem__" = pure (some (.builtin id))/\s.TypeIs v T/\O3 (O5 X.prog X.w) X.A (Wb v (.ref sl)) (EP X pins σ Q) X.xe s
def tSl (r:V->Option Int->Option Int->Hp->VK->Prop) (te:TE) (tl th:TO):TE:=fun σ H Q=>te σ H fun x H1=>tl σ H1 fun l H2=>th σ H2 fun u H3=>r x l u H3 Q
theorem xg {r:V->Option Int->Option Int->Hp->VK->Prop} (hr:SlR X r) (he:PE X e te) (hl:PO X lo tl) (hu:PO X hi th):PE X (.Subscript e (.Slice lo hi none p2) pos) (tSl r te tl th):=by
 intro pins s σ H Q I h
 refine Subscript_ (thn (he pins s σ H _ I h) fun v s1 ⟨x,H1,I1,r1,q1⟩=>?_)
 refine wpAny_Slice (thn (hl pins s1 σ H1 _ I1 q1) fun vl s2 ⟨l,H2,I2,pl,q2⟩=>thn (hu pins s2 σ H2 _ I2 q2) fun vu s3 ⟨u,H3,I3,pu,q3⟩=>?_)
 rw[evalPart_none]
 refine Oz ?_
 have I4:Inv X pins σ H3 { s3 with heap:=s3.heap.push { cls:=.type "slice",data:=.fields #[vl,vu,.none] } }:=I3.kept (t':=s3.toks) fun b ob q=>Ox _ q
 obtain⟨T,id,hT,ht,hg⟩:=hr pins { s3 with heap:=s3.heap.push { cls:=.type "slice",data:=.fields #[vl,vu,.none] } } σ H3 x v vl vu l u s3.heap.objs.size Q I4 r1 (Heap.IsSliceOf.new ..) pl pu q3
 show O3 (O5 X.prog X.w) X.A (subscriptTail e (.Slice lo hi none p2) v (.ref s3.heap.objs.size)) (EP X pins σ Q) X.xe { s3 with heap:=s3.heap.push { cls:=.type "slice",data:=.fields #[vl,vu,.none] } }
 exact tail_any (ops:=[.ref s3.heap.objs.size,v]) ht hT hg (by with_unfolding_all rfl)
def zf (xs:List V) (lo hi:Option Int):List V:=(xs.drop (HT.sIx xs.length 0 lo)).take (HT.sIx xs.length xs.length hi - HT.sIx xs.length 0 lo)
theorem mG (xs:List V) (lo hi:Option Int):(zf xs lo hi).length<=xs.length:=by
 unfold zf
 rw[Qf,Vz]
 lia
inductive JS (K:O1) (x:V) (lo:Option Int) (hi:Option Int) (H:Hp) (Q:VK):Prop where
 | mk (a:Addr) (xs:List V) (z0:x = .ref a) (z1:SqT K H a xs) (z2:¬ (HT.sIx xs.length 0 lo=0/\HT.sIx xs.length xs.length hi=xs.length)) (z3:∀ p,H p=none->Q (.ref p) (upd H p (.tup (zf xs lo hi)))):JS K x lo hi H Q
def Nv (K:O1):V->Option Int->Option Int->Hp->VK->Prop:=fun x lo hi H Q=>JS K x lo hi H Q
theorem JW:SlR X (Nv X.K):=by
 intro pins s σ H x v vl vu lo hi sl Q I rx hs pl pu h
 obtain⟨a,xs,rfl,hx,hw,q⟩:=h
 cases rx
 obtain⟨its,r,ht,hz⟩:=I.tuple hx
 have hlen:its.toArray.size=xs.length:=by rw[Pj]; exact r.length.symm
 refine⟨"tuple",_,PyProof.Rows.slot_tuple_getitem.lookup,ht.typeIs,?_⟩
 refine HT.j8 ht hs pl pu (by rw[hlen]; exact hw) ?_ (by rw[hlen]; exact hz)
 rw[hlen]
 refine⟨.ref s.heap.objs.size,_,I.laid (t':=s.toks) (o:=.tup (zf xs lo hi)) (fun b ob q=>Ox _ q) (OJ _) ?_,rfl,q _ (I.hok.fresh (OJ _))⟩
 exact⟨PX (mG xs lo hi) hz,_,(r.drop (HT.sIx xs.length 0 lo)).take (HT.sIx xs.length xs.length hi - HT.sIx xs.length 0 lo),IsTup.new _ _⟩
def Lx (K:O1):R2:=fun x y H Q=>∃ a b xs ys,x = .ref a/\y = .ref b/\SqT K H a xs/\SqT K H b ys/\xs≠[]/\xs.length+ys.length<=sizeLine ∧
 (ys=[]->Q (.ref a) H)/\(ys≠[]->∀ p,H p=none->Q (.ref p) (upd H p (.tup (xs++ys))))
theorem Vals.uU {xs:List V} {us:List Value} (r:Vals xs us):us=[] ↔ xs=[]:=by
 cases r with
 | nil=>simp
 | cons _ _=>simp
theorem Jg:OpR X (Ul .Add) (Lx X.K):=by
 intro pins s σ H x y v u Q I rx ry h
 obtain⟨a,b,xs,ys,rfl,rfl,ha,hb,hx,hz,q1,q2⟩:=h
 cases rx
 cases ry
 obtain⟨its,r1,p1,_⟩:=I.tuple ha
 obtain⟨its2,r2,p2,_⟩:=I.tuple hb
 refine HT.IK p1 p2 (fun z=>hx (r1.uU.mp z)) (fun z=>⟨.ref a,H,I,rfl,q1 (r2.uU.mp z)⟩) (fun z=>?_) (by rw[← r1.length,← r2.length]; exact hz)
 refine⟨.ref s.heap.objs.size,_,I.laid (t':=s.toks) (o:=.tup (xs++ys)) (fun b ob q=>Ox _ q) (OJ _) ?_,rfl,q2 (fun w=>z (r2.uU.mpr w)) _ (I.hok.fresh (OJ _))⟩
 exact⟨by rw[Qa]; exact hz,_,r1.append r2,IsTup.new _ _⟩
end
end L2
namespace L2
open PySem PySem.Spec PyProof.Rows
def ixN (n:Nat) (i:Int):Option Nat:=if 0<=i then (if i < n then some i.toNat else none) else if -(n:Int)<=i then some (i+n).toNat else none
def atI {α:Type} (xs:List α) (i:Int):Option α:=(ixN xs.length i).bind fun j=>xs[j]?
theorem zE {n:Nat} {i:Int} {j:Nat} (h:ixN n i=some j):seqIndex? i n=some j/\j < n/\-(n:Int)<=i/\i < n:=by
 unfold ixN at h
 by_cases h0:0<=i
 ·rw[if_pos h0] at h
  by_cases h1:i < n
  ·rw[if_pos h1] at h
   have e:i.toNat=j:=Qh h
   exact⟨by rw[seqIndex_of h0 h1,e],by lia,by lia,h1⟩
  ·rw[if_neg h1] at h; cases h
 ·rw[if_neg h0] at h
  by_cases h1 : -(n:Int)<=i
  ·rw[if_pos h1] at h
   have e:(i+n).toNat=j:=Qh h
   exact⟨by rw[seqIndex_neg (by lia) h1,e],by lia,h1,by lia⟩
  ·rw[if_neg h1] at h; cases h
theorem vG {α:Type} {xs:List α} {i:Int} {v:α} (h:atI xs i=some v):∃ j,seqIndex? i xs.length=some j/\xs[j]? = some v/\j < xs.length/\-(xs.length:Int)<=i/\i < xs.length:=by
 unfold atI at h
 cases e:ixN xs.length i with
 | none=>rw[e] at h; cases h
 | some j =>
  rw[e] at h
  obtain⟨h1,h2,h3,h4⟩:=zE e
  exact⟨j,h1,h,h2,h3,h4⟩
theorem gj {α:Type} {xs:List α} {j:Nat} {v:α} (h:xs[j]? = some v):atI xs (j:Int)=some v:=by
 have hj:j < xs.length:=(List.getElem?_eq_some_iff.mp h).1
 have e:ixN xs.length (j:Int)=some j:=by
  unfold ixN
  rw[if_pos (by lia),if_pos (by lia)]; simp
 unfold atI; rw[e]; exact h
def Ja (b:Expr):Prop:=∀ o i,Xq b false o i=operate [o,i] (Wb o i)
def IxR (X:Cx) (r:R2):Prop :=
 ∀ (value slice:Expr) (pins:List (Addr × Rx)) (s:Ov) (σ:St) (H:Hp) (x y:V) (v u:Value) (Q:VK),Inv X pins σ H s->RelV x v->RelV y u->r x y H Q →
  Xq slice false v u=operate [v,u] (Wb v u)->O3 (O5 X.prog X.w) X.A (subscriptTail value slice v u) (EP X pins σ Q) X.xe s
def MtR (X:Cx) (id:String) (r:V->List V->Hp->VK->Prop):Prop :=
 ∀ (pins:List (Addr × Rx)) (s:Ov) (σ:St) (H:Hp) (x:V) (xs:List V) (v:Value) (us:List Value) (Q:VK),Inv X pins σ H s->RelV x v->Vals xs us->r x xs H Q →
  O3 (O5 X.prog X.w) X.A (call (.builtin id) (v::us)) (EP X pins σ Q) X.xe s
section
variable {X:Cx} {a b:Expr} {ta tb:TE} {pos:Ut}
theorem IxR.or {r r':R2} (h:IxR X r) (h':IxR X r'):IxR X (fun x y H Q=>r x y H Q∨r' x y H Q):=by
 intro value slice pins s σ H x y v u Q I rx ry q hs
 rcases q with q | q
 ·exact h value slice pins s σ H x y v u Q I rx ry q hs
 ·exact h' value slice pins s σ H x y v u Q I rx ry q hs
theorem aQ {r:R2} (hr:IxR X r) (ha:PE X a ta) (hb:PE X b tb) (hs:Ja b):PE X (.Subscript a b pos) (tOp r ta tb):=by
 intro pins s σ H Q I h
 exact Subscript_ (Mm ha hb I h fun v u s2 x y H2 I2 rx ry q=>hr a b pins s2 σ H2 x y v u Q I2 rx ry q (hs _ _))
inductive KQ (K:O1) (x:V) (y:V) (H:Hp) (Q:VK):Prop where
 | mk (p:Addr) (xs:List V) (i:Int) (v:V) (z0:x = .ref p) (z1:y = .int i) (z2:SqL K H p xs) (z3:atI xs i=some v) (z4:Q v H):KQ K x y H Q
def yV (K:O1):R2:=fun x y H Q=>KQ K x y H Q
inductive JZ (K:O1) (x:V) (y:V) (H:Hp) (Q:VK):Prop where
 | mk (p:Addr) (xs:List V) (i:Int) (v:V) (z0:x = .ref p) (z1:y = .int i) (z2:SqT K H p xs) (z3:atI xs i=some v) (z4:Q v H):JZ K x y H Q
def bI (K:O1):R2:=fun x y H Q=>JZ K x y H Q
def Nh:R2:=fun x y H Q=>∃ z i c,x = .str z/\y = .int i/\z.length<=sizeLine/\atI z.cps.toList i=some c/\Q (.str ⟨#[c]⟩) H
theorem dJ:IxR X (yV X.K):=by
 intro value slice pins s σ H x y v u Q I rx ry h hs
 obtain⟨p,xs,i,z,rfl,rfl,hq,he,q⟩:=h
 cases rx
 obtain⟨t,rfl⟩:=ry
 obtain⟨its,r,pl,hz⟩:=I.list hq
 obtain⟨j,h1,h2,h3,h4,h5⟩:=vG he
 obtain⟨w,ew,rw'⟩:=r.get h2
 have hl:=r.length
 have hn:=pB
 have fin:EP X pins σ Q w s:=⟨z,H,I,rw',q⟩
 by_cases h0:0<=i
 ·have hj:i.toNat=j:=by
   rw[seqIndex_of h0 h5] at h1
   exact Qh h1
  exact item_listR pl.isList h0 (by lia) (by rw[hj]; simpa using ew) fin hs
 ·have hj:(i+(its.toArray.size:Int)).toNat=j:=by
   rw[seqIndex_neg (by lia) h4] at h1
   rw[Pj,← hl]
   exact Qh h1
  exact subscriptTail_builtinR (x:=w) pl.isList.typeIs slot_list_getitem.lookup
   (wpAny_getItem_list_neg (Q:=fun r s'=>r=w/\EP X pins σ Q r s') pl.isList (by lia) (by rw[Pj] <;> lia) (by lia) (by rw[hj]; simpa using ew) ⟨rfl,fin⟩) hs
theorem aK:IxR X (bI X.K):=by
 intro value slice pins s σ H x y v u Q I rx ry h hs
 obtain⟨p,xs,i,z,rfl,rfl,hq,he,q⟩:=h
 cases rx
 obtain⟨t,rfl⟩:=ry
 obtain⟨its,r,pl,hz⟩:=I.tuple hq
 obtain⟨j,h1,h2,h3,h4,h5⟩:=vG he
 obtain⟨w,ew,rw'⟩:=r.get h2
 have hl:=r.length
 have hn:=pB
 have fin:EP X pins σ Q w s:=⟨z,H,I,rw',q⟩
 exact subscriptTail_builtinR (x:=w) pl.typeIs slot_tuple_getitem.lookup
  (getItem_tuple (j:=j) (Q:=fun r s'=>r=w/\EP X pins σ Q r s') pl (by lia) (by lia) (by rw[Pj,← hl]; exact h1) (by simpa using ew) ⟨rfl,fin⟩) hs
theorem JR:IxR X Nh:=by
 intro value slice pins s σ H x y v u Q I rx ry h hs
 obtain⟨z,i,c,rfl,rfl,hz,he,q⟩:=h
 obtain⟨t,rfl⟩:=rx
 obtain⟨t',rfl⟩:=ry
 obtain⟨j,h1,h2,h3,h4,h5⟩:=vG he
 have hl:z.cps.toList.length=z.length:=by simp [Str.length]
 rw[hl] at h1 h4 h5
 have hn:=pB
 exact tail_any (typeIs_str s z t) slot_str_getitem.lookup (getItem_str (c:=c) (by
  have e1:decide (i < -(2 ^ 63:Int))=false:=decide_eq_false (by lia)
  have e2:decide (i ≥ 2 ^ 63)=false:=decide_eq_false (by lia)
  rw[e1,e2,Bool.or_false]) (by rw[h1]; simpa using h2) ⟨.str ⟨#[c]⟩,H,I.tok _,⟨_,rfl⟩,q⟩) hs
def rIx (K:O1):R2:=fun x y H Q=>yV K x y H Q∨bI K x y H Q∨Nh x y H Q
theorem GP:IxR X (rIx X.K):=dJ.or (aK.or JR)
theorem yX (its:List Value) (n j:Nat) (u:Value):Sd (·.setIfInBounds j u) { cls:=.type "list",data:=.seq its.toArray n }={ cls:=.type "list",data:=.seq (its.set j u).toArray n }:=by
 simp [Sd]
theorem Inv.lst {pins:List (Addr × Rx)} {σ:St} {H:Hp} {s:Ov} {p:Addr} {xs:List V} (I:Inv X pins σ H s) (h:H p=some (.lst xs)) :
  ∃ (its:List Value) (n:Nat),Vals xs its/\s.heap.get? p=some { cls:=.type "list",data:=.seq its.toArray n }/\xs.length<=sizeLine:=by
 obtain⟨z,its,n,r,e⟩:=I.hok p _ h
 exact⟨its,n,r,e,z⟩
theorem Inv.Kl {pins:List (Addr × Rx)} {σ:St} {H:Hp} {s:Ov} {p:Addr} {xs ys:List V} {its its':List Value} {n n':Nat} {f:Rx->Rx} (I:Inv X pins σ H s) (h:H p=some (.lst xs))
  (ho:s.heap.get? p=some { cls:=.type "list",data:=.seq its.toArray n }) (hf:f { cls:=.type "list",data:=.seq its.toArray n }={ cls:=.type "list",data:=.seq its'.toArray n' }) (r:Vals ys its') (hz:ys.length<=sizeLine) (t:Nat) :
  Inv X pins σ (upd H p (.lst ys)) { s with heap:=s.heap.update p f,toks:=t }:=by
 have e:(s.heap.update p f).get? p=some { cls:=.type "list",data:=.seq its'.toArray n' }:=by
  rw[PJ f ho (by rw[hf] <;> rfl),hf]
 refine I.write (x:=p) (e:=p) (by rw[h]; trivial) (.inl rfl) (fun b u hb q=>(Pn _ _ (QM hb)).trans q) ⟨_,e⟩ ?_
 exact⟨hz,its',n',r,e⟩
def Lp:V->V->V->Hp->(Hp->Prop)->Prop:=fun o i v H Q=>∃ p xs k j,o = .ref p/\i = .int k/\H p=some (.lst xs)/\ixN xs.length k=some j/\Q (upd H p (.lst (xs.set j v)))
theorem set_list:Ni X Lp:=by
 intro pins s σ H o i v ov iv u Q I ro ri rv h
 obtain⟨p,xs,k,j,rfl,rfl,hp,hj,q⟩:=h
 cases ro
 obtain⟨t,rfl⟩:=ri
 obtain⟨its,n,r,ho,hz⟩:=I.lst hp
 obtain⟨h1,h2,h3,h4⟩:=zE hj
 have hl:=r.length
 have hn:=pB
 have I':Inv X pins σ (upd H p (.lst (xs.set j v))) { s with heap:=s.heap.update p (Sd (·.setIfInBounds j u)) } :=
  I.Kl hp ho (yX its n j u) (r.set rv j) (by rw[XF]; exact hz) s.toks
 by_cases h0:0<=k
 ·have hk:k.toNat=j:=by
   rw[seqIndex_of h0 h4] at h1
   exact Qh h1
  exact PySem.W.ki_setAt ho h0 (by lia) (by rw[Pj,← hl]; exact h4) (by rw[hk]; exact⟨_,I',q⟩)
 ·have hk:(k+(its.toArray.size:Int)).toNat=j:=by
   rw[seqIndex_neg (by lia) h3] at h1
   rw[Pj,← hl]
   exact Qh h1
  exact PySem.W.ki_setBack ho (by lia) (by rw[Pj,← hl]; exact h3) (by lia) (by rw[hk]; exact⟨_,I',q⟩)
theorem rA (lo hi:Option Int) (n:Nat):(UL lo hi none n).1=((HT.sIx n 0 lo:Nat):Int)/\(UL lo hi none n).2.1=((HT.sIx n n hi:Nat):Int)/\(UL lo hi none n).2.2=1:=by
 refine⟨?_,?_,rfl⟩
 ·cases lo with
  | none=>simp [UL,HT.sIx]
  | some i =>
   simp only[UL,HT.sIx,Option.getD_none,show (1:Int) > 0 by decide,if_true]
   by_cases h:i < 0
   ·simp only[h,if_true] <;> lia
   ·simp only[h,if_false] <;> lia
 ·cases hi with
  | none=>simp [UL,HT.sIx]
  | some i =>
   simp only[UL,HT.sIx,Option.getD_none,show (1:Int) > 0 by decide,if_true]
   by_cases h:i < 0
   ·simp only[h,if_true] <;> lia
   ·simp only[h,if_false] <;> lia
theorem pO (its:List Value) (lo hi:Option Int):slicePick its.toArray lo hi none=((its.drop (HT.sIx its.length 0 lo)).take (HT.sIx its.length its.length hi - HT.sIx its.length 0 lo)).toArray:=by
 obtain⟨h1,h2,h3⟩:=rA lo hi its.toArray.size
 unfold slicePick
 rw[h1,h2,h3]
 simp only[sliceRange_one,pick_run,Pj] <;> rfl
inductive KR (K:O1) (x:V) (lo:Option Int) (hi:Option Int) (H:Hp) (Q:VK):Prop where
 | mk (a:Addr) (xs:List V) (z0:x = .ref a) (z1:SqL K H a xs) (z2:∀ p,H p=none->Q (.ref p) (upd H p (.lst (zf xs lo hi)))):KR K x lo hi H Q
def Nq (K:O1):V->Option Int->Option Int->Hp->VK->Prop:=fun x lo hi H Q=>KR K x lo hi H Q
theorem Ir:SlR X (Nq X.K):=by
 intro pins s σ H x v vl vu lo hi sl Q I rx hs pl pu h
 obtain⟨a,xs,rfl,hx,q⟩:=h
 cases rx
 obtain⟨its,r,ht,hz⟩:=I.list hx
 have hlen:=r.length
 refine⟨"list",_,slot_list_getitem.lookup,ht.isList.typeIs,?_⟩
 refine wpAny_getItem_list_slice ht.isList hs pl pu .none (by simp) ?_ (by rw[Pj] <;> lia)
 rw[pO,← hlen]
 refine⟨.ref s.heap.objs.size,_,I.laid (t':=s.toks) (o:=.lst (zf xs lo hi)) (fun b ob q=>Ox _ q) (OJ _) ?_,rfl,q _ (I.hok.fresh (OJ _))⟩
 exact⟨PX (mG xs lo hi) hz,_,0,(r.drop (HT.sIx xs.length 0 lo)).take (HT.sIx xs.length xs.length hi - HT.sIx xs.length 0 lo),O6 _ rfl⟩
def oF:V->Bool
 | .non=>true
 | .bl _=>true
 | .int _=>true
 | .str _=>true
 | _=>false
def eqV:V->V->Bool
 | .non,.non=>true
 | .bl a,.bl b=>a == b
 | .bl a,.int b=>(if a then 1 else 0) == b
 | .int a,.bl b=>a == (if b then 1 else 0)
 | .int a,.int b=>a == b
 | .str a,.str b=>a == b
 | _,_=>false
theorem JV {A:Qc} {s:Ov} {y x:V} {u v:Value} (ry:RelV y u) (rx:RelV x v) (fy:oF y=true) (fx:oF x=true):SeqAt.EqAt A s u v (eqV y x):=by
 cases y with
 | non =>
  cases ry
  cases x with
  | non=>cases rx; exact SeqAt.EqAt.same _
  | bl b=>cases rx; exact SeqAt.EqAt.none_bool b
  | int b=>obtain⟨t,rfl⟩:=rx; exact SeqAt.EqAt.none_int b t
  | str b=>obtain⟨t,rfl⟩:=rx; exact SeqAt.EqAt.none_str b t
  | _=>exact absurd (show false=true from fx) O2
 | bl a =>
  cases ry
  cases x with
  | non=>cases rx; exact SeqAt.EqAt.bool_none a
  | bl b=>cases rx; exact SeqAt.EqAt.bool_bool a b
  | int b=>obtain⟨t,rfl⟩:=rx; exact SeqAt.EqAt.bool_int a b t
  | str b=>obtain⟨t,rfl⟩:=rx; exact SeqAt.EqAt.bool_str a b t
  | _=>exact absurd (show false=true from fx) O2
 | int a =>
  obtain⟨t',rfl⟩:=ry
  cases x with
  | non=>cases rx; exact SeqAt.EqAt.int_none a t'
  | bl b=>cases rx; exact SeqAt.EqAt.int_bool a t' b
  | int b=>obtain⟨t,rfl⟩:=rx; exact SeqAt.EqAt.int_int a t' b t
  | str b=>obtain⟨t,rfl⟩:=rx; exact SeqAt.EqAt.int_str a t' b t
  | _=>exact absurd (show false=true from fx) O2
 | str a =>
  obtain⟨t',rfl⟩:=ry
  cases x with
  | non=>cases rx; exact SeqAt.EqAt.str_none a t'
  | bl b=>cases rx; exact SeqAt.EqAt.str_bool a t' b
  | int b=>obtain⟨t,rfl⟩:=rx; exact SeqAt.EqAt.str_int a t' b t
  | str b=>obtain⟨t,rfl⟩:=rx; exact SeqAt.EqAt.str_str a t' b t
  | _=>exact absurd (show false=true from fx) O2
 | _=>exact absurd (show false=true from fy) O2
def eqU (x:V) (u:Value):Bool:=match u with
 | .none=>eqV .non x
 | .bool b=>eqV (.bl b) x
 | .int i _=>eqV (.int i) x
 | .str z _=>eqV (.str z) x
 | _=>false
theorem Gr {x y:V} {u:Value} (r:RelV y u) (f:oF y=true):eqU x u=eqV y x:=by
 cases y with
 | non=>cases r; rfl
 | bl b=>cases r; rfl
 | int i=>obtain⟨t,rfl⟩:=r; rfl
 | str z=>obtain⟨t,rfl⟩:=r; rfl
 | _=>exact absurd (show false=true from f) O2
theorem nj {x:V}:∀ {xs:List V} {us:List Value},Vals xs us->xs.all oF=true->us.any (eqU x)=xs.any fun y=>eqV y x
 | _,_,.nil,_=>rfl
 | y::xs,u::us,.cons r t,f=>by
  rw[Vv,QS] at f
  rw[Sw,Sw,Gr r f.1,nj t f.2]
theorem jN {A:Qc} {s:Ov} {x:V} {v:Value} (rx:RelV x v) (fx:oF x=true):∀ {xs:List V} {us:List Value},Vals xs us->xs.all oF=true->∀ u∈us,SeqAt.EqAt A s u v (eqU x u)
 | _,_,.nil,_=>fun u hu=>by cases hu
 | y::xs,u::us,.cons r t,f=>fun u' hu=>by
  rw[Vv,QS] at f
  rcases List.mem_cons.mp hu with rfl | hu
  ·rw[Gr r f.1]; exact JV r rx f.1 fx
  ·exact jN rx fx t f.2 u' hu
def inV (x:V) (xs:List V):Bool:=xs.any fun y=>eqV y x
inductive M8 (K:O1) (neg:Bool) (x:V) (y:V) (H:Hp) (Q:VK):Prop where
 | mk (p:Addr) (xs:List V) (z0:y = .ref p) (z1:(SqL K H p xs∨SqT K H p xs)) (z2:oF x=true) (z3:xs.all oF=true) (z4:Q (.bl (if neg then !inV x xs else inV x xs)) H):M8 K neg x y H Q
def rIn (K:O1) (neg:Bool):R2:=fun x y H Q=>M8 K neg x y H Q
theorem fP:OpR X (Su .In) (rIn X.K false):=by
 intro pins s σ H x y v u Q I rx ry h
 obtain⟨p,xs,rfl,hq,fx,fs,q⟩:=h
 cases ry
 rcases hq with hq | hq
 ·obtain⟨its,r,pl,hz⟩:=I.list hq
  refine SeqAt.in_listAt (eqU x) pl.isList (fun w hw=>jN rx fx r fs w (by simpa using hw)) ⟨.bl _,H,I,rfl,?_⟩
  rw[show its.toArray.any (eqU x)=its.any (eqU x) by simp,nj r fs]
  exact q
 ·obtain⟨its,r,pl,hz⟩:=I.tuple hq
  refine SeqAt.in_tupleAt (eqU x) pl (fun w hw=>jN rx fx r fs w (by simpa using hw)) ⟨.bl _,H,I,rfl,?_⟩
  rw[show its.toArray.any (eqU x)=its.any (eqU x) by simp,nj r fs]
  exact q
theorem lG:OpR X (Su .NotIn) (rIn X.K true):=by
 intro pins s σ H x y v u Q I rx ry h
 obtain⟨p,xs,rfl,hq,fx,fs,q⟩:=h
 cases ry
 rcases hq with hq | hq
 ·obtain⟨its,r,pl,hz⟩:=I.list hq
  refine SeqAt.notIn_listAt (eqU x) pl.isList (fun w hw=>jN rx fx r fs w (by simpa using hw)) ⟨.bl _,H,I,rfl,?_⟩
  rw[show its.toArray.any (eqU x)=its.any (eqU x) by simp,nj r fs]
  exact q
 ·obtain⟨its,r,pl,hz⟩:=I.tuple hq
  refine SeqAt.notIn_tupleAt (eqU x) pl (fun w hw=>jN rx fx r fs w (by simpa using hw)) ⟨.bl _,H,I,rfl,?_⟩
  rw[show its.toArray.any (eqU x)=its.any (eqU x) by simp,nj r fs]
  exact q
theorem rn:fL X (.builtin "len") (fun xs H Q=>∃ p ys,xs=[.ref p]/\(SqL X.K H p ys∨SqT X.K H p ys)/\Q (.int ys.length) H):=by
 intro pins s σ H xs us Q I r h
 obtain⟨p,ys,rfl,hq,q⟩:=h
 obtain⟨u,rfl,rx⟩:=vals1 r
 cases rx
 have hn:=pB
 rcases hq with hq | hq
 ·obtain⟨its,r',pl,hz⟩:=I.list hq
  have hlen:=r'.length
  exact Calls.call_len_list pl.isList (by simp only[Pj] <;> lia) ⟨.int ys.length,H,I.tok _,⟨s.toks+1,by rw[Pj,hlen]⟩,q⟩
 ·obtain⟨its,r',pl,hz⟩:=I.tuple hq
  have hlen:=r'.length
  exact len_tuple pl (by simp only[Pj] <;> lia) ⟨.int ys.length,H,I.tok _,⟨s.toks+1,by rw[Pj,hlen]⟩,q⟩
theorem sW:fL X (.type "list") (fun xs H Q=>∃ p ys,xs=[.ref p]/\(SqL X.K H p ys∨SqT X.K H p ys)/\∀ l,H l=none->Q (.ref l) (upd H l (.lst ys))):=by
 intro pins s σ H xs us Q I r h
 obtain⟨p,ys,rfl,hq,q⟩:=h
 obtain⟨u,rfl,rx⟩:=vals1 r
 cases rx
 have fin:∀ (its:List Value),Vals ys its->ys.length<=sizeLine->∀ (h':Qo) (c':Nat),(∀ b o',s.heap.get? b=some o'->h'.get? b=some o') →
   h'.get? s.heap.objs.size=some { cls:=.type "list",dict:=none,data:=.seq its.toArray c',slots:=#[] }->EP X pins σ Q (.ref s.heap.objs.size) { s with heap:=h' }:=fun its r' hz h' c' kp e =>
  ⟨.ref s.heap.objs.size,_,I.laid (t':=s.toks) kp (OJ _) (show cU X.prog X.w _ h' _ (.lst ys) from ⟨hz,its,c',r',e⟩),rfl,q _ (I.hok.fresh (OJ _))⟩
 rcases hq with hq | hq
 ·obtain⟨its,r',pl,hz⟩:=I.list hq
  have hlen:=r'.length
  obtain⟨o,ho,hc,n,hd⟩:=pl.isList
  exact call_list_seq p (.inl rfl) ho hc hd (fun h' c' kp e=>fin its r' hz h' c' kp e) (by simp only[Pj] <;> lia)
 ·obtain⟨its,r',pl,hz⟩:=I.tuple hq
  have hlen:=r'.length
  obtain⟨o,ho,hc,n,hd⟩:=pl
  exact call_list_seq p (.inr rfl) ho hc hd (fun h' c' kp e=>fin its r' hz h' c' kp e) (by simp only[Pj] <;> lia)
theorem qR:fL X (.type "tuple") (fun xs H Q=>∃ p ys,xs=[.ref p]/\((SqL X.K H p ys/\∀ l,H l=none->Q (.ref l) (upd H l (.tup ys)))∨(SqT X.K H p ys/\Q (.ref p) H))):=by
 intro pins s σ H xs us Q I r h
 obtain⟨p,ys,rfl,h⟩:=h
 obtain⟨u,rfl,rx⟩:=vals1 r
 cases rx
 rcases h with⟨hq,q⟩ | ⟨hq,q⟩
 ·obtain⟨its,r',pl,hz⟩:=I.list hq
  have hlen:=r'.length
  refine call_tuple_list pl.isList (fun h' kp=>?_) (by simp only[Pj] <;> lia)
  have I1:Inv X pins σ H { s with heap:=h' }:=I.kept (t':=s.toks) kp
  have I2:Inv X pins σ (upd H h'.objs.size (.tup ys)) { s with heap:=h'.push { cls:=.type "tuple",data:=.seq its.toArray } } :=
   I1.laid (t':=s.toks) (fun b o e=>Ox _ e) (OJ _) (show cU X.prog X.w _ _ _ (.tup ys) from ⟨hz,its,r',IsTup.new _ _⟩)
  exact⟨.ref h'.objs.size,_,I2,rfl,q _ (I1.hok.fresh (OJ _))⟩
 ·obtain⟨its,r',pl,hz⟩:=I.tuple hq
  exact call_tuple_same pl ⟨.ref p,H,I,rfl,q⟩
def tyV (K:O1) (T:String) (x:V) (H:Hp):Prop:=match x with
 | .str _=>T = "str"
 | .int _=>T = "int"
 | .ref p=>(T = "list"/\∃ xs,SqL K H p xs)∨(T = "tuple"/\∃ o,K.lookup p=some o/\o.cls = .type "tuple"/\o.dict=none) ∨
   (T = "dict"/\((∃ kvs,H p=some (.dK kvs))∨∃ kvs,H p=some (.dT kvs)))∨(T = "set"/\∃ S n,H p=some (.set S n))
 | _=>False
theorem K7 {pins:List (Addr × Rx)} {σ:St} {H:Hp} {s:Ov} {T:String} {x:V} {v:Value} (I:Inv X pins σ H s) (r:RelV x v) (ty:tyV X.K T x H) :
  s.TypeIs v T/\∀ a,v = .ref a->∃ ob,s.heap.get? a=some ob/\ob.dict=none:=by
 cases x with
 | str z =>
  obtain⟨t,rfl⟩:=r
  cases (show T = "str" from ty)
  exact⟨typeIs_str s z t,fun _ e=>nomatch e⟩
 | int i =>
  obtain⟨t,rfl⟩:=r
  cases (show T = "int" from ty)
  exact⟨typeIs_int s i t,fun _ e=>nomatch e⟩
 | ref p =>
  cases r
  rcases ty with⟨rfl,xs,hq⟩ | ⟨rfl,o,hk,hc,hd⟩ | ⟨rfl,hk⟩ | ⟨rfl,S,n,hk⟩
  ·obtain⟨its,_,pl,_⟩:=I.list hq
   refine⟨pl.isList.typeIs,fun a e=>?_⟩
   cases e
   obtain⟨o,n,e,c,hd,_⟩:=pl
   exact⟨o,e,hd⟩
  ·refine⟨⟨o,I.kIn p o hk,hc⟩,fun a e=>?_⟩
   cases e
   exact⟨o,I.kIn _ o hk,hd⟩
  ·have z:∃ o,s.heap.get? p=some o/\o.ExactDict:=by
    rcases hk with⟨kvs,hk⟩ | ⟨kvs,hk⟩
    ·obtain⟨_,_,_,_,o,_,_,e,ex,_⟩:=I.hok p _ hk
     exact⟨o,e,ex⟩
    ·obtain⟨_,_,_,_,o,_,_,e,ex,_⟩:=I.hok p _ hk
     exact⟨o,e,ex⟩
   obtain⟨o,e,ex⟩:=z
   refine⟨⟨o,e,ex.1⟩,fun a e2=>?_⟩
   cases e2
   exact⟨o,e,ex.2.1⟩
  ·obtain⟨o,_,_,_,e,ex,_⟩:=I.hok p _ hk
   refine⟨⟨o,e,ex.1⟩,fun a e2=>?_⟩
   cases e2
   exact⟨o,e,ex.2.1⟩
 | _=>exact Qi ty
def tBM (K:O1) (T:String) (r:V->List V->Hp->VK->Prop) (to:TE) (t:TA):TE:=fun σ H Q=>to σ H fun x H1=>tyV K T x H1/\t σ H1 fun xs H2=>r x xs H2 Q
variable {o e:Expr} {es:List Expr} {to:TE} {t:TA} {name:Px} {apos cpos:Ut} {T id:String} {r:V->List V->Hp->VK->Prop}
theorem DN (pa:PlainAttrs T) (slot:Slot T name id) (hty:typeOf (.builtin id)=pure (.type "method_descriptor")) (hm:MtR X id r) (ho:PE X o to) (ha:PA X (e::es) t)
  (hbase:Vr o name X.env (QZ o X.env)=QZ o X.env:=by rfl)
  (hfew:((Rn cpos (Pz (e::es) X.env)).all (fun x=>!x.1) && (Vx cpos (Ue [] X.env)).all (fun x=>x.1.isSome)
   && decide ((e::es).length+([]:List Keyword).length+(if ([]:List Keyword).isEmpty then 0 else 1) < 30))=true:=by rfl)
  (hline:(apos.endLine == cpos.line)=true:=by rfl) (hs:Pz (e::es) X.env=(false,QZ e X.env)::Pz es X.env:=by rfl) (hplain:(Rn cpos (Pz es X.env)).any (·.1)=false:=by rfl) :
  PE X (.Call (.Attribute o name apos) (e::es) [] cpos) (tBM X.K T r to t):=by
 intro pins s σ H Q I h
 refine wpAny_Call_method_late hbase hfew hline rfl (thn (ho pins s σ H _ I h) fun v s1 ⟨x,H1,I1,r1,ty,q1⟩=>?_)
 obtain⟨h1,h2⟩:=K7 I1 r1 ty
 refine⟨T,id,pa,slot,hty,h1,h2,?_⟩
 have hA:=ha cpos pins s1 σ H1 _ I1 q1
 rw[hs] at hA ⊢
 refine Calls.callWith_builtin (by show (false || (Rn cpos (Pz es X.env)).any (·.1))=false; rw[hplain] <;> rfl) (Calls.evalArgs_plain ?_)
 exact thn hA fun us s2 ⟨vs,H2,I2,r2,q2⟩=>hm pins s2 σ H2 x vs v us Q I2 r1 r2 q2
/- xs.append(e),list.index on a module's tuple .. are MtR facts of 06m -/
end
end L2
namespace L2
open PySem PySem.Spec PyProof.Rows
def MtM (X:Cx) (id:String) (r:V->List V->Hp->VK->Prop):Prop :=
 ∀ (pins:List (Addr × Rx)) (s:Ov) (σ:St) (H:Hp) (x:V) (xs:List V) (v:Value) (us:List Value) (Q:VK),Inv X pins σ H s->RelV x v->Vals xs us->r x xs H Q →
  O3 (O5 X.prog X.w) X.A (call (.builtin id) (v::us)) (EP X pins σ Q) X.xe s
theorem Vals.one:∀ {x:V} {us:List Value},Vals [x] us->∃ u,us=[u]/\RelV x u
 | _,_,.cons r .nil=>⟨_,rfl,r⟩
theorem Vals.two:∀ {x y:V} {us:List Value},Vals [x,y] us->∃ u v,us=[u,v]/\RelV x u/\RelV y v
 | _,_,_,.cons r (.cons q .nil)=>⟨_,_,rfl,r,q⟩
section
variable {X:Cx} {pins:List (Addr × Rx)} {σ:St} {H:Hp} {s:Ov} {l b:Addr} {xs ys zs:List V}
theorem Inv.Om {its its':List Value} {n:Nat} {f:Array Value->Array Value} {t':Nat} (I:Inv X pins σ H s) (hH:H l=some (.lst xs))
  (e:s.heap.get? l=some { cls:=.type "list",data:=.seq its.toArray n }) (hf:f its.toArray=its'.toArray) (hv:Vals ys its') (hz:ys.length<=sizeLine) :
  Inv X pins σ (upd H l (.lst ys)) { s with heap:=s.heap.update l (Sd f),toks:=t' }:=by
 have q:=PySem.IsL.update e f
 rw[hf] at q
 refine I.write (x:=l) (e:=l) (by rw[hH]; exact trivial) (.inl rfl) (fun b' u hb hu=>(Pn s.heap (Sd f) (QM hb)).trans hu) ⟨_,q⟩ ?_
 exact⟨hz,its',_,hv,q⟩
theorem Inv.Mt {its:List Value} {t':Nat} (I:Inv X pins σ H s) (hv:Vals ys its) (hz:ys.length<=sizeLine) :
  Inv X pins σ (upd H s.heap.objs.size (.lst ys)) { s with heap:=s.heap.push { cls:=.type "list",data:=.seq its.toArray },toks:=t' } :=
 I.laid (fun _ _ q=>Ox _ q) (OJ _) ⟨hz,its,0,hv,O6 _ rfl⟩
theorem Inv.fresh (I:Inv X pins σ H s):H s.heap.objs.size=none:=I.hok.fresh (OJ _)
theorem Inv.MN (I:Inv X pins σ H s) (hH:H l=some (.lst xs)):xs.length<=sizeLine/\∃ (its:List Value) (n:Nat),Vals xs its/\xs.length=its.length/\s.heap.get? l=some { cls:=.type "list",data:=.seq its.toArray n }:=by
 obtain⟨z,its,n,r,e⟩:=I.hok l _ hH
 exact⟨z,its,n,r,r.length,e⟩
end
section
variable {X:Cx}
inductive xK (x:V) (vs:List V) (H:Hp) (Q:VK):Prop where
 | mk (l:Addr) (xs:List V) (y:V) (z0:x = .ref l) (z1:vs=[y]) (z2:H l=some (.lst xs)) (z3:xs.length < sizeLine) (z4:Q .non (upd H l (.lst (xs++[y])))):xK  x vs H Q
def Ji:V->List V->Hp->VK->Prop:=fun x vs H Q=>xK  x vs H Q
theorem fH:MtM X "list.append" Ji:=by
 intro pins s σ H x vs v us Q I rx rv h
 obtain⟨l,xs,y,rfl,rfl,hH,hz,q⟩:=h
 cases rx
 obtain⟨u,rfl,ru⟩:=rv.one
 obtain⟨z,its,n,r,hl,e⟩:=I.MN hH
 refine call_meets F.slot_list_append ⟨_,e,rfl⟩ F.entry_list_append (F.args_list_append_2 _ _) (PySem.list_append l its.toArray n u (by rw[Pj]; lia)) ⟨e,?_⟩
 refine⟨.non,_,I.Om (its':=its++[u]) hH e (by simp) (r.append (.cons ru .nil)) ?_,rfl,q⟩
 rw[Qa,List.length_singleton]
 lia
inductive Jv (x:V) (y:V) (H:Hp) (Q:VK):Prop where
 | mk (l:Addr) (b:Addr) (xs:List V) (zs:List V) (z0:x = .ref l) (z1:y = .ref b) (z2:H l=some (.lst xs)) (z3:H b=some (.lst zs)) (z4:xs.length+zs.length<=sizeLine) (z5:∀ p,H p=none->Q (.ref p) (upd H p (.lst (xs++zs)))):Jv  x y H Q
def N7:R2:=fun x y H Q=>Jv  x y H Q
theorem sH:OpR X (Ul .Add) N7:=by
 intro pins s σ H x y v u Q I rx ry h
 obtain⟨l,b,xs,zs,rfl,rfl,hH,hB,hz,q⟩:=h
 cases rx
 cases ry
 obtain⟨z,its,n,r,hl,e⟩:=I.MN hH
 obtain⟨z2,its2,n2,r2,hl2,e2⟩:=I.MN hB
 refine PySem.P.add_list e e2 ?_ (by rw[Pj,Pj]; lia)
 have ea:its.toArray++its2.toArray=(its++its2).toArray:=by simp
 rw[ea]
 exact⟨.ref _,_,I.Mt (t':=s.toks) (r.append r2) (by rw[Qa]; lia),rfl,q _ I.fresh⟩
end
section
variable {prog:O9} {w:Qd} {A:Qc} {E:Value->Ov->Prop} {s:Ov}
set_option maxRecDepth 100000 in
end
section
variable {X:Cx}
end
end L2
namespace Att
open PySem PySem.W PySem.Calls PyProof.Rows
theorem nM {P:Params} {h:Qo}:∀ (ns:List Int) (vs:List Value),WellAll P h vs (ns.map WData.int)->QG vs ns:=by
 intro ns
 induction ns with
 | nil =>
  intro vs w
  rw[List.map_nil] at w
  cases w
  exact .nil
 | cons n ns ih =>
  intro vs w
  rw[Qv] at w
  cases w with
  | cons a b =>
   cases a
   exact .cons _ _ (ih _ b)
theorem Al {l:OpenLaw} {n:Nat} (hn:l.most=some n) {P:Params} {h:Qo} {args:List WData} {vals:List Value}
  (hpre:l.row.toRowW.claim.pre args=true) (hwl:WellAll P h vals args) :
  ∃ a vs ns,vals=[Pg a]/\args=[WData.list (ns.map WData.int)]/\h.get? a=some { cls:=.type "list",data:=.seq vs.toArray }/\QG vs ns/\ns.length<=n:=by
 have hsh:WShape.hasAll [] args [.list .int]=true:=(pre_splitW hpre).1
 have hc:l.pre.holds [] { args:=args }=true:=(pre_splitW hpre).2
 obtain⟨d,r,rfl,h1,h2⟩:=hasAllW_cons hsh
 obtain rfl:=hasAllW_nil h2
 obtain⟨xs,rfl,h3⟩:=hasW_list h1
 obtain⟨ns,rfl⟩:=items_int h3
 have hlen:ns.length<=n:=by
  unfold OpenLaw.pre at hc
  have h4:(WTm.not (.lt (.lit (.int (n:Int))) (.len (.arg 0)))).holds [] { args:=[.list (ns.map .int)] }=true:=by
   have h4:=(holds_andW hc).1
   rw[hn] at h4
   exact h4
  have h5:=condW_of h4 (w_not (w_lt w_lit (w_len_list (w_arg rfl))))
  rw[Ow] at h5
  refine Nat.le_of_not_lt fun q=>?_
  have q':(n:Int) < ((ns.length:Nat):Int):=by lia
  first
   | (rw[decide_eq_true q'] at h5; exact absurd h5 (by decide))
   | (simp at h5; lia)
 cases hwl with
 | cons w1 w2 =>
  cases w2
  cases w1 with
  | list ho hall=>exact⟨_,_,ns,rfl,rfl,ho,nM ns _ hall,hlen⟩
theorem Ag (l:OpenLaw) (args:List WData):l.row.toRowW.claim.post args (.bool true) args=true :=
 postW_of (r:=l.row.toRowW) (X:=(true == true))
  (show WShape.has [] (.bool true) .bool=true by first | rfl | decide | simp [WShape.has,WShape.arms,WShape.armsAll])
  (show (WTm.eq .res (.lit (.bool true))).value [] { args:=args,res:=some (.bool true),after:=args }=some (.bool (true == true)) from w_eq_bool (w_res rfl) w_lit) rfl
theorem vL {l:OpenLaw} {n:Nat} {q:O9} {loose:List Px} {XP:(Px->Option Value)->Qo->Prop} {YP:Qd->Qo->Prop} {d:DefRec}
  (hn:l.most=some n) (hdf:d.params.defaults=[])
  (call:∀ (w:Qd) (s₀ s₁:Ov) (mg mb:Px->Option Value) (fa:Addr) (o:Rx) (pm cd doc:Value) (a:Addr) (vs:List Value) (ns:List Int),
   Ground q loose [] XP w s₀ mg mb s₁.heap->YP w s₁.heap →
   s₁.heap.get? fa=some o->o.data = .func (docDef d.name d.params d.body d.scope pm cd doc)->s₁.heap.CodeRec cd d.name->mg d.name=some (.ref fa) →
   s₁.heap.get? a=some { cls:=.type "list",data:=.seq vs.toArray }->QG vs ns->ns.length<=n->s₁.gens = #[] →
   QF (O5 l.prog w) WN (.call (.ref fa) ⟨[.ref a],[]⟩) (fun r s'=>r = .ok (.ret (.bool true))/\OldK s₁.heap s'.heap/\s'.os=s₁.os/\Vp s'.gens) s₁) :
  WalkO q loose XP YP l.row.toRowW d [] (fun f vs=>PySem.call f vs):=by
 intro w s₀ s₁ mg mb G Y fa o pm cd doc dV kV ho hd hcd hD hmg hg args vals as hpre hlay hrd hwl hlo
 obtain rfl:dV = .none:=Dflts.none hD hdf
 obtain rfl:kV = .none:=Dflts.noKw hD
 obtain⟨a,vs,ns,rfl,rfl,hobj,hints,hlen⟩:=Al hn hpre hwl
 refine enter_call (RG (call w s₀ s₁ mg mb fa o pm cd doc a vs ns G Y ho (fd_plain hd) hcd hmg hobj hints hlen hg) fun r s' hq=>?_)
 obtain⟨rfl,h2,h3,h4⟩:=hq
 exact⟨.inl ⟨.bool true,.bool true,[],rfl,fun _=>rfl,.bool true,Ag l _,fun _=>⟨Vo,fun _ hm=>(nomatch hm)⟩⟩,h2,h3,h4⟩
section
variable {prog:O9} {w:Qd} {A:Qc} {E:Value->Ov->Prop} {s:Ov} {K:Frag}
theorem Iw {R:Vg->Ov->Prop} {name qual:Px} {params:Wd} {body:List Stmt} {scope:RD} {dV kV doc pm cdv ct oc:Value} {an od:Option Addr} {osl:Array (Option Value)} {f:Addr} {args:Args} {binds:List (Px × Value)}
  (X:K.In s.heap) (hlim:s.heap.NoLimit) (ho:K.lookup f=some ⟨oc,od,.func (fnOf name qual params body scope dV kV doc pm an cdv ct),osl⟩) (hcd:codeIn K cdv qual=true) (hroom:A.depth < recursionLimit)
  (hbind:VL s (fnOf name qual params body scope dV kV doc pm an cdv ct) args binds)
  (hkind:(binds.all fun y=>scope.names.lookup y.1 == some .local || scope.names.lookup y.1 == some .cell)=true)
  (h:∀ s₁,InCallC s s.heap.objs.size (bindL (envOfC qual scope s.heap.objs.size f cdv).kindOf binds fun _=>none) (cellsFrom (s.heap.objs.size+1) scope.names [])
    (bindC (envOfC qual scope s.heap.objs.size f cdv).kindOf binds fun _=>none) s₁ →
   O3 (O5 prog w) (A.deeper (envOfC qual scope s.heap.objs.size f cdv)) (execs body (envOfC qual scope s.heap.objs.size f cdv))
    (fun fl s'=>R (.ok (.ret (match fl with | .ret v=>v | _=>.none))) s')
    (fun e s'=>O3 (O5 prog w) (A.deeper (envOfC qual scope s.heap.objs.size f cdv)) (leaving (envOfC qual scope s.heap.objs.size f cdv) e) (fun _ s''=>R (.error e) s'') (fun e' s''=>R (.error e') s'') s') s₁)
  (hco:scope.isCoroutine=false) (hgen:scope.isGenerator=false) (hk:scope.kind = .function):QF (O5 prog w) A (.call (.ref f) args) R s:=by
 refine codeAny_call_function hroom (X _ _ ho) rfl hco hgen rfl (codeRec_of X hcd) (hbind _ _ _ _ ?_)
 refine wpAny_newFunctionEnv_cells hk (kindsX hkind _) fun env he s₁ x=>?_
 subst he
 exact⟨hlim.keeps x.toInCall.keep,codeAny_func (h s₁ x)⟩
end
end Att
namespace L2
open PySem PySem.Spec PyProof.Rows
theorem gY:∀ {vs:List Value} {ns:List Int},QG vs ns->Vals (ns.map V.int) vs
 | _,_,.nil=>.nil
 | _,_,.cons n t h=>.cons ⟨t,rfl⟩ (gY h)
end L2
namespace L2
open PySem PySem.Spec PyProof.Rows
end L2
namespace L2
open PySem PySem.Spec PyProof.Rows
def inClass (s:Stmt) (j:Nat):Stmt:=match s with
 | .ClassDef _ _ _ body _ _ _ _ _ _ _=>body.getD j (.Pass ⟨0,0,0,0⟩)
 | _=>.Pass ⟨0,0,0,0⟩
def cM (s:Stmt):Wd:=match s with
 | .FunctionDef _ a _ _ _ _ _ _ _ _=>a
 | _=>{ posonlyargs:=[],args:=[],vararg:=none,kwonlyargs:=[],kw_defaults:=[],kwarg:=none,defaults:=[] }
def bH (s:Stmt):List Stmt:=match s with
 | .FunctionDef _ _ b _ _ _ _ _ _ _=>b
 | _=>[]
def aA (s:Stmt):RD:=match s with
 | .FunctionDef _ _ _ _ _ _ sc _ _ _=>sc
 | _=>{ kind:=.function,names:=[],isGenerator:=false,isCoroutine:=false }
abbrev CX0:CXT:=fun _ _ _ _ _ _=>False
abbrev E0:XK:=fun _ _ _=>False
theorem mR {X:Cx}:Passes CX0 X E0:=fun _ _ _ _ _ _ _ h=>h.elim
structure Fun (K:O1) (x qual:Px) (st:Stmt) (f:Addr) (fd:Qw):Prop where
 ex:∃ (oc:Value) (od:Option Addr) (kV doc pm:Value) (an:Option Addr) (cdv ct:Value) (osl:Array (Option Value)),
  fd=RV x qual (cM st) (bH st) (aA st) .none kV doc pm an cdv ct/\K.lookup f=some ⟨oc,od,.func fd,osl⟩/\Tp K cdv qual=true
 kp:QW K (.ref f)=true
section
variable {P:O9} {w:Qd} {K:O1} {mg:Px->Option Value} {base:Qo}
theorem Fun.ok {x qual:Px} {st:Stmt} {f:Addr} {fd:Qw} {N ps:List Px} {k:Nat} {sp:Sp} (F:Fun K x qual st f fd) (S:aM N ps (aA st)) (len:∀ vs H Q E,sp vs H Q E->vs.length=ps.length)
  (hbody:∀ (cdv:Value) (A:Qc) (outer:List Vb) (s:Ov) (H:Hp) (vs:List V) (Q:VK) (E:XK),dG k (A.deeper (envOfC qual (aA st) s.heap.objs.size f cdv))->sp vs H Q E →
   ∃ t,PSs (vQ CX0 P w K mg base N qual (aA st) f cdv A outer s H E).nox (bH st) t/\t { nx:=fun _ H'=>Q .non H',rt:=Q } (start N vs) H):bK P w K mg base CX0 (k+1) f fd ps sp:=by
 obtain⟨oc,od,kV,doc,pm,an,cdv,ct,osl,rfl,lk,hcd⟩:=F.ex
 refine G3 lk hcd S len fun A outer s H vs Q E hr hsp=>?_
 obtain⟨t,h,q⟩:=hbody cdv A outer s H vs Q E hr hsp
 exact⟨t,h.nox,q⟩
theorem Fun.binds {x qual:Px} {st:Stmt} {f:Addr} {fd:Qw} {ps:List Px} (F:Fun K x qual st f fd)
  (h:∀ (kV doc pm:Value) (an:Option Addr) (cdv ct:Value) (us:List Value),us.length=ps.length->TX (RV x qual (cM st) (bH st) (aA st) .none kV doc pm an cdv ct) ⟨us,[]⟩=pure (ps.zip us)):Binds K fd ps []:=by
 obtain⟨oc,od,kV,doc,pm,an,cdv,ct,osl,rfl,lk,hcd⟩:=F.ex
 exact .all (h kV doc pm an cdv ct)
theorem nH {x qual:Px} {st:Stmt} {f:Addr} {oc:Value} {od an:Option Addr} {osl:Array (Option Value)} {kV doc pm cdv ct:Value} (l:K.lookup f=some ⟨oc,od,.func (RV x qual (cM st) (bH st) (aA st) .none kV doc pm an cdv ct),osl⟩)
  (c:Tp K cdv qual=true) (k:QW K (.ref f)=true):Fun K x qual st f (RV x qual (cM st) (bH st) (aA st) .none kV doc pm an cdv ct):=⟨⟨oc,od,kV,doc,pm,an,cdv,ct,osl,rfl,l,c⟩,k⟩
end
theorem bj {n:Nat} (h:n<=1000):n < sizeLine:=Ud h (by decide)
section
variable {X:Cx}
theorem pv (i:Nat) {x:Px} {pos:Ut} (hN:X.N[i]? = some x:=by rfl) (hv:Vis X.env.scope x:=by first | exact Pr rfl | exact Xk (Pr rfl) | exact Xk (Xk rfl)) (hd:(x == ("__debug__" : Px))=false:=by decide)
  (hcd:(x == ("__classdict__" : Px))=false:=by decide):PE X (.Name x pos) (KN i):=Gu hN hv hd hcd
end
theorem bG {A B:Prop} (h:B):if false=true then A else B:=by
 rw[if_neg O2]
 exact h
theorem cH {A B:Prop} (h:A):if true=true then A else B:=by
 rw[if_pos rfl]
 exact h
theorem zb {c A B:Prop} [Decidable c] (h1:c->A) (h2:¬ c->B):if c then A else B:=by
 by_cases h:c
 ·rw[if_pos h]
  exact h1 h
 ·rw[if_neg h]
  exact h2 h
def aV (H H':Hp):Prop:=∀ b o,H b=some o->H' b=some o
theorem aV.refl (H:Hp):aV H H:=fun _ _ h=>h
theorem aV.trans {H H1 H2:Hp} (a:aV H H1) (b:aV H1 H2):aV H H2:=fun c o h=>b c o (a c o h)
theorem aV.free {H H':Hp} (e:aV H H') {l:Addr} (h:H' l=Option.none):H l=Option.none:=by
 cases q:H l with
 | none=>rfl
 | some o =>
  rw[e l o q] at h
  cases h
theorem aV.seq {K:O1} {H H':Hp} {a:Addr} {xs:List V} (e:aV H H') (h:SqL K H a xs):SqL K H' a xs:=by
 rcases h with (h | ⟨o,h⟩) | h
 ·exact .inl (.inl (e _ _ h))
 ·exact .inl (.inr ⟨o,e _ _ h⟩)
 ·exact .inr h
end L2
set_option maxHeartbeats 4000000
namespace L2
open PySem PySem.Spec PyProof.Rows
theorem Dp {env:Vb}:∀ {names:List (Px × Vi)} {x:Px},names.lookup x=some .free →
  (names.map fun (n,k)=>if (k == Rf && env.scope.kind == .function && env.kindOf n == some .cell) then (n,Wq) else (n,k)).lookup x=some .cell ∨
  (names.map fun (n,k)=>if (k == Rf && env.scope.kind == .function && env.kindOf n == some .cell) then (n,Wq) else (n,k)).lookup x=some .free
 | [],_,h=>by simp at h
 | (n,k)::r,x,h=>by
  have ih:=@Dp env r x
  rw[Qv]
  cases hx:x == n with
  | true =>
   rw[Qx,hx] at h
   cases h
   by_cases hc:(Rf == Rf && env.scope.kind == .function && env.kindOf n == some .cell)=true
   ·refine .inl ?_
    dsimp only
    rw[if_pos hc,Qx,hx]
   ·refine .inr ?_
    dsimp only
    rw[if_neg hc,Qx,hx]
  | false =>
   rw[Qx,hx] at h
   dsimp only
   by_cases hc:(k == Rf && env.scope.kind == .function && env.kindOf n == some .cell)=true
   ·rw[if_pos hc,Qx,hx]; exact ih h
   ·rw[if_neg hc,Qx,hx]; exact ih h
theorem uQ {env:Vb}:∀ {names:List (Px × Vi)} {x:Px} {k':Vi},
  (names.map fun (n,k)=>if (k == Rf && env.scope.kind == .function && env.kindOf n == some .cell) then (n,Wq) else (n,k)).lookup x=some k'->names.lookup x=some k'∨names.lookup x=some .free
 | [],_,_,h=>by simp at h
 | (n,k)::r,x,k',h=>by
  have ih:=@uQ env r x k'
  rw[Qv] at h
  dsimp only at h
  cases hx:x == n with
  | true =>
   rw[Qx,hx]
   by_cases hc:(k == Rf && env.scope.kind == .function && env.kindOf n == some .cell)=true
   ·have hk:k = .free:=by
     rw[QS,QS] at hc
     exact eq_of_beq hc.1.1
    exact .inr (by rw[hk])
   ·rw[if_neg hc,Qx,hx] at h
    exact .inl h
  | false =>
   rw[Qx,hx]
   by_cases hc:(k == Rf && env.scope.kind == .function && env.kindOf n == some .cell)=true
   ·rw[if_pos hc,Qx,hx] at h; exact ih h
   ·rw[if_neg hc,Qx,hx] at h; exact ih h
theorem vq {env:Vb}:∀ (names:List (Px × Vi)) (acc:List (Px × Addr)),(∀ y∈names,y.2 = .free->∃ c,env.cells.lookup y.1=some c)->(∀ n c,acc.lookup n=some c->env.cells.lookup n=some c) →
  ∃ cl,(forIn names acc (fun (x:Px × Vi) (r:List (Px × Addr))=>(match x with | (name,kind)=>if (kind == Rf)=true then (do let c ← cellOf env name; pure (Ua ((name,c)::r))) else pure (Ua r):Sem (ForInStep (List (Px × Addr))))))=pure cl ∧
   (∀ n c,cl.lookup n=some c->env.cells.lookup n=some c)/\(∀ n c,acc.lookup n=some c->∃ c',cl.lookup n=some c')/\∀ y∈names,y.2 = .free->∃ c,cl.lookup y.1=some c
 | [],acc,_,h=>⟨acc,by rw[List.forIn_nil],h,fun _ c e=>⟨c,e⟩,fun y hy=>by simp at hy⟩
 | (n,k)::r,acc,hf,h=>by
  rw[List.forIn_cons]
  dsimp only
  by_cases hk:(k == Rf)=true
  ·rw[if_pos hk]
   have hk':k = .free:=eq_of_beq hk
   obtain⟨c,hc⟩:=hf (n,k) Ph hk'
   have hc:env.cells.lookup n=some c:=hc
   have ec:cellOf env n=pure c:=by unfold cellOf; rw[hc]
   have h2:∀ m d,((n,c)::acc).lookup m=some d->env.cells.lookup m=some d:=fun m d e=>by
    rw[Qx] at e
    cases hx:m == n with
    | true=>rw[hx] at e; cases e; rw[eq_of_beq hx]; exact hc
    | false=>rw[hx] at e; exact h m d e
   obtain⟨cl,e1,e2,e3,e4⟩:=vq r ((n,c)::acc) (fun y hy=>hf y (Pb _ hy)) h2
   refine⟨cl,by rw[ec,pure_bind,pure_bind]; exact e1,e2,fun m d e=>?_,fun y hy hyf=>?_⟩
   ·refine (match hx:m == n with | true=>e3 m c (by rw[Qx,hx]) | false=>e3 m d (by rw[Qx,hx]; exact e))
   ·rcases List.mem_cons.mp hy with rfl | hy
    ·exact e3 n c (by rw[Qx,beq_self_eq_true])
    ·exact e4 y hy hyf
  ·rw[if_neg hk]
   obtain⟨cl,e1,e2,e3,e4⟩:=vq r acc (fun y hy=>hf y (Pb _ hy)) h
   refine⟨cl,by rw[pure_bind]; exact e1,e2,e3,fun y hy hyf=>?_⟩
   rcases List.mem_cons.mp hy with rfl | hy
   ·exact absurd (by rw[show k=Rf from hyf]; rfl) hk
   ·exact e4 y hy hyf
theorem qM {scope:RD} {env:Vb} (h:∀ y∈scope.names,y.2 = .free->∃ c,env.cells.lookup y.1=some c) :
  ∃ cl,closureFor scope env=pure cl/\(∀ n c,cl.lookup n=some c->env.cells.lookup n=some c)/\∀ y∈scope.names,y.2 = .free->∃ c,cl.lookup y.1=some c:=by
 obtain⟨cl,e1,e2,_,e4⟩:=vq scope.names [] h (fun _ _ e=>by simp at e)
 refine⟨cl,?_,e2,e4⟩
 unfold closureFor
 first
  | exact e1
  | (rw[← bind_pure (x:=pure cl),← e1]; rfl)
  | (simp only[bind_pure]; exact e1)
def bA (X:Cx) (scope:RD) (cl:List (Px × Addr)) (C:Addr) (N:List Px) (s:Ov) (H:Hp) (fp:List Addr):Cx :=
 {X with N:=N,s₀:=s,H₀:=H,env:=WM scope cl C X.env,outer:=X.stack,ex:=fp,fn:=fun _=>false,pn:=[],xe:=fun _ _=>False }
structure lA (X:Cx) (scope:RD) (F:List Px) (cap:List Nat):Prop where
 kind:scope.kind = .function
 cell:∀ y∈scope.names,y.2≠.cell
 nms:∀ y∈scope.names,y.2 = .local->scope.names.lookup y.1=some .local
 fr:∀ y∈scope.names,y.2 = .free->X.env.kindOf y.1=some .cell∨X.env.kindOf y.1=some .free
 len:cap.length=F.length
 at':∀ (k:Nat) (x:Px),F[k]? = some x->∃ i,cap[k]? = some i/\X.N[i]? = some x/\scope.names.lookup x=some .free
def PTs (X:Cx) (ifs:List Expr) (t:TT):Prop :=
 ∀ (pins:List (Addr × Rx)) (s:Ov) (σ:St) (H:Hp) (Q:Bool->Hp->Prop),Inv X pins σ H s->t σ H Q →
  O3 (O5 X.prog X.w) X.A (forIn ifs true fun c r=>if r=true then do let ok ← isTrue c X.env (QZ c X.env); pure (Ua ok) else pure (Ua r)) (TP X pins σ Q) X.xe s
def Ij:TT:=fun _ H Q=>Q true H
theorem fc {X:Cx}:PTs X [] Ij:=fun _ _ _ H _ I h=>wpAny_tests_nil ⟨H,I,h⟩
theorem jV {X:Cx} {c:Expr} {t:TT} (hc:PT X c t):PTs X [c] t:=fun pins s σ H Q I h=>wpAny_tests_one (hc pins s σ H Q I h)
theorem za {prog:O9} {w:Qd} {A:Qc} {R:Vg->Ov->Prop} {s:Ov} {elt target iter:Expr} {ifs:List Expr} {scope:RD} {pos:Ut} {it acc:Value} {env:Vb} (I:Nat->Ov->Prop)
  (turn:∀ n s,I n s->O3 (O5 prog w) A (Sy it) (fun r s₁=>match r with
   | none=>R (.ok .next) s₁
   | some v=>O3 (O5 prog w) A (RP target it v) (fun _ s₀=>O3 (O5 prog w) A (VF target env v) (fun _ s₂ =>
     O3 (O5 prog w) A (forIn ifs true fun c r=>if r=true then do let ok ← isTrue c env (QZ c env); pure (Ua ok) else pure (Ua r)) (fun ok s₃ =>
      if ok=true then O3 (O5 prog w) A (QZ elt env) (fun x s₄=>O3 (O5 prog w) A (call (.builtin "list.append") [acc,x]) (fun _ s₅=>∃ m,m < n/\I m s₅) (fun _ _=>False) s₄) (fun _ _=>False) s₃
      else ∃ m,m < n/\I m s₃) (fun _ _=>False) s₂) (fun _ _=>False) s₀) (fun _ _=>False) s₁) (fun _ _=>False) s)
  (n:Nat) (h:I n s):QF (O5 prog w) A (.compLoop (.ListComp elt [⟨target,iter,ifs,0⟩] scope pos) 0 it acc env) R s:=by
 have no:∀ {E:Value->Ov->Prop} (x:Value) (s':Ov),(fun (_:Value) (_:Ov)=>False) x s'->E x s':=fun _ _ z=>z.elim
 refine codeAny_loop rfl I (fun n s hI=>?_) n h
 refine (show O3 (O5 prog w) A ((compTurn (.ListComp elt [⟨target,iter,ifs,0⟩] scope pos) 0 it acc env).onRaise (fun x=>do U9 x env; Xw x)) _ _ s from wpAny_noted ?_)
 rw[compTurn_list]
 refine Ou (RK (Ou (Qm (turn n s hI) (fun r s₁ h₁=>?_) no)))
 cases r with
 | none=>exact Oz h₁
 | some v =>
  refine Ou (Qm h₁ (fun _ s₀ h₀=>Ou (Qm h₀ (fun _ s₂ h₂=>Ou (Qm h₂ (fun ok s₃ h₃=>?_) no)) no)) no)
  cases ok with
  | false=>exact Oz ⟨rfl,h₃⟩
  | true=>exact Ou (Ou (Qm h₃ (fun x s₄ h₄=>Ou (Qm h₄ (fun _ s₅ h₅=>Oz (Oz ⟨rfl,h₅⟩)) no)) no))
def jA (D:Addr) (σ0:St) (J:It) (g:TG) (tt:TT) (te:TE) (H1:Hp) (Q:Hp->Prop):Prop :=
 ∃ W:Nat->Nat->List V->St->Hp->Prop,(∃ m,W 0 m [] σ0 (upd H1 D (.lst []))) ∧
  ∀ i m ys σ' H',W i m ys σ' H'->H' D=some (.lst ys)/\((J.stop i H'/\Q H')∨(J.go i H'/\∃ N:List V->St->Hp->Prop,(∀ zs σ2 H2,N zs σ2 H2->∃ m',m' < m/\W (i+1) m' zs σ2 H2) ∧
   ∀ x H2,J.yld i H' x H2->g x σ' H2 fun σ3 H3=>tt σ3 H3 fun b H4=>if b=true then te σ3 H4 fun y H5=>H5 D=some (.lst ys)/\ys.length < sizeLine/\N (ys++[y]) σ3 (upd H5 D (.lst (ys++[y]))) else N ys σ3 H4))
def GQ (n:Nat) (cap:List Nat) (σ:St):St:=QL n none++cap.map fun i=>(σ[i]?).join
def Mq (n:Nat) (cap:List Nat) (wi:TI) (g:TG) (tt:TT) (te:TE):TE:=fun σ H Q=>wi σ H fun J H1=>∀ D,H1 D=none->jA D (GQ n cap σ) J g tt te H1 fun H2=>Q (.ref D) H2
section
variable {X:Cx} {elt tg iter:Expr} {ifs:List Expr} {scope:RD} {pos:Ut} {L F:List Px} {cap:List Nat} {wi:TI} {g:TG} {tt:TT} {te:TE}
theorem uY {pins:List (Addr × Rx)} {σ:St} {H:Hp} {s:Ov} (I:Inv X pins σ H s) {b:Addr} (h1:b≠X.env.locals) (h2:b ∉ X.fs):b ∉ frs X.stack:=fun z=>(List.mem_cons.mp (I.pC b z)).elim h1 h2
theorem pA {cl:List (Px × Addr)} {pins:List (Addr × Rx)} {σ:St} {H:Hp} {s:Ov} {fp:List Addr} {h₁:Qo} {tk:Nat} (ok:lA X scope F cap) (I:Inv X pins σ H s) (hfp:∀ b∈fp,vZ X pins H b/\b < s.heap.objs.size)
  (sub:∀ n c,cl.lookup n=some c->X.env.cells.lookup n=some c) (all:∀ y∈scope.names,y.2 = .free->∃ c,cl.lookup y.1=some c)
  (ns:h₁.Ns s.heap.objs.size fun _=>none) (kp:∀ b o,s.heap.get? b=some o->h₁.get? b=some o) :
  Inv (bA X scope cl s.heap.objs.size (L++F) s H fp) [] (GQ L.length cap σ) H { s with heap:=h₁,toks:=tk }:=by
 have frk:∀ x,scope.names.lookup x=some .free->X.env.kindOf x=some .cell∨X.env.kindOf x=some .free:=fun x e=>ok.fr (x,.free) (Qt e) rfl
 have okX:(bA X scope cl s.heap.objs.size (L++F) s H fp).Ok:=by
  refine⟨I.ok.mod,ok.kind,I.ok.glob,I.ok.blt,OJ _,fun x y c e1 e2=>I.ok.inj x y c (sub x c e1) (sub y c e2),fun x hx=>?_,fun x c hx _=>?_,I.ok.hd,I.ok.frames,.inl rfl,fun b hb=>?_,I.bs,PX I.ok.bsz I.sz,fun b o e hb=>?_,fun b hb=>?_,I.stack,I.vy⟩
  ·have e:scope.names.lookup x=some .free:=by
    rcases hx with hx | hx
    ·rcases uQ (env:=X.env) (show _=some Wq from hx) with e | e
     ·exact absurd rfl (ok.cell _ (Qt e))
     ·exact e
    ·rcases uQ (env:=X.env) (show _=some Rf from hx) with e | e <;> exact e
   exact all (x,.free) (Qt e) rfl
  ·exact absurd (show false=true from hx) O2
  ·exact⟨Pa (hfp b hb).2,fun x c e=>(hfp b hb).1.2.2.2.2.1 x c (sub x c e)⟩
  ·obtain⟨_,_,_,f3,_⟩:=(hfp b hb).1
   rcases f3 with z | z
   ·exact I.ok.noex b o e z
   ·exact absurd (OD (O4 e) (PX I.ok.bsz z)) (Qu _)
  ·obtain⟨_,f1,f2,_⟩:=(hfp b hb).1
   exact uY I f1 f2
 refine⟨okX,rfl,I.bare,Un.kept kp,⟨_,ns,fun i x v e1 e2 e3=>?_⟩,fun x c e=>?_,I.hok.fresh (OJ _),fun x c e=>I.freeC x c (sub x c e),fun p hp=>absurd (show p∈([]:List (Addr × Rx)) from hp) (by simp),I.hok.kept kp,?_⟩
 ·have e1:(L++F)[i]? = some x:=e1
  have e2:(QL L.length none++cap.map fun i=>(σ[i]?).join)[i]? = some (some v):=e2
  have hL:¬ i < L.length:=fun hi=>by
   rw[List.getElem?_append_left (by simpa using hi),VB] at e2
   split at e2 <;> cases e2
  have hi:L.length<=i:=Nat.le_of_not_lt hL
  rw[Vj hi] at e1
  rw[Vj (by simpa using hi),SJ,Pk] at e2
  obtain⟨j,hj,hN,hk⟩:=ok.at' _ _ e1
  rw[hj] at e2
  have e4:(σ[j]?).join=some v:=by simpa using e2
  have e5:σ[j]? = some (some v):=by
   cases q:σ[j]? with
   | none=>rw[q] at e4; cases e4
   | some a=>rw[q] at e4; exact congrArg some e4
  obtain⟨m,hn,hl⟩:=I.loc
  have kd:=frk x hk
  obtain⟨u,r,lk⟩:=hl j x v hN e5 (kd.elim (fun z=>.inr (.inl z)) fun z=>.inr (.inr z))
  obtain⟨c,hc,hcell⟩:∃ c,X.env.cells.lookup x=some c/\s.heap.IsCell c (some u):=by
   rcases lk with⟨z,_⟩ | ⟨_,c,z1,z2⟩
   ·rcases kd with y | y <;> (rw[y] at z; cases z)
   ·exact⟨c,z1,z2⟩
  obtain⟨c',hc'⟩:=all (x,.free) (Qt hk) rfl
  have ec:c'=c:=by
   have:=sub x c' hc'
   rw[hc] at this
   exact (Qh this).symm
  subst ec
  obtain⟨o,ho,hd⟩:=hcell
  exact⟨u,r,.inr ⟨(Dp (env:=X.env) hk),c',hc',o,kp _ _ ho,hd⟩⟩
 ·obtain⟨v,o,ho,hd⟩:=I.cell x c (sub x c e)
  exact⟨v,o,kp _ _ ho,hd⟩
 ·show (QL L.length (none:Option V)++cap.map fun i=>(σ[i]?).join).length=(L++F).length
  rw[Qa,Qa,SJ,Ow,ok.len]
theorem wB {cl:List (Px × Addr)} {pins:List (Addr × Rx)} {σ:St} {s2:Ov} {H2:Hp} {it:Addr} {fp:List Addr} {tn:Nat->Qo->Prop} {J:It} {use:Option (Value->Sem Unit)} {QQ:Value->Ov->Prop} {Z:Hp->Prop} {E:Value->Ov->Prop}
  (hc:X.calm=true) (ok:lA X scope F cap)
  (sub:∀ n c,cl.lookup n=some c->X.env.cells.lookup n=some c) (all:∀ y∈scope.names,y.2 = .free->∃ c,cl.lookup y.1=some c)
  (hg:∀ cl C s H fp,PG (bA X scope cl C (L++F) s H fp) tg g) (ht:∀ cl C s H fp,PTs (bA X scope cl C (L++F) s H fp) ifs tt) (he:∀ cl C s H fp,PE (bA X scope cl C (L++F) s H fp) elt te)
  (I2:Inv X pins σ H2 s2) (T:Turn X.prog X.w X.K tg J fp it tn) (st2:tn 0 s2.heap) (f2:∀ b∈fp,vZ X pins H2 b)
  (q2:jA s2.heap.objs.size (GQ L.length cap σ) J g tt te H2 Z)
  (fin:∀ (C:Addr) (s':Ov) (H':Hp),Z H'->Inv X pins σ H' s'->(∃ m,s'.heap.Ns C m)->H' C=none->C≠X.env.locals->X.s₀.heap.objs.size<=C->(∀ x c,X.env.cells.lookup x=some c->c≠C)->(∀ p∈X.pn++pins,p.1≠C) →
   Vw (O5 X.prog X.w) X.A E use QQ (.ref s2.heap.objs.size) C (.ok .next) s') :
  O3 (O5 X.prog X.w) X.A (newList []) (fun acc s₃=>O3 (O5 X.prog X.w) X.A (newFunctionEnv scope X.env.globals cl [] X.env.qual none .none (some X.env)) (fun cenv s₄ =>
   QF (O5 X.prog X.w) X.A (.compStart (.ListComp elt [⟨tg,iter,ifs,0⟩] scope pos) 0 (.ref it) acc { cenv with scope:=relabel scope X.env }) (Vw (O5 X.prog X.w) X.A E use QQ acc cenv.locals) s₄) E s₃) E s2:=by
 have hD:H2 s2.heap.objs.size=none:=I2.fresh
 refine Qg (V4 ok.cell (by intro y hy; simp at hy) (fun h₁ hns₁ hsb₁=>?_) ok.kind)
 dsimp only at hns₁ hsb₁ ⊢
 have I3:Inv X pins σ (upd H2 s2.heap.objs.size (.lst [])) { s2 with heap:=s2.heap.push { cls:=.type "list",data:=.seq ([]:List Value).toArray } }:=I2.Mt (t':=s2.toks) (ys:=[]) (its:=[]) .nil (Ql _)
 have blt:∀ b∈fp,b < s2.heap.objs.size:=fun b hb=>let ⟨_,e,_⟩:=T.obj 0 _ st2 b hb; O4 e
 have szC:(s2.heap.push { cls:=.type "list",data:=.seq ([]:List Value).toArray }).objs.size=s2.heap.objs.size+1:=QX _ _
 generalize hs3:({ s2 with heap:=s2.heap.push { cls:=.type "list",data:=.seq ([]:List Value).toArray } }:Ov)=s3 at I3
 have es3:s3.heap=s2.heap.push { cls:=.type "list",data:=.seq ([]:List Value).toArray }:=by rw[← hs3]
 have eos:s3.os=s2.os:=by rw[← hs3]
 have fok:∀ b∈fp,vZ X pins (upd H2 s2.heap.objs.size (.lst [])) b/\b < s3.heap.objs.size:=fun b hb=>by
  obtain⟨f0,fr⟩:=f2 b hb
  refine⟨⟨by rw[aN (Pa (blt b hb))]; exact f0,fr⟩,?_⟩
  rw[es3,szC]
  exact QB (blt b hb)
 have hkp:∀ b o,s3.heap.get? b=some o->h₁.get? b=some o:=fun b o e=>by
  have e':b < s3.heap.objs.size:=O4 e
  rw[es3] at e e'
  exact (hsb₁.2 b (Pa e')).trans (Ox _ e)
 have hns:h₁.Ns s3.heap.objs.size fun _=>none:=by
  rw[es3]
  exact hns₁
 have I4:∀ tk,Inv (bA X scope cl s3.heap.objs.size (L++F) s3 (upd H2 s2.heap.objs.size (.lst [])) fp) [] (GQ L.length cap σ) (upd H2 s2.heap.objs.size (.lst [])) { s3 with heap:=h₁,toks:=tk }:=fun tk =>
  pA (L:=L) ok I3 fok sub all hns hkp
 have stat:∀ {H':Hp},(∀ b∈fp,H' b=none)->∀ b∈fp,vZ (bA X scope cl s3.heap.objs.size (L++F) s3 (upd H2 s2.heap.objs.size (.lst [])) fp) [] H' b:=fun {H'} hn b hb=>by
  obtain⟨⟨_,g1,g2,g3,g4,g5⟩,g6⟩:=fok b hb
  exact⟨hn b hb,Pa g6,uY I3 g1 g2,.inl hb,fun x c e=>g4 x c (sub x c e),fun p hp=>absurd (show p∈([]:List (Addr × Rx)) from hp) (by simp)⟩
 have loop:∀ tk,QF (O5 X.prog X.w) X.A (.compLoop (.ListComp elt [⟨tg,iter,ifs,0⟩] scope pos) 0 (.ref it) (.ref s2.heap.objs.size) (WM scope cl s3.heap.objs.size X.env))
   (Vw (O5 X.prog X.w) X.A E use QQ (.ref s2.heap.objs.size) s3.heap.objs.size) { s3 with heap:=h₁,toks:=tk }:=fun tk=>by
  obtain⟨W,⟨m0,w0⟩,turn⟩:=q2
  have st3:tn 0 h₁:=T.keep 0 _ _ st2 fun b hb o e=>hkp b o (by rw[es3]; exact Ox _ e)
  refine za (fun n s'=>∃ i ys σ' H',Inv (bA X scope cl s3.heap.objs.size (L++F) s3 (upd H2 s2.heap.objs.size (.lst [])) fp) [] σ' H' s'/\tn i s'.heap/\(∀ b∈fp,H' b=none)/\W i n ys σ' H') ?_ m0
   ⟨0,[],_,_,I4 tk,st3,fun b hb=>(fok b hb).1.1,w0⟩
  rintro n s5 ⟨i,ys,σ5,H5,I5,st5,fr5,w5⟩
  obtain⟨hDl,alt⟩:=turn i n ys σ5 H5 w5
  rcases alt with⟨stop,qz⟩ | ⟨go,N,hN,step⟩
  ·refine thn (T.done (bA X scope cl s3.heap.objs.size (L++F) s3 (upd H2 s2.heap.objs.size (.lst [])) fp) rfl rfl rfl hc i [] s5 σ5 H5 _ I5 (stat fr5) st5 stop) fun r s6 ⟨hr,I6⟩=>?_
   subst hr
   have un:Un (frs X.stack) fp H2 H5 s2.heap s6.heap:=by
    have u1:Un (frs X.stack) fp H2 (upd H2 s2.heap.objs.size (.lst [])) s2.heap s3.heap:=by
     rw[es3]
     exact Un.laid (fun _ _ q=>Ox _ q) (OJ _) hD
    exact u1.trans I6.base
   have J1:Inv X pins σ H5 s6:=I2.call' (I6.os.trans eos) un I6.hok I6.bare fun b hb=>by
    obtain⟨_,g1,_,g3,g4,g5⟩:=f2 b hb
    exact⟨g3,g1,g4,g5⟩
   have hC:s2.heap.objs.size<=s3.heap.objs.size:=by rw[es3,szC]; exact Rm _
   obtain⟨m,hm,_⟩:=I6.loc
   refine fin s3.heap.objs.size s6 H5 qz J1 ⟨m,hm⟩ I6.free (Tz (OD I2.lt hC)) (PX I2.sz hC) (fun x c e z=>?_) (fun p hp z=>?_)
   ·obtain⟨v,q⟩:=I2.cell x c e
    exact absurd (OD q.lt (by rw[z]; exact hC)) (Qu _)
   ·exact absurd (OD (O4 (I2.pin p hp).1) (by rw[z]; exact hC)) (Qu _)
  ·refine thn (T.item (bA X scope cl s3.heap.objs.size (L++F) s3 (upd H2 s2.heap.objs.size (.lst [])) fp) rfl rfl rfl hc i [] s5 σ5 H5 _ I5 (stat fr5) st5 go) fun r s6 ⟨u,hr,h6⟩=>?_
   subst hr
   refine thn h6 fun _ s7 ⟨x,H7,I7,r7,y7,st7,fr7⟩=>?_
   have I7':=I7.pinned (stat fr7) (T.obj _ _ st7)
   refine thn (hg _ _ _ _ _ _ s7 σ5 H7 x u _ I7' r7 (step x H7 y7)) fun _ s8 ⟨σ8,H8,I8,q8⟩=>?_
   have again:∀ {σ9:St} {H9:Hp} {s9:Ov} {zs:List V},Inv (bA X scope cl s3.heap.objs.size (L++F) s3 (upd H2 s2.heap.objs.size (.lst [])) fp) ([]++lD fp s7.heap) σ9 H9 s9->N zs σ9 H9 →
     ∃ m,m < n/\∃ i ys σ' H',Inv (bA X scope cl s3.heap.objs.size (L++F) s3 (upd H2 s2.heap.objs.size (.lst [])) fp) [] σ' H' s9/\tn i s9.heap/\(∀ b∈fp,H' b=none)/\W i m ys σ' H':=fun {σ9 H9 s9 zs} I9 n9=>by
    obtain⟨m',hm,w9⟩:=hN zs σ9 H9 n9
    refine⟨m',hm,i+1,zs,σ9,H9,I9.iC,T.keep _ _ _ st7 fun b hb o e=>(I9.pin (b,o) (PQ _ (PQ _ (cT hb e)))).1,fun b hb=>?_,w9⟩
    obtain⟨o,e,d⟩:=T.obj _ _ st7 b hb
    exact (I9.pin (b,o) (PQ _ (PQ _ (cT hb e)))).2.1
   refine thn (ht _ _ _ _ _ _ s8 σ8 H8 _ I8 q8) fun okb s9 ⟨H9,I9,q9⟩=>?_
   cases okb with
   | false =>
    rw[if_neg O2] at q9 ⊢
    exact again I9 q9
   | true =>
    rw[if_pos rfl] at q9 ⊢
    refine thn (he _ _ _ _ _ _ s9 σ8 H9 _ I9 q9) fun y s10 ⟨yv,H10,I10,r10,e10,z10,n10⟩=>?_
    refine thn (fH _ s10 σ8 H10 (.ref s2.heap.objs.size) [yv] (.ref s2.heap.objs.size) [y] (fun _ H'=>N (ys++[yv]) σ8 H') I10 rfl (.cons r10 .nil) ⟨_,ys,yv,rfl,rfl,e10,z10,n10⟩) fun _ s11 ⟨_,H11,I11,_,n11⟩=>?_
    exact again I11 n11
 have eC:(s2.heap.push { cls:=.type "list",data:=.seq ([]:List Value).toArray }).objs.size=s3.heap.objs.size:=by rw[es3]
 have goal:∀ tk,QF (O5 X.prog X.w) X.A (.compStart (.ListComp elt [⟨tg,iter,ifs,0⟩] scope pos) 0 (.ref it) (.ref s2.heap.objs.size) (WM scope cl s3.heap.objs.size X.env))
   (Vw (O5 X.prog X.w) X.A E use QQ (.ref s2.heap.objs.size) s3.heap.objs.size) { s3 with heap:=h₁,toks:=tk }:=fun tk =>
  codeAny_compStart_list (loop tk) (T.self _ 0 _ _ _ (T.keep 0 _ _ st2 fun b hb o e=>hkp b o (by rw[es3]; exact Ox _ e)) (loop tk))
 have g0:=goal (s2.toks+([]:List (Px × Value)).length)
 subst hs3
 exact g0
theorem di (hc:X.calm=true) (ok:lA X scope F cap) (hi:PI X tg iter wi)
  (hg:∀ cl C s H fp,PG (bA X scope cl C (L++F) s H fp) tg g) (ht:∀ cl C s H fp,PTs (bA X scope cl C (L++F) s H fp) ifs tt) (he:∀ cl C s H fp,PE (bA X scope cl C (L++F) s H fp) elt te)
  (hs:∀ x,Rz iter X.env x=pure x:=by intro _; rfl):PE X (.ListComp elt [⟨tg,iter,ifs,0⟩] scope pos) (Mq L.length cap wi g tt te):=by
 intro pins s σ H Q I h
 obtain⟨cl,e1,e2,e3⟩:=qM (scope:=scope) (env:=X.env) (fun y hy hf=>I.ok.has _ (ok.fr y hy hf))
 rw[eval_ListComp]
 refine Vq (use:=none) rfl hs e1 ok.kind ok.nms (thn (hi pins s σ H _ I h) fun v s1 h1=>thn h1 fun itv s2 h2=>?_)
 obtain⟨it,fp,tn,J,H2,e,I2,T,st2,f2,q2⟩:=h2
 subst e
 refine wB (Z:=fun H'=>Q (.ref s2.heap.objs.size) H') hc ok e2 e3 hg ht he I2 T st2 f2 (q2 _ I2.fresh) fun C s' H' z J m hCf hCl hCs hCc hCp=>?_
 ·obtain⟨m,hm⟩:=m
  exact⟨m,hm,fun h' hs'=>⟨.ref _,H',J.turned (t':=s'.toks) (fun b o hb e=>(hs'.2 b hb).trans e) hCf hCl (.inr hCs) hCc hCp,rfl,z⟩⟩
def K9 (n:Nat) (cap:List Nat) (wi:TI) (g:TG) (tt:TT) (te:TE) (j:Nat):TS:=fun D σ H=>wi σ H fun J H1=>∀ d,H1 d=none->jA d (GQ n cap σ) J g tt te H1 fun H2=>D.nx (σ.set j (some (.ref d))) H2
theorem u9 {j:Nat} {y:Px} {py spos:Ut} (hN:X.N.Nodup) (hj:X.N[j]? = some y) (hy:Loc X.env.scope y) (hc:X.calm=true) (ok:lA X scope F cap) (hi:PI X tg iter wi)
  (hg:∀ cl C s H fp,PG (bA X scope cl C (L++F) s H fp) tg g) (ht:∀ cl C s H fp,PTs (bA X scope cl C (L++F) s H fp) ifs tt) (he:∀ cl C s H fp,PE (bA X scope cl C (L++F) s H fp) elt te)
  (hsw:V9 (.ListComp elt [⟨tg,iter,ifs,0⟩] scope pos) (some (.Name y py)) spos.line X.env=pure true:=by rfl)
  (hs:∀ x,Rz iter X.env x=pure x:=by intro _; rfl) (hf:X.fn y=true∨X.env.scope.names.lookup y=some .local:=by first | exact .inl rfl | exact .inr rfl | assumption) :
  PS X (.Assign [.Name y py] (.ListComp elt [⟨tg,iter,ifs,0⟩] scope pos) spos) (K9 L.length cap wi g tt te j):=by
 intro pins s σ H D I h
 obtain⟨cl,e1,e2,e3⟩:=qM (scope:=scope) (env:=X.env) (fun y hy hf=>I.ok.has _ (ok.fr y hy hf))
 rw[exec_Assign_Name_used _ _ _ _ hsw]
 refine Ou (RK (Ou ?_))
 show O3 (O5 X.prog X.w) X.A (do let _ ← comprehension (.ListComp elt [⟨tg,iter,ifs,0⟩] scope pos) scope X.env _ (newList []) false (QZ iter X.env) (some (VF (.Name y py) X.env))) _ _ s
 refine Ou (Qm (Vq (use:=some (VF (.Name y py) X.env)) (Q:=fun _ s'=>SP X pins D .next s') rfl hs e1 ok.kind ok.nms
  (thn (hi pins s σ H _ I h) fun v s1 h1=>thn h1 fun itv s2 h2=>?_)) (fun _ s' hq=>Oz (Oz hq)) fun _ _ e=>e)
 obtain⟨it,fp,tn,J,H2,e,I2,T,st2,f2,q2⟩:=h2
 subst e
 refine wB (Z:=fun H'=>D.nx (σ.set j (some (.ref s2.heap.objs.size))) H') hc ok e2 e3 hg ht he I2 T st2 f2 (q2 _ I2.fresh) fun C s' H' z J m hCf hCl hCs hCc hCp=>?_
 obtain⟨m,hm⟩:=m
 refine wpAny_assign_Name (ur J hN hj hy (v:=.ref s2.heap.objs.size) rfl (fun s5 I5 hs5=>?_) hf)
 obtain⟨a,sb,ha⟩:=hs5
 have hne:C≠a:=by
  rcases ha with rfl | ha
  ·exact hCl
  ·exact QM (hCc y a ha)
 exact⟨m,hm.sameBut sb hne,fun h' hs'=>⟨_,H',I5.turned (t':=s5.toks) (fun b o hb e=>(hs'.2 b hb).trans e) hCf hCl (.inr hCs) hCc hCp,z⟩⟩
end
end L2
namespace L2
open PySem PySem.Spec PyProof.Rows
structure Df (P:O9) (w:Qd) (K:O1) (mg:Px->Option Value) (base:Qo) (x:Px) (k:Nat) (ps:List Px) (sp:Sp):Prop where
 ex:∃ (f:Addr) (fd:Qw),bK P w K mg base CX0 k f fd ps sp/\mg x=some (.ref f)/\QW K (.ref f)=true/\Binds K fd ps []
section
variable {X:Cx} {k j:Nat} {x:Px} {ps:List Px} {sp:Sp} {p pos:Ut} {e:Expr} {es:List Expr} {t:TA}
theorem bC (D:Df X.prog X.w X.K X.mg X.base x k ps sp) (hr:dG j X.A) (ha:PA X (e::es) t) (hk:k<=j:=by first | decide | exact OJ _ | lia) (hg:Gl X x:=by rfl)
  (hdb:(x == ("__debug__" : Px))=false:=by decide) (he:Pz (e::es) X.env=(false,QZ e X.env)::Pz es X.env:=by rfl) (hpl:(Rn pos (Pz es X.env)).any (·.1)=false:=by rfl) :
  PE X (.Call (.Name x p) (e::es) [] pos) (Dk sp [] E0 t):=by
 obtain⟨f,fd,F,hm,hkp,hb⟩:=D.ex
 exact Cq F (hr.mono hk) hg hm hkp hb .nil mR ha hdb he hpl
theorem lO {i:Int} {tk:Xu} (hm:X.mg x=some (.int i tk)) (hg:Gl X x:=by rfl) (hd:(x == ("__debug__" : Px))=false:=by decide):PE X (.Name x pos) (tC (.int i)):=HQ hg hm ⟨_,rfl⟩ hd
theorem iw {T:String} (hm:X.mg x=none) (hv:Qn x=some (.type T)) (hg:Gl X x:=by rfl) (hn:x≠"__name__":=by decide) (hd:(x == ("__debug__" : Px))=false:=by decide):PE X (.Name x pos) (tC (.ty T)):=Hm hg hm hv rfl hn hd
inductive Kq (K:Py) (xs:List V) (H:Hp) (Q:VK):Prop where
 | mk (x:V) (T:String) (t:Value) (b:Bool) (z0:xs=[x,.ty T]) (z1:ye K H x t) (z2:Tf K t (.type T)=some b) (z3:Q (.bl b) H):Kq K xs H Q
def qZ (K:Py):List V->Hp->VK->Prop:=fun xs H Q=>Kq K xs H Q
theorem bU:fL X (.builtin "isinstance") (qZ X.K):=by
 intro pins s σ H xs us Q I r h
 obtain⟨x,T,t,b,rfl,ty,e,q⟩:=h
 obtain⟨u,v,rfl,ru,rv⟩:=vals2 r
 cases (show v=R0 T from rv)
 exact Ab I ru ty e fun tk=>⟨.bl b,H,I.tok tk,rfl,q⟩
def jC (K:Py):List V->Hp->VK->Prop:=fun xs H Q=>∃ (p:Addr) (ys:List V),xs=[.ref p]/\(SqL K H p ys∨SqT K H p ys)/\Q (.int ys.length) H
theorem aU:fL X (.builtin "len") (jC X.K):=rn
def ji (K:Py):List V->Hp->VK->Prop:=fun xs H Q=>∃ (p:Addr) (ys:List V),xs=[.ref p]/\(SqL K H p ys∨SqT K H p ys)/\∀ l,H l=none->Q (.ref l) (upd H l (.lst ys))
theorem dU:fL X (.type "list") (ji X.K):=sW
def rB (K:Py):List V->Hp->VK->Prop:=fun xs H Q=>∃ (p:Addr) (ys:List V),xs=[.ref p]/\((SqL K H p ys/\∀ l,H l=none->Q (.ref l) (upd H l (.tup ys)))∨(SqT K H p ys/\Q (.ref p) H))
theorem gm:fL X (.type "tuple") (rB X.K):=qR
theorem iK:∀ bs:List Bool,(Rk bs.length).all (fun i=>bs.getD i true)=bs.all fun b=>b
 | []=>rfl
 | b::r=>by
  have ih:=iK r
  rw[PK,List.range_succ_eq_map,Vv,List.all_map,Vv,← ih]
  rfl
inductive Gf (K:Py) (xs:List V) (H:Hp) (Q:VK):Prop where
 | mk (p:Addr) (bs:List Bool) (z0:xs=[.ref p]) (z1:SqL K H p (bs.map V.bl)) (z2:Q (.bl (bs.all fun b=>b)) H):Gf K xs H Q
def Ed (K:Py):List V->Hp->VK->Prop:=fun xs H Q=>Gf K xs H Q
theorem mV (hc:X.calm=true):fL X (.builtin "all") (Ed X.K):=by
 intro pins s σ H xs us Q I r h
 obtain⟨p,bs,rfl,hq,q⟩:=h
 obtain⟨u,rfl,ru⟩:=vals1 r
 cases ru
 obtain⟨its,rv,pl,hz⟩:=I.list hq
 have hlen:bs.length=its.length:=by simpa using rv.length
 refine call_all_walk (Uj pl.isList ?_)
 have I1:Inv X pins σ H { s with heap:=s.heap.push { cls:=.type "list_iterator",data:=.fields #[.ref p,.int 0 0] } }:=I.kept (t':=s.toks) fun b o e=>Ox _ e
 have hne:p≠s.heap.objs.size:=by
  obtain⟨o,ho,_⟩:=pl.isList
  exact Pa (O4 ho)
 refine⟨s.heap.objs.size,_,_,_,_,_,fun i=>bs.getD i true,rfl,Ws (A:=X.A.in1) (I.ok.hd hc) s.heap.objs.size p hne its.toArray,⟨⟨_,O6 _ rfl,rfl,rfl⟩,?_⟩,?_,fun h' tk hk=>?_⟩
 ·obtain⟨o,ho,hr⟩:=pl.isList
  exact⟨o,Ox _ ho,hr⟩
 ·intro i v s' Q' E' hP hQ
  have hP:its[i]? = some v:=by simpa using hP
  have hi:i < bs.length:=by
   rw[hlen]
   exact (List.getElem?_eq_some_iff.mp hP).1
  obtain⟨u',hu',ru'⟩:=rv.get (i:=i) (x:=V.bl bs[i]) (by rw[Pk,PB hi]; rfl)
  rw[hP] at hu'
  cases hu'
  cases (show v=VG bs[i] from ru')
  refine Rh ?_
  have eg:bs.getD i true=bs[i]:=by rw[Qq,PB hi]; rfl
  have hQ':Q' (bs.getD i true) s':=hQ
  rw[eg] at hQ'
  exact hQ'
 ·have f:=I.Jm (b:=s.heap.objs.size) (H':=H) (OJ _) I.fresh
  have eall:(Rk its.toArray.size).all (fun i=>bs.getD i true)=bs.all fun b=>b:=by
   have el:its.toArray.size=bs.length:=by rw[Pj,hlen]
   rw[el]
   exact iK bs
  rw[eall]
  exact⟨.bl _,H,I1.turned (t':=tk) (it:=s.heap.objs.size) (fun b o hb e=>hk b o (by simpa using hb) e) f.1 f.2.1 f.2.2.2.1 f.2.2.2.2.1 f.2.2.2.2.2,rfl,q⟩
end
end L2
namespace L2
open PySem PySem.Spec PyProof.Rows
def Br (osc:RD) (oN:List Px) (sc:RD) (F:List Px) (cap:List Nat):Bool :=
 decide (sc.kind = .function) && sc.names.all (fun y=>!decide (y.2 = .cell)) && sc.names.all (fun y=>!decide (y.2 = .local) || decide (sc.names.lookup y.1=some .local)) &&
 sc.names.all (fun y=>!decide (y.2 = .free) || decide (osc.names.lookup y.1=some .cell) || decide (osc.names.lookup y.1=some .free)) && decide (cap.length=F.length) &&
 (Rk F.length).all fun k=>(decide (F[k]? = none) || decide ((cap[k]?.bind fun i=>oN[i]?)=F[k]?)) && decide ((F[k]?.bind fun x=>sc.names.lookup x)=some .free)
theorem cG {X:Cx} {osc sc:RD} {oN F:List Px} {cap:List Nat} (ho:X.env.scope=osc) (hN:X.N=oN) (h:Br osc oN sc F cap=true):lA X sc F cap:=by
 unfold Br at h
 simp only[QS] at h
 obtain⟨⟨⟨⟨⟨h1,h2⟩,h3⟩,h4⟩,h5⟩,h6⟩:=h
 refine⟨of_decide_eq_true h1,fun y hy e=>?_,fun y hy e=>?_,fun y hy e=>?_,of_decide_eq_true h5,fun k x e=>?_⟩
 ·have:=List.all_eq_true.mp h2 y hy
  rw[e] at this
  exact absurd this (by decide)
 ·have:=List.all_eq_true.mp h3 y hy
  rw[decide_eq_true e] at this
  exact of_decide_eq_true (by simpa using this)
 ·have:=List.all_eq_true.mp h4 y hy
  rw[decide_eq_true e] at this
  have z:decide (osc.names.lookup y.1=some .cell)=true∨decide (osc.names.lookup y.1=some .free)=true:=by
   rw[Bool.not_true,Wr,XJ] at this
   exact this
  show X.env.scope.names.lookup y.1=_∨X.env.scope.names.lookup y.1=_
  rw[ho]
  exact z.elim (fun q=>.inl (of_decide_eq_true q)) fun q=>.inr (of_decide_eq_true q)
 ·have hk:k < F.length:=(List.getElem?_eq_some_iff.mp e).1
  have q:=List.all_eq_true.mp h6 k (List.mem_range.mpr hk)
  rw[e,QS] at q
  obtain⟨q1,q2⟩:=q
  have q1:(cap[k]?.bind fun i=>oN[i]?)=some x:=by
   rw[XJ] at q1
   rcases q1 with z | z
   ·exact absurd (of_decide_eq_true z) (by simp)
   ·exact of_decide_eq_true z
  have q2:sc.names.lookup x=some .free:=of_decide_eq_true q2
  cases hc:cap[k]? with
  | none=>rw[hc] at q1; cases q1
  | some i =>
   rw[hc] at q1
   exact⟨i,rfl,by rw[hN]; exact q1,q2⟩
theorem cg {X:Cx} {scope:RD} {cl:List (Px × Addr)} {C:Addr} {N:List Px} {s:Ov} {H:Hp} {fp:List Addr} (h:N.Nodup):(bA X scope cl C N s H fp).N.Nodup:=h
section
variable {K:Py} {a D:Addr} {xs:List V} {g:TG} {tt:TT} {te:TE} {H1:Hp} {Q:Hp->Prop} {σ0:St}
theorem eX (Pv:Nat->List V->St->Hp->Prop) (h0:Pv 0 [] σ0 (upd H1 D (.lst []))) (hl:∀ i ys σ H,i<=xs.length->Pv i ys σ H->SqT K H a xs/\H D=some (.lst ys))
  (hs:∀ i ys x σ H,xs[i]? = some x->Pv i ys σ H->g x σ H fun σ3 H3=>tt σ3 H3 fun b H4=>if b=true then te σ3 H4 fun y H5=>H5 D=some (.lst ys)/\ys.length < sizeLine/\Pv (i+1) (ys++[y]) σ3 (upd H5 D (.lst (ys++[y]))) else Pv (i+1) ys σ3 H4)
  (hd:∀ ys σ H,Pv xs.length ys σ H->Q H):jA D σ0 (Itt K a) g tt te H1 Q:=by
 refine⟨fun i m ys σ H=>m=xs.length - i/\i<=xs.length/\Pv i ys σ H,⟨xs.length,by simp,Ql _,h0⟩,?_⟩
 rintro i m ys σ H ⟨rfl,hi,p⟩
 obtain⟨q,qD⟩:=hl i ys σ H hi p
 refine⟨qD,?_⟩
 by_cases hlt:i < xs.length
 ·refine .inr ⟨⟨xs,xs[i],q,by simp [hlt]⟩,Pv (i+1),fun zs σ' H' p'=>⟨xs.length - (i+1),by lia,rfl,hlt,p'⟩,fun x H' y=>?_⟩
  obtain⟨e,y⟩:=y
  subst e
  exact hs i ys x σ _ (y xs q) p
 ·have e:i=xs.length:=by lia
  subst e
  exact .inl ⟨⟨xs,q,OJ _⟩,hd ys σ H p⟩
theorem mQ (Pv:Nat->List V->St->Hp->Prop) (h0:Pv 0 [] σ0 (upd H1 D (.lst []))) (hl:∀ i ys σ H,i<=xs.length->Pv i ys σ H->SqL K H a xs/\H D=some (.lst ys))
  (hs:∀ i ys x σ H,xs[i]? = some x->Pv i ys σ H->g x σ H fun σ3 H3=>tt σ3 H3 fun b H4=>if b=true then te σ3 H4 fun y H5=>H5 D=some (.lst ys)/\ys.length < sizeLine/\Pv (i+1) (ys++[y]) σ3 (upd H5 D (.lst (ys++[y]))) else Pv (i+1) ys σ3 H4)
  (hd:∀ ys σ H,Pv xs.length ys σ H->Q H):jA D σ0 (Itl K a) g tt te H1 Q:=by
 refine⟨fun i m ys σ H=>m=xs.length - i/\i<=xs.length/\Pv i ys σ H,⟨xs.length,by simp,Ql _,h0⟩,?_⟩
 rintro i m ys σ H ⟨rfl,hi,p⟩
 obtain⟨q,qD⟩:=hl i ys σ H hi p
 refine⟨qD,?_⟩
 by_cases hlt:i < xs.length
 ·refine .inr ⟨⟨xs,xs[i],q,by simp [hlt]⟩,Pv (i+1),fun zs σ' H' p'=>⟨xs.length - (i+1),by lia,rfl,hlt,p'⟩,fun x H' y=>?_⟩
  obtain⟨e,y⟩:=y
  subst e
  exact hs i ys x σ _ (y xs q) p
 ·have e:i=xs.length:=by lia
  subst e
  exact .inl ⟨⟨xs,q,OJ _⟩,hd ys σ H p⟩
theorem fO {lo:Int} {n:Nat} (Pv:Nat->List V->St->Hp->Prop) (h0:Pv 0 [] σ0 (upd H1 D (.lst []))) (hl:∀ i ys σ H,i<=n->Pv i ys σ H->H D=some (.lst ys))
  (hs:∀ i ys σ H,i < n->Pv i ys σ H->g (.int (lo+i)) σ H fun σ3 H3=>tt σ3 H3 fun b H4=>if b=true then te σ3 H4 fun y H5=>H5 D=some (.lst ys)/\ys.length < sizeLine/\Pv (i+1) (ys++[y]) σ3 (upd H5 D (.lst (ys++[y]))) else Pv (i+1) ys σ3 H4)
  (hd:∀ ys σ H,Pv n ys σ H->Q H):jA D σ0 (Itr lo n) g tt te H1 Q:=by
 refine⟨fun i m ys σ H=>m=n - i/\i<=n/\Pv i ys σ H,⟨n,by simp,Ql _,h0⟩,?_⟩
 rintro i m ys σ H ⟨rfl,hi,p⟩
 refine⟨hl i ys σ H hi p,?_⟩
 by_cases hlt:i < n
 ·refine .inr ⟨hlt,Pv (i+1),fun zs σ' H' p'=>⟨n - (i+1),by lia,rfl,hlt,p'⟩,fun x H' y=>?_⟩
  obtain⟨e,y⟩:=y
  subst e y
  exact hs i ys σ _ hlt p
 ·have e:i=n:=by lia
  subst e
  exact .inl ⟨OJ _,hd ys σ H p⟩
end
structure Bt (mg:Px->Option Value):Prop where
 len_:mg "len" = none
 range_:mg "range" = none
 all_:mg "all" = none
 isinstance_:mg "isinstance" = none
 int_:mg "int" = none
 bool_:mg "bool" = none
 str_:mg "str" = none
 list_:mg "list" = none
 tuple_:mg "tuple" = none
 abs_:mg "abs" = none
 max_:mg "max" = none
 min_:mg "min" = none
 sum_:mg "sum" = none
 sorted_:mg "sorted" = none
 zip_:mg "zip" = none
 reversed_:mg "reversed" = none
 divmod_:mg "divmod" = none
 set_:mg "set" = none
 any_:mg "any" = none
 enumerate_:mg "enumerate" = none
theorem bL:Qn "len" = some (.builtin "len"):=PySem.boot_len
theorem Bk:Qn "all" = some (.builtin "all"):=by decide+kernel
theorem aR:Qn "isinstance" = some (.builtin "isinstance"):=by decide+kernel
theorem Gw:Qn "abs" = some (.builtin "abs"):=by decide+kernel
theorem tL:Qn "max" = some (.builtin "max"):=by decide+kernel
theorem Bo:Qn "sum" = some (.builtin "sum"):=by decide+kernel
theorem v8:Qn "int" = some (.type "int"):=by decide+kernel
theorem vU:Qn "bool" = some (.type "bool"):=by decide+kernel
theorem FZ:Qn "str" = some (.type "str"):=by decide+kernel
theorem iz:Qn "list" = some (.type "list"):=by decide+kernel
theorem cX:Qn "tuple" = some (.type "tuple"):=by decide+kernel
theorem dz (K:Py) (T:String):Tf K (.type T) (.type T)=some true:=by
 unfold PySem.W.kitOne
 rw[if_pos (beq_self_eq_true _)]
theorem jh (K:Py):Tf K (.type "int") (.type "bool")=some false:=by kernel_rfl
theorem mW (K:Py):Tf K (.type "bool") (.type "int")=some true:=by kernel_rfl
theorem yI (K:Py):Tf K (.type "int") (.type "str")=some false:=by kernel_rfl
theorem uR (K:Py):Tf K (.type "bool") (.type "str")=some false:=by kernel_rfl
theorem uo (K:Py):Tf K (.type "tuple") (.type "str")=some false:=by kernel_rfl
theorem vh (K:Py):Tf K (.type "list") (.type "str")=some false:=by kernel_rfl
theorem sX (K:Py):Tf K (.type "tuple") (.type "int")=some false:=by kernel_rfl
theorem uM (K:Py):Tf K (.type "list") (.type "int")=some false:=by kernel_rfl
theorem jH (K:Py):Tf K (.type "tuple") (.type "list")=some false:=by kernel_rfl
theorem jJ (K:Py):Tf K (.type "list") (.type "tuple")=some false:=by kernel_rfl
theorem ym (K:Py):Tf K (.type "str") (.type "int")=some false:=by kernel_rfl
end L2
namespace L2
open PySem PySem.Spec PyProof.Rows
inductive Dm where
 | non | bl (b:Bool) | int (i:Int) | str (x:Px) | tup (ds:List Dm) | lst (ds:List Dm)
mutual
def Dm.dep:Dm->Nat
 | .tup ds=>fJ ds+1
 | .lst ds=>fJ ds+1
 | _=>0
def fJ:List Dm->Nat
 | []=>0
 | d::r=>max d.dep (fJ r)
end
mutual
inductive Rep (H:Hp):V->Dm->Prop where
 | non:Rep H .non .non
 | bl (b:Bool):Rep H (.bl b) (.bl b)
 | int (i:Int):Rep H (.int i) (.int i)
 | str (x:Px):Rep H (.str x) (.str x)
 | tup {a:Addr} {xs:List V} {ds:List Dm}:H a=some (.tup xs)->xs.length<=100000->oE H xs ds->Rep H (.ref a) (.tup ds)
 | lst {a:Addr} {xs:List V} {ds:List Dm}:H a=some (.lst xs)->xs.length<=100000->oE H xs ds->Rep H (.ref a) (.lst ds)
inductive oE (H:Hp):List V->List Dm->Prop where
 | nil:oE H [] []
 | cons {v:V} {d:Dm} {vs:List V} {ds:List Dm}:Rep H v d->oE H vs ds->oE H (v::vs) (d::ds)
end
mutual
theorem Rep.mono {H H':Hp} (e:aV H H'):∀ {v:V} {d:Dm},Rep H v d->Rep H' v d
 | _,_,.non=>.non
 | _,_,.bl b=>.bl b
 | _,_,.int i=>.int i
 | _,_,.str x=>.str x
 | _,_,.tup h l r=>.tup (e _ _ h) l (oE.mono e r)
 | _,_,.lst h l r=>.lst (e _ _ h) l (oE.mono e r)
theorem oE.mono {H H':Hp} (e:aV H H'):∀ {vs:List V} {ds:List Dm},oE H vs ds->oE H' vs ds
 | _,_,.nil=>.nil
 | _,_,.cons h r=>.cons (Rep.mono e h) (oE.mono e r)
end
theorem oE.length {H:Hp}:∀ {vs:List V} {ds:List Dm},oE H vs ds->vs.length=ds.length
 | _,_,.nil=>rfl
 | _,_,.cons _ r=>by rw[PK,PK,oE.length r]
theorem oE.get {H:Hp}:∀ {vs:List V} {ds:List Dm} {i:Nat},oE H vs ds->i < vs.length->∃ v d,vs[i]? = some v/\ds[i]? = some d/\Rep H v d
 | _,_,_,.nil,h=>absurd h (V0 _)
 | _,_,0,.cons h _,_=>⟨_,_,rfl,rfl,h⟩
 | _,_,i+1,.cons _ r,h=>by
  obtain⟨v,d,e1,e2,e3⟩:=oE.get (i:=i) r (Nat.lt_of_succ_lt_succ h)
  exact⟨v,d,by simpa using e1,by simpa using e2,e3⟩
theorem qU:∀ {ds:List Dm} {i:Nat} {d:Dm},ds[i]? = some d->d.dep<=fJ ds
 | [],_,_,h=>by simp at h
 | d::r,0,_,h=>by
  cases (show some d=some _ from h)
  rw[fJ]
  exact Nat.le_max_left _ _
 | d::r,i+1,_,h=>by
  rw[fJ]
  exact PX (qU (i:=i) (ds:=r) (by simpa using h)) (Nat.le_max_right _ _)
theorem tQ {H:Hp}:∀ ns:List Int,oE H (ns.map V.int) (ns.map Dm.int)
 | []=>.nil
 | n::r=>.cons (.int n) (tQ r)
section
variable {X:Cx}
inductive Ka (K:Py) (x:V) (y:V) (H:Hp) (Q:VK):Prop where
 | mk (a b:Addr) (xs:List V) (z0:x = .ref a) (z1:y = .ref b) (z2:SqL K H a xs) (z3:SqL K H b []) (z4:Q (.bl xs.isEmpty) H):Ka K x y H Q
def M5 (K:Py):R2:=fun x y H Q=>Ka K x y H Q
theorem J0 (hu:X.A.units < cLine):OpR X (Su .Eq) (M5 X.K):=by
 intro pins s σ H x y v u Q I rx ry h
 obtain⟨a,b,xs,rfl,rfl,ha,hb,q⟩:=h
 cases rx
 cases ry
 obtain⟨its,r1,p1,_⟩:=I.list ha
 obtain⟨its2,r2,p2,_⟩:=I.list hb
 cases r2
 cases r1 with
 | nil=>exact SeqAt.eq_listAt (e:=fun _=>true) p1.isList p2.isList rfl hu (fun j h1 _=>absurd h1 (by simp)) ⟨.bl true,H,I,rfl,q⟩
 | cons r t=>exact SeqAt.eq_list_lengthsAt p1.isList p2.isList (by simp) hu ⟨.bl false,H,I,rfl,q⟩
end
end L2
namespace L2
open PySem PySem.Spec PyProof.Rows
section
variable {prog:O9} {w:Qd} {A:Qc} {E:Value->Ov->Prop} {s:Ov}
end
end L2
namespace L2
open PySem PySem.Spec PyProof.Rows
theorem d8 {X:Cx} {pos:Ut} {K:Py} {es:List Expr} {k:Nat} {t:TGs} (n:Nat) (hK:X.K=K) (hc:X.calm=true) (h:PGs X es t)
  (hn:(Uy es X.env).length=n:=by rfl) (hst:(Uy es X.env).findIdx? (·.1)=none:=by rfl):PG X (.Tuple es k pos) (M9 K n t):=by
 subst hK
 exact Ju hc h hn hst
section
variable {X:Cx}
inductive BL (K:Py) (x:V) (y:V) (H:Hp) (Q:VK):Prop where
 | mk (a b:Addr) (xs ys:List V) (z0:x = .ref a) (z1:y = .ref b) (z2:SqT K H a xs) (z3:SqT K H b ys) (z4:xs.length+ys.length<=sizeLine) (z5:(xs=[]->Q (.ref b) H)) (z6:(xs≠[]->ys=[]->Q (.ref a) H)) (z7:(xs≠[]->ys≠[]->∀ p,H p=none->Q (.ref p) (upd H p (.tup (xs++ys))))):BL K x y H Q
def nC (K:Py):R2:=fun x y H Q=>BL K x y H Q
theorem jR:OpR X (Ul .Add) (nC X.K):=by
 intro pins s σ H x y v u Q I rx ry h
 obtain⟨a,b,xs,ys,rfl,rfl,ha,hb,hz,q0,q1,q2⟩:=h
 by_cases hx:xs=[]
 ·subst hx
  cases rx
  cases ry
  obtain⟨its,r1,p1,_⟩:=I.tuple ha
  obtain⟨its2,r2,p2,_⟩:=I.tuple hb
  cases r1
  obtain⟨⟨c1,d1,dt1,sl1⟩,ho,hc,n,hd⟩:=id p1
  obtain⟨⟨c2,d2,dt2,sl2⟩,ho2,hc2,n2,hd2⟩:=id p2
  simp only at hc hd hc2 hd2
  subst hc hd hc2 hd2
  exact concat_meets ⟨_,ho,rfl⟩ ⟨_,ho2,rfl⟩ Xg seq_tuple_add VH Vy (Vt _ _) (tuple_addW0 a b _ _ n n2 d1 d2 sl1 sl2 rfl) ⟨ho,ho2,⟨.ref b,H,I,rfl,q0 rfl⟩⟩
 ·exact Jg pins s σ H _ _ v u Q I rx ry ⟨a,b,xs,ys,rfl,rfl,ha,hb,hx,hz,q1 hx,q2 hx⟩
end
end L2
namespace L2
open PySem PySem.Spec PyProof.Rows
theorem iQ:∀ bs:List Bool,(Rk bs.length).any (fun i=>bs.getD i false)=bs.any fun b=>b
 | []=>rfl
 | b::r=>by
  have ih:=iQ r
  rw[PK,List.range_succ_eq_map,Sw,List.any_map,Sw,← ih]
  rfl
section
variable {X:Cx}
inductive Gm (K:Py) (xs:List V) (H:Hp) (Q:VK):Prop where
 | mk (p:Addr) (ns:List Int) (z0:xs=[.ref p]) (z1:SqL K H p (ns.map V.int)) (z2:Q (.int ns.sum) H):Gm K xs H Q
def Dt (K:Py):List V->Hp->VK->Prop:=fun xs H Q=>Gm K xs H Q
theorem m9 (hc:X.calm=true):fL X (.builtin "sum") (Dt X.K):=by
 intro pins s σ H xs us Q I r h
 obtain⟨p,ns,rfl,hq,q⟩:=h
 obtain⟨u,rfl,ru⟩:=vals1 r
 cases ru
 obtain⟨its,rv,pl,hz⟩:=I.list hq
 have hi:QG its ns:=intsAre_of rv
 obtain⟨zs,hx⟩:=hi.allInts.items
 have hl':s.heap.IsList p (intItems zs):=hx▸pl.isList
 refine sum_intListG (I.ok.hd hc) hl' fun h' tk t' hk=>?_
 have e1:ns=zs.toList.map (·.1):=by
  rw[← nums_intItems,← hx]
  exact (show numsOf its.toArray.toList=ns from hi.numsOf).symm
 have e2:preSum (numAt zs) zs.size=ns.sum:=by
  rw[preSum_eq,List.take_of_length_le (by simp),e1]
 rw[e2]
 exact⟨.int _,H,I.kept (t':=tk) hk,⟨_,rfl⟩,q⟩
inductive Gq (K:Py) (xs:List V) (H:Hp) (Q:VK):Prop where
 | mk (p:Addr) (bs:List Bool) (z0:xs=[.ref p]) (z1:SqL K H p (bs.map V.bl)) (z2:Q (.bl (bs.any fun b=>b)) H):Gq K xs H Q
def Lb (K:Py):List V->Hp->VK->Prop:=fun xs H Q=>Gq K xs H Q
theorem Aq (hc:X.calm=true):fL X (.builtin "any") (Lb X.K):=by
 intro pins s σ H xs us Q I r h
 obtain⟨p,bs,rfl,hq,q⟩:=h
 obtain⟨u,rfl,ru⟩:=vals1 r
 cases ru
 obtain⟨its,rv,pl,hz⟩:=I.list hq
 have hlen:bs.length=its.length:=by simpa using rv.length
 refine call_any_walk (Uj pl.isList ?_)
 have I1:Inv X pins σ H { s with heap:=s.heap.push { cls:=.type "list_iterator",data:=.fields #[.ref p,.int 0 0] } }:=I.kept (t':=s.toks) fun b o e=>Ox _ e
 have hne:p≠s.heap.objs.size:=by
  obtain⟨o,ho,_⟩:=pl.isList
  exact Pa (O4 ho)
 refine⟨s.heap.objs.size,_,_,_,_,_,fun i=>bs.getD i false,rfl,Ws (A:=X.A.in1) (I.ok.hd hc) s.heap.objs.size p hne its.toArray,⟨⟨_,O6 _ rfl,rfl,rfl⟩,?_⟩,?_,fun h' tk hk=>?_⟩
 ·obtain⟨o,ho,hr⟩:=pl.isList
  exact⟨o,Ox _ ho,hr⟩
 ·intro i v s' Q' E' hP hQ
  have hP:its[i]? = some v:=by simpa using hP
  have hi:i < bs.length:=by
   rw[hlen]
   exact (List.getElem?_eq_some_iff.mp hP).1
  obtain⟨u',hu',ru'⟩:=rv.get (i:=i) (x:=V.bl bs[i]) (by rw[Pk,PB hi]; rfl)
  rw[hP] at hu'
  cases hu'
  cases (show v=VG bs[i] from ru')
  refine Rh ?_
  have eg:bs.getD i false=bs[i]:=by rw[Qq,PB hi]; rfl
  have hQ':Q' (bs.getD i false) s':=hQ
  rw[eg] at hQ'
  exact hQ'
 ·have f:=I.Jm (b:=s.heap.objs.size) (H':=H) (OJ _) I.fresh
  have eany:(Rk its.toArray.size).any (fun i=>bs.getD i false)=bs.any fun b=>b:=by
   have el:its.toArray.size=bs.length:=by rw[Pj,hlen]
   rw[el]
   exact iQ bs
  rw[eany]
  exact⟨.bl _,H,I1.turned (t':=tk) (it:=s.heap.objs.size) (fun b o hb e=>hk b o (by simpa using hb) e) f.1 f.2.1 f.2.2.2.1 f.2.2.2.2.1 f.2.2.2.2.2,rfl,q⟩
end
theorem JK:Qn "any" = some (.builtin "any"):=by decide+kernel
end L2
namespace L2
open PySem PySem.Spec PyProof.Rows
def Lj:List V->Hp->VK->Prop:=fun xs H Q=>(∃ i,xs=[.int i]/\Q (.int i) H)∨∃ k,xs=[.bl k]/\Q (.int (if k then 1 else 0)) H
end L2
namespace L2
open PySem
def Ris (xs:Array Nat):Prop:=xs.toList.Pairwise (· < ·)
theorem xx {xs:Array Nat} (h:Ris xs) {i j x y:Nat} (hij:i < j) (hi:xs[i]? = some x) (hj:xs[j]? = some y):x < y:=by
 rw[← QD] at hi hj
 obtain⟨li,ei⟩:=List.getElem?_eq_some_iff.mp hi
 obtain⟨lj,ej⟩:=List.getElem?_eq_some_iff.mp hj
 have:=List.pairwise_iff_getElem.mp h i j li lj hij
 rw[ei,ej] at this
 exact this
theorem qJ {xs:Array Nat} (h:Ris xs) (j:Nat):∀ (fuel lo hi:Nat),hi - lo<=fuel->lo<=hi->hi<=xs.size->(∀ i x,i < lo->xs[i]? = some x->x < j)->(∀ i x,hi<=i->xs[i]? = some x->j<=x) →
  Uo xs j fuel lo hi<=xs.size/\(∀ i x,i < Uo xs j fuel lo hi->xs[i]? = some x->x < j)/\(∀ i x,Uo xs j fuel lo hi<=i->xs[i]? = some x->j<=x)
 | 0,lo,hi,hf,hl,hs,h1,h2=>by
  rw[Uo]
  have e:lo=hi:=by lia
  subst e
  exact⟨hs,h1,h2⟩
 | fuel+1,lo,hi,hf,hl,hs,h1,h2=>by
  rw[Uo]
  by_cases hlt:lo < hi
  ·rw[if_pos hlt]
   dsimp only
   have hm1:lo<=(lo+hi) / 2:=by lia
   have hm2:(lo+hi) / 2 < hi:=by lia
   have hms:(lo+hi) / 2 < xs.size:=by lia
   generalize (lo+hi) / 2=m at *
   have eg:xs[m]? = some xs[m]:=Pu hms
   have ed:xs.getD m j=xs[m]:=by rw[RJ,eg]; rfl
   rw[ed]
   by_cases hc:xs[m] < j
   ·rw[if_pos hc]
    refine qJ h j fuel (m+1) hi (by lia) (by lia) hs (fun i x hi' e=>?_) h2
    by_cases hm:i=m
    ·subst hm
     rw[eg] at e
     cases e
     exact hc
    ·exact VJ (xx h (show i < m by lia) e eg) hc
   ·rw[if_neg hc]
    refine qJ h j fuel lo m (by lia) hm1 (by lia) h1 (fun i x hi' e=>?_)
    by_cases hm:i=m
    ·subst hm
     rw[eg] at e
     cases e
     lia
    ·have:=xx h (show m < i by lia) eg e
     lia
  ·rw[if_neg hlt]
   have e:lo=hi:=by lia
   subst e
   exact⟨hs,h1,h2⟩
theorem qQ {xs:Array Nat} (h:Ris xs) (j:Nat):QK xs j<=xs.size/\(∀ i x,i < QK xs j->xs[i]? = some x->x < j)/\(∀ i x,QK xs j<=i->xs[i]? = some x->j<=x):=by
 unfold QK
 refine qJ h j xs.size 0 xs.size (by lia) (Ql _) (OJ _) (fun i x hi=>absurd hi (V0 _)) fun i x hi e=>?_
 rw[Ss hi] at e
 cases e
theorem below_at {xs:Array Nat} (h:Ris xs) {i x:Nat} (e:xs[i]? = some x):QK xs (x+1)=i+1:=by
 obtain⟨h1,h2,h3⟩:=qQ h (x+1)
 have hi:i < xs.size:=(Array.getElem?_eq_some_iff.mp e).1
 generalize QK xs (x+1)=p at *
 rcases Nat.lt_trichotomy p (i+1) with hp | hp | hp
 ·have:=h3 i x (by lia) e
  lia
 ·exact hp
 ·have hs:i+1 < xs.size:=by lia
  have:=xx h (R6 i) e (Pu hs)
  have:=h2 (i+1) _ hp (Pu hs)
  lia
theorem yj {xs:Array Nat} (h:Ris xs):QK xs 0=0:=by
 obtain⟨h1,h2,h3⟩:=qQ h 0
 generalize QK xs 0=p at *
 rcases Nat.eq_zero_or_pos p with hp | hp
 ·exact hp
 ·have hs:0 < xs.size:=by lia
  have:=h2 0 _ hp (Pu hs)
  lia
theorem Ik {xs:Array Nat} (h:Ris xs) {j:Nat} (hj:xs[QK xs j]?≠some j):Ris (SetTable.insertAt xs (QK xs j) j):=by
 obtain⟨h1,h2,h3⟩:=qQ h j
 unfold Ris
 rw[SetTable.toList_insertAt]
 generalize hp:QK xs j=p at *
 have hh:xs.toList.Pairwise (· < ·):=h
 have hlt:∀ x∈xs.toList.take p,x < j:=fun x hx=>by
  obtain⟨i,hi,e⟩:=Wi hx
  rw[Qf] at hi
  rw[List.getElem_take] at e
  exact h2 i x (by lia) (by rw[← QD,PB (by lia),e])
 have hgt:∀ x∈xs.toList.drop p,j < x:=fun x hx=>by
  obtain⟨i,hi,e⟩:=Wi hx
  rw[Vz] at hi
  rw[List.getElem_drop] at e
  have ex:xs[p+i]? = some x:=by rw[← QD,PB (by lia),e]
  have:=h3 (p+i) x (by lia) ex
  rcases Nat.lt_or_ge j x with q | q
  ·exact q
  ·have ejx:x=j:=by lia
   subst ejx
   by_cases hi0:i=0
   ·subst hi0
    exact absurd ex hj
   ·have hps:p < xs.size:=by
     have:=(Array.getElem?_eq_some_iff.mp ex).1
     lia
    have:=xx h (show p < p+i by lia) (Pu hps) ex
    have:=h3 p _ (OJ _) (Pu hps)
    lia
 rw[List.pairwise_append]
 refine⟨hh.sublist (List.take_sublist _ _),List.pairwise_cons.mpr ⟨hgt,hh.sublist (List.drop_sublist _ _)⟩,fun a ha b hb=>?_⟩
 rcases List.mem_cons.mp hb with rfl | hb
 ·exact hlt a ha
 ·exact VJ (hlt a ha) (hgt b hb)
def mD (t:Tj) (j:Nat):Prop:=t.place[QK t.place j]?≠some j
theorem o6 {t:Tj} {j:Nat} (h:t.slot j = .empty∨t.slot j = .dummy):mD t j:=by
 intro e
 unfold SetTable.slot at h
 dsimp only at h
 rw[e,if_pos (by exact beq_self_eq_true _)] at h
 rcases h with h | h <;> cases h
theorem kI {t:Tj} {f:Nat->Int} {h:Int}:∀ (fuel:Nat) (p:SetTable.Probe) {j:Nat} {d:Option Nat},(∀ x,p.dummy=some x->mD t x)->WR t f h fuel p=some (.empty j d)->mD t j/\∀ x,d=some x->mD t x
 | 0,_,_,_,_,e=>by rw[WR] at e; cases e
 | fuel+1,p,j,d,hd,e=>by
  rw[WR] at e
  have adv:∀ q:SetTable.Probe,(t.advance q).dummy=q.dummy:=fun q=>by
   unfold SetTable.advance
   split <;> rfl
  cases hs:t.slot p.j with
  | empty =>
   rw[hs] at e
   cases e
   exact⟨o6 (.inl hs),hd⟩
  | dummy =>
   rw[hs] at e
   dsimp only at e
   refine kI fuel _ (fun x hx=>?_) e
   rw[adv] at hx
   cases hx
   exact o6 (.inr hs)
  | live i =>
   rw[hs] at e
   dsimp only at e
   by_cases hc:(f i == h)=true
   ·rw[if_pos hc] at e
    cases e
   ·rw[if_neg hc] at e
    exact kI fuel _ (fun x hx=>by rw[adv] at hx; exact hd x hx) e
theorem vm {t:Tj} {h:Int} {j:Nat} {b:Bool} (e:t.freeSlot h=some (j,b)):mD t j:=by
 unfold SetTable.freeSlot SetTable.probe at e
 split at e
 ·rename_i j' d hp
  obtain⟨h1,h2⟩:=kI _ _ (fun x hx=>by cases hx) hp
  cases e
  cases d with
  | none=>exact h1
  | some x=>exact h2 x rfl
 ·cases e
structure TOk (b:Bool) (t:Tj):Prop where
 led:t.led=b
 ris:t.plain=true->Ris t.place
theorem Ak (b:Bool):TOk b (.fresh 0 0 b):=⟨rfl,fun _=>Vo⟩
theorem f9 {b:Bool} {t:Tj} (h:TOk b t) (n:Nat):TOk b (t.standIn n):=⟨h.led,fun z=>by cases z⟩
theorem yc {b:Bool} {t:Tj} (h:TOk b t) (es:Array (Int × Value)) (k:Int) (x:Value):TOk b (layNew t es k x).2.1:=by
 unfold layNew
 split
 ·rename_i slot wd e
  dsimp only
  unfold SetTable.orStandIn
  have ht:TOk b (t.put slot).1:=⟨h.led,fun z=>Ik (h.ris z) (vm e)⟩
  split
  ·exact ht
  ·exact f9 ht _
 ·exact f9 h _
theorem Fw (owner:Array (Option Nat)):∀ l:List Nat,l.Pairwise (· < ·)->((l.filterMap fun j=>(owner.getD j none).map (j,·)).map (·.1)).Pairwise (· < ·):=fun l hl=>by
 have hs:List.Sublist ((l.filterMap fun j=>(owner.getD j none).map (j,·)).map (·.1)) l:=by
  induction l with
  | nil=>exact List.Sublist.slnil
  | cons a r ih =>
   have ih:=ih (List.pairwise_cons.mp hl).2
   rw[U7]
   cases e:owner.getD a none with
   | none=>exact ih.cons _
   | some k=>exact ih.cons₂ _
 exact hl.sublist hs
theorem tZ {b:Bool} {t:Tj} (h:TOk b t) (es:Array (Int × Value)) (m:Nat):TOk b (WL t es m).2.1:=by
 unfold WL
 split
 ·rename_i t' order e
  dsimp only
  split
  ·unfold SetTable.relaid SetTable.laid at e
   cases ho:SetTable.layClean (SetTable.sizeAbove m - 1) (es.map (·.1)) with
   | none=>rw[ho] at e; cases e
   | some owner =>
    rw[ho] at e
    cases e
    exact⟨h.led,fun _=>Fw owner _ List.pairwise_lt_range⟩
  ·exact f9 h _
 ·exact f9 h _
end L2
namespace L2
open PySem PySem.Spec PyProof.Rows
section
variable {P:O9} {w:Qd} {A:Qc} {E:Value->Ov->Prop} {s:Ov}
def kW (P:O9) (w:Qd) (b:Bool) (h:Qo) (a:Addr) (ks:List Int):Prop :=
 ∃ o es ep t,h.get? a=some o/\o.ExactSet/\o.data = .set es ep t/\ElemsOf (Tv P w) es.toList/\t.fits es.size=true/\TOk b t/\∃ ns,QG (es.toList.map (·.2)) ns/\ns.Perm ks
theorem eG {l l':List Value} (p:l.Perm l'):∀ {ns:List Int},QG l ns->∃ ms,QG l' ms/\ms.Perm ns:=by
 induction p with
 | nil=>intro ns h; exact⟨ns,h,.refl _⟩
 | cons x p ih =>
  intro ns h
  cases h with
  | cons n t r =>
   obtain⟨ms,h1,h2⟩:=ih r
   exact⟨n::ms,.cons n t h1,h2.cons n⟩
 | swap x y l =>
  intro ns h
  cases h with
  | cons n t r =>
   cases r with
   | cons m u r=>exact⟨m::n::_,.cons m u (.cons n t r),.swap _ _ _⟩
 | trans p q ih1 ih2 =>
  intro ns h
  obtain⟨ms,h1,h2⟩:=ih1 h
  obtain⟨ks,h3,h4⟩:=ih2 h1
  exact⟨ks,h3,h4.trans h2⟩
theorem lq {k:Int} {t:Xu}:∀ {l:List Value} {ns:List Int},QG l ns->QG (l++[.int k t]) (ns++[k])
 | _,_,.nil=>.cons k t .nil
 | _,_,.cons n u r=>.cons n u (lq r)
theorem nZ {k:Int}:∀ {l:List Value} {ns:List Int},QG l ns->(k∈ns ↔ ∃ v∈l,(Tv P w).is k v=true)
 | _,_,.nil=>by simp
 | _,_,.cons n t r=>by
  have ih:=nZ (k:=k) r
  have e:(Tv P w).is k (.int n t)=decide (k=n):=KeyKind.is_eq_decide (intKind_is _ _ _ _) k
  rw[Vu,ih]
  constructor
  ·rintro (h | ⟨v,hv,q⟩)
   ·exact⟨_,Ph,by rw[e]; exact decide_eq_true h⟩
   ·exact⟨v,Pb _ hv,q⟩
  ·rintro⟨v,hv,q⟩
   rcases List.mem_cons.mp hv with rfl | hv
   ·rw[e] at q
    exact .inl (of_decide_eq_true q)
   ·exact .inr ⟨v,hv,q⟩
theorem lC {b:Bool} {h:Qo} {a:Addr} {o:Rx} {es es':Array (Int × Value)} {ep:Nat} {t t':Tj} {ks:List Int} (ho:h.get? a=some o) (hx:o.ExactSet) (hd:o.data = .set es ep t)
  (hel:ElemsOf (Tv P w) es'.toList) (hf:t'.fits es'.size=true) (tk:TOk b t') (hn:∃ ns,QG (es'.toList.map (·.2)) ns/\ns.Perm ks) :
  (h.update a (Wu es' t')).get? a=some { o with data:=.set es' (ep+1) t' }/\kW P w b (h.update a (Wu es' t')) a ks:=by
 have g:(h.update a (Wu es' t')).get? a=some { o with data:=.set es' (ep+1) t' }:=by
  have q:=PJ (Wu es' t') ho (by rw[putSet_of es' t' hd]; rfl)
  rwa [putSet_of es' t' hd] at q
 exact⟨g,_,es',ep+1,t',g,hx,rfl,hel,hf,tk,hn⟩
theorem Hi {b:Bool} {a:Addr} {ks:List Int} {k:Int} {t0:Xu} {Q:Bool->Ov->Prop} (hS:kW P w b s.heap a ks) (hroom:ks.length+1 < scanBound)
  (h:∀ h' r,Sh a s.heap h'->kW P w b h' a (step_dedup ks k)->Q r { s with heap:=h' }):O3 (O5 P w) A (setAddHashed a (.int k t0) ((Tv P w).hash k)) Q E s:=by
 obtain⟨o,es,ep,t,ho,hx,hd,hel,hf,tk,ns,hi,hp⟩:=hS
 have key:(Tv P w).is k (.int k t0)=true:=intKind_is _ _ _ _
 have hlen:es.size=ks.length:=by
  rw[← hp.length_eq,← hi.length,Ow,Qk]
 have hb:es.size < scanBound:=by lia
 have hm:=nZ (P:=P) (w:=w) (k:=k) hi
 unfold setAddHashed setAddHashedIn
 refine QC (Ou (SN ho hd hf ?_))
 dsimp only
 rw[byScan_of rfl hb hel]
 simp only[↓reduceIte]
 unfold setAddByScan
 refine Ou (Ou (Ve (Ou (wpAny_setScan_of key ho hd hf hel ?_))))
 cases hr:es.toList.findIdx? (fun e=>(Tv P w).is k e.2) with
 | some j =>
  dsimp only
  obtain⟨hj,q,_⟩:=List.findIdx?_eq_some_iff_getElem.mp hr
  have hk:k∈ks:=hp.mem_iff.mp (hm.mpr ⟨es.toList[j].2,List.mem_map.mpr ⟨_,List.getElem_mem hj,rfl⟩,q⟩)
  have es0:step_dedup ks k=ks:=by
   unfold step_dedup
   have hany:(ks.any fun x=>x == k)=true:=List.any_eq_true.mpr ⟨k,hk,beq_self_eq_true k⟩
   rw[if_pos hany]
  have q':=h s.heap false (Heap.SameBut.refl a s.heap) (by rw[es0]; exact⟨o,es,ep,t,ho,hx,hd,hel,hf,tk,ns,hi,hp⟩)
  exact Oz (Oz q')
 | none =>
  dsimp only
  have hk:k ∉ ks:=fun z=>by
   obtain⟨v,hv,q⟩:=hm.mp (hp.mem_iff.mpr z)
   obtain⟨e,he,rfl⟩:=List.mem_map.mp hv
   rw[List.findIdx?_eq_none_iff.mp hr e he] at q
   cases q
  have es0:step_dedup ks k=ks++[k]:=by
   unfold step_dedup
   rw[if_neg]
   intro z
   obtain⟨x,hx',e⟩:=List.any_eq_true.mp z
   exact hk (by rw[← eq_of_beq e]; exact hx')
  rw[es0] at h
  have pm:=layNew_perm t es ((Tv P w).hash k) (.int k t0)
  have ft:=layNew_fits t es ((Tv P w).hash k) (.int k t0)
  have tk1:=yc tk es ((Tv P w).hash k) (.int k t0)
  generalize layNew t es ((Tv P w).hash k) (.int k t0)=L at pm ft tk1 ⊢
  obtain⟨es1,t1,wd,gv⟩:=L
  dsimp only at pm ft tk1 ⊢
  rw[Array.toList_push] at pm
  have hel1:ElemsOf (Tv P w) es1.toList:=(hel.push key rfl).perm pm
  have hn1:∃ ns,QG (es1.toList.map (·.2)) ns/\ns.Perm (ks++[k]):=by
   have i1:QG ((es.toList++[((Tv P w).hash k,RQ k t0)]).map (·.2)) (ns++[k]):=by
    rw[O7]
    exact lq hi
   obtain⟨ms,h1,h2⟩:=eG (pm.symm.map (·.2)) i1
   exact⟨ms,h1,h2.trans (hp.append (.refl _))⟩
  have hs1:es1.size<=sizeLine:=by
   have:es1.size=es.size+1:=by rw[← Qk,pm.length_eq,Qa,Qk]; rfl
   exact fits_of_scanBound (by lia)
  have gw:∀ (b:Bool) {s₁:Ov} {Q':Unit->Ov->Prop},Q' () s₁->O3 (O5 P w) A (match b with | true=>rule "set.scan.the-table-gave-way" | false=>pure ()) Q' E s₁:=fun b s₁ Q' hq=>by
   cases b
   ·exact Oz hq
   ·exact Ve hq
  have tail:∀ (g:Bool->Sem Unit) (R:Option Bool->Ov->Prop) (t2:Tj),(∀ (b:Bool) (s₁:Ov) (Q':Unit->Ov->Prop),Q' () s₁->O3 (O5 P w) A (g b) Q' E s₁)->t2.fits es1.size=true->TOk b t2 →
    (∀ h',Sh a s.heap h'->kW P w b h' a (ks++[k])->R (some true) { s with heap:=h' })->O3 (O5 P w) A (do
    storeSet a es1 t2
    if (!wd && t2.tooFull)=true then do
      g (WL t2 es1 (Ti es1.size)).2.2
      storeSet a (WL t2 es1 (Ti es1.size)).1 (WL t2 es1 (Ti es1.size)).2.1
      pure (some true)
     else pure (some true)) R E s:=fun g R t2 hg f2 k2 hR=>by
   refine Ou (wpAny_storeSet_of ho hd ?_ hs1)
   obtain⟨ho1,hS1⟩:=lC (P:=P) (w:=w) ho hx hd hel1 f2 k2 hn1
   have sb1:=QT s.heap a (Wu es1 t2)
   split
   ·have pr:=relayAll_perm t2 es1 (Ti es1.size)
    have fr:=relayAll_fits t2 es1 (Ti es1.size)
    have tr:=tZ k2 es1 (Ti es1.size)
    generalize WL t2 es1 (Ti es1.size)=R at pr fr tr ⊢
    obtain⟨es2,t3,g2⟩:=R
    dsimp only at pr fr tr ⊢
    have hn2:∃ ns,QG (es2.toList.map (·.2)) ns/\ns.Perm (ks++[k]):=by
     obtain⟨ns1,i1,p1⟩:=hn1
     obtain⟨ms,h1,h2⟩:=eG (pr.symm.map (·.2)) i1
     exact⟨ms,h1,h2.trans p1⟩
    have hs2:es2.size<=sizeLine:=by
     have:es2.size=es1.size:=by rw[← Qk,pr.length_eq,Qk]
     lia
    refine Ou (hg _ _ _ (Ou (wpAny_storeSet_of ho1 rfl ?_ hs2)))
    obtain⟨_,hS2⟩:=lC (P:=P) (w:=w) ho1 hx rfl (hel1.perm pr) fr tr hn2
    exact Oz (hR _ (sb1.trans (QT _ a _)) hS2)
   ·exact Oz (hR _ sb1 hS1)
  refine Ou (gw _ ?_)
  split
  ·refine Ou ?_
   rw[hashByValue_scannable 8 rfl]
   refine Oz (tail _ _ _ (fun b s₁ Q' hq=>gw b hq) ?_ ?_ fun h' sb hS=>Oz (h h' true sb hS))
   ·exact ft
   ·exact tk1
  ·exact Ou (Oz (tail _ _ _ (fun b s₁ Q' hq=>gw b hq) ft tk1 fun h' sb hS=>Oz (h h' true sb hS)))
end
end L2
namespace L2
open PySem PySem.Spec PyProof.Rows
theorem kh {P:O9} {w:Qd} {b:Bool} {h h':Qo} {a:Addr} {ks:List Int} (hk:∀ o,h.get? a=some o->h'.get? a=some o) (hS:kW P w b h a ks):kW P w b h' a ks:=by
 obtain⟨o,es,ep,t,ho,r⟩:=hS
 exact⟨o,es,ep,t,hk o ho,r⟩
section
variable {P:O9} {w:Qd} {A:Qc} {R:Vg->Ov->Prop} {I:Addr} {fp wr:List Addr} {G:Array W8->Array W8->Prop} {n:Nat} {Pv:Nat->Value->Prop} {St:Nat->Ov->Prop} {b:Bool}
theorem Fo (W:WalksS P w A.in1 I fp wr G n Pv St) (S:Addr) (hS:S ∉ fp) (val:Nat->Int) (hv:∀ i v,Pv i v->∃ t,v = .int (val i) t) (hb:n+1 < scanBound) :
  ∀ (k i:Nat) (s:Ov),n - i=k->i<=n->St i s->kW P w b s.heap S (firstMet val i)->(∀ s',Moved (S::wr) G s s'->kW P w b s'.heap S (firstMet val n)->R (.ok (.ret .none)) s') →
   QF (O5 P w) A (.builtin "set.update.loop" ⟨[.ref S,.ref I],[]⟩) R s:=by
 have nw:S ∉ wr:=fun z=>hS (W.sub _ z)
 have sub:∀ x∈wr,x∈S::wr:=fun x hx=>Pb _ hx
 intro k
 induction k with
 | zero =>
  intro i s hk hi st hs hR
  obtain rfl:i=n:=by lia
  refine Q5 F.entry_set_update_loop ?_
  rw[Rb VD _]
  refine (show O3 _ A.in1 (Sy (.ref I) >>= _) _ _ s from Ou (W.done s _ _ st fun s' hm=>?_))
  exact (show O3 _ A.in1 (ret QJ) _ _ s' from Oz (hR s' (hm.mono sub) (kh (fun o e=>hm.heap S o nw e) hs)))
 | succ k ih =>
  intro i s hk hi st hs hR
  have lt:i < n:=by lia
  refine Q5 F.entry_set_update_loop ?_
  rw[Rb VD _]
  refine (show O3 _ A.in1 (Sy (.ref I) >>= _) _ _ s from Ou (W.item i s _ _ lt st fun v s' hP st' hm=>?_))
  obtain⟨t,rfl⟩:=hv i v hP
  have hs':=kh (h':=s'.heap) (fun o e=>hm.heap S o nw e) hs
  have room:(firstMet val i).length+1 < scanBound:=by
   have:=firstMet_length_le val i
   lia
  refine (show O3 _ A.in1 (T6 [RQ (val i) t] (setAdd S (.int (val i) t)) >>= _) _ _ s' from Ou (QC ?_))
  unfold setAdd
  refine QC (Ou ((Tv P w).pyHash (k:=val i) (intKind_is _ _ _ _) ?_))
  refine Hi (s:={ s' with toks:=s'.toks+1 }) hs' room fun h' r sb hn=>?_
  rw[← firstMet_succ] at hn
  refine Oz ⟨RZ VD _,ih (i+1) _ (by lia) lt (W.frame _ s' _ _ st' (Rm _) fun x hx o e=>?_) hn fun s'' hm'' hs''=>?_⟩
  ·rw[sb.2 x (fun z:x=S=>hS (by rw[← z]; exact hx))]
   exact e
  ·refine hR s'' (Moved.trans W.gtrans ((hm.mono sub).then_heap (Rm _) fun x o hx e=>?_) hm'') hs''
   rw[sb.2 x (fun z:x=S=>hx (by rw[z]; exact Ph))]
   exact e
end
end L2
namespace L2
open PySem PySem.Spec PyProof.Rows
section
variable {P:O9} {w:Qd} {A:Qc} {E:Value->Ov->Prop} {s:Ov}
def Fl (w:Qd):Bool:=!w.params.followText "set-order"
def newS (w:Qd):Rx:={ cls:=.type "set",dict:=none,data:=.set #[] 0 (.fresh 0 0 (Fl w)) }
theorem Ht (a:Value) {Q₁:Value->Ov->Prop} (h:Q₁ (.ref s.heap.objs.size) { s with heap:=s.heap.push (newS w) }) :
  QF (O5 P w) A (.call (.builtin "set.__new__") ⟨[.type "set",a],[]⟩) (wants Q₁ E) s:=by
 refine VP (show O3 _ A.in1 (do Tw "set.__new__" ⟨[.type "set",a],[]⟩; again (.builtin "set.__new__" ⟨[.type "set",a],[]⟩)) _ _ s from ?_)
 refine Ou (RL (PySem.F.newCall_set_1 a) (Oz ⟨RZ PySem.F.plain_set_new _,Q5 PySem.F.entry_set_new ?_⟩))
 rw[Rb PySem.F.plain_set_new _]
 unfold Sq.«set.__new__» Builtin.Frozenset.newClass; have hsub:=sub_set_self; obtain⟨hp,g,d,tk,os⟩:=s
 dsimp only
 wp_walk
 refine R3 (Oz ?_)
 dsimp only
 simp only[newObj]; refine Ou (wpAny_alloc (Oz ?_))
 exact Oz h
end
end L2
namespace L2
open PySem PySem.Spec PyProof.Rows
section
variable {P:O9} {w:Qd} {A:Qc} {E:Value->Ov->Prop} {s:Ov}
set_option maxRecDepth 100000 in
set_option maxHeartbeats 3200000 in
theorem vP {l:Addr} {items:Array Value} {ns:List Int} {Q:Value->Ov->Prop} (hh:A.handled=none) (hl:s.heap.IsList l items) (hi:QG items.toList ns) (hb:items.size+1 < scanBound)
  (h:∀ (h':Qo) (tk:Nat),kW P w (Fl w) h' s.heap.objs.size (firstMet (fun i=>ns.getD i 0) items.size)->(∀ b o,b < s.heap.objs.size->s.heap.get? b=some o->h'.get? b=some o)->Q (.ref s.heap.objs.size) { s with heap:=h',toks:=tk }) :
  O3 (O5 P w) A (call (.type "set") [.ref l]) Q E s:=by
 obtain⟨c,tl,hmro⟩:=PySem.F.called_set.mro
 have hmade:=PySem.F.called_set.made
 have hsub:=PySem.F.called_set.sub
 refine Td (VP (show O3 _ _ (callAny (.type "set") _) _ _ _ from Oz ⟨Vk _ (by decide+kernel),Q5 PySem.F.entry_type_call ?_⟩))
 rw[Around.under_plain (weight_type_call_type "set" [.ref l] []) rfl]
 have h1:=PySem.F.called_set.notType
 have h2:=PySem.F.called_set.canCreate
 have hct:=PySem.F.typeCall_set_1 (.ref l)
 repeat (any_goals (first | assumption | wp_step))
 refine RG (Ht (.ref l) (E:=E) (Q₁:=fun obj s₁=>obj = .ref s.heap.objs.size/\s₁={ s with heap:=s.heap.push (newS w) }) ⟨rfl,rfl⟩) fun r s₁ hr=>?_
 cases r with
 | error e=>exact hr
 | ok fl =>
  cases fl with
  | ret obj =>
   obtain⟨rfl,rfl⟩:=hr
   have gS:(s.heap.push (newS w)).get? s.heap.objs.size=some (newS w):=O6 _ rfl
   have hT:Shared.TypeIs { s with heap:=s.heap.push (newS w) } (.ref s.heap.objs.size) "set":=⟨_,gS,rfl⟩
   have hli:=PySem.F.called_set.init.lookup
   have hbi:=PySem.F.called_set.init.bind (.ref s.heap.objs.size)
   repeat (any_goals (first | assumption | wp_step))
   refine RG (Te (R:=wants (fun r s₂=>r = .none/\∃ h' tk,s₂={ s with heap:=h',toks:=tk }/\kW P w (Fl w) h' s.heap.objs.size (firstMet (fun i=>ns.getD i 0) items.size) ∧
     (∀ b o,b < s.heap.objs.size->s.heap.get? b=some o->h'.get? b=some o)) E) PySem.F.called_set.init.plain PySem.F.entry_set_init (check_set_init_1 hT ?_)) fun r₂ s₂ hr₂=>?_
   ·obtain⟨ol,hol,hcl,nl,hdl⟩:=hl
    obtain⟨ocls,odict,odata,oslots⟩:=ol
    simp only at hcl hdl
    subst hcl hdl
    have hol':(s.heap.push (newS w)).get? l=some { cls:=.type "list",dict:=odict,data:=.seq items nl,slots:=oslots }:=Ox _ hol
    have hsls:=PySem.F.sub_list_set
    have hslf:=PySem.F.sub_list_frozenset
    have hne:(R0 "list" == R0 "dict")=false:=by decide
    have hl1:(s.heap.push (newS w)).IsList l items:=⟨_,hol',rfl,nl,rfl⟩
    have gS':(s.heap.push (newS w)).get? s.heap.objs.size=some { cls:=.type "set",dict:=none,data:=.set #[] 0 (.fresh 0 0 (Fl w)) }:=gS
    unfold Sq.«set.__init__» noKeywords Builtin.Frozenset.updateFrom; generalize hPI:V5=PI
    wp_walk
    subst hPI
    refine Uj hl1 (Ou (wpAny_runValue ?_))
    have hlS:l < s.heap.objs.size:=O4 hol
    have hh3:A.in1.in1.in1.handled=none:=by simp [hh]
    have hneI:l≠(s.heap.push (newS w)).objs.size:=by
     rw[QX]
     exact Pa (QB hlS)
    have hSf:s.heap.objs.size ∉ [(s.heap.push (newS w)).objs.size,l]:=by
     rw[QX,Vu,Rt]
     rintro (z | z)
     ·exact absurd z (Pa (R6 _))
     ·exact absurd z (Tz hlS)
    refine Fo (b:=Fl w) ((Ws hh3 _ l hneI items).toS) s.heap.objs.size hSf (fun i=>ns.getD i 0) (fun i v hv=>IntsAre.int_at hi i v (by rw[QD]; exact hv)) hb (items.size - 0) 0 _ (by lia) (Ql _)
     ⟨⟨_,O6 _ rfl,rfl,rfl⟩,(hl1.push _)⟩ ?hS0 ?hR
    case hS0=>exact⟨newS w,#[],0,_,Ox _ gS,⟨rfl,rfl,rfl⟩,rfl,(fun e he=>by simp at he),rfl,Ak _,[],.nil,.refl _⟩
    case hR =>
     intro s' hm hS'
     obtain⟨h',g',d',tk',os'⟩:=s'
     obtain rfl:g'=s.gens:=hm.gens
     obtain rfl:d'=s.drawn:=hm.drawn
     obtain rfl:os'=s.os:=hm.os
     refine (show O3 _ _ _ _ _ _ from Oz (show O3 _ _ (ret QJ) _ _ _ from Oz ⟨rfl,h',tk',rfl,hS',fun b o hb e=>?_⟩))
     refine hm.heap b o ?_ (Ox _ (Ox _ e))
     rw[Vu,Rt,QX]
     rintro (z | z)
     ·exact absurd z (Pa hb)
     ·exact absurd z (Pa (QB hb))
   ·cases r₂ with
    | error e=>exact hr₂
    | ok fl₂ =>
     cases fl₂ with
     | ret r =>
      obtain⟨rfl,h',tk,rfl,hS',hk'⟩:=hr₂
      repeat (any_goals (first | assumption | wp_step))
      exact h h' tk hS' hk'
     | _=>exact hr₂.elim
  | _=>exact hr.elim
end
end L2
namespace L2
open PySem PySem.Spec PyProof.Rows
theorem t8:Manifest.owners.lookup (String.ofList ['r','o','t','a','r','e','t','i','_','t','e','s'].reverse)=some Manifest.sig_set_iterator:=by kernel_rfl
theorem bw:Slot "set_iterator" "__next__" "set_iterator.__next__" :=
 .of (owner:="set_iterator") (n:="__next__") (by rw[T5,RN]; kernel_rfl) (by decide+kernel) (by decide+kernel) (by decide+kernel) (by first | exact .inl (by decide+kernel) | exact .inr (by decide+kernel)) (by rw[R4]; kernel_rfl)
theorem dI:entryFor table "set_iterator.__next__" = some Sq.«set_iterator.__next__»:=entryFor_of_tree (by kernel_rfl)
theorem dZ (a:Value):Vs "set_iterator.__next__" ⟨[a],[]⟩:=by
 unfold Vs
 rw[Wm (id:="set_iterator.__next__") (n:=['_','_','t','x','e','n','_','_']) (o:=['r','o','t','a','r','e','t','i','_','t','e','s']) (by kernel_rfl) t8]
 kernel_rfl
theorem gJ:Slot "set_iterator" "__iter__" "set_iterator.__iter__" :=
 .of (owner:="set_iterator") (n:="__iter__") (by rw[T5,RN]; kernel_rfl) (by decide+kernel) (by decide+kernel) (by decide+kernel) (by first | exact .inl (by decide+kernel) | exact .inr (by decide+kernel)) (by rw[R4]; kernel_rfl)
theorem lV:entryFor table "set_iterator.__iter__" = some Sq.«dict_keyiterator.__iter__»:=entryFor_alias (id':="dict_keyiterator.__iter__") (by kernel_rfl) rfl (by decide+kernel) (by kernel_rfl)
theorem oh (a:Value):Vs "set_iterator.__iter__" ⟨[a],[]⟩:=by
 unfold Vs
 rw[Wm (id:="set_iterator.__iter__") (n:=['_','_','r','e','t','i','_','_']) (o:=['r','o','t','a','r','e','t','i','_','t','e','s']) (by kernel_rfl) t8]
 kernel_rfl
theorem m8:entryFor table "set.__iter__" = some Sq.«frozenset.__iter__»:=entryFor_alias (id':="frozenset.__iter__") (by kernel_rfl) rfl (by decide+kernel) (by kernel_rfl)
theorem jX {α:Type}:∀ (l:List α) (j:Nat) (h:j < l.length),(l[j]::l.eraseIdx j).Perm l
 | a::r,0,_=>.refl _
 | a::r,j+1,h=>by
  have ih:=jX r j (Nat.lt_of_succ_lt_succ h)
  rw[List.getElem_cons_succ,List.eraseIdx_cons_succ]
  exact (List.Perm.swap _ _ _).trans (ih.cons a)
theorem tW {α:Type} (nx:Nat->Nat):∀ (fuel k:Nat) (left:List α) (out:Array α),left.length<=fuel->(pickOrder.go nx fuel k left out).toList.Perm (out.toList++left)
 | 0,k,left,out,h=>by
  rw[pickOrder.go]
  have e:left=[]:=Rv (by lia)
  subst e
  rw[Q8]
 | fuel+1,k,left,out,h=>by
  rw[pickOrder.go]
  cases hl:left with
  | nil =>
   simp
  | cons a r =>
   have hlen:nx k % (a::r).length < (a::r).length:=Nat.mod_lt _ (by simp)
   rw[PB hlen]
   dsimp only
   generalize nx k % (a::r).length=j at hlen ⊢
   have ih:=tW nx fuel (k+1) ((a::r).eraseIdx j) (out.push (a::r)[j]) (by rw[List.length_eraseIdx_of_lt hlen,← hl]; lia)
   refine ih.trans ?_
   rw[Array.toList_push,W7]
   refine List.Perm.append (.refl _) ?_
   show ((a::r)[j]::(a::r).eraseIdx j).Perm (a::r)
   exact jX _ j hlen
theorem mZ {α:Type} (nx:Nat->Nat) (xs:Array α):(Uw nx xs).toList.Perm xs.toList:=by
 unfold Uw
 have:=tW nx xs.size 0 xs.toList #[] (by rw[Qk]; exact OJ _)
 simpa using this
section
variable {P:O9} {w:Qd} {A:Qc} {E:Value->Ov->Prop} {s:Ov}
theorem uC {α:Type} {Q:List α->Ov->Prop}:∀ (n:Nat) (xs:List α) (s:Ov),xs.length=n->(∀ ys d,ys.Perm xs->Q ys { s with drawn:=d })->O3 (O5 P w) A (drawOrder n xs) Q E s
 | 0,xs,s,h,hq=>by
  rw[drawOrder]
  have e:xs=[]:=Rv h
  subst e
  exact Oz (hq [] s.drawn (.refl _))
 | n+1,[],s,h,hq=>by cases h
 | n+1,x::xs,s,h,hq=>by
  rw[drawOrder]
  ·refine Ou (fun Γ p hΓ=>?_)
   show Sem.wp _ _ (.choose .order (x::xs).length .pure) _ _ _ _
   rw[Sem.wp_choose]
   refine⟨by simp,?_⟩
   rw[Sem.wp_pure]
   generalize (O5 P w).w.draws .order (s.drawn.get .order)=z
   have hlen:z % (x::xs).length < (x::xs).length:=Nat.mod_lt _ (by simp)
   generalize z % (x::xs).length=j at hlen ⊢
   show O3 _ _ _ _ _ _
   rw[PB hlen]
   dsimp only
   refine Ou (uC n ((x::xs).eraseIdx j) _ (by rw[List.length_eraseIdx_of_lt hlen]; rw[PK] at h ⊢; lia) fun ys d p=>Oz ?_)
   exact hq _ d ((p.cons _).trans (jX _ j hlen))
  ·simp
end
end L2
namespace L2
open PySem PySem.Spec PyProof.Rows
def SIt (h:Qo) (I S:Addr) (f:Value) (i n ep:Nat):Prop:=h.get? I=some { cls:=.type "set_iterator",dict:=none,data:=.fields #[f,.int i 0,.ref S,.int n 0,.int ep 0],slots:=#[] }
section
variable {P:O9} {w:Qd} {A:Qc} {E:Value->Ov->Prop} {s:Ov} {I S:Addr} {o:Rx} {es:Array (Int × Value)} {ep:Nat} {t:Tj}
theorem qP {sl:Int} {tk:Xu} {i:Nat} {Q:Option Value->Ov->Prop} {r:Option (Value × Nat)} (hh:A.handled=none) (hI:SIt s.heap I S (.int sl tk) i es.size ep) (hS:s.heap.get? S=some o) (hd:o.data = .set es ep t) (hf:t.fits es.size=true)
  (hn:∀ (A:Qc) (E:Value->Ov->Prop) (Q:Option (Value × Nat)->Ov->Prop),Q r s->O3 (O5 P w) A (XM S sl.toNat i ep) Q E s)
  (hs:∀ x j h',r=some (x,j)->SIt h' I S (.int (j:Nat) 0) (i+1) es.size ep->Sh I s.heap h'->Q (some x) { s with heap:=h' }) (he:∀ h',r=none->Heap.ExtBut I s.heap h'->Q none { s with heap:=h' }):O3 (O5 P w) A (Sy (.ref I)) Q E s:=by
 have hT:s.TypeIs (.ref I) "set_iterator":=⟨_,hI,rfl⟩
 unfold Sy
 refine Ou (TV (Ry (name:=Um "__next__") hT bw (QR bw hT dI ?_ (dZ _))))
 refine (show O3 _ _ (fieldsOf (.ref I) >>= _) _ _ s from Ou (wpAny_fieldsOf hI rfl ?_))
 refine (show O3 _ _ (setEntries S >>= _) _ _ s from Ou (U6 hS hd hf ?_))
 rw[if_neg (by simp)]
 refine (show O3 _ _ (XM S sl.toNat (i:Int).toNat (ep:Int).toNat >>= _) _ _ s from Ou ?_)
 rw[PN,PN]
 refine hn _ _ _ ?_
 cases hr:r with
 | some xj =>
  obtain⟨x,j⟩:=xj
  dsimp only
  refine Ou (Q0 hI rfl (by simp) ?_)
  have g1:=PJ (Q4 (·.setIfInBounds 0 (Qp (j:Int)))) hI rfl
  refine Ou (Q0 g1 rfl (by simp) ?_)
  have g2:=PJ (Q4 (·.setIfInBounds 1 (Qp ((i:Int)+1)))) g1 rfl
  refine Oz ⟨x,rfl,Oz (hs x j _ hr ?_ ((QT ..).trans (QT ..)))⟩
  exact g2
 | none =>
  dsimp only
  refine Ou (Q0 hI rfl (by simp) ?_)
  refine (show O3 _ _ (newExc (.type "StopIteration") [] >>= _) _ _ _ from Ou ?_)
  simp only[newExc,newTuple]
  refine Ou (Qg ?_ (by size_fits))
  refine Ou (m:=Uk _ _) (RL (a:=QJ) (by first | rfl | (simp only[Uk]; rfl)) (Qg ?_ (by size_fits)))
  simp only[raiseNew]
  refine Ou (wpAny_handled ?_)
  first | rw[show A.in1.handled=none from hh] | rw[hh]
  refine Ou (Oz (wpAny_throw ?_))
  refine Ou (Uv (T:="StopIteration") (b:=true) ⟨_,O6 _ rfl,rfl⟩ isSubtype_stop (Oz ?_))
  exact he _ hr (((QT ..).extBut.push _).push _)
end
end L2
namespace L2
open PySem PySem.Spec PyProof.Rows
section
variable {P:O9} {w:Qd} {A:Qc} {E:Value->Ov->Prop} {s:Ov} {I S:Addr} {o:Rx} {es:Array (Int × Value)} {ep:Nat} {t:Tj}
theorem rT {sl i:Nat} {Q:Option (Value × Nat)->Ov->Prop} (hb:w.params.followText "set-order" = true) (hS:s.heap.get? S=some o) (hd:o.data = .set es ep t) (hf:t.fits es.size=true)
  (h:Q (((Uw (w.params.setOrder S ep) es)[i]?).map fun e=>(e.2,sl)) s):O3 (O5 P w) A (XM S sl i ep) Q E s:=by
 unfold XM
 refine Ou (SN hS hd hf ?_)
 dsimp only
 unfold setsByText
 refine Ou (Ou (R3 (Oz ?_)))
 rw[if_pos (show (O5 P w).w.params.followText "set-order" = true from hb),if_neg (by simp)]
 unfold setWalk
 refine Ou (Ou (SN hS hd hf ?_))
 dsimp only
 unfold setsByText
 refine Ou (Ou (R3 (Oz ?_)))
 rw[if_pos (show (O5 P w).w.params.followText "set-order" = true from hb)]
 exact Ou (R3 (Oz (Oz h)))
theorem ph {sl i:Nat} {Q:Option (Value × Nat)->Ov->Prop} (hb:w.params.followText "set-order" = false) (hS:s.heap.get? S=some o) (hd:o.data = .set es ep t) (hf:t.fits es.size=true) (hl:t.led=true)
  (hp:t.plain=true∨es.size<=1) (hi:QK t.place sl=i)
  (h:Q (match es[i]?,t.place[i]? with | some (_,x),some j=>some (x,j+1) | _,_=>none) s):O3 (O5 P w) A (XM S sl i ep) Q E s:=by
 unfold XM
 refine Ou (SN hS hd hf ?_)
 dsimp only
 unfold setsByText
 refine Ou (Ou (R3 (Oz ?_)))
 rw[if_neg (show ¬ (O5 P w).w.params.followText "set-order" = true by rw[show (O5 P w).w.params.followText "set-order" = false from hb]; exact O2)]
 have hdr:(!t.plain && decide (es.size > 1))=false:=by
  rcases hp with q | q
  ·rw[q]
   rfl
  ·rw[decide_eq_false (by lia),Tt]
 refine VM (show decide ((!t.plain && decide (es.size > 1))=true)=false from decide_eq_false (by rw[hdr]; exact O2)) ?_
 refine Ou (show O3 _ _ (if (!t.led && !es.isEmpty)=true then unsupported "set:maker-not-led" else pure ()) _ _ _ from ?_)
 rw[hl]
 refine VM (decide_eq_false (by simp)) (Oz (Oz ?_))
 rw[hi]
 exact h
theorem qm {f:Value} {i n:Nat} {Q:Value->Ov->Prop} (hI:SIt s.heap I S f i n ep) (h:Q (.ref I) s):O3 (O5 P w) A (V5 (.ref I)) Q E s:=by
 have hT:s.TypeIs (.ref I) "set_iterator":=⟨_,hI,rfl⟩
 refine WD hT gJ (QR gJ hT lV (show O3 _ _ (ret (.ref I)) _ _ s from ?_) (oh _))
 exact Oz ⟨_,rfl,"set_iterator",_,hT,bw.lookup,h⟩
theorem Bh (hh:A.handled=none) (hne:S≠I) (hb:w.params.followText "set-order" = true) (hd:o.data = .set es ep t) (hf:t.fits es.size=true) :
  Walks P w A I [I,S] [I] es.size (fun i v=>((Uw (w.params.setOrder S ep) es).toList.map (·.2))[i]? = some v) (fun i h=>(∃ (sl:Nat) (tk:Xu),SIt h I S (.int (sl:Int) tk) i es.size ep)/\h.get? S=some o) where
 sub:=fun b hb=>by simp at hb; simp [hb]
 frame:=fun i h h' st hk=>by
  obtain⟨⟨sl,tk,hI⟩,hS⟩:=st
  exact⟨⟨sl,tk,hk I (by simp) _ hI⟩,hk S (by simp) _ hS⟩
 item:=fun i s Q E hi st hQ=>by
  obtain⟨⟨sl,tk,hI⟩,hS⟩:=st
  have pl:(Uw (w.params.setOrder S ep) es).size=es.size:=by
   have:=(mZ (w.params.setOrder S ep) es).length_eq
   simpa using this
  have hx:(Uw (w.params.setOrder S ep) es)[i]? = some ((Uw (w.params.setOrder S ep) es)[i]'(by lia)):=Pu _
  generalize (Uw (w.params.setOrder S ep) es)[i]'(by lia)=x at hx
  refine qP (r:=some (x.2,sl)) hh hI hS hd hf (fun A E Q q=>?_) (fun v j h' hr hI' sb=>?_) (fun h' hr _=>by cases hr)
  ·refine rT hb hS hd hf ?_
   rw[PN,hx]
   exact q
  ·cases hr
   refine hQ _ h' s.toks ?_ ⟨⟨sl,0,hI'⟩,sb.2 S hne▸hS⟩ fun b o' hb' e=>?_
   ·rw[Pk,QD,hx]
    rfl
   ·rw[sb.2 b (fun z=>hb' (by rw[z]; exact List.mem_singleton.mpr rfl))]
    exact e
 done:=fun s Q E st hQ=>by
  obtain⟨⟨sl,tk,hI⟩,hS⟩:=st
  have pl:(Uw (w.params.setOrder S ep) es).size=es.size:=by
   have:=(mZ (w.params.setOrder S ep) es).length_eq
   simpa using this
  refine qP (r:=none) hh hI hS hd hf (fun A E Q q=>?_) (fun v j h' hr=>by cases hr) (fun h' _ hx=>?_)
  ·refine rT hb hS hd hf ?_
   rw[Ss (by lia)]
   exact q
  ·exact hQ h' s.toks fun b o' hb' e=>hx b o' (fun z=>hb' (by rw[z]; exact List.mem_singleton.mpr rfl)) e
 self:=fun i s Q E st hQ=>by
  obtain⟨⟨sl,tk,hI⟩,_⟩:=st
  exact qm hI hQ
def slotAt (pl:Array Nat):Nat->Nat
 | 0=>0
 | i+1=>pl.getD i 0+1
theorem lH {pl:Array Nat} (h:Ris pl):∀ {i:Nat},i<=pl.size->QK pl (slotAt pl i)=i
 | 0,_=>yj h
 | i+1,hi=>by
  have e:pl[i]? = some (pl.getD i 0):=by
   rw[Pu (by lia),RJ,Pu (by lia)]
   rfl
  exact below_at h e
theorem yt (hh:A.handled=none) (hne:S≠I) (hb:w.params.followText "set-order" = false) (hd:o.data = .set es ep t) (hf:t.fits es.size=true) (hl:t.led=true) (hp:t.plain=true∨es.size<=1) (hr:Ris t.place) :
  Walks P w A I [I,S] [I] es.size (fun i v=>(es.toList.map (·.2))[i]? = some v) (fun i h=>(∃ tk:Xu,SIt h I S (.int (slotAt t.place i:Nat) tk) i es.size ep)/\h.get? S=some o) where
 sub:=fun b hb=>by simp at hb; simp [hb]
 frame:=fun i h h' st hk=>by
  obtain⟨⟨tk,hI⟩,hS⟩:=st
  exact⟨⟨tk,hk I (by simp) _ hI⟩,hk S (by simp) _ hS⟩
 item:=fun i s Q E hi st hQ=>by
  obtain⟨⟨tk,hI⟩,hS⟩:=st
  have ps:t.place.size=es.size:=by
   simp only[SetTable.fits,QS,beq_iff_eq] at hf
   exact hf.1
  have hx:es[i]? = some es[i]:=Pu hi
  have hj:t.place[i]? = some (t.place.getD i 0):=by
   rw[Pu (by lia),RJ,Pu (by lia)]
   rfl
  generalize es[i]=x at hx
  obtain⟨k,v⟩:=x
  refine qP (r:=some (v,t.place.getD i 0+1)) hh hI hS hd hf (fun A E Q q=>?_) (fun u j h' hr hI' sb=>?_) (fun h' hr _=>by cases hr)
  ·refine ph hb hS hd hf hl hp (i:=i) (by rw[PN]; exact lH hr (by lia)) ?_
   rw[hx,hj]
   exact q
  ·cases hr
   refine hQ _ h' s.toks ?_ ⟨⟨0,hI'⟩,sb.2 S hne▸hS⟩ fun b o' hb' e=>?_
   ·rw[Pk,QD,hx]
    rfl
   ·rw[sb.2 b (fun z=>hb' (by rw[z]; exact List.mem_singleton.mpr rfl))]
    exact e
 done:=fun s Q E st hQ=>by
  obtain⟨⟨tk,hI⟩,hS⟩:=st
  have ps:t.place.size=es.size:=by
   simp only[SetTable.fits,QS,beq_iff_eq] at hf
   exact hf.1
  refine qP (r:=none) hh hI hS hd hf (fun A E Q q=>?_) (fun v j h' hr=>by cases hr) (fun h' _ hx=>?_)
  ·refine ph hb hS hd hf hl hp (i:=es.size) (by rw[PN]; exact lH hr (by lia)) ?_
   rw[Ss (OJ _)]
   exact q
  ·exact hQ h' s.toks fun b o' hb' e=>hx b o' (fun z=>hb' (by rw[z]; exact List.mem_singleton.mpr rfl)) e
 self:=fun i s Q E st hQ=>by
  obtain⟨⟨tk,hI⟩,_⟩:=st
  exact qm hI hQ
end
end L2
namespace L2
open PySem PySem.Spec PyProof.Rows
section
variable {P:O9} {w:Qd} {A:Qc} {E:Value->Ov->Prop} {s:Ov} {I S T:Addr} {o:Rx} {es:Array (Int × Value)} {ep:Nat} {t:Tj}
def cQ (pl:List Nat):List Value:=pl.map fun j:Nat=>Qp (j:Int)
theorem yD {pl:List Nat} (hh:A.handled=none) (hne:S≠I) (hnt:T≠I) (hd:o.data = .set es ep t) (hf:t.fits es.size=true) (hp:pl.Perm (Rk es.size)) :
  Walks P w A I [I,S,T] [I] es.size (fun i v=>(pl.map fun j=>(es.getD j (0,.none)).2)[i]? = some v) (fun i h=>SIt h I S (.ref T) i es.size ep/\h.get? S=some o/\h.IsTuple T (cQ pl).toArray) where
 sub:=fun b hb=>by simp at hb; simp [hb]
 frame:=fun i h h' st hk=>by
  obtain⟨hI,hS,o',ho',r⟩:=st
  exact⟨hk I (by simp) _ hI,hk S (by simp) _ hS,o',hk T (by simp) _ ho',r⟩
 item:=fun i s Q E hi st hQ=>by
  obtain⟨hI,hS,hT⟩:=st
  have lp:pl.length=es.size:=by rw[hp.length_eq,RB]
  have hT0:s.TypeIs (.ref I) "set_iterator":=⟨_,hI,rfl⟩
  obtain⟨j,hj⟩:∃ j,pl[i]? = some j:=⟨pl[i],PB (by lia)⟩
  have hj2:j < es.size:=List.mem_range.mp (hp.mem_iff.mp (Qe hj))
  have hx:es[j]? = some (es.getD j (0,.none)):=by
   rw[Pu hj2,RJ,Pu hj2]
   rfl
  obtain⟨ot,hot,hct,nt,hdt⟩:=id hT
  unfold Sy
  refine Ou (TV (Ry (name:=Um "__next__") hT0 bw (QR bw hT0 dI ?_ (dZ _))))
  refine (show O3 _ _ (fieldsOf (.ref I) >>= _) _ _ s from Ou (wpAny_fieldsOf hI rfl ?_))
  refine (show O3 _ _ (setEntries S >>= _) _ _ s from Ou (U6 hS hd hf ?_))
  rw[if_neg (by simp)]
  refine (show O3 _ _ (Xf (.ref T) >>= _) _ _ s from Ou (Vd hot hdt ?_))
  have hpl:(cQ pl).toArray[(i:Int).toNat]? = some (.int (j:Int) 0):=by
   rw[PN,V3]
   show (pl.map fun j:Nat=>Qp (j:Int))[i]? = _
   rw[Pk,hj]
   rfl
  dsimp only
  rw[hpl]
  dsimp only
  refine Ou (show O3 _ _ (setNextDrawn S (j:Int).toNat (ep:Int).toNat) _ _ _ from ?_)
  unfold setNextDrawn
  refine Ou (SN hS hd hf ?_)
  dsimp only
  rw[PN,PN,if_neg (by simp),hx]
  refine Oz (Ou (Q0 hI rfl (by simp) ?_))
  have g1:=PJ (Q4 (·.setIfInBounds 1 (Qp ((i:Int)+1)))) hI rfl
  refine Oz ⟨_,rfl,Oz (hQ _ _ s.toks ?_ ⟨g1,?_,?_⟩ fun b o' hb' e=>?_)⟩
  ·rw[Pk,hj]
   rfl
  ·rw[Pn _ _ (QM hne)]
   exact hS
  ·exact⟨ot,by rw[Pn _ _ (QM hnt)]; exact hot,hct,nt,hdt⟩
  ·rw[Pn _ _ (fun z:I=b=>hb' (by rw[z]; exact List.mem_singleton.mpr rfl))]
   exact e
 done:=fun s Q E st hQ=>by
  obtain⟨hI,hS,hT⟩:=st
  have lp:pl.length=es.size:=by rw[hp.length_eq,RB]
  have hT0:s.TypeIs (.ref I) "set_iterator":=⟨_,hI,rfl⟩
  obtain⟨ot,hot,hct,nt,hdt⟩:=id hT
  unfold Sy
  refine Ou (TV (Ry (name:=Um "__next__") hT0 bw (QR bw hT0 dI ?_ (dZ _))))
  refine (show O3 _ _ (fieldsOf (.ref I) >>= _) _ _ s from Ou (wpAny_fieldsOf hI rfl ?_))
  refine (show O3 _ _ (setEntries S >>= _) _ _ s from Ou (U6 hS hd hf ?_))
  rw[if_neg (by simp)]
  refine (show O3 _ _ (Xf (.ref T) >>= _) _ _ s from Ou (Vd hot hdt ?_))
  have hpl:(cQ pl).toArray[(es.size:Int).toNat]? = none:=by
   rw[PN,V3]
   show (pl.map fun j:Nat=>Qp (j:Int))[es.size]? = _
   rw[Pk,SM (by lia)]
   rfl
  dsimp only
  rw[hpl]
  dsimp only
  refine Ou (Q0 hI rfl (by simp) ?_)
  have g1:=PJ (Q4 (·.setIfInBounds 0 (Qp 0))) hI rfl
  refine Ou (Q0 g1 rfl (by simp) ?_)
  refine (show O3 _ _ (newExc (.type "StopIteration") [] >>= _) _ _ _ from Ou ?_)
  simp only[newExc,newTuple]
  refine Ou (Qg ?_ (by size_fits))
  refine Ou (m:=Uk _ _) (RL (a:=QJ) (by first | rfl | (simp only[Uk]; rfl)) (Qg ?_ (by size_fits)))
  simp only[raiseNew]
  refine Ou (wpAny_handled ?_)
  first | rw[show A.in1.handled=none from hh] | rw[hh]
  refine Ou (Oz (wpAny_throw ?_))
  refine Ou (Uv (T:="StopIteration") (b:=true) ⟨_,O6 _ rfl,rfl⟩ isSubtype_stop (Oz ?_))
  refine hQ _ s.toks fun b o' hb' e=>?_
  have hbI:b≠I:=fun z=>hb' (by rw[z]; exact List.mem_singleton.mpr rfl)
  exact ((((QT ..).trans (QT ..)).extBut.push _).push _) b o' hbI e
 self:=fun i s Q E st hQ=>qm st.1 hQ
end
end L2
namespace L2
open PySem PySem.Spec PyProof.Rows
section
variable {P:O9} {w:Qd} {A:Qc} {E:Value->Ov->Prop} {s:Ov} {S:Addr}
theorem Dz {Q:Bool->Ov->Prop} (hT:s.TypeIs (.ref S) "set") (h:Q false s):O3 (O5 P w) A (XQ (.ref S)) Q E s:=by
 unfold XQ; refine Ou (U0 hT PySem.F.slot_set_len.lookup ?_)
 generalize hid:("set.__len__" : String)=id0
 wp_delta
 rw[show splitId id0=some ("set","__len__") from by subst hid; decide+kernel]
 subst hid
 refine Ou (Uv (T:="set") (b:=true) hT (by rw[R4]; kernel_rfl) ?_)
 refine Xv (fun z=>absurd z (by decide)) (fun _=>Xv (fun _=>?_) (fun z=>absurd (by decide+kernel) z))
 exact Ou (Wz hT (Oz h))
theorem FT {b:Bool} {ks:List Int} {Q:Value->Ov->Prop} (hh:A.handled=none) (hb:b=Fl w) (hS:kW P w b s.heap S ks) (hz:ks.length<=sizeLine)
  (h:∀ (I:Addr) (fp:List Addr) (n:Nat) (vs:List Value) (ns:List Int) (St:Nat->Qo->Prop) (s':Ov),Walks P w A I fp [I] n (fun i v=>vs[i]? = some v) St->St 0 s'.heap->QG vs ns->ns.Perm ks->vs.length=n->(∀ x∈fp,x=S∨s.heap.objs.size<=x)->s.heap.objs.size<=I →
   s'.os=s.os->s'.gens=s.gens->(∀ b o,s.heap.get? b=some o->s'.heap.get? b=some o)->Q (.ref I) s'):O3 (O5 P w) A (V5 (.ref S)) Q E s:=by
 obtain⟨o,es,ep,t,ho,hx,hd,hel,hf,tk,ns,hi,hp⟩:=hS
 have hT:s.TypeIs (.ref S) "set":=⟨o,ho,hx.1⟩
 have hlt:S < s.heap.objs.size:=O4 ho
 refine WD hT PySem.F.slot_set_iter (QR PySem.F.slot_set_iter hT m8 ?_ (PySem.F.args_set_iter_1 _))
 refine (show O3 _ _ (Builtin.Frozenset.sizeOf S >>= _) _ _ s from ?_)
 unfold Builtin.Frozenset.sizeOf
 refine Ou (Ou (U6 ho hd hf (Oz ?_)))
 unfold setDrawn setsByText
 refine Ou (Ou (SN ho hd hf ?_))
 dsimp only
 refine Ou (Ou (R3 (Oz (Oz ?_))))
 have hps:t.place.size=es.size:=by
  simp only[SetTable.fits,QS,beq_iff_eq] at hf
  exact hf.1
 have hlen:(es.toList.map (·.2)).length=es.size:=by rw[Ow,Qk]
 have hez:es.size<=sizeLine:=by
  have h1:=hi.length
  have h2:=hp.length_eq
  lia
 have start:∀ (vs:List Value) (ns':List Int) (St:Nat->Qo->Prop),Walks P w A s.heap.objs.size [s.heap.objs.size,S] [s.heap.objs.size] es.size (fun i v=>vs[i]? = some v) St->(∀ h,SIt h s.heap.objs.size S (.int (0:Nat) 0) 0 es.size ep->h.get? S=some o->St 0 h) →
   QG vs ns'->ns'.Perm ks->vs.length=es.size->O3 (O5 P w) A.in1 (do
    let first ← pure (Qp 0)
    let e ← setEpoch S
    let r ← newFields "set_iterator" [first,Qp 0,Pg S,Qp (es.size:Int),Qp (e:Int)]
    ret r) (fun fin s'=>∃ v,fin=Fin.done (Flow.ret v)/\∃ T' r,s'.TypeIs v T'/\Vf (R0 T') (Um "__next__")=pure (some r)/\Q v s') E s:=fun vs ns' St W hst hi' hp' hl'=>by
  refine Ou (Oz (Ou (wpAny_setEpoch_of ho hd hf (Ou (Qg (Oz ?_))))))
  have g:(s.heap.push { cls:=.type "set_iterator",data:=.fields [Qp 0,Qp 0,Pg S,Qp (es.size:Int),Qp (ep:Int)].toArray }).get? s.heap.objs.size=some { cls:=.type "set_iterator",data:=.fields [Qp 0,Qp 0,Pg S,Qp (es.size:Int),Qp (ep:Int)].toArray }:=O6 _ rfl
  refine⟨_,rfl,"set_iterator",_,⟨_,g,rfl⟩,bw.lookup,?_⟩
  refine h s.heap.objs.size [s.heap.objs.size,S] es.size vs ns' St _ W (hst _ g (Ox _ ho)) hi' hp' hl' (fun x hx'=>?_) (OJ _) rfl rfl fun b' o' e=>Ox _ e
  rcases List.mem_cons.mp hx' with rfl | hx'
  ·exact .inr (OJ _)
  ·exact .inl (List.mem_singleton.mp hx')
 have hne:S≠s.heap.objs.size:=Pa hlt
 cases hB:w.params.followText "set-order" with
 | true =>
  refine VM (decide_eq_false (show ¬ (!w.params.followText "set-order" && (!t.plain && decide (es.size > 1)))=true by rw[hB]; exact O2)) ?_
  have pp:=mZ (w.params.setOrder S ep) es
  obtain⟨ms,h1,h2⟩:=eG (pp.symm.map (·.2)) hi
  exact start _ ms _ (Bh hh hne hB hd hf) (fun h' q1 q2=>⟨⟨0,0,q1⟩,q2⟩) h1 (h2.trans hp) (by rw[Ow,pp.length_eq,Qk])
 | false =>
  have hled:t.led=true:=by
   rw[tk.led,hb]
   unfold Fl
   rw[hB]
   rfl
  cases hD:(!t.plain && decide (es.size > 1)) with
  | false =>
   refine VM (decide_eq_false (show ¬ (!w.params.followText "set-order" && (!t.plain && decide (es.size > 1)))=true by rw[hD,Tt]; exact O2)) ?_
   have hpl:t.plain=true∨es.size<=1:=by
    rw[Bool.and_eq_false_iff] at hD
    rcases hD with q | q
    ·exact .inl (by simpa using q)
    ·exact .inr (by have:=of_decide_eq_false q; lia)
   have hris:Ris t.place:=by
    rcases hpl with q | q
    ·exact tk.ris q
    ·unfold Ris
     have hl1:t.place.toList.length<=1:=by rw[Qk]; lia
     generalize t.place.toList=l at hl1
     match l,hl1 with
     | [],_=>exact Vo
     | [x],_=>exact List.pairwise_singleton _ _
   exact start _ ns _ (yt hh hne hB hd hf hled hpl hris) (fun h' q1 q2=>⟨⟨0,q1⟩,q2⟩) hi hp hlen
  | true =>
   refine wpAny_ite_true (decide_eq_true (show (!w.params.followText "set-order" && (!t.plain && decide (es.size > 1)))=true by rw[hD,hB]; rfl)) ?_
   refine Ou (uC es.size (Rk es.size) s RB fun pl d pp=>?_)
   simp only[newTuple]
   have lp:pl.length=es.size:=by rw[pp.length_eq,RB]
   refine Ou (Qg ?_ (show (cQ pl).toArray.size<=sizeLine by unfold cQ; rw[Pj,Ow]; lia))
   have sz1:(s.heap.push { cls:=.type "tuple",data:=.seq (cQ pl).toArray }).objs.size=s.heap.objs.size+1:=QX _ _
   have gT:(s.heap.push { cls:=.type "tuple",data:=.seq (cQ pl).toArray }).get? s.heap.objs.size=some { cls:=.type "tuple",data:=.seq (cQ pl).toArray }:=O6 _ rfl
   have ho1:(s.heap.push { cls:=.type "tuple",data:=.seq (cQ pl).toArray }).get? S=some o:=Ox _ ho
   refine Ou (wpAny_setEpoch_of (o:=o) (es:=es) (t:=t) ho1 hd hf (Ou (Qg (Oz ?_))))
   have g:((s.heap.push { cls:=.type "tuple",data:=.seq (cQ pl).toArray }).push { cls:=.type "set_iterator",data:=.fields [Pg s.heap.objs.size,Qp 0,Pg S,Qp (es.size:Int),Qp (ep:Int)].toArray }).get? (s.heap.push { cls:=.type "tuple",data:=.seq (cQ pl).toArray }).objs.size=some { cls:=.type "set_iterator",data:=.fields [Pg s.heap.objs.size,Qp 0,Pg S,Qp (es.size:Int),Qp (ep:Int)].toArray }:=O6 _ rfl
   refine⟨_,rfl,"set_iterator",_,⟨_,g,rfl⟩,bw.lookup,?_⟩
   have hne1:S≠(s.heap.push { cls:=.type "tuple",data:=.seq (cQ pl).toArray }).objs.size:=by
    rw[sz1]
    exact Pa (QB hlt)
   have hne2:s.heap.objs.size≠(s.heap.push { cls:=.type "tuple",data:=.seq (cQ pl).toArray }).objs.size:=by
    rw[sz1]
    exact Pa (R6 _)
   have hv:(pl.map fun j=>(es.getD j (0,.none)).2).Perm (es.toList.map (·.2)):=by
    refine (pp.map _).trans ?_
    have e:(Rk es.size).map (fun j=>(es.getD j (0,QJ)).2)=es.toList.map (·.2):=by
     apply List.ext_getElem?
     intro i
     have ea:es.toList[i]? = es[i]?:=QD
     rw[Pk,Pk,ea]
     by_cases hi':i < es.size
     ·rw[Wj hi',Pu hi']
      simp [RJ,Pu hi']
     ·have er:(Rk es.size)[i]? = none:=SM (by rw[RB]; lia)
      rw[er,Ss (by lia)]
      rfl
    rw[e]
   have le1:s.heap.objs.size<=(s.heap.push { cls:=.type "tuple",data:=.seq (cQ pl).toArray }).objs.size:=by
    rw[sz1]
    exact Rm _
   obtain⟨ms,h1,h2⟩:=eG hv.symm hi
   refine h _ [(s.heap.push { cls:=.type "tuple",data:=.seq (cQ pl).toArray }).objs.size,S,s.heap.objs.size] es.size _ ms _ _ (yD (T:=s.heap.objs.size) hh hne1 hne2 hd hf pp) ⟨g,Ox _ ho1,_,Ox _ gT,rfl,0,rfl⟩ h1 (h2.trans hp) (by rw[Ow]; exact lp) (fun x hx'=>?_) le1 rfl rfl fun b' o' e=>Ox _ (Ox _ e)
   rcases List.mem_cons.mp hx' with rfl | hx'
   ·exact .inr le1
   ·rcases List.mem_cons.mp hx' with rfl | hx'
    ·exact .inl rfl
    ·exact .inr (by rw[List.mem_singleton.mp hx']; exact OJ _)
theorem vJ {ks:List Int} {Q:List Value->Ov->Prop} (hh:A.handled=none) (hS:kW P w (Fl w) s.heap S ks) (hz:ks.length<=sizeLine)
  (h:∀ (vs:List Value) (ns:List Int) (s':Ov),QG vs ns->ns.Perm ks->s.heap.objs.size<=s'.heap.objs.size->s'.os=s.os->s'.gens=s.gens->(∀ b o,s.heap.get? b=some o->s'.heap.get? b=some o)->Q vs s'):O3 (O5 P w) A (collect (.ref S)) Q E s:=by
 obtain⟨o,es,ep,t,ho,hx,_⟩:=id hS
 have hlt:S < s.heap.objs.size:=O4 ho
 have hSl:s.heap.objs.size≠S:=Tz hlt
 unfold collect
 refine Ou (wpAny_runValue (Q5 PySem.F.entry_proto_collect ?_))
 rw[Rb PySem.F.plain_proto_collect _]
 refine (show O3 _ A.in1 (newList [] >>= fun l=>again (.builtin "list.__iadd__" ⟨[l,.ref S],[]⟩)) _ _ s from Ou (Qg ?_))
 refine Oz ⟨RZ PySem.F.plain_list_iadd _,Q5 PySem.F.entry_list_iadd ?_⟩
 rw[Rb PySem.F.plain_list_iadd _]
 generalize hN:s.heap.push { cls:=.type "list",data:=.seq ([]:List Value).toArray }=h1
 have gL:h1.get? s.heap.objs.size=some { cls:=.type "list",data:=.seq ([]:List Value).toArray }:=by rw[← hN]; exact O6 _ rfl
 have k1:∀ b o,s.heap.get? b=some o->h1.get? b=some o:=fun b o e=>by rw[← hN]; exact Ox _ e
 have sz1:h1.objs.size=s.heap.objs.size+1:=by rw[← hN]; exact QX _ _
 have hT:Shared.TypeIs { s with heap:=h1 } (.ref S) "set":=⟨o,k1 _ _ ho,hx.1⟩
 refine (show O3 _ A.in1 (Tc (.ref s.heap.objs.size) (.ref S) (.ref s.heap.objs.size)) _ _ { s with heap:=h1 } from ?_)
 unfold Tc; refine Ou (Wz hT ?_)
 have q1:Builtin.List.listSameRef (.ref s.heap.objs.size) (.ref S)=false:=by simp [Builtin.List.listSameRef,hSl]
 have q2:(R0 "set" == R0 "list")=false:=by decide
 have q3:(R0 "set" == R0 "tuple")=false:=by decide
 simp only[q1,q2,q3,Bool.or_false,Wy,if_false]
 refine Ou (FT (s:={ s with heap:=h1 }) hh rfl (kh (fun o e=>k1 S o e) hS) hz fun I fp n vs ns St s2 W st hi hp hl hfp hI os2 gs2 k2=>?_)
 have gL2:=k2 _ _ gL
 have hTs:s2.TypeIs (.ref S) "set":=⟨o,k2 _ _ (k1 _ _ ho),hx.1⟩
 have hLf:s.heap.objs.size ∉ fp:=fun z=>by
  rcases hfp _ z with q | q
  ·exact hSl q
  ·have q':h1.objs.size<=s.heap.objs.size:=q
   rw[sz1] at q'
   exact absurd q' (Nat.not_succ_le_self _)
 have hz':n<=sizeLine:=by
  have e1:=hi.length
  have e2:=hp.length_eq
  lia
 have key:∀ (R:Vg->Ov->Prop),(∀ (s':Ov) (c':Nat),s'.heap.get? s.heap.objs.size=some { cls:=.type "list",dict:=none,data:=.seq vs.toArray c',slots:=#[] }->s'.os=s.os->s'.gens=s.gens->(∀ b o,s.heap.get? b=some o->s'.heap.get? b=some o)->R (.ok (.ret (.ref s.heap.objs.size))) s') →
   ∀ (h':Qo) (c tk:Nat),St 0 h'->(∀ b o,b≠s.heap.objs.size->s2.heap.get? b=some o->h'.get? b=some o)->h'.get? s.heap.objs.size=some { cls:=.type "list",data:=.seq #[] c } →
   QF (O5 P w) A (.builtin "list.extend.loop" ⟨[.ref s.heap.objs.size,.ref I,.ref s.heap.objs.size],[]⟩) R { s2 with heap:=h',toks:=tk }:=fun R hR h' c tk st' kp gl=>by
  refine codeAny_extend_loopS W.toS hz' s.heap.objs.size hLf _ n 0 _ #[] c rfl (Ql _) st' gl (ItemsOf.nil _) fun s' acc' c' hm gL' hacc=>?_
  have eacc:acc'=vs.toArray:=by
   apply Array.ext_getElem?
   intro j
   have ev:vs.toArray[j]? = vs[j]?:=V3
   rw[ev]
   by_cases hj:j < acc'.size
   ·have e:=hacc.2 j acc'[j] (Pu hj)
    rw[Pu hj]
    exact e.symm
   ·rw[Ss (by lia),SM (by have:=hacc.1; lia)]
  rw[eacc] at gL'
  refine hR s' c' gL' (hm.os.trans os2) (hm.gens.trans gs2) fun b o' e=>?_
  have hbl:b < s.heap.objs.size:=O4 e
  refine hm.heap b o' ?_ (kp b o' (Pa hbl) (k2 _ _ (k1 _ _ e)))
  rw[Vu,Rt]
  rintro (z | z)
  ·exact absurd z (Pa hbl)
  ·have q:h1.objs.size<=I:=hI
   rw[sz1,← z] at q
   exact absurd (OD hbl (Uq q)) (Qu _)
 refine Ou (QC (Dz hTs ?_))
 have fin:∀ (s':Ov) (c':Nat),s'.heap.get? s.heap.objs.size=some { cls:=.type "list",dict:=none,data:=.seq vs.toArray c',slots:=#[] }->s'.os=s.os->s'.gens=s.gens->(∀ b o,s.heap.get? b=some o->s'.heap.get? b=some o) →
   O3 (O5 P w) A (load s.heap.objs.size >>= fun o=>match o.data with | .seq xs _=>pure xs.toList | _=>unsupported "internal:collect") Q E s':=fun s' c' g e1 e2 e3=>Ou (wpAny_load g (Oz (h vs ns s' hi hp (Q7 (O4 g)) e1 e2 e3)))
 refine Xv (fun _=>?_) (fun _=>Oz ⟨RZ PySem.F.plain_extend_loop _,key _ (fun s' c' g e1 e2 e3=>fin s' c' g e1 e2 e3) s2.heap _ s2.toks st (fun b o _ e=>e) gL2⟩)
 refine Ou (Ve (Ou (show O3 _ _ (updateSeq s.heap.objs.size (·.push .none) >>= fun _=>updateSeq s.heap.objs.size (·.pop)) _ _ _ from ?_)))
 refine Ou (UW gL2 rfl ?_)
 have g3:=PJ (Sd (·.push QJ)) gL2 rfl
 refine UW (hz:=by seq_fits) g3 rfl ?_
 have g4:=PJ (Sd (·.pop)) g3 rfl
 have oth:∀ b o',b≠s.heap.objs.size->s2.heap.get? b=some o'->((s2.heap.update s.heap.objs.size (Sd (·.push QJ))).update s.heap.objs.size (Sd (·.pop))).get? b=some o':=fun b o' hb e=>by
  rw[Pn _ _ (QM hb),Pn _ _ (QM hb)]
  exact e
 exact Oz ⟨RZ PySem.F.plain_extend_loop _,key _ (fun s' c' g e1 e2 e3=>fin s' c' g e1 e2 e3) _ _ s2.toks (W.frame 0 _ _ st fun b hb o' e=>oth b o' (fun z=>hLf (by rw[← z]; exact hb)) e) oth g4⟩
end
end L2
namespace L2
open PySem PySem.Spec PyProof.Rows
section
variable {P:O9} {w:Qd} {A:Qc} {E:Value->Ov->Prop} {s:Ov} {S:Addr}
theorem yg {ks:List Int} {Q:Value->Ov->Prop} (hh:A.handled=none) (hS:kW P w (Fl w) s.heap S ks) (h64:ks.length < 64)
  (h:∀ (l:Addr) (vs:List Value) (ns:List Int) (c:Nat) (s':Ov),QG vs ns->ns.Perm ks->ns.Pairwise (·<=·)->s'.heap.get? l=some { cls:=.type "list",data:=.seq vs.toArray c }->s.heap.objs.size<=l->s'.os=s.os->s'.gens=s.gens →
   (∀ b o,s.heap.get? b=some o->s'.heap.get? b=some o)->Q (.ref l) s'):O3 (O5 P w) A (call (.builtin "sorted") [.ref S]) Q E s:=by
 refine Vm kind_sorted plain_sorted entry_sorted (args_sorted1 _) ?_
 unfold Sq.«sorted»; refine Ou (m:=checkCount "sorted" 1 1 _) (Oz ?_)
 refine Ou (vJ hh hS (Q7 (OD h64 (by decide))) fun vs ns s1 hi hp hsz os1 gs1 k1=>?_)
 have hl:vs.length < 64:=by
  have e1:=hi.length
  have e2:=hp.length_eq
  lia
 refine Ou (Wl ?_)
 have g1:(s1.heap.push (U4 "list" vs.toArray 0)).get? s1.heap.objs.size=some (U4 "list" vs.toArray 0):=O6 _ rfl
 refine Ou (QC (QR slot_list_sort ⟨_,g1,rfl⟩ Xx (list_sort_tree g1 hi hl fun out ns' a1 a2 a3=>⟨_,rfl,?_⟩) (args_list_sort _)))
 obtain⟨c,hc⟩:=sortedHeap_at (out:=out) g1
 refine Oz ⟨_,rfl,h s1.heap.objs.size out.toList ns' c _ a1 (a2.trans hp) a3 ?_ hsz os1 gs1 fun b o e=>?_⟩
 ·exact hc
 ·have e1:=k1 b o e
  have lt:=O4 e1
  rw[sortedHeap_old (Pa lt) (by rw[QX]; exact QB lt)]
  exact Ox _ e1
end
end L2
namespace L2
open PySem PySem.Spec PyProof.Rows
def ddI (ns:List Int):List Int:=firstMet (fun i=>ns.getD i 0) ns.length
theorem Inv.HY {X:Cx} {pins:List (Addr × Rx)} {σ:St} {H:Hp} {s s':Ov} {l:Addr} {ys:List V} {its:List Value} {c:Nat} (I:Inv X pins σ H s) (ho:s'.os=s.os) (hg:s'.gens=s.gens) (k:∀ b u,s.heap.get? b=some u->s'.heap.get? b=some u)
  (hl:s.heap.objs.size<=l) (hv:Vals ys its) (hz:ys.length<=sizeLine) (g:s'.heap.get? l=some { cls:=.type "list",data:=.seq its.toArray c }):Inv X pins σ (upd H l (.lst ys)) s':=by
 have J:=I.laid (t':=s.toks) (o:=.lst ys) k hl ⟨hz,its,c,hv,g⟩
 exact⟨J.ok,ho.trans I.os,by rw[hg]; exact I.bare,J.base,J.loc,J.cell,J.free,J.freeC,J.pin,J.hok,J.len⟩
def tSS (K:Py) (te:TA):TE:=fun σ H Q=>te σ H fun xs H1=>∃ (a:Addr) (ns:List Int),xs=[.ref a]/\SqL K H1 a (ns.map V.int)/\ns.length<=4000/\(ddI ns).length < 64/\∀ ms:List Int,ms.Perm (ddI ns)->ms.Pairwise (·<=·)->∀ l,H1 l=none->Q (.ref l) (upd H1 l (.lst (ms.map V.int)))
theorem rE {X:Cx} {e:Expr} {te:TA} {p1 p2 q1 q2:Ut} (hc:X.calm=true) (hg1:Gl X "sorted") (hm1:X.mg "sorted" = none) (hg2:Gl X "set") (hm2:X.mg "set" = none) (ha:PA X [e] te)
  (hb1:Qn "sorted" = some (.builtin "sorted"):=by decide+kernel) (hb2:Qn "set" = some (.type "set"):=by decide+kernel)
  (he1:Pz [.Call (.Name "set" p2) [e] [] q2] X.env=(false,QZ (.Call (.Name "set" p2) [e] [] q2) X.env)::Pz [] X.env:=by rfl) (hp1:(Rn q1 (Pz [] X.env)).any (·.1)=false:=by rfl)
  (he2:Pz [e] X.env=(false,QZ e X.env)::Pz [] X.env:=by rfl) (hp2:(Rn q2 (Pz [] X.env)).any (·.1)=false:=by rfl) :
  PE X (.Call (.Name "sorted" p1) [.Call (.Name "set" p2) [e] [] q2] [] q1) (tSS X.K te):=by
 intro pins s σ H Q I h
 refine QH (jO I hg1 hm1 hb1 ?_ (by decide) (by decide))
 refine Xj ?_ he1 hp1
 rw[he1]
 refine (show O3 _ _ (spliced ((false,QZ (.Call (.Name "set" p2) [e] [] q2) X.env)::Rn q1 (Pz [] X.env))) _ _ s from Ww ?_)
 refine QH (jO I hg2 hm2 hb2 ?_ (by decide) (by decide))
 refine SX (thn (ha q2 pins s σ H _ I h) fun us s1 ⟨vs,H1,I1,r1,q⟩=>?_) he2 hp2
 obtain⟨a,ns,rfl,hq,hl,h64,hQ⟩:=q
 obtain⟨u,rfl,ru⟩:=vals1 r1
 cases ru
 obtain⟨its,rv,pl,_⟩:=I1.list hq
 have hi:QG its ns:=intsAre_of rv
 have hsz:its.toArray.size=ns.length:=by rw[Pj]; exact hi.length
 refine vP (I1.ok.hd hc) pl.isList hi (by rw[hsz]; exact Ud (Nat.succ_le_succ hl) (by decide)) fun h' tk hS hk=>?_
 rw[hsz] at hS
 have I2:Inv X pins σ H1 { s1 with heap:=h',toks:=tk }:=I1.kept (t':=tk) fun b o e=>hk b o (O4 e) e
 refine (show O3 _ _ (spliced []) _ _ _ from Xa ?_)
 refine yg (I1.ok.hd hc) hS h64 fun l vs ms c s3 hi3 hp3 hw3 g3 hl3 os3 gs3 k3=>?_
 have hml:(ms.map V.int).length<=sizeLine:=by
  rw[Ow,hp3.length_eq]
  exact Q7 (OD h64 (by decide))
 exact⟨.ref l,_,I2.HY os3 gs3 k3 hl3 (gY hi3) hml g3,rfl,hQ ms hp3 hw3 l (I2.hok.fresh hl3)⟩
end L2
namespace L2
open PySem PySem.Spec PyProof.Rows
section
variable {X:Cx} {pins:List (Addr × Rx)} {s:Ov} {σ:St} {H:Hp}
end
end L2
namespace L2
open PySem PySem.Spec PyProof.Rows
section
variable {X:Cx} {k:Nat}
end
end L2
namespace L2
open PySem PySem.Spec PyProof.Rows
section
variable {X:Cx} {k:Nat}
end
end L2
namespace L2
open PySem PySem.Spec PyProof.Rows
def mxD (d:Int):List Int->Int
 | []=>d
 | a::r=>r.foldl max a
theorem pU {n:Int}:∀ {l:List Value} {ns:List Int} {j:Nat},QG l ns->ns[j]? = some n->∃ t,l[j]? = some (.int n t)
 | _,_,j,.nil,h=>by simp at h
 | _,_,0,.cons _ _ _,h=>by
  cases (show some _=some n from h)
  exact⟨_,rfl⟩
 | _,_,j+1,.cons _ _ r,h=>by
  obtain⟨t,e⟩:=pU (j:=j) r (by simpa using h)
  exact⟨t,by simpa using e⟩
def dkw (dk:Option (Int × Xu)):List (Px × Value):=dk.toList.map fun d=>(("default" : Px),RQ d.1 d.2)
section
variable {prog:O9} {w:Qd} {A:Qc} {R:Vg->Ov->Prop} {E:Value->Ov->Prop} {s:Ov}
theorem zV {it l S:Addr} {items:Array Value} {ns:List Int} (hh:A.handled=none) (hi:QG items.toList ns) (hne:l≠it) (hS1:S≠it) (hS2:S≠l) (kw:List (Px × Value)) :
  ∀ (k j:Nat) (s:Ov) (b:Int) (t:Xu) (c:Nat),ns.length - j=k->j<=ns.length->s.heap.IsListIter it l j->s.heap.IsList l items →
   s.heap.get? S=some { cls:=.type "list",dict:=none,data:=.seq #[.int b t,.int b t] c,slots:=#[] } →
   (∀ t' h' tk,(∀ a o,a≠it->a≠S->s.heap.get? a=some o->h'.get? a=some o)->R (.ok (.ret (.int ((ns.drop j).foldl max b) t'))) { s with heap:=h',toks:=tk }) →
   QF (O5 prog w) A (.builtin "max.loop" ⟨[.ref it,.none,.ref S],kw⟩) R s:=by
 have W:=Ws (prog:=prog) (w:=w) (A:=A.in1) hh it l hne items
 have hname:(toString "max"++toString ".loop" : String) = "max.loop":=by decide
 have hsz:items.size=ns.length:=by rw[← Qk]; exact hi.length
 intro k
 induction k with
 | zero =>
  intro j s b t c hk hj h1 h2 hS hR
  refine Q5 Xo ?_; rw[Rb R7 _]
  show O3 _ A.in1 (Xf (.ref S) >>= _) _ _ s; refine Ou (Vd hS rfl ?_)
  have ej:j=items.size:=by lia
  show O3 _ A.in1 (tryCatch (Sy (.ref it)) _ >>= _) _ _ s; refine Ou (Vc (W.done s _ _ (by rw[← ej]; exact⟨h1,h2⟩) fun h' tk hm=>?_))
  have hS':=hm S _ (by simpa using hS1) hS
  show O3 _ A.in1 (updateSeq S (fun _=>#[]) >>= _) _ _ _; refine Ou (UW hS' rfl (Ou (Xp (Oz ?_))))
  rw[List.drop_of_length_le (by lia)] at hR
  exact hR t _ tk fun a o ha hb e=>(Pn _ _ (QM hb)).trans (hm a o (by simpa using ha) e)
 | succ k ih =>
  intro j s b t c hk hj h1 h2 hS hR
  refine Q5 Xo ?_; rw[Rb R7 _]
  show O3 _ A.in1 (Xf (.ref S) >>= _) _ _ s; refine Ou (Vd hS rfl ?_)
  have hlt:j < ns.length:=by lia
  obtain⟨u,hu⟩:=pU hi (PB hlt)
  have ed:ns.drop j=ns[j]::ns.drop (j+1):=TJ hlt
  show O3 _ A.in1 (tryCatch (Sy (.ref it)) _ >>= _) _ _ s; refine Ou (Vc (W.item j s _ _ (by lia) ⟨h1,h2⟩ fun v h' tk hP st hm=>?_))
  obtain⟨g1,g2⟩:=st
  have ev:v = .int ns[j] u:=by
   have e:items[j]? = some v:=hP
   rw[← QD,hu] at e
   exact (Qh e).symm
  subst ev
  have hS':=hm S _ (by simpa using hS1) hS
  show O3 _ A.in1 (tryCatch (T6 [RQ ns[j] u,RQ ns[j] u] (richCompare .Gt (.int ns[j] u) (.int b t) >>= _)) _ >>= _) _ _ _
  refine Ou (Vc (QC (Ou ((CmpOf.ints_gt (P:=fun i v=>∃ t,v = .int (if i=0 then ns[j] else b) t) (fun i=>if i=0 then ns[j] else b) (fun _ _ h=>h)) 0 1 _ _ _ _ _ ⟨u,rfl⟩ ⟨t,rfl⟩ ?_))))
  refine Ou (QC (Rh (Ou (Xp (Oz ?_)))))
  show O3 _ A.in1 (if decide (ns[j] > b)=true then _ else _) _ _ _
  by_cases hb:ns[j] > b
  ·rw[if_pos (decide_eq_true hb)]
   refine Ou (UW hS' rfl (Ou (Xp ?_)))
   rw[hname]
   refine Oz ⟨RZ R7 _,ih (j+1) _ ns[j] u _ (by lia) hlt ?_ ?_ (PJ _ hS' rfl) fun t' h2 tk2 k2=>?_⟩
   ·exact g1.at fun o e=>(Pn _ _ hS1).trans e
   ·exact g2.at fun o e=>(Pn _ _ hS2).trans e
   ·have q:=hR t' h2 tk2 fun a o ha hb e=>k2 a o ha hb ((Pn _ _ (QM hb)).trans (hm a o (by simpa using ha) e))
    rw[ed,T8,show max b ns[j]=ns[j] by lia] at q
    exact q
  ·rw[if_neg (by simpa using hb)]
   refine Ou (Xp ?_)
   rw[hname]
   refine Oz ⟨RZ R7 _,ih (j+1) _ b t c (by lia) hlt g1 g2 hS' fun t' h2 tk2 k2=>?_⟩
   have q:=hR t' h2 tk2 fun a o ha hb e=>k2 a o ha hb (hm a o (by simpa using ha) e)
   rw[ed,T8,show max b ns[j]=b by lia] at q
   exact q
theorem yZ {it l S:Addr} {items:Array Value} {ns:List Int} {c:Nat} (hh:A.handled=none) (hi:QG items.toList ns) (hne:l≠it) (hS1:S≠it) (hS2:S≠l) (dk:Option (Int × Xu)) (hd:ns=[]->dk≠none)
  (h1:s.heap.IsListIter it l 0) (h2:s.heap.IsList l items) (hS:s.heap.get? S=some { cls:=.type "list",dict:=none,data:=.seq #[] c,slots:=#[] })
  (hR:∀ t' h' tk,(∀ a o,a≠it->a≠S->s.heap.get? a=some o->h'.get? a=some o)->R (.ok (.ret (.int (mxD ((dk.map (·.1)).getD 0) ns) t'))) { s with heap:=h',toks:=tk }) :
  QF (O5 prog w) A (.builtin "max.loop" ⟨[.ref it,.none,.ref S],dkw dk⟩) R s:=by
 have W:=Ws (prog:=prog) (w:=w) (A:=A.in1) hh it l hne items
 have hname:(toString "max"++toString ".loop" : String) = "max.loop":=by decide
 have hsz:items.size=ns.length:=by rw[← Qk]; exact hi.length
 refine Q5 Xo ?_; rw[Rb R7 _]
 show O3 _ A.in1 (Xf (.ref S) >>= _) _ _ s; refine Ou (Vd hS rfl ?_)
 show O3 _ A.in1 (tryCatch (Sy (.ref it)) _ >>= _) _ _ s
 cases ns with
 | nil =>
  have e0:items.size=0:=hsz
  refine Ou (Vc (W.done s _ _ (by rw[e0]; exact⟨h1,h2⟩) fun h' tk hm=>?_))
  cases dk with
  | none=>exact absurd rfl (hd rfl)
  | some d =>
   refine Ou (Ve ?_)
   exact Oz (hR d.2 h' tk fun a o ha hb e=>hm a o (by simpa using ha) e)
 | cons n r =>
  obtain⟨u,hu⟩:=pU (n:=n) (j:=0) hi rfl
  refine Ou (Vc (W.item 0 s _ _ (by rw[hsz]; exact Nat.succ_pos _) ⟨h1,h2⟩ fun v h' tk hP st hm=>?_))
  obtain⟨g1,g2⟩:=st
  have ev:v = .int n u:=by
   have e:items[0]? = some v:=hP
   rw[← QD,hu] at e
   exact (Qh e).symm
  subst ev
  have hS':=hm S _ (by simpa using hS1) hS
  show O3 _ A.in1 (updateSeq S (fun _=>#[RQ n u,RQ n u]) >>= _) _ _ _
  refine Ou (UW hS' rfl ?_)
  rw[hname]
  refine Oz ⟨RZ R7 _,zV hh hi hne hS1 hS2 _ _ 1 _ n u _ rfl (Nat.succ_le_succ (Ql _)) ?_ ?_ (PJ _ hS' rfl) fun t' h2 tk2 k2=>?_⟩
  ·exact g1.at fun o e=>(Pn _ _ hS1).trans e
  ·exact g2.at fun o e=>(Pn _ _ hS2).trans e
  ·exact hR t' h2 tk2 fun a o ha hb e=>k2 a o ha hb ((Pn _ _ (QM hb)).trans (hm a o (by simpa using ha) e))
theorem zZ (a v:Value):Vs "max" ⟨[a],[("default",v)]⟩:=by unfold Vs; kernel_rfl
theorem CQ (v:Value):U8 "max" ["key","default"] 0 ⟨[],[("default",v)]⟩=pure [none,some v]:=by kernel_rfl
theorem Ge {l:Addr} {items:Array Value} {ns:List Int} {Q:Value->Ov->Prop} (hh:A.handled=none) (hl:s.heap.IsList l items) (hi:QG items.toList ns) (dk:Option (Int × Xu)) (hd:ns=[]->dk≠none)
  (h:∀ t h' tk,(∀ a o,s.heap.get? a=some o->h'.get? a=some o)->Q (.int (mxD ((dk.map (·.1)).getD 0) ns) t) { s with heap:=h',toks:=tk }) :
  O3 (O5 prog w) A (call (.builtin "max") [.ref l] (dkw dk)) Q E s:=by
 have ha:Vs "max" ⟨[.ref l],dkw dk⟩:=by
  cases dk with
  | none=>exact F.args_max1 _
  | some d=>exact zZ _ _
 have hb:U8 "max" ["key","default"] 0 ⟨[],dkw dk⟩=pure [none,dk.map fun d=>.int d.1 d.2]:=by
  cases dk with
  | none=>rfl
  | some d=>exact CQ _
 have hname:(toString "max"++toString ".loop" : String) = "max.loop":=by decide
 refine Td (Te F.plain_max F.entry_max ?_)
 have main:O3 (O5 prog w) A.in1 (Sq.«max» ⟨[.ref l],dkw dk⟩) (fun fin s'=>match fin with
   | .done f=>(match (Except.ok f:Vg) with | .ok (.ret v)=>Q v s' | .ok _=>False | .error e=>E e s')
   | .again c'=>c'.quiet=true/\QF (O5 prog w) A c' (fun r s'=>match r with | .ok (.ret v)=>Q v s' | .ok _=>False | .error e=>E e s') s') E s:=by
  show O3 _ A.in1 (U8 "max" ["key","default"] 0 ⟨[],dkw dk⟩ >>= _) _ _ s
  refine Ou (RL hb (Ou (Oz ?_)))
  refine Ou (Uj hl (Ou (Qg ?_)))
  have lt:l < s.heap.objs.size:=by obtain⟨o,e,_⟩:=hl; exact O4 e
  have hs1:(s.heap.push { cls:=.type "list_iterator",data:=.fields #[.ref l,.int 0 0] }).objs.size=s.heap.objs.size+1:=QX ..
  rw[hname]
  have ek:(dk.map fun d=>RQ d.1 d.2).toList.map (fun d=>(("default" : Px),d))=dkw dk:=by cases dk <;> rfl
  refine Oz ⟨RZ R7 _,?_⟩
  show QF _ A (.builtin "max.loop" ⟨[.ref s.heap.objs.size,.none,_],(dk.map fun d=>RQ d.1 d.2).toList.map (fun d=>(("default" : Px),d))⟩) _ _
  rw[ek]
  refine yZ hh hi (Pa lt) (by rw[hs1]; exact Tz (R6 _)) (by rw[hs1]; exact Tz (QB lt)) dk hd
   ⟨_,Ox _ (O6 _ rfl),rfl,rfl⟩ ((hl.push _).push _) (O6 _ rfl) fun t h' tk k=>?_
  exact h t h' tk fun a o e=>k a o (Pa (O4 e)) (by rw[hs1]; exact Pa (QB (O4 e))) (Ox _ (Ox _ e))
 simp only[Tw,F.kind_max]
 cases hsig:Manifest.signature? "max" with
 | none=>exact Oz main
 | some sig =>
  have ha':Bind.checkArgs "max" sig ⟨[.ref l],dkw dk⟩=pure ():=by simpa only [Vs,hsig] using ha
  simp only[ha']
  exact Oz main
end
section
variable {X:Cx}
inductive GJ (K:Py) (xs:List V) (H:Hp) (Q:VK):Prop where
 | mk (p:Addr) (ns:List Int) (z0:xs=[.ref p]) (z1:SqL K H p (ns.map V.int)) (z2:ns≠[]) (z3:Q (.int (mxD 0 ns)) H):GJ K xs H Q
def Hc (K:Py):List V->Hp->VK->Prop:=fun xs H Q=>GJ K xs H Q
theorem rJ (hc:X.calm=true):fL X (.builtin "max") (Hc X.K):=by
 intro pins s σ H xs us Q I r h
 obtain⟨p,ns,rfl,hq,hne,q⟩:=h
 obtain⟨u,rfl,ru⟩:=vals1 r
 cases ru
 obtain⟨its,rv,pl,hz⟩:=I.list hq
 exact Ge (I.ok.hd hc) pl.isList (show QG its.toArray.toList ns from intsAre_of rv) none (fun e=>absurd e hne) fun t h' tk k=>⟨.int _,H,I.kept (t':=tk) k,⟨_,rfl⟩,q⟩
def Lw (K:Py) (d:Int) (te:TA):TE:=fun σ H Q=>te σ H fun xs H1=>∃ (p:Addr) (ns:List Int),xs=[.ref p]/\SqL K H1 p (ns.map V.int)/\Q (.int (mxD d ns)) H1
theorem HJ {e:Expr} {te:TA} {d:Int} {j} {p pos kp cp:Ut} (hc:X.calm=true) (hg:Gl X "max") (hm:X.mg "max" = none) (ha:PA X [e] te)
  (hb:Qn "max" = some (.builtin "max"):=by decide+kernel)
  (he:Rn pos (Pz [e] X.env)=(false,QZ e X.env)::Rn pos (Pz [] X.env):=by rfl) (hp:(Rn pos (Pz [e] X.env)).any (·.1)=false:=by rfl) :
  PE X (.Call (.Name "max" p) [e] [⟨some "default",.Constant (.int d) j cp,kp⟩] pos) (Lw X.K d te):=by
 intro pins s σ H Q I h
 refine QH (jO I hg hm hb ?_ (by decide) (by decide))
 refine callWith_kw (thn (ha pos pins s σ H _ I h) fun us s1 ⟨vs,H1,I1,r1,q⟩=>?_) he hp
 obtain⟨a,ns,rfl,hq,q⟩:=q
 obtain⟨u,rfl,ru⟩:=vals1 r1
 cases ru
 refine kws_cons (wpAny_Constant_int (kws_nil ?_))
 have I2:Inv X pins σ H1 { s1 with toks:=s1.toks+1 }:=I1.tok _
 obtain⟨its,rv,pl,hz⟩:=I2.list hq
 exact Ge (I.ok.hd hc) pl.isList (show QG its.toArray.toList ns from intsAre_of rv) (some (d,_)) (fun _ z=>nomatch z) fun t h' tk k=>⟨.int _,H1,I2.kept (t':=tk) k,⟨_,rfl⟩,q⟩
end
end L2
namespace L2
open PySem PySem.Spec PyProof.Rows
theorem Az:Manifest.owners.lookup (String.ofList ['d','e','s','r','e','v','e','r'].reverse)=some Manifest.sig_reversed:=by kernel_rfl
theorem cW:Slot "reversed" "__next__" "reversed.__next__" :=
 .of (owner:="reversed") (n:="__next__") (by rw[T5,RN]; kernel_rfl) (by decide+kernel) (by decide+kernel) (by decide+kernel) (by first | exact .inl (by decide+kernel) | exact .inr (by decide+kernel)) (by rw[R4]; kernel_rfl)
theorem qG:Slot "reversed" "__init__" "object.__init__" :=
 .of (owner:="object") (n:="__init__") (by rw[T5,RN]; kernel_rfl) (by decide+kernel) (by decide+kernel) (by decide+kernel) (by first | exact .inl (by decide+kernel) | exact .inr (by decide+kernel)) (by rw[R4]; kernel_rfl)
theorem iR:entryFor table "reversed.__next__" = some Sq.«reversed.__next__»:=entryFor_of_tree (by kernel_rfl)
theorem jP (a:Value):Vs "reversed.__next__" ⟨[a],[]⟩:=by
 unfold Vs
 rw[Wm (id:="reversed.__next__") (n:=['_','_','t','x','e','n','_','_']) (o:=['d','e','s','r','e','v','e','r']) (by kernel_rfl) Az]
 kernel_rfl
theorem jD:Slot "reversed" "__iter__" "reversed.__iter__" :=
 .of (owner:="reversed") (n:="__iter__") (by rw[T5,RN]; kernel_rfl) (by decide+kernel) (by decide+kernel) (by decide+kernel) (by first | exact .inl (by decide+kernel) | exact .inr (by decide+kernel)) (by rw[R4]; kernel_rfl)
theorem oW:entryFor table "reversed.__iter__" = some Sq.«dict_keyiterator.__iter__»:=entryFor_alias (id':="dict_keyiterator.__iter__") (by kernel_rfl) rfl (by decide+kernel) (by kernel_rfl)
theorem qy (a:Value):Vs "reversed.__iter__" ⟨[a],[]⟩:=by
 unfold Vs
 rw[Wm (id:="reversed.__iter__") (n:=['_','_','r','e','t','i','_','_']) (o:=['d','e','s','r','e','v','e','r']) (by kernel_rfl) Az]
 kernel_rfl
theorem yJ:TypeCalled "reversed" "reversed.__new__" "object.__init__" :=
 ⟨by decide+kernel,by decide+kernel,⟨_,_,F.mro_reversed⟩,F.made_reversed,by decide+kernel,by rw[R4]; kernel_rfl,qG⟩
theorem rG:Vf (.type "tuple") "__reversed__" = pure none:=by rw[T5,RN]; kernel_rfl
theorem uh:isSubtype (.type "tuple") (.type "dict")=pure false:=by rw[R4]; kernel_rfl
def RIt (h:Qo) (I t:Addr) (i:Int):Prop:=h.get? I=some { cls:=.type "reversed",dict:=none,data:=.fields #[.ref t,.int i 0],slots:=#[] }
theorem Fd (a:Value):XN "reversed" ⟨[.type "reversed",a],[]⟩=pure (.type "reversed",[a]):=by
 unfold XN
 simp only[isType,F.sub_reversed_self,pure_bind,Bool.not_true,Wy,if_false]
theorem Ez (t:Addr) (items:Array Value) (hf:(items.size:Int) < 2 ^ 63) :
  Meets (Sq.«reversed.__new__» ⟨[.type "reversed",.ref t],[]⟩) (fun _ R s=>IsTup s.heap t items/\R (.ok (.ret (.ref s.heap.objs.size))) { s with heap:=s.heap.push { cls:=.type "reversed",data:=.fields #[.ref t,.int ((items.size:Int) - 1) 0] },toks:=s.toks+1+1 }) :=
 .of_wp fun prog w A R s h=>by
  obtain⟨ht,h⟩:=h
  unfold Sq.«reversed.__new__»
  refine Ou (RL (Fd _) ?_)
  try dsimp only
  refine Ou (RL (a:=()) (by first | rfl | kernel_rfl) (Ou (RL (a:=()) (by first | rfl | kernel_rfl) ?_)))
  try dsimp only
  refine Ou (U0 ht.typeIs rG ?_)
  try dsimp only
  refine (show O3 _ _ ((isInstance (.ref t) (.type "dict") >>= _) >>= _) _ _ s from Ou (Ou (Uv ht.typeIs uh ?_)))
  rw[if_neg O2]
  refine Ou (U0 ht.typeIs slot_tuple_getitem.lookup ?_)
  dsimp only
  rw[if_pos (by decide+kernel)]
  refine Oz ?_
  rw[if_neg (by simp)]
  refine Ou (len_tuple ht hf ?_)
  refine Ou (RL (a:=some ((items.size:Nat):Int)) rfl ?_)
  dsimp only
  refine Ou ?_
  refine (show O3 _ _ (newObj (.type "reversed") (.fields #[.ref t,Qp ((items.size:Int) - 1)])) _ _ _ from Qg ?_)
  exact Oz ⟨_,rfl,h⟩
section
variable {prog:O9} {w:Qd} {A:Qc} {E:Value->Ov->Prop} {s:Ov}
theorem Ad {t:Addr} {items:Array Value} {Q:Value->Ov->Prop} (ht:IsTup s.heap t items) (hf:(items.size:Int) < 2 ^ 63)
  (h:Q (.ref s.heap.objs.size) { s with heap:=s.heap.push { cls:=.type "reversed",data:=.fields #[.ref t,.int ((items.size:Int) - 1) 0] },toks:=s.toks+1+1 }):O3 (O5 prog w) A (call (.type "reversed") [.ref t]) Q E s:=by
 refine callType_new yJ (by decide) (F.typeCall_reversed_1 _) (F.newCall_reversed_1 _) (fun obj=>F.args_object_init_2 obj _) F.entry_reversed_new (Ez t items hf) ⟨ht,?_⟩
 exact⟨⟨_,O6 _ rfl,rfl⟩,h⟩
theorem Fv {it t:Addr} {i:Nat} {items:Array Value} {x:Value} {Q:Option Value->Ov->Prop} (hit:RIt s.heap it t (i:Int)) (ht:IsTup s.heap t items) (hi:(i:Int) < 2 ^ 63) (hx:items[i]? = some x)
  (hQ:∀ h',RIt h' it t ((i:Int) - 1)->Sh it s.heap h'->Q (some x) { s with heap:=h',toks:=s.toks+1 }):O3 (O5 prog w) A (Sy (.ref it)) Q E s:=by
 have hT:s.TypeIs (.ref it) "reversed":=⟨_,hit,rfl⟩
 unfold Sy
 refine Ou (TV (Ry (name:=Um "__next__") hT cW (QR cW hT iR ?_ (jP _))))
 unfold Sq.«reversed.__next__»
 refine Ou (RL (a:=(Pg it,[])) rfl ?_)
 dsimp only
 refine Ou (RM hit rfl (x:=.ref t) rfl (Ou (RM hit rfl (x:=.int (i:Int) 0) rfl ?_)))
 dsimp only
 rw[if_neg (by lia)]
 refine Ou (U0 ht.typeIs slot_tuple_getitem.lookup ?_)
 rw[if_neg (by simp)]
 refine Ou (wpAny_mkInt ?_)
 have hsz:i < items.size:=(Array.getElem?_eq_some_iff.mp hx).1
 have hk:seqIndex? (i:Int) items.size=some i:=by
  have e0:¬ ((i:Int) < 0):=by lia
  unfold seqIndex?
  simp only[if_neg e0]
  simp [hsz]
 refine Ou (TV (getItem_tuple (s:={ s with toks:=s.toks+1 }) (show IsTup s.heap t items from ht) (by lia) hi hk hx ?_))
 dsimp only
 refine Ou (RM (s:={ s with toks:=s.toks+1 }) hit rfl (x:=.int (i:Int) 0) rfl ?_)
 dsimp only
 refine Ou (Q0 (s:={ s with toks:=s.toks+1 }) hit rfl (by simp) ?_)
 refine Oz ⟨x,rfl,Oz (hQ _ ?_ (QT ..))⟩
 exact PJ (Q4 (·.setIfInBounds 1 (Qp ((i:Int) - 1)))) hit rfl
theorem Hk {it t:Addr} {Q:Option Value->Ov->Prop} (hh:A.handled=none) (hit:RIt s.heap it t (-1)) (hQ:∀ h',Heap.ExtBut it s.heap h'->Q none { s with heap:=h' }):O3 (O5 prog w) A (Sy (.ref it)) Q E s:=by
 have hT:s.TypeIs (.ref it) "reversed":=⟨_,hit,rfl⟩
 unfold Sy
 refine Ou (TV (Ry (name:=Um "__next__") hT cW (QR cW hT iR ?_ (jP _))))
 unfold Sq.«reversed.__next__»
 refine Ou (RL (a:=(Pg it,[])) rfl ?_)
 dsimp only
 refine Ou (RM hit rfl (x:=.ref t) rfl (Ou (RM hit rfl (x:=.int (-1) 0) rfl ?_)))
 dsimp only
 rw[if_pos (by decide)]
 refine Ou (Ve ?_)
 refine Ou ?_
 refine (show O3 _ _ (setField (.ref it) 1 (Qp (-1)) >>= _) _ _ s from Ou (Q0 hit rfl (by simp) ?_))
 have g1:=PJ (Q4 (·.setIfInBounds 1 (Qp (-1)))) hit rfl
 refine Q0 g1 rfl (by simp) ?_
 refine Ou ?_
 refine (show O3 _ _ (newExc (.type "StopIteration") [] >>= _) _ _ _ from Ou ?_)
 simp only[newExc,newTuple]
 refine Ou (Qg ?_ (by size_fits))
 refine Ou (m:=Uk _ _) (RL (a:=QJ) (by first | rfl | (simp only[Uk]; rfl)) (Qg ?_ (by size_fits)))
 simp only[raiseNew]
 refine Ou (wpAny_handled ?_)
 first | rw[show A.in1.handled=none from hh] | rw[hh]
 refine Ou (Oz (wpAny_throw ?_))
 refine Ou (Uv (T:="StopIteration") (b:=true) ⟨_,O6 _ rfl,rfl⟩ isSubtype_stop (Oz ?_))
 exact hQ _ ((((QT ..).trans (QT ..)).extBut.push _).push _)
theorem wg {it t:Addr} {i:Int} {Q:Value->Ov->Prop} (hI:RIt s.heap it t i) (h:Q (.ref it) s):O3 (O5 prog w) A (V5 (.ref it)) Q E s:=by
 have hT:s.TypeIs (.ref it) "reversed":=⟨_,hI,rfl⟩
 refine WD hT jD (QR jD hT oW (show O3 _ _ (ret (.ref it)) _ _ s from ?_) (qy _))
 exact Oz ⟨_,rfl,"reversed",_,hT,cW.lookup,h⟩
end
def Itv (K:Py) (a:Addr) (n:Nat):It :=
 ⟨fun i H=>i < n/\∃ xs x,SqT K H a xs/\xs.length=n/\xs[n - 1 - i]? = some x,fun i H x H'=>H'=H/\∀ xs,SqT K H a xs->xs[n - 1 - i]? = some x,fun i _=>i=n⟩
theorem El {P:O9} {w:Qd} {K:Py} {tg:Expr} (a it:Addr) (n:Nat) (hn:(n:Int) < 2 ^ 63):Turn P w K tg (Itv K a n) [it] it (fun i h=>RIt h it a ((n:Int) - 1 - (i:Int))) where
 mem:=by simp
 obj:=fun i h st b hb=>by
  have e:b=it:=by simpa using hb
  subst e
  exact⟨_,st,fun v z=>by cases (show Data.fields _=Data.cell v from z)⟩
 keep:=fun i h h' st k=>k it (by simp) _ st
 item:=by
  intro X hP hw hK hc i pins s σ H E I hf st hg
  subst hP hw hK
  obtain⟨hin,xs,x,hq,hlen,hx⟩:=hg
  obtain⟨its,rv,p,hz⟩:=I.tuple hq
  obtain⟨u,hu,ru⟩:=rv.get hx
  obtain⟨f0,f1,f2,f3,f4,f5⟩:=hf it (by simp)
  have e:(n:Int) - 1 - (i:Int)=((n - 1 - i:Nat):Int):=by lia
  have st':RIt s.heap it a ((n - 1 - i:Nat):Int):=by rw[← e]; exact st
  refine Fv st' p (by lia) (x:=u) (by simpa using hu) fun h' st2 sb=>?_
  have e2:((n - 1 - i:Nat):Int) - 1=(n:Int) - 1 - ((i+1:Nat):Int):=by lia
  rw[e2] at st2
  have I1:Inv X pins σ H { s with heap:=h',toks:=s.toks+1 }:=I.turned (t':=s.toks+1) (fun b o hb e=>(sb.2 b hb).trans e) f0 f1 f3 f4 f5
  exact⟨u,rfl,En (s:={ s with heap:=h',toks:=s.toks+1 }) st2 rfl rfl (by decide) ⟨x,H,I1,ru,⟨rfl,fun ys hy=>by rw[I.rC hy hq]; exact hx⟩,st2,fun b hb=>(hf b hb).1⟩⟩
 done:=by
  intro X hP hw hK hc i pins s σ H E I hf st hg
  subst hP hw hK
  cases (show i=n from hg)
  obtain⟨f0,f1,f2,f3,f4,f5⟩:=hf it (by simp)
  have st':RIt s.heap it a (-1):=by
   have e:(n:Int) - 1 - (n:Int) = -1:=by lia
   rw[← e]; exact st
  exact Hk (I.ok.hd hc) st' fun h' eb=>⟨rfl,I.turned (t':=s.toks) (fun b o hb e=>eb b o hb e) f0 f1 f3 f4 f5⟩
 self:=fun _ _ _ _ _ st h=>wg st h
def NB (K:Py) (ta:TA):TI:=fun σ H R=>ta σ H fun vs H1=>∃ a xs,vs=[.ref a]/\SqT K H1 a xs/\R (Itv K a xs.length) H1
theorem Jr {X:Cx} {tg:Expr} {a:Expr} {ta:TA} {p pos:Ut} (hg:Gl X "reversed") (hm:X.mg "reversed" = none) (ha:PA X [a] ta) (hs:Pz [a] X.env=[(false,QZ a X.env)]:=by rfl) :
  PI X tg (.Call (.Name "reversed" p) [a] [] pos) (NB X.K ta):=by
 intro pins s σ H R I h
 refine Call_ (jO I hg hm boot_reversed (SX (thn (ha pos pins s σ H _ I h) fun us s1 ⟨vs,H1,I1,r1,q1⟩=>?_) hs rfl))
 obtain⟨c,xs,e,hx,q⟩:=q1
 subst e
 obtain⟨u1,rfl,ru1⟩:=vals1 r1
 cases ru1
 obtain⟨its,rv,tp,hz⟩:=I1.tuple hx
 have hl:=rv.length
 have hn:=pB
 have hsz:((its.toArray.size:Nat):Int) < 2 ^ 63:=by rw[Pj,← hl]; lia
 refine Ad tp hsz ?_
 have g:RIt (s1.heap.push { cls:=.type "reversed",data:=.fields #[.ref c,.int ((its.toArray.size:Int) - 1) 0] }) s1.heap.objs.size c ((xs.length:Int) - 1 - ((0:Nat):Int)):=by
  have e:((xs.length:Int) - 1 - ((0:Nat):Int))=(its.toArray.size:Int) - 1:=by rw[Pj,← hl]; lia
  rw[e]
  exact O6 _ rfl
 refine wg g ⟨s1.heap.objs.size,[s1.heap.objs.size],_,_,H1,rfl,I1.kept (t':=s1.toks+1+1) fun b o e=>Ox _ e,El c _ xs.length (by lia),g,fun b hb=>?_,q⟩
 have e:b=s1.heap.objs.size:=by simpa using hb
 subst e
 exact I1.Jm (OJ _) (I1.hok.fresh (OJ _))
theorem Hv {K:Py} {a:Addr} {xs:List V} {g:TG} {tb:TS} {D:Ends} {σ:St} {H:Hp} (Pv:Nat->St->Hp->Prop) (h0:Pv 0 σ H) (hl:∀ i σ H,i<=xs.length->Pv i σ H->SqT K H a xs)
  (hs:∀ i x σ H,i < xs.length->xs[xs.length - 1 - i]? = some x->Pv i σ H->g x σ H fun σ2 H2=>tb { D with nx:=Pv (i+1),ct:=Pv (i+1),bk:=D.nx } σ2 H2) (hd:∀ σ H,Pv xs.length σ H->D.nx σ H) :
  ∃ W:Nat->Nat->St->Hp->Prop,(∃ m,W 0 m σ H)/\∀ i m σ H,W i m σ H →
   ((Itv K a xs.length).stop i H/\D.nx σ H)∨((Itv K a xs.length).go i H/\∃ N:St->Hp->Prop,(∀ σ' H',N σ' H'->∃ m',m' < m/\W (i+1) m' σ' H')/\∀ x H',(Itv K a xs.length).yld i H x H'->g x σ H' fun σ2 H2=>tb { D with nx:=N,ct:=N,bk:=D.nx } σ2 H2):=by
 refine⟨fun i m σ H=>m=xs.length - i/\i<=xs.length/\Pv i σ H,⟨xs.length,by simp,Ql _,h0⟩,?_⟩
 rintro i m σ H ⟨rfl,hi,p⟩
 have q1:=hl i σ H hi p
 by_cases hlt:i < xs.length
 ·refine .inr ⟨⟨hlt,xs,xs[xs.length - 1 - i],q1,rfl,PB (by lia)⟩,Pv (i+1),fun σ' H' p'=>⟨xs.length - (i+1),by lia,rfl,hlt,p'⟩,fun v H' y=>?_⟩
  obtain⟨rfl,hx⟩:=y
  exact hs i v σ _ hlt (hx xs q1) p
 ·have e:i=xs.length:=by lia
  subst e
  exact .inl ⟨rfl,hd σ H p⟩
end L2
namespace L2
open PySem PySem.Spec PyProof.Rows
section
variable {prog:O9} {w:Qd} {A:Qc} {E:Value->Ov->Prop} {s:Ov}
end
end L2
namespace L2
open PySem PySem.Spec PyProof.Rows
end L2
namespace L2
open PySem PySem.Spec PyProof.Rows
section
variable {X:Cx} {k:Nat}
end
end L2
namespace L2
open PySem PySem.Spec PyProof.Rows
theorem FQ {X:Cx} {tg l:Expr} {tl:TE} (K:Py) (hK:X.K=K) (hl:PE X l tl):PI X tg l (GZ K tl):=by
 subst hK
 exact dh hl
end L2
namespace L2
open PySem PySem.Spec PyProof.Rows
section
variable {prog:O9} {w:Qd} {A:Qc} {E:Value->Ov->Prop} {s:Ov}
end
end L2
namespace L2
open PySem PySem.Spec PyProof.Rows
end L2
namespace L2
open PySem PySem.Spec PyProof.Rows
section
variable {X:Cx}
end
end L2
namespace L2
open PySem PySem.Spec PyProof.Rows
end L2
namespace L2
open PySem PySem.Spec PyProof.Rows
section
variable {X:Cx}
end
end L2
namespace L2
open PySem PySem.Spec PyProof.Rows
theorem vf (elt t0 i0 t1 i1:Expr) (scope:RD) (pos:Ut) (it acc:Value) (env:Vb) :
  compTurn (.ListComp elt [⟨t0,i0,[],0⟩,⟨t1,i1,[],0⟩] scope pos) 0 it acc env=(do
   Tu i0.pos
   match ← Sy it with
   | none=>pure (.done .next)
   | some v =>
    RP t0 it v
    VF t0 env v
    let x ← QZ i1 env
    Tu i1.pos
    let x ← Rz i1 env x
    let _ ← runOwn (.compStart (.ListComp elt [⟨t0,i0,[],0⟩,⟨t1,i1,[],0⟩] scope pos) 1 (← T6 [x] (V5 x)) acc env) env
    again (.compLoop (.ListComp elt [⟨t0,i0,[],0⟩,⟨t1,i1,[],0⟩] scope pos) 0 it acc env)):=by rfl
theorem uT (elt t0 i0 t1 i1:Expr) (scope:RD) (pos:Ut) (it acc:Value) (env:Vb) :
  compTurn (.ListComp elt [⟨t0,i0,[],0⟩,⟨t1,i1,[],0⟩] scope pos) 1 it acc env=(Tu i1.pos >>= fun _=>Sy it >>= fun r=>match r with
   | none=>pure (.done .next)
   | some v=>RP t1 it v >>= fun _=>VF t1 env v >>= fun _ =>
    (QZ elt env >>= fun x=>call (.builtin "list.append") [acc,x] >>= fun _=>pure ()) >>= fun _ =>
     again (.compLoop (.ListComp elt [⟨t0,i0,[],0⟩,⟨t1,i1,[],0⟩] scope pos) 1 it acc env)):=by rfl
section
variable {prog:O9} {w:Qd} {A:Qc} {R:Vg->Ov->Prop} {s:Ov} {elt t0 i0 t1 i1:Expr} {scope:RD} {pos:Ut} {it acc:Value} {env:Vb}
theorem sY (h0:QF (O5 prog w) A (.compLoop (.ListComp elt [⟨t0,i0,[],0⟩,⟨t1,i1,[],0⟩] scope pos) 1 it acc env) R s)
  (h:O3 (O5 prog w) A (V5 it) (fun it' s'=>QF (O5 prog w) A (.compLoop (.ListComp elt [⟨t0,i0,[],0⟩,⟨t1,i1,[],0⟩] scope pos) 1 it' acc env) R s') (notedBy (O5 prog w) A env fun x s'=>R (.error x) s') s) :
  QF (O5 prog w) A (.compStart (.ListComp elt [⟨t0,i0,[],0⟩,⟨t1,i1,[],0⟩] scope pos) 1 it acc env) R s:=by
 refine VP ?_
 show O3 _ _ ((compStart (.ListComp elt [⟨t0,i0,[],0⟩,⟨t1,i1,[],0⟩] scope pos) 1 it acc env).onRaise (fun x=>do U9 x env; Tu theWindowsPlace)) _ _ s
 refine wpAny_notedAt ?_
 unfold compStart
 show O3 _ _ (ask >>= _) _ _ s
 refine Ou (R3 (wpAny_ite ?_))
 split
 ·first
   | exact Ou (Oz (Oz (And.intro rfl h0)))
   | exact Oz (And.intro rfl h0)
 ·first
   | exact Ou (Ve (Ou (RK (Ou (Qm h (fun it' s' h'=>Oz (And.intro rfl h')) fun _ _ x=>x)))))
   | (refine Ou (Ve ?_); show O3 _ _ (Tu i1.pos >>= _) _ _ s; exact Ou (RK (Ou (Qm h (fun it' s' h'=>Oz (And.intro rfl h')) fun _ _ x=>x))))
abbrev noX:Value->Ov->Prop:=fun _ _=>False
theorem fC {E:Value->Ov->Prop} (x:Value) (s':Ov) (z:noX x s'):E x s':=z.elim
theorem uv (hs1:∀ x,Rz i1 env x=pure x) (I:Nat->Ov->Prop)
  (turn:∀ n s,I n s->O3 (O5 prog w) A (Sy it) (fun r s₁=>match r with
   | none=>R (.ok .next) s₁
   | some v=>O3 (O5 prog w) A (RP t0 it v) (fun _ s₀=>O3 (O5 prog w) A (VF t0 env v) (fun _ s₂=>O3 (O5 prog w) A (QZ i1 env) (fun x s₃=>O3 (O5 prog w) A (V5 x) (fun it1 s₄ =>
     QF (O5 prog w) A (.compStart (.ListComp elt [⟨t0,i0,[],0⟩,⟨t1,i1,[],0⟩] scope pos) 1 it1 acc env) (fun r s'=>match r with | .ok _=>∃ m,m < n/\I m s' | .error _=>False) s₄) noX s₃) noX s₂) noX s₀) noX s₁) noX s)
  (n:Nat) (h:I n s):QF (O5 prog w) A (.compLoop (.ListComp elt [⟨t0,i0,[],0⟩,⟨t1,i1,[],0⟩] scope pos) 0 it acc env) R s:=by
 refine codeAny_loop rfl I (fun n s hI=>?_) n h
 refine (show O3 (O5 prog w) A ((compTurn (.ListComp elt [⟨t0,i0,[],0⟩,⟨t1,i1,[],0⟩] scope pos) 0 it acc env).onRaise (fun x=>do U9 x env; Xw x)) _ _ s from wpAny_noted ?_)
 rw[vf]
 refine Ou (RK (Ou (Qm (turn n s hI) (fun r s₁ h₁=>?_) fC)))
 cases r with
 | none=>exact Oz h₁
 | some v =>
  refine Ou (Qm h₁ (fun _ s₀ h₀=>Ou (Qm h₀ (fun _ s₂ h₂=>Ou (Qm h₂ (fun x s₃ h₃=>Ou (RK (Ou (RL (hs1 x) (Ou (QC (Qm h₃ (fun it1 s₄ h₄=>?_) fC))))))) fC)) fC)) fC)
  refine Ou (wpAny_runOwn (RG h₄ fun r s' hr=>?_))
  cases r with
  | ok f=>exact Oz ⟨rfl,hr⟩
  | error e=>exact hr.elim
theorem uJ (I:Nat->Ov->Prop)
  (turn:∀ n s,I n s->O3 (O5 prog w) A (Sy it) (fun r s₁=>match r with
   | none=>R (.ok .next) s₁
   | some v=>O3 (O5 prog w) A (RP t1 it v) (fun _ s₀=>O3 (O5 prog w) A (VF t1 env v) (fun _ s₂=>O3 (O5 prog w) A (QZ elt env) (fun x s₄=>O3 (O5 prog w) A (call (.builtin "list.append") [acc,x]) (fun _ s₅=>∃ m,m < n/\I m s₅) noX s₄) noX s₂) noX s₀) noX s₁) noX s)
  (n:Nat) (h:I n s):QF (O5 prog w) A (.compLoop (.ListComp elt [⟨t0,i0,[],0⟩,⟨t1,i1,[],0⟩] scope pos) 1 it acc env) R s:=by
 refine codeAny_loop rfl I (fun n s hI=>?_) n h
 refine (show O3 (O5 prog w) A ((compTurn (.ListComp elt [⟨t0,i0,[],0⟩,⟨t1,i1,[],0⟩] scope pos) 1 it acc env).onRaise (fun x=>do U9 x env; Xw x)) _ _ s from wpAny_noted ?_)
 rw[uT]
 refine Ou (RK (Ou (Qm (turn n s hI) (fun r s₁ h₁=>?_) fC)))
 cases r with
 | none=>exact Oz h₁
 | some v =>
  refine Ou (Qm h₁ (fun _ s₀ h₀=>Ou (Qm h₀ (fun _ s₂ h₂=>Ou (Ou (Qm h₂ (fun x s₄ h₄=>Ou (Qm h₄ (fun _ s₅ h₅=>Oz (Oz ⟨rfl,h₅⟩)) fC)) fC))) fC)) fC)
end
def lW (D:Addr) (σ0:St) (J:It) (g:TG) (wi1:TI) (g1:TG) (te:TE) (H1:Hp) (Q:Hp->Prop):Prop :=
 ∃ W:Nat->Nat->List V->St->Hp->Prop,(∃ m,W 0 m [] σ0 (upd H1 D (.lst []))) ∧
  ∀ i m ys σ' H',W i m ys σ' H'->((J.stop i H'/\Q H')∨(J.go i H'/\∃ N:List V->St->Hp->Prop,(∀ zs σ2 H2,N zs σ2 H2->∃ m',m' < m/\W (i+1) m' zs σ2 H2) ∧
   ∀ x H2,J.yld i H' x H2->g x σ' H2 fun σ3 H3=>wi1 σ3 H3 fun J1 H4 =>
    ∃ Y:Nat->Nat->List V->St->Hp->Prop,(∃ m,Y 0 m ys σ3 H4) ∧
     ∀ j m zs σ5 H5,Y j m zs σ5 H5->((J1.stop j H5/\N zs σ5 H5)∨(J1.go j H5/\∃ M:List V->St->Hp->Prop,(∀ zs σ6 H6,M zs σ6 H6->∃ m',m' < m/\Y (j+1) m' zs σ6 H6) ∧
      ∀ y H6,J1.yld j H5 y H6->g1 y σ5 H6 fun σ7 H7=>te σ7 H7 fun v H8=>H8 D=some (.lst zs)/\zs.length < sizeLine/\M (zs++[v]) σ7 (upd H8 D (.lst (zs++[v])))))))
def JL (n:Nat) (cap:List Nat) (wi:TI) (g:TG) (wi1:TI) (g1:TG) (te:TE):TE:=fun σ H Q=>wi σ H fun J H1=>∀ D,H1 D=none->lW D (GQ n cap σ) J g wi1 g1 te H1 fun H2=>Q (.ref D) H2
section
variable {X:Cx} {elt t0 i0 t1 i1:Expr} {scope:RD} {pos:Ut} {L F:List Px} {cap:List Nat} {wi wi1:TI} {g g1:TG} {te:TE}
theorem Ac {cl:List (Px × Addr)} {pins:List (Addr × Rx)} {σ:St} {s2:Ov} {H2:Hp} {it:Addr} {fp:List Addr} {tn:Nat->Qo->Prop} {J:It} {use:Option (Value->Sem Unit)} {QQ:Value->Ov->Prop} {Z:Hp->Prop} {E:Value->Ov->Prop}
  (hc:X.calm=true) (ok:lA X scope F cap)
  (sub:∀ n c,cl.lookup n=some c->X.env.cells.lookup n=some c) (all:∀ y∈scope.names,y.2 = .free->∃ c,cl.lookup y.1=some c)
  (hg:∀ cl C s H fp,PG (bA X scope cl C (L++F) s H fp) t0 g) (hi1:∀ cl C s H fp,PI (bA X scope cl C (L++F) s H fp) t1 i1 wi1) (hg1:∀ cl C s H fp,PG (bA X scope cl C (L++F) s H fp) t1 g1) (he:∀ cl C s H fp,PE (bA X scope cl C (L++F) s H fp) elt te)
  (hs1:∀ (env:Vb) x,Rz i1 env x=pure x)
  (I2:Inv X pins σ H2 s2) (T:Turn X.prog X.w X.K t0 J fp it tn) (st2:tn 0 s2.heap) (f2:∀ b∈fp,vZ X pins H2 b)
  (q2:lW s2.heap.objs.size (GQ L.length cap σ) J g wi1 g1 te H2 Z)
  (fin:∀ (C:Addr) (s':Ov) (H':Hp),Z H'->Inv X pins σ H' s'->(∃ m,s'.heap.Ns C m)->H' C=none->C≠X.env.locals->X.s₀.heap.objs.size<=C->(∀ x c,X.env.cells.lookup x=some c->c≠C)->(∀ p∈X.pn++pins,p.1≠C) →
   Vw (O5 X.prog X.w) X.A E use QQ (.ref s2.heap.objs.size) C (.ok .next) s') :
  O3 (O5 X.prog X.w) X.A (newList []) (fun acc s₃=>O3 (O5 X.prog X.w) X.A (newFunctionEnv scope X.env.globals cl [] X.env.qual none .none (some X.env)) (fun cenv s₄ =>
   QF (O5 X.prog X.w) X.A (.compStart (.ListComp elt [⟨t0,i0,[],0⟩,⟨t1,i1,[],0⟩] scope pos) 0 (.ref it) acc { cenv with scope:=relabel scope X.env }) (Vw (O5 X.prog X.w) X.A E use QQ acc cenv.locals) s₄) E s₃) E s2:=by
 have hD:H2 s2.heap.objs.size=none:=I2.fresh
 refine Qg (V4 ok.cell (by intro y hy; simp at hy) (fun h₁ hns₁ hsb₁=>?_) ok.kind)
 dsimp only at hns₁ hsb₁ ⊢
 have I3:Inv X pins σ (upd H2 s2.heap.objs.size (.lst [])) { s2 with heap:=s2.heap.push { cls:=.type "list",data:=.seq ([]:List Value).toArray } }:=I2.Mt (t':=s2.toks) (ys:=[]) (its:=[]) .nil (Ql _)
 have blt:∀ b∈fp,b < s2.heap.objs.size:=fun b hb=>let ⟨_,e,_⟩:=T.obj 0 _ st2 b hb; O4 e
 have szC:(s2.heap.push { cls:=.type "list",data:=.seq ([]:List Value).toArray }).objs.size=s2.heap.objs.size+1:=QX _ _
 generalize hs3:({ s2 with heap:=s2.heap.push { cls:=.type "list",data:=.seq ([]:List Value).toArray } }:Ov)=s3 at I3
 have es3:s3.heap=s2.heap.push { cls:=.type "list",data:=.seq ([]:List Value).toArray }:=by rw[← hs3]
 have eos:s3.os=s2.os:=by rw[← hs3]
 have fok:∀ b∈fp,vZ X pins (upd H2 s2.heap.objs.size (.lst [])) b/\b < s3.heap.objs.size:=fun b hb=>by
  obtain⟨f0,fr⟩:=f2 b hb
  refine⟨⟨by rw[aN (Pa (blt b hb))]; exact f0,fr⟩,?_⟩
  rw[es3,szC]
  exact QB (blt b hb)
 have hkp:∀ b o,s3.heap.get? b=some o->h₁.get? b=some o:=fun b o e=>by
  have e':b < s3.heap.objs.size:=O4 e
  rw[es3] at e e'
  exact (hsb₁.2 b (Pa e')).trans (Ox _ e)
 have hns:h₁.Ns s3.heap.objs.size fun _=>none:=by
  rw[es3]
  exact hns₁
 have I4:∀ tk,Inv (bA X scope cl s3.heap.objs.size (L++F) s3 (upd H2 s2.heap.objs.size (.lst [])) fp) [] (GQ L.length cap σ) (upd H2 s2.heap.objs.size (.lst [])) { s3 with heap:=h₁,toks:=tk }:=fun tk =>
  pA (L:=L) ok I3 fok sub all hns hkp
 have stat:∀ {H':Hp},(∀ b∈fp,H' b=none)->∀ b∈fp,vZ (bA X scope cl s3.heap.objs.size (L++F) s3 (upd H2 s2.heap.objs.size (.lst [])) fp) [] H' b:=fun {H'} hn b hb=>by
  obtain⟨⟨_,g1,g2,g3,g4,g5⟩,g6⟩:=fok b hb
  exact⟨hn b hb,Pa g6,uY I3 g1 g2,.inl hb,fun x c e=>g4 x c (sub x c e),fun p hp=>absurd (show p∈([]:List (Addr × Rx)) from hp) (by simp)⟩
 have loop:∀ tk,QF (O5 X.prog X.w) X.A (.compLoop (.ListComp elt [⟨t0,i0,[],0⟩,⟨t1,i1,[],0⟩] scope pos) 0 (.ref it) (.ref s2.heap.objs.size) (WM scope cl s3.heap.objs.size X.env))
   (Vw (O5 X.prog X.w) X.A E use QQ (.ref s2.heap.objs.size) s3.heap.objs.size) { s3 with heap:=h₁,toks:=tk }:=fun tk=>by
  obtain⟨W,⟨m0,w0⟩,turn⟩:=q2
  have st3:tn 0 h₁:=T.keep 0 _ _ st2 fun b hb o e=>hkp b o (by rw[es3]; exact Ox _ e)
  refine uv (hs1 _) (fun n s'=>∃ i ys σ' H',Inv (bA X scope cl s3.heap.objs.size (L++F) s3 (upd H2 s2.heap.objs.size (.lst [])) fp) [] σ' H' s'/\tn i s'.heap/\(∀ b∈fp,H' b=none)/\W i n ys σ' H') ?_ m0
   ⟨0,[],_,_,I4 tk,st3,fun b hb=>(fok b hb).1.1,w0⟩
  rintro n s5 ⟨i,ys,σ5,H5,I5,st5,fr5,w5⟩
  rcases turn i n ys σ5 H5 w5 with⟨stop,qz⟩ | ⟨go,N,hN,step⟩
  ·refine thn (T.done (bA X scope cl s3.heap.objs.size (L++F) s3 (upd H2 s2.heap.objs.size (.lst [])) fp) rfl rfl rfl hc i [] s5 σ5 H5 _ I5 (stat fr5) st5 stop) fun r s6 ⟨hr,I6⟩=>?_
   subst hr
   have un:Un (frs X.stack) fp H2 H5 s2.heap s6.heap:=by
    have u1:Un (frs X.stack) fp H2 (upd H2 s2.heap.objs.size (.lst [])) s2.heap s3.heap:=by
     rw[es3]
     exact Un.laid (fun _ _ q=>Ox _ q) (OJ _) hD
    exact u1.trans I6.base
   have J1:Inv X pins σ H5 s6:=I2.call' (I6.os.trans eos) un I6.hok I6.bare fun b hb=>by
    obtain⟨_,g1,_,g3,g4,g5⟩:=f2 b hb
    exact⟨g3,g1,g4,g5⟩
   have hC:s2.heap.objs.size<=s3.heap.objs.size:=by rw[es3,szC]; exact Rm _
   obtain⟨m,hm,_⟩:=I6.loc
   refine fin s3.heap.objs.size s6 H5 qz J1 ⟨m,hm⟩ I6.free (Tz (OD I2.lt hC)) (PX I2.sz hC) (fun x c e z=>?_) (fun p hp z=>?_)
   ·obtain⟨v,q⟩:=I2.cell x c e
    exact absurd (OD q.lt (by rw[z]; exact hC)) (Qu _)
   ·exact absurd (OD (O4 (I2.pin p hp).1) (by rw[z]; exact hC)) (Qu _)
  ·refine thn (T.item (bA X scope cl s3.heap.objs.size (L++F) s3 (upd H2 s2.heap.objs.size (.lst [])) fp) rfl rfl rfl hc i [] s5 σ5 H5 _ I5 (stat fr5) st5 go) fun r s6 ⟨u,hr,h6⟩=>?_
   subst hr
   refine thn h6 fun _ s7 ⟨x,H7,I7,r7,y7,st7,fr7⟩=>?_
   have I7':=I7.pinned (stat fr7) (T.obj _ _ st7)
   refine thn (hg _ _ _ _ _ _ s7 σ5 H7 x u _ I7' r7 (step x H7 y7)) fun _ s8 ⟨σ8,H8,I8,q8⟩=>?_
   have again:∀ {σ9:St} {H9:Hp} {s9:Ov} {zs:List V},Inv (bA X scope cl s3.heap.objs.size (L++F) s3 (upd H2 s2.heap.objs.size (.lst [])) fp) ([]++lD fp s7.heap) σ9 H9 s9->N zs σ9 H9 →
     ∃ m,m < n/\∃ i ys σ' H',Inv (bA X scope cl s3.heap.objs.size (L++F) s3 (upd H2 s2.heap.objs.size (.lst [])) fp) [] σ' H' s9/\tn i s9.heap/\(∀ b∈fp,H' b=none)/\W i m ys σ' H':=fun {σ9 H9 s9 zs} I9 n9=>by
    obtain⟨m',hm,w9⟩:=hN zs σ9 H9 n9
    refine⟨m',hm,i+1,zs,σ9,H9,I9.iC,T.keep _ _ _ st7 fun b hb o e=>(I9.pin (b,o) (PQ _ (PQ _ (cT hb e)))).1,fun b hb=>?_,w9⟩
    obtain⟨o,e,d⟩:=T.obj _ _ st7 b hb
    exact (I9.pin (b,o) (PQ _ (PQ _ (cT hb e)))).2.1
   refine thn (hi1 _ _ _ _ _ _ s8 σ8 H8 _ I8 q8) fun v1 s9 h9=>thn h9 fun itv s10 h10=>?_
   obtain⟨it1,fp1,tn1,J1,H10,e,I10,T1,st10,f10,Y,⟨m1,y0⟩,turn1⟩:=h10
   subst e
   have stat1:∀ {H':Hp},(∀ b∈fp1,H' b=none)->∀ b∈fp1,vZ (bA X scope cl s3.heap.objs.size (L++F) s3 (upd H2 s2.heap.objs.size (.lst [])) fp) ([]++lD fp s7.heap) H' b:=fun hn b hb=>⟨hn b hb,(f10 b hb).2⟩
   have loop1:QF (O5 X.prog X.w) X.A (.compLoop (.ListComp elt [⟨t0,i0,[],0⟩,⟨t1,i1,[],0⟩] scope pos) 1 (.ref it1) (.ref s2.heap.objs.size) (WM scope cl s3.heap.objs.size X.env))
     (fun r s'=>match r with | .ok _=>∃ m,m < n/\∃ i ys σ' H',Inv (bA X scope cl s3.heap.objs.size (L++F) s3 (upd H2 s2.heap.objs.size (.lst [])) fp) [] σ' H' s'/\tn i s'.heap/\(∀ b∈fp,H' b=none)/\W i m ys σ' H' | .error _=>False) s10:=by
    refine uJ (fun k s'=>∃ j zs σ' H',Inv (bA X scope cl s3.heap.objs.size (L++F) s3 (upd H2 s2.heap.objs.size (.lst [])) fp) ([]++lD fp s7.heap) σ' H' s'/\tn1 j s'.heap/\(∀ b∈fp1,H' b=none)/\Y j k zs σ' H') ?_ m1
     ⟨0,ys,_,_,I10,st10,fun b hb=>(f10 b hb).1,y0⟩
    rintro k s11 ⟨j,zs,σ11,H11,I11,st11,fr11,w11⟩
    rcases turn1 j k zs σ11 H11 w11 with⟨stop1,n1⟩ | ⟨go1,M,hM,step1⟩
    ·refine thn (T1.done (bA X scope cl s3.heap.objs.size (L++F) s3 (upd H2 s2.heap.objs.size (.lst [])) fp) rfl rfl rfl hc j _ s11 σ11 H11 _ I11 (stat1 fr11) st11 stop1) fun r s12 ⟨hr,I12⟩=>?_
     subst hr
     exact again I12 n1
    ·refine thn (T1.item (bA X scope cl s3.heap.objs.size (L++F) s3 (upd H2 s2.heap.objs.size (.lst [])) fp) rfl rfl rfl hc j _ s11 σ11 H11 _ I11 (stat1 fr11) st11 go1) fun r s12 ⟨u1,hr,h12⟩=>?_
     subst hr
     refine thn h12 fun _ s13 ⟨x1,H13,I13,r13,y13,st13,fr13⟩=>?_
     have I13':=I13.pinned (stat1 fr13) (T1.obj _ _ st13)
     refine thn (hg1 _ _ _ _ _ _ s13 σ11 H13 x1 u1 _ I13' r13 (step1 x1 H13 y13)) fun _ s14 ⟨σ14,H14,I14,q14⟩=>?_
     refine thn (he _ _ _ _ _ _ s14 σ14 H14 _ I14 q14) fun y s15 ⟨yv,H15,I15,r15,e15,z15,n15⟩=>?_
     refine thn (fH _ s15 σ14 H15 (.ref s2.heap.objs.size) [yv] (.ref s2.heap.objs.size) [y] (fun _ H'=>M (zs++[yv]) σ14 H') I15 rfl (.cons r15 .nil) ⟨_,zs,yv,rfl,rfl,e15,z15,n15⟩) fun _ s16 ⟨_,H16,I16,_,n16⟩=>?_
     obtain⟨m',hm,w16⟩:=hM _ _ _ n16
     refine⟨m',hm,j+1,_,σ14,H16,I16.iC,T1.keep _ _ _ st13 fun b hb o e=>(I16.pin (b,o) (PQ _ (PQ _ (cT hb e)))).1,fun b hb=>?_,w16⟩
     obtain⟨o,e,d⟩:=T1.obj _ _ st13 b hb
     exact (I16.pin (b,o) (PQ _ (PQ _ (cT hb e)))).2.1
   exact sY loop1 (T1.self _ 0 _ _ _ st10 loop1)
 have eC:(s2.heap.push { cls:=.type "list",data:=.seq ([]:List Value).toArray }).objs.size=s3.heap.objs.size:=by rw[es3]
 have goal:∀ tk,QF (O5 X.prog X.w) X.A (.compStart (.ListComp elt [⟨t0,i0,[],0⟩,⟨t1,i1,[],0⟩] scope pos) 0 (.ref it) (.ref s2.heap.objs.size) (WM scope cl s3.heap.objs.size X.env))
   (Vw (O5 X.prog X.w) X.A E use QQ (.ref s2.heap.objs.size) s3.heap.objs.size) { s3 with heap:=h₁,toks:=tk }:=fun tk =>
  codeAny_compStart_list (loop tk) (T.self _ 0 _ _ _ (T.keep 0 _ _ st2 fun b hb o e=>hkp b o (by rw[es3]; exact Ox _ e)) (loop tk))
 have g0:=goal (s2.toks+([]:List (Px × Value)).length)
 subst hs3
 exact g0
theorem Fp (hc:X.calm=true) (ok:lA X scope F cap) (hi:PI X t0 i0 wi)
  (hg:∀ cl C s H fp,PG (bA X scope cl C (L++F) s H fp) t0 g) (hi1:∀ cl C s H fp,PI (bA X scope cl C (L++F) s H fp) t1 i1 wi1) (hg1:∀ cl C s H fp,PG (bA X scope cl C (L++F) s H fp) t1 g1) (he:∀ cl C s H fp,PE (bA X scope cl C (L++F) s H fp) elt te)
  (hs:∀ x,Rz i0 X.env x=pure x:=by intro _; rfl) (hs1:∀ (env:Vb) x,Rz i1 env x=pure x:=by intro _ _; rfl):PE X (.ListComp elt [⟨t0,i0,[],0⟩,⟨t1,i1,[],0⟩] scope pos) (JL L.length cap wi g wi1 g1 te):=by
 intro pins s σ H Q I h
 obtain⟨cl,e1,e2,e3⟩:=qM (scope:=scope) (env:=X.env) (fun y hy hf=>I.ok.has _ (ok.fr y hy hf))
 rw[eval_ListComp]
 refine Vq (use:=none) rfl hs e1 ok.kind ok.nms (thn (hi pins s σ H _ I h) fun v s1 h1=>thn h1 fun itv s2 h2=>?_)
 obtain⟨it,fp,tn,J,H2,e,I2,T,st2,f2,q2⟩:=h2
 subst e
 refine Ac (Z:=fun H'=>Q (.ref s2.heap.objs.size) H') hc ok e2 e3 hg hi1 hg1 he hs1 I2 T st2 f2 (q2 _ I2.fresh) fun C s' H' z J m hCf hCl hCs hCc hCp=>?_
 obtain⟨m,hm⟩:=m
 exact⟨m,hm,fun h' hs'=>⟨.ref _,H',J.turned (t':=s'.toks) (fun b o hb e=>(hs'.2 b hb).trans e) hCf hCl (.inr hCs) hCc hCp,rfl,z⟩⟩
end
end L2
namespace L2
open PySem PySem.Spec PyProof.Rows
section
variable {X:Cx}
end
end L2
namespace L2
open PySem PySem.Spec PyProof.Rows
def In2 (D:Addr) (J1:It) (g1:TG) (te:TE) (N:List V->St->Hp->Prop) (ys:List V) (σ3:St) (H4:Hp):Prop :=
 ∃ Y:Nat->Nat->List V->St->Hp->Prop,(∃ m,Y 0 m ys σ3 H4) ∧
  ∀ j m zs σ5 H5,Y j m zs σ5 H5->((J1.stop j H5/\N zs σ5 H5)∨(J1.go j H5/\∃ M:List V->St->Hp->Prop,(∀ zs σ6 H6,M zs σ6 H6->∃ m',m' < m/\Y (j+1) m' zs σ6 H6) ∧
   ∀ y H6,J1.yld j H5 y H6->g1 y σ5 H6 fun σ7 H7=>te σ7 H7 fun v H8=>H8 D=some (.lst zs)/\zs.length < sizeLine/\M (zs++[v]) σ7 (upd H8 D (.lst (zs++[v])))))
theorem Ce {K:Py} {a D:Addr} {xs:List V} {g:TG} {wi1:TI} {g1:TG} {te:TE} {H1:Hp} {Q:Hp->Prop} {σ0:St} (Pv:Nat->List V->St->Hp->Prop) (h0:Pv 0 [] σ0 (upd H1 D (.lst [])))
  (hl:∀ i ys σ H,i<=xs.length->Pv i ys σ H->SqT K H a xs)
  (hs:∀ i ys x σ H,xs[i]? = some x->Pv i ys σ H->g x σ H fun σ3 H3=>wi1 σ3 H3 fun J1 H4=>In2 D J1 g1 te (Pv (i+1)) ys σ3 H4)
  (hd:∀ ys σ H,Pv xs.length ys σ H->Q H):lW D σ0 (Itt K a) g wi1 g1 te H1 Q:=by
 refine⟨fun i m ys σ H=>m=xs.length - i/\i<=xs.length/\Pv i ys σ H,⟨xs.length,by simp,Ql _,h0⟩,?_⟩
 rintro i m ys σ H ⟨rfl,hi,p⟩
 have q:=hl i ys σ H hi p
 by_cases hlt:i < xs.length
 ·refine .inr ⟨⟨xs,xs[i],q,by simp [hlt]⟩,Pv (i+1),fun zs σ' H' p'=>⟨xs.length - (i+1),by lia,rfl,hlt,p'⟩,fun x H' y=>?_⟩
  obtain⟨e,y⟩:=y
  subst e
  exact hs i ys x σ _ (y xs q) p
 ·have e:i=xs.length:=by lia
  subst e
  exact .inl ⟨⟨xs,q,OJ _⟩,hd ys σ H p⟩
theorem Es {K:Py} {b D:Addr} {ws:List V} {g1:TG} {te:TE} {N:List V->St->Hp->Prop} {ys:List V} {σ3:St} {H4:Hp} (Pw:Nat->List V->St->Hp->Prop) (h0:Pw 0 ys σ3 H4)
  (hl:∀ j zs σ H,j<=ws.length->Pw j zs σ H->SqL K H b ws)
  (hs:∀ j zs y σ H,ws[j]? = some y->Pw j zs σ H->g1 y σ H fun σ7 H7=>te σ7 H7 fun v H8=>H8 D=some (.lst zs)/\zs.length < sizeLine/\Pw (j+1) (zs++[v]) σ7 (upd H8 D (.lst (zs++[v]))))
  (hd:∀ zs σ H,Pw ws.length zs σ H->N zs σ H):In2 D (Itl K b) g1 te N ys σ3 H4:=by
 refine⟨fun j m zs σ H=>m=ws.length - j/\j<=ws.length/\Pw j zs σ H,⟨ws.length,by simp,Ql _,h0⟩,?_⟩
 rintro j m zs σ H ⟨rfl,hj,p⟩
 have q:=hl j zs σ H hj p
 by_cases hlt:j < ws.length
 ·refine .inr ⟨⟨ws,ws[j],q,by simp [hlt]⟩,Pw (j+1),fun zs' σ' H' p'=>⟨ws.length - (j+1),by lia,rfl,hlt,p'⟩,fun y H' z=>?_⟩
  obtain⟨e,z⟩:=z
  subst e
  exact hs j zs y σ _ (z ws q) p
 ·have e:j=ws.length:=by lia
  subst e
  exact .inl ⟨⟨ws,q,OJ _⟩,hd zs σ H p⟩
end L2
namespace L2
open PySem PySem.Spec PyProof.Rows
section
variable {prog:O9} {w:Qd} {A:Qc} {E:Value->Ov->Prop} {s:Ov}
end
section
variable {X:Cx}
end
end L2
namespace L2
open PySem PySem.Spec PyProof.Rows
section
variable {X:Cx} {elt t0 i0 t1 i1:Expr} {scope:RD} {pos:Ut} {L F:List Px} {cap:List Nat} {wi wi1:TI} {g g1:TG} {te:TE}
end
end L2
namespace L2
open PySem PySem.Spec PyProof.Rows
section
variable {X:Cx} {tg:Expr}
end
end L2
namespace L2
open PySem PySem.Spec PyProof.Rows
section
variable {X:Cx} {elt tg iter:Expr} {ifs:List Expr} {scope:RD} {pos:Ut} {x0:Px} {L F:List Px} {cap:List Nat} {wi:TI} {g:TG} {tt:TT} {te:TE}
end
end L2
namespace L2
open PySem PySem.Spec PyProof.Rows
end L2
namespace L2
open PySem PySem.Spec PyProof.Rows
section
variable {X:Cx}
end
end L2
namespace L2
open PySem PySem.Spec PyProof.Rows
section
variable {X:Cx}
end
end L2
namespace L2
open PySem PySem.Spec PyProof.Rows
section
variable {X:Cx} {CX:CXT} {k:Nat} {f C:Addr} {fd:Qw} {ps:List Px} {sp:Sp} {dvs:List V} {ds:List Value} {E:XK} {c m:Px} {p pos apos:Ut} {e:Expr} {es:List Expr} {t:TA} {mc:Value}
structure uf (K:O1) (C:Addr) (mc:Value) (m:Px) (f:Addr):Prop where
 ga:PySem.W.specialIn K (.ref C) "__getattribute__" = some (some (.builtin "type.__getattribute__"))
 rd:PySem.W.readsIn K C mc=true
 fd:PySem.W.findCls K (.ref C) mc m=some (.val (.ref f))
 kp:QW K (.ref f)=true
 hd:Xi (.ref f)=true
theorem dX {pl:Sem Bool} (hg:Gl X c) (hm:X.mg c=some (.ref C)) (O:uf X.K C mc m f) (F:bK X.prog X.w X.K X.mg X.base CX k f fd ps sp) (hr:dG k X.A) (hb:Binds X.K fd ps ds) (hd:Vals dvs ds) (hx:Passes CX X E) (ha:PA X (e::es) t)
  (hdb:(c == ("__debug__" : Px))=false:=by decide) (hst:Pz (e::es) X.env=(false,QZ e X.env)::Pz es X.env:=by rfl) (hpl:(Rn pos (Pz es X.env)).any (·.1)=false:=by rfl)
  (ht:QZ (.Call (.Attribute (.Name c p) m apos) (e::es) [] pos) X.env=(do
   let ov ← QZ (.Name c p) X.env
   Tu apos.atName
   let (g,first) ← T6 [ov] (Ux ov m pl)
   V6 pos g first (Rn pos (Pz (e::es) X.env)) (Vx pos (Ue [] X.env))):=by rfl) :
  PE X (.Call (.Attribute (.Name c p) m apos) (e::es) [] pos) (Dk sp dvs E t):=by
 intro pins s σ H Q I h
 refine Uu (pl:=pl) (gP I hg hm ?_ hdb) ht
 refine PySem.W.method_cls I.kIn O.ga (PySem.W.cls_value I.kIn O.rd O.fd O.hd ?_)
 have I1:=I.tok (s.toks+1)
 refine Uc (first:=[]) (h₀:=X.base) I.ok.mod.kin O.kp (thn (ha pos pins _ σ H _ I1 h) fun us s1 ⟨vs,H1,I2,r,q⟩=>⟨I2.kIn,?_⟩) hst hpl
 exact xV F hr hb hd hx I2 r q
end
end L2
namespace L2
open PySem PySem.Spec PyProof.Rows
section
variable {P:O9} {w:Qd} {A:Qc} {E:Value->Ov->Prop} {hp:Qo} {g:Array W8} {d:Drawn} {tk:Nat} {os:OsState}
variable {nm q:Px} {C N:Addr} {bs bm:List Value} {hdct:Bool} {sn:List Px} {sub:List Value} {ab:Bool} {col:Option Bool} {dd:Option Addr} {k0 k1 k2 k3 k5:Option Value} {newId:String}
abbrev lQ (C t:Addr) (D:Option Addr):Rx:={ cls:=.ref C,dict:=D,data:=.fields #[.ref t,.none,.none,.none,.bool false,.none] }
theorem Bw {M:Model} {x t:Addr} {D:Option Addr} {ys:List Value} {Q:Unit->Ov->Prop} (hC:hp.get? C=some (R8 nm q C N bs bm hdct sn sub ab col dd k0 k1 k2 k3 k5 newId)) (hv:bm.contains (.type "ValueError")=true)
  (hx:hp.get? x=some (lQ C t D)) (hq:Q () ⟨hp,g,d,tk,os⟩):O3 M A (Tw "ValueError.__init__" ⟨.ref x::ys,[]⟩) Q E ⟨hp,g,d,tk,os⟩:=by
 have hv':(Pg C::bm).contains (.type "ValueError")=true:=by rw[Q9,hv,TF]
 have F:=PySem.F.excCall_ValueError
 have hns:=F.noStar
 simp only[Tw,F.initSplit,F.initKind,F.initRow]
 repeat (first | (with_reducible refine QV hx ?_) | (with_reducible refine QV hC ?_) | (with_reducible refine RC hC ?_; rw[hv']) | wp_step)
 refine wpAny_onRaise ?_
 rw[show ∀ (a b:String) (n:Nat),Bind.check ⟨.positional,"*","ValueError",.self,[⟨"args",.varPos,false⟩]⟩ a b n (List.map (fun z=>z.fst) ({ pos:=Pg x::ys }:Args).kw)=pure () from fun a b n=>check_star_args _ _ _ _ _ _]
 exact Oz hq
theorem yw {x t:Addr} {D:Option Addr} {y:Value} {Q:Value->Ov->Prop} (hC:hp.get? C=some (R8 nm q C N bs bm hdct sn sub ab col dd k0 k1 k2 k3 k5 newId)) (hv:bm.contains (.type "ValueError")=true)
  (hx:hp.get? x=some (lQ C t D)) (h:∀ h',(∀ b o,b≠x->hp.get? b=some o->h'.get? b=some o)->h'.get? x=some (lQ C hp.objs.size D)->Q .none ⟨h',g,d,tk,os⟩) :
  O3 (O5 P w) A (call (.builtin "ValueError.__init__") [.ref x,y]) Q E ⟨hp,g,d,tk,os⟩:=by
 have F:=PySem.F.excCall_ValueError
 refine Td (Te F.init.plain F.initEntry (Bw hC hv hx ?_))
 have hx1:=Ox { cls:=.type "tuple",data:=.seq #[y] } hx
 wp_walk
 refine h _ (fun b o hb e=>?_) ?_
 ·rw[Pn _ _ (QM hb)]
  exact Ox _ e
 ·rw[PJ _ hx1 rfl]
  rfl
end
end L2
namespace L2
open PySem PySem.Spec PyProof.Rows
section
variable {P:O9} {w:Qd} {A:Qc} {hp:Qo} {g:Array W8} {d:Drawn} {tk:Nat} {os:OsState}
variable {nm q:Px} {C N:Addr} {bs bm:List Value} {hdct:Bool} {sn:List Px} {sub:List Value} {ab:Bool} {col:Option Bool} {dd:Option Addr} {k0 k1 k2 k3 k5:Option Value}
structure KD (bm:List Value):Prop where
 v:bm.contains (.type "ValueError")=true
 b:bm.contains (.type "BaseException")=true
 a:bm.contains (.type "AttributeError")=false
 n:bm.contains (.type "NameError")=false
theorem new_exc {R:Vg->Ov->Prop} (V:KD bm) (hC:hp.get? C=some (R8 nm q C N bs bm hdct sn sub ab col dd k0 k1 k2 k3 k5 "ValueError.__new__"))
  (hq:R (.ok (.ret (.ref (hp.objs.size+1)))) ⟨(hp.push { cls:=.type "tuple",data:=.seq #[] }).push (lQ C hp.objs.size none),g,d,tk,os⟩) :
  QF (O5 P w) A (.builtin "ValueError.__new__" ⟨[.ref C],[]⟩) R ⟨hp,g,d,tk,os⟩:=by
 have F:=PySem.F.excBase_ValueError
 have he:=F.ends
 have c1:(Pg C::bm).contains (.type "ValueError")=true:=by rw[Q9,V.v,TF]
 have c2:(Pg C::bm).contains (.type "AttributeError")=false:=by rw[Q9,V.a]; rfl
 have c3:(Pg C::bm).contains (.type "NameError")=false:=by rw[Q9,V.n]; rfl
 refine codeAny_builtinAt F.entry ?_
 unfold Sq.«BaseException.__new__»
 refine PySem.wpAt_bind ?_
 show PySem.wpAt _ _ _ (stack >>= _) _ _ _
 refine PySem.wpAt_bind (PySem.wpAt_stack fun p below=>PySem.wpAt_of_wpAny ?_)
 wp_walk
 refine PySem.wpAt_of_wpAny ?_
 rw[F.owner]
 repeat (first | with_reducible refine wpAny_madeHere_exc F.canon hC ?_ | with_reducible refine QV hC ?_ | (with_reducible refine RC hC ?_; first | rw[c1] | rw[c2] | rw[c3]) | wp_step)
 show R _ _
 rw[QX]
 exact hq
theorem G7 {M:Model} {E:Value->Ov->Prop} {Q:Unit->Ov->Prop} (V:KD bm) (hC:hp.get? C=some (R8 nm q C N bs bm hdct sn sub ab col dd k0 k1 k2 k3 k5 "ValueError.__new__")) (hq:Q () ⟨hp,g,d,tk,os⟩) :
  O3 M A (Tw "ValueError.__new__" ⟨[.ref C],[]⟩) Q E ⟨hp,g,d,tk,os⟩:=by
 have F:=PySem.F.excBase_ValueError
 have c1:(Pg C::bm).contains (.type "ValueError")=true:=by rw[Q9,V.v,TF]
 have hs:=F.noStar
 simp only[Tw,F.newSplit,F.newKind,F.newRow]
 repeat (first | (refine RC hC ?_; rw[c1]) | refine QV hC ?_ | refine wpAny_madeBy_exc hC ?_ | refine wpAny_staticBase_exc hC ?_ | simp only[bne_self_eq_false,Wy,if_false] | wp_step)
 exact hq
theorem DK {f:Addr} {R:Vg->Ov->Prop} (V:KD bm) (hC:hp.get? C=some (R8 nm q C N bs bm hdct sn sub ab col dd k0 k1 k2 k3 k5 "ValueError.__new__"))
  (hl:∀ h',(∀ b o,hp.get? b=some o->h'.get? b=some o)->W.Looks (O5 P w) h' (Vf (.ref C) "__init__") (some (.ref f))) (hb:∀ h' self,(∀ b o,hp.get? b=some o->h'.get? b=some o)->W.Looks (O5 P w) h' (bindSpecial (.ref f) self) (.ref f,[self]))
  (hq:QF (O5 P w) (A.under (.builtin "type.__call__" ⟨[.ref C],[]⟩)) (.call (.ref f) ⟨[.ref (hp.objs.size+1)],[]⟩) (W.InitBack (hp.objs.size+1) R) ⟨(hp.push { cls:=.type "tuple",data:=.seq #[] }).push (lQ C hp.objs.size none),g,d,tk,os⟩) :
  QF (O5 P w) A (.call (.ref C) ⟨[],[]⟩) R ⟨hp,g,d,tk,os⟩:=by
 have f1:=tc_lookup
 have f2:=tc_bind (.ref C)
 have hT:(⟨hp,g,d,tk,os⟩:Ov).TypeIs (.ref C) "type":=⟨_,hC,rfl⟩
 refine VP ?_
 show O3 _ _ (callAny (.ref C) _) _ _ _
 repeat (any_goals (first | assumption | with_reducible refine QV hC ?_ | wp_step))
 refine⟨rfl,?_⟩
 refine codeAny_call_builtin_at (Vk _ (by decide+kernel)) entry_typeCall (wpAny_check_type_call_sub hC ?_)
 repeat (first | with_reducible refine QV hC ?_ | with_reducible refine wpAny_madeBy_exc hC ?_ | wp_step)
 refine codeAny_call_builtin_code (Vk _ PySem.F.excBase_ValueError.quiet) (G7 V hC ?_)
 refine new_exc V hC ?_
 show O3 _ _ _ _ _ _
 have k1:∀ b o,hp.get? b=some o->((hp.push { cls:=.type "tuple",data:=.seq #[] }).push (lQ C hp.objs.size none)).get? b=some o:=fun b o e=>Ox _ (Ox _ e)
 have hC1:=k1 _ _ hC
 have hx:((hp.push { cls:=.type "tuple",data:=.seq #[] }).push (lQ C hp.objs.size none)).get? (hp.objs.size+1)=some (lQ C hp.objs.size none):=by heap_get
 have cC:(Pg C::bm).contains (.ref C)=true:=by simp
 unfold isInstance
 repeat (first | with_reducible refine QV hx ?_ | (with_reducible refine RC hC1 ?_; rw[cC]) | wp_step)
 show O3 _ _ (Vf (.ref C) _) _ _ _
 refine Rp (hl _ k1) ?_
 refine QC (Ou ((hb _ _ k1).here ?_))
 refine Ou (Td (RG hq fun r s' z=>?_))
 cases r with
 | error e=>exact z
 | ok fl =>
  cases fl with
  | ret v =>
   obtain⟨ev,z⟩:=z
   subst ev
   exact Oz (Oz z)
  | next=>exact Qi z
  | brk=>exact Qi z
  | cont=>exact Qi z
end
end L2
namespace L2
open PySem PySem.Spec PyProof.Rows
theorem Eg (self:Value):PySem.refuseLoop self "__setattr__" [.type "ValueError",.type "Exception",.type "BaseException",.type "object"]=pure ():=by kernel_rfl
section
variable {P:O9} {w:Qd} {A:Qc} {E:Value->Ov->Prop} {K:Py} {s:Ov}
variable {nm q:Px} {C N x t:Addr} {bs bm:List Value} {hdct:Bool} {sn:List Px} {sub:List Value} {ab:Bool} {col:Option Bool} {dd:Option Addr} {k0 k1 k2 k3 k5:Option Value} {newId:String}
def oG:List Value->Bool
 | []=>false
 | a::r=>match a with
  | .ref _=>oG r
  | _=>a::r == [.type "ValueError",.type "Exception",.type "BaseException",.type "object"]
theorem jB {a:Value} {r:List Value} (h:oG (a::r)=true):(∃ c,a = .ref c/\oG r=true)∨a::r=[.type "ValueError",.type "Exception",.type "BaseException",.type "object"]:=by
 cases a <;> first | exact .inl ⟨_,rfl,h⟩ | exact .inr (eq_of_beq h)
theorem lr (self:Value):∀ {l:List Value},oG l=true->PySem.refuseLoop self "__setattr__" l=pure ()
 | [],h=>by cases h
 | a::r,h=>by
  rcases jB h with⟨c,rfl,h'⟩ | e
  ·rw[refuseLoop_ref]
   exact lr self h'
  ·rw[e]
   exact Eg self
theorem rF:∀ {l:List Value},oG l=true->l.contains (.type "object")=true
 | [],h=>by cases h
 | a::r,h=>by
  rcases jB h with⟨c,rfl,h'⟩ | e
  ·rw[Q9,rF h',TF]
  ·rw[e]
   rfl
theorem Iz {name:Px} {v:Value} {cd:ClassData} {Q:Unit->Ov->Prop} (X:K.In s.heap) (hx:s.heap.get? x=some (lQ C t none)) (hs:Tg K (.ref C) "__setattr__" = some (some (.builtin "object.__setattr__")))
  (hc:W.clsIn K C=some cd) (hu:oG cd.mro=true) (hdc:cd.hasDict=true) (hf:W.takerIn K C name=some none)
  (h:∀ h',(∀ b o,b≠x->s.heap.get? b=some o->h'.get? b=some o)->h'.get? x=some (lQ C t (some s.heap.objs.size))->(∃ o,h'.get? s.heap.objs.size=some o)->h'.Ns1 s.heap.objs.size (fun y=>if y=name then some v else none)->∀ tk,Q () { s with heap:=h',toks:=tk }) :
  O3 (O5 P w) A (setAttr (.ref x) name v) Q E s:=by
 have J:PySem.W.InstAt s.heap x (lQ C t none) C none:=⟨hx,rfl,rfl,trivial⟩
 have SF:=PySem.F.store_object
 have ne:cd.mro.isEmpty=false:=by cases q:cd.mro with | nil=>rw[q] at hu; cases hu | cons _ _=>rfl
 refine PySem.W.set_plain X J hs ?_
 have sub:Wo (O5 P w) s.heap (isInstance (.ref x) (.type "object")) true:=J.type.andThen (PySem.W.looks_mroIn X (by unfold PySem.W.mroIn; rw[hc,Option.bind_some,if_neg (by rw[ne]; decide),rF hu]))
 refine Te SF.slot.plain SF.entry (@PySem.W.check_slot (O5 P w) _ _ { s with toks:=s.toks+1 } "object.__setattr__" "object" "__setattr__" (.ref x) [.str name s.toks,v] [] _ SF.kind SF.split sub (SF.args (.ref x) (.str name s.toks) v) ?_)
 obtain⟨attr,ha,hr⟩:=Option.bind_eq_some_iff.mp hf
 have hm:Wo (O5 P w) s.heap (mroOf (.ref C)) cd.mro:=(Wf X hc).andThen .now
 have L3:Wo (O5 P w) s.heap (Builtin.ObjectAttr.storeTaker? attr) none:=by
  cases attr with
  | none=>exact .now
  | some a =>
   obtain⟨b,hb,e⟩:=Option.map_eq_some_iff.mp hr
   refine (PySem.W.looks_takesIn X hb).andThen ?_
   cases b
   ·exact .now
   ·cases e
 rw[PySem.W.osa_eq,refuse_eq]
 obtain⟨hp,g,d,tk,os⟩:=s
 refine Ou (Ou (Rp (s:=⟨hp,g,d,tk+1,os⟩) J.type (Ou (Rp (s:=⟨hp,g,d,tk+1,os⟩) hm ?_))))
 rw[lr _ hu]
 refine Oz (Ou (Rp (s:=⟨hp,g,d,tk+1,os⟩) J.type (Ou (Rp (s:=⟨hp,g,d,tk+1,os⟩) (Tn X ha) (Ou (Rp (s:=⟨hp,g,d,tk+1,os⟩) L3 ?_))))))
 dsimp only
 unfold Builtin.ObjectAttr.storeInOwnDict
 refine Ou (Oz ?_)
 unfold Builtin.ObjectAttr.ownDictForStores instanceDict
 refine Ou (Ou (wpAny_loadPart hx (Ou (Rp (s:=⟨hp,g,d,tk+1,os⟩) (Wf X hc) ?_))))
 rw[hdc,if_neg (by decide)]
 have hx1:(hp.push { cls:=.type "dict",data:=.dict #[] }).get? x=some (lQ C t none):=Ox _ hx
 have hne:x≠hp.objs.size:=Pa (O4 hx)
 show O3 _ _ (do let d ← alloc { cls:=.type "dict",data:=.dict #[] }; update x fun o=>{ o with dict:=some d }; dictMade (.ref C) x d) _ _ _
 refine Ou (wpAny_alloc (Ou (wpAny_update hx1 ?_)))
 wp_step
 refine Oz ?_
 dsimp only
 generalize eh:(hp.push { cls:=.type "dict",data:=.dict #[] }).update x (fun o=>{ o with dict:=some hp.objs.size })=h2
 have n2:h2.Ns1 hp.objs.size (fun _=>none):=by
  refine Heap.Ns1.at (Heap.Ns1.of_empty (Heap.Ns.new hp (.type "dict"))) fun o e=>?_
  rw[← eh,Pn _ _ hne]
  exact e
 have k2:∀ b o,b≠x->hp.get? b=some o->h2.get? b=some o:=fun b o hb e=>by
  rw[← eh,Pn _ _ (QM hb)]
  exact Ox _ e
 have x2:h2.get? x=some (lQ C t (some hp.objs.size)):=by
  rw[← eh,PJ _ hx1 rfl]
 unfold Builtin.ObjectAttr.storeInDict
 refine Ou (Oz ?_)
 refine Ou (wpAny_nsSet1 (s:=⟨h2,g,d,tk+1,os⟩) n2 fun h' hn2 hs2=>?_)
 obtain⟨oD,esD,epD,hoD,hdD,hcD⟩:=hn2.count (PySem.Within.cons name v PySem.Within.nil)
 refine Ou (wpAny_lookBehind hoD (by rw[hdD]; exact pastItsLine_dict (PX hcD (by show 1<=sizeLine+1; lia))) ?_)
 refine Oz (h _ (fun b o hb e=>?_) ((hs2.2 _ hne).trans x2) ⟨oD,hoD⟩ hn2 _)
 have hbn:b≠hp.objs.size:=Pa (O4 e)
 exact (hs2.2 _ hbn).trans (k2 b o hb e)
end
end L2
namespace L2
open PySem PySem.Spec PyProof.Rows
theorem HH (K:Py):W.findCls K (.type "ValueError") (.type "type") "__init__" = some (.val (.builtin "ValueError.__init__")):=by kernel_rfl
theorem IV:Qn "ValueError" = some (.type "ValueError"):=by decide+kernel
theorem HS:typeOf (.type "ValueError")=pure (.type "type"):=by kernel_rfl
theorem Hr:Manifest.isStub "ValueError" = false:=by decide+kernel
theorem Io:W.handedIn (.builtin "ValueError.__init__")=true:=by decide+kernel
def xO (x C:Addr) (D:Option Addr):HO:=.ext fun h=>∃ t,h.get? x=some (lQ C t D)
theorem Hd {P:O9} {w:Qd} {H:Hp} {h:Qo} {x C t:Addr} {D:Option Addr} (e:h.get? x=some (lQ C t D)):cU P w H h x (xO x C D) :=
 ⟨⟨t,e⟩,⟨_,e⟩,fun h1 h2 ⟨t',e'⟩ k=>⟨t',k _ e'⟩⟩
structure Dw (K:O1) (C f:Addr) (name:Px):Prop where
 obj:∃ nm q N bs bm hdct sn sub ab col dd k0 k1 k2 k3 k5,K.lookup C=some (R8 nm q C N bs bm hdct sn sub ab col dd k0 k1 k2 k3 k5 "ValueError.__new__")/\KD bm
 init:Qz K (.ref C) "__init__" = some (some (.ref f))
 fn:PySem.W.typeIn K (.ref f)=some (.type "function")
 kp:QW K (.ref C)=true
 set:Qz K (.ref C) "__setattr__" = some (some (.builtin "object.__setattr__"))
 cls:∃ cd,PySem.W.clsIn K C=some cd/\oG cd.mro=true/\cd.hasDict=true
 tak:VR K C name=some none
section
variable {X:Cx} {p pos apos:Ut} {e:Expr} {es:List Expr} {t:TA} {f C:Addr}
def JP (K:Py) (t:TA):TE:=fun σ H Q=>t σ H fun vs H1=>∃ (x C f:Addr) (n:Px) (D:Option Addr) (y:V),vs=[.ref x,y]/\H1 x=some (xO x C D)/\Dw K C f n/\Q .non (upd H1 x (xO x C D))
theorem Eh {pl:Sem Bool} (hg:Gl X "ValueError") (hm:X.mg "ValueError" = none) (ha:PA X (e::es) t)
  (hst:Pz (e::es) X.env=(false,QZ e X.env)::Pz es X.env:=by rfl) (hpl:(Rn pos (Pz es X.env)).any (·.1)=false:=by rfl)
  (ht:QZ (.Call (.Attribute (.Name "ValueError" p) "__init__" apos) (e::es) [] pos) X.env=(do
   let ov ← QZ (.Name "ValueError" p) X.env
   Tu apos.atName
   let (g,first) ← T6 [ov] (Ux ov "__init__" pl)
   V6 pos g first (Rn pos (Pz (e::es) X.env)) (Vx pos (Ue [] X.env))):=by rfl) :
  PE X (.Call (.Attribute (.Name "ValueError" p) "__init__" apos) (e::es) [] pos) (JP X.K t):=by
 intro pins s σ H Q I h
 refine Uu (pl:=pl) (jO I hg hm IV ?_) ht
 obtain⟨m,F⟩:=I.fr
 refine PySem.W.method_type F I.ok.mod.kin HS Hr (HH X.K) Io ?_
 have I1:=I.tok (s.toks+1)
 refine callWith_builtin1 (thn (ha pos pins _ σ H _ I1 h) fun us s1 ⟨vs,H1,I2,r,x,C,f,n,D,y,ev,hx,XC,q⟩=>?_) hst hpl
 subst ev
 obtain⟨u,v,rfl,ru,rv⟩:=r.two
 obtain rfl:u=Pg x:=ru
 obtain⟨⟨t0,e0⟩,_⟩:=I2.hok x _ hx
 obtain⟨nm,q1,N,bs,bm,hdct,sn,sub,ab,col,dd,k0,k1,k2,k3,k5,lk,V⟩:=XC.obj
 obtain⟨hp,g,d,tk,os⟩:=s1
 refine yw (I2.kIn _ _ lk) V.v e0 fun h' k' e'=>?_
 exact⟨.non,_,I2.write (x:=x) (e:=x) (by rw[hx]; trivial) (.inl rfl) k' ⟨_,e'⟩ (Hd e'),rfl,q⟩
end
end L2
namespace L2
open PySem PySem.Spec PyProof.Rows
section
variable {X:Cx} {pos pos':Ut} {o value:Expr} {ta tv:TE} {f:Px}
def LQ (K:Py) (ta tv:TE) (f:Px):TS:=fun D σ H=>tv σ H fun y H1=>ta σ H1 fun x H2=>∃ (a C fI:Addr),x = .ref a/\H2 a=some (xO a C none)/\Dw K C fI f/\∀ dx,H2 dx=none->D.nx σ (upd (upd H2 dx (.xd [(f,y)])) a (xO a C (some dx)))
theorem Im (ha:PE X o ta) (hv:PE X value tv) (hs:V9 value (some (.Attribute o f pos')) pos.line X.env=pure false):PS X (.Assign [.Attribute o f pos'] value pos) (LQ X.K ta tv f):=by
 intro pins s σ H D I h
 refine Xb (thn (hv pins s σ H _ I h) fun u s1 ⟨y,H1,I1,ry,q⟩=>thn (ha pins s1 σ H1 _ I1 q) fun ov s2 ⟨x,H2,I2,rx,a,C,fI,ex,ea,XC,q2⟩=>?_) hs
 subst ex
 obtain rfl:ov=Pg a:=rx
 obtain⟨⟨t0,e0⟩,_⟩:=I2.hok a _ ea
 obtain⟨cd,hc,hu,hd⟩:=XC.cls
 refine Iz I2.kIn e0 XC.set hc hu hd XC.tak fun h' k' e' ho hn tk=>?_
 have fr:=I2.fresh
 have hne:a≠s2.heap.objs.size:=Pa (O4 e0)
 have e1:(h'.update a fun _=>lQ C t0 none).get? a=some (lQ C t0 none):=PJ _ e' rfl
 have o1:∀ b,b≠a->(h'.update a fun _=>lQ C t0 none).get? b=h'.get? b:=fun b hb=>Pn _ _ (QM hb)
 have I3:=I2.laid (a:=s2.heap.objs.size) (o:=.xd [(f,y)]) (h':=h'.update a fun _=>lQ C t0 none) (t':=tk) (fun b u' q'=>by
  by_cases hb:b=a
  ·subst hb
   rw[e0] at q'
   rw[e1]
   exact q'
  ·rw[o1 b hb]
   exact k' b u' hb q') (OJ _) ⟨_,hn.at (fun o z=>by rw[o1 _ (QM hne)]; exact z),fun g=>by
    by_cases hg:g=f
    ·subst hg
     simp [Tq,pY]
     exact ry
    ·have:(g == f)=false:=beq_false_of_ne hg
     simp [Tq,this,hg,pY]⟩
 have I4:=I3.write (x:=a) (e:=a) (h':=h') (o:=xO a C (some s2.heap.objs.size)) (t':=tk) (by rw[aN hne,ea]; trivial) (.inl rfl) (fun b u' hb q'=>by rw[o1 b hb] at q'; exact q') ⟨_,e'⟩ (Hd e')
 exact⟨σ,_,I4,q2 _ fr⟩
end
end L2
namespace L2
open PySem PySem.Spec PyProof.Rows
section
variable {M:Model} {A:Qc} {E:Value->Ov->Prop} {env:Vb}
theorem BR {s:Ov} {z:Sem Value} {Q:Flow->Ov->Prop} (hh:A.handled=none)
  (h:O3 M A z (fun v s1=>∃ (e t C:Addr) (D:Option Addr) (nm q:Px) (N:Addr) (bs bm:List Value) (hdct:Bool) (sn:List Px) (sub:List Value) (ab:Bool) (col:Option Bool) (dd:Option Addr) (k0 k1 k2 k3 k5:Option Value) (newId:String),v = .ref e/\s1.heap.get? C=some (R8 nm q C N bs bm hdct sn sub ab col dd k0 k1 k2 k3 k5 newId)/\bm.contains (.type "BaseException")=true/\s1.heap.get? e=some (lQ C t D)/\E (.ref e) s1) E s):O3 M A (raiseStmt env (some z) none) Q E s:=by
 unfold raiseStmt
 refine Ou (Qm h (fun v s1 h1=>?_) fun _ _ y=>y)
 obtain⟨e,t,C,D,nm,q,N,bs,bm,hdct,sn,sub,ab,col,dd,k0,k1,k2,k3,k5,newId,rfl,hC,hb,he,hE⟩:=h1
 have c1:(Pg C::bm).contains (.type "BaseException")=true:=by rw[Q9,hb,TF]
 obtain⟨hp,g,d,tk,os⟩:=s1
 repeat (first | with_reducible refine QV he ?_ | with_reducible refine QV hC ?_ | (with_reducible refine RC hC ?_; rw[c1]) | wp_step)
 exact wpAny_raiseNew_none hh hE
end
section
variable {X:Cx} {CX:CXT} {k:Nat} {f C:Addr} {fd:Qw} {ps:List Px} {sp:Sp} {c n:Px} {p pos:Ut} {e:Expr} {te:TE} {E:XK}
def Jx (C:Addr) (sp:Sp) (E:XK):TE:=fun _ H Q=>∀ x,H x=none->sp [.ref x] (upd H x (xO x C none)) (fun v H2=>v = .non/\Q (.ref x) H2) E
theorem Fz (XC:Dw X.K C f n) (F:bK X.prog X.w X.K X.mg X.base CX k f fd ps sp) (hr:dG (k+1) X.A) (hg:Gl X c) (hm:X.mg c=some (.ref C)) (hb:Binds X.K fd ps []) (hx:Passes CX X E)
  (hdb:(c == ("__debug__" : Px))=false:=by decide):PE X (.Call (.Name c p) [] [] pos) (Jx C sp E):=by
 intro pins s σ H Q I h
 refine QH (gP I hg hm ?_ hdb)
 refine Wg I.kIn XC.kp ?_
 obtain⟨nm,q1,N,bs,bm,hdct,sn,sub,ab,col,dd,k0,k1,k2,k3,k5,lk,VE⟩:=XC.obj
 have hq:=h (s.heap.objs.size+1) (I.hok.fresh (Rm _))
 have kk:∀ b o,s.heap.get? b=some o->((s.heap.push { cls:=.type "tuple",data:=.seq #[] }).push (lQ C s.heap.objs.size none)).get? b=some o:=fun b o z=>Ox _ (Ox _ z)
 have ex:((s.heap.push { cls:=.type "tuple",data:=.seq #[] }).push (lQ C s.heap.objs.size none)).get? (s.heap.objs.size+1)=some (lQ C s.heap.objs.size none):=by
  have:=O6 (s.heap.push { cls:=.type "tuple",data:=.seq #[] }) (o:=lQ C s.heap.objs.size none) rfl
  rwa [QX] at this
 have I2:=I.laid (a:=s.heap.objs.size+1) (o:=xO (s.heap.objs.size+1) C none) (t':=s.toks) kk (Rm _) (Hd ex)
 have r2:Vals [V.ref (s.heap.objs.size+1)] [Pg (s.heap.objs.size+1)]:=.cons rfl .nil
 have hl:([Pg (s.heap.objs.size+1)]++[]).length=ps.length:=by
  have z:=r2.length
  rw[F.len _ _ _ _ hq] at z
  exact z.symm
 have hk:=I.kIn
 refine Td ?_
 have mk:=DK (P:=X.prog) (w:=X.w) (A:=X.A) (hp:=s.heap) (g:=s.gens) (d:=s.drawn) (tk:=s.toks) (os:=s.os) (f:=f) (R:=fun r s'=>match r with | .ok (.ret v)=>EP X pins σ Q v s' | .ok _=>False | .error e=>X.xe e s') VE (hk _ _ lk) (fun h' k'=>Tn (hk.keeps k') XC.init) (fun h' self k'=>PySem.W.bind_fn (hk.keeps k') self XC.fn)
 refine mk (RG (F.run _ X.stack _ _ ⟨[Pg (s.heap.objs.size+1)],[]⟩ [Pg (s.heap.objs.size+1)] _ _ E (hr.make C [] []) (I2.env0.make C [] []) (hb _ [Pg (s.heap.objs.size+1)] I2.kIn hl) r2 hq) fun r s' hq'=>?_)
 cases r with
 | error e=>exact hx pins σ _ _ e s' I2 hq'
 | ok fl =>
  cases fl with
  | ret u =>
   obtain⟨v,H',I3,rv,ev,q3⟩:=I2.after hq'
   subst ev
   exact⟨rv,⟨V.ref (s.heap.objs.size+1),H',I3,rfl,q3⟩⟩
  | next=>exact Qi hq'
  | brk=>exact Qi hq'
  | cont=>exact Qi hq'
def Throws (X:Cx) (W:Addr->Addr->Addr->Hp->Prop):Prop:=∀ (pins:List (Addr × Rx)) (σ:St) (H:Hp) (s:Ov) (x C dx:Addr),Inv X pins σ H s->H x=some (xO x C (some dx))->W x C dx H->X.xe (.ref x) s
def J4 (K:Py) (W:Addr->Addr->Addr->Hp->Prop) (te:TE):TS:=fun _ σ H=>te σ H fun v H1=>∃ (x C f dx:Addr) (n:Px),v = .ref x/\H1 x=some (xO x C (some dx))/\Dw K C f n/\W x C dx H1
theorem Ep {W:Addr->Addr->Addr->Hp->Prop} (hc:X.calm=true) (he:PE X e te) (hw:Throws X W):PS X (.Raise (some e) none pos) (J4 X.K W te):=by
 intro pins s σ H D I h
 rw[arm_exec_Raise]
 refine Ou (RK ?_)
 have go:O3 (O5 X.prog X.w) X.A (QZ e X.env) (fun v s1=>∃ x C f dx n H1,v=Pg x/\Inv X pins σ H1 s1/\H1 x=some (xO x C (some dx))/\Dw X.K C f n/\W x C dx H1) X.xe s:=thn (he pins s σ H _ I h) fun u s1 ⟨v,H1,I1,r,x,C,f,dx,n,ev,hx,XC,hW⟩=>by
  subst ev
  exact⟨x,C,f,dx,n,H1,r,I1,hx,XC,hW⟩
 show O3 _ _ (raiseStmt X.env (some (do let v ← QZ e X.env; Tu pos; pure v)) none) _ _ _
 refine BR (I.ok.hd hc) (Ou (thn go fun v s1 ⟨x,C,f,dx,n,H1,ev,I1,hx,XC,hW⟩=>Ou (RK (Oz ?_))))
 obtain⟨⟨t0,e0⟩,_⟩:=I1.hok x _ hx
 obtain⟨nm,q1,N,bs,bm,hdct,sn,sub,ab,col,dd,k0,k1,k2,k3,k5,lk,VE⟩:=XC.obj
 exact⟨x,t0,C,some dx,nm,q1,N,bs,bm,hdct,sn,sub,ab,col,dd,k0,k1,k2,k3,k5,_,ev,I1.kIn _ _ lk,VE.b,e0,hw pins σ H1 s1 x C dx I1 hx hW⟩
end
end L2
namespace L2
open PySem PySem.Spec PyProof.Rows
structure Fly (B:Qo) (l:List Vb) (x C dx:Addr) (fl:Value) (h:Qo):Prop where
 stay:B.StaysIn h
 bx:B.get? x=none
 frs:h.FunFrames B l
 tr:∃ vs T oT ts sl,h.get? x=some { cls:=.ref C,dict:=some dx,data:=.fields vs,slots:=sl }/\vs[1]? = some (.ref T)/\B.get? T=none/\T≠x/\h.get? T=some oT/\oT.data = .fields ts/\ts[3]? = some fl
structure Up (h h':Qo):Prop where
 sl:h.UpToSlots h'
 th:∀ b o,h.get? b=some o->∃ o',h'.get? b=some o'
theorem Up.trans {h h1 h2:Qo} (a:Up h h1) (b:Up h1 h2):Up h h2:=⟨a.sl.trans b.sl,fun c o e=>let ⟨o1,e1⟩:=a.th c o e; b.th c o1 e1⟩
section
variable {M:Model} {A:Qc} {E:Value->Ov->Prop} {s:Ov} {B:Qo} {env:Vb} {outer:List Vb} {L x C dx:Addr} {Q:Unit->Ov->Prop}
theorem tU {vs:Array Value} {sl:Array (Option Value)} {head:Value} {hadNext:Bool} (hfr:A.frames=some (env::outer)) (hl:s.heap.FunFrames B (env::outer)) (hf:env.frame=some L)
  (ex:s.heap.get? x=some { cls:=.ref C,dict:=some dx,data:=.fields vs,slots:=sl }) (st:B.StaysIn s.heap) (bx:B.get? x=none) (sz:1 < vs.size)
  (h:∀ h',Fly B (env::outer) x C dx (Qp L) h'->Up s.heap h'->Q () { s with heap:=h' }) :
  O3 M A (do let a ← frameOf env; let pl ← entryPlaceOf L hadNext; let b ← EntryCells.newEntry head a .none (Qp L) .none pl; setField (.ref x) 1 b) Q E s:=by
 have nx:x ∉ (env::outer).filterMap (·.frame):=fun hm=>by
  obtain⟨_,o,ho,nf⟩:=hl.mem hm
  rw[ex] at ho
  cases ho
  exact nf vs rfl
 refine Ou (wpAny_frameOf_fun hfr hl hf fun h1 s1=>Ou (wpAny_entryPlaceOf fun pl hpl=>?_))
 unfold EntryCells.newEntry newFields
 refine Ou (Qg ?_ (hpl.sizeOk5 _ _ _ _ _))
 have e1:h1.get? x=_:=(s1.2.1 x nx).trans ex
 have st1:B.StaysIn h1:=fun b o z=>(s1.2.1 b fun hm=>by rw[(hl.mem hm).1] at z; cases z).trans (st b o z)
 generalize eo:({ cls:=.type "traceback",dict:=none,data:=.fields ([head,.ref L,.none,Qp L,.none]++(if pl.isEmpty then QL 6 QJ else pl)).toArray }:Rx)=oT
 have dT:oT.data = .fields ([head,.ref L,.none,Qp L,.none]++(if pl.isEmpty then QL 6 QJ else pl)).toArray:=by rw[← eo]
 have e2:=Ox oT e1
 refine Q0 e2 rfl sz (h _ ?_ ?_)
 all_goals
  have hTx:h1.objs.size≠x:=Tz (O4 e1)
  have keep:∀ b o,b≠x->h1.get? b=some o->((h1.push oT).update x (Q4 (·.setIfInBounds 1 (Pg h1.objs.size)))).get? b=some o:=fun b o hb z=>by
   rw[Pn _ _ (QM hb)]
   exact Ox _ z
  have nrec:∀ b o,s.heap.get? b=some o->(∀ vs,o.data≠.fields vs)->b≠x:=fun b o z nf q=>by
   rw[q,ex] at z
   cases z
   exact nf vs rfl
 ·refine⟨fun b o z=>keep b o (fun q=>by rw[q,bx] at z; cases z) (st1 b o z),bx,hl.of_keeps fun b o z nf=>?_,?_⟩
  ·obtain⟨sl',hs⟩:=s1.2.2 b o z
   exact⟨_,keep b _ (nrec b o z nf) hs,rfl⟩
  ·have e3:=PJ (Q4 (·.setIfInBounds 1 (Pg h1.objs.size))) e2 rfl
   have hT:((h1.push oT).update x (Q4 (·.setIfInBounds 1 (Pg h1.objs.size)))).get? h1.objs.size=some oT:=by
    rw[Pn _ _ (QM hTx)]
    exact O6 h1 (by rw[← eo]; rfl)
   refine⟨vs.setIfInBounds 1 (.ref h1.objs.size),h1.objs.size,oT,_,sl,e3,by simp [sz],st1.fresh,hTx,hT,dT,?_⟩
   rcases hpl with rfl | ⟨_,_,_,_,_,_,_,rfl⟩ <;> simp
 ·refine⟨fun b o z nf=>?_,fun b o z=>?_⟩
  ·obtain⟨sl',hs⟩:=s1.2.2 b o z
   exact⟨sl',keep b _ (nrec b o z nf) hs⟩
  ·by_cases hb:b=x
   ·subst hb
    exact⟨_,PJ (Q4 (·.setIfInBounds 1 (Pg h1.objs.size))) e2 rfl⟩
   ·obtain⟨sl',hs⟩:=s1.2.2 b o z
    exact⟨_,keep b _ hb hs⟩
theorem lZ {fl:Value} {l:List Vb} (F:Fly B l x C dx fl s.heap) (h:∀ h',Fly B l x C dx .none h'->Up s.heap h'->Q () { s with heap:=h' }):O3 M A (setFlight (.ref x) none) Q E s:=by
 obtain⟨st,bx,fr,vs,T,oT,ts,sl,ex,v1,bT,hTx,hT,dT,t3⟩:=F
 unfold setFlight
 refine Ou (RM ex rfl v1 ?_)
 rw[if_pos (show (Pg T != QJ)=true by simp)]
 have s3:3 < ts.size:=(Array.getElem?_eq_some_iff.mp t3).1
 refine Q0 hT dT s3 (h _ ?_ ?_)
 all_goals
  have keep:∀ b o,b≠T->s.heap.get? b=some o->(s.heap.update T (Q4 (·.setIfInBounds 3 ((none:Option Addr).elim QJ fun f=>Qp f)))).get? b=some o:=fun b o hb z=>(Pn _ _ (QM hb)).trans z
  have nrec:∀ b o,s.heap.get? b=some o->(∀ vs,o.data≠.fields vs)->b≠T:=fun b o z nf q=>by
   rw[q,hT] at z
   cases z
   exact nf ts dT
 ·refine⟨fun b o z=>keep b o (fun q=>by rw[q,bT] at z; cases z) (st b o z),bx,fr.of_keeps fun b o z nf=>⟨o,keep b o (nrec b o z nf) z,rfl⟩,vs,T,_,ts.setIfInBounds 3 .none,sl,keep x _ (QM hTx) ex,v1,bT,hTx,PJ _ hT (V2 (Vh dT _)),Vh dT _,by simp [s3]⟩
 ·refine⟨fun b o z nf=>⟨o.slots,keep b o (nrec b o z nf) z⟩,fun b o z=>?_⟩
  by_cases hb:b=T
  ·subst hb
   exact⟨_,PJ _ hT (V2 (Vh dT _))⟩
  ·exact⟨o,keep b o hb z⟩
theorem zK {t:Addr} (hfr:A.frames=some (env::outer)) (hl:s.heap.FunFrames B (env::outer)) (hf:env.frame=some L) (ex:s.heap.get? x=some (lQ C t (some dx))) (st:B.StaysIn s.heap) (bx:B.get? x=none)
  (h:∀ h',Fly B (env::outer) x C dx .none h'->Up s.heap h'->Q () { s with heap:=h' }):O3 M A (leaving env (.ref x)) Q E s:=by
 unfold leaving U9
 simp only[hf]
 refine Ou (Ou (RM ex rfl (x:=.none) rfl ?_))
 rw[if_neg (by decide)]
 refine tU hfr hl hf ex st bx (by show 1 < 6; decide) fun h1 F1 u1=>?_
 exact lZ (s:={ s with heap:=h1 }) F1 fun h2 F2 u2=>h h2 F2 (u1.trans u2)
theorem wZ (hfr:A.frames=some (env::outer)) (hf:env.frame=some L) (F:Fly B (env::outer) x C dx .none s.heap)
  (h:∀ h',Fly B (env::outer) x C dx (Qp L) h'->Up s.heap h'->Q () { s with heap:=h' }):O3 M A (U9 (.ref x) env) Q E s:=by
 obtain⟨st,bx,fr,vs,T,oT,ts,sl,ex,v1,bT,hTx,hT,dT,t3⟩:=F
 unfold U9
 simp only[hf]
 refine Ou (RM ex rfl v1 ?_)
 rw[if_pos (show (Pg T != QJ)=true by simp)]
 refine Ou (RM hT dT t3 ?_)
 rw[if_neg (show ¬ ((QJ == Qp L)=true) by simp [Qp])]
 refine Ou (Q0 hT dT (Array.getElem?_eq_some_iff.mp t3).1 ?_)
 have keep:∀ b o,b≠T->s.heap.get? b=some o->(s.heap.update T (Q4 (·.setIfInBounds 3 QJ))).get? b=some o:=fun b o hb z=>(Pn _ _ (QM hb)).trans z
 have nrec:∀ b o,s.heap.get? b=some o->(∀ vs,o.data≠.fields vs)->b≠T:=fun b o z nf q=>by
  rw[q,hT] at z
  cases z
  exact nf ts dT
 refine tU (s:={ s with heap:=s.heap.update T (Q4 (·.setIfInBounds 3 QJ)) }) hfr (fr.of_keeps fun b o z nf=>⟨o,keep b o (nrec b o z nf) z,rfl⟩) hf (keep x _ (QM hTx) ex) (fun b o z=>keep b o (fun q=>by rw[q,bT] at z; cases z) (st b o z)) bx (Array.getElem?_eq_some_iff.mp v1).1 fun h1 F1 u1=>h h1 F1 ?_
 refine Up.trans ⟨fun b o z nf=>⟨o.slots,keep b o (nrec b o z nf) z⟩,fun b o z=>?_⟩ u1
 by_cases hb:b=T
 ·subst hb
  exact⟨_,PJ _ hT (V2 (Vh dT _))⟩
 ·exact⟨o,keep b o hb z⟩
theorem xT (hfr:A.frames=some (env::outer)) (hf:env.frame=some L) (F:Fly B (env::outer) x C dx .none s.heap)
  (h:∀ h',Fly B (env::outer) x C dx .none h'->Up s.heap h'->Q () { s with heap:=h' }):O3 M A (leaving env (.ref x)) Q E s:=by
 unfold leaving
 refine Ou (wZ hfr hf F fun h1 F1 u1=>?_)
 exact lZ (s:={ s with heap:=h1 }) F1 fun h2 F2 u2=>h h2 F2 (u1.trans u2)
end
end L2
namespace L2
open PySem PySem.Spec PyProof.Rows
structure Lie (P:O9) (w:Qd) (outer:List Vb) (H:Hp) (s:Ov) (x C dx:Addr) (H':Hp) (B:Qo) (s':Ov):Prop where
 os:s'.os=s.os
 bare:Vp s'.gens
 fly:Fly B outer x C dx .none s'.heap
 un:Un (frs outer) [] H H' s.heap s'.heap
 hok:HOk P w H' s'.heap
 kb:∀ b o,s.heap.get? b=some o->H b=none->b ∉ frs outer->B.get? b=some o
 hb:∀ b u,H' b=some u->∃ o,s'.heap.get? b=some o/\B.get? b=some o
 xn:H' x=none
def XL (P:O9) (w:Qd):CXT:=fun outer H s E e s'=>∃ (x C dx:Addr) (H':Hp) (B:Qo),e = .ref x/\Lie P w outer H s x C dx H' B s'/\E (.ref C) (some dx) H'
def off (H:Hp) (x:Addr):Hp:=fun b=>if b=x then none else H b
theorem off_ne {H:Hp} {x b:Addr} (h:b≠x):off H x b=H b:=if_neg h
theorem pW {H:Hp} {x b:Addr} {u:HO} (h:off H x b=some u):b≠x/\H b=some u:=by
 unfold off at h
 split at h
 ·cases h
 ·rename_i z
  exact⟨z,h⟩
theorem my {P:O9} {w:Qd} {H H':Hp} {h h':Qo} (k:HOk P w H h) (sub:∀ b u,H' b=some u->H b=some u) (ow:∀ b a,H b=some (.own a)->H' b=some (.own a)) (tp:∀ b xs,H b=some (.tup xs)->H' b=some (.tup xs)) (keep:∀ b u o,H' b=some u->h.get? b=some o->h'.get? b=some o):HOk P w H' h':=fun b u e =>
 (k b u (sub b u e)).stay (fun c o hc q=>by
  rcases hc with rfl | hc
  ·exact keep c u o e q
  ·exact keep c _ o (ow c b hc) q) (fun c q=>ow c b q) tp
theorem pJ {P:O9} {w:Qd} {H:Hp} {h:Qo} {a:Addr} {u:HO} (x:cU P w H h a u):∃ o,h.get? a=some o:=by
 cases u with
 | lst xs=>obtain⟨_,_,_,_,e⟩:=x; exact⟨_,e⟩
 | tup xs=>obtain⟨_,_,_,ob,e,_⟩:=x; exact⟨_,e⟩
 | dK kvs=>obtain⟨_,_,_,_,ob,_,_,e,_⟩:=x; exact⟨_,e⟩
 | dT kvs=>obtain⟨_,_,_,_,ob,_,_,e,_⟩:=x; exact⟨_,e⟩
 | set S n=>obtain⟨ob,_,_,_,e,_⟩:=x; exact⟨_,e⟩
 | ins C dx fs=>obtain⟨_,_,_,e,_⟩:=x; exact⟨_,e⟩
 | own y=>exact x
 | xd fs=>obtain⟨_,⟨od,_,_,e,_⟩,_⟩:=x; exact⟨_,e⟩
 | rng lo hi=>obtain⟨_,_,_,e⟩:=x; exact⟨_,e⟩
 | frz ob u=>exact⟨_,x.1⟩
 | tbl ps=>exact⟨_,x⟩
 | met f y=>exact⟨_,x⟩
 | ext φ=>exact x.2.1
section
variable {P:O9} {w:Qd} {K:Py} {mg:Px->Option Value} {base:Qo} {N:List Px} {qual:Px} {scope:RD} {f:Addr} {cd:Value} {A:Qc} {outer:List Vb} {s₀:Ov} {H₀:Hp} {E:XK}
theorem dw:Throws (vQ (XL P w) P w K mg base N qual scope f cd A outer s₀ H₀ E) fun x C dx H=>E (.ref C) (some dx) (off H x):=by
 intro pins σ H s x C dx I hx hE
 obtain⟨⟨t,ex⟩,_⟩:=I.hok x _ hx
 have stk:=I.stack
 have fre:=I.vy
 have xs:x ∉ frs (envOfC qual scope s₀.heap.objs.size f cd::outer):=fun z=>by rw[fre x z] at hx; cases hx
 have hin:∀ env∈(envOfC qual scope s₀.heap.objs.size f cd::outer),∀ b,env.frame=some b->b∈x::frs (envOfC qual scope s₀.heap.objs.size f cd::outer):=fun env he b hb=>Pb _ (List.mem_filterMap.mpr ⟨env,he,hb⟩)
 have F:=PySem.W.funFrames_hide stk hin
 show O3 (O5 P w) _ (leaving _ (.ref x)) _ _ s
 refine zK (B:=Xz s.heap (x::frs (envOfC qual scope s₀.heap.objs.size f cd::outer))) (outer:=outer) (L:=s₀.heap.objs.size) I.ok.frames F rfl ex (fun b o e=>PySem.W.of_hideAll _ e) (PySem.W.hideAll_none _ Ph) fun h' F' u'=>?_
 have inB:∀ b o,s.heap.get? b=some o->b≠x->b ∉ frs (envOfC qual scope s₀.heap.objs.size f cd::outer)->(Xz s.heap (x::frs (envOfC qual scope s₀.heap.objs.size f cd::outer))).get? b=some o:=fun b o e h1 h2=>PySem.W.hideAll_get _ e fun z=>(List.mem_cons.mp z).elim h1 h2
 have tk:∀ b u,H b=some u->b ∉ frs (envOfC qual scope s₀.heap.objs.size f cd::outer):=fun b u e z=>by rw[fre b z] at e; cases e
 have old:∀ b o,s₀.heap.get? b=some o->H₀ b=none->b ∉ frs outer->s.heap.get? b=some o/\H b=none/\b ∉ frs (envOfC qual scope s₀.heap.objs.size f cd::outer):=fun b o e n hb=>by
  refine⟨I.base.keep b o e n hb (fun z=>nomatch z),I.base.free b o e n (fun z=>nomatch z),fun z=>?_⟩
  rcases List.mem_cons.mp (I.pC b z) with z | z
  ·have:=OD (O4 e) I.ok.above
   rw[z] at this
   exact Qu _ this
  ·exact hb z
 have nx:∀ b u,H b=some u->u≠xO x C (some dx)->b≠x:=fun b u e ne z=>by
  subst z
  rw[hx] at e
  exact ne (Qh e).symm
 refine⟨x,C,dx,off H x,_,rfl,⟨I.os,I.bare,⟨F'.stay,F'.bx,F'.frs.2.2,F'.tr⟩,⟨fun b o e n hb _=>?_,fun b o e n hb _=>?_,fun b o e n _=>?_,fun b o e _=>?_,fun b xs' e=>?_,fun b o u e=>?_,fun b ps e=>?_⟩,?_,fun b o e n hb=>?_,fun b u e=>?_,if_pos rfl⟩,hE⟩
 ·obtain⟨e1,e2,e3⟩:=old b o e n hb
  exact F'.stay b o (inB b o e1 (fun z=>by rw[z,hx] at e2; cases e2) e3)
 ·obtain⟨sl,e1⟩:=I.base.slot b o e n hb (fun z=>nomatch z)
  obtain⟨_,o',ho',nf⟩:=I.ok.o4.mem hb
  have z:some o=some o':=e.symm.trans ho'
  cases z
  obtain⟨sl',e2⟩:=u'.sl b _ e1 nf
  exact⟨sl',e2⟩
 ·have z:=I.base.free b o e n (fun z=>nomatch z)
  unfold off
  split
  ·rfl
  ·exact z
 ·obtain⟨o1,e1⟩:=I.base.there b o e (fun z=>nomatch z)
  exact u'.th b o1 e1
 ·have z:=I.base.tups b xs' e
  rw[off_ne (nx b _ z (fun q=>nomatch q))]
  exact z
 ·have z:=I.base.frzs b o u e
  rw[off_ne (nx b _ z (fun q=>nomatch q))]
  exact z
 ·obtain⟨more,z⟩:=I.base.tbls b ps e
  exact⟨more,by rw[off_ne (nx b _ z (fun q=>nomatch q))]; exact z⟩
 ·refine my I.hok (fun b u e=>(pW e).2) (fun b a e=>by rw[off_ne (nx b _ e (fun q=>nomatch q))]; exact e) (fun b xs' e=>by rw[off_ne (nx b _ e (fun q=>nomatch q))]; exact e) fun b u o e q=>?_
  obtain⟨h1,h2⟩:=pW e
  exact F'.stay b o (inB b o q h1 (tk b u h2))
 ·obtain⟨e1,e2,e3⟩:=old b o e n hb
  exact inB b o e1 (fun z=>by rw[z,hx] at e2; cases e2) e3
 ·obtain⟨h1,h2⟩:=pW e
  obtain⟨o,e1⟩:=pJ (I.hok b u h2)
  have e2:=inB b o e1 h1 (tk b u h2)
  exact⟨o,F'.stay b o e2,e2⟩
end
end L2
namespace L2
open PySem PySem.Spec PyProof.Rows
section
variable {P:O9} {w:Qd} {K:Py} {mg:Px->Option Value} {base:Qo} {N:List Px} {qual:Px} {scope:RD} {f:Addr} {cd:Value} {A:Qc} {outer:List Vb} {s₀:Ov} {H₀:Hp} {E:XK}
theorem cY:Passes (XL P w) (vQ (XL P w) P w K mg base N qual scope f cd A outer s₀ H₀ E) E:=by
 intro pins σ H s e s' I hl
 obtain⟨x,C,dx,H',B,rfl,Li,hE⟩:=hl
 show O3 (O5 P w) _ (leaving _ (.ref x)) _ _ s'
 refine xT (outer:=outer) (L:=s₀.heap.objs.size) I.ok.frames rfl Li.fly fun h' F' u'=>?_
 have old:∀ b o,s₀.heap.get? b=some o->H₀ b=none->b ∉ frs outer->s.heap.get? b=some o/\H b=none/\b ∉ frs (envOfC qual scope s₀.heap.objs.size f cd::outer):=fun b o e n hb=>by
  refine⟨I.base.keep b o e n hb (fun z=>nomatch z),I.base.free b o e n (fun z=>nomatch z),fun z=>?_⟩
  rcases List.mem_cons.mp (I.pC b z) with z | z
  ·have:=OD (O4 e) I.ok.above
   rw[z] at this
   exact Qu _ this
  ·exact hb z
 have inS:∀ b,b∈frs outer->b∈frs (envOfC qual scope s₀.heap.objs.size f cd::outer):=fun b hb=>by
  obtain⟨en,h1,h2⟩:=List.mem_filterMap.mp hb
  exact List.mem_filterMap.mpr ⟨en,Pb _ h1,h2⟩
 refine⟨x,C,dx,H',B,rfl,⟨Li.os.trans I.os,Li.bare,⟨F'.stay,F'.bx,F'.frs.2.2,F'.tr⟩,⟨fun b o e n hb _=>?_,fun b o e n hb _=>?_,fun b o e n _=>?_,fun b o e _=>?_,fun b xs' e=>Li.un.tups b xs' (I.base.tups b xs' e),fun b o u e=>Li.un.frzs b o u (I.base.frzs b o u e),fun b ps e=>?_⟩,?_,fun b o e n hb=>?_,fun b u e=>?_,Li.xn⟩,hE⟩
 ·obtain⟨e1,e2,e3⟩:=old b o e n hb
  exact F'.stay b o (Li.kb b o e1 e2 e3)
 ·obtain⟨sl,e1⟩:=I.base.slot b o e n hb (fun z=>nomatch z)
  have n1:=I.base.free b o e n (fun z=>nomatch z)
  obtain⟨_,o',ho',nf⟩:=I.ok.o4.mem hb
  have z:some o=some o':=e.symm.trans ho'
  cases z
  obtain⟨sl1,e2⟩:=Li.un.slot b _ e1 n1 (inS b hb) (fun z=>nomatch z)
  obtain⟨sl2,e3⟩:=u'.sl b _ e2 nf
  exact⟨sl2,e3⟩
 ·have n1:=I.base.free b o e n (fun z=>nomatch z)
  obtain⟨o1,e1⟩:=I.base.there b o e (fun z=>nomatch z)
  exact Li.un.free b o1 e1 n1 (fun z=>nomatch z)
 ·obtain⟨o1,e1⟩:=I.base.there b o e (fun z=>nomatch z)
  obtain⟨o2,e2⟩:=Li.un.there b o1 e1 (fun z=>nomatch z)
  exact u'.th b o2 e2
 ·obtain⟨m1,z⟩:=I.base.tbls b ps e
  obtain⟨m2,z2⟩:=Li.un.tbls b _ z
  exact⟨m1++m2,by rw[z2,Vl]⟩
 ·refine my Li.hok (fun _ _ e=>e) (fun _ _ e=>e) (fun _ _ e=>e) fun b u o e q=>?_
  obtain⟨o',e1,e2⟩:=Li.hb b u e
  rw[e1] at q
  cases q
  exact F'.stay b _ e2
 ·obtain⟨e1,e2,e3⟩:=old b o e n hb
  exact Li.kb b o e1 e2 e3
 ·obtain⟨o',e1,e2⟩:=Li.hb b u e
  exact⟨o',F'.stay b _ e2,e2⟩
end
end L2
namespace L2
open PySem PySem.Spec PyProof.Rows
theorem Lie.on {P:O9} {w:Qd} {l:List Vb} {H H':Hp} {s s':Ov} {x C dx:Addr} {B B0 h':Qo} (Li:Lie P w l H s x C dx H' B s') (F':Fly B l x C dx .none h') (u':Up s'.heap h') (ff:s.heap.FunFrames B0 l) :
  Lie P w l H s x C dx H' B { s' with heap:=h' }:=by
 refine⟨Li.os,Li.bare,F',⟨fun b o e n hb _=>F'.stay b o (Li.kb b o e n hb),fun b o e n hb _=>?_,fun b o e n _=>Li.un.free b o e n (fun z=>nomatch z),fun b o e _=>?_,Li.un.tups,Li.un.frzs,Li.un.tbls⟩,?_,Li.kb,fun b u e=>?_,Li.xn⟩
 ·obtain⟨sl,e2⟩:=Li.un.slot b o e n hb (fun z=>nomatch z)
  obtain⟨_,o',ho',nf⟩:=ff.mem hb
  have z:some o=some o':=e.symm.trans ho'
  cases z
  obtain⟨sl2,e3⟩:=u'.sl b _ e2 nf
  exact⟨sl2,e3⟩
 ·obtain⟨o2,e2⟩:=Li.un.there b o e (fun z=>nomatch z)
  exact u'.th b o2 e2
 ·refine my Li.hok (fun _ _ e=>e) (fun _ _ e=>e) (fun _ _ e=>e) fun b u o e q=>?_
  obtain⟨o',e1,e2⟩:=Li.hb b u e
  rw[e1] at q
  cases q
  exact F'.stay b _ e2
 ·obtain⟨o',e1,e2⟩:=Li.hb b u e
  exact⟨o',F'.stay b _ e2,e2⟩
def cO (x C dx:Addr):HO:=.ext fun h=>∃ vs sl,h.get? x=some { cls:=.ref C,dict:=some dx,data:=.fields vs,slots:=sl }
theorem MP {P:O9} {w:Qd} {H:Hp} {h:Qo} {x C dx:Addr} {vs:Array Value} {sl:Array (Option Value)} (e:h.get? x=some { cls:=.ref C,dict:=some dx,data:=.fields vs,slots:=sl }):cU P w H h x (cO x C dx) :=
 ⟨⟨vs,sl,e⟩,⟨_,e⟩,fun h1 h2 ⟨vs',sl',e'⟩ k=>⟨vs',sl',k _ e'⟩⟩
abbrev Cx.marked (X:Cx) (x:Addr):Cx:={ X with A:=X.A.mark (some (.ref x)),calm:=false,xe:=fun _ _=>False }
theorem Cx.Ok.marked {X:Cx} (ok:X.Ok) (x:Addr):(X.marked x).Ok :=
 ⟨ok.mod,ok.kind,ok.glob,ok.blt,ok.above,ok.inj,ok.has,ok.cab,(fun z=>nomatch z),ok.frames,ok.stk,ok.exf,ok.bs,ok.bsz,ok.noex,ok.exfs,ok.o4,ok.frf⟩
theorem Cx.Ok.unmarked {X:Cx} {x:Addr} (hd:X.calm=true->X.A.handled=none) (ok:(X.marked x).Ok):X.Ok :=
 ⟨ok.mod,ok.kind,ok.glob,ok.blt,ok.above,ok.inj,ok.has,ok.cab,hd,ok.frames,ok.stk,ok.exf,ok.bs,ok.bsz,ok.noex,ok.exfs,ok.o4,ok.frf⟩
section
variable {X:Cx} {pins:List (Addr × Rx)} {σ:St} {H H':Hp} {s s':Ov} {x C dx:Addr} {B:Qo}
theorem Inv.marked (I:Inv X pins σ H s) (x:Addr):Inv (X.marked x) pins σ H s:=⟨I.ok.marked x,I.os,I.bare,I.base,I.loc,I.cell,I.free,I.freeC,I.pin,I.hok,I.len⟩
theorem Inv.unmarked (I:Inv (X.marked x) pins σ H s) (hd:X.calm=true->X.A.handled=none):Inv X pins σ H s:=⟨I.ok.unmarked hd,I.os,I.bare,I.base,I.loc,I.cell,I.free,I.freeC,I.pin,I.hok,I.len⟩
theorem Lie.back (I:Inv X pins σ H s) (Li:Lie X.prog X.w X.stack H s x C dx H' B s'):Inv X pins σ (upd H' x (cO x C dx)) s':=by
 have J:=I.call' (s':=s') (ch:=[]) Li.os Li.un Li.hok Li.bare (fun b z=>nomatch z)
 obtain⟨vs,T,oT,ts,sl,ex,_⟩:=Li.fly.tr
 have xs:x ∉ frs X.stack:=fun z=>by
  obtain⟨_,o,ho,nf⟩:=Li.fly.frs.mem z
  rw[ex] at ho
  cases ho
  exact nf vs rfl
 have xl:x≠X.env.locals:=fun z=>by
  obtain⟨m,⟨o,es,ep,e,d,_⟩,_⟩:=J.loc
  rw[← z,ex] at e
  cases e
  cases d
 have out:∀ b o,s.heap.get? b=some o->H b=none->b≠x:=fun b o e n z=>by
  subst z
  have:=Li.kb b o e n xs
  rw[Li.fly.bx] at this
  cases this
 have hne:∀ b u,H' b=some u->b≠x:=fun b u e z=>by
  rw[z,Li.xn] at e
  cases e
 refine⟨J.ok,J.os,J.bare,⟨J.base.keep,J.base.slot,fun b o e n he=>?_,J.base.there,fun b xs' e=>?_,fun b o u e=>?_,fun b ps e=>?_⟩,J.loc,J.cell,?_,fun y c e=>?_,fun p hp=>?_,?_,J.len⟩
 ·have n1:=I.base.free b o e n he
  obtain⟨o1,e1⟩:=I.base.there b o e he
  rw[aN (out b o1 e1 n1)]
  exact J.base.free b o e n he
 ·have z:=J.base.tups b xs' e
  rw[aN (hne b _ z)]
  exact z
 ·have z:=J.base.frzs b o u e
  rw[aN (hne b _ z)]
  exact z
 ·obtain⟨m,z⟩:=J.base.tbls b ps e
  exact⟨m,by rw[aN (hne b _ z)]; exact z⟩
 ·rw[aN (QM xl)]
  exact J.free
 ·obtain⟨v,o,ho,hd⟩:=J.cell y c e
  have:c≠x:=fun z=>by
   rw[z,ex] at ho
   cases ho
   cases hd
  rw[aN this]
  exact J.freeC y c e
 ·obtain⟨e1,e2,e3⟩:=J.pin p hp
  obtain⟨i1,i2,i3⟩:=I.pin p hp
  refine⟨e1,?_,e3⟩
  rw[aN (out _ _ i1 i2)]
  exact e2
 ·intro b u e
  by_cases hb:b=x
  ·subst hb
   rw[ao] at e
   cases e
   exact MP ex
  ·rw[aN hb] at e
   refine (J.hok b u e).stay (fun _ _ _ q=>q) (fun c q=>?_) fun c xs' q=>?_
   ·rw[aN (hne c _ q)]
    exact q
   ·rw[aN (hne c _ q)]
    exact q
end
end L2
namespace L2
open PySem PySem.Spec PyProof.Rows
structure XRd (K:O1) (C G:Addr) (f:Px):Prop where
 obj:∃ nm q N bs bm hdct sn sub ab col dd k0 k1 k2 k3 k5 id,K.lookup C=some (R8 nm q C N bs bm hdct sn sub ab col dd k0 k1 k2 k3 k5 id)/\(Pg C::bm).contains (.ref G)=true
 top:∃ nm q N bs bm hdct sn sub ab col dd k0 k1 k2 k3 k5 id,K.lookup G=some (R8 nm q G N bs bm hdct sn sub ab col dd k0 k1 k2 k3 k5 id)/\bm.contains (.type "BaseException")=true
 ga:Qz K (.ref C) "__getattribute__" = some (some (.builtin "BaseException.__getattribute__"))
 gh:Qz K (.ref C) "__getattr__" = some none
 up:∃ cd,PySem.W.clsIn K C=some cd/\oG cd.mro=true
 hd:SQ K C=true
 no:Qz K (.ref C) f=some none
section
variable {M:Model} {A:Qc} {E:Value->Ov->Prop} {K:Py} {s:Ov} {C G x dx:Addr} {f:Px} {vs:Array Value} {sl:Array (Option Value)}
theorem Bb {Q:Bool->Ov->Prop} (X:K.In s.heap) (R:XRd K C G f) (he:s.heap.get? x=some { cls:=.ref C,dict:=some dx,data:=.fields vs,slots:=sl }) (hq:Q true s):O3 M A (excMatches (.ref x) (.ref G)) Q E s:=by
 obtain⟨n1,q1,N1,bs1,bm1,hd1,sn1,sub1,ab1,col1,dd1,a0,a1,a2,a3,a5,id1,l1,c1⟩:=R.obj
 obtain⟨n2,q2,N2,bs2,bm2,hd2,sn2,sub2,ab2,col2,dd2,b0,b1,b2,b3,b5,id2,l2,c2⟩:=R.top
 have h1:=X _ _ l1
 have h2:=X _ _ l2
 have cB:(Pg G::bm2).contains (.type "BaseException")=true:=by rw[Q9,c2,TF]
 have nt:=tc_notTuple
 obtain⟨hp,g,d,tk,os⟩:=s
 unfold excMatches
 repeat (first | with_reducible refine QV he ?_ | with_reducible refine QV h2 ?_ | (with_reducible refine RC h2 ?_; rw[cB]) | (with_reducible refine RC h1 ?_; rw[c1]) | wp_step)
 exact hq
end
theorem sS:∀ {l:List Value},oG l=true->l.contains (.type "BaseException")=true
 | [],h=>by cases h
 | a::r,h=>by
  rcases jB h with⟨c,rfl,h'⟩ | e
  ·rw[Q9,sS h',TF]
  ·rw[e]
   rfl
section
variable {prog:O9} {w:Qd} {A:Qc} {E:Value->Ov->Prop} {K:Py} {s:Ov} {C G x:Addr} {ox:Rx} {od:Option Rx} {f:Px} {expr:Bool} {v:Value}
theorem HR {Q:Value->Ov->Prop} (X:K.In s.heap) (R:XRd K C G f) (I:W.InstAt s.heap x ox C od) (hf:W.findObj K C od f=some (.value v)) (hh:W.handedIn v=true) (h:Q v { s with toks:=s.toks+1 }) :
  O3 (O5 prog w) A (getAttr (.ref x) f expr) Q E s:=by
 obtain⟨cd,hc,hu⟩:=R.up
 have ne:cd.mro.isEmpty=false:=by cases q:cd.mro with | nil=>rw[q] at hu; cases hu | cons _ _=>rfl
 have sub:Wo (O5 prog w) s.heap (isInstance (.ref x) (.type "BaseException")) true:=I.type.andThen (PySem.W.looks_mroIn X (by unfold PySem.W.mroIn; rw[hc,Option.bind_some,if_neg (by rw[ne]; decide),sS hu]))
 have L0:=I.type (M:=O5 prog w)
 have L1:=Tn (M:=O5 prog w) X R.ga
 have L2:=Tn (M:=O5 prog w) X R.gh
 have L3:=PySem.W.looks_find (M:=O5 prog w) X I hf
 obtain⟨hp,g,d,t,os⟩:=s
 unfold getAttr getAttrBy
 refine Ou (wpAny_mkText (QC (Ou (L0.at (Ou (L1.at ?_))))))
 show O3 _ _ (if (onTheHeap (Pg C) && (Wn "BaseException.__getattribute__" == Wn "object.__getattribute__"))=true then _ else getAttrByItsOwn (.ref x) (.str f t) (.ref C) (.builtin "BaseException.__getattribute__") true expr) _ _ _
 have nb:(Wn "BaseException.__getattribute__" == Wn "object.__getattribute__")=false:=by decide+kernel
 rw[nb,Tt,if_neg O2]
 unfold getAttrByItsOwn
 refine Ou (m:=hookBefore (.ref C)) (show O3 _ _ (Vf (.ref C) "__getattr__") _ _ _ from L2.at ?_)
 refine Ou (TV (QC ?_))
 have ec:callGetattribute (.ref x) (.str f t) (.builtin "BaseException.__getattribute__") expr=boundAndCalled (.builtin "BaseException.__getattribute__") (.ref x) (.str f t):=by
  unfold callGetattribute
  rw[if_neg (by cases expr <;> decide)]
 rw[ec]
 unfold boundAndCalled
 rw[PySem.F.attr_ValueError.ga.bind (.ref x)]
 refine Ou (Oz (Td (Te PySem.F.attr_ValueError.ga.plain PySem.F.entry_bexc_ga (@PySem.W.check_slot (O5 prog w) _ _ ⟨hp,g,d,t+1,os⟩ "BaseException.__getattribute__" "BaseException" "__getattribute__" (.ref x) [.str f t] [] _ (by decide+kernel) (by decide+kernel) sub (PySem.F.args_bexc_ga _ _) ?_))))
 unfold Sq.«object.__getattribute__»
 refine Ou (Oz (Ou (Oz (Ou (L0.at (Ou (L3.at ?_)))))))
 refine Oz ?_
 show O3 _ _ (handedOut v) _ _ _
 rw[PySem.W.handedOut_of hh]
 exact Oz h
end
section
variable {X:Cx} {e:Expr} {f:Px} {pos:Ut} {ta:TE}
def KC (K:Py) (ta:TE) (f:Px):TE:=fun σ H Q=>ta σ H fun x H1=>∃ a C G dx fs v,x = .ref a/\H1 a=some (cO a C dx)/\H1 dx=some (.xd fs)/\XRd K C G f/\fs.lookup f=some v/\Q v H1
theorem Iv (he:PE X e ta) (hb:Vr e f X.env (QZ e X.env)=QZ e X.env):PE X (.Attribute e f pos) (KC X.K ta f):=by
 intro pins s σ H Q I h
 refine Aa hb (thn (he pins s σ H _ I h) fun u s1 ⟨x,H1,I1,rx,a,C,G,dx,fs,v,ex,ea,ed,R,l,q⟩=>?_)
 subst ex
 obtain rfl:u=Pg a:=rx
 obtain⟨⟨vs,sl,e0⟩,_⟩:=I1.hok a _ ea
 obtain⟨mA,N,r⟩:=I1.hok dx _ ed
 obtain⟨u,hu,ru⟩:=pY.some_of (v:=v) (o:=mA f) (by rw[← l]; exact r f)
 obtain⟨od,ho,hl⟩:=sU N
 have J:PySem.W.InstAt s1.heap a { cls:=.ref C,dict:=some dx,data:=.fields vs,slots:=sl } C (some od):=⟨e0,rfl,rfl,ho⟩
 exact HR I1.kIn R J (PySem.W.findObj_own R.hd R.no rfl (by rw[hl,hu])) (sV ru) ⟨v,H1,I1.tok _,ru,q⟩
end
theorem Inv.forget {X:Cx} {pins:List (Addr × Rx)} {σ:St} {H:Hp} {s:Ov} {h':Qo} {m':Px->Option Value} {tk:Nat} (I:Inv X pins σ H s) (hn:h'.Ns X.env.locals m') (hs:Sh X.env.locals s.heap h') :
  Inv X pins (QL X.N.length none) H { s with heap:=h',toks:=tk }:=by
 have old:∀ b o,X.s₀.heap.get? b=some o->b≠X.env.locals:=fun b o e=>Pa (OD (O4 e) I.ok.above)
 refine⟨I.ok,I.os,I.bare,⟨fun b o e n hb hx=>(hs.2 b (old b o e)).trans (I.base.keep b o e n hb hx),fun b o e n hb hx=>?_,I.base.free,fun b o e hx=>?_,I.base.tups,I.base.frzs,I.base.tbls⟩,⟨m',hn,fun j y v e1 e2=>?_⟩,fun y c e=>?_,I.free,I.freeC,fun p hp=>?_,fun b ob e=>?_,by simp⟩
 ·obtain⟨sl,e1⟩:=I.base.slot b o e n hb hx
  exact⟨sl,(hs.2 b (old b o e)).trans e1⟩
 ·obtain⟨o',e1⟩:=I.base.there b o e hx
  exact⟨o',(hs.2 b (old b o e)).trans e1⟩
 ·rw[VB] at e2
  split at e2 <;> cases e2
 ·obtain⟨v,z⟩:=I.cell y c e
  exact⟨v,z.sameBut hs (I.cne y c e)⟩
 ·obtain⟨e1,e2,e3,e4⟩:=I.pin p hp
  exact⟨(hs.2 _ e3).trans e1,e2,e3,e4⟩
 ·refine (I.hok b ob e).stay (fun c o hc q=>(hs.2 c ?_).trans q) (fun _ q=>q) fun _ _ q=>q
  rintro rfl
  rcases hc with rfl | hc
  ·rw[I.free] at e; cases e
  ·rw[I.free] at hc; cases hc
section
variable {X:Cx} {pins:List (Addr × Rx)} {σ:St} {H H':Hp} {s s':Ov} {x C G dx:Addr} {B:Qo} {c n f:Px} {p p1 p2 p3 p4 pos:Ut} {k:Nat} {i:Nat} {D:Ends} {fs:List (Px × V)} {v:V}
theorem zP (I:Inv X pins σ H s) (Li:Lie X.prog X.w X.stack H s x C dx H' B s') (stk:X.stack=X.env::X.outer/\X.env.frame=some X.env.locals) (R:XRd X.K C G f) (hg:Gl X c) (hm:X.mg c=some (.ref G)) (hN:X.N.Nodup) (hi:X.N[i]? = some n)
  (hl:X.env.scope.names.lookup n=some .local) (ed:H' dx=some (.xd fs)) (l:fs.lookup f=some v) (q:∀ (u:HO) (a:Addr),upd H' x u a=none->D.rt (.ref a) (upd (upd H' x u) a (.tup [v])))
  (hd:(c == ("__debug__" : Px))=false:=by decide) (hd1:(n == ("__debug__" : Px))=false:=by decide) (hd2:(n == ("__classdict__" : Px))=false:=by decide) :
  O3 (O5 X.prog X.w) X.A (U9 (.ref x) X.env) (fun _ s2=>O3 (O5 X.prog X.w) X.A (setFlight (.ref x) none) (fun _ s3 =>
   O3 (O5 X.prog X.w) X.A (handleBy (.ref x) X.env [.ExceptHandler (some (.Name c p)) (some n) [.Return (some (.Tuple [.Attribute (.Name n p1) f p2] k p3)) p4] pos]) (SP X pins D) X.xe s3) X.xe s2) X.xe s':=by
 have fr:X.A.frames=some (X.env::X.outer):=by rw[I.ok.frames,stk.1]
 have fl0:Fly B (X.env::X.outer) x C dx .none s'.heap:=stk.1▸Li.fly
 refine wZ fr stk.2 fl0 fun h1 F1 u1=>?_
 refine lZ (s:={ s' with heap:=h1 }) F1 fun h2 F2 u2=>?_
 have fl2:Fly B X.stack x C dx .none h2:=stk.1.symm▸F2
 have L2:=Li.on fl2 (u1.trans u2) I.stack
 have I2:=(L2.back I).marked x
 obtain⟨vs,T,oT,ts,sl,ex2,_⟩:=F2.tr
 refine wpAny_handleBy_cons (codeAny_handlers_test ?_) (by intro q; cases q)
 refine gP I2 hg hm ?_ hd
 refine Bb I2.kIn R ex2 ?_
 rw[if_pos rfl]
 refine codeAny_handlers_suite_as ?_
 refine lZ (s:={ s' with heap:=h2 }) F2 fun h3 F3 u3=>?_
 have fl3:Fly B X.stack x C dx .none h3:=stk.1.symm▸F3
 have L3:=Li.on fl3 ((u1.trans u2).trans u3) I.stack
 have I3:=(L3.back I).marked x
 refine qN (X:=X.marked x) (v:=.ref x) I3 hN hi (.inl hl) rfl (fun s4 I4=>?_) (.inr hl)
 have hiσ:i < σ.length:=by
  have:=I.len
  rw[this]
  exact (List.getElem?_eq_some_iff.mp hi).1
 have dxx:dx≠x:=fun z=>by
  rw[z,Li.xn] at ed
  cases ed
 have P:PSs (X.marked x) [.Return (some (.Tuple [.Attribute (.Name n p1) f p2] k p3)) p4] (Nk (Ng (Fb (KC X.K (KN i) f) Gp))) :=
  aq (aJ (bM (aa (Iv (Gu (X:=X.marked x) hi (.inl hl) hd1 hd2) rfl) ak)))
 refine Qm (P pins s4 (σ.set i (some (.ref x))) _ { nx:=fun _ _=>False,rt:=D.rt } I4 ?_) (fun fl s5 h5=>?_) fun _ _ z=>z.elim
 ·refine⟨.ref x,Ur hiσ,⟨x,C,G,dx,fs,v,rfl,ao,(aN dxx).trans ed,R,l,?_⟩⟩
  exact⟨by rw[Xr]; show 1<=_; lia,fun a ha=>q _ a ha⟩
 ·cases fl with
  | next=>obtain⟨_,_,_,z⟩:=h5; exact Qi z
  | brk=>obtain⟨_,_,_,z⟩:=h5; exact Qi z
  | cont=>obtain⟨_,_,_,z⟩:=h5; exact Qi z
  | ret u =>
   obtain⟨v5,σ5,H5,I5,r5,q5⟩:=h5
   have J5:Inv X pins σ5 H5 s5:=I5.unmarked I.ok.hd
   obtain⟨m,hn,_⟩:=id J5.loc
   exact wpAny_nameGoes hl hn (by rw[I.ok.kind]; rfl) fun h6 m6 hn6 hs6=>⟨v5,_,H5,J5.forget hn6 hs6,r5,q5⟩
end
end L2
namespace L2
open PySem PySem.Spec PyProof.Rows
abbrev Cx.held (X:Cx) (pn:List (Addr × Rx)) (E:Value->Ov->Prop):Cx:={ X with pn:=pn,xe:=E }
section
variable {X:Cx} {pins ps qs:List (Addr × Rx)} {σ:St} {H:Hp} {s:Ov} {E:Value->Ov->Prop}
theorem Inv.hold (I:Inv X pins σ H s):Inv (X.held (X.pn++pins) E) [] σ H s :=
 ⟨⟨I.ok.mod,I.ok.kind,I.ok.glob,I.ok.blt,I.ok.above,I.ok.inj,I.ok.has,I.ok.cab,I.ok.hd,I.ok.frames,I.ok.stk,I.ok.exf,I.ok.bs,I.ok.bsz,I.ok.noex,I.ok.exfs,I.ok.o4,I.ok.frf⟩,I.os,I.bare,I.base,I.loc,I.cell,I.free,I.freeC,fun p hp=>I.pin p (by simpa using hp),I.hok,I.len⟩
theorem Inv.mL (I:Inv (X.held (X.pn++pins) E) qs σ H s):Inv X pins σ H s :=
 ⟨⟨I.ok.mod,I.ok.kind,I.ok.glob,I.ok.blt,I.ok.above,I.ok.inj,I.ok.has,I.ok.cab,I.ok.hd,I.ok.frames,I.ok.stk,I.ok.exf,I.ok.bs,I.ok.bsz,I.ok.noex,I.ok.exfs,I.ok.o4,I.ok.frf⟩,I.os,I.bare,I.base,I.loc,I.cell,I.free,I.freeC,fun p hp=>I.pin p (UT _ hp),I.hok,I.len⟩
theorem SP.mL {D:Ends} {f:Flow} (h:SP (X.held (X.pn++pins) E) qs D f s):SP X pins D f s:=by
 cases f with
 | next=>obtain⟨a,b,I,q⟩:=h; exact⟨a,b,I.mL,q⟩
 | brk=>obtain⟨a,b,I,q⟩:=h; exact⟨a,b,I.mL,q⟩
 | cont=>obtain⟨a,b,I,q⟩:=h; exact⟨a,b,I.mL,q⟩
 | ret u=>obtain⟨v,a,b,I,r,q⟩:=h; exact⟨v,a,b,I.mL,r,q⟩
end
def XW (K:Py) (G:Addr) (f:Px) (R:VK):XK:=fun Cv dx' H=>∃ C dx fs v,Cv = .ref C/\dx'=some dx/\XRd K C G f/\H dx=some (.xd fs)/\fs.lookup f=some v/\∀ (x:Addr) (u:HO) (a:Addr),H x=none->upd H x u a=none->R (.ref a) (upd (upd H x u) a (.tup [v]))
def Ot (K:Py) (G:Addr) (f:Px) (t:XK->TS):TS:=fun D σ H=>t (XW K G f D.rt) D σ H
section
variable {X:Cx} {G:Addr} {c n f:Px} {p p1 p2 p3 p4 pos pos':Ut} {k:Nat} {body:List Stmt} {t:XK->TS}
theorem Jq (i:Nat) (stk:X.stack=X.env::X.outer/\X.env.frame=some X.env.locals) (hg:Gl X c) (hm:X.mg c=some (.ref G)) (hN:X.N.Nodup) (hi:X.N[i]? = some n) (hl:X.env.scope.names.lookup n=some .local)
  (hb:∀ (pn:List (Addr × Rx)) (E:Value->Ov->Prop) (W:XK),Passes (XL X.prog X.w) (X.held pn E) W->PSs (X.held pn E) body (t W))
  (hd:(c == ("__debug__" : Px))=false:=by decide) (hd1:(n == ("__debug__" : Px))=false:=by decide) (hd2:(n == ("__classdict__" : Px))=false:=by decide) :
  PS X (.Try body [.ExceptHandler (some (.Name c p)) (some n) [.Return (some (.Tuple [.Attribute (.Name n p1) f p2] k p3)) p4] pos] [] [] pos') (Ot X.K G f t):=by
 intro pins s σ H D I h
 refine wpAny_Try_except ?_
 let E:Value->Ov->Prop:=fun e s'=>∃ (pins':List (Addr × Rx)) (σ':St) (H1:Hp) (s1:Ov),Inv X pins σ' H1 s1/\XL X.prog X.w X.stack H1 s1 (XW X.K G f D.rt) e s'
 have P:Passes (XL X.prog X.w) (X.held (X.pn++pins) E) (XW X.K G f D.rt):=fun pins' σ' H1 s1 e s' J q=>⟨pins',σ',H1,s1,J.mL,q⟩
 refine Qm (hb _ E _ P [] s σ H D I.hold h) (fun fl s1 q=>?_) fun e s1 q=>?_
 ·have q':=q.mL
  cases fl with
  | next=>exact VN q'
  | brk=>exact q'
  | cont=>exact q'
  | ret u=>exact q'
 ·obtain⟨_,σ',H1,s0,J,x,C,dx,H',B,rfl,Li,C',dx',fs,v,e1,e2,R,ed,l,w⟩:=q
  cases e1
  cases e2
  exact zP J Li stk R hg hm hN hi hl ed l (fun u a ha=>w x u a Li.xn ha) hd hd1 hd2
end
end L2
namespace L2
open PySem PySem.Spec PyProof.Rows
theorem Fi {X:Cx} {E:XK} (st:X.stack=X.env::X.outer/\X.env.frame=some X.env.locals) (hex:X.ex=[])
  (hxe:∀ e s',O3 (O5 X.prog X.w) X.A (leaving X.env e) (fun _ s2=>XL X.prog X.w X.outer X.H₀ X.s₀ E e s2) (fun e2 s2=>XL X.prog X.w X.outer X.H₀ X.s₀ E e2 s2) s'->X.xe e s'):Passes (XL X.prog X.w) X E:=by
 intro pins σ H s e s' I hl
 obtain⟨x,C,dx,H',B,rfl,Li,hE⟩:=hl
 have nex:∀ b,b ∉ X.ex:=fun b z=>by
  rw[hex] at z
  cases z
 have fl0:Fly B (X.env::X.outer) x C dx .none s'.heap:=st.1▸Li.fly
 refine hxe _ _ (xT (outer:=X.outer) (by rw[I.ok.frames,st.1]) st.2 fl0 fun h' F' u'=>?_)
 have old:∀ b o,X.s₀.heap.get? b=some o->X.H₀ b=none->b ∉ X.fs->s.heap.get? b=some o/\H b=none/\b ∉ frs X.stack:=fun b o e n hb=>by
  refine⟨I.base.keep b o e n hb (nex b),I.base.free b o e n (nex b),fun z=>?_⟩
  rcases List.mem_cons.mp (I.pC b z) with z | z
  ·have:=OD (O4 e) I.ok.above
   rw[z] at this
   exact Qu _ this
  ·exact hb z
 have inS:∀ b,b∈X.fs->b∈frs X.stack:=fun b hb=>by
  obtain⟨en,h1,h2⟩:=List.mem_filterMap.mp hb
  rw[st.1]
  exact List.mem_filterMap.mpr ⟨en,Pb _ h1,h2⟩
 refine⟨x,C,dx,H',B,rfl,⟨Li.os.trans I.os,Li.bare,⟨F'.stay,F'.bx,F'.frs.2.2,F'.tr⟩,⟨fun b o e n hb _=>?_,fun b o e n hb _=>?_,fun b o e n _=>?_,fun b o e _=>?_,fun b l e=>Li.un.tups b l (I.base.tups b l e),fun b o u e=>Li.un.frzs b o u (I.base.frzs b o u e),fun b ps e=>?_⟩,?_,fun b o e n hb=>?_,fun b u e=>?_,Li.xn⟩,hE⟩
 ·obtain⟨e1,e2,e3⟩:=old b o e n hb
  exact F'.stay b o (Li.kb b o e1 e2 e3)
 ·obtain⟨sl,e1⟩:=I.base.slot b o e n hb (nex b)
  have n1:=I.base.free b o e n (nex b)
  obtain⟨_,o',ho',nf⟩:=I.ok.o4.mem hb
  have z:some o=some o':=e.symm.trans ho'
  cases z
  obtain⟨sl1,e2⟩:=Li.un.slot b _ e1 n1 (inS b hb) (fun z=>nomatch z)
  obtain⟨sl2,e3⟩:=u'.sl b _ e2 nf
  exact⟨sl2,e3⟩
 ·obtain⟨o1,e1⟩:=I.base.there b o e (nex b)
  exact Li.un.free b o1 e1 (I.base.free b o e n (nex b)) (fun z=>nomatch z)
 ·obtain⟨o1,e1⟩:=I.base.there b o e (nex b)
  obtain⟨o2,e2⟩:=Li.un.there b o1 e1 (fun z=>nomatch z)
  exact u'.th b o2 e2
 ·obtain⟨m1,z⟩:=I.base.tbls b ps e
  obtain⟨m2,z2⟩:=Li.un.tbls b _ z
  exact⟨m1++m2,by rw[z2,Vl]⟩
 ·refine my Li.hok (fun _ _ e=>e) (fun _ _ e=>e) (fun _ _ e=>e) fun b u o e q=>?_
  obtain⟨o',e1,e2⟩:=Li.hb b u e
  rw[e1] at q
  cases q
  exact F'.stay b _ e2
 ·obtain⟨e1,e2,e3⟩:=old b o e n hb
  exact Li.kb b o e1 e2 e3
 ·obtain⟨o',e1,e2⟩:=Li.hb b u e
  exact⟨o',F'.stay b _ e2,e2⟩
def vA (CX:CXT) (P:O9) (w:Qd) (K:Py) (mg:Px->Option Value) (base:Qo) (N:List Px) (qual:Px) (scope:RD) (f:Addr) (cd:Value) (cl:List (Px × Addr)) (A:Qc) (outer:List Vb) (s:Ov) (H:Hp) (E:XK):Cx :=
 let env:=PySem.W.envX qual scope s.heap.objs.size f cd cl
 {prog:=P,w:=w,K:=K,mg:=mg,base:=base,A:=A.deeper env,N:=N,s₀:=s,H₀:=H,env:=env,outer:=outer,stack:=env::outer,ex:=[],calm:=true,fn:=fun _=>false,pn:=[],
  xe:=fun e s'=>O3 (O5 P w) (A.deeper env) (leaving env e) (fun _ s2=>CX outer H s E e s2) (fun e2 s2=>CX outer H s E e2 s2) s' }
theorem yO {P:O9} {w:Qd} {K:Py} {mg:Px->Option Value} {base:Qo} {N:List Px} {qual:Px} {scope:RD} {f:Addr} {cd:Value} {cl:List (Px × Addr)} {A:Qc} {outer:List Vb} {s:Ov} {H:Hp} {E:XK} :
  Passes (XL P w) (vA (XL P w) P w K mg base N qual scope f cd cl A outer s H E) E :=
 Fi (X:=vA (XL P w) P w K mg base N qual scope f cd cl A outer s H E) ⟨rfl,rfl⟩ rfl fun _ _ z=>z
structure Kc (N:List Px) (sc:RD):Prop where
 kind:sc.kind = .function
 co:sc.isCoroutine=false
 gen:sc.isGenerator=false
 cell:∀ y∈sc.names,y.2≠.cell
 fr:∀ x∈N,sc.names.lookup x=some .free
structure Oo (N:List Px) (sc:RD) (cl:List (Px × Addr)) (σ:St) (H:Hp) (h:Qo):Prop where
 inj:∀ x y c,cl.lookup x=some c->cl.lookup y=some c->x=y
 has:∀ y∈sc.names,y.2 = .free->∃ c,cl.lookup y.1=some c
 cells:∀ x c,cl.lookup x=some c->(∃ v,h.IsCell c v)/\H c=none
 vals:∀ (i:Nat) (x:Px) (v:V),N[i]? = some x->σ[i]? = some (some v)->∃ c u,cl.lookup x=some c/\h.IsCell c (some u)/\RelV v u
 len:σ.length=N.length
theorem Hu {CX:CXT} {P:O9} {w:Qd} {K:Py} {mg:Px->Option Value} {base:Qo} {k:Nat} {N:List Px} {name qual:Px} {params:Wd} {body:Expr} {scope:RD} {cl:List (Px × Addr)} {pm ctv:Value} {c' f:Addr} {A:Qc} {outer:List Vb} {s:Ov} {σ:St} {H:Hp} {Q:VK} {E:XK} {te:TE}
  (hr:dG (k+1) A) (e0:Ds P w K mg base A outer s H) (ho:s.heap.get? f=some (W.kla_obj name qual params body scope cl pm c' ctv)) (hcd:s.heap.CodeRec (.ref c') qual)
  (hb:TX (W.kla_fn name qual params body scope cl pm (.ref c') ctv) ⟨[],[]⟩=pure []) (S:Kc N scope) (C:Oo N scope cl σ H s.heap)
  (hp:PE (vA CX P w K mg base N qual scope f (.ref c') cl A outer s H E) body te) (h:te σ H Q):QF (O5 P w) A (.call (.ref f) ⟨[],[]⟩) (CR CX outer P w H s Q E) s:=by
 have lim:s.heap.NoLimit:=e0.mod.nolimit.keeps fun b o e=>(e0.bs b o e).1
 refine PySem.W.kla_callFunE hr.depth ho rfl S.co S.gen rfl hcd ?_
 rw[hb]
 refine Oz (V4 S.cell (fun y hy=>nomatch hy) (fun h1 ns sb=>⟨lim.fresh _ sb,?_⟩) S.kind)
 have kp:∀ b o,s.heap.get? b=some o->h1.get? b=some o:=fun b o e=>sb.extBut b o (Pa (O4 e)) (Ox _ e)
 have noA:∀ b:Addr,b ∉ (vA CX P w K mg base N qual scope f (.ref c') cl A outer s H E).ex:=fun b z=>nomatch z
 have I:Inv (vA CX P w K mg base N qual scope f (.ref c') cl A outer s H E) [] σ H { s with heap:=h1,toks:=s.toks+0 }:=by
  refine⟨⟨e0.mod,S.kind,rfl,rfl,OJ _,C.inj,fun y hy=>?_,fun y c z=>absurd (show false=true from z) O2,fun _=>hr.hd,Around.frames_deeper e0.frames,.inr ⟨rfl,rfl⟩,fun b z=>absurd z (noA b),e0.bs,e0.bsz,fun b _ _=>noA b,fun b z=>absurd z (noA b),e0.o4,e0.frf⟩,
   rfl,e0.bare,Un.kept kp,⟨_,ns,fun i y v q1 q2 _=>?_⟩,fun y c e=>?_,e0.hok.fresh (OJ _),fun y c e=>(C.cells y c e).2,(fun p z=>nomatch z),e0.hok.kept kp,C.len⟩
  ·rcases hy with hy | hy
   ·exact absurd rfl (S.cell _ (Qt (show scope.names.lookup y=some .cell from hy)))
   ·exact C.has _ (Qt (show scope.names.lookup y=some .free from hy)) rfl
  ·obtain⟨c,u,e1,⟨o,e2,e3⟩,r⟩:=C.vals i y v q1 q2
   exact⟨u,r,.inr ⟨.inr (S.fr y (Qe q1)),c,e1,o,kp _ _ e2,e3⟩⟩
  ·obtain⟨⟨v,o,e1,e2⟩,_⟩:=C.cells y c e
   exact⟨v,o,kp _ _ e1,e2⟩
 refine PySem.W.kla_codeExpr (Qm (hp [] _ σ H Q I h) (fun u s2 z=>?_) fun e s2 z=>z)
 obtain⟨v,H',J,r,q⟩:=z
 exact⟨v,H',J.os,J.bare,J.base,J.hok,r,q⟩
end L2
namespace L2
open PySem PySem.Spec PyProof.Rows
section
variable {CX:CXT} {P:O9} {w:Qd} {K:Py} {mg:Px->Option Value} {base:Qo} {k:Nat}
theorem KY {x qual:Px} {st:Stmt} {f:Addr} {fd:Qw} {N ps:List Px} {A:Qc} {outer:List Vb} {s:Ov} {H:Hp} {us:List Value} {vs:List V} {Q:VK} {E:XK} (F:Fun K x qual st f fd) (S:aM N ps (aA st)) (hr:dG (k+1) A) (e0:Ds P w K mg base A outer s H)
  (hb:∀ (kV doc pm:Value) (an:Option Addr) (cdv ct:Value),TX (Wt x qual (cM st) (bH st) (aA st) .none kV doc pm an cdv ct) ⟨us,[]⟩=pure (ps.zip us)) (r:Vals vs us) (hl:vs.length=ps.length)
  (ht:∀ cdv,∃ t,PSs (vQ CX P w K mg base N qual (aA st) f cdv A outer s H E) (bH st) t/\t { nx:=fun _ H'=>Q .non H',rt:=Q } (start N vs) H) :
  QF (O5 P w) A (.call (.ref f) ⟨us,[]⟩) (CR CX outer P w H s Q E) s:=by
 obtain⟨oc,od,kV,doc,pm,an,cdv,ct,osl,rfl,lk,hc⟩:=F.ex
 have KX:K.In s.heap:=e0.mod.kin.keeps fun b o e=>(e0.bs b o e).1
 have lim:s.heap.NoLimit:=e0.mod.nolimit.keeps fun b o e=>(e0.bs b o e).1
 have hkind:((ps.zip us).all fun y=>(aA st).names.lookup y.1 == some .local || (aA st).names.lookup y.1 == some .cell)=true:=List.all_eq_true.mpr fun⟨n,v⟩ hy=>by
  rcases S.par n (V1 hy).1 with q | q <;> simp [q]
 refine Att.Iw KX lim lk hc hr.depth (.of_eq (hb kV doc pm an cdv ct)) hkind (fun s1 x=>?_) S.co S.gen S.kind
 obtain⟨t,h1,h2⟩:=ht cdv
 have I:Inv (vQ CX P w K mg base N qual (aA st) f cdv A outer s H E) [] (start N vs) H s1:=rK S hr.hd e0 hl r x
 refine Qm (h1 [] s1 (start N vs) H _ I h2) (fun fl s2 z=>?_) fun e s2 z=>z
 cases fl with
 | ret u =>
  obtain⟨v,σ',H',J,rv,q⟩:=z
  exact⟨v,H',J.os,J.bare,J.base,J.hok,rv,q⟩
 | next =>
  obtain⟨σ',H',J,q⟩:=z
  exact⟨.non,H',J.os,J.bare,J.base,J.hok,rfl,q⟩
 | brk=>obtain⟨_,_,_,q⟩:=z; exact Qi q
 | cont=>obtain⟨_,_,_,q⟩:=z; exact Qi q
structure KZ (CX:CXT) (P:O9) (w:Qd) (K:O1) (mg:Px->Option Value) (base:Qo) (k:Nat) (s₀:Ov) (H₀:Hp) (fs:List Addr) (f:Addr) (sp:Hp->VK->XK->Prop):Prop where
 at_:∃ o fd,s₀.heap.get? f=some o/\o.data = .func fd/\H₀ f=none/\f ∉ fs
 run:∀ (A:Qc) (outer:List Vb) (s:Ov) (H:Hp) (Q:VK) (E:XK),dG k A->Ds P w K mg base A outer s H->(∀ b o,s₀.heap.get? b=some o->H₀ b=none->b ∉ fs->s.heap.get? b=some o)->(∀ b o,s₀.heap.get? b=some o->H₀ b=none->(∃ sl,s.heap.get? b=some { o with slots:=sl })/\H b=none)->(∀ b o u,H₀ b=some (.frz o u)->H b=some (.frz o u))->sp H Q E →
  QF (O5 P w) A (.call (.ref f) ⟨[],[]⟩) (CR CX outer P w H s Q E) s
end
section
variable {X:Cx} {CX:CXT} {k:Nat} {f:Addr} {sp:Hp->VK->XK->Prop} {E:XK} {x:Px} {p pos:Ut} {te:TE}
def Oh (f:Addr) (sp:Hp->VK->XK->Prop) (E:XK) (te:TE):TE:=fun σ H Q=>te σ H fun v H1=>v = .ref f/\sp H1 Q E
theorem Ku (L:KZ CX X.prog X.w X.K X.mg X.base k X.s₀ X.H₀ X.fs f sp) (hex:X.ex=[]) (hr:dG k X.A) (hx:Passes CX X E) (he:PE X (.Name x p) te):PE X (.Call (.Name x p) [] [] pos) (Oh f sp E te):=by
 intro pins s σ H Q I h
 refine QH (thn (he pins s σ H _ I h) fun u s1 ⟨v,H1,I1,r,ev,q⟩=>?_)
 subst ev
 obtain rfl:u=Pg f:=r
 have nex:∀ b,b ∉ X.ex:=fun b z=>by
  rw[hex] at z
  cases z
 obtain⟨o,fd,e1,e2,e3,e4⟩:=L.at_
 have e5:=I1.base.keep f o e1 e3 e4 (nex f)
 refine callWith_function_kw (o:=o) (fd:=fd) (evalArgs_kw_nil rfl (wpAny_evalAll_nil ⟨⟨e5,e2⟩,?_⟩))
 refine Td (RG (L.run X.A X.stack s1 H1 Q E hr I1.env0 (fun b o e n hb=>I1.base.keep b o e n hb (nex b)) (fun b o e n=>⟨I1.base.any e n (nex b),I1.base.free b o e n (nex b)⟩) I1.base.frzs q) fun r2 s2 hq=>?_)
 cases r2 with
 | error e=>exact hx pins σ H1 s1 e s2 I1 hq
 | ok fl =>
  cases fl with
  | ret u=>exact I1.after hq
  | next=>exact Qi hq
  | brk=>exact Qi hq
  | cont=>exact Qi hq
end
end L2
namespace L2
open PySem PySem.Spec PyProof.Rows
def TabOk (H:Hp) (P:Addr) (q:Px):Prop:=∃ ps,H P=some (.tbl ps)/\Uz ps.toList/\∀ pos cv,Va pos ps.toList=some cv->∃ c oc u vs t,cv = .ref c/\H c=some (.frz oc u)/\oc.data = .fields vs/\vs[1]? = some (.str q t)
def gO (H H1:Hp):Prop:=∀ b o,(∀ ps,o≠.tbl ps)->H b=some o->H1 b=some o
def Dy (P:Addr) (H H1:Hp):Prop:=∀ b o,b≠P->H b=some o->H1 b=some o
theorem Dy.t {P:Addr} {q:Px} {H H1:Hp} (h:TabOk H P q) (a:Dy P H H1):gO H H1:=fun b o n e=>a b o (fun z=>by
 obtain⟨ps,e1,_⟩:=h
 rw[z,e1] at e
 exact n ps (Qh e).symm) e
theorem gO.trans {H H1 H2:Hp} (a:gO H H1) (b:gO H1 H2):gO H H2:=fun c o n e=>b c o n (a c o n e)
theorem aV.t {H H1:Hp} (a:aV H H1):gO H H1:=fun c o _ e=>a c o e
theorem TabOk.same {H H1:Hp} {P:Addr} {q:Px} (a:aV H H1) (h:TabOk H P q):TabOk H1 P q:=by
 obtain⟨ps,e,t,f⟩:=h
 refine⟨ps,a _ _ e,t,fun pos cv z=>?_⟩
 obtain⟨c,oc,u,vs,tk,e1,e2,e3⟩:=f pos cv z
 exact⟨c,oc,u,vs,tk,e1,a _ _ e2,e3⟩
theorem Dc {l:List Value} (h:Uz l):l=[]∨∃ i t j u d r,l = .int i t::.int j u::d::r/\Uz r:=by
 unfold Uz at h
 split at h
 ·exact .inl rfl
 ·exact .inr ⟨_,_,_,_,_,_,rfl,h⟩
 ·exact h.elim
theorem mj {pos pos':Ut} {c cv:Value}:∀ (n:Nat) (l:List Value),l.length<=n->Uz l->(Va pos' (l++[Qp pos.line,Qp pos.col,c])=some cv->Va pos' l=some cv∨cv=c)/\Uz (l++[Qp pos.line,Qp pos.col,c])
 | 0,l,hn,h=>by
  cases Rv (Nat.le_zero.mp hn)
  refine⟨fun e=>?_,trivial⟩
  simp only[List.nil_append,Qp,Va] at e
  split at e
  ·exact .inr (Qh e).symm
  ·cases e
 | n+1,l,hn,h=>by
  rcases Dc h with rfl | ⟨i,t,j,u,d,r,rfl,hr⟩
  ·exact mj n [] (Ql _) h
  ·obtain⟨h1,h2⟩:=mj (pos:=pos) (pos':=pos') (c:=c) (cv:=cv) n r (by simp only[PK] at hn; lia) hr
   refine⟨fun e=>?_,h2⟩
   simp only[List.cons_append,Va] at e ⊢
   split at e
   ·rename_i z
    rw[if_pos z]
    exact .inl e
   ·rename_i z
    rw[if_neg z]
    exact h1 e
theorem yr {pos pos':Ut} {c cv:Value} (l:List Value) (h:Uz l) (e:Va pos' (l++[Qp pos.line,Qp pos.col,c])=some cv):Va pos' l=some cv∨cv=c:=(mj l.length l (OJ _) h).1 e
theorem t6 {pos:Ut} {c:Value} (l:List Value) (h:Uz l):Uz (l++[Qp pos.line,Qp pos.col,c]):=(mj (pos':=pos) (cv:=c) l.length l (OJ _) h).2
section
variable {X:Cx} {pins:List (Addr × Rx)} {σ:St} {H:Hp} {s:Ov} {c P:Addr} {params:Wd} {body:Expr} {scope:RD} {lpos:Ut} {E:Value->Ov->Prop} {Q:Value->Ov->Prop}
theorem DY (I:Inv X pins σ H s) (hT:TabOk H P (X.env.qual++"<lambda>")) (hcode:X.env.code = .ref c) (C:W.CodeHd X.base c P) (hB:X.base.BuiltinsAt X.mg P) (hdef:defaultsOf params X.env=([],[]))
  (hfr:∀ y∈scope.names,y.2 = .free->X.env.kindOf y.1=some .cell∨X.env.kindOf y.1=some .free)
  (h:∀ (f c':Addr) (ctv pm:Value) (cl:List (Px × Addr)) (H1:Hp) (s1:Ov),Inv X pins σ H1 s1->Dy P H H1->TabOk H1 P (X.env.qual++"<lambda>")->(∀ b,H b=none->b < s.heap.objs.size->H1 b=none)->(∀ b o,s.heap.get? b=some o->H b=none->s1.heap.get? b=some o) →
   s1.heap.get? f=some (VV "<lambda>" (X.env.qual++"<lambda>") params body scope cl pm c' ctv)->H1 f=none->s.heap.objs.size<=f->(∃ oc u vs t,H1 c'=some (.frz oc u)/\oc.data = .fields vs/\vs[1]? = some (.str (X.env.qual++"<lambda>") t)) →
   (∀ n a,cl.lookup n=some a->X.env.cells.lookup n=some a)->(∀ y∈scope.names,y.2 = .free->∃ a,cl.lookup y.1=some a)->Q (.ref f) s1) :
  O3 (O5 X.prog X.w) X.A (QZ (.Lambda params body scope lpos) X.env) Q E s:=by
 obtain⟨ps,eP,tr,am⟩:=hT
 obtain⟨cl,hcl,sub,all⟩:=qM (scope:=scope) (env:=X.env) fun y hy z=>I.ok.has _ (hfr y hy z)
 have hP:s.heap.get? P=some (PySem.W.tabObj ps):=I.hok P _ eP
 have hns:s.heap.Ns O8 X.mg:=I.mod.glob.keeps I.bk
 have hgP:O8≠P:=fun z=>by
  obtain⟨o,es,ep,e,d,_⟩:=hns
  rw[z,hP] at e
  cases e
  cases d
 refine PySem.W.kla_eval hdef ?_
 cases hit:Va lpos ps.toList with
 | some cv =>
  obtain⟨c',oc,u,vs,t,rfl,e1,e2,e3⟩:=am _ _ hit
  refine PySem.W.kla_makeFunctionHit hcl I.ok.glob hns hcode (C.keeps I.bk) hP tr hit (hB.keeps I.bk) fun ctv h' tk kp sz=>?_
  have kp':∀ b o,s.heap.get? b=some o->(h'.push (VV "<lambda>" (X.env.qual++"<lambda>") params body scope cl ((X.mg "__name__").getD .none) c' ctv)).get? b=some o:=fun b o e=>Ox _ (kp b o e)
  refine h h'.objs.size c' ctv ((X.mg "__name__").getD .none) cl H _ (I.un (h':=h'.push (VV "<lambda>" (X.env.qual++"<lambda>") params body scope cl ((X.mg "__name__").getD .none) c' ctv)) (t':=tk) (Un.kept kp') (I.hok.kept kp')) (fun _ _ _ e=>e) ⟨ps,eP,tr,am⟩ (fun _ n _=>n) (fun b o e _=>kp' b o e) ?_ (I.hok.fresh sz) sz ⟨oc,u,vs,t,e1,e2,e3⟩ sub all
  exact O6 h' rfl
 | none =>
  refine PySem.W.kla_makeFunction hcl I.ok.glob hns hcode (C.keeps I.bk) hP tr hit hgP (hB.keeps I.bk) fun c' ctv h' tk kp l1 l2 cr hP'=>?_
  obtain⟨c2,oc,vs,t,ec,e1,e2,e3⟩:=cr
  cases ec
  have nP:c'≠P:=fun z=>by
   have:=O4 hP
   rw[← z] at this
   exact Qu _ (OD this l1)
  have fr:=I.hok.fresh l1
  have lt:∀ b u,H b=some u->b < s.heap.objs.size:=fun b u e=>(I.hok b u e).lt
  have nb:∀ b o,s.heap.get? b=some o->b≠c':=fun b o e z=>by
   have:=O4 e
   rw[z] at this
   exact Qu _ (OD this l1)
  have sz:s.heap.objs.size<=h'.objs.size:=PX l1 (Q7 l2)
  generalize ho:VV "<lambda>" (X.env.qual++"<lambda>") params body scope cl ((X.mg "__name__").getD .none) c' ctv=fo
  have kq:∀ b o,h'.get? b=some o->(h'.push fo).get? b=some o:=fun b o e=>Ox _ e
  have same:∀ b u,H b=some u->b≠P->upd (upd H P (.tbl (ps++#[Qp lpos.line,Qp lpos.col,.ref c']))) c' (.frz oc (.ext fun _=>True)) b=some u:=fun b u e n=>by
   rw[aN (fun z=>by rw[z,fr] at e; cases e),aN n]
   exact e
  have nt:∀ b u,H b=some u->(∀ ps,u≠.tbl ps)->b≠P:=fun b u e n z=>by
   rw[z,eP] at e
   exact n ps (Qh e).symm
  have un:Un X.fs [] H (upd (upd H P (.tbl (ps++#[Qp lpos.line,Qp lpos.col,.ref c']))) c' (.frz oc (.ext fun _=>True))) s.heap (h'.push fo):=by
   refine⟨fun b o e n _ _=>?_,fun b o e n _ _=>⟨o.slots,?_⟩,fun b o e n _=>?_,fun b o e _=>?_,fun b xs e=>same b _ e (nt b _ e (fun _ z=>nomatch z)),fun b o u e=>same b _ e (nt b _ e (fun _ z=>nomatch z)),fun b qs e=>?_⟩
   ·exact kq b o (kp b o (fun z=>by rw[z,eP] at n; cases n) e)
   ·exact kq b o (kp b o (fun z=>by rw[z,eP] at n; cases n) e)
   ·rw[aN (nb b o e),aN (fun z=>by rw[z,eP] at n; cases n)]
    exact n
   ·by_cases hb:b=P
    ·subst hb
     exact⟨_,kq _ _ hP'⟩
    ·exact⟨o,kq b o (kp b o hb e)⟩
   ·by_cases hb:b=P
    ·subst hb
     rw[eP] at e
     cases e
     exact⟨_,by rw[aN (QM nP),ao]⟩
    ·exact⟨#[],by rw[same b _ e hb,Array.append_empty]⟩
  have hok:HOk X.prog X.w (upd (upd H P (.tbl (ps++#[Qp lpos.line,Qp lpos.col,.ref c']))) c' (.frz oc (.ext fun _=>True))) (h'.push fo):=fun b u e=>by
   by_cases hb:b=c'
   ·subst hb
    rw[ao] at e
    cases e
    exact⟨kq _ _ e1,trivial,⟨_,kq _ _ e1⟩,fun _ _ _ _=>trivial⟩
   ·rw[aN hb] at e
    by_cases hp:b=P
    ·subst hp
     rw[ao] at e
     cases e
     exact kq _ _ hP'
    ·rw[aN hp] at e
     refine (I.hok b u e).stay (fun d o hd q=>kq _ _ (kp d o (fun z=>?_) q)) (fun d q=>same d _ q (nt d _ q (fun _ z=>nomatch z))) fun d xs q=>same d _ q (nt d _ q (fun _ z=>nomatch z))
     rcases hd with rfl | hd
     ·exact hp z
     ·rw[z,eP] at hd
      cases hd
  have I1:=I.un (t':=tk) un hok
  have f0:upd (upd H P (.tbl (ps++#[Qp lpos.line,Qp lpos.col,.ref c']))) c' (.frz oc (.ext fun _=>True)) h'.objs.size=none:=by
   rw[aN (QM (Pa l2)),aN (QM (Pa (OD (O4 hP) sz)))]
   exact I.hok.fresh sz
  refine h h'.objs.size c' ctv ((X.mg "__name__").getD .none) cl _ _ I1 (fun b o n e=>same b o e n) ⟨_,by rw[aN (QM nP),ao],?_,fun pos cv z=>?_⟩ (fun b n l=>?_) (fun b o e n=>kq b o (kp b o (fun z=>by rw[z,eP] at n; cases n) e)) ?_ f0 sz ⟨oc,_,vs,t,ao,e2,e3⟩ sub all
  ·rw[Array.toList_append]
   exact t6 _ tr
  ·rw[Array.toList_append] at z
   rcases yr _ tr z with z | z
   ·obtain⟨c1,oc1,u1,vs1,t1,a1,a2,a3⟩:=am pos cv z
    exact⟨c1,oc1,u1,vs1,t1,a1,same _ _ a2 (nt _ _ a2 (fun _ z=>nomatch z)),a3⟩
   ·exact⟨c',oc,_,vs,t,z,ao,e2,e3⟩
  ·have n1:b≠c':=fun z=>Qu _ (OD (show c' < s.heap.objs.size from z▸l) l1)
   have n2:b≠P:=fun z=>by rw[z,eP] at n; cases n
   rw[aN n1,aN n2]
   exact n
  ·rw[← ho]
   exact O6 h' rfl
end
end L2
namespace L2
open PySem PySem.Spec PyProof.Rows
structure IW (X:Cx) (scope:RD) (N:List Px) (cap:List Nat):Prop where
 sc:Kc N scope
 fr:∀ y∈scope.names,y.2 = .free->X.env.kindOf y.1=some .cell∨X.env.kindOf y.1=some .free
 len:cap.length=N.length
 at':∀ (k:Nat) (x:Px),N[k]? = some x->∃ i,cap[k]? = some i/\X.N[i]? = some x
def Je (cap:List Nat) (σ:St):St:=cap.map fun i=>(σ[i]?).join
def Mz (P:Addr) (q:Px) (cap:List Nat) (tw:Addr->(Hp->VK->XK->Prop)->VK->Hp->Prop) (te:XK->TE):TE:=fun σ H Q=>TabOk H P q/\∀ f H1,gO H H1->TabOk H1 P q->tw f (fun H2 Q2 E2=>te E2 (Je cap σ) H2 Q2) Q H1
def LK (Rl:Hp->Hp->Prop) (P:Addr) (q:Px) (cap:List Nat) (tw:Addr->(Hp->VK->XK->Prop)->VK->Hp->Prop) (te:XK->TE):TE:=fun σ H Q=>TabOk H P q/\∀ f H1,Rl H H1->TabOk H1 P q->tw f (fun H2 Q2 E2=>te E2 (Je cap σ) H2 Q2) Q H1
section
variable {X:Cx} {c P fW:Addr} {x qual n:Px} {st:Stmt} {fd:Qw} {N NL:List Px} {cap:List Nat} {k:Nat} {params:Wd} {body:Expr} {scope:RD} {lpos p pos:Ut} {te:XK->TE} {tw:Addr->(Hp->VK->XK->Prop)->VK->Hp->Prop}
theorem G9 {Rl:Hp->Hp->Prop} (hR:∀ {H H1:Hp},TabOk H P (X.env.qual++"<lambda>")->Dy P H H1->Rl H H1) (F:Fun X.K x qual st fW fd) (S:aM N [n] (aA st)) (hr:dG (k+1) X.A) (hg:Gl X x) (hm:X.mg x=some (.ref fW)) (L:IW X scope NL cap)
  (hcode:X.env.code = .ref c) (C:W.CodeHd X.base c P) (hB:X.base.BuiltinsAt X.mg P)
  (hp:∀ (f:Addr) (cd:Value) (cl:List (Px × Addr)) (A:Qc) (outer:List Vb) (s:Ov) (H:Hp) (E:XK) (j:Nat),k=j+2->dG j (A.deeper (W.envX (X.env.qual++"<lambda>") scope s.heap.objs.size f cd cl))->PE (vA (XL X.prog X.w) X.prog X.w X.K X.mg X.base NL (X.env.qual++"<lambda>") scope f cd cl A outer s H E) body (te E))
  (ht:∀ (f:Addr) (cdv:Value) (A:Qc) (outer:List Vb) (s:Ov) (H:Hp) (Q:VK) (j:Nat) (sp:Hp->VK->XK->Prop),k=j+1->dG k (A.deeper (envOfC qual (aA st) s.heap.objs.size fW cdv))->KZ (XL X.prog X.w) X.prog X.w X.K X.mg X.base k s H (frs outer) f sp->tw f sp Q H →
   ∃ t,PSs (vQ CX0 X.prog X.w X.K X.mg X.base N qual (aA st) fW cdv A outer s H E0) (bH st) t/\t { nx:=fun _ H'=>Q .non H',rt:=Q } (start N [.ref f]) H)
  (hdef:defaultsOf params X.env=([],[]):=by rfl) (hla:∀ (pm cd ctv:Value) (cl:List (Px × Addr)),TX (W.kla_fn "<lambda>" (X.env.qual++"<lambda>") params body scope cl pm cd ctv) ⟨[],[]⟩=pure []:=by intros; rfl)
  (hb:∀ (kV doc pm:Value) (an:Option Addr) (cdv ct:Value) (u:Value),TX (Wt x qual (cM st) (bH st) (aA st) .none kV doc pm an cdv ct) ⟨[u],[]⟩=pure [(n,u)]:=by intros; rfl) (hk:k=(k - 2)+2:=by rfl)
  (hdb:(x == ("__debug__" : Px))=false:=by decide):PE X (.Call (.Name x p) [.Lambda params body scope lpos] [] pos) (LK Rl P (X.env.qual++"<lambda>") cap tw te):=by
 intro pins s σ H Q I ⟨hT,h⟩
 refine QH (gP I hg hm ?_ hdb)
 refine Uc (h₀:=X.base) I.ok.mod.kin F.kp ?_
 refine Ww (DY I hT hcode C hB hdef L.fr fun f c' ctv pm cl H1 s1 I1 sm tb fre kp ef nf lf cr sub all=>Xa ⟨I1.kIn,?_⟩)
 have nfs:f ∉ frs X.stack:=fun z=>by
  obtain⟨_,o,ho,_⟩:=I.stack.mem z
  exact Qu _ (OD (O4 ho) lf)
 have LB:KZ (XL X.prog X.w) X.prog X.w X.K X.mg X.base k s1 H1 (frs X.stack) f fun H2 Q2 E2=>te E2 (Je cap σ) H2 Q2:=by
  refine⟨⟨_,_,ef,rfl,nf,nfs⟩,fun A outer s3 H3 Q3 E3 room e3 k1 k2 k3 sp=>?_⟩
  obtain⟨oc,u,vs,t,f1,f2,f3⟩:=cr
  have cr3:s3.heap.CodeRec (.ref c') (X.env.qual++"<lambda>"):=⟨c',oc,vs,t,rfl,(e3.hok c' _ (k3 _ _ _ f1)).1,f2,f3⟩
  have room':dG ((k - 2)+1+1) A:=by rw[hk] at room; exact room
  have cel:∀ y a v,cl.lookup y=some a->s1.heap.IsCell a v->s3.heap.IsCell a v/\H3 a=none:=fun y a v e ⟨o,ho,hd⟩=>by
   obtain⟨⟨sl,e1⟩,e2⟩:=k2 a o ho (I1.freeC y a (sub y a e))
   exact⟨⟨_,e1,hd⟩,e2⟩
  refine Hu (N:=NL) room' e3 (k1 f _ ef nf nfs) cr3 (hla _ _ _ _) L.sc ⟨fun y z a e1 e2=>I.ok.inj y z a (sub y a e1) (sub z a e2),all,fun y a e=>?_,fun i y v e1 e2=>?_,?_⟩ (hp f (.ref c') cl A outer s3 H3 E3 (k - 2) hk ((room'.mono (Rm _)).deeper _)) sp
  ·obtain⟨v,z⟩:=I1.cell y a (sub y a e)
   obtain⟨z1,z2⟩:=cel y a v e z
   exact⟨⟨v,z1⟩,z2⟩
  ·unfold Je at e2
   rw[Pk] at e2
   obtain⟨j,hj,hN⟩:=L.at' i y e1
   rw[hj] at e2
   have e4:(σ[j]?).join=some v:=by simpa using e2
   have e5:σ[j]? = some (some v):=by
    cases q:σ[j]? with
    | none=>rw[q] at e4; cases e4
    | some a=>rw[q] at e4; exact congrArg some e4
   have yf:=L.sc.fr y (Qe e1)
   have kd:=L.fr (y,.free) (Qt yf) rfl
   obtain⟨m,hn,hl⟩:=I1.loc
   obtain⟨u,r,lk⟩:=hl j y v hN e5 (kd.elim (fun z=>.inr (.inl z)) fun z=>.inr (.inr z))
   obtain⟨a,ha⟩:=all (y,.free) (Qt yf) rfl
   rcases lk with⟨z,_⟩ | ⟨_,a',z1,z2⟩
   ·rcases kd with w | w <;> (rw[w] at z; cases z)
   ·have:=sub y a ha
    rw[z1] at this
    cases this
    exact⟨a,u,ha,(cel y a _ ha z2).1,r⟩
  ·unfold Je
   rw[Ow,L.len]
 have hq:=h f H1 (hR hT sm) tb
 refine Td (RG (KY (CX:=CX0) (k:=k) (Q:=Q) (E:=E0) F S hr I1.env0 (hb · · · · · · (.ref f)) (vs:=[.ref f]) (us:=[.ref f]) (.cons rfl .nil) rfl fun cdv=>ht f cdv X.A X.stack s1 H1 Q (k - 2+1) _ hk (hr.deeper _) LB hq) fun r s2 z=>?_)
 cases r with
 | error e=>exact Qi z
 | ok fl =>
  cases fl with
  | ret u=>exact I1.after z
  | next=>exact Qi z
  | brk=>exact Qi z
  | cont=>exact Qi z
theorem Kf (F:Fun X.K x qual st fW fd) (S:aM N [n] (aA st)) (hr:dG (k+1) X.A) (hg:Gl X x) (hm:X.mg x=some (.ref fW)) (L:IW X scope NL cap)
  (hcode:X.env.code = .ref c) (C:W.CodeHd X.base c P) (hB:X.base.BuiltinsAt X.mg P)
  (hp:∀ (f:Addr) (cd:Value) (cl:List (Px × Addr)) (A:Qc) (outer:List Vb) (s:Ov) (H:Hp) (E:XK) (j:Nat),k=j+2->dG j (A.deeper (W.envX (X.env.qual++"<lambda>") scope s.heap.objs.size f cd cl))->PE (vA (XL X.prog X.w) X.prog X.w X.K X.mg X.base NL (X.env.qual++"<lambda>") scope f cd cl A outer s H E) body (te E))
  (ht:∀ (f:Addr) (cdv:Value) (A:Qc) (outer:List Vb) (s:Ov) (H:Hp) (Q:VK) (j:Nat) (sp:Hp->VK->XK->Prop),k=j+1->dG k (A.deeper (envOfC qual (aA st) s.heap.objs.size fW cdv))->KZ (XL X.prog X.w) X.prog X.w X.K X.mg X.base k s H (frs outer) f sp->tw f sp Q H →
   ∃ t,PSs (vQ CX0 X.prog X.w X.K X.mg X.base N qual (aA st) fW cdv A outer s H E0) (bH st) t/\t { nx:=fun _ H'=>Q .non H',rt:=Q } (start N [.ref f]) H)
  (hdef:defaultsOf params X.env=([],[]):=by rfl) (hla:∀ (pm cd ctv:Value) (cl:List (Px × Addr)),TX (W.kla_fn "<lambda>" (X.env.qual++"<lambda>") params body scope cl pm cd ctv) ⟨[],[]⟩=pure []:=by intros; rfl)
  (hb:∀ (kV doc pm:Value) (an:Option Addr) (cdv ct:Value) (u:Value),TX (Wt x qual (cM st) (bH st) (aA st) .none kV doc pm an cdv ct) ⟨[u],[]⟩=pure [(n,u)]:=by intros; rfl) (hk:k=(k - 2)+2:=by rfl)
  (hdb:(x == ("__debug__" : Px))=false:=by decide):PE X (.Call (.Name x p) [.Lambda params body scope lpos] [] pos) (Mz P (X.env.qual++"<lambda>") cap tw te):=G9 (fun h s=>s.t h) F S hr hg hm L hcode C hB hp ht hdef hla hb hk hdb
end
end L2
namespace L2
open PySem PySem.Spec PyProof.Rows
structure yo (mg:Px->Option Value) (c T:Addr) (base:Qo):Prop where
 code:PySem.W.CodeHd base c T
 blt:base.BuiltinsAt mg T
theorem Be {P:O9} {w:Qd} {K:Py} {mg mb:Px->Option Value} {k:Nat} {fa a c T:Addr} {fd:Qw} {x q:Px} {sp:Sp} {s1:Ov} {vs:List Value} {ns:List Int}
  (KX:K.In s1.heap) (hG:s1.heap.Ns O8 mg) (hB:s1.heap.Ns builtinsNs mb) (hbb:∀ x:Px,x≠"__name__"->mb x=Qn x) (hlim:s1.heap.NoLimit) (hg:s1.gens = #[])
  (ha:s1.heap.get? a=some { cls:=.type "list",data:=.seq vs.toArray }) (hi:QG vs ns) (hl:ns.length<=sizeLine) (hr:dG k WN)
  (hT:s1.heap.get? T=some (W.tabObj #[])) (hC:W.CodeHd s1.heap c T) (hbm:s1.heap.BuiltinsAt mg T) (hno:W.noTabs K=true)
  (F:∀ base:Qo,K.In base->base.Ns O8 mg->yo mg c T base->bK P w K mg base CX0 k fa fd [x] sp) (hbind:∀ (s:Ov) (u:Value),VL s fd ⟨[u],[]⟩ [(x,u)])
  (hsp:∀ H:Hp,TabOk H T q->SqL K H a (ns.map V.int)->sp [.ref a] H (fun v _=>v = .bl true) fun _ _ _=>False) :
  QF (O5 P w) WN (.call (.ref fa) ⟨[.ref a],[]⟩) (fun r s2=>r = .ok (.ret (.bool true))/\OldK s1.heap s2.heap/\s2.os=s1.os/\Vp s2.gens) s1:=by
 have aT:a≠T:=fun z=>by
  rw[z,hT] at ha
  cases ha
 have rv:=gY hi
 have nl:=hi.length
 have key:∀ Z:Hp,(∀ b u,Z b=some u->b=a/\u = .frz { cls:=.type "list",data:=.seq vs.toArray } (.lst (ns.map V.int)))->SqL K Z a (ns.map V.int)->(Z a≠none->K.lookup a=none) →
   QF (O5 P w) WN (.call (.ref fa) ⟨[.ref a],[]⟩) (fun r s2=>r = .ok (.ret (.bool true))/\OldK s1.heap s2.heap/\s2.os=s1.os/\Vp s2.gens) s1:=by
  intro Z hZ hS hK
  have H1:∀ b,b≠T->upd Z T (.tbl #[]) b=Z b:=fun b n=>aN n
  have hin:∀ {b:Addr} {o:Rx},s1.heap.get? b=some o->b≠T->(Z b=none)->(Fy s1.heap (upd Z T (.tbl #[]))).get? b=some o:=fun e n z=>FP e ((H1 _ n).trans z)
  have seqOnly:∀ {b:Addr} {o:Rx},s1.heap.get? b=some o->(∀ its n,o.data≠.seq its n)->Z b=none:=fun {b o} e d=>by
   cases z:Z b with
   | none=>rfl
   | some u =>
    obtain⟨rfl,_⟩:=hZ b u z
    rw[ha] at e
    cases e
    exact absurd rfl (d _ _)
  have notT:∀ {b:Addr} {o:Rx},s1.heap.get? b=some o->(∀ vs,o.data≠.fields vs)->b≠T:=fun {b o} e d z=>by
   rw[z,hT] at e
   cases e
   exact d _ rfl
  have nsK:∀ {b:Addr} {m:Px->Option Value},s1.heap.Ns b m->(Fy s1.heap (upd Z T (.tbl #[]))).Ns b m:=fun {b m} ⟨o,es,ep,e,d,r⟩ =>
   ⟨o,es,ep,hin e (notT e fun _ z=>by rw[d] at z; cases z) (seqOnly e fun _ _ z=>by rw[d] at z; cases z),d,r⟩
  have kb:K.In (Fy s1.heap (upd Z T (.tbl #[]))):=fun b o e=>hin (KX b o e) (fun z=>by
   subst z
   have e2:=KX _ _ e
   rw[hT] at e2
   cases e2
   have:=List.all_eq_true.mp hno (_,PySem.W.tabObj #[]) (PySem.W.mem_of_lookupK e)
   exact absurd (show false=true from this) O2) (by
   cases z:Z b with
   | none=>rfl
   | some u =>
    obtain⟨rfl,_⟩:=hZ b u z
    rw[hK (by rw[z]; simp)] at e
    cases e)
  have hd:yo mg c T (Fy s1.heap (upd Z T (.tbl #[]))):=by
   obtain⟨o,ws,file,tf,flags,tg,inF,text,tt,e1,e2,e3,e4,r⟩:=hC
   obtain⟨bm,ob,b1,b2,b3,b4,b5,b6,b7,b8⟩:=hbm
   refine⟨⟨o,ws,file,tf,flags,tg,inF,text,tt,hin e1 (fun z=>?_) (seqOnly e1 fun _ _ z=>by rw[e3] at z; cases z),e2,e3,e4,r⟩,⟨bm,ob,b1,b2,b3,b4,hin b5 b4 (seqOnly b5 fun _ _ z=>by rw[b8] at z; cases z),b6,b7,b8⟩⟩
   rw[z,hT] at e1
   cases e1
   cases e2
  have hok:HOk P w (upd Z T (.tbl #[])) s1.heap:=fun b u e=>by
   by_cases hb:b=T
   ·subst hb
    rw[ao] at e
    cases e
    exact hT
   ·rw[aN hb] at e
    obtain⟨rfl,rfl⟩:=hZ b u e
    exact⟨ha,by rw[Ow]; exact hl,vs,_,rv,ha⟩
  have e0:Ds P w K mg (Fy s1.heap (upd Z T (.tbl #[]))) WN [] s1 (upd Z T (.tbl #[])) :=
   ⟨rfl,⟨kb,nsK hG,⟨mb,nsK hB,hbb⟩,let ⟨mc,m1,m2⟩:=hlim; ⟨mc,nsK m1,m2⟩⟩,fun b o e=>HB e,Nat.le_of_eq (Cu _ _),trivial,(fun b hb=>absurd (show b∈([]:List Addr) from hb) List.not_mem_nil),hok,.of_eq hg⟩
  have hS1:SqL K (upd Z T (.tbl #[])) a (ns.map V.int):=by
   rcases hS with (h | ⟨o,h⟩) | h
   ·exact .inl (.inl ((H1 a aT).trans h))
   ·exact .inl (.inr ⟨o,(H1 a aT).trans h⟩)
   ·exact .inr h
  refine RG ((F _ kb (nsK hG) hd).run WN [] s1 _ ⟨[.ref a],[]⟩ [.ref a] [.ref a] _ _ hr e0 (hbind s1 (.ref a)) (.cons rfl .nil) (hsp _ ⟨#[],ao,trivial,fun pos cv z=>by cases z⟩ hS1)) fun r s2 z=>?_
  cases r with
  | error e=>exact Qi z
  | ok fl =>
   cases fl with
   | next=>exact Qi z
   | brk=>exact Qi z
   | cont=>exact Qi z
   | ret u =>
    obtain⟨v,H2,os,bare,un,hok2,r2,rfl⟩:=z
    obtain rfl:u=VG true:=r2
    have kept:∀ b o,s1.heap.get? b=some o->b≠T->s2.heap.get? b=some o:=fun b o e n=>by
     cases z:Z b with
     | none=>exact un.keep b o e ((H1 b n).trans z) (fun y=>nomatch y) fun y=>nomatch y
     | some u =>
      have z1:=(H1 b n).trans z
      obtain⟨rfl,rfl⟩:=hZ b u z
      obtain⟨e2,_⟩:=hok2 _ _ (un.frzs _ _ _ z1)
      rw[ha] at e
      cases e
      exact e2
    obtain⟨more,et⟩:=un.tbls T #[] ao
    have gT:s2.heap.get? T=some (PySem.W.tabObj (#[]++more)):=hok2 T _ et
    refine⟨rfl,⟨fun b o e=>?_,fun b o e=>?_⟩,os,bare⟩
    ·by_cases hb:b=T
     ·subst hb
      rw[hT] at e
      cases e
      exact .inr (.inl ⟨(hC.tab hT).isCodeTable,rfl,#[],more,rfl,gT⟩)
     ·exact .inl (kept b o e hb)
    ·by_cases hb:b=T
     ·subst hb
      exact⟨_,gT⟩
     ·exact⟨o,kept b o e hb⟩
 cases hk:K.lookup a with
 | some o =>
  have e:=KX a o hk
  rw[ha] at e
  cases e
  exact key (fun _=>none) (fun b u z=>by cases z) (.inr ⟨_,vs.toArray,_,hk,rfl,rfl,rfl,by rw[Pj,nl]; exact hl,by simpa using rv⟩) fun z=>absurd rfl z
 | none =>
  exact key (upd (fun _=>none) a (.frz { cls:=.type "list",data:=.seq vs.toArray } (.lst (ns.map V.int)))) (fun b u z=>by
   by_cases hb:b=a
   ·subst hb
    rw[ao] at z
    exact⟨rfl,(Qh z).symm⟩
   ·rw[aN hb] at z
    cases z) (.inl (.inr ⟨{ cls:=.type "list",data:=.seq vs.toArray },ao⟩)) fun _=>hk
theorem Ey {l:W.OpenLaw} {n k:Nat} {qp:O9} {loose:List Px} {XP:(Px->Option Value)->Qo->Prop} {YP:Qd->Qo->Prop} {d:DefRec} {K:Params->Py} {sp:Qd->Sp} {x q:Px} {T:Addr}
  (hn:l.most=some n) (hn2:n<=sizeLine) (hdf:d.params.defaults=[]) (hr:dG k WN)
  (hY:∀ (w:Qd) (h:Qo),YP w h->(K w.params).In h/\h.get? T=some (W.tabObj #[])) (hno:∀ w:Qd,W.noTabs (K w.params)=true)
  (F:∀ (w:Qd) (mg:Px->Option Value) (fa:Addr) (h:Qo),(K w.params).In h->h.Ns O8 mg->mg d.name=some (.ref fa) →
   ∃ (fd:Qw) (c:Addr),PySem.W.codeHdIn (K w.params) c T=true/\(∀ (s:Ov) (u:Value),VL s fd ⟨[u],[]⟩ [(x,u)]) ∧
    ∀ base:Qo,(K w.params).In base->base.Ns O8 mg->yo mg c T base->bK l.prog w (K w.params) mg base CX0 k fa fd [x] (sp w))
  (hsp:∀ (w:Qd) (H:Hp) (a:Addr) (ns:List Int),ns.length<=n->TabOk H T q->SqL (K w.params) H a (ns.map V.int)->sp w [.ref a] H (fun v _=>v = .bl true) fun _ _ _=>False) :
  PySem.W.WalkO qp loose XP YP l.row.toRowW d [] (fun f vs=>PySem.call f vs):=by
 refine Att.vL hn hdf fun w s₀ s₁ mg mb fa o pm cd doc a vs ns G Y ho hd hcd hmg hobj hints hlen hg=>?_
 obtain⟨KX,hT⟩:=hY w _ Y
 obtain⟨fd,c,hc,hb,hF⟩:=F w mg fa _ KX G.T.g hmg
 have hC:=PySem.W.codeHd_of_K KX hc
 have hbm:s₁.heap.BuiltinsAt mg T:=by
  obtain⟨bm,ob,b1,b2,b3,b4,b5,b6⟩:=G.T.bmain
  refine⟨bm,ob,b1,b2,fun z=>?_,fun z=>?_,b3,b4,b5,b6⟩
  ·obtain⟨og,es,ep,e,d,_⟩:=G.T.g
   rw[z,e] at b3
   cases b3
   rw[d] at b6
   cases b6
  ·rw[z,hT] at b3
   cases b3
   cases b4
 exact Be KX G.T.g G.T.b G.T.builtins G.T.nolimit hg hobj hints (PX hlen hn2) hr hT hC hbm (hno w) hF hb fun H h1 h2=>hsp w H a ns hlen h1 h2
end L2
namespace L2
open PySem PySem.Spec PyProof.Rows
structure Dx (P:O9) (w:Qd) (K:O1) (mg:Px->Option Value) (base:Qo) (x:Px) (k:Nat) (ps:List Px) (sp:Sp):Prop where
 ex:∃ (f:Addr) (fd:Qw),bK P w K mg base (XL P w) k f fd ps sp/\mg x=some (.ref f)/\QW K (.ref f)=true/\Binds K fd ps []
section
variable {X:Cx} {k j:Nat} {x:Px} {ps:List Px} {sp:Sp} {p pos:Ut} {e:Expr} {es:List Expr} {t:TA} {E:XK}
theorem yH (D:Dx X.prog X.w X.K X.mg X.base x k ps sp) (hr:dG j X.A) (hx:Passes (XL X.prog X.w) X E) (ha:PA X (e::es) t) (hk:k<=j:=by first | decide | exact OJ _ | lia) (hg:Gl X x:=by rfl)
  (hdb:(x == ("__debug__" : Px))=false:=by decide) (he:Pz (e::es) X.env=(false,QZ e X.env)::Pz es X.env:=by rfl) (hpl:(Rn pos (Pz es X.env)).any (·.1)=false:=by rfl) :
  PE X (.Call (.Name x p) (e::es) [] pos) (Dk sp [] E t):=by
 obtain⟨f,fd,F,hm,hkp,hb⟩:=D.ex
 exact Cq F (hr.mono hk) hg hm hkp hb .nil hx ha hdb he hpl
end
section
variable {P:O9} {w:Qd} {K:Py} {mg:Px->Option Value} {base:Qo}
theorem Fun.okX {x qual:Px} {st:Stmt} {f:Addr} {fd:Qw} {N ps:List Px} {k:Nat} {sp:Sp} (F:Fun K x qual st f fd) (S:aM N ps (aA st)) (len:∀ vs H Q E,sp vs H Q E->vs.length=ps.length)
  (hb:∀ (cdv:Value) (A:Qc) (outer:List Vb) (s:Ov) (H:Hp) (vs:List V) (Q:VK) (E:XK),dG k (A.deeper (envOfC qual (aA st) s.heap.objs.size f cdv))->sp vs H Q E →
   ∃ t,PSs (vQ (XL P w) P w K mg base N qual (aA st) f cdv A outer s H E) (bH st) t/\t { nx:=fun _ H2=>Q .non H2,rt:=Q } (start N vs) H):bK P w K mg base (XL P w) (k+1) f fd ps sp:=by
 obtain⟨oc,od,kV,doc,pm,an,cdv,ct,osl,rfl,lk,hc⟩:=F.ex
 exact G3 lk hc S len fun A outer s H vs Q E hr hs=>hb cdv A outer s H vs Q E hr hs
end
theorem JX {X:Cx} {scope:RD} {NL:List Px} {cap:List Nat} (c:lA X scope NL cap) (co:scope.isCoroutine=false:=by rfl) (gen:scope.isGenerator=false:=by rfl):IW X scope NL cap :=
 ⟨⟨c.kind,co,gen,c.cell,fun x hx=>let ⟨_,hi⟩:=List.getElem?_of_mem hx; let ⟨_,_,_,z⟩:=c.at' _ x hi; z⟩,c.fr,c.len,fun k x e=>let ⟨i,a,b,_⟩:=c.at' k x e; ⟨i,a,b⟩⟩
structure Lf (K:O1) (x qual:Px) (st:Stmt) (f:Addr) (fd:Qw) (c:Addr):Prop where
 ex:∃ (oc:Value) (od:Option Addr) (kV doc pm:Value) (an:Option Addr) (ct:Value) (osl:Array (Option Value)),
  fd=RV x qual (cM st) (bH st) (aA st) .none kV doc pm an (.ref c) ct/\K.lookup f=some ⟨oc,od,.func fd,osl⟩/\Tp K (.ref c) qual=true
theorem Lf.ok {P:O9} {w:Qd} {K:Py} {mg:Px->Option Value} {base:Qo} {x qual:Px} {st:Stmt} {f c:Addr} {fd:Qw} {N ps:List Px} {k:Nat} {sp:Sp} (F:Lf K x qual st f fd c) (S:aM N ps (aA st)) (len:∀ vs H Q E,sp vs H Q E->vs.length=ps.length)
  (hb:∀ (A:Qc) (outer:List Vb) (s:Ov) (H:Hp) (vs:List V) (Q:VK) (E:XK),dG k (A.deeper (envOfC qual (aA st) s.heap.objs.size f (.ref c)))->sp vs H Q E →
   ∃ t,PSs (vQ CX0 P w K mg base N qual (aA st) f (.ref c) A outer s H E).nox (bH st) t/\t { nx:=fun _ H2=>Q .non H2,rt:=Q } (start N vs) H):bK P w K mg base CX0 (k+1) f fd ps sp:=by
 obtain⟨oc,od,kV,doc,pm,an,ct,osl,rfl,lk,hc⟩:=F.ex
 refine G3 lk hc S len fun A outer s H vs Q E hr hs=>?_
 obtain⟨t,h1,h2⟩:=hb A outer s H vs Q E hr hs
 exact⟨t,h1.nox,h2⟩
end L2
namespace L2
open PySem PySem.Spec PyProof.Rows
section
variable {prog:O9} {w:Qd} {A:Qc} {R:Vg->Ov->Prop} {E:Value->Ov->Prop} {s:Ov}
end
section
variable {X:Cx} {k:Nat}
end
end L2
namespace L2
open PySem PySem.Spec PyProof.Rows PySem.W
section
variable {prog:O9} {w:Qd} {A:Qc} {E:Value->Ov->Prop} {κ:SortKind} {it:Array Keyed} {s:Ov}
end
section
variable {X:Cx}
end
end L2
namespace L2
open PySem PySem.Spec PyProof.Rows
section
variable {X:Cx} {k:Nat}
end
end L2
namespace L2
open PySem PySem.Spec PyProof.Rows
end L2
namespace L2
open PySem PySem.Spec PyProof.Rows
section
variable {prog:O9} {w:Qd} {A:Qc} {R:Vg->Ov->Prop} {E:Value->Ov->Prop} {s:Ov}
end
section
variable {X:Cx}
end
end L2
namespace L2
open PySem PySem.Spec PyProof.Rows
section
variable {κ:Type} [DecidableEq κ]
def uL (kvs:List (κ × V)) (k:κ):Option V:=(kvs.find? fun kv=>decide (kv.1=k)).map (·.2)
def putK (kvs:List (κ × V)) (k:κ) (v:V):List (κ × V) :=
 if (kvs.any fun kv=>decide (kv.1=k))=true then kvs.map (fun kv=>if kv.1=k then (kv.1,v) else kv) else kvs++[(k,v)]
theorem lX {p:κ × V} {r:List (κ × V)} {k:κ} (e:p.1=k):uL (p::r) k=some p.2:=by simp [uL,T9,e]
theorem jG {p:κ × V} {r:List (κ × V)} {k:κ} (e:¬ p.1=k):uL (p::r) k=uL r k:=by simp [uL,T9,e]
theorem pX (k:κ):∀ kvs:List (κ × V),(kvs.any fun kv=>decide (kv.1=k))=(uL kvs k).isSome
 | []=>rfl
 | p::r=>by
  rw[Sw]
  by_cases e:p.1=k
  ·simp only[lX e,decide_eq_true e,Bool.true_or,Option.isSome_some]
  ·rw[jG e,decide_eq_false e,Wr]; exact pX k r
theorem nq (kvs:List (κ × V)) (k:κ) (v:V):(putK kvs k v).length<=kvs.length+1:=by
 unfold putK
 split
 ·rw[Ow]; lia
 ·rw[Qa,PK,List.length_nil]; lia
theorem wG {kvs:List (κ × V)} {k:κ} (v:V) (h:uL kvs k=none):putK kvs k v=kvs++[(k,v)]:=by
 unfold putK
 rw[pX,h]
 exact if_neg (by decide)
theorem pY.Di {o:Option V} {u:Option Value} (r:pY o u):o.isSome=u.isSome:=by
 cases o with
 | none=>cases u with
  | none=>rfl
  | some _=>exact (show False from r).elim
 | some _=>cases u with
  | none=>exact (show False from r).elim
  | some _=>rfl
theorem KV.val {kvs:List (κ × V)} {vs:List (κ × Value)} (r:KV kvs vs) (k:κ):pY (uL kvs k) (WK vs k):=by
 unfold KV at r
 induction r with
 | nil=>exact R9
 | @cons p q ps qs h t ih =>
  obtain⟨h1,h2⟩:=h
  by_cases e:p.1=k
  ·have e':q.1=k:=h1.symm.trans e
   have b:WK (q::qs) k=some q.2:=by simp [WK,T9,e']
   rw[lX e,b]; exact h2
  ·have e':¬ q.1=k:=fun z=>e (h1.trans z)
   have b:WK (q::qs) k=WK qs k:=by simp [WK,T9,e']
   rw[jG e,b]; exact ih
theorem KV.any {kvs:List (κ × V)} {vs:List (κ × Value)} (r:KV kvs vs) (k:κ):(kvs.any fun kv=>decide (kv.1=k))=vs.any fun kv=>decide (kv.1=k):=by
 unfold KV at r
 induction r with
 | nil=>rfl
 | cons h t ih=>rw[Sw,Sw,ih,h.1]
theorem KV.repl {kvs:List (κ × V)} {vs:List (κ × Value)} (r:KV kvs vs) (k:κ) {y:V} {u:Value} (ry:RelV y u) :
  KV (kvs.map fun kv=>if kv.1=k then (kv.1,y) else kv) (vs.map fun kv=>if kv.1=k then (kv.1,u) else kv):=by
 unfold KV at r ⊢
 induction r with
 | nil=>exact .nil
 | @cons p q ps qs h t ih =>
  rw[Qv,Qv]
  refine .cons ?_ ih
  obtain⟨h1,h2⟩:=h
  by_cases e:p.1=k
  ·rw[if_pos e,if_pos (h1.symm.trans e)]; exact⟨h1,ry⟩
  ·rw[if_neg e,if_neg (fun z=>e (h1.trans z))]; exact⟨h1,h2⟩
theorem KV.put {kvs:List (κ × V)} {vs:List (κ × Value)} (r:KV kvs vs) (k:κ) {y:V} {u:Value} (ry:RelV y u):KV (putK kvs k y) (stored vs k u):=by
 unfold putK stored
 rw[r.any k]
 by_cases e:(vs.any fun kv=>decide (kv.1=k))=true
 ·rw[if_pos e,if_pos e]; exact r.repl k ry
 ·rw[if_neg e,if_neg e]; exact Paired.snoc r ⟨rfl,ry⟩
theorem KV.length {kvs:List (κ × V)} {vs:List (κ × Value)} (r:KV kvs vs):kvs.length=vs.length:=Paired.length r
end
theorem GX {P:O9} {w:Qd} {k:Key} {u:Value} (r:RelV (kV k) u):(cV P w).is k u=true:=by
 cases k with
 | inl i=>obtain⟨t,e⟩:=(show ∃ t,u=RQ i t from r); subst e; exact vO P w i t
 | inr x=>obtain⟨t,e⟩:=(show ∃ t,u=Xh x t from r); subst e; exact vH P w x t
theorem tX {P:O9} {w:Qd}:∀ {ks:List Key} {us:List Value},Vals (ks.map kV) us->ItemsAre (cV P w) ks us
 | [],_,r=>by rw[List.map_nil] at r; cases r; exact .nil
 | k::ks,_,r=>by
  rw[Qv] at r
  cases r with
  | cons h t=>exact .cons (GX h) (tX t)
abbrev KT (H:Hp):List (List Key × V)->List (List Key × Addr × Value)->Prop:=Paired fun p q=>p.1=q.1/\H q.2.1=some (.tup (p.1.map kV))/\RelV p.2 q.2.2
theorem KT.val {H:Hp} {kvs:List (List Key × V)} {xs:List (List Key × Addr × Value)} (r:KT H kvs xs) (k:List Key):pY (uL kvs k) ((atKey xs k).map (·.2)):=by
 induction r with
 | nil=>exact R9
 | @cons p q ps qs h t ih =>
  obtain⟨h1,_,h2⟩:=h
  by_cases e:p.1=k
  ·have e':q.1=k:=h1.symm.trans e
   have b:atKey (q::qs) k=some q.2:=by simp [atKey,T9,e']
   rw[lX e,b]; exact h2
  ·have e':¬ q.1=k:=fun z=>e (h1.trans z)
   have b:atKey (q::qs) k=atKey qs k:=by simp [atKey,T9,e']
   rw[jG e,b]; exact ih
theorem KT.repl {H:Hp} {kvs:List (List Key × V)} {xs:List (List Key × Addr × Value)} (r:KT H kvs xs) (k:List Key) {y:V} {u:Value} (ry:RelV y u) :
  KT H (kvs.map fun kv=>if kv.1=k then (kv.1,y) else kv) (xs.map (putAt k u)):=by
 induction r with
 | nil=>exact .nil
 | @cons p q ps qs h t ih =>
  rw[Qv,Qv]
  refine .cons ?_ ih
  obtain⟨h1,h2,h3⟩:=h
  unfold putAt
  by_cases e:p.1=k
  ·rw[if_pos e,if_pos (h1.symm.trans e)]; exact⟨h1,h2,ry⟩
  ·rw[if_neg e,if_neg (fun z=>e (h1.trans z))]; exact⟨h1,h2,h3⟩
theorem KT.put {H:Hp} {kvs:List (List Key × V)} {xs:List (List Key × Addr × Value)} (r:KT H kvs xs) (k:List Key) {b:Addr} {y:V} {u:Value} (hb:H b=some (.tup (k.map kV))) (ry:RelV y u) :
  KT H (putK kvs k y) (storedH xs k b u):=by
 have e:(kvs.any fun kv=>decide (kv.1=k))=(atKey xs k).isSome:=by
  rw[pX,(r.val k).Di,Option.isSome_map]
 unfold putK storedH
 rw[e]
 by_cases q:(atKey xs k).isSome=true
 ·rw[if_pos q,if_pos q]; exact r.repl k ry
 ·rw[if_neg q,if_neg q]; exact Paired.snoc r ⟨rfl,hb,ry⟩
theorem KT.keeps {H H':Hp} {kvs:List (List Key × V)} {xs:List (List Key × Addr × Value)} (r:KT H kvs xs) (ht:∀ b ys,H b=some (.tup ys)->H' b=some (.tup ys)):KT H' kvs xs :=
 Paired.MJ r fun _ _ z=>⟨z.1,ht _ _ z.2.1,z.2.2⟩
section
variable {P:O9} {w:Qd} {H:Hp} {h:Qo} {a:Addr}
theorem Kh {u:HO} (ok:HOk P w H h) (e:Rd H a u):cU P w H h a u:=e.ok ok
theorem Dh {kvs:List (Key × V)} (ok:HOk P w H h) (e:Rd H a (.dK kvs)):kvs.length<=sizeLine/\(a == Ub)=false/\∃ vs,KV kvs vs/\h.DictOf (cV P w) a vs :=
 show cU P w H h a (.dK kvs) from Kh ok e
theorem Jw {kvs:List (Key × V)} (ok:HOk P w H h) (e:H a=some (.dK kvs)):kvs.length<=sizeLine/\(a == Ub)=false/\∃ vs,KV kvs vs/\h.DictOf (cV P w) a vs:=Dh ok (.inl e)
theorem Ar {ks:List Key} (ok:HOk P w H h) (e:H a=some (.tup (ks.map kV))):(Xe (cV P w)).is h ks a:=by
 obtain⟨_,its,r,o,h1,h2,n,h3⟩:=(show cU P w H h a (.tup (ks.map kV)) from ok a _ e)
 exact⟨o,its.toArray,n,h1,h2,h3,by simpa using tX r⟩
theorem G6 {kvs:List (List Key × V)} (ok:HOk P w H h) (e:Rd H a (.dT kvs)):kvs.length<=sizeLine/\(a == Ub)=false ∧
  ∃ xs,KT H kvs xs/\h.DictOfH (Xe (cV P w)) a xs:=by
 obtain⟨z,y,xs,r,o,es,ep,h1,h2,h3,h4,h5⟩:=(show cU P w H h a (.dT kvs) from Kh ok e)
 refine⟨z,y,xs,r,o,es,ep,h1,h2,h3,h4,fun x hx=>?_,h5⟩
 have all:∀ {l:List (List Key × V)} {m:List (List Key × Addr × Value)},KT H l m->∀ x∈m,(Xe (cV P w)).is h x.1 x.2.1:=by
  intro l m q
  induction q with
  | nil=>intro x hx; exact nomatch hx
  | @cons p q ps qs hq t ih =>
   intro x hx
   rcases List.mem_cons.mp hx with e | hx
   ·subst e
    exact Ar ok (by rw[← hq.1]; exact hq.2.1)
   ·exact ih x hx
 exact all r x hx
theorem Ly {kvs:List (List Key × V)} (ok:HOk P w H h) (e:H a=some (.dT kvs)):kvs.length<=sizeLine/\(a == Ub)=false ∧
  ∃ xs,KT H kvs xs/\h.DictOfH (Xe (cV P w)) a xs:=G6 ok (.inl e)
end
def Ae (H:Hp) (a:Addr) (y:V) (r:Option V):Prop :=
 (∃ kvs k,Rd H a (.dK kvs)/\y=kV k/\r=uL kvs k)∨∃ kvs k b,Rd H a (.dT kvs)/\y = .ref b/\H b=some (.tup (k.map kV))/\r=uL kvs k
def Jj (H:Hp) (a:Addr) (y v:V) (H':Hp):Prop :=
 (∃ kvs k,H a=some (.dK kvs)/\y=kV k/\kvs.length < sizeLine/\H'=upd H a (.dK (putK kvs k v))) ∨
 ∃ kvs k b,H a=some (.dT kvs)/\y = .ref b/\H b=some (.tup (k.map kV))/\kvs.length < sizeLine/\H'=upd H a (.dT (putK kvs k v))
theorem Ae.k {H:Hp} {a:Addr} {kvs:List (Key × V)} {k:Key} (e:H a=some (.dK kvs)):Ae H a (kV k) (uL kvs k):=.inl ⟨kvs,k,.inl e,rfl,rfl⟩
theorem Jj.k {H:Hp} {a:Addr} {kvs:List (Key × V)} {k:Key} {v:V} (e:H a=some (.dK kvs)) (hl:kvs.length < sizeLine):Jj H a (kV k) v (upd H a (.dK (putK kvs k v))):=.inl ⟨kvs,k,e,rfl,hl,rfl⟩
section
variable {X:Cx} {pins:List (Addr × Rx)} {σ:St} {H:Hp} {s:Ov} {a:Addr} {y v:V} {u r:Value} {o:Option V} {A:Qc} {E:Value->Ov->Prop}
theorem Inv.big (I:Inv X pins σ H s):Ub < s.heap.objs.size:=by
 have h:O8 < s.heap.objs.size:=(I.mod.glob.keeps I.bk).lt
 exact VJ (by decide) h
theorem Cw {Q:Value->Ov->Prop} (hu:A.units+1 < cLine) (I:Inv X pins σ H s) (g:Ae H a y (some v)) (ry:RelV y u) (h:∀ w' s',Inv X pins σ H s'->RelV v w'->Q w' s') :
  O3 (O5 X.prog X.w) A (Wb (.ref a) u) Q E s:=by
 rcases g with⟨kvs,k,e,ey,l⟩ | ⟨kvs,k,b,e,ey,eb,l⟩
 ·subst ey
  obtain⟨z,hd,vs,rel,dd⟩:=Dh I.hok e
  obtain⟨w',hw,rw'⟩:=pY.some_of (v:=v) (o:=WK vs k) (by rw[l]; exact rel.val k)
  exact wpAny_getItem_of (GX ry) dd.mapOf hw (h w' _ (I.tok _) rw')
 ·subst ey
  cases (show u=Pg b from ry)
  obtain⟨z,hd,xs,rel,dd⟩:=G6 I.hok e
  obtain⟨w',hw,rw'⟩:=pY.some_of (v:=v) (o:=(atKey xs k).map (·.2)) (by rw[l]; exact rel.val k)
  obtain⟨p,hp,hp2⟩:=Option.map_eq_some_iff.mp hw
  refine wpAny_getItem_heap (tupleKind_room_in1 hu) (Ar I.hok eb) dd hp ?_
  rw[hp2]
  exact h w' _ (I.tok _) rw'
theorem Bs {h':Qo} {t':Nat} {ob:HO} (I:Inv X pins σ H s) (mu:Mut (H a)) (hs:Sh a s.heap h') (he:∃ q,h'.get? a=some q) (new:cU X.prog X.w (upd H a ob) h' a ob) :
  Inv X pins σ (upd H a ob) { s with heap:=h',toks:=t' } :=
 I.write (x:=a) (e:=a) mu (.inl rfl) (fun b q hb z=>(hs.2 b hb).trans z) he new
theorem Gd {P:O9} {w:Qd} {H':Hp} {h':Qo} {kvs:List (Key × V)} {vs:List (Key × Value)} (z:kvs.length<=sizeLine) (hd:(a == Ub)=false) (rel:KV kvs vs) (dd:h'.DictOf (cV P w) a vs) :
  cU P w H' h' a (.dK kvs):=⟨z,hd,vs,rel,dd⟩
theorem Bq {H':Hp} {Q:Unit->Ov->Prop} (hu:A.units+1 < cLine) (I:Inv X pins σ H s) (g:Jj H a y v H') (ry:RelV y u) (rv:RelV v r) (h:∀ s',Inv X pins σ H' s'->Q () s') :
  O3 (O5 X.prog X.w) A (setItem (.ref a) u r) Q E s:=by
 rcases g with⟨kvs,k,e,ey,l,eH⟩ | ⟨kvs,k,b,e,ey,eb,l,eH⟩
 ·subst ey eH
  obtain⟨z,hd,vs,rel,dd⟩:=Jw I.hok e
  have hz:vs.length<=sizeLine:=by rw[← rel.length]; exact z
  have hl:(putK kvs k v).length<=sizeLine:=by have:=nq kvs k v; lia
  refine wpAny_setItem_pairs (hsz:=hz) (GX ry) dd fun h' dd' hs=>h _ ?_
  have he:∃ q,h'.get? a=some q:=let ⟨q,_,_,hq,_⟩:=dd'; ⟨q,hq⟩
  exact Bs I (by rw[e]; exact R9) hs he (Gd hl hd (rel.put k rv) dd')
 ·subst ey eH
  cases (show u=Pg b from ry)
  obtain⟨z,hd,xs,rel,dd⟩:=Ly I.hok e
  have hz:xs.length<=sizeLine:=by rw[← Paired.length rel]; exact z
  have hl:(putK kvs k v).length<=sizeLine:=by have:=nq kvs k v; lia
  refine wpAny_setItem_heap (hsz:=hz) (tupleKind_room_in1 hu) (Ar I.hok eb) dd fun h' dd' hs=>h _ ?_
  obtain⟨q,es,ep,hq,h2,h3,h4,_,h5⟩:=dd'
  refine Bs I (by rw[e]; exact R9) hs ⟨q,hq⟩ ⟨hl,hd,_,(rel.put k eb rv).keeps fun c ys ec=>?_,q,es,ep,hq,h2,h3,h4,h5⟩
  rw[aN (MF ec e (fun z=>nomatch z))]
  exact ec
end
section
variable {X:Cx} {pins:List (Addr × Rx)} {σ:St} {H:Hp} {s:Ov} {a:Addr} {kvs:List (Key × V)} {k:Key} {u:Value} {A:Qc} {E:Value->Ov->Prop}
theorem Mp {Q:Value->Ov->Prop} (I:Inv X pins σ H s) (e:Rd H a (.dK kvs)) (h:∀ t s',Inv X pins σ H s'->Q (.int kvs.length t) s'):O3 (O5 X.prog X.w) A (call (.builtin "len") [.ref a]) Q E s:=by
 obtain⟨z,hd,vs,rel,dd⟩:=Dh I.hok e
 refine call_len_dict hd dd (by rw[← rel.length]; rw[Xr] at z; lia) ?_
 rw[← rel.length]
 exact h _ _ (I.tok _)
end
def Nb (i:Expr):Prop:=∀ ov iv,Xq i false ov iv=operate [ov,iv] (Wb ov iv)
theorem Ie {prog:O9} {w:Qd} {A:Qc} {E:Value->Ov->Prop} {s:Ov} {env:Vb} {value slice:Expr} {pos:Ut} {T id:String} {Q:Value->Ov->Prop}
  (hl:Vf (.type T) "__getitem__" = pure (some (.builtin id))) (hs:Nb slice)
  (h:O3 (O5 prog w) A (QZ value env) (fun o s₁=>O3 (O5 prog w) A (QZ slice env) (fun i s₂=>s₂.TypeIs o T/\O3 (O5 prog w) A (Wb o i) Q E s₂) E s₁) E s) :
  O3 (O5 prog w) A (QZ (.Subscript value slice pos) env) Q E s:=by
 refine Subscript_ (Qm h (fun o s₁ h₁=>Qm h₁ (fun i s₂ h₂=>?_) fun _ _ x=>x) fun _ _ x=>x)
 obtain⟨hT,h₂⟩:=h₂
 unfold subscriptTail
 refine Ou ?_
 rw[getitemInPython_of_ne hT.not_modules]
 refine Ou (U0 hT hl ?_)
 have fin:O3 (O5 prog w) A (Xq slice false o i) (fun r s₃=>O3 (O5 prog w) A (letTemporaryGo value o r >>= fun _=>pure r) Q E s₃) E s₂:=by
  rw[hs o i]
  exact wpAny_operating (Qm h₂ (fun r s₃ h₃=>Ou (wpAny_letTemporaryGo (Oz h₃))) fun _ _ x=>x)
 first
  | exact Oz (Ou fin)
  | exact Ou (Oz (Ou fin))
  | exact Ou fin
theorem vB {X:Cx} {pins:List (Addr × Rx)} {σ:St} {H:Hp} {s:Ov} {a:Addr} {y:V} {o:Option V} (I:Inv X pins σ H s) (g:Ae H a y o):s.TypeIs (.ref a) "dict":=by
 rcases g with⟨kvs,k,e,_,_⟩ | ⟨kvs,k,b,e,_,_,_⟩
 ·obtain⟨_,_,vs,_,dd⟩:=Dh I.hok e
  exact dd.typeIs
 ·obtain⟨_,_,xs,_,dd⟩:=G6 I.hok e
  exact dd.typeIs
def Mg (td ty:TE):TE:=fun σ H Q=>td σ H fun x H1=>ty σ H1 fun y H2=>∃ a v,x = .ref a/\Ae H2 a y (some v)/\Q v H2
def Mu (td ty tv:TE):TS:=fun D σ H=>tv σ H fun v H1=>td σ H1 fun x H2=>ty σ H2 fun y H3=>∃ a H4,x = .ref a/\Jj H3 a y v H4/\D.nx σ H4
section
variable {X:Cx} {o i e value:Expr} {pos pos' tpos:Ut} {td ty tv:TE}
theorem mF (hu:X.A.units+1 < cLine) (ho:PE X o td) (hi:PE X i ty) (hs:Nb i):PE X (.Subscript o i pos) (Mg td ty):=by
 intro pins s σ H Q I h
 refine Ie PySem.F.slot_dict_getitem.lookup hs (thn (ho pins s σ H _ I h) fun u s1 ⟨x,H1,I1,rx,q1⟩=>thn (hi pins s1 σ H1 _ I1 q1) fun iv s2 ⟨y,H2,I2,ry,a,v,ex,g,q2⟩=>?_)
 subst ex
 obtain rfl:u=Pg a:=rx
 exact⟨vB I2 g,Cw hu I2 g ry fun w' s3 I3 rw'=>⟨v,H2,I3,rw',q2⟩⟩
theorem zY (hu:X.A.units+1 < cLine) (ho:PE X o td) (hi:PE X i ty) (hv:PE X value tv) (hs:V9 value (some (.Subscript o i pos')) pos.line X.env=pure false) :
  PS X (.Assign [.Subscript o i pos'] value pos) (Mu td ty tv):=by
 intro pins s σ H D I h
 refine wpAny_Assign_Subscript (thn (hv pins s σ H _ I h) fun r s1 ⟨v,H1,I1,rv,q1⟩=>thn (ho pins s1 σ H1 _ I1 q1) fun u s2 ⟨x,H2,I2,rx,q2⟩=>thn (hi pins s2 σ H2 _ I2 q2) fun iv s3 ⟨y,H3,I3,ry,a,H4,ex,g,q3⟩=>?_) hs
 subst ex
 obtain rfl:u=Pg a:=rx
 exact Bq hu I3 g ry rv fun s4 I4=>⟨σ,H4,I4,q3⟩
end
theorem Ex {P:O9} {w:Qd} {H:Hp} (h:Qo) (hb:Ub < h.objs.size):cU P w H (h.push { cls:=.type "dict",data:=.dict #[] }) h.objs.size (.dK []) :=
 ⟨Ql _,beq_eq_false_iff_ne.mpr (QM (Pa hb)),[],.nil,Heap.DictOf.new h⟩
def KJ:TE:=fun _ H Q=>∀ p,H p=none->Q (.ref p) (upd H p (.dK []))
section
variable {X:Cx} {pos:Ut}
theorem wW:PE X (.Dict [] [] pos) KJ:=fun pins s σ H Q I h =>
 wpAny_Dict_empty ⟨.ref s.heap.objs.size,_,I.laid (a:=s.heap.objs.size) (o:=.dK []) (t':=s.toks) (fun _ _ q=>Ox _ q) (OJ _) (Ex s.heap I.big),rfl,h _ (I.hok.fresh (OJ _))⟩
end
section
variable {X:Cx} {pins:List (Addr × Rx)} {σ:St} {H:Hp} {s:Ov} {a:Addr} {y d:V} {u r:Value} {o:Option V} {A:Qc} {E:Value->Ov->Prop}
end
section
variable {X:Cx} {o e f:Expr} {apos cpos:Ut} {td ty tx:TE}
end
section
variable {X:Cx} {pins:List (Addr × Rx)} {σ:St} {H:Hp} {s:Ov} {a:Addr} {kvs:List (Key × V)} {A:Qc} {E:Value->Ov->Prop}
theorem Er {Q:Value->Ov->Prop} (I:Inv X pins σ H s) (e:Rd H a (.dK kvs)) (h:∀ p s',H p=none->Inv X pins σ (upd H p (.dK kvs)) s'->Q (.ref p) s'):O3 (O5 X.prog X.w) A (call (.type "dict") [.ref a]) Q E s:=by
 obtain⟨z,hd,vs,rel,dd⟩:=Dh I.hok e
 refine kt_call_dict hd dd (by rw[← rel.length]; exact z) fun h' dd' hs=>?_
 refine h _ _ (I.hok.fresh (OJ _)) (I.laid (a:=s.heap.objs.size) (o:=.dK kvs) (t':=s.toks) (fun b q hq=>?_) (OJ _) (Gd z (beq_eq_false_iff_ne.mpr (QM (Pa I.big))) rel dd'))
 exact (hs.2 b (Pa (O4 hq))).trans (Ox _ hq)
end
section
variable {X:Cx} {pins:List (Addr × Rx)} {σ:St} {H:Hp} {s:Ov} {a:Addr} {y:V} {u:Value} {A:Qc} {E:Value->Ov->Prop}
end
end L2
namespace L2
open PySem PySem.Spec PyProof.Rows
theorem dG.mO {k:Nat} {A:Qc} (r:dG k A):A.units+1 < cLine:=by have:=r.un; lia
section
variable {X:Cx} {pins:List (Addr × Rx)} {σ:St} {H:Hp} {s:Ov} {a b:Addr} {v:V} {r:Value} {A:Qc} {E:Value->Ov->Prop}
end
end L2
namespace L2
open PySem PySem.Spec PyProof.Rows
inductive HasDef (K:O1) (x:Px) (st:Stmt) (f:Addr):Prop where
 | mk {od an:Option Addr} {sl:Array (Option Value)} {oc kV dc pm cd ct:Value} (a:PySem.W.nsIn K O8 x=some (some (.ref f))) (l:K.lookup f=some ⟨oc,od,.func (RV x x (cM st) (bH st) (aA st) .none kV dc pm an cd ct),sl⟩) (c:Tp K cd x=true) (k:QW K (.ref f)=true):HasDef K x st f
section
variable {P:O9} {w:Qd} {K:Py} {mg:Px->Option Value} {base h:Qo} {x:Px} {st:Stmt} {f:Addr} {ps:List Px} {sp:Sp} {k:Nat}
theorem HasDef.name (q:HasDef K x st f) (X:K.In h) (G:h.Ns O8 mg):mg x=some (.ref f):=by
 obtain⟨a,l,c,k⟩:=q
 exact UJ X G a
theorem HasDef.df (q:HasDef K x st f) (X:K.In h) (G:h.Ns O8 mg) (hb:∀ fd,Fun K x x st f fd->Binds K fd ps []) (ok:∀ fd,Fun K x x st f fd->bK P w K mg base CX0 k f fd ps sp):Df P w K mg base x k ps sp:=by
 obtain⟨a,l,c,k⟩:=q
 have F:=nH l c k
 exact⟨⟨_,_,ok _ F,UJ X G a,k,hb _ F⟩⟩
theorem Eb {α:Type}:∀ {us:List α},us.length=1->∃ x0,us=[x0]
 | [x0],_=>⟨x0,rfl⟩
theorem Kd {α:Type}:∀ {us:List α},us.length=2->∃ x0 x1,us=[x0,x1]
 | [x0,x1],_=>⟨x0,x1,rfl⟩
theorem Nm {α:Type}:∀ {us:List α},us.length=3->∃ x0 x1 x2,us=[x0,x1,x2]
 | [x0,x1,x2],_=>⟨x0,x1,x2,rfl⟩
theorem N6 {α:Type}:∀ {us:List α},us.length=4->∃ x0 x1 x2 x3,us=[x0,x1,x2,x3]
 | [x0,x1,x2,x3],_=>⟨x0,x1,x2,x3,rfl⟩
theorem Nz {α:Type}:∀ {us:List α},us.length=5->∃ x0 x1 x2 x3 x4,us=[x0,x1,x2,x3,x4]
 | [x0,x1,x2,x3,x4],_=>⟨x0,x1,x2,x3,x4,rfl⟩
theorem bind1 {a0:Px} (h:∀ (kV doc pm:Value) (an:Option Addr) (cdv ct x0:Value),TX (Wt x x (cM st) (bH st) (aA st) .none kV doc pm an cdv ct) ⟨[x0],[]⟩=pure [(a0,x0)]):∀ fd,Fun K x x st f fd->Binds K fd [a0] []:=fun _ F=>F.binds fun kV doc pm an cdv ct us hl=>by
 obtain⟨x0,rfl⟩:=Eb hl
 exact h kV doc pm an cdv ct x0
theorem bF {a0 a1:Px} (h:∀ (kV doc pm:Value) (an:Option Addr) (cdv ct x0 x1:Value),TX (Wt x x (cM st) (bH st) (aA st) .none kV doc pm an cdv ct) ⟨[x0,x1],[]⟩=pure [(a0,x0),(a1,x1)]):∀ fd,Fun K x x st f fd->Binds K fd [a0,a1] []:=fun _ F=>F.binds fun kV doc pm an cdv ct us hl=>by
 obtain⟨x0,x1,rfl⟩:=Kd hl
 exact h kV doc pm an cdv ct x0 x1
theorem iZ {a0 a1 a2:Px} (h:∀ (kV doc pm:Value) (an:Option Addr) (cdv ct x0 x1 x2:Value),TX (Wt x x (cM st) (bH st) (aA st) .none kV doc pm an cdv ct) ⟨[x0,x1,x2],[]⟩=pure [(a0,x0),(a1,x1),(a2,x2)]):∀ fd,Fun K x x st f fd->Binds K fd [a0,a1,a2] []:=fun _ F=>F.binds fun kV doc pm an cdv ct us hl=>by
 obtain⟨x0,x1,x2,rfl⟩:=Nm hl
 exact h kV doc pm an cdv ct x0 x1 x2
theorem Mw {a0 a1 a2 a3:Px} (h:∀ (kV doc pm:Value) (an:Option Addr) (cdv ct x0 x1 x2 x3:Value),TX (Wt x x (cM st) (bH st) (aA st) .none kV doc pm an cdv ct) ⟨[x0,x1,x2,x3],[]⟩=pure [(a0,x0),(a1,x1),(a2,x2),(a3,x3)]):∀ fd,Fun K x x st f fd->Binds K fd [a0,a1,a2,a3] []:=fun _ F=>F.binds fun kV doc pm an cdv ct us hl=>by
 obtain⟨x0,x1,x2,x3,rfl⟩:=N6 hl
 exact h kV doc pm an cdv ct x0 x1 x2 x3
end
end L2
namespace L2
open PySem PySem.Spec PyProof.Rows
structure Dm2 (P:O9) (w:Qd) (K:O1) (mg:Px->Option Value) (base:Qo) (C:Addr) (m:Px) (k:Nat) (ps:List Px) (sp:Sp):Prop where
 ex:∃ (f:Addr) (fd:Qw),bK P w K mg base CX0 k f fd ps sp/\Cls K C/\Meth K C m f/\Binds K fd ps []
structure Dk2 (P:O9) (w:Qd) (K:O1) (mg:Px->Option Value) (base:Qo) (x:Px) (C:Addr) (k:Nat) (ps:List Px) (sp:Sp):Prop where
 ex:∃ (f:Addr) (fd:Qw),bK P w K mg base CX0 k f fd ps sp/\Mk K C f/\mg x=some (.ref C)/\Binds K fd ps []
section
variable {X:Cx} {k j:Nat} {x m:Px} {C:Addr} {ps:List Px} {sp:Sp} {p pos apos:Ut} {o e:Expr} {es:List Expr} {to:TE} {t:TA} {f:Px}
theorem DX {pl:Sem Bool} (D:Dm2 X.prog X.w X.K X.mg X.base C m k ps sp) (hr:dG j X.A) (ho:PE X o to) (ha:PA X (e::es) t) (hk:k<=j:=by first | decide | exact OJ _ | lia)
  (hst:Pz (e::es) X.env=(false,QZ e X.env)::Pz es X.env:=by rfl) (hpl:(Rn pos (Pz es X.env)).any (·.1)=false:=by rfl)
  (ht:QZ (.Call (.Attribute o m apos) (e::es) [] pos) X.env=(do
   let ov ← QZ o X.env
   Tu apos.atName
   let (f,first) ← T6 [ov] (Ux ov m pl)
   V6 pos f first (Rn pos (Pz (e::es) X.env)) (Vx pos (Ue [] X.env))):=by rfl) :
  PE X (.Call (.Attribute o m apos) (e::es) [] pos) (zL C m sp [] E0 to t):=by
 obtain⟨f,fd,F,c,hm,hb⟩:=D.ex
 exact zR ho c hm F (hr.mono hk) hb .nil mR ha hst hpl ht
theorem zj (D:Dk2 X.prog X.w X.K X.mg X.base x C k ps sp) (hr:dG j X.A) (ha:PA X (e::es) t) (hk:k+1<=j:=by first | decide | exact OJ _ | lia) (hg:Gl X x:=by rfl)
  (hdb:(x == ("__debug__" : Px))=false:=by decide) (he:Pz (e::es) X.env=(false,QZ e X.env)::Pz es X.env:=by rfl) (hpl:(Rn pos (Pz es X.env)).any (·.1)=false:=by rfl) :
  PE X (.Call (.Name x p) (e::es) [] pos) (Ew C sp [] E0 t):=by
 obtain⟨f,fd,F,M,hm,hb⟩:=D.ex
 exact Ip M F (hr.mono hk) hg hm hb .nil mR ha hdb he hpl
theorem J6 (D:Dk2 X.prog X.w X.K X.mg X.base x C k ps sp) (hr:dG j X.A) (hk:k+1<=j:=by first | decide | exact OJ _ | lia) (hg:Gl X x:=by rfl)
  (hdb:(x == ("__debug__" : Px))=false:=by decide):PE X (.Call (.Name x p) [] [] pos) (Ew C sp [] E0 Gp):=by
 obtain⟨f,fd,F,M,hm,hb⟩:=D.ex
 exact Fe M F (hr.mono hk) hg hm hb .nil mR hdb
theorem aX (K:Py) (hK:X.K=K) (he:PE X e to) (hb:Vr e f X.env (QZ e X.env)=QZ e X.env:=by rfl):PE X (.Attribute e f pos) (Ny K to f):=by
 subst hK
 exact J7 he hb
end
end L2
namespace L2
open PySem PySem.Spec PyProof.Rows
section
variable {prog:O9} {w:Qd} {A:Qc} {E:Value->Ov->Prop} {s:Ov}
theorem DQ {t:Addr} {zs:List Value} {R:List Value->Ov->Prop} (ht:s.heap.IsTuple t zs.toArray) (hz:zs.length<=sizeLine)
  (k:R zs { s with heap:=(s.heap.push (U4 "list" #[] 0)).update s.heap.objs.size (Sd (·++zs.toArray)) }):O3 (O5 prog w) A (collect (.ref t)) R E s:=by
 obtain⟨o,ho,hc,m,hd⟩:=id ht
 have old:(s.heap.push (U4 "list" #[] 0)).get? t=some o:=Ox _ ho
 have new:(s.heap.push (U4 "list" #[] 0)).get? s.heap.objs.size=some (U4 "list" #[] 0):=O6 _ rfl
 unfold collect
 apply Ou
 apply wpAny_runValue
 apply Q5 entry_proto_collect'
 apply Ou (m:=newList [])
 refine Wl ?_
 apply Oz
 refine⟨Vk _ (by decide+kernel),?_⟩
 apply Q5 entry_list_iadd'
 show O3 _ _ (Tc _ _ _) _ _ _
 unfold Tc
 apply Ou
 refine Wz (T:="tuple") ⟨o,old,hc⟩ ?_
 rw[if_pos (by rw[show (R0 "tuple" == R0 "tuple")=true from rfl]; simp)]
 apply Ou
 apply listItems_at old hd
 apply Ou
 apply listItems_at (xs:=#[]) (n:=0) new rfl
 rw[if_neg (by simp)]
 apply Ou
 refine listUpdate_at (xs:=#[]) (n:=0) new rfl ?_ (Ql _) ?_
 ·apply Oz
  apply Ou (m:=load s.heap.objs.size)
  apply wpAny_load (get?_update_seq new _)
  show O3 _ _ (pure ((#[]:Array Value)++zs.toArray).toList) R E _
  have e:((#[]:Array Value)++zs.toArray).toList=zs:=by simp
  rw[e]
  exact Oz k
 ·have e:((#[]:Array Value)++zs.toArray).size=zs.length:=by simp
  show ((#[]:Array Value)++zs.toArray).size<=sizeLine+1
  rw[e]
  exact Nat.le_succ_of_le hz
theorem yS {t:Addr} {zs:List Value} {ns:List Int} {R:Value->Ov->Prop} (ht:s.heap.IsTuple t zs.toArray) (hi:QG zs ns) (h64:zs.length < 64)
  (k:∀ (out:Array Value) (ms:List Int),QG out.toList ms->ms.Perm ns->ms.Pairwise (·<=·)->R (.ref (s.heap.objs.size+1)) { s with heap:=sortedAll s.heap zs out }):O3 (O5 prog w) A (call (.builtin "sorted") [.ref t]) R E s:=by
 apply Vm kind_sorted plain_sorted entry_sorted (args_sorted1 _)
 unfold Sq.«sorted»
 apply Ou (m:=checkCount "sorted" 1 1 _)
 apply Oz
 apply Ou
 apply DQ ht (Q7 (VJ h64 (by decide)))
 apply Ou
 refine Wl ?_ (hsz:=Q7 (VJ h64 (by decide)))
 generalize eg:(s.heap.push (U4 "list" #[] 0)).update s.heap.objs.size (Sd (·++zs.toArray))=g
 have hg:g.objs.size=s.heap.objs.size+1:=by rw[← eg,Heap.size_update,size_push']
 have top:(g.push (U4 "list" zs.toArray 0)).get? (s.heap.objs.size+1)=some (U4 "list" zs.toArray 0):=by
  rw[← hg]
  exact O6 _ rfl
 show O3 _ _ _ _ _ { s with heap:=g.push (U4 "list" zs.toArray 0) }
 rw[hg]
 apply Ou
 apply QC
 refine QR slot_list_sort ⟨_,top,rfl⟩ Xx ?_ (args_list_sort _)
 ·refine list_sort_tree top hi h64 fun out ms a1 a2 a3=>⟨_,rfl,?_⟩
  have:=k out ms a1 a2 a3
  unfold sortedAll at this
  rw[eg] at this
  exact Oz ⟨_,rfl,this⟩
end
section
variable {X:Cx}
inductive zr (K:Py) (xs:List V) (H:Hp) (Q:VK):Prop where
 | mk (p:Addr) (ns:List Int) (z0:xs=[.ref p]) (z1:SqT K H p (ns.map V.int)) (z2:ns.length < 64) (z3:∀ ms:List Int,ms.Perm ns->ms.Pairwise (·<=·)->∀ l,H l=none->Q (.ref l) (upd H l (.lst (ms.map V.int)))):zr K xs H Q
def Gb (K:Py):List V->Hp->VK->Prop:=fun xs H Q=>zr K xs H Q
theorem yd:fL X (.builtin "sorted") (Gb X.K):=by
 intro pins s σ H xs us Q I r h
 obtain⟨p,ns,rfl,hq,h64,q⟩:=h
 obtain⟨u,rfl,ru⟩:=vals1 r
 cases ru
 obtain⟨its,rv,pl,hz⟩:=I.tuple hq
 have hi:QG its ns:=intsAre_of rv
 refine yS pl hi (by have:=hi.length; lia) fun out ns' a1 a2 a3=>?_
 obtain⟨e,he⟩:=sortedAll_at s.heap its out
 have hml:(ns'.map V.int).length<=sizeLine:=by
  rw[Ow,a2.length_eq]
  exact Q7 (OD h64 (by decide))
 exact⟨.ref _,_,I.HY rfl rfl (fun _ _=>sortedAll_old) (Rm _) (gY a1) hml he,rfl,q ns' a2 a3 _ (I.hok.fresh (Rm _))⟩
end
end L2
namespace L2
open PySem PySem.Spec PyProof.Rows
inductive gD (K:O1) (x:Px) (C:Addr):Prop where
 | mk (a:PySem.W.nsIn K O8 x=some (some (.ref C))) (pg:UG K C Str.empty=true) (hd:SQ K C=true) (po:WT K C=true) (sa:Qz K (.ref C) "__setattr__" = some (some (.builtin "object.__setattr__"))) (ms:Xy K C=true) (kp:QW K (.ref C)=true):gD K x C
inductive cF (K:O1) (C:Addr) (m q:Px) (st:Stmt) (f:Addr):Prop where
 | mk {od an:Option Addr} {sl:Array (Option Value)} {oc kV dc pm cd ct:Value} (a:Qz K (.ref C) m=some (some (.ref f))) (fn:WX K (.ref f)=true) (l:K.lookup f=some ⟨oc,od,.func (RV m q (cM st) (bH st) (aA st) .none kV dc pm an cd ct),sl⟩) (c:Tp K cd q=true) (k:QW K (.ref f)=true):cF K C m q st f
section
variable {P:O9} {w:Qd} {K:Py} {mg:Px->Option Value} {base h:Qo} {x m q:Px} {st:Stmt} {C f:Addr} {ps:List Px} {sp:Sp} {k:Nat}
theorem gD.cl (c:gD K x C):Cls K C:=by
 obtain⟨_,pg,hd,po,sa,_,_⟩:=c
 exact⟨pg,hd,po,sa⟩
theorem cF.dm (o:cF K C m q st f) (c:gD K x C) (hb:∀ fd,Fun K m q st f fd->Binds K fd ps []) (ok:∀ fd,Fun K m q st f fd->bK P w K mg base CX0 k f fd ps sp):Dm2 P w K mg base C m k ps sp:=by
 obtain⟨a,fn,l,cd,k⟩:=o
 have F:=nH l cd k
 exact⟨⟨_,_,ok _ F,c.cl,⟨a,fn,k⟩,hb _ F⟩⟩
theorem cF.dk (o:cF K C "__init__" q st f) (c:gD K x C) (X:K.In h) (G:h.Ns O8 mg) (hb:∀ fd,Fun K "__init__" q st f fd->Binds K fd ps []) (ok:∀ fd,Fun K "__init__" q st f fd->bK P w K mg base CX0 k f fd ps sp):Dk2 P w K mg base x C k ps sp:=by
 obtain⟨a,fn,l,cd,k⟩:=o
 obtain⟨n,_,_,_,_,ms,kp⟩:=c
 have F:=nH l cd k
 exact⟨⟨_,_,ok _ F,⟨ms,a,fn,kp⟩,UJ X G n,hb _ F⟩⟩
end
end L2
namespace L2
open PySem PySem.Spec PyProof.Rows
structure Dmx (P:O9) (w:Qd) (K:O1) (mg:Px->Option Value) (base:Qo) (C:Addr) (m:Px) (k:Nat) (ps:List Px) (sp:Sp):Prop where
 ex:∃ (f:Addr) (fd:Qw),bK P w K mg base (XL P w) k f fd ps sp/\Cls K C/\Meth K C m f/\Binds K fd ps []
section
variable {X:Cx} {k j:Nat} {m:Px} {C:Addr} {ps:List Px} {sp:Sp} {pos apos:Ut} {o e:Expr} {es:List Expr} {to:TE} {t:TA} {E:XK}
theorem Dq {pl:Sem Bool} (D:Dmx X.prog X.w X.K X.mg X.base C m k ps sp) (hr:dG j X.A) (hx:Passes (XL X.prog X.w) X E) (ho:PE X o to) (ha:PA X (e::es) t) (hk:k<=j:=by first | decide | exact OJ _ | lia)
  (hst:Pz (e::es) X.env=(false,QZ e X.env)::Pz es X.env:=by rfl) (hpl:(Rn pos (Pz es X.env)).any (·.1)=false:=by rfl)
  (ht:QZ (.Call (.Attribute o m apos) (e::es) [] pos) X.env=(do
   let ov ← QZ o X.env
   Tu apos.atName
   let (f,first) ← T6 [ov] (Ux ov m pl)
   V6 pos f first (Rn pos (Pz (e::es) X.env)) (Vx pos (Ue [] X.env))):=by rfl) :
  PE X (.Call (.Attribute o m apos) (e::es) [] pos) (zL C m sp [] E to t):=by
 obtain⟨f,fd,F,c,hm,hb⟩:=D.ex
 exact zR ho c hm F (hr.mono hk) hb .nil hx ha hst hpl ht
theorem Ig {pl:Sem Bool} (D:Dmx X.prog X.w X.K X.mg X.base C m k ps sp) (hr:dG j X.A) (hx:Passes (XL X.prog X.w) X E) (ho:PE X o to) (hk:k<=j:=by first | decide | exact OJ _ | lia)
  (ht:QZ (.Call (.Attribute o m apos) [] [] pos) X.env=(do
   let ov ← QZ o X.env
   Tu apos.atName
   let (f,first) ← T6 [ov] (Ux ov m pl)
   V6 pos f first (Rn pos (Pz [] X.env)) (Vx pos (Ue [] X.env))):=by rfl) :
  PE X (.Call (.Attribute o m apos) [] [] pos) (zL C m sp [] E to Gp):=by
 obtain⟨f,fd,F,c,hm,hb⟩:=D.ex
 exact Dv ho c hm F (hr.mono hk) hb .nil hx ht
end
section
variable {P:O9} {w:Qd} {K:Py} {mg:Px->Option Value} {base h:Qo} {x m q:Px} {st:Stmt} {C f:Addr} {ps:List Px} {sp:Sp} {k:Nat}
theorem cF.dmx (o:cF K C m q st f) (c:gD K x C) (hb:∀ fd,Fun K m q st f fd->Binds K fd ps []) (ok:∀ fd,Fun K m q st f fd->bK P w K mg base (XL P w) k f fd ps sp):Dmx P w K mg base C m k ps sp:=by
 obtain⟨a,fn,l,cd,k⟩:=o
 have F:=nH l cd k
 exact⟨⟨_,_,ok _ F,c.cl,⟨a,fn,k⟩,hb _ F⟩⟩
theorem HasDef.dx (q:HasDef K x st f) (X:K.In h) (G:h.Ns O8 mg) (hb:∀ fd,Fun K x x st f fd->Binds K fd ps []) (ok:∀ fd,Fun K x x st f fd->bK P w K mg base (XL P w) k f fd ps sp):Dx P w K mg base x k ps sp:=by
 obtain⟨a,l,c,k⟩:=q
 have F:=nH l c k
 exact⟨⟨_,_,ok _ F,UJ X G a,k,hb _ F⟩⟩
end
section
variable {X:Cx}
end
end L2
namespace L2
open PySem PySem.Spec PyProof.Rows
inductive dB (K:O1) (x q:Px) (C fi:Addr) (st:Stmt) (bm:List Value):Prop where
 | mk {nm qn:Px} {N:Addr} {bs sub:List Value} {hdct ab:Bool} {sn:List Px} {col:Option Bool} {dd odi ani:Option Addr} {k0 k1 k2 k3 k5:Option Value} {cd:ClassData} {sli:Array (Option Value)} {oci kVi dci pmi cdi cti:Value}
  (ac:Ri K O8 x=some (some (.ref C))) (oc:K.lookup C=some (R8 nm qn C N bs bm hdct sn sub ab col dd k0 k1 k2 k3 k5 "ValueError.__new__")) (ve:KD bm) (ic:Tg K (.ref C) "__init__" = some (some (.ref fi))) (tc:W.typeIn K (.ref fi)=some (.type "function")) (pc:W.keepIn K (.ref C)=true)
  (sc:Tg K (.ref C) "__setattr__" = some (some (.builtin "object.__setattr__"))) (dc:W.clsIn K C=some cd) (uc:oG cd.mro=true) (hc:cd.hasDict=true) (kc:W.takerIn K C "word" = some none) (gc:Tg K (.ref C) "__getattribute__" = some (some (.builtin "BaseException.__getattribute__")))
  (gh:Tg K (.ref C) "__getattr__" = some none) (nc:Tg K (.ref C) "word" = some none) (li:K.lookup fi=some ⟨oci,odi,.func (Wt "__init__" q (cM st) (bH st) (aA st) .none kVi dci pmi ani cdi cti),sli⟩) (ci:W.codeIn K cdi q=true) (ki:W.keepIn K (.ref fi)=true):dB K x q C fi st bm
inductive gq (K:O1) (x:Px) (st:Stmt) (f c T:Addr):Prop where
 | mk {od an:Option Addr} {sl:Array (Option Value)} {oc kV dc pm ct:Value} (a:PySem.W.nsIn K O8 x=some (some (.ref f))) (l:K.lookup f=some ⟨oc,od,.func (RV x x (cM st) (bH st) (aA st) .none kV dc pm an (.ref c) ct),sl⟩) (cc:Tp K (.ref c) x=true) (k:QW K (.ref f)=true) (hd:PySem.W.codeHdIn K c T=true):gq K x st f c T
section
variable {K:Py} {mg:Px->Option Value} {h:Qo} {x q x' q':Px} {C fi C' fi' f c T:Addr} {st st':Stmt} {bm bm':List Value}
theorem dB.name (o:dB K x q C fi st bm) (X:K.In h) (G:h.Ns O8 mg):mg x=some (.ref C):=by
 obtain⟨ac⟩:=o
 exact UJ X G ac
theorem dB.Jk (o:dB K x q C fi st bm):Dw K C fi "word":=by
 obtain⟨ac,oc,ve,ic,tc,pc,sc,dc,uc,hc,kc⟩:=o
 exact⟨⟨_,_,_,_,_,_,_,_,_,_,_,_,_,_,_,_,oc,ve⟩,ic,tc,pc,sc,⟨_,dc,uc,hc⟩,kc⟩
theorem dB.fn (o:dB K x q C fi st bm):∃ fd,Fun K "__init__" q st fi fd:=by
 obtain⟨_,_,_,_,_,_,_,_,_,_,_,_,_,_,li,ci,ki⟩:=o
 exact⟨_,nH li ci ki⟩
theorem dB.kp (o:dB K x q C fi st bm):W.keepIn K (.ref fi)=true:=by
 obtain⟨_,_,_,_,_,_,_,_,_,_,_,_,_,_,_,_,ki⟩:=o
 exact ki
theorem dB.xrd (o:dB K x q C fi st bm) (b:dB K x' q' C' fi' st' bm') (mr:(Pg C::bm).contains (.ref C')=true):XRd K C C' "word":=by
 obtain⟨_,oc,_,_,_,_,_,dc,uc,hc,_,gc,gh,nc⟩:=o
 obtain⟨_,oc',ve'⟩:=b
 exact⟨⟨_,_,_,_,_,_,_,_,_,_,_,_,_,_,_,_,_,oc,mr⟩,⟨_,_,_,_,_,_,_,_,_,_,_,_,_,_,_,_,_,oc',ve'.b⟩,gc,gh,⟨_,dc,uc⟩,by unfold SQ; rw[dc]; exact hc,nc⟩
theorem HasDef.fn (o:HasDef K x st f):∃ fd,Fun K x x st f fd:=by
 obtain⟨a,l,c,k⟩:=o
 exact⟨_,nH l c k⟩
theorem gq.name (o:gq K x st f c T) (X:K.In h) (G:h.Ns O8 mg):mg x=some (.ref f):=by
 obtain⟨a⟩:=o
 exact UJ X G a
theorem gq.hd (o:gq K x st f c T):W.codeHdIn K c T=true:=by
 obtain⟨_,_,_,_,hd⟩:=o
 exact hd
theorem gq.law {y:Px} (o:gq K x st f c T) (hb:∀ (kV dc pm:Value) (an:Option Addr) (cd ct:Value) (s:Ov) (v:Value),VL s (Wt x x (cM st) (bH st) (aA st) .none kV dc pm an cd ct) ⟨[v],[]⟩ [(y,v)]):∃ fd,Lf K x x st f fd c/\∀ (s:Ov) (v:Value),VL s fd ⟨[v],[]⟩ [(y,v)]:=by
 obtain⟨a,l,cc,k,hd⟩:=o
 exact⟨_,⟨⟨_,_,_,_,_,_,_,_,rfl,l,cc⟩⟩,hb _ _ _ _ _ _⟩
end
end L2
namespace L2
open PySem PySem.Spec PyProof.Rows
section
variable {X:Cx}
theorem LC {kvs:List (Key × V)} {vs:List (Key × Value)} (r:KV kvs vs):kvs.map (·.1)=vs.map (·.1):=by
 induction r with
 | nil=>rfl
 | cons h _ ih =>
  rw[Qv,Qv,ih,h.1]
theorem BZ {ks:List Int} {acc:List Value} (hl:acc.length=ks.length) (h:∀ (j:Nat) (v:Value),acc[j]? = some v->∃ i:Int,ks[j]? = some i/\∃ t,v = .int i t):QG acc ks:=by
 induction ks generalizing acc with
 | nil =>
  cases acc with
  | nil=>exact .nil
  | cons _ _=>cases hl
 | cons k ks ih =>
  cases acc with
  | nil=>cases hl
  | cons a acc =>
   obtain⟨i,e,t,rfl⟩:=h 0 a rfl
   cases (show some k=some i from e)
   exact .cons _ _ (ih (Nat.succ.inj hl) fun j v e=>h (j+1) v e)
inductive CZ (xs:List V) (H:Hp) (Q:VK):Prop where
 | mk (p:Addr) (kvs:List (Key × V)) (ns:List Int) (z0:xs=[.ref p]) (z1:H p=some (.dK kvs)) (z2:kvs.map (·.1)=ns.map Ru) (z3:ns.length < 64) (z4:∀ ms:List Int,ms.Perm ns->ms.Pairwise (·<=·)->∀ l,H l=none->Q (.ref l) (upd H l (.lst (ms.map V.int)))):CZ  xs H Q
def vY:List V->Hp->VK->Prop:=fun xs H Q=>CZ  xs H Q
theorem kJ (hc:X.calm=true):fL X (.builtin "sorted") vY:=by
 intro pins s σ H xs us Q I r h
 obtain⟨p,kvs,ns,rfl,hp,hk,h64,q⟩:=h
 obtain⟨u,rfl,ru⟩:=vals1 r
 cases ru
 obtain⟨z,hd,vs,rel,dd⟩:=Jw I.hok hp
 obtain⟨ep,hat⟩:=dd.dictAt
 have ek:=(LC rel).symm.trans hk
 have lv:vs.length=ns.length:=by
  have:=congrArg List.length ek
  rwa [Ow,Ow] at this
 refine Vm kind_sorted plain_sorted entry_sorted (args_sorted1 _) ?_
 unfold Sq.«sorted»
 refine Ou (m:=checkCount "sorted" 1 1 _) (Oz ?_)
 refine Ou (PySem.W.kdu_collect (A:=X.A.in1) (PySem.W.kdl_dict (knd:=cV X.prog X.w) (kvs:=vs) (ep:=ep) hd) (I.ok.hd hc) hat (by rw[lv]; exact Q7 (OD h64 (by decide))) fun h' tk acc hkp hacc=>?_)
 have I1:Inv X pins σ H { s with heap:=h',toks:=tk }:=I.kept (t':=tk) hkp
 have la:acc.toList.length=ns.length:=by rw[Qk]; exact hacc.1.trans lv
 have hi:QG acc.toList ns:=BZ la fun j v e=>by
  obtain⟨k,x,hx,hkv⟩:=hacc.2 j v (by rw[← QD]; exact e)
  have e1:(vs.map (·.1))[j]? = some k:=by rw[Pk,hx]; rfl
  rw[ek,Pk] at e1
  cases z:ns[j]? with
  | none=>rw[z] at e1; cases e1
  | some i =>
   rw[z] at e1
   cases e1
   rcases bZ (show vg (Ru i) v=true from hkv) with⟨i',t,e2,e3⟩ | ⟨x',t,e2,_⟩
   ·cases e2
    exact⟨i,rfl,t,e3⟩
   ·cases e2
 refine Ou (Wl ?_ (by rw[la]; exact Q7 (OD h64 (by decide))))
 have top:(h'.push (U4 "list" acc.toList.toArray 0)).get? h'.objs.size=some (U4 "list" acc.toList.toArray 0):=O6 _ rfl
 show O3 _ _ _ _ _ { s with heap:=h'.push (U4 "list" acc.toList.toArray 0),toks:=tk }
 apply Ou
 apply QC
 refine QR slot_list_sort ⟨_,top,rfl⟩ Xx ?_ (args_list_sort _)
 refine list_sort_tree top hi (by rw[la]; exact h64) fun out ms a1 a2 a3=>⟨_,rfl,Oz ⟨_,rfl,?_⟩⟩
 obtain⟨e,he⟩:=sortedHeap_at (out:=out) top
 have hml:(ms.map V.int).length<=sizeLine:=by
  rw[Ow,a2.length_eq]
  exact Q7 (OD h64 (by decide))
 have old:∀ b o,h'.get? b=some o->(sortedHeap (h'.push (U4 "list" acc.toList.toArray 0)) h'.objs.size acc.toList out).get? b=some o:=fun b o hb=>by
  have hlt:=O4 hb
  rw[sortedHeap_old (Pa hlt) (by rw[size_push']; exact QB hlt),Heap.get?_push_ne _ _ _ (Pa hlt)]
  exact hb
 exact⟨.ref _,_,I1.HY rfl rfl old (OJ _) (gY a1) hml he,rfl,q ms a2 a3 _ (I1.hok.fresh (OJ _))⟩
end
end L2
namespace L2
open PySem PySem.Spec PyProof.Rows
section
variable {X:Cx}
inductive Gk (xs:List V) (H:Hp) (Q:VK):Prop where
 | mk (a:Addr) (kvs:List (Key × V)) (z0:xs=[.ref a]) (z1:H a=some (.dK kvs)) (z2:Q (.int kvs.length) H):Gk  xs H Q
def J9:List V->Hp->VK->Prop:=fun xs H Q=>Gk  xs H Q
theorem yP:fL X (.builtin "len") J9:=by
 intro pins s σ H xs us Q I r h
 obtain⟨a,kvs,rfl,ha,q⟩:=h
 obtain⟨u,rfl,ru⟩:=vals1 r
 cases ru
 exact Mp I (.inl ha) fun t s' I'=>⟨.int kvs.length,H,I',⟨t,rfl⟩,q⟩
inductive wj (xs:List V) (H:Hp) (Q:VK):Prop where
 | mk (a:Addr) (kvs:List (Key × V)) (z0:xs=[.ref a]) (z1:H a=some (.dK kvs)) (z2:∀ p,H p=none->Q (.ref p) (upd H p (.dK kvs))):wj  xs H Q
def Cg:List V->Hp->VK->Prop:=fun xs H Q=>wj  xs H Q
theorem vo:fL X (.type "dict") Cg:=by
 intro pins s σ H xs us Q I r h
 obtain⟨a,kvs,rfl,ha,q⟩:=h
 obtain⟨u,rfl,ru⟩:=vals1 r
 cases ru
 exact Er I (.inl ha) fun p s' hp I'=>⟨.ref p,_,I',rfl,q p hp⟩
theorem Ho:Qn "dict" = some (.type "dict"):=by decide+kernel
end
end L2
namespace My
open PySem L2
variable {P:O9} {w:Qd} {K:Py} {mg:Px->Option Value} {base:Qo} {f:Addr} {fd:Qw}
def top (i:Nat):Stmt:=PySem.Challenge.pw_loveboon_k33_folk_come_and_leave.main.body.getD i (.Pass ⟨0,0,0,0⟩)
theorem aD {H:Hp} {p:Addr} (h:H p=none) (o:HO):aV H (upd H p o):=fun b u q=>by rw[aN (cz q h)]; exact q
theorem bu {H H':Hp} {p:Addr} (s:aV H H') (h:H p=none) (o:HO):aV H (upd H' p o):=fun b u q=>by rw[aN (cz q h)]; exact s b u q
theorem gk {K:Py} {H H':Hp} {a:Addr} {xs:List V} (e:aV H H') (h:SqT K H a xs):SqT K H' a xs:=by
 rcases h with (h | ⟨o,h⟩) | h
 ·exact .inl (.inl (e _ _ h))
 ·exact .inl (.inr ⟨o,e _ _ h⟩)
 ·exact .inr h
theorem Gz {H:Hp} {p:Addr} {o o':HO}:upd (upd H p o) p o'=upd H p o':=by
 funext b
 unfold upd
 by_cases e:b=p
 ·rw[if_pos e,if_pos e]
 ·rw[if_neg e,if_neg e,if_neg e]
theorem small {n:Nat} (h:n<=1000):n<=sizeLine:=Q7 (bj h)
theorem int_at {ns:List Int} {i:Nat} {x:V} (h:(ns.map V.int)[i]? = some x):∃ n,ns[i]? = some n/\x = .int n:=by
 rw[Pk] at h
 cases e:ns[i]? with
 | none=>rw[e] at h; cases h
 | some n=>rw[e] at h; exact⟨n,rfl,(Qh h).symm⟩
theorem qu {α β:Type} (f:α->β) {xs:List α} {i:Nat} {x:α} (h:xs[i]? = some x):(xs.take i).map f++[f x]=(xs.take (i+1)).map f:=by
 rw[PL,h,O7]
 rfl
theorem w6 {ns:List Int} {i:Nat} (h:i < ns.length):atI (ns.map V.int) (i:Int)=some (.int ns[i]):=gj (by rw[Pk,PB h]; rfl)
theorem gT {i:Nat} {x:V} {σ:St} {H:Hp} {A B:St->Hp->Prop} (h:A (σ.set i (some x)) H):vR i x σ H (fun σ3 H3=>Ij σ3 H3 (fun b H4=>if b=true then A σ3 H4 else B σ3 H4)):=by
 show if true=true then A (σ.set i (some x)) H else B (σ.set i (some x)) H
 rw[if_pos rfl]
 exact h
theorem aW {H H1:Hp} {p:Addr} {o:HO} (e:upd H p o=H1) (h:H p=none):aV H H1/\H1 p=some o:=by
 subst e
 exact⟨aD h _,ao⟩
theorem au {xs:List V} {k:Nat} {v:V} (h:xs[k]? = some v):atI xs (k:Int)=some v:=gj h
theorem pR {ns:List Int} {k:Nat} {n:Int} (h:ns[k]? = some n):(ns.map V.int)[k]? = some (.int n):=by rw[Pk,h]; rfl
theorem rQ:∀ ns:List Int,fJ (ns.map Dm.int)=0
 | []=>by simp [fJ]
 | n::r=>by simp [fJ,Dm.dep,rQ r]
theorem pZ {H:Hp} {a:Addr} {ns:List Int} (h:H a=some (.tup (ns.map V.int))) (l:ns.length<=1000):Rep H (.ref a) (.tup (ns.map Dm.int)):=.tup h (by rw[Ow]; lia) (tQ ns)
theorem zB (ns:List Int):(Dm.tup (ns.map Dm.int)).dep=1:=by rw[Dm.dep,rQ]
def vN (i:Nat):V:=.int (i:Int)
theorem m5 (c:List Nat):c.map vN=(c.map fun i:Nat=>(i:Int)).map V.int:=by rw[List.map_map]; rfl
theorem yL {c:List Nat} {j:Nat} {x:V} (h:(c.map vN)[j]? = some x):∃ i,c[j]? = some i/\x=vN i:=by
 rw[Pk] at h
 cases e:c[j]? with
 | none=>rw[e] at h; cases h
 | some i=>rw[e] at h; exact⟨i,rfl,(Qh h).symm⟩
theorem pL {H:Hp} {D:Addr} {zs zs':List V} (h:H D=some (.lst zs)):∀ a xs,H a=some (HO.tup xs)->upd H D (.lst zs') a=some (HO.tup xs):=fun a xs q=>by
 rw[aN (fun z=>by rw[z,h] at q; cases q)]
 exact q
abbrev jf:Stmt:=top 52
theorem bR:aM ["_law_cell","_law_parts","_law_one","_law_two","_law_six","_law_found","_law_part"] ["_law_cell","_law_parts"] (aA jf):=⟨rfl,rfl,rfl,by decide+kernel,rfl,by decide+kernel,by decide+kernel⟩
def pP (c:Int):Int:=(c * 48271+11) % 2147483647
def Eu (c:Int):Int:=(pP c * pP c+40692 * pP c+c) % 2147483399
def Mv (c:Int):Int:=(Eu c * 16807+pP c) % 1000000007
def DR (c:Int):Int:=if decide ((if c < 0 then -c else c) < 10 ^ (18:Int).toNat)=true then Eu c+2147483399 * (Mv c+1000000007 * pP c) else (if c < 0 then -c else c) - 10 ^ (18:Int).toNat
def Bc:Int->List Int->List Int
 | _,[]=>[]
 | c,p::ps=>c % p::Bc (c / p) ps
def divC:Int->List Int->Int
 | c,[]=>c
 | c,p::ps=>divC (c / p) ps
theorem nO (p:Int):∀ (ps:List Int) (c:Int),Bc c (ps++[p])=Bc c ps++[divC c ps % p]
 | [],_=>rfl
 | q::ps,c=>by
  show c % q::Bc (c / q) (ps++[p])=c % q::(Bc (c / q) ps++[divC (c / q) ps % p])
  rw[nO p ps]
theorem m7 (p:Int):∀ (ps:List Int) (c:Int),divC c (ps++[p])=divC c ps / p
 | [],_=>rfl
 | q::ps,c=>m7 p ps (c / q)
theorem jq:∀ (ps:List Int) (c:Int),(Bc c ps).length=ps.length
 | [],_=>rfl
 | _::ps,_=>congrArg Nat.succ (jq ps _)
theorem jF:∀ {ps:List Int} {c:Int} {i:Nat} {p:Int},(∀ q∈ps,0 < q)->ps[i]? = some p->∃ v,(Bc c ps)[i]? = some v/\0<=v/\v < p
 | [],_,_,_,_,h=>by simp at h
 | q::ps,c,0,p,hp,h=>by
  cases (show some q=some p from h)
  exact⟨c % q,rfl,XH _ (by have:=hp q Ph; lia),Wv _ (hp q Ph)⟩
 | q::ps,c,i+1,p,hp,h=>by
  obtain⟨v,e,r⟩:=jF (ps:=ps) (c:=c / q) (i:=i) (fun z hz=>hp z (Pb _ hz)) (by simpa using h)
  exact⟨v,by simpa [Bc] using e,r⟩
def K3 (c:Int) (ps:List Int):List Int:=Bc (DR c) ps
theorem Hw (c:Int):0<=pP c/\pP c < 2147483647:=⟨XH _ (by decide),Wv _ (by decide)⟩
theorem Il (c:Int):0<=Eu c/\Eu c < 2147483399:=⟨XH _ (by decide),Wv _ (by decide)⟩
inductive wV (K:Py) (vs:List V) (H:Hp) (Q:VK):Prop where
 | mk (c:Int) (p:Addr) (ps:List Int) (z0:vs=[.int c,.ref p]) (z1:SqL K H p (ps.map V.int)) (z2:(∀ q∈ps,0 < q/\q < 1073741824)) (z3:ps.length<=1000) (z4:∀ r,H r=none->Q (.ref r) (upd H r (.lst ((K3 c ps).map V.int)))):wV K vs H Q
def zG (K:Py):Sp:=fun vs H Q _=>wV K vs H Q
theorem uD (F:Fun K "_law_draws" "_law_draws" jf f fd) (B:Bt mg) :
  bK P w K mg base CX0 1 f fd ["_law_cell","_law_parts"] (zG K):=by
 refine F.ok bR (fun vs H Q E h=>?_) (fun cdv A outer s H vs Q E hr h=>?_)
 ·obtain⟨c,p,ps,rfl,_⟩:=h
  rfl
 ·obtain⟨c,p,ps,rfl,hS,hp,hl,q⟩:=h
  refine⟨_,(aj (aY (aG yx (aC wY rfl B.abs_ Gw (aa (pv 0) ak)) (bW Bj az az) (aL _)) (aj (bh (i:=2) bR.nd rfl (Pr rfl) (bW pH (bW gG (bW pG (pv 0) az) az) az))
 (aj (bh (i:=3) bR.nd rfl (Pr rfl) (bW pH (bW gG (bW gG (bW pG (pv 2) (pv 2)) (bW pG az (pv 2))) (pv 0)) az))
 (aj (bh (i:=4) bR.nd rfl (Pr rfl) (bW pH (bW gG (bW pG (pv 3) az) (pv 2)) az))
 (aq (bh (i:=0) bR.nd rfl (Pr rfl) (bW gG (pv 3) (bW pG az (bW gG (pv 4) (bW pG az (pv 2)))))))))) (aq (bh (i:=0) bR.nd rfl (Pr rfl) (bW rm (aC wY rfl B.abs_ Gw (aa (pv 0) ak)) (bW Bj az az)))))
 (aj (bh (i:=5) bR.nd rfl (Pr rfl) (cJ ak))
 (aj (cZ Qy rfl (dh (pv 1)) (aP (i:=6) bR.nd rfl (Pr rfl)) (aj (cj (DN Ug T3 TY fH (pv 5) (aa (bW pH (pv 0) (pv 6)) ak)))
 (aq (bh (i:=0) bR.nd rfl (Pr rfl) (bW Jb (pv 0) (pv 6))))))
 (aq (aJ (pv 5)))))),?_⟩
  have b1:=Hw c
  have b2:=Il c
  refine⟨_,rfl,_,rfl,_,_,rfl,rfl,⟨by decide,by decide,by decide⟩,_,_,rfl,rfl,_,rfl,?_⟩
  refine zb (fun h=>?_) (fun h=>?_)
  ·refine⟨_,rfl,_,_,rfl,rfl,.inr ⟨by decide,by decide⟩,_,_,rfl,rfl,_,_,rfl,rfl,(by show (0:Int) < 2147483647; decide),?_⟩
   refine⟨_,rfl,_,rfl,_,_,rfl,rfl,.inl (show -(2 ^ 64) < pP c/\pP c < 2 ^ 64 from ⟨by lia,by lia⟩),_,rfl,_,_,rfl,rfl,.inl ⟨by decide,by decide⟩,_,_,rfl,rfl,_,rfl,_,_,rfl,rfl,_,_,rfl,rfl,(by show (0:Int) < 2147483399; decide),?_⟩
   refine⟨_,rfl,_,_,rfl,rfl,.inr ⟨by decide,by decide⟩,_,rfl,_,_,rfl,rfl,_,_,rfl,rfl,(by show (0:Int) < 1000000007; decide),?_⟩
   refine⟨_,rfl,_,rfl,_,rfl,_,_,rfl,rfl,.inl ⟨by decide,by decide⟩,_,_,rfl,rfl,_,_,rfl,rfl,.inl ⟨by decide,by decide⟩,_,_,rfl,rfl,?_⟩
   refine⟨small (Ql _),fun r hr0=>?_⟩
   refine⟨_,rfl,p,rfl,⟨_,(aD hr0 _).seq hS⟩,dq (K:=K) (a:=p) (xs:=ps.map V.int) (fun i σ H2=>∃ (z:Int) (o t u v:Option V),z=divC (DR c) (ps.take i)/\σ=[some (.int z),some (.ref p),o,t,u,some (.ref r),v] ∧
    H2=upd H r (.lst ((Bc (DR c) (ps.take i)).map V.int))) ⟨_,_,_,_,_,(if_pos h).symm,rfl,rfl⟩ ?_ ?_ ?_⟩
   ·rintro i σ H2 hi ⟨z,o,t,u,v,_,_,e⟩
    subst e
    exact (aD hr0 _).seq hS
   ·rintro i x σ H2 hx ⟨z,o,t,u,v,ez,rfl,rfl⟩
    obtain⟨d,hd,rfl⟩:=int_at hx
    obtain⟨h1,h2⟩:=hp d (Qe hd)
    have et:ps.take (i+1)=ps.take i++[d]:=by rw[PL,hd]; rfl
    refine⟨_,rfl,.inl ⟨rfl,_,SqL.of ao⟩,_,rfl,_,rfl,_,_,rfl,rfl,h1,r,_,_,rfl,rfl,ao,?_,_,rfl,_,rfl,_,_,rfl,rfl,⟨h1,h2⟩,_,_,_,_,_,?_,rfl,?_⟩
    ·rw[Ow,jq,Qf]
     exact bj (by lia)
    ·rw[et,m7,ez]
    ·rw[Gz,et,nO,O7,ez]
     rfl
   ·rintro σ H2 ⟨z,o,t,u,v,_,rfl,rfl⟩
    refine⟨_,rfl,?_⟩
    have q':=q r hr0
    rw[Ow,Pq]
    exact q'
  ·refine⟨_,rfl,_,rfl,_,_,rfl,rfl,⟨by decide,by decide,by decide⟩,_,_,rfl,rfl,?_⟩
   refine⟨small (Ql _),fun r hr0=>?_⟩
   refine⟨_,rfl,p,rfl,⟨_,(aD hr0 _).seq hS⟩,dq (K:=K) (a:=p) (xs:=ps.map V.int) (fun i σ H2=>∃ (z:Int) (o t u v:Option V),z=divC (DR c) (ps.take i)/\σ=[some (.int z),some (.ref p),o,t,u,some (.ref r),v] ∧
    H2=upd H r (.lst ((Bc (DR c) (ps.take i)).map V.int))) ⟨_,_,_,_,_,(if_neg h).symm,rfl,rfl⟩ ?_ ?_ ?_⟩
   ·rintro i σ H2 hi ⟨z,o,t,u,v,_,_,e⟩
    subst e
    exact (aD hr0 _).seq hS
   ·rintro i x σ H2 hx ⟨z,o,t,u,v,ez,rfl,rfl⟩
    obtain⟨d,hd,rfl⟩:=int_at hx
    obtain⟨h1,h2⟩:=hp d (Qe hd)
    have et:ps.take (i+1)=ps.take i++[d]:=by rw[PL,hd]; rfl
    refine⟨_,rfl,.inl ⟨rfl,_,SqL.of ao⟩,_,rfl,_,rfl,_,_,rfl,rfl,h1,r,_,_,rfl,rfl,ao,?_,_,rfl,_,rfl,_,_,rfl,rfl,⟨h1,h2⟩,_,_,_,_,_,?_,rfl,?_⟩
    ·rw[Ow,jq,Qf]
     exact bj (by lia)
    ·rw[et,m7,ez]
    ·rw[Gz,et,nO,O7,ez]
     rfl
   ·rintro σ H2 ⟨z,o,t,u,v,_,rfl,rfl⟩
    refine⟨_,rfl,?_⟩
    have q':=q r hr0
    rw[Ow,Pq]
    exact q'
abbrev kZ:Stmt:=top 53
theorem uP:aM ["_law_found","_law_due"] ["_law_found","_law_due"] (aA kZ):=⟨rfl,rfl,rfl,by decide+kernel,rfl,by decide+kernel,by decide+kernel⟩
inductive Dg (n:Nat) (vs:List V) (H:Hp) (Q:VK):Prop where
 | mk (x y:V) (d:Dm) (z0:vs=[x,y]) (z1:Rep H x d) (z2:Rep H y d) (z3:d.dep < n) (z4:∀ H',aV H H'->Q (.bl true) H'):Dg n vs H Q
def nT (n:Nat):Sp:=fun vs H Q _=>Dg n vs H Q
theorem Lr {x:V}:decide (x=x)=true:=decide_eq_true rfl
theorem xU (n:Nat):(QL n true).all (fun b=>b)=true:=by
 induction n with
 | zero=>rfl
 | succ n ih=>rw[List.replicate_succ,Vv,ih]; rfl
theorem wR (n:Nat):(QL n true).map V.bl=QL n (V.bl true):=List.map_replicate
theorem bz {n:Nat} (F:Fun K "_law_same" "_law_same" kZ f fd) (B:Bt mg)
  (D_law_same:Df P w K mg base "_law_same" n ["_law_found","_law_due"] (nT n)):bK P w K mg base CX0 (n+1) f fd ["_law_found","_law_due"] (nT (n+1)):=by
 refine F.ok uP (fun vs H Q E h=>?_) (fun cdv A outer s H vs Q E hr h=>?_)
 ·obtain⟨x,y,d,rfl,_⟩:=h
  rfl
 ·obtain⟨x,y,d,rfl,rx,ry,hd,q⟩:=h
  refine⟨_,(aj (aY (Kz (Gy (pv 1))) (aq (aJ (Jy (Gy (pv 0))))) aH)
 (aj (aY (cI (aC (r:=qZ K) bU rfl B.isinstance_ aR (aa (pv 1) (aa (iw B.str_ FZ) ak)))) (aq (aJ (dF (aC (r:=qZ K) bU rfl B.isinstance_ aR (aa (pv 0) (aa (iw B.str_ FZ) ak))) (gF (bO bD (pv 0) (pv 1) (aL _)))))) aH)
 (aj (aY (cI (aC (r:=qZ K) bU rfl B.isinstance_ aR (aa (pv 1) (aa (iw B.int_ v8) ak)))) (aq (aJ (dF (aC (r:=qZ K) bU rfl B.isinstance_ aR (aa (pv 0) (aa (iw B.int_ v8) ak))) (dF (bO bD (aC (r:=qZ K) bU rfl B.isinstance_ aR (aa (pv 0) (aa (iw B.bool_ vU) ak))) (aC (r:=qZ K) bU rfl B.isinstance_ aR (aa (pv 1) (aa (iw B.bool_ vU) ak))) (aL _)) (gF (bO bD (pv 0) (pv 1) (aL _))))))) aH)
 (aj (aY (PW.pt (gM (aG qI (aC (r:=qZ K) bU rfl B.isinstance_ aR (aa (pv 1) (aa (iw B.list_ iz) ak))) (aC (r:=qZ K) bU rfl B.isinstance_ aR (aa (pv 0) (aa (iw B.list_ iz) ak))) (aL _)) (d9 (aG qI (aC (r:=qZ K) bU rfl B.isinstance_ aR (aa (pv 1) (aa (iw B.tuple_ cX) ak))) (aC (r:=qZ K) bU rfl B.isinstance_ aR (aa (pv 0) (aa (iw B.tuple_ cX) ak))) (aL _))))) (aq (aJ eE)) aH)
 (aq (aJ (dF (bO bD (aC (r:=jC K) aU rfl B.len_ bL (aa (pv 0) ak)) (aC (r:=jC K) aU rfl B.len_ bL (aa (pv 1) ak)) (aL _)) (gF (aC (r:=Ed K) (mV rfl) rfl B.all_ Bk (aa (di (L:=["_law_k"]) (F:=["_law_found","_law_due"]) (cap:=[0,1]) rfl (cG rfl rfl (by kernel_rfl)) (jL rfl B.range_ (aa (aC (r:=jC K) aU rfl B.len_ bL (aa (pv 1) ak)) ak)) (fun _ _ _ _ _=>(aP (i:=0) (cg (by decide+kernel)) rfl (Pr rfl))) (fun _ _ _ _ _=>fc) (fun _ _ _ _ _=>(bC D_law_same hr (aa (aQ (r:=rIx K) GP (pv 1) (pv 0) (fun _ _=>rfl)) (aa (aQ (r:=rIx K) GP (pv 2) (pv 0) (fun _ _=>rfl)) ak))))) ak)))))))))),?_⟩
  cases rx with
  | non =>
   cases ry
   refine⟨_,rfl,_,rfl,cH ?_⟩
   exact⟨_,rfl,q H (aV.refl H)⟩
  | bl b =>
   cases ry
   refine⟨_,rfl,_,rfl,bG ?_⟩
   refine⟨_,rfl,_,_,_,_,rfl,.bl b,uR _,_,rfl,bG ?_⟩
   refine⟨_,rfl,_,_,_,_,rfl,.bl b,mW _,_,rfl,cH ?_⟩
   refine⟨_,rfl,_,_,_,_,rfl,.bl b,mW _,_,rfl,cH ?_⟩
   refine⟨_,rfl,_,_,_,_,rfl,.bl b,dz _ _,_,rfl,_,_,_,_,rfl,.bl b,dz _ _,rfl,_,rfl,cH ?_⟩
   refine⟨_,rfl,_,rfl,rfl,?_⟩
   have q':=q H (aV.refl H)
   rw[← Lr (x:=V.bl b)] at q'
   exact q'
  | int i =>
   cases ry
   refine⟨_,rfl,_,rfl,bG ?_⟩
   refine⟨_,rfl,_,_,_,_,rfl,.int i,yI _,_,rfl,bG ?_⟩
   refine⟨_,rfl,_,_,_,_,rfl,.int i,dz _ _,_,rfl,cH ?_⟩
   refine⟨_,rfl,_,_,_,_,rfl,.int i,dz _ _,_,rfl,cH ?_⟩
   refine⟨_,rfl,_,_,_,_,rfl,.int i,jh _,_,rfl,_,_,_,_,rfl,.int i,jh _,rfl,_,rfl,cH ?_⟩
   refine⟨_,rfl,_,rfl,rfl,?_⟩
   have q':=q H (aV.refl H)
   rw[← Lr (x:=V.int i)] at q'
   exact q'
  | str z =>
   cases ry
   refine⟨_,rfl,_,rfl,bG ?_⟩
   refine⟨_,rfl,_,_,_,_,rfl,.str z,dz _ _,_,rfl,cH ?_⟩
   refine⟨_,rfl,_,_,_,_,rfl,.str z,dz _ _,_,rfl,cH ?_⟩
   refine⟨_,rfl,_,rfl,rfl,?_⟩
   have q':=q H (aV.refl H)
   rw[← Lr (x:=V.str z)] at q'
   exact q'
  | @tup a xs ds ha la ra =>
   cases ry with
   | @tup b ys _ hb lb rb =>
    have ex:=ra.length
    have ey:=rb.length
    have hdl:fJ ds < n:=by
     have hd':fJ ds+1 < n+1:=by rw[Dm.dep] at hd; exact hd
     lia
    refine⟨_,rfl,_,rfl,bG ?_⟩
    refine⟨_,rfl,_,_,_,_,rfl,.tup hb,uo _,_,rfl,bG ?_⟩
    refine⟨_,rfl,_,_,_,_,rfl,.tup hb,sX _,_,rfl,bG ?_⟩
    refine⟨_,rfl,_,_,_,_,rfl,.tup hb,jH _,_,rfl,_,_,_,_,rfl,.tup ha,jH _,rfl,_,rfl,bG ?_⟩
    refine⟨_,rfl,_,_,_,_,rfl,.tup hb,dz _ _,_,rfl,_,_,_,_,rfl,.tup ha,dz _ _,rfl,_,rfl,bG ?_⟩
    refine⟨_,rfl,a,_,rfl,.inr (SqT.of ha),_,rfl,b,_,rfl,.inr (SqT.of hb),rfl,_,rfl,?_⟩
    have ec:decide (V.int (xs.length:Int)=V.int (ys.length:Int))=true:=decide_eq_true (by rw[ex,ey])
    rw[ec]
    refine cH ?_
    refine⟨_,rfl,b,_,rfl,.inr (SqT.of hb),_,rfl,by lia,by lia,fun D hD=>fO (lo:=0) (n:=ys.length) (fun i zs σ' H2=>(∃ v,σ'=[v,some (.ref a),some (.ref b)])/\zs=QL i (V.bl true)/\aV H H2/\H2 D=some (.lst zs))
     ⟨⟨_,rfl⟩,rfl,aD hD _,ao⟩ (fun i zs σ' H2 _ h=>h.2.2.2) ?_ ?_⟩
    ·rintro i zs σ' H2 hi ⟨⟨v,rfl⟩,rfl,sm,hDl⟩
     obtain⟨v1,d1,e1,e2,r1⟩:=ra.get (i:=i) (by lia)
     obtain⟨v2,d2,e3,e4,r2⟩:=rb.get (i:=i) hi
     rw[e2] at e4
     cases e4
     have at1:atI xs (0+(i:Int))=some v1:=by rw[Us]; exact gj e1
     have at2:atI ys (0+(i:Int))=some v2:=by rw[Us]; exact gj e3
     refine gT ?_
     refine⟨_,rfl,_,rfl,.inr (.inl ⟨a,xs,_,v1,rfl,rfl,SqT.of (sm _ _ ha),at1,_,rfl,_,rfl,.inr (.inl ⟨b,ys,_,v2,rfl,rfl,SqT.of (sm _ _ hb),at2,v1,v2,d1,rfl,r1.mono sm,r2.mono sm,?_,fun H3 s3=>⟨s3 _ _ hDl,?_,⟨_,rfl⟩,?_,bu (sm.trans s3) hD _,ao⟩⟩)⟩)⟩
     ·exact Ud (qU e2) hdl
     ·rw[SJ]
      exact OD (show i < 100000 by lia) (by decide)
     ·rw[List.replicate_succ']
    ·rintro zs σ' H2 ⟨_,rfl,sm,hDl⟩
     refine⟨D,QL ys.length true,rfl,SqL.of (by rw[hDl,wR]),?_⟩
     rw[xU]
     exact q _ sm
  | @lst a xs ds ha la ra =>
   cases ry with
   | @lst b ys _ hb lb rb =>
    have ex:=ra.length
    have ey:=rb.length
    have hdl:fJ ds < n:=by
     have hd':fJ ds+1 < n+1:=by rw[Dm.dep] at hd; exact hd
     lia
    refine⟨_,rfl,_,rfl,bG ?_⟩
    refine⟨_,rfl,_,_,_,_,rfl,.lst hb,vh _,_,rfl,bG ?_⟩
    refine⟨_,rfl,_,_,_,_,rfl,.lst hb,uM _,_,rfl,bG ?_⟩
    refine⟨_,rfl,_,_,_,_,rfl,.lst hb,dz _ _,_,rfl,_,_,_,_,rfl,.lst ha,dz _ _,rfl,_,rfl,bG ?_⟩
    refine⟨_,rfl,_,_,_,_,rfl,.lst hb,jJ _,_,rfl,_,_,_,_,rfl,.lst ha,jJ _,rfl,_,rfl,bG ?_⟩
    refine⟨_,rfl,a,_,rfl,.inl (SqL.of ha),_,rfl,b,_,rfl,.inl (SqL.of hb),rfl,_,rfl,?_⟩
    have ec:decide (V.int (xs.length:Int)=V.int (ys.length:Int))=true:=decide_eq_true (by rw[ex,ey])
    rw[ec]
    refine cH ?_
    refine⟨_,rfl,b,_,rfl,.inl (SqL.of hb),_,rfl,by lia,by lia,fun D hD=>fO (lo:=0) (n:=ys.length) (fun i zs σ' H2=>(∃ v,σ'=[v,some (.ref a),some (.ref b)])/\zs=QL i (V.bl true)/\aV H H2/\H2 D=some (.lst zs))
     ⟨⟨_,rfl⟩,rfl,aD hD _,ao⟩ (fun i zs σ' H2 _ h=>h.2.2.2) ?_ ?_⟩
    ·rintro i zs σ' H2 hi ⟨⟨v,rfl⟩,rfl,sm,hDl⟩
     obtain⟨v1,d1,e1,e2,r1⟩:=ra.get (i:=i) (by lia)
     obtain⟨v2,d2,e3,e4,r2⟩:=rb.get (i:=i) hi
     rw[e2] at e4
     cases e4
     have at1:atI xs (0+(i:Int))=some v1:=by rw[Us]; exact gj e1
     have at2:atI ys (0+(i:Int))=some v2:=by rw[Us]; exact gj e3
     refine gT ?_
     refine⟨_,rfl,_,rfl,.inl ( ⟨a,xs,_,v1,rfl,rfl,SqL.of (sm _ _ ha),at1,_,rfl,_,rfl,.inl ( ⟨b,ys,_,v2,rfl,rfl,SqL.of (sm _ _ hb),at2,v1,v2,d1,rfl,r1.mono sm,r2.mono sm,?_,fun H3 s3=>⟨s3 _ _ hDl,?_,⟨_,rfl⟩,?_,bu (sm.trans s3) hD _,ao⟩⟩)⟩)⟩
     ·exact Ud (qU e2) hdl
     ·rw[SJ]
      exact OD (show i < 100000 by lia) (by decide)
     ·rw[List.replicate_succ']
    ·rintro zs σ' H2 ⟨_,rfl,sm,hDl⟩
     refine⟨D,QL ys.length true,rfl,SqL.of (by rw[hDl,wR]),?_⟩
     rw[xU]
     exact q _ sm
theorem same_none:bK P w K mg base CX0 0 f fd ["_law_found","_law_due"] (nT 0):=by
 have no:∀ vs H Q E,¬ nT 0 vs H Q E:=fun vs H Q E h=>by
  obtain⟨x,y,d,_,_,_,h1,_⟩:=h
  lia
 exact⟨fun vs H Q E h=>absurd h (no vs H Q E),fun A outer s H args us vs Q E _ _ _ _ h=>absurd h (no vs H Q E)⟩
inductive Tm where
 | free | never | gives (i:Nat) (k:Int) | sum (c:List Nat) (k:Int) | crowd (c:List Nat) (k m:Int) | all (ts:List Tm) | any (ts:List Tm)
mutual
def Tm.dep:Tm->Nat
 | .all ts=>tdL ts+1
 | .any ts=>tdL ts+1
 | _=>1
def tdL:List Tm->Nat
 | []=>0
 | t::r=>max t.dep (tdL r)
end
mutual
def hF (g:List Int):Tm->Bool
 | .free=>true
 | .never=>false
 | .gives i k=>decide (k<=g.getD i 0)
 | .sum c k=>decide (k<=(c.map fun i=>g.getD i 0).sum)
 | .crowd c k m=>decide (m<=((c.filter fun i=>decide (k<=g.getD i 0)).length:Int))
 | .all ts=>rO g ts
 | .any ts=>uw g ts
def rO (g:List Int):List Tm->Bool
 | []=>true
 | t::r=>hF g t && rO g r
def uw (g:List Int):List Tm->Bool
 | []=>false
 | t::r=>hF g t || uw g r
end
mutual
inductive gH (n:Nat) (H:Hp):V->Tm->Prop where
 | free {a:Addr}:H a=some (.tup [.str "free"])->gH n H (.ref a) .free
 | never {a:Addr}:H a=some (.tup [.str "never"])->gH n H (.ref a) .never
 | gives {a:Addr} {i:Nat} {k:Int}:H a=some (.tup [.str "gives",vN i,.int k])->i < n->1<=k->k<=9->gH n H (.ref a) (.gives i k)
 | sum {a b:Addr} {c:List Nat} {k:Int}:H a=some (.tup [.str "sum",.ref b,.int k])->H b=some (.tup (c.map vN))->(∀ i∈c,i < n)->c.Pairwise (· < ·)->c.length<=20->2<=c.length->1<=k->k<=99->gH n H (.ref a) (.sum c k)
 | crowd {a b:Addr} {c:List Nat} {k m:Int}:H a=some (.tup [.str "crowd",.ref b,.int k,.int m])->H b=some (.tup (c.map vN))->(∀ i∈c,i < n)->c.Pairwise (· < ·)->c.length<=20->1<=c.length->1<=k->k<=9->1<=m->m<=12->gH n H (.ref a) (.crowd c k m)
 | all {a b:Addr} {vs:List V} {ts:List Tm}:H a=some (.tup [.str "all",.ref b])->H b=some (.tup vs)->2<=vs.length->vs.length<=6->cD n H vs ts->gH n H (.ref a) (.all ts)
 | any {a b:Addr} {vs:List V} {ts:List Tm}:H a=some (.tup [.str "any",.ref b])->H b=some (.tup vs)->2<=vs.length->vs.length<=6->cD n H vs ts->gH n H (.ref a) (.any ts)
inductive cD (n:Nat) (H:Hp):List V->List Tm->Prop where
 | nil:cD n H [] []
 | cons {v:V} {t:Tm} {vs:List V} {ts:List Tm}:gH n H v t->cD n H vs ts->cD n H (v::vs) (t::ts)
end
mutual
theorem gH.bc {n:Nat} {H H':Hp} (e:∀ a xs,H a=some (HO.tup xs)->H' a=some (HO.tup xs)):∀ {v:V} {t:Tm},gH n H v t->gH n H' v t
 | _,_,.free h=>.free (e _ _ h)
 | _,_,.never h=>.never (e _ _ h)
 | _,_,.gives h a b c=>.gives (e _ _ h) a b c
 | _,_,.sum h h2 a b c d f g=>.sum (e _ _ h) (e _ _ h2) a b c d f g
 | _,_,.crowd h h2 a b c d f g i j=>.crowd (e _ _ h) (e _ _ h2) a b c d f g i j
 | _,_,.all h h2 a b r=>.all (e _ _ h) (e _ _ h2) a b (cD.bc e r)
 | _,_,.any h h2 a b r=>.any (e _ _ h) (e _ _ h2) a b (cD.bc e r)
theorem cD.bc {n:Nat} {H H':Hp} (e:∀ a xs,H a=some (HO.tup xs)->H' a=some (HO.tup xs)):∀ {vs:List V} {ts:List Tm},cD n H vs ts->cD n H' vs ts
 | _,_,.nil=>.nil
 | _,_,.cons h r=>.cons (gH.bc e h) (cD.bc e r)
end
theorem gH.mono {n:Nat} {H H':Hp} (e:aV H H') {v:V} {t:Tm} (h:gH n H v t):gH n H' v t:=h.bc fun a xs q=>e a _ q
theorem cD.length {n:Nat} {H:Hp}:∀ {vs:List V} {ts:List Tm},cD n H vs ts->vs.length=ts.length
 | _,_,.nil=>rfl
 | _,_,.cons _ r=>by rw[PK,PK,cD.length r]
theorem cD.get {n:Nat} {H:Hp}:∀ {vs:List V} {ts:List Tm} {i:Nat} {v:V},cD n H vs ts->vs[i]? = some v->∃ t,ts[i]? = some t/\gH n H v t
 | _,_,_,_,.nil,h=>by simp at h
 | _,_,0,_,.cons h _,e=>by
  cases (show some _=some _ from e)
  exact⟨_,rfl,h⟩
 | _,_,i+1,_,.cons _ r,e=>by
  obtain⟨t,e1,e2⟩:=cD.get (i:=i) r (by simpa using e)
  exact⟨t,by simpa using e1,e2⟩
theorem ik:∀ {ts:List Tm} {i:Nat} {t:Tm},ts[i]? = some t->t.dep<=tdL ts
 | [],_,_,h=>by simp at h
 | d::r,0,_,h=>by
  cases (show some d=some _ from h)
  rw[tdL]
  exact Nat.le_max_left _ _
 | d::r,i+1,_,h=>by
  rw[tdL]
  exact PX (ik (i:=i) (ts:=r) (by simpa using h)) (Nat.le_max_right _ _)
theorem Tm.nJ:∀ t:Tm,1<=t.dep
 | .free | .never | .gives .. | .sum .. | .crowd ..=>OJ 1
 | .all ts=>by rw[Tm.dep]; lia
 | .any ts=>by rw[Tm.dep]; lia
theorem sG:∀ {g:List Int} {ts:List Tm} {i:Nat} {t:Tm},ts[i]? = some t->rO g (ts.take (i+1))=(rO g (ts.take i) && hF g t)
 | _,[],_,_,h=>by simp at h
 | g,d::r,0,t,h=>by
  cases (show some d=some _ from h)
  rw[R1,rO,Qj,Qj,rO,Bool.and_true,Sx]
 | g,d::r,i+1,t,h=>by
  rw[R1,rO,sG (i:=i) (ts:=r) (by simpa using h),R1,rO,Bool.and_assoc]
theorem sy:∀ {g:List Int} {ts:List Tm} {i:Nat} {t:Tm},ts[i]? = some t->uw g (ts.take (i+1))=(uw g (ts.take i) || hF g t)
 | _,[],_,_,h=>by simp at h
 | g,d::r,0,t,h=>by
  cases (show some d=some _ from h)
  rw[R1,uw,Qj,Qj,uw,Bool.or_false,Wr]
 | g,d::r,i+1,t,h=>by
  rw[R1,uw,sy (i:=i) (ts:=r) (by simpa using h),R1,uw,Bool.or_assoc]
theorem oZ:∀ {g:List Int} {ts:List Tm} {i:Nat} {t:Tm},ts[i]? = some t->hF g t=false->rO g ts=false
 | _,[],_,_,h,_=>by simp at h
 | g,d::r,0,t,h,e=>by
  cases (show some d=some _ from h)
  rw[rO,e,Tr]
 | g,d::r,i+1,t,h,e=>by rw[rO,oZ (i:=i) (ts:=r) (by simpa using h) e,Tt]
theorem ue:∀ {g:List Int} {ts:List Tm} {i:Nat} {t:Tm},ts[i]? = some t->hF g t=true->uw g ts=true
 | _,[],_,_,h,_=>by simp at h
 | g,d::r,0,t,h,e=>by
  cases (show some d=some _ from h)
  rw[uw,e,Bool.true_or]
 | g,d::r,i+1,t,h,e=>by rw[uw,ue (i:=i) (ts:=r) (by simpa using h) e,TF]
theorem bJ {c A B:Prop} [Decidable c] (hc:¬ c) (h:B):if decide c=true then A else B:=by
 rw[decide_eq_false hc]
 exact bG h
theorem jT {c A B:Prop} [Decidable c] (hc:c) (h:A):if decide c=true then A else B:=by
 rw[decide_eq_true hc]
 exact cH h
theorem aB {a b:Px} (h:a≠b):¬ V.str a=V.str b:=fun z=>h (by cases z; rfl)
theorem atD {g:List Int} {i:Nat} (h:i < g.length):atI (g.map V.int) (i:Int)=some (.int (g.getD i 0)):=by
 rw[w6 h,Qq,PB h]
 rfl
abbrev kO:Stmt:=top 25
abbrev jx:Stmt:=top 26
abbrev vd:Stmt:=top 27
theorem ou:aM ["parts","giving","part"] ["parts","giving"] (aA kO):=⟨rfl,rfl,rfl,by decide+kernel,rfl,by decide+kernel,by decide+kernel⟩
theorem lJ:aM ["parts","giving","part"] ["parts","giving"] (aA jx):=⟨rfl,rfl,rfl,by decide+kernel,rfl,by decide+kernel,by decide+kernel⟩
theorem wH:aM ["term","giving","kind"] ["term","giving"] (aA vd):=⟨rfl,rfl,rfl,by decide+kernel,rfl,by decide+kernel,by decide+kernel⟩
inductive wu (K:Py) (d:Nat) (vs:List V) (H:Hp) (Q:VK):Prop where
 | mk (v:V) (g:Addr) (n:Nat) (t:Tm) (ns:List Int) (z0:vs=[v,.ref g]) (z1:gH n H v t) (z2:t.dep<=d) (z3:SqT K H g (ns.map V.int)) (z4:n<=ns.length) (z5:∀ H',aV H H'->Q (.bl (hF ns t)) H'):wu K d vs H Q
def dj (K:Py) (d:Nat):Sp:=fun vs H Q _=>wu K d vs H Q
inductive zA (K:Py) (d:Nat) (vs:List V) (H:Hp) (Q:VK):Prop where
 | mk (b g:Addr) (n:Nat) (us:List V) (ts:List Tm) (ns:List Int) (z0:vs=[.ref b,.ref g]) (z1:H b=some (.tup us)) (z2:cD n H us ts) (z3:tdL ts<=d) (z4:SqT K H g (ns.map V.int)) (z5:n<=ns.length) (z6:∀ H',aV H H'->Q (.bl (rO ns ts)) H'):zA K d vs H Q
def Gs (K:Py) (d:Nat):Sp:=fun vs H Q _=>zA K d vs H Q
inductive Cm (K:Py) (d:Nat) (vs:List V) (H:Hp) (Q:VK):Prop where
 | mk (b g:Addr) (n:Nat) (us:List V) (ts:List Tm) (ns:List Int) (z0:vs=[.ref b,.ref g]) (z1:H b=some (.tup us)) (z2:cD n H us ts) (z3:tdL ts<=d) (z4:SqT K H g (ns.map V.int)) (z5:n<=ns.length) (z6:∀ H',aV H H'->Q (.bl (uw ns ts)) H'):Cm K d vs H Q
def Gi (K:Py) (d:Nat):Sp:=fun vs H Q _=>Cm K d vs H Q
theorem yU:bK P w K mg base CX0 0 f fd ["term","giving"] (dj K 0):=by
 have no:∀ vs H Q E,¬ dj K 0 vs H Q E:=fun vs H Q E h=>by
  obtain⟨v,g,n,t,ns,_,_,h1,_⟩:=h
  have:=t.nJ
  lia
 exact⟨fun vs H Q E h=>absurd h (no vs H Q E),fun A outer s H args us vs Q E _ _ _ _ h=>absurd h (no vs H Q E)⟩
theorem fX {d k:Nat} (F:Fun K "all_hold" "all_hold" kO f fd) (B:Bt mg)
  (D_holds:Df P w K mg base "holds" k ["term","giving"] (dj K d)):bK P w K mg base CX0 (k+1) f fd ["parts","giving"] (Gs K d):=by
 refine F.ok ou (fun vs H Q E h=>?_) (fun cdv A outer s H vs Q E hr h=>?_)
 ·obtain⟨b,g,n,us,ts,ns,rfl,_⟩:=h
  rfl
 ·obtain⟨b,g,n,us,ts,ns,rfl,hb,rp,hd,hg,hn,q⟩:=h
  refine⟨_,(aj (cZ Qy rfl (c7 (pv 0)) (aP (i:=2) ou.nd rfl (Pr rfl)) (aq (aY (du (cI (bC D_holds hr (aa (pv 2) (aa (pv 1) ak))))) (aq (aJ eE)) aH)))
 (aq (aJ eE))),?_⟩
  have el:=rp.length
  refine⟨_,rfl,b,rfl,⟨_,SqT.of hb⟩,dH (K:=K) (a:=b) (xs:=us) (fun i σ H2=>(∃ u,σ=[some (.ref b),some (.ref g),u])/\aV H H2/\rO ns (ts.take i)=true) ⟨⟨_,rfl⟩,aV.refl H,by rw[Qj,rO]⟩ (fun i σ H2 _ h=>gk h.2.1 (SqT.of hb)) ?_ ?_⟩
  ·rintro i x σ H2 hx ⟨⟨u,rfl⟩,sm,ab⟩
   obtain⟨t,ht,rt⟩:=rp.get hx
   refine⟨_,rfl,_,rfl,x,g,n,t,ns,rfl,rt.mono sm,PX (ik ht) hd,gk sm hg,hn,fun H3 s3=>⟨_,rfl,?_⟩⟩
   cases e:hF ns t with
   | false =>
    have q':=q H3 (sm.trans s3)
    rw[oZ ht e] at q'
    exact cH q'
   | true=>exact bG ⟨⟨_,rfl⟩,sm.trans s3,by rw[sG ht,ab,e]; rfl⟩
  ·rintro σ H2 ⟨⟨u,rfl⟩,sm,ab⟩
   have q':=q H2 sm
   rw[el,Pq] at ab
   rw[ab] at q'
   exact q'
theorem eY {d k:Nat} (F:Fun K "any_holds" "any_holds" jx f fd) (B:Bt mg)
  (D_holds:Df P w K mg base "holds" k ["term","giving"] (dj K d)):bK P w K mg base CX0 (k+1) f fd ["parts","giving"] (Gi K d):=by
 refine F.ok lJ (fun vs H Q E h=>?_) (fun cdv A outer s H vs Q E hr h=>?_)
 ·obtain⟨b,g,n,us,ts,ns,rfl,_⟩:=h
  rfl
 ·obtain⟨b,g,n,us,ts,ns,rfl,hb,rp,hd,hg,hn,q⟩:=h
  refine⟨_,(aj (cZ Qy rfl (c7 (pv 0)) (aP (i:=2) lJ.nd rfl (Pr rfl)) (aq (aY (cI (bC D_holds hr (aa (pv 2) (aa (pv 1) ak)))) (aq (aJ eE)) aH)))
 (aq (aJ eE))),?_⟩
  have el:=rp.length
  refine⟨_,rfl,b,rfl,⟨_,SqT.of hb⟩,dH (K:=K) (a:=b) (xs:=us) (fun i σ H2=>(∃ u,σ=[some (.ref b),some (.ref g),u])/\aV H H2/\uw ns (ts.take i)=false) ⟨⟨_,rfl⟩,aV.refl H,by rw[Qj,uw]⟩ (fun i σ H2 _ h=>gk h.2.1 (SqT.of hb)) ?_ ?_⟩
  ·rintro i x σ H2 hx ⟨⟨u,rfl⟩,sm,ab⟩
   obtain⟨t,ht,rt⟩:=rp.get hx
   refine⟨_,rfl,_,rfl,x,g,n,t,ns,rfl,rt.mono sm,PX (ik ht) hd,gk sm hg,hn,fun H3 s3=>⟨_,rfl,?_⟩⟩
   cases e:hF ns t with
   | true =>
    have q':=q H3 (sm.trans s3)
    rw[ue ht e] at q'
    exact cH q'
   | false=>exact bG ⟨⟨_,rfl⟩,sm.trans s3,by rw[sy ht,ab,e]; rfl⟩
  ·rintro σ H2 ⟨⟨u,rfl⟩,sm,ab⟩
   have q':=q H2 sm
   rw[el,Pq] at ab
   rw[ab] at q'
   exact q'
theorem lY {d k:Nat} (F:Fun K "holds" "holds" vd f fd) (B:Bt mg)
  (D_all_hold:Df P w K mg base "all_hold" k ["parts","giving"] (Gs K d)) (D_any_holds:Df P w K mg base "any_holds" k ["parts","giving"] (Gi K d)):bK P w K mg base CX0 (k+1) f fd ["term","giving"] (dj K (d+1)):=by
 refine F.ok wH (fun vs H Q E h=>?_) (fun cdv A outer s H vs Q E hr h=>?_)
 ·obtain⟨v,g,n,t,ns,rfl,_⟩:=h
  rfl
 ·obtain⟨v,g,n,t,ns,rfl,rt,hd,hg,hn,q⟩:=h
  refine⟨_,(aj (bh (i:=2) wH.nd rfl (Pr rfl) (aQ (r:=bI K) aK (pv 0) az (fun _ _=>rfl)))
 (aj (aY (aG bD (pv 2) aO (aL _)) (aq (aJ (bO jM (aQ (r:=bI K) aK (pv 1) (aQ (r:=bI K) aK (pv 0) az (fun _ _=>rfl)) (fun _ _=>rfl)) (aQ (r:=bI K) aK (pv 0) az (fun _ _=>rfl)) (aL _)))) aH)
 (aj (aY (aG bD (pv 2) aO (aL _)) (aq (aJ (bO jM (aC (r:=Dt K) (m9 rfl) rfl B.sum_ Bo (aa (di (L:=["one"]) (F:=["giving"]) (cap:=[1]) rfl (cG rfl rfl (by kernel_rfl)) (c7 (aQ (r:=bI K) aK (pv 0) az (fun _ _=>rfl))) (fun _ _ _ _ _=>(aP (i:=0) (cg (by decide+kernel)) rfl (Pr rfl))) (fun _ _ _ _ _=>fc) (fun _ _ _ _ _=>(aQ (r:=bI K) aK (pv 1) (pv 0) (fun _ _=>rfl)))) ak)) (aQ (r:=bI K) aK (pv 0) az (fun _ _=>rfl)) (aL _)))) aH)
 (aj (aY (aG bD (pv 2) aO (aL _)) (aq (aJ (bO jM (aC (r:=jC K) aU rfl B.len_ bL (aa (di (L:=["one"]) (F:=["giving","term"]) (cap:=[1,0]) rfl (cG rfl rfl (by kernel_rfl)) (c7 (aQ (r:=bI K) aK (pv 0) az (fun _ _=>rfl))) (fun _ _ _ _ _=>(aP (i:=0) (cg (by decide+kernel)) rfl (Pr rfl))) (fun _ _ _ _ _=>(jV (aG jM (aQ (r:=bI K) aK (pv 1) (pv 0) (fun _ _=>rfl)) (aQ (r:=bI K) aK (pv 2) az (fun _ _=>rfl)) (aL _)))) (fun _ _ _ _ _=>(pv 0))) ak)) (aQ (r:=bI K) aK (pv 0) az (fun _ _=>rfl)) (aL _)))) aH)
 (aj (aY (aG bD (pv 2) aO (aL _)) (aq (aJ (bC D_all_hold hr (aa (aQ (r:=bI K) aK (pv 0) az (fun _ _=>rfl)) (aa (pv 1) ak))))) aH)
 (aj (aY (aG bD (pv 2) aO (aL _)) (aq (aJ (bC D_any_holds hr (aa (aQ (r:=bI K) aK (pv 0) az (fun _ _=>rfl)) (aa (pv 1) ak))))) aH)
 (aq (aJ (bO bD (pv 2) aO (aL _)))))))))),?_⟩
  cases rt with
  | @free a ha =>
   refine⟨_,rfl,a,_,_,_,rfl,rfl,SqT.of ha,au (k:=0) rfl,?_⟩
   refine⟨_,rfl,rfl,_,rfl,bJ (aB (by decide)) ?_⟩
   refine⟨_,rfl,rfl,_,rfl,bJ (aB (by decide)) ?_⟩
   refine⟨_,rfl,rfl,_,rfl,bJ (aB (by decide)) ?_⟩
   refine⟨_,rfl,rfl,_,rfl,bJ (aB (by decide)) ?_⟩
   refine⟨_,rfl,rfl,_,rfl,bJ (aB (by decide)) ?_⟩
   refine⟨_,rfl,rfl,?_⟩
   have q':=q H (aV.refl H)
   rw[hF] at q'
   rw[decide_eq_true rfl]
   exact q'
  | @never a ha =>
   refine⟨_,rfl,a,_,_,_,rfl,rfl,SqT.of ha,au (k:=0) rfl,?_⟩
   refine⟨_,rfl,rfl,_,rfl,bJ (aB (by decide)) ?_⟩
   refine⟨_,rfl,rfl,_,rfl,bJ (aB (by decide)) ?_⟩
   refine⟨_,rfl,rfl,_,rfl,bJ (aB (by decide)) ?_⟩
   refine⟨_,rfl,rfl,_,rfl,bJ (aB (by decide)) ?_⟩
   refine⟨_,rfl,rfl,_,rfl,bJ (aB (by decide)) ?_⟩
   refine⟨_,rfl,rfl,?_⟩
   have q':=q H (aV.refl H)
   rw[hF] at q'
   rw[decide_eq_false (aB (by decide))]
   exact q'
  | @gives a i k ha hi _ _ =>
   refine⟨_,rfl,a,_,_,_,rfl,rfl,SqT.of ha,au (k:=0) rfl,?_⟩
   refine⟨_,rfl,rfl,_,rfl,jT rfl ?_⟩
   refine⟨_,rfl,_,rfl,a,_,_,_,rfl,rfl,SqT.of ha,au (k:=1) rfl,g,_,_,_,rfl,rfl,hg,atD (by lia),_,rfl,a,_,_,_,rfl,rfl,SqT.of ha,au (k:=2) rfl,_,_,rfl,rfl,?_⟩
   have q':=q H (aV.refl H)
   rw[hF] at q'
   exact q'
  | @sum a b c k ha hb hc _ hl _ _ _ =>
   refine⟨_,rfl,a,_,_,_,rfl,rfl,SqT.of ha,au (k:=0) rfl,?_⟩
   refine⟨_,rfl,rfl,_,rfl,bJ (aB (by decide)) ?_⟩
   refine⟨_,rfl,rfl,_,rfl,jT rfl ?_⟩
   refine⟨_,rfl,a,_,_,_,rfl,rfl,SqT.of ha,au (k:=1) rfl,b,rfl,⟨_,SqT.of hb⟩,fun D hD=>eX (K:=K) (a:=b) (xs:=c.map vN) (fun i zs σ' H2=>(∃ u,σ'=[u,some (.ref g)])/\zs=((c.take i).map fun i=>ns.getD i 0).map V.int/\aV H H2/\H2 D=some (.lst zs))
    ⟨⟨_,rfl⟩,rfl,aD hD _,ao⟩ (fun i zs σ' H2 _ h=>⟨gk h.2.2.1 (SqT.of hb),h.2.2.2⟩) ?_ ?_⟩
   ·rintro j zs x σ' H2 hx ⟨⟨u,rfl⟩,e1,sm,hDl⟩
    obtain⟨i,hi,rfl⟩:=yL hx
    have hin:i < n:=hc i (Qe hi)
    refine gT ?_
    refine⟨_,rfl,_,rfl,g,_,_,_,rfl,rfl,gk sm hg,atD (by lia),hDl,?_,⟨_,rfl⟩,?_,bu sm hD _,ao⟩
    ·rw[e1,Ow,Ow,Qf]
     exact bj (by lia)
    ·rw[e1,PL,hi,O7,O7]
     rfl
   ·rintro zs σ' H2 ⟨⟨u,rfl⟩,e1,sm,hDl⟩
    rw[Ow,Pq] at e1
    refine⟨D,_,rfl,SqL.of (by rw[hDl,e1]),_,rfl,a,_,_,_,rfl,rfl,SqT.of (sm _ _ ha),au (k:=2) rfl,_,_,rfl,rfl,?_⟩
    have q':=q H2 sm
    rw[hF] at q'
    exact q'
  | @crowd a b c k m ha hb hc _ hl _ _ _ _ _ =>
   refine⟨_,rfl,a,_,_,_,rfl,rfl,SqT.of ha,au (k:=0) rfl,?_⟩
   refine⟨_,rfl,rfl,_,rfl,bJ (aB (by decide)) ?_⟩
   refine⟨_,rfl,rfl,_,rfl,bJ (aB (by decide)) ?_⟩
   refine⟨_,rfl,rfl,_,rfl,jT rfl ?_⟩
   refine⟨_,rfl,a,_,_,_,rfl,rfl,SqT.of ha,au (k:=1) rfl,b,rfl,⟨_,SqT.of hb⟩,fun D hD=>eX (K:=K) (a:=b) (xs:=c.map vN) (fun i zs σ' H2=>(∃ u,σ'=[u,some (.ref g),some (.ref a)])/\zs=((c.take i).filter fun i=>decide (k<=ns.getD i 0)).map vN/\aV H H2/\H2 D=some (.lst zs))
    ⟨⟨_,rfl⟩,rfl,aD hD _,ao⟩ (fun i zs σ' H2 _ h=>⟨gk h.2.2.1 (SqT.of hb),h.2.2.2⟩) ?_ ?_⟩
   ·rintro j zs x σ' H2 hx ⟨⟨u,rfl⟩,e1,sm,hDl⟩
    obtain⟨i,hi,rfl⟩:=yL hx
    have hin:i < n:=hc i (Qe hi)
    have et:c.take (j+1)=c.take j++[i]:=by rw[PL,hi]; rfl
    refine⟨_,rfl,_,rfl,g,_,_,_,rfl,rfl,gk sm hg,atD (by lia),_,rfl,a,_,_,_,rfl,rfl,SqT.of (sm _ _ ha),au (k:=2) rfl,_,_,rfl,rfl,_,rfl,?_⟩
    refine zb (fun cc=>?_) (fun cc=>?_)
    ·refine⟨_,rfl,hDl,?_,⟨_,rfl⟩,?_,bu sm hD _,ao⟩
     ·rw[e1,Ow]
      have:=Ro (fun i=>decide (k<=ns.getD i 0)) (c.take j)
      rw[Qf] at this
      exact bj (by lia)
     ·rw[e1,et,Sg,O7,Xl,if_pos cc]
      rfl
    ·refine⟨⟨_,rfl⟩,?_,sm,hDl⟩
     rw[e1,et,Sg,Xl,if_neg cc]
     simp
   ·rintro zs σ' H2 ⟨⟨u,rfl⟩,e1,sm,hDl⟩
    rw[Ow,Pq] at e1
    refine⟨D,_,rfl,.inl (SqL.of (by rw[hDl,e1])),_,rfl,a,_,_,_,rfl,rfl,SqT.of (sm _ _ ha),au (k:=3) rfl,_,_,rfl,rfl,?_⟩
    have q':=q H2 sm
    rw[hF] at q'
    rw[Ow]
    exact q'
  | @all a b us ts ha hb _ _ rl =>
   refine⟨_,rfl,a,_,_,_,rfl,rfl,SqT.of ha,au (k:=0) rfl,?_⟩
   refine⟨_,rfl,rfl,_,rfl,bJ (aB (by decide)) ?_⟩
   refine⟨_,rfl,rfl,_,rfl,bJ (aB (by decide)) ?_⟩
   refine⟨_,rfl,rfl,_,rfl,bJ (aB (by decide)) ?_⟩
   refine⟨_,rfl,rfl,_,rfl,jT rfl ?_⟩
   refine⟨_,rfl,a,_,_,_,rfl,rfl,SqT.of ha,au (k:=1) rfl,_,rfl,b,g,n,us,ts,ns,rfl,hb,rl,?_,hg,hn,fun H' s'=>?_⟩
   ·rw[Tm.dep] at hd
    lia
   ·have q':=q H' s'
    rw[hF] at q'
    exact q'
  | @any a b us ts ha hb _ _ rl =>
   refine⟨_,rfl,a,_,_,_,rfl,rfl,SqT.of ha,au (k:=0) rfl,?_⟩
   refine⟨_,rfl,rfl,_,rfl,bJ (aB (by decide)) ?_⟩
   refine⟨_,rfl,rfl,_,rfl,bJ (aB (by decide)) ?_⟩
   refine⟨_,rfl,rfl,_,rfl,bJ (aB (by decide)) ?_⟩
   refine⟨_,rfl,rfl,_,rfl,bJ (aB (by decide)) ?_⟩
   refine⟨_,rfl,rfl,_,rfl,jT rfl ?_⟩
   refine⟨_,rfl,a,_,_,_,rfl,rfl,SqT.of ha,au (k:=1) rfl,_,rfl,b,g,n,us,ts,ns,rfl,hb,rl,?_,hg,hn,fun H' s'=>?_⟩
   ·rw[Tm.dep] at hd
    lia
   ·have q':=q H' s'
    rw[hF] at q'
    exact q'
theorem gN {i:Nat} {x:V} {σ:St} {H:Hp} {P:St->Hp->Prop} (h:P (σ.set i (some x)) H):vR i x σ H P:=h
theorem nN {D:Ends} {σ:St} {H:Hp} (h:D.nx σ H):JF D σ H:=h
theorem Ei (ns:List Int) (lo hi:Option Int):∃ ks:List Int,zf (ns.map V.int) lo hi=ks.map V.int/\ks.length<=ns.length:=by
 unfold zf
 generalize HT.sIx _ _ lo=x
 generalize HT.sIx _ _ hi=y
 refine⟨(ns.drop x).take (y - x),by rw[List.map_take,List.map_drop],?_⟩
 rw[Qf,Vz]
 lia
theorem xY:∀ (ns acc:List Int),acc.Nodup->(ns.foldl Ra acc).Nodup
 | [],acc,h=>h
 | n::r,acc,h=>by
  rw[T8]
  refine xY r _ ?_
  unfold Ra
  split
  ·exact h
  ·rename_i z
   rw[W6]
   refine⟨h,by simp,fun a ha b hb e=>?_⟩
   rw[Rt] at hb
   subst hb
   subst e
   exact z (List.any_eq_true.mpr ⟨a,ha,beq_self_eq_true a⟩)
theorem GC (ns:List Int):ddI ns=ns.foldl Ra []:=by
 unfold ddI PyProof.Rows.firstMet
 congr 1
 apply List.ext_getElem?
 intro i
 rw[Pk]
 by_cases h:i < ns.length
 ·rw[Wj h,PB h]
  simp [Qq,PB h]
 ·have e1:(Rk ns.length)[i]? = none:=SM (by rw[RB]; lia)
  rw[e1,SM (by lia)]
  rfl
theorem iH:∀ {a b:List Int},a.Perm b->a.Pairwise (·<=·)->b.Pairwise (·<=·)->a=b
 | [],b,p,_,_=>(List.Perm.nil_eq p)
 | x::a,[],p,_,_=>absurd p.length_eq (by simp)
 | x::a,y::b,p,ha,hb=>by
  rw[Rr] at ha hb
  have h1:x<=y:=by
   rcases List.mem_cons.mp (p.mem_iff.mpr Ph) with h | h
   ·lia
   ·exact ha.1 y h
  have h2:y<=x:=by
   rcases List.mem_cons.mp (p.mem_iff.mp Ph) with h | h
   ·lia
   ·exact hb.1 x h
  have e:x=y:=by lia
  subst e
  rw[iH (List.Perm.cons_inv p) ha.2 hb.2]
abbrev Pl:=List (Int × Tm)
inductive dR (n:Nat) (H:Hp):List V->Pl->Prop where
 | nil:dR n H [] []
 | cons {r:Addr} {k:Int} {v:V} {t:Tm} {vs:List V} {ps:Pl}:H r=some (.tup [.int k,v])->gH n H v t->dR n H vs ps->dR n H (.ref r::vs) ((k,t)::ps)
theorem dR.bc {n:Nat} {H H':Hp} (e:∀ a xs,H a=some (HO.tup xs)->H' a=some (HO.tup xs)):∀ {vs:List V} {ps:Pl},dR n H vs ps->dR n H' vs ps
 | _,_,.nil=>.nil
 | _,_,.cons h t r=>.cons (e _ _ h) (t.bc e) (dR.bc e r)
theorem dR.length {n:Nat} {H:Hp}:∀ {vs:List V} {ps:Pl},dR n H vs ps->vs.length=ps.length
 | _,_,.nil=>rfl
 | _,_,.cons _ _ r=>by rw[PK,PK,dR.length r]
theorem dR.get {n:Nat} {H:Hp}:∀ {vs:List V} {ps:Pl} {i:Nat} {v:V},dR n H vs ps->vs[i]? = some v->∃ r k u t,v = .ref r/\H r=some (.tup [.int k,u])/\gH n H u t/\ps[i]? = some (k,t)
 | _,_,_,_,.nil,h=>by simp at h
 | _,_,0,_,.cons h t _,e=>by
  cases (show some _=some _ from e)
  exact⟨_,_,_,_,rfl,h,t,rfl⟩
 | _,_,i+1,_,.cons _ _ r,e=>by
  obtain⟨a,k,u,t,h1,h2,h3,h4⟩:=dR.get (i:=i) r (by simpa using e)
  exact⟨a,k,u,t,h1,h2,h3,by simpa using h4⟩
def okP (p:Pl):Prop:=p≠[]/\p.length<=9/\(p.map (·.1)).Pairwise (· < ·)/\∀ x∈p,1<=x.1/\x.1<=9/\x.2.dep<=4
def lB (n:Nat) (H:Hp) (a:Addr) (p:Pl):Prop:=okP p/\∃ vs,H a=some (.tup vs)/\dR n H vs p
theorem lB.bc {n:Nat} {H H':Hp} {a:Addr} {p:Pl} (e:∀ a xs,H a=some (HO.tup xs)->H' a=some (HO.tup xs)) (h:lB n H a p):lB n H' a p:=by
 obtain⟨ok,vs,h1,h2⟩:=h
 exact⟨ok,vs,e _ _ h1,h2.bc e⟩
theorem lB.mono {n:Nat} {H H':Hp} {a:Addr} {p:Pl} (e:aV H H') (h:lB n H a p):lB n H' a p:=h.bc fun a xs q=>e a _ q
inductive fD (n:Nat) (H:Hp):List Addr->List Pl->Prop where
 | nil:fD n H [] []
 | cons {a:Addr} {p:Pl} {as:List Addr} {ps:List Pl}:lB n H a p->fD n H as ps->fD n H (a::as) (p::ps)
theorem fD.bc {n:Nat} {H H':Hp} (e:∀ a xs,H a=some (HO.tup xs)->H' a=some (HO.tup xs)):∀ {as:List Addr} {ps:List Pl},fD n H as ps->fD n H' as ps
 | _,_,.nil=>.nil
 | _,_,.cons h r=>.cons (h.bc e) (fD.bc e r)
theorem fD.length {n:Nat} {H:Hp}:∀ {as:List Addr} {ps:List Pl},fD n H as ps->as.length=ps.length
 | _,_,.nil=>rfl
 | _,_,.cons _ r=>by rw[PK,PK,fD.length r]
theorem fD.get {n:Nat} {H:Hp}:∀ {as:List Addr} {ps:List Pl} {i:Nat} {a:Addr},fD n H as ps->as[i]? = some a->∃ p,ps[i]? = some p/\lB n H a p
 | _,_,_,_,.nil,h=>by simp at h
 | _,_,0,_,.cons h _,e=>by
  cases (show some _=some _ from e)
  exact⟨_,rfl,h⟩
 | _,_,i+1,_,.cons _ r,e=>by
  obtain⟨p,h1,h2⟩:=fD.get (i:=i) r (by simpa using e)
  exact⟨p,by simpa using h1,h2⟩
theorem fD.snoc {n:Nat} {H:Hp} {a:Addr} {p:Pl} (h:lB n H a p):∀ {as:List Addr} {ps:List Pl},fD n H as ps->fD n H (as++[a]) (ps++[p])
 | _,_,.nil=>.cons h .nil
 | _,_,.cons x r=>.cons x (fD.snoc h r)
def owS (g:List Int) (f:Int) (x:Int × Tm):Int:=if hF g x.2=true then x.1 else f
def owF (g:List Int) (p:Pl):Int:=p.foldl (owS g) 0
theorem v9 {g:List Int} {p:Pl} {i:Nat} {x:Int × Tm} (h:p[i]? = some x):owF g (p.take (i+1))=if hF g x.2=true then x.1 else owF g (p.take i):=by
 unfold owF
 rw[PL,h]
 show ((p.take i)++[x]).foldl (owS g) 0=_
 rw[List.foldl_append]
 rfl
def duF (g:List Int) (f:Int) (ps:List Pl):Int:=(ps.map (owF g)).foldl max f
theorem Km {as:List Addr} {i:Nat} {x:V} (h:(as.map V.ref)[i]? = some x):∃ a,as[i]? = some a/\x = .ref a:=by
 rw[Pk] at h
 cases e:as[i]? with
 | none=>rw[e] at h; cases h
 | some a=>rw[e] at h; exact⟨a,rfl,(Qh h).symm⟩
theorem take_snoc {α β:Type} (f:α->β) {xs:List α} {i:Nat} {x:α} (h:xs[i]? = some x):(xs.take (i+1)).map f=(xs.take i).map f++[f x]:=(qu f h).symm
abbrev zz:Stmt:=top 34
theorem vV:aM ["pledge","giving","step","term"] ["pledge","giving"] (aA zz):=⟨rfl,rfl,rfl,by decide+kernel,rfl,by decide+kernel,by decide+kernel⟩
inductive zW (K:Py) (vs:List V) (H:Hp) (Q:VK):Prop where
 | mk (a g:Addr) (n:Nat) (p:Pl) (ns:List Int) (z0:vs=[.ref a,.ref g]) (z1:lB n H a p) (z2:SqT K H g (ns.map V.int)) (z3:n<=ns.length) (z4:∀ H',aV H H'->Q (.int (owF ns p)) H'):zW K vs H Q
def xX (K:Py):Sp:=fun vs H Q _=>zW K vs H Q
theorem Hj {k:Nat} (F:Fun K "owes" "owes" zz f fd) (B:Bt mg)
  (D_holds:Df P w K mg base "holds" k ["term","giving"] (dj K 4)):bK P w K mg base CX0 (k+1) f fd ["pledge","giving"] (xX K):=by
 refine F.ok vV (fun vs H Q E h=>?_) (fun cdv A outer s H vs Q E hr h=>?_)
 ·obtain⟨a,g,n,p,ns,rfl,_⟩:=h
  rfl
 ·obtain⟨a,g,n,p,ns,rfl,⟨ok,vs,ha,rp⟩,hg,hn,q⟩:=h
  refine⟨_,(aj (cZ Qy rfl (Jr rfl B.reversed_ (aa (pv 0) ak)) (d8 (K:=K) 2 rfl rfl (aZ (aP (i:=2) vV.nd rfl (Pr rfl)) (aZ (aP (i:=3) vV.nd rfl (Pr rfl)) d7))) (aq (aY (cI (bC D_holds hr (aa (pv 3) (aa (pv 1) ak)))) (aq (aJ (pv 2))) aH)))
 (aq (aJ az))),?_⟩
  have el:=rp.length
  refine⟨_,rfl,a,vs,rfl,SqT.of ha,Hv (K:=K) (a:=a) (xs:=vs) (fun i σ H2=>(∃ u v,σ=[some (.ref a),some (.ref g),u,v])/\aV H H2/\owF ns p=owF ns (p.take (p.length - i)))
   ⟨⟨_,_,rfl⟩,aV.refl H,by rw[Nat.sub_zero,Pq]⟩ (fun i σ H2 _ h=>SqT.of (h.2.1 _ _ ha)) ?_ ?_⟩
  ·rintro i x σ H2 hi hx ⟨⟨u,v,rfl⟩,sm,ow⟩
   obtain⟨r,k0,y,t,rfl,hr0,rt,hp⟩:=rp.get hx
   have hm:=Qe hp
   have e1:p.length - i=vs.length - 1 - i+1:=by lia
   have e2:p.length - (i+1)=vs.length - 1 - i:=by lia
   rw[e1,v9 hp] at ow
   refine⟨r,_,rfl,SqT.of (sm _ _ hr0),rfl,_,_,rfl,_,_,rfl,rfl,?_⟩
   refine⟨_,rfl,_,rfl,y,g,n,t,ns,rfl,rt.mono sm,(ok.2.2.2 _ hm).2.2,gk sm hg,hn,fun H3 s3=>⟨_,rfl,?_⟩⟩
   cases e:hF ns t with
   | true =>
    refine cH ⟨_,rfl,?_⟩
    rw[if_pos e] at ow
    have q':=q H3 (sm.trans s3)
    rw[ow] at q'
    exact q'
   | false =>
    refine bG ⟨⟨_,_,rfl⟩,sm.trans s3,?_⟩
    rw[if_neg (by rw[e]; exact O2)] at ow
    rw[e2]
    exact ow
  ·rintro σ H2 ⟨⟨u,v,rfl⟩,sm,ow⟩
   rw[el,Nat.sub_self,Qj] at ow
   have q':=q H2 sm
   rw[ow] at q'
   exact q'
def G8 (x:Nat):List Nat->List Nat
 | []=>[x]
 | y::r=>if x<=y then x::y::r else y::G8 x r
def mq:List Nat->List Nat
 | []=>[]
 | x::r=>G8 x (mq r)
theorem mK (x:Nat):∀ l:List Nat,(G8 x l).Perm (x::l)
 | []=>.refl _
 | y::r=>by
  rw[G8]
  split
  ·exact .refl _
  ·exact ((mK x r).cons y).trans (.swap x y r)
theorem fK:∀ l:List Nat,(mq l).Perm l
 | []=>.refl _
 | x::r=>(mK x _).trans ((fK r).cons x)
theorem mJ (x:Nat):∀ {l:List Nat},l.Pairwise (·<=·)->(G8 x l).Pairwise (·<=·)
 | [],_=>by rw[G8]; simp
 | y::r,h=>by
  rw[G8]
  rw[Rr] at h
  split
  ·rw[Rr,Rr]
   refine⟨fun z hz=>?_,h⟩
   rcases List.mem_cons.mp hz with rfl | hz
   ·assumption
   ·have:=h.1 z hz
    lia
  ·rw[Rr]
   refine⟨fun z hz=>?_,mJ x h.2⟩
   rcases List.mem_cons.mp ((mK x r).mem_iff.mp hz) with rfl | hz
   ·lia
   ·exact h.1 z hz
theorem nD:∀ l:List Nat,(mq l).Pairwise (·<=·)
 | []=>by rw[mq]; simp
 | x::r=>mJ x (nD r)
theorem Hh {l:List Nat} {ms:List Int} (p:ms.Perm (l.map fun i:Nat=>(i:Int))) (h:ms.Pairwise (·<=·)):ms=(mq l).map fun i:Nat=>(i:Int):=by
 refine iH (p.trans ((fK l).map _).symm) h ?_
 rw[WY]
 exact (nD l).imp fun h=>by lia
theorem Kv {b:Bool} {A B:Prop} (h:b=true) (a:A):if b=true then A else B:=by rw[if_pos h]; exact a
theorem ug {b:Bool} {A B:Prop} (h:b=false) (a:B):if b=true then A else B:=by rw[if_neg (by rw[h]; exact O2)]; exact a
theorem GF {x:Int}:∀ (ns acc:List Int),x∈ns.foldl Ra acc ↔ x∈acc∨x∈ns
 | [],acc=>by simp
 | n::r,acc=>by
  rw[T8,GF r _]
  unfold Ra
  split
  ·rename_i h
   obtain⟨y,hy,ey⟩:=List.any_eq_true.mp h
   have e:=eq_of_beq ey
   constructor
   ·rintro (h | h)
    ·exact .inl h
    ·exact .inr (Pb _ h)
   ·rintro (h | h)
    ·exact .inl h
    ·rcases List.mem_cons.mp h with rfl | h
     ·exact .inl (by rw[← e]; exact hy)
     ·exact .inr h
  ·constructor
   ·rintro (h | h)
    ·rcases List.mem_append.mp h with h | h
     ·exact .inl h
     ·exact .inr (by rw[List.mem_singleton.mp h]; exact Ph)
    ·exact .inr (Pb _ h)
   ·rintro (h | h)
    ·exact .inl (UT _ h)
    ·rcases List.mem_cons.mp h with rfl | h
     ·exact .inl (PQ _ Ph)
     ·exact .inr h
theorem aF {t u:TS} {D:Ends} {σ:St} {H:Hp} (P:St->Hp->Prop) (h2:∀ σ H,P σ H->u D σ H) (h1:∀ N:St->Hp->Prop,(∀ σ H,P σ H->N σ H)->t { D with nx:=N } σ H):Np t u D σ H:=h1 (u D) h2
abbrev jk:Stmt:=top 2
def J3 (H:Hp) (x C dx:Addr) (w:Px):Hp:=upd (upd (upd H x (xO x C none)) dx (.xd [("word",.str w)])) x (xO x C (some dx))
theorem Jz {H:Hp} {x C dx:Addr} {w:Px}:J3 H x C dx w x=some (xO x C (some dx)):=ao
theorem J8 {H:Hp} {x C dx:Addr} {w:Px} (h:dx≠x):J3 H x C dx w dx=some (.xd [("word",.str w)]):=(aN h).trans ao
theorem Et:aM ["self","word"] ["self","word"] (aA (inClass jk 0)):=⟨rfl,rfl,rfl,by decide+kernel,rfl,by decide+kernel,by decide+kernel⟩
inductive wJ (K:Py) (vs:List V) (H:Hp) (Q:VK):Prop where
 | mk (x C f:Addr) (w:Px) (z0:vs=[.ref x,.str w]) (z1:H x=some (xO x C none)) (z2:Dw K C f "word") (z3:∀ dx,dx≠x->H dx=none->Q .non (J3 H x C dx w)):wJ K vs H Q
def jy (K:Py):Sp:=fun vs H Q _=>wJ K vs H Q
theorem Fg (F:Fun K "__init__" "BoonError.__init__" (inClass jk 0) f fd) (hv:mg "ValueError" = none):bK P w K mg base CX0 1 f fd ["self","word"] (jy K):=by
 refine F.ok Et (fun vs H Q E h=>?_) (fun cdv A outer s H vs Q E hr h=>?_)
 ·obtain⟨x,C,f,w,rfl,_⟩:=h
  rfl
 ·obtain⟨x,C,f,w,rfl,hx,XC,q⟩:=h
  refine⟨_,aj (cj (Eh rfl hv (aa (pv 0) (aa (pv 1) ak)))) (aq (Im (pv 0) (pv 1) rfl)),?_⟩
  refine⟨_,rfl,_,rfl,x,C,f,"word",none,_,rfl,hx,XC,?_⟩
  refine⟨_,rfl,_,rfl,x,C,f,rfl,ao,XC,fun dx hd=>?_⟩
  have n:dx≠x:=fun z=>by rw[z,ao] at hd; cases hd
  rw[aN n] at hd
  exact q dx n hd
inductive wX (K:Py) (w:Px) (vs:List V) (H:Hp) (Q:VK):Prop where
 | mk (x C f:Addr) (z0:vs=[.ref x]) (z1:H x=some (xO x C none)) (z2:Dw K C f "word") (z3:∀ dx,dx≠x->H dx=none->Q .non (J3 H x C dx w)):wX K w vs H Q
def iY (K:Py) (w:Px):Sp:=fun vs H Q _=>wX K w vs H Q
structure Xc (P:O9) (w:Qd) (K:Py) (mg:Px->Option Value) (base:Qo) (c:Px) (C:Addr) (wd:Px):Prop where
 ex:∃ (f:Addr) (fd:Qw),bK P w K mg base CX0 2 f fd ["self"] (iY K wd)/\mg c=some (.ref C)/\Dw K C f "word"/\Binds K fd ["self"] []
def thrown (C:Addr) (w:Px) (H:Hp) (E:XK):Prop:=∀ dx H1,aV H H1->H1 dx=some (.xd [("word",.str w)])->E (.ref C) (some dx) H1
section
variable {X:Cx} {c wd:Px} {C:Addr} {p pos pos':Ut} {E:XK} {j:Nat}
def K6 (C:Addr) (w:Px) (E:XK):TS:=fun _ _ H=>thrown C w H E
theorem eN (D:Xc X.prog X.w X.K X.mg X.base c C wd) (hr:dG j X.A) (hc:X.calm=true) (hw:Throws X fun x C dx H=>E (.ref C) (some dx) (off H x)) (hk:3<=j:=by decide) (hg:Gl X c:=by rfl) (hdb:(c == ("__debug__" : Px))=false:=by decide) :
  PS X (.Raise (some (.Call (.Name c p) [] [] pos)) none pos') (K6 C wd E):=by
 obtain⟨f,fd,F,hm,XC,hb⟩:=D.ex
 intro pins s σ H De I h
 refine Ep (W:=fun x C dx H=>E (.ref C) (some dx) (off H x)) hc (Fz XC F (hr.mono hk) hg hm hb mR hdb) hw pins s σ H De I fun x hx=>?_
 refine⟨x,C,f,rfl,ao,XC,fun dx n hd=>⟨rfl,x,C,f,dx,"word",rfl,Jz,XC,?_⟩⟩
 rw[aN n] at hd
 refine h dx _ (fun b u e=>?_) ?_
 ·have e1:upd H x (xO x C none) b=some u:=by rw[aN (cz e hx)]; exact e
  have n1:b≠x:=cz e hx
  have n2:b≠dx:=cz e hd
  rw[off_ne n1]
  unfold J3
  rw[aN n1,aN n2,aN n1]
  exact e1
 ·rw[off_ne n]
  exact J8 n
end
abbrev jo:Stmt:=top 3
theorem Cy:aM ["self"] ["self"] (aA (inClass jo 0)):=⟨rfl,rfl,rfl,by decide+kernel,rfl,by decide+kernel,by decide+kernel⟩
theorem Af {f fB CB:Addr} {mc:Value} {fd fdB:Qw} (F:Fun K "__init__" "BadPledge.__init__" (inClass jo 0) f fd) (hB:mg "BoonError" = some (.ref CB)) (O:uf K CB mc "__init__" fB)
  (FB:bK P w K mg base CX0 1 fB fdB ["self","word"] (jy K)) (bB:Binds K fdB ["self","word"] []):bK P w K mg base CX0 2 f fd ["self"] (iY K "bad pledge"):=by
 refine F.ok Cy (fun vs H Q E h=>?_) (fun cdv A outer s H vs Q E hr h=>?_)
 ·obtain⟨x,C,f,rfl,_⟩:=h
  rfl
 ·obtain⟨x,C,f,rfl,hx,XC,q⟩:=h
  refine⟨_,aq (cj (dX rfl hB O FB hr bB .nil mR (aa (pv 0) (aa aO ak)))),?_⟩
  exact⟨_,rfl,x,C,f,_,rfl,hx,XC,fun dx n hd=>q dx n hd⟩
abbrev qx:Stmt:=top 4
theorem z9:aM ["self"] ["self"] (aA (inClass qx 0)):=⟨rfl,rfl,rfl,by decide+kernel,rfl,by decide+kernel,by decide+kernel⟩
theorem BX {f fB CB:Addr} {mc:Value} {fd fdB:Qw} (F:Fun K "__init__" "NoFolk.__init__" (inClass qx 0) f fd) (hB:mg "BoonError" = some (.ref CB)) (O:uf K CB mc "__init__" fB)
  (FB:bK P w K mg base CX0 1 fB fdB ["self","word"] (jy K)) (bB:Binds K fdB ["self","word"] []):bK P w K mg base CX0 2 f fd ["self"] (iY K "no folk"):=by
 refine F.ok z9 (fun vs H Q E h=>?_) (fun cdv A outer s H vs Q E hr h=>?_)
 ·obtain⟨x,C,f,rfl,_⟩:=h
  rfl
 ·obtain⟨x,C,f,rfl,hx,XC,q⟩:=h
  refine⟨_,aq (cj (dX rfl hB O FB hr bB .nil mR (aa (pv 0) (aa aO ak)))),?_⟩
  exact⟨_,rfl,x,C,f,_,rfl,hx,XC,fun dx n hd=>q dx n hd⟩
abbrev Bv:Stmt:=top 5
theorem Bp:aM ["self"] ["self"] (aA (inClass Bv 0)):=⟨rfl,rfl,rfl,by decide+kernel,rfl,by decide+kernel,by decide+kernel⟩
theorem Bx {f fB CB:Addr} {mc:Value} {fd fdB:Qw} (F:Fun K "__init__" "Gone.__init__" (inClass Bv 0) f fd) (hB:mg "BoonError" = some (.ref CB)) (O:uf K CB mc "__init__" fB)
  (FB:bK P w K mg base CX0 1 fB fdB ["self","word"] (jy K)) (bB:Binds K fdB ["self","word"] []):bK P w K mg base CX0 2 f fd ["self"] (iY K "gone"):=by
 refine F.ok Bp (fun vs H Q E h=>?_) (fun cdv A outer s H vs Q E hr h=>?_)
 ·obtain⟨x,C,f,rfl,_⟩:=h
  rfl
 ·obtain⟨x,C,f,rfl,hx,XC,q⟩:=h
  refine⟨_,aq (cj (dX rfl hB O FB hr bB .nil mR (aa (pv 0) (aa aO ak)))),?_⟩
  exact⟨_,rfl,x,C,f,_,rfl,hx,XC,fun dx n hd=>q dx n hd⟩
abbrev BK:Stmt:=top 10
theorem zq:aM ["self"] ["self"] (aA (inClass BK 0)):=⟨rfl,rfl,rfl,by decide+kernel,rfl,by decide+kernel,by decide+kernel⟩
theorem Bm {f fB CB:Addr} {mc:Value} {fd fdB:Qw} (F:Fun K "__init__" "Full.__init__" (inClass BK 0) f fd) (hB:mg "BoonError" = some (.ref CB)) (O:uf K CB mc "__init__" fB)
  (FB:bK P w K mg base CX0 1 fB fdB ["self","word"] (jy K)) (bB:Binds K fdB ["self","word"] []):bK P w K mg base CX0 2 f fd ["self"] (iY K "full"):=by
 refine F.ok zq (fun vs H Q E h=>?_) (fun cdv A outer s H vs Q E hr h=>?_)
 ·obtain⟨x,C,f,rfl,_⟩:=h
  rfl
 ·obtain⟨x,C,f,rfl,hx,XC,q⟩:=h
  refine⟨_,aq (cj (dX rfl hB O FB hr bB .nil mR (aa (pv 0) (aa aO ak)))),?_⟩
  exact⟨_,rfl,x,C,f,_,rfl,hx,XC,fun dx n hd=>q dx n hd⟩
abbrev nF:Stmt:=top 9
theorem Ca:aM ["self"] ["self"] (aA (inClass nF 0)):=⟨rfl,rfl,rfl,by decide+kernel,rfl,by decide+kernel,by decide+kernel⟩
theorem Aw {f fB CB:Addr} {mc:Value} {fd fdB:Qw} (F:Fun K "__init__" "BadRise.__init__" (inClass nF 0) f fd) (hB:mg "BoonError" = some (.ref CB)) (O:uf K CB mc "__init__" fB)
  (FB:bK P w K mg base CX0 1 fB fdB ["self","word"] (jy K)) (bB:Binds K fdB ["self","word"] []):bK P w K mg base CX0 2 f fd ["self"] (iY K "bad rise"):=by
 refine F.ok Ca (fun vs H Q E h=>?_) (fun cdv A outer s H vs Q E hr h=>?_)
 ·obtain⟨x,C,f,rfl,_⟩:=h
  rfl
 ·obtain⟨x,C,f,rfl,hx,XC,q⟩:=h
  refine⟨_,aq (cj (dX rfl hB O FB hr bB .nil mR (aa (pv 0) (aa aO ak)))),?_⟩
  exact⟨_,rfl,x,C,f,_,rfl,hx,XC,fun dx n hd=>q dx n hd⟩
abbrev qO:Stmt:=top 8
theorem zT:aM ["self"] ["self"] (aA (inClass qO 0)):=⟨rfl,rfl,rfl,by decide+kernel,rfl,by decide+kernel,by decide+kernel⟩
theorem zM {f fB CB:Addr} {mc:Value} {fd fdB:Qw} (F:Fun K "__init__" "NotDue.__init__" (inClass qO 0) f fd) (hB:mg "BoonError" = some (.ref CB)) (O:uf K CB mc "__init__" fB)
  (FB:bK P w K mg base CX0 1 fB fdB ["self","word"] (jy K)) (bB:Binds K fdB ["self","word"] []):bK P w K mg base CX0 2 f fd ["self"] (iY K "not due"):=by
 refine F.ok zT (fun vs H Q E h=>?_) (fun cdv A outer s H vs Q E hr h=>?_)
 ·obtain⟨x,C,f,rfl,_⟩:=h
  rfl
 ·obtain⟨x,C,f,rfl,hx,XC,q⟩:=h
  refine⟨_,aq (cj (dX rfl hB O FB hr bB .nil mR (aa (pv 0) (aa aO ak)))),?_⟩
  exact⟨_,rfl,x,C,f,_,rfl,hx,XC,fun dx n hd=>q dx n hd⟩
abbrev dW:Stmt:=top 54
theorem nY:aM ["_law_asked","e"] ["_law_asked"] (aA dW):=⟨rfl,rfl,rfl,by decide+kernel,rfl,by decide+kernel,by decide+kernel⟩
def twWord (K:Py) (G:Addr):Addr->(Hp->VK->XK->Prop)->VK->Hp->Prop:=fun _ sp Q H=>sp H (fun v H2=>[V.str "told",v].length<=sizeLine/\∀ a,H2 a=none->Q (.ref a) (upd H2 a (.tup [.str "told",v]))) (XW K G "word" Q)
theorem Jc {fW G:Addr} {k:Nat} (m_BoonError:mg "BoonError" = some (.ref G)) (f:Addr) (cdv:Value) (A:Qc) (outer:List Vb) (s:Ov) (H:Hp) (Q:VK) (j:Nat) (sp:Hp->VK->XK->Prop) (_:k=j+1)
  (hr:dG k (A.deeper (PyProof.Rows.envOfC "_law_word" (aA dW) s.heap.objs.size fW cdv))) (L:KZ (XL P w) P w K mg base k s H (frs outer) f sp) (h:twWord K G f sp Q H) :
  ∃ t,PSs (vQ CX0 P w K mg base ["_law_asked","e"] "_law_word" (aA dW) fW cdv A outer s H E0) (bH dW) t/\t { nx:=fun _ H'=>Q .non H',rt:=Q } (start ["_law_asked","e"] [.ref f]) H:=by
 refine⟨_,aq (Jq 1 ⟨rfl,rfl⟩ rfl m_BoonError nY.nd rfl rfl fun pn E W hx=>aq (aJ (bM (aa aO (aa (Ku L rfl hr hx (pv 0)) ak))))),?_⟩
 exact⟨_,rfl,rfl,h⟩
mutual
def mnF:Tm->List Nat
 | .free=>[]
 | .never=>[]
 | .gives i _=>[i]
 | .sum c _=>c
 | .crowd c _ _=>c
 | .all ts=>mnL ts
 | .any ts=>mnL ts
def mnL:List Tm->List Nat
 | []=>[]
 | t::r=>mnF t++mnL r
end
theorem j0:∀ (ts us:List Tm),mnL (ts++us)=mnL ts++mnL us
 | [],us=>by rw[mnL]; rfl
 | t::r,us=>by rw[List.cons_append,mnL,mnL,j0 r us,W7]
theorem iD {ts:List Tm} {i:Nat} {t:Tm} (h:ts[i]? = some t):mnL (ts.take (i+1))=mnL (ts.take i)++mnF t:=by
 rw[PL,h,j0]
 show _++mnL [t]=_
 rw[mnL,mnL,Q8]
theorem xF:∀ {c:List Nat} {n:Nat},c.Pairwise (· < ·)->(∀ i∈c,i < n)->c.length<=n:=by
 have key:∀ (c:List Nat) (a n:Nat),c.Pairwise (· < ·)->(∀ i∈c,a<=i/\i < n)->c.length<=n - a:=by
  intro c
  induction c with
  | nil=>intro a n _ _; exact Ql _
  | cons x r ih =>
   intro a n hp hb
   rw[Rr] at hp
   have hx:=hb x Ph
   have:=ih (x+1) n hp.2 fun i hi=>⟨hp.1 i hi,(hb i (Pb _ hi)).2⟩
   rw[PK]
   lia
 intro c n hp hb
 have:=key c 0 n hp fun i hi=>⟨Ql _,hb i hi⟩
 lia
mutual
theorem GD {n:Nat} {H:Hp} (hn:n<=12):∀ (d:Nat) {v:V} {t:Tm},gH n H v t->t.dep<=d+1->(mnF t).length<=12 * 6 ^ d
 | d,_,_,.free _,_=>by rw[mnF]; exact Ql _
 | d,_,_,.never _,_=>by rw[mnF]; exact Ql _
 | d,_,_,.gives _ _ _ _,_=>by
  rw[mnF]
  have:0 < 6 ^ d:=Nat.pow_pos (by decide)
  show 1<=_
  lia
 | d,_,_,.sum _ _ hc hp _ _ _ _,_=>by
  rw[mnF]
  have:=xF hp hc
  have:0 < 6 ^ d:=Nat.pow_pos (by decide)
  lia
 | d,_,_,.crowd _ _ hc hp _ _ _ _ _ _,_=>by
  rw[mnF]
  have:=xF hp hc
  have:0 < 6 ^ d:=Nat.pow_pos (by decide)
  lia
 | 0,_,_,.all (vs:=vs) (ts:=ts) _ _ l2 _ rl,hd=>by
  have:=qT rl l2
  rw[Tm.dep] at hd
  lia
 | d+1,_,_,.all (ts:=ts) _ _ _ l6 rl,hd=>by
  rw[mnF]
  rw[Tm.dep] at hd
  have h1:=vp hn d rl (by lia)
  have h2:=rl.length
  have h3:ts.length * (12 * 6 ^ d)<=6 * (12 * 6 ^ d):=Nat.mul_le_mul_right _ (by lia)
  rw[Nat.pow_succ]
  lia
 | 0,_,_,.any (vs:=vs) (ts:=ts) _ _ l2 _ rl,hd=>by
  have:=qT rl l2
  rw[Tm.dep] at hd
  lia
 | d+1,_,_,.any (ts:=ts) _ _ _ l6 rl,hd=>by
  rw[mnF]
  rw[Tm.dep] at hd
  have h1:=vp hn d rl (by lia)
  have h2:=rl.length
  have h3:ts.length * (12 * 6 ^ d)<=6 * (12 * 6 ^ d):=Nat.mul_le_mul_right _ (by lia)
  rw[Nat.pow_succ]
  lia
theorem vp {n:Nat} {H:Hp} (hn:n<=12):∀ (d:Nat) {vs:List V} {ts:List Tm},cD n H vs ts->tdL ts<=d+1->(mnL ts).length<=ts.length * (12 * 6 ^ d)
 | d,_,_,.nil,_=>by rw[mnL]; exact Ql _
 | d,_,_,.cons (ts:=ts) h r,hd=>by
  rw[tdL] at hd
  have h1:=GD hn d h (by lia)
  have h2:=vp hn d r (by lia)
  rw[mnL,Qa,PK,Nat.add_mul,Nat.one_mul]
  lia
theorem qT {n:Nat} {H:Hp}:∀ {vs:List V} {ts:List Tm},cD n H vs ts->2<=vs.length->1<=tdL ts
 | _,_,.nil,h=>by simp at h
 | _,_,.cons (t:=t) _ _,_=>by
  rw[tdL]
  have:=t.nJ
  lia
end
mutual
theorem Kw {n:Nat} {H:Hp}:∀ {v:V} {t:Tm},gH n H v t->∀ i∈mnF t,i < n
 | _,_,.free _=>fun i hi=>by rw[mnF] at hi; cases hi
 | _,_,.never _=>fun i hi=>by rw[mnF] at hi; cases hi
 | _,_,.gives _ h _ _=>fun i hi=>by rw[mnF] at hi; rw[List.mem_singleton.mp hi]; exact h
 | _,_,.sum _ _ hc _ _ _ _ _=>fun i hi=>by rw[mnF] at hi; exact hc i hi
 | _,_,.crowd _ _ hc _ _ _ _ _ _ _=>fun i hi=>by rw[mnF] at hi; exact hc i hi
 | _,_,.all _ _ _ _ rl=>fun i hi=>by rw[mnF] at hi; exact zp rl i hi
 | _,_,.any _ _ _ _ rl=>fun i hi=>by rw[mnF] at hi; exact zp rl i hi
theorem zp {n:Nat} {H:Hp}:∀ {vs:List V} {ts:List Tm},cD n H vs ts->∀ i∈mnL ts,i < n
 | _,_,.nil=>fun i hi=>by rw[mnL] at hi; cases hi
 | _,_,.cons h r=>fun i hi=>by
  rw[mnL] at hi
  rcases List.mem_append.mp hi with z | z
  ·exact Kw h i z
  ·exact zp r i z
end
theorem NQ {d:Nat} (h:d<=4):12 * 6 ^ (d - 1)<=2592:=by
 have:6 ^ (d - 1)<=6 ^ 3:=Nat.pow_le_pow_right (by decide) (by lia)
 have:(6:Nat) ^ 3=216:=by decide
 lia
theorem mz {n d:Nat} {H:Hp} {v:V} {t:Tm} (hn:n<=12) (h4:d<=4) (r:gH n H v t) (hd:t.dep<=d):(mnF t).length<=2592:=by
 have:=t.nJ
 exact PX (GD hn (d - 1) r (by lia)) (NQ h4)
theorem zO {ts:List Tm} (i:Nat):(mnL (ts.take i)).length<=(mnL ts).length:=by
 have:=congrArg List.length (j0 (ts.take i) (ts.drop i))
 rw[List.take_append_drop,Qa] at this
 lia
inductive zm (d:Nat) (vs:List V) (H:Hp) (Q:VK):Prop where
 | mk (v:V) (n:Nat) (t:Tm) (z0:vs=[v]) (z1:gH n H v t) (z2:t.dep<=d) (z3:d<=4) (z4:n<=12) (z5:∀ (r:Addr) (H':Hp),aV H H'->H r=none->H' r=some (.lst ((mnF t).map vN))->Q (.ref r) H'):zm d vs H Q
def gR (d:Nat):Sp:=fun vs H Q _=>zm d vs H Q
theorem tH {ps:List Px}:bK P w K mg base CX0 0 f fd ps (gR 0):=by
 have no:∀ vs H Q E,¬ gR 0 vs H Q E:=fun vs H Q E h=>by
  obtain⟨v,n,t,_,_,h1,_⟩:=h
  have:=t.nJ
  lia
 exact⟨fun vs H Q E h=>absurd h (no vs H Q E),fun A outer s H args us vs Q E _ _ _ _ h=>absurd h (no vs H Q E)⟩
abbrev j4:Stmt:=top 28
theorem mC:aM ["term","kind"] ["term"] (aA j4):=⟨rfl,rfl,rfl,by decide+kernel,rfl,by decide+kernel,by decide+kernel⟩
theorem fU {d:Nat} (F:Fun K "mentions" "mentions" j4 f fd) (B:Bt mg)
  (D_mentions:Df P w K mg base "mentions" d ["term"] (gR d)):bK P w K mg base CX0 (d+1) f fd ["term"] (gR (d+1)):=by
 refine F.ok mC (fun vs H Q E h=>?_) (fun cdv A outer s H vs Q E hr h=>?_)
 ·obtain⟨v,n,t,rfl,_⟩:=h
  rfl
 ·obtain⟨v,n,t,rfl,rt,hd,h4,hn,q⟩:=h
  refine⟨_,(aj (bh (i:=1) mC.nd rfl (Pr rfl) (aQ (r:=bI K) aK (pv 0) az (fun _ _=>rfl)))
 (aj (aY (aG bD (pv 1) aO (aL _)) (aq (aJ (cJ (aa (aQ (r:=bI K) aK (pv 0) az (fun _ _=>rfl)) ak)))) aH)
 (aj (aY (PW.pt (gM (aG bD (pv 1) aO (aL _)) (d9 (aG bD (pv 1) aO (aL _))))) (aq (aJ (cu (r:=ji K) dU rfl B.list_ iz (aa (aQ (r:=bI K) aK (pv 0) az (fun _ _=>rfl)) ak)))) aH)
 (aj (aY (PW.pt (gM (aG bD (pv 1) aO (aL _)) (d9 (aG bD (pv 1) aO (aL _))))) (aq (aJ (Fp (L:=["part","one"]) (F:=[]) (cap:=[]) rfl (cG rfl rfl (by kernel_rfl)) (c7 (aQ (r:=bI K) aK (pv 0) az (fun _ _=>rfl))) (fun _ _ _ _ _=>(aP (i:=0) (cg (by decide+kernel)) rfl (Pr rfl))) (fun _ _ _ _ _=>(FQ K rfl (bC D_mentions hr (aa (pv 0) ak)))) (fun _ _ _ _ _=>(aP (i:=1) (cg (by decide+kernel)) rfl (Pr rfl))) (fun _ _ _ _ _=>(pv 1))))) aH)
 (aq (aJ (cJ ak))))))),?_⟩
  have small':=mz hn h4 rt hd
  have parts:∀ {b:Addr} {us:List V} {ts:List Tm},H b=some (.tup us)->cD n H us ts->tdL ts<=d->(mnL ts).length<=2592->∀ {σ':St} {D:Addr},H D=none->(∀ H2,aV H H2->H2 D=some (.lst ((mnL ts).map vN))->Q (.ref D) H2) →
    lW D [none,none] (Itt K b) (vR 0) (GZ K (Dk (gR d) [] E0 (Fb (KN 0) Gp))) (vR 1) (KN 1) H (fun H2=>Q (.ref D) H2):=by
   intro b us ts hb rl hdl lm σ' D hD hq
   have el:=rl.length
   refine Ce (K:=K) (a:=b) (xs:=us) (fun i zs σ' H2=>(∃ u v,σ'=[u,v])/\aV H H2/\H2 D=some (.lst zs)/\zs=(mnL (ts.take i)).map vN) ⟨⟨_,_,rfl⟩,aD hD _,ao,by rw[Qj,mnL]; rfl⟩ (fun i zs σ' H2 _ h=>SqT.of (h.2.1 _ _ hb)) ?_ ?_
   ·rintro i zs x σ' H2 hx ⟨⟨u,v,rfl⟩,sm,eD,ez⟩
    obtain⟨t',ht,rt'⟩:=rl.get hx
    refine⟨_,rfl,x,n,t',rfl,rt'.mono sm,PX (ik ht) hdl,by lia,hn,fun r H3 s3 fr er=>?_⟩
    have hrD:r≠D:=fun z=>by rw[z,eD] at fr; cases fr
    refine⟨r,rfl,⟨_,SqL.of er⟩,Es (K:=K) (b:=r) (ws:=(mnF t').map vN) (fun j ws σ' H4=>(∃ u,σ'=[some x,u])/\aV H H4/\H4 r=some (.lst ((mnF t').map vN))/\H4 D=some (.lst ws)/\ws=(mnL (ts.take i)++(mnF t').take j).map vN)
     ⟨⟨_,rfl⟩,sm.trans s3,er,s3 _ _ eD,by rw[Qj,Q8]; exact ez⟩ (fun j ws σ' H4 _ h=>SqL.of h.2.2.1) ?_ ?_⟩
    ·rintro j ws y σ' H4 hy ⟨⟨u,rfl⟩,s4,er4,eD4,ew⟩
     obtain⟨m,hm,rfl⟩:=yL hy
     have hlen:ws.length<=2592:=by
      have h1:=zO (ts:=ts) (i+1)
      rw[iD ht,Qa] at h1
      rw[ew,Ow,Qa,Qf]
      lia
     refine⟨_,rfl,eD4,Ud hlen (by decide),⟨_,rfl⟩,bu s4 hD _,?_,ao,?_⟩
     ·rw[aN hrD]
      exact er4
     ·rw[ew,PL,hm,← W7]
      show _=List.map vN ((mnL (ts.take i)++(mnF t').take j)++[m])
      rw[O7 (l₁:=mnL (ts.take i)++(mnF t').take j)]
      rfl
    ·rintro ws σ' H4 ⟨⟨u,rfl⟩,s4,er4,eD4,ew⟩
     rw[Ow,Pq,← iD ht] at ew
     exact⟨⟨_,_,rfl⟩,s4,eD4,ew⟩
   ·rintro zs σ' H2 ⟨_,sm,eD,ez⟩
    rw[el,Pq] at ez
    exact hq H2 sm (by rw[eD,ez])
  cases rt with
  | @free a ha =>
   refine⟨_,rfl,a,_,_,_,rfl,rfl,SqT.of ha,au (k:=0) rfl,?_⟩
   refine⟨_,rfl,rfl,_,rfl,bJ (aB (by decide)) ?_⟩
   refine⟨_,rfl,rfl,_,rfl,bJ (aB (by decide)) ⟨_,rfl,rfl,_,rfl,bJ (aB (by decide)) ?_⟩⟩
   refine⟨_,rfl,rfl,_,rfl,bJ (aB (by decide)) ⟨_,rfl,rfl,_,rfl,bJ (aB (by decide)) ?_⟩⟩
   exact⟨small (by show 0<=1000; decide),fun r h0=>q r _ (aD h0 _) h0 (by rw[ao,mnF]; rfl)⟩
  | @never a ha =>
   refine⟨_,rfl,a,_,_,_,rfl,rfl,SqT.of ha,au (k:=0) rfl,?_⟩
   refine⟨_,rfl,rfl,_,rfl,bJ (aB (by decide)) ?_⟩
   refine⟨_,rfl,rfl,_,rfl,bJ (aB (by decide)) ⟨_,rfl,rfl,_,rfl,bJ (aB (by decide)) ?_⟩⟩
   refine⟨_,rfl,rfl,_,rfl,bJ (aB (by decide)) ⟨_,rfl,rfl,_,rfl,bJ (aB (by decide)) ?_⟩⟩
   exact⟨small (by show 0<=1000; decide),fun r h0=>q r _ (aD h0 _) h0 (by rw[ao,mnF]; rfl)⟩
  | @gives a i k ha hi k1 k9 =>
   refine⟨_,rfl,a,_,_,_,rfl,rfl,SqT.of ha,au (k:=0) rfl,?_⟩
   refine⟨_,rfl,rfl,_,rfl,jT rfl ?_⟩
   exact⟨_,rfl,a,_,_,_,rfl,rfl,SqT.of ha,au (k:=1) rfl,small (by show 1<=1000; decide),fun r h0=>q r _ (aD h0 _) h0 (by rw[ao,mnF]; rfl)⟩
  | @sum a b c k ha hb hc hp l20 l2 k1 k99 =>
   refine⟨_,rfl,a,_,_,_,rfl,rfl,SqT.of ha,au (k:=0) rfl,?_⟩
   refine⟨_,rfl,rfl,_,rfl,bJ (aB (by decide)) ?_⟩
   refine⟨_,rfl,rfl,_,rfl,jT rfl (cH ?_)⟩
   exact⟨_,rfl,a,_,_,_,rfl,rfl,SqT.of ha,au (k:=1) rfl,b,_,rfl,.inr (SqT.of hb),fun r h0=>q r _ (aD h0 _) h0 (by rw[ao,mnF])⟩
  | @crowd a b c k mm ha hb hc hp l20 l1 k1 k9 m1 m12 =>
   refine⟨_,rfl,a,_,_,_,rfl,rfl,SqT.of ha,au (k:=0) rfl,?_⟩
   refine⟨_,rfl,rfl,_,rfl,bJ (aB (by decide)) ?_⟩
   refine⟨_,rfl,rfl,_,rfl,bJ (aB (by decide)) ⟨_,rfl,rfl,_,rfl,jT rfl ?_⟩⟩
   exact⟨_,rfl,a,_,_,_,rfl,rfl,SqT.of ha,au (k:=1) rfl,b,_,rfl,.inr (SqT.of hb),fun r h0=>q r _ (aD h0 _) h0 (by rw[ao,mnF])⟩
  | @all a b us ts ha hb l2 l6 rl =>
   have hdl:tdL ts<=d:=by rw[Tm.dep] at hd; lia
   rw[mnF] at small'
   refine⟨_,rfl,a,_,_,_,rfl,rfl,SqT.of ha,au (k:=0) rfl,?_⟩
   refine⟨_,rfl,rfl,_,rfl,bJ (aB (by decide)) ?_⟩
   refine⟨_,rfl,rfl,_,rfl,bJ (aB (by decide)) ⟨_,rfl,rfl,_,rfl,bJ (aB (by decide)) ?_⟩⟩
   refine⟨_,rfl,rfl,_,rfl,jT rfl (cH ?_)⟩
   exact⟨_,rfl,a,_,_,_,rfl,rfl,SqT.of ha,au (k:=1) rfl,b,rfl,⟨_,SqT.of hb⟩,fun D hD=>parts (σ':=[]) hb rl hdl small' hD fun H2 sm eD=>q D H2 sm hD (by rw[eD,mnF])⟩
  | @any a b us ts ha hb l2 l6 rl =>
   have hdl:tdL ts<=d:=by rw[Tm.dep] at hd; lia
   rw[mnF] at small'
   refine⟨_,rfl,a,_,_,_,rfl,rfl,SqT.of ha,au (k:=0) rfl,?_⟩
   refine⟨_,rfl,rfl,_,rfl,bJ (aB (by decide)) ?_⟩
   refine⟨_,rfl,rfl,_,rfl,bJ (aB (by decide)) ⟨_,rfl,rfl,_,rfl,bJ (aB (by decide)) ?_⟩⟩
   refine⟨_,rfl,rfl,_,rfl,bJ (aB (by decide)) ⟨_,rfl,rfl,_,rfl,jT rfl ?_⟩⟩
   exact⟨_,rfl,a,_,_,_,rfl,rfl,SqT.of ha,au (k:=1) rfl,b,rfl,⟨_,SqT.of hb⟩,fun D hD=>parts (σ':=[]) hb rl hdl small' hD fun H2 sm eD=>q D H2 sm hD (by rw[eD,mnF])⟩
def nmI (c:List Nat) (ms:List Int):Prop:=ms.Perm (ddI (c.map fun i:Nat=>(i:Int)))/\ms.Pairwise (·<=·)
theorem Ax:∀ (ns acc:List Int) (x:Int),x∈ns.foldl Ra acc->x∈acc∨x∈ns
 | [],acc,x,h=>.inl h
 | n::r,acc,x,h=>by
  rw[T8] at h
  rcases Ax r _ x h with z | z
  ·unfold Ra at z
   split at z
   ·exact .inl z
   ·rcases List.mem_append.mp z with y | y
    ·exact .inl y
    ·rw[List.mem_singleton.mp y]
     exact .inr Ph
  ·exact .inr (Pb _ z)
theorem uI:∀ (n:Nat) (l:List Int),l.Nodup->(∀ x∈l,0<=x/\x < (n:Int))->l.length<=n
 | 0,l,_,h=>by
  cases l with
  | nil=>exact Ql _
  | cons x r =>
   have:=h x Ph
   lia
 | n+1,l,nd,h=>by
  have h1:=uI n (l.erase (n:Int)) (nd.erase _) fun x hx=>by
   have hx':=List.mem_of_mem_erase hx
   have b:=h x hx'
   have ne:x≠(n:Int):=fun z=>by
    rw[z] at hx
    exact (List.Nodup.mem_erase_iff nd).mp hx |>.1 rfl
   lia
  have h2:l.length<=(l.erase (n:Int)).length+1:=by
   rw[List.length_erase]
   split <;> lia
  lia
theorem JH {c:List Nat} {n:Nat} (h:∀ i∈c,i < n):(ddI (c.map fun i:Nat=>(i:Int))).length<=n:=by
 rw[GC]
 refine uI n _ (xY _ [] List.nodup_nil) fun x hx=>?_
 rcases Ax _ [] x hx with z | z
 ·cases z
 ·obtain⟨i,hi,rfl⟩:=List.mem_map.mp z
  have:=h i hi
  lia
abbrev vC:Stmt:=top 29
theorem Eo:aM ["term"] ["term"] (aA vC):=⟨rfl,rfl,rfl,by decide+kernel,rfl,by decide+kernel,by decide+kernel⟩
inductive xr (vs:List V) (H:Hp) (Q:VK):Prop where
 | mk (v:V) (n:Nat) (t:Tm) (z0:vs=[v]) (z1:gH n H v t) (z2:t.dep<=4) (z3:n<=12) (z4:∀ (r:Addr) (ms:List Int) (H':Hp),aV H H'->H r=none->nmI (mnF t) ms->H' r=some (.lst (ms.map V.int))->Q (.ref r) H'):xr  vs H Q
def Ao:Sp:=fun vs H Q _=>xr  vs H Q
theorem Ej {k:Nat} (F:Fun K "named" "named" vC f fd) (B:Bt mg)
  (D_mentions:Df P w K mg base "mentions" k ["term"] (gR 4)):bK P w K mg base CX0 (k+1) f fd ["term"] Ao:=by
 refine F.ok Eo (fun vs H Q E h=>?_) (fun cdv A outer s H vs Q E hr h=>?_)
 ·obtain⟨v,n,t,rfl,_⟩:=h
  rfl
 ·obtain⟨v,n,t,rfl,rt,hd,hn,q⟩:=h
  refine⟨_,(aq (aJ (rE rfl rfl B.sorted_ rfl B.set_ (aa (bC D_mentions hr (aa (pv 0) ak)) ak)))),?_⟩
  refine⟨_,rfl,v,n,t,rfl,rt,hd,by decide,hn,fun r H1 s1 fr er=>?_⟩
  have lm:=mz hn (OJ 4) rt hd
  have ld:=JH (Kw rt)
  refine⟨r,(mnF t).map fun i:Nat=>(i:Int),rfl,SqL.of (by rw[er,m5]),by rw[Ow]; lia,by lia,fun ms pm so l hl=>?_⟩
  exact q l ms _ (s1.trans (aD hl _)) (s1.free hl) ⟨pm,so⟩ ao
abbrev ju:Stmt:=top 15
abbrev jU:Stmt:=top 21
abbrev jm:Stmt:=top 22
abbrev dM:Stmt:=top 23
abbrev nA:Stmt:=top 24
theorem ud:aM ["thing","low","high"] ["thing","low","high"] (aA ju):=⟨rfl,rfl,rfl,by decide+kernel,rfl,by decide+kernel,by decide+kernel⟩
theorem fV:aM ["many","thing","fewest","lowest_left","one"] ["many","thing","fewest"] (aA jU):=⟨rfl,rfl,rfl,by decide+kernel,rfl,by decide+kernel,by decide+kernel⟩
theorem su:aM ["many","thing","deep"] ["many","thing","deep"] (aA jm):=⟨rfl,rfl,rfl,by decide+kernel,rfl,by decide+kernel,by decide+kernel⟩
theorem fG:aM ["many","thing","deep","kind"] ["many","thing","deep"] (aA dM):=⟨rfl,rfl,rfl,by decide+kernel,rfl,by decide+kernel,by decide+kernel⟩
theorem yu:aM ["many","term"] ["many","term"] (aA nA):=⟨rfl,rfl,rfl,by decide+kernel,rfl,by decide+kernel,by decide+kernel⟩
def isNum:V->Int->Int->Bool
 | .int i,lo,hi=>decide (lo<=i) && decide (i<=hi)
 | _,_,_=>false
inductive NV:V->Prop where
 | int (i:Int):NV (.int i)
 | str (x:Px):NV (.str x)
inductive xP (vs:List V) (H:Hp) (Q:VK):Prop where
 | mk (x:V) (lo hi:Int) (z0:vs=[x,.int lo,.int hi]) (z1:NV x) (z2:Q (.bl (isNum x lo hi)) H):xP  vs H Q
def iu:Sp:=fun vs H Q _=>xP  vs H Q
theorem tG (F:Fun K "is_number" "is_number" ju f fd) (B:Bt mg) :
  bK P w K mg base CX0 1 f fd ["thing","low","high"] iu:=by
 refine F.ok ud (fun vs H Q E h=>?_) (fun cdv A outer s H vs Q E hr h=>?_)
 ·obtain⟨x,lo,hi,rfl,_⟩:=h
  rfl
 ·obtain⟨x,lo,hi,rfl,pl,q⟩:=h
  refine⟨_,(aq (aJ (dF (aC (r:=qZ K) bU rfl B.isinstance_ aR (aa (pv 0) (aa (iw B.int_ v8) ak))) (dF (K8 (aC (r:=qZ K) bU rfl B.isinstance_ aR (aa (pv 0) (aa (iw B.bool_ vU) ak)))) (dF (bO Hg (pv 1) (pv 0) (aL _)) (gF (bO Hg (pv 0) (pv 2) (aL _)))))))),?_⟩
  cases pl with
  | int i =>
   refine⟨_,rfl,_,_,_,_,rfl,.int i,dz _ _,_,rfl,cH ?_⟩
   refine⟨_,rfl,_,_,_,_,rfl,.int i,jh _,_,rfl,_,rfl,cH ?_⟩
   refine⟨_,rfl,_,rfl,_,_,rfl,rfl,_,rfl,?_⟩
   have e:isNum (.int i) lo hi=(decide (lo<=i) && decide (i<=hi)):=rfl
   rw[e] at q
   cases c:decide (lo<=i) with
   | true =>
    rw[c] at q
    exact cH ⟨_,rfl,_,rfl,_,_,rfl,rfl,q⟩
   | false =>
    rw[c] at q
    exact bG q
  | str y=>exact⟨_,rfl,_,_,_,_,rfl,.str y,ym _,_,rfl,bG q⟩
theorem gQ {k lo hi:Int} (h1:lo<=k) (h2:k<=hi):isNum (.int k) lo hi=true:=by
 show (decide (lo<=k) && decide (k<=hi))=true
 rw[decide_eq_true h1,decide_eq_true h2]
 rfl
theorem wy {i m:Nat} {lo:Int} (h:lo<=(i:Int)):isNum (.int (i:Int)) lo ((m:Int) - 1)=decide (i < m):=by
 show (decide (lo<=(i:Int)) && decide ((i:Int)<=(m:Int) - 1))=decide (i < m)
 rw[decide_eq_true h,Sx]
 exact decide_eq_decide.mpr ⟨fun z=>by lia,fun z=>by lia⟩
def ltF (m:Nat) (c:List Nat):Bool:=c.all fun i=>decide (i < m)
theorem Cd (m:Nat) (a b:List Nat):ltF m (a++b)=(ltF m a && ltF m b):=List.all_append
theorem Bg {m:Nat} {c:List Nat}:ltF m c=true ↔ ∀ i∈c,i < m:=by
 unfold ltF
 rw[List.all_eq_true]
 exact⟨fun h i hi=>of_decide_eq_true (h i hi),fun h i hi=>decide_eq_true (h i hi)⟩
theorem Kg {m i:Nat} {c:List Nat} (h:i∈c) (hm:¬ i < m):ltF m c=false:=by
 cases e:ltF m c with
 | false=>rfl
 | true=>exact absurd (Bg.mp e i h) hm
inductive zg (vs:List V) (H:Hp) (Q:VK):Prop where
 | mk (b:Addr) (c:List Nat) (m:Nat) (few:Int) (z0:vs=[.int (m:Int),.ref b,.int few]) (z1:H b=some (.tup (c.map vN))) (z2:c.Pairwise (· < ·)) (z3:few<=(c.length:Int)) (z4:Q (.bl (ltF m c)) H):zg  vs H Q
def Gv:Sp:=fun vs H Q _=>zg  vs H Q
theorem uN (F:Fun K "is_crowd" "is_crowd" jU f fd) (B:Bt mg)
  (D_is_number:Df P w K mg base "is_number" 1 ["thing","low","high"] iu):bK P w K mg base CX0 2 f fd ["many","thing","fewest"] Gv:=by
 refine F.ok fV (fun vs H Q E h=>?_) (fun cdv A outer s H vs Q E hr h=>?_)
 ·obtain⟨b,c,m,few,rfl,_⟩:=h
  rfl
 ·obtain⟨b,c,m,few,rfl,hb,hp,hf,q⟩:=h
  refine⟨_,(aj (aY (PW.pt (gM (du (cI (aC (r:=qZ K) bU rfl B.isinstance_ aR (aa (pv 1) (aa (iw B.tuple_ cX) ak))))) (d9 (aG yx (aC (r:=jC K) aU rfl B.len_ bL (aa (pv 1) ak)) (pv 2) (aL _))))) (aq (aJ eE)) aH)
 (aj (bh (i:=3) fV.nd rfl (Pr rfl) az)
 (aj (cZ Qy rfl (c7 (pv 1)) (aP (i:=4) fV.nd rfl (Pr rfl)) (aj (aY (du (cI (bC D_is_number hr (aa (pv 4) (aa (pv 3) (aa (bW rm (pv 0) az) ak)))))) (aq (aJ eE)) aH)
 (aq (bh (i:=3) fV.nd rfl (Pr rfl) (bW gG (pv 4) az)))))
 (aq (aJ eE))))),?_⟩
  refine⟨_,rfl,_,_,_,_,rfl,.tup hb,dz _ _,_,rfl,bG ?_⟩
  refine⟨_,rfl,b,_,rfl,.inr (SqT.of hb),_,rfl,_,_,rfl,rfl,_,rfl,?_⟩
  refine bJ (by rw[Ow]; lia) ?_
  refine⟨_,rfl,b,rfl,⟨_,SqT.of hb⟩,dH (K:=K) (a:=b) (xs:=c.map vN) (fun i σ H2=>H2=H/\∃ (lo:Int) (u:Option V),σ=[some (.int (m:Int)),some (.ref b),some (.int few),some (.int lo),u]/\(∀ x∈c.drop i,lo<=((x:Nat):Int))/\ltF m (c.take i)=true) ⟨rfl,0,_,rfl,fun x _=>by lia,by rw[Qj]; rfl⟩ (fun i σ H2 _ h2=>by rw[h2.1]; exact SqT.of hb) ?_ ?_⟩
  ·rintro i x σ H2 hx ⟨rfl,lo,u,rfl,hlo,hlt⟩
   obtain⟨y,hy,rfl⟩:=yL hx
   have hi:i < c.length:=(List.getElem?_eq_some_iff.mp hy).1
   have ey:c[i]=y:=(List.getElem?_eq_some_iff.mp hy).2
   have ed:c.drop i=y::c.drop (i+1):=by rw[TJ hi,ey]
   have hl:=hlo y (by rw[ed]; exact Ph)
   refine⟨_,rfl,_,rfl,_,rfl,_,_,rfl,rfl,vN y,lo,(m:Int) - 1,rfl,.int _,_,rfl,?_⟩
   rw[show vN y=V.int (y:Int) from rfl,wy hl]
   by_cases hm:y < m
   ·rw[decide_eq_true hm]
    refine bG ⟨_,rfl,_,_,rfl,rfl,rfl,(y:Int)+1,_,rfl,fun x hx=>?_,?_⟩
    ·have h1:=hp.drop (i:=i)
     rw[ed,Rr] at h1
     have:=h1.1 x hx
     lia
    ·rw[PL,hy,Cd,hlt,Sx]
     show (decide (y < m) && true)=true
     rw[decide_eq_true hm]
     rfl
   ·rw[decide_eq_false hm]
    refine cH ?_
    rw[Kg (Qe hy) hm] at q
    exact q
  ·rintro σ H2 ⟨rfl,lo,u,rfl,hlo,hlt⟩
   rw[Ow,Pq] at hlt
   rw[hlt] at q
   exact q
theorem ne0 {n:Nat} (h:n≠0):¬ V.int (n:Int)=V.int 0:=fun z=>h (by injection z with z; lia)
inductive sJ (k:Nat) (vs:List V) (H:Hp) (Q:VK):Prop where
 | mk (v:V) (m dp:Nat) (z0:vs=[.int (m:Int),v,.int (dp:Int)]) (z1:1<=dp) (z2:dp<=k) (z3:((∃ (n:Nat) (t:Tm),gH n H v t/\t.dep<=dp/\∀ H',aV H H'->Q (.bl (ltF m (mnF t))) H')∨(∃ e:Addr,v = .ref e/\H e=some (.tup [])/\Q (.bl false) H))):sJ k vs H Q
def iG (k:Nat):Sp:=fun vs H Q _=>sJ k vs H Q
inductive xM (k:Nat) (vs:List V) (H:Hp) (Q:VK):Prop where
 | mk (b:Addr) (us:List V) (ts:List Tm) (n m dp:Nat) (z0:vs=[.int (m:Int),.ref b,.int (dp:Int)]) (z1:dp<=k) (z2:H b=some (.tup us)) (z3:2<=us.length) (z4:us.length<=6) (z5:cD n H us ts) (z6:tdL ts<=dp) (z7:1<=dp) (z8:∀ H',aV H H'->Q (.bl (ltF m (mnL ts))) H'):xM k vs H Q
def Dd (k:Nat):Sp:=fun vs H Q _=>xM k vs H Q
theorem zJ (m:Nat):∀ ts:List Tm,(ts.map fun t=>ltF m (mnF t)).all (fun b=>b)=ltF m (mnL ts)
 | []=>by rw[mnL]; rfl
 | t::r=>by
  have ih:=zJ m r
  rw[mnL,Cd,← ih]
  rfl
theorem eF {n k:Nat} {t1 t2:Xu} (F:Fun K "are_parts" "are_parts" jm f fd) (B:Bt mg) (c_FEWEST_PARTS:mg "FEWEST_PARTS" = some (.int 2 t1)) (c_MOST_PARTS:mg "MOST_PARTS" = some (.int 6 t2))
  (hk:1<=k) (D_is_number:Df P w K mg base "is_number" 1 ["thing","low","high"] iu) (D_is_term_within:Df P w K mg base "is_term_within" k ["many","thing","deep"] (iG n)):bK P w K mg base CX0 (k+1) f fd ["many","thing","deep"] (Dd n):=by
 refine F.ok su (fun vs H Q E h=>?_) (fun cdv A outer s H vs Q E hr h=>?_)
 ·obtain⟨b,us,ts,n0,m,dp,rfl,_⟩:=h
  rfl
 ·obtain⟨b,us,ts,n0,m,dp,rfl,hdp,hb,l2,l6,rl,hd,d1,q⟩:=h
  refine⟨_,(aj (aY (PW.pt (gM (du (cI (aC (r:=qZ K) bU rfl B.isinstance_ aR (aa (pv 1) (aa (iw B.tuple_ cX) ak))))) (d9 (du (cI (bC D_is_number hr (aa (aC (r:=jC K) aU rfl B.len_ bL (aa (pv 1) ak)) (aa (lO c_FEWEST_PARTS) (aa (lO c_MOST_PARTS) ak))))))))) (aq (aJ eE)) aH)
 (aq (aJ (aC (r:=Ed K) (mV rfl) rfl B.all_ Bk (aa (di (L:=["part"]) (F:=["many","deep"]) (cap:=[0,2]) rfl (cG rfl rfl (by kernel_rfl)) (c7 (pv 1)) (fun _ _ _ _ _=>(aP (i:=0) (cg (by decide+kernel)) rfl (Pr rfl))) (fun _ _ _ _ _=>fc) (fun _ _ _ _ _=>(bC D_is_term_within hr (aa (pv 1) (aa (pv 0) (aa (pv 2) ak)))))) ak))))),?_⟩
  have el:=rl.length
  refine⟨_,rfl,_,_,_,_,rfl,.tup hb,dz _ _,_,rfl,bG ?_⟩
  refine⟨_,rfl,b,_,rfl,.inr (SqT.of hb),.int (us.length:Int),2,6,rfl,.int _,_,rfl,?_⟩
  rw[gQ (by lia) (by lia)]
  refine bG ⟨_,rfl,b,rfl,⟨_,SqT.of hb⟩,fun D hD=>eX (K:=K) (a:=b) (xs:=us) (fun i zs σ' H2=>(∃ u,σ'=[u,some (.int (m:Int)),some (.int (dp:Int))])/\zs=((ts.take i).map fun t=>ltF m (mnF t)).map V.bl/\aV H H2/\H2 D=some (.lst zs))
   ⟨⟨_,rfl⟩,rfl,aD hD _,ao⟩ (fun i zs σ' H2 _ h2=>⟨gk h2.2.2.1 (SqT.of hb),h2.2.2.2⟩) ?_ ?_⟩
  ·rintro i zs x σ' H2 hx ⟨⟨u,rfl⟩,e1,sm,hDl⟩
   have hi:i < us.length:=(List.getElem?_eq_some_iff.mp hx).1
   obtain⟨t,ht,rt⟩:=rl.get hx
   refine gT ?_
   refine⟨_,rfl,_,rfl,_,rfl,x,m,dp,rfl,d1,hdp,.inl ⟨n0,t,rt.mono sm,PX (ik ht) hd,fun H3 s3=>⟨s3 _ _ hDl,?_,⟨_,rfl⟩,?_,bu (sm.trans s3) hD _,ao⟩⟩⟩
   ·rw[e1,Ow,Ow,Qf]
    exact bj (by lia)
   ·rw[e1,PL,ht,O7,O7]
    rfl
  ·rintro zs σ' H2 ⟨_,e1,sm,hDl⟩
   rw[el,Pq] at e1
   refine⟨D,ts.map fun t=>ltF m (mnF t),rfl,SqL.of (by rw[hDl,e1]),?_⟩
   rw[zJ]
   exact q H2 sm
theorem vK:bK P w K mg base CX0 1 f fd ["many","thing","deep"] (iG 0):=by
 have no:∀ vs H Q E,¬ iG 0 vs H Q E:=fun vs H Q E h=>by
  obtain⟨v,m,dp,_,h1,h2,_⟩:=h
  lia
 exact⟨fun vs H Q E h=>absurd h (no vs H Q E),fun A outer s H args us vs Q E _ _ _ _ h=>absurd h (no vs H Q E)⟩
theorem cN {n k:Nat} {t1 t2 t3:Xu} (F:Fun K "is_term_within" "is_term_within" dM f fd) (B:Bt mg)
  (c_MOST_STEP:mg "MOST_STEP" = some (.int 9 t1)) (c_MOST_SUM:mg "MOST_SUM" = some (.int 99 t2)) (c_MOST_FOLK:mg "MOST_FOLK" = some (.int 12 t3)) (hk:2<=k) (D_is_number:Df P w K mg base "is_number" 1 ["thing","low","high"] iu) (D_is_crowd:Df P w K mg base "is_crowd" 2 ["many","thing","fewest"] Gv)
  (D_are_parts:Df P w K mg base "are_parts" k ["many","thing","deep"] (Dd n)):bK P w K mg base CX0 (k+1) f fd ["many","thing","deep"] (iG (n+1)):=by
 refine F.ok fG (fun vs H Q E h=>?_) (fun cdv A outer s H vs Q E hr h=>?_)
 ·obtain⟨v,m,dp,rfl,_⟩:=h
  rfl
 ·obtain⟨v,m,dp,rfl,d1,dk,h⟩:=h
  refine⟨_,(aj (aY (PW.pt (gM (aG yx (pv 2) az (aL _)) (gM (du (cI (aC (r:=qZ K) bU rfl B.isinstance_ aR (aa (pv 1) (aa (iw B.tuple_ cX) ak))))) (d9 (aG bD (aC (r:=jC K) aU rfl B.len_ bL (aa (pv 1) ak)) az (aL _)))))) (aq (aJ eE)) aH)
 (aj (bh (i:=3) fG.nd rfl (Pr rfl) (aQ (r:=bI K) aK (pv 1) az (fun _ _=>rfl)))
 (aj (aY (PW.pt (gM (aG bD (pv 3) aO (aL _)) (d9 (aG bD (pv 3) aO (aL _))))) (aq (aJ (bO bD (aC (r:=jC K) aU rfl B.len_ bL (aa (pv 1) ak)) az (aL _)))) aH)
 (aj (aY (aG bD (pv 3) aO (aL _)) (aq (aJ (dF (bO bD (aC (r:=jC K) aU rfl B.len_ bL (aa (pv 1) ak)) az (aL _)) (dF (bC D_is_number hr (aa (aQ (r:=bI K) aK (pv 1) az (fun _ _=>rfl)) (aa az (aa (bW rm (pv 0) az) ak)))) (gF (bC D_is_number hr (aa (aQ (r:=bI K) aK (pv 1) az (fun _ _=>rfl)) (aa az (aa (lO c_MOST_STEP) ak))))))))) aH)
 (aj (aY (aG bD (pv 3) aO (aL _)) (aq (aJ (dF (bO bD (aC (r:=jC K) aU rfl B.len_ bL (aa (pv 1) ak)) az (aL _)) (dF (bC D_is_crowd hr (aa (pv 0) (aa (aQ (r:=bI K) aK (pv 1) az (fun _ _=>rfl)) (aa az ak)))) (gF (bC D_is_number hr (aa (aQ (r:=bI K) aK (pv 1) az (fun _ _=>rfl)) (aa az (aa (lO c_MOST_SUM) ak))))))))) aH)
 (aj (aY (aG bD (pv 3) aO (aL _)) (aj (aY (PW.pt (gM (aG qI (aC (r:=jC K) aU rfl B.len_ bL (aa (pv 1) ak)) az (aL _)) (d9 (du (cI (bC D_is_crowd hr (aa (pv 0) (aa (aQ (r:=bI K) aK (pv 1) az (fun _ _=>rfl)) (aa az ak))))))))) (aq (aJ eE)) aH)
 (aq (aJ (dF (bC D_is_number hr (aa (aQ (r:=bI K) aK (pv 1) az (fun _ _=>rfl)) (aa az (aa (lO c_MOST_STEP) ak)))) (gF (bC D_is_number hr (aa (aQ (r:=bI K) aK (pv 1) az (fun _ _=>rfl)) (aa az (aa (lO c_MOST_FOLK) ak))))))))) aH)
 (aj (aY (PW.pt (gM (aG bD (pv 3) aO (aL _)) (d9 (aG bD (pv 3) aO (aL _))))) (aq (aJ (dF (bO bD (aC (r:=jC K) aU rfl B.len_ bL (aa (pv 1) ak)) az (aL _)) (gF (bC D_are_parts hr (aa (pv 0) (aa (aQ (r:=bI K) aK (pv 1) az (fun _ _=>rfl)) (aa (bW rm (pv 2) az) ak)))))))) aH)
 (aq (aJ eE))))))))),?_⟩
  refine⟨_,rfl,_,_,rfl,rfl,_,rfl,bJ (by lia) ?_⟩
  rcases h with⟨n0,t,rt,hd,q⟩ | ⟨e,rfl,he,q⟩
  ·have q0:=q H (aV.refl H)
   cases rt with
   | @free a ha =>
    refine⟨_,rfl,_,_,_,_,rfl,.tup ha,dz _ _,_,rfl,bG ⟨_,rfl,a,_,rfl,.inr (SqT.of ha),rfl,_,rfl,bJ (ne0 (R5 _)) ?_⟩⟩
    refine⟨_,rfl,a,_,_,_,rfl,rfl,SqT.of ha,au (k:=0) rfl,?_⟩
    refine⟨_,rfl,rfl,_,rfl,jT rfl (cH ?_)⟩
    rw[mnF] at q0
    exact⟨_,rfl,a,_,rfl,.inr (SqT.of ha),rfl,q0⟩
   | @never a ha =>
    refine⟨_,rfl,_,_,_,_,rfl,.tup ha,dz _ _,_,rfl,bG ⟨_,rfl,a,_,rfl,.inr (SqT.of ha),rfl,_,rfl,bJ (ne0 (R5 _)) ?_⟩⟩
    refine⟨_,rfl,a,_,_,_,rfl,rfl,SqT.of ha,au (k:=0) rfl,?_⟩
    refine⟨_,rfl,rfl,_,rfl,bJ (aB (by decide)) ⟨_,rfl,rfl,_,rfl,jT rfl ?_⟩⟩
    rw[mnF] at q0
    exact⟨_,rfl,a,_,rfl,.inr (SqT.of ha),rfl,q0⟩
   | @gives a i kk ha hi k1 k9 =>
    refine⟨_,rfl,_,_,_,_,rfl,.tup ha,dz _ _,_,rfl,bG ⟨_,rfl,a,_,rfl,.inr (SqT.of ha),rfl,_,rfl,bJ (ne0 (R5 _)) ?_⟩⟩
    refine⟨_,rfl,a,_,_,_,rfl,rfl,SqT.of ha,au (k:=0) rfl,?_⟩
    refine⟨_,rfl,rfl,_,rfl,bJ (aB (by decide)) ⟨_,rfl,rfl,_,rfl,bJ (aB (by decide)) ?_⟩⟩
    refine⟨_,rfl,rfl,_,rfl,jT rfl ?_⟩
    refine⟨_,rfl,a,_,rfl,.inr (SqT.of ha),rfl,_,rfl,jT rfl ?_⟩
    refine⟨_,rfl,a,_,_,_,rfl,rfl,SqT.of ha,au (k:=1) rfl,_,rfl,_,_,rfl,rfl,vN i,0,(m:Int) - 1,rfl,.int _,_,rfl,?_⟩
    rw[show vN i=V.int (i:Int) from rfl,wy (by lia)]
    rw[mnF] at q0
    have e:ltF m [i]=decide (i < m):=by
     show (decide (i < m) && true)=_
     rw[Bool.and_true]
    rw[e] at q0
    refine zb (fun c=>?_) (fun c=>?_)
    ·rw[c] at q0
     refine⟨_,rfl,a,_,_,_,rfl,rfl,SqT.of ha,au (k:=2) rfl,.int kk,1,9,rfl,.int _,?_⟩
     rw[gQ k1 k9]
     exact q0
    ·rw[Bool.eq_false_iff.mpr c] at q0
     exact q0
   | @sum a b c kk ha hb hc hp l20 l2 k1 k99 =>
    refine⟨_,rfl,_,_,_,_,rfl,.tup ha,dz _ _,_,rfl,bG ⟨_,rfl,a,_,rfl,.inr (SqT.of ha),rfl,_,rfl,bJ (ne0 (R5 _)) ?_⟩⟩
    refine⟨_,rfl,a,_,_,_,rfl,rfl,SqT.of ha,au (k:=0) rfl,?_⟩
    refine⟨_,rfl,rfl,_,rfl,bJ (aB (by decide)) ⟨_,rfl,rfl,_,rfl,bJ (aB (by decide)) ?_⟩⟩
    refine⟨_,rfl,rfl,_,rfl,bJ (aB (by decide)) ?_⟩
    refine⟨_,rfl,rfl,_,rfl,jT rfl ?_⟩
    refine⟨_,rfl,a,_,rfl,.inr (SqT.of ha),rfl,_,rfl,jT rfl ?_⟩
    refine⟨_,rfl,_,rfl,a,_,_,_,rfl,rfl,SqT.of ha,au (k:=1) rfl,b,c,m,2,rfl,hb,hp,by lia,_,rfl,?_⟩
    rw[mnF] at q0
    refine zb (fun c=>?_) (fun c=>?_)
    ·rw[c] at q0
     refine⟨_,rfl,a,_,_,_,rfl,rfl,SqT.of ha,au (k:=2) rfl,.int kk,1,99,rfl,.int _,?_⟩
     rw[gQ k1 k99]
     exact q0
    ·rw[Bool.eq_false_iff.mpr c] at q0
     exact q0
   | @crowd a b c kk mm ha hb hc hp l20 l1 k1 k9 m1 m12 =>
    refine⟨_,rfl,_,_,_,_,rfl,.tup ha,dz _ _,_,rfl,bG ⟨_,rfl,a,_,rfl,.inr (SqT.of ha),rfl,_,rfl,bJ (ne0 (R5 _)) ?_⟩⟩
    refine⟨_,rfl,a,_,_,_,rfl,rfl,SqT.of ha,au (k:=0) rfl,?_⟩
    refine⟨_,rfl,rfl,_,rfl,bJ (aB (by decide)) ⟨_,rfl,rfl,_,rfl,bJ (aB (by decide)) ?_⟩⟩
    refine⟨_,rfl,rfl,_,rfl,bJ (aB (by decide)) ?_⟩
    refine⟨_,rfl,rfl,_,rfl,bJ (aB (by decide)) ?_⟩
    refine⟨_,rfl,rfl,_,rfl,jT rfl ?_⟩
    refine⟨_,rfl,a,_,rfl,.inr (SqT.of ha),rfl,_,rfl,ug rfl ?_⟩
    refine⟨_,rfl,_,rfl,a,_,_,_,rfl,rfl,SqT.of ha,au (k:=1) rfl,b,c,m,1,rfl,hb,hp,by lia,_,rfl,?_⟩
    rw[mnF] at q0
    cases z:ltF m c with
    | false =>
     rw[z] at q0
     exact cH q0
    | true =>
     rw[z] at q0
     refine bG ⟨_,rfl,a,_,_,_,rfl,rfl,SqT.of ha,au (k:=2) rfl,.int kk,1,9,rfl,.int _,_,rfl,?_⟩
     rw[gQ k1 k9]
     refine cH ⟨_,rfl,a,_,_,_,rfl,rfl,SqT.of ha,au (k:=3) rfl,.int mm,1,12,rfl,.int _,?_⟩
     rw[gQ m1 m12]
     exact q0
   | @all a b us ts ha hb l2 l6 rl =>
    have hdl:tdL ts+1<=dp:=by rw[Tm.dep] at hd; exact hd
    have t1:=qT rl l2
    refine⟨_,rfl,_,_,_,_,rfl,.tup ha,dz _ _,_,rfl,bG ⟨_,rfl,a,_,rfl,.inr (SqT.of ha),rfl,_,rfl,bJ (ne0 (R5 _)) ?_⟩⟩
    refine⟨_,rfl,a,_,_,_,rfl,rfl,SqT.of ha,au (k:=0) rfl,?_⟩
    refine⟨_,rfl,rfl,_,rfl,bJ (aB (by decide)) ⟨_,rfl,rfl,_,rfl,bJ (aB (by decide)) ?_⟩⟩
    refine⟨_,rfl,rfl,_,rfl,bJ (aB (by decide)) ?_⟩
    refine⟨_,rfl,rfl,_,rfl,bJ (aB (by decide)) ?_⟩
    refine⟨_,rfl,rfl,_,rfl,bJ (aB (by decide)) ?_⟩
    refine⟨_,rfl,rfl,_,rfl,jT rfl (cH ?_)⟩
    refine⟨_,rfl,a,_,rfl,.inr (SqT.of ha),rfl,_,rfl,jT rfl ?_⟩
    refine⟨_,rfl,_,rfl,a,_,_,_,rfl,rfl,SqT.of ha,au (k:=1) rfl,_,rfl,_,_,rfl,rfl,b,us,ts,n0,m,dp - 1,?_,by lia,hb,l2,l6,rl,by lia,by lia,fun H' s'=>?_⟩
    ·rw[show ((dp - 1:Nat):Int)=(dp:Int) - 1 by lia]
     rfl
    ·have q1:=q H' s'
     rw[mnF] at q1
     exact q1
   | @any a b us ts ha hb l2 l6 rl =>
    have hdl:tdL ts+1<=dp:=by rw[Tm.dep] at hd; exact hd
    have t1:=qT rl l2
    refine⟨_,rfl,_,_,_,_,rfl,.tup ha,dz _ _,_,rfl,bG ⟨_,rfl,a,_,rfl,.inr (SqT.of ha),rfl,_,rfl,bJ (ne0 (R5 _)) ?_⟩⟩
    refine⟨_,rfl,a,_,_,_,rfl,rfl,SqT.of ha,au (k:=0) rfl,?_⟩
    refine⟨_,rfl,rfl,_,rfl,bJ (aB (by decide)) ⟨_,rfl,rfl,_,rfl,bJ (aB (by decide)) ?_⟩⟩
    refine⟨_,rfl,rfl,_,rfl,bJ (aB (by decide)) ?_⟩
    refine⟨_,rfl,rfl,_,rfl,bJ (aB (by decide)) ?_⟩
    refine⟨_,rfl,rfl,_,rfl,bJ (aB (by decide)) ?_⟩
    refine⟨_,rfl,rfl,_,rfl,bJ (aB (by decide)) ⟨_,rfl,rfl,_,rfl,jT rfl ?_⟩⟩
    refine⟨_,rfl,a,_,rfl,.inr (SqT.of ha),rfl,_,rfl,jT rfl ?_⟩
    refine⟨_,rfl,_,rfl,a,_,_,_,rfl,rfl,SqT.of ha,au (k:=1) rfl,_,rfl,_,_,rfl,rfl,b,us,ts,n0,m,dp - 1,?_,by lia,hb,l2,l6,rl,by lia,by lia,fun H' s'=>?_⟩
    ·rw[show ((dp - 1:Nat):Int)=(dp:Int) - 1 by lia]
     rfl
    ·have q1:=q H' s'
     rw[mnF] at q1
     exact q1
  ·refine⟨_,rfl,_,_,_,_,rfl,.tup he,dz _ _,_,rfl,bG ⟨_,rfl,e,_,rfl,.inr (SqT.of he),rfl,_,rfl,jT rfl q⟩⟩
inductive tO (vs:List V) (H:Hp) (Q:VK):Prop where
 | mk (v:V) (m:Nat) (z0:vs=[.int (m:Int),v]) (z1:((∃ (n:Nat) (t:Tm),gH n H v t/\t.dep<=4/\∀ H',aV H H'->Q (.bl (ltF m (mnF t))) H')∨(∃ e:Addr,v = .ref e/\H e=some (.tup [])/\Q (.bl false) H))):tO  vs H Q
def wN:Sp:=fun vs H Q _=>tO  vs H Q
theorem yq {k:Nat} {t1:Xu} (F:Fun K "is_term" "is_term" nA f fd) (B:Bt mg) (c_MOST_DEPTH:mg "MOST_DEPTH" = some (.int 4 t1))
  (D_is_term_within:Df P w K mg base "is_term_within" k ["many","thing","deep"] (iG 4)):bK P w K mg base CX0 (k+1) f fd ["many","term"] wN:=by
 refine F.ok yu (fun vs H Q E h=>?_) (fun cdv A outer s H vs Q E hr h=>?_)
 ·obtain⟨v,m,rfl,_⟩:=h
  rfl
 ·obtain⟨v,m,rfl,h⟩:=h
  refine⟨_,(aq (aJ (bC D_is_term_within hr (aa (pv 0) (aa (pv 1) (aa (lO c_MOST_DEPTH) ak)))))),?_⟩
  exact⟨_,rfl,_,rfl,v,m,4,rfl,by decide,by decide,h⟩
inductive Rg where
 | rung (k:Int) (t:Tm) | bad
inductive jn (n:Nat) (H:Hp):V->Rg->Prop where
 | rung {r:Addr} {k:Int} {v:V} {t:Tm}:H r=some (.tup [.int k,v])->gH n H v t->t.dep<=4->jn n H (.ref r) (.rung k t)
 | odd {r:Addr} {xs:List V}:H r=some (.tup xs)->xs.length≠2->jn n H (.ref r) .bad
 | text {r:Addr} {x:Px} {v:V}:H r=some (.tup [.str x,v])->jn n H (.ref r) .bad
 | hollow {r e:Addr} {k:Int}:H r=some (.tup [.int k,.ref e])->H e=some (.tup [])->jn n H (.ref r) .bad
theorem jn.bc {n:Nat} {H H':Hp} {v:V} {g:Rg} (e:∀ a xs,H a=some (HO.tup xs)->H' a=some (HO.tup xs)):jn n H v g->jn n H' v g
 | .rung h t d=>.rung (e _ _ h) (t.bc e) d
 | .odd h l=>.odd (e _ _ h) l
 | .text h=>.text (e _ _ h)
 | .hollow h h2=>.hollow (e _ _ h) (e _ _ h2)
theorem jn.mono {n:Nat} {H H':Hp} {v:V} {g:Rg} (e:aV H H') (h:jn n H v g):jn n H' v g:=h.bc fun a xs q=>e a _ q
inductive jg (n:Nat) (H:Hp):List V->List Rg->Prop where
 | nil:jg n H [] []
 | cons {v:V} {g:Rg} {vs:List V} {gs:List Rg}:jn n H v g->jg n H vs gs->jg n H (v::vs) (g::gs)
theorem jg.bc {n:Nat} {H H':Hp} (e:∀ a xs,H a=some (HO.tup xs)->H' a=some (HO.tup xs)):∀ {vs:List V} {gs:List Rg},jg n H vs gs->jg n H' vs gs
 | _,_,.nil=>.nil
 | _,_,.cons h r=>.cons (h.bc e) (jg.bc e r)
theorem jg.length {n:Nat} {H:Hp}:∀ {vs:List V} {gs:List Rg},jg n H vs gs->vs.length=gs.length
 | _,_,.nil=>rfl
 | _,_,.cons _ r=>by rw[PK,PK,jg.length r]
theorem jg.get {n:Nat} {H:Hp}:∀ {vs:List V} {gs:List Rg} {i:Nat} {v:V},jg n H vs gs->vs[i]? = some v->∃ g,gs[i]? = some g/\jn n H v g
 | _,_,_,_,.nil,h=>by simp at h
 | _,_,0,_,.cons h _,e=>by
  cases (show some _=some _ from e)
  exact⟨_,rfl,h⟩
 | _,_,i+1,_,.cons _ r,e=>by
  obtain⟨g,e1,e2⟩:=jg.get (i:=i) r (by simpa using e)
  exact⟨g,by simpa using e1,e2⟩
def rgF (m who:Nat) (lo:Int):Rg->Bool
 | .rung k t=>(decide (lo<=k) && decide (k<=9)) && (ltF m (mnF t) && !decide (who∈mnF t))
 | .bad=>false
def rgK:Rg->Int
 | .rung k _=>k
 | .bad=>0
def plF (m who:Nat):Int->List Rg->Bool
 | _,[]=>true
 | lo,g::r=>rgF m who lo g && plF m who (rgK g+1) r
def Jl (m who:Nat) (gs:List Rg):Bool:=(decide (1<=gs.length) && decide (gs.length<=9)) && plF m who 1 gs
theorem wA (x:Int):∀ ns:List Int,inV (.int x) (ns.map V.int)=decide (x∈ns)
 | []=>by rw[decide_eq_false (by simp)]; rfl
 | n::r=>by
  have ih:=wA x r
  show (eqV (.int n) (.int x) || inV (.int x) (r.map V.int))=_
  rw[ih]
  have e:eqV (.int n) (.int x)=(n == x):=rfl
  rw[e,U5]
  simp only[XJ,decide_eq_true_eq,Vu,beq_iff_eq]
  exact⟨fun h=>h.elim (fun z=>.inl z.symm) .inr,fun h=>h.elim (fun z=>.inl z.symm) .inr⟩
theorem Ko {c:List Nat} {ms:List Int} (h:nmI c ms) (x:Nat):(x:Int)∈ms ↔ x∈c:=by
 obtain⟨p,_⟩:=h
 rw[p.mem_iff,GC,GF]
 constructor
 ·rintro (h | h)
  ·cases h
  ·obtain⟨y,hy,e⟩:=List.mem_map.mp h
   have:x=y:=by lia
   rw[this]
   exact hy
 ·exact fun h=>.inr (List.mem_map.mpr ⟨x,h,rfl⟩)
theorem Ec (ns:List Int):(ns.map V.int).all oF=true:=by
 rw[List.all_map]
 exact List.all_eq_true.mpr fun _ _=>rfl
abbrev nU:Stmt:=top 32
abbrev jb:Stmt:=top 33
theorem jY:aM ["many","one","thing","lowest_step","step","term"] ["many","one","thing","lowest_step"] (aA nU):=⟨rfl,rfl,rfl,by decide+kernel,rfl,by decide+kernel,by decide+kernel⟩
theorem eZ:aM ["many","one","thing","lowest_step","rung"] ["many","one","thing"] (aA jb):=⟨rfl,rfl,rfl,by decide+kernel,rfl,by decide+kernel,by decide+kernel⟩
inductive uB (vs:List V) (H:Hp) (Q:VK):Prop where
 | mk (v:V) (g:Rg) (n m who:Nat) (lo:Int) (z0:vs=[.int (m:Int),.int (who:Int),v,.int lo]) (z1:jn n H v g) (z2:n<=12) (z3:∀ H',aV H H'->Q (.bl (rgF m who lo g)) H'):uB  vs H Q
def wF:Sp:=fun vs H Q _=>uB  vs H Q
theorem ne2 {n:Nat} (h:n≠2):(!decide (V.int (n:Int)=V.int 2))=true:=by
 rw[decide_eq_false fun z=>h (by injection z with z; lia)]
 rfl
theorem yz {k:Nat} {t1:Xu} (F:Fun K "is_rung" "is_rung" nU f fd) (B:Bt mg) (c_MOST_STEP:mg "MOST_STEP" = some (.int 9 t1)) (hk:5<=k)
  (D_is_number:Df P w K mg base "is_number" 1 ["thing","low","high"] iu) (D_is_term:Df P w K mg base "is_term" k ["many","term"] wN) (D_named:Df P w K mg base "named" 5 ["term"] Ao):bK P w K mg base CX0 (k+1) f fd ["many","one","thing","lowest_step"] wF:=by
 refine F.ok jY (fun vs H Q E h=>?_) (fun cdv A outer s H vs Q E hr h=>?_)
 ·obtain⟨v,g,n,m,who,lo,rfl,_⟩:=h
  rfl
 ·obtain⟨v,g,n,m,who,lo,rfl,rg,hn,q⟩:=h
  refine⟨_,(aj (aY (PW.pt (gM (du (cI (aC (r:=qZ K) bU rfl B.isinstance_ aR (aa (pv 2) (aa (iw B.tuple_ cX) ak))))) (d9 (aG qI (aC (r:=jC K) aU rfl B.len_ bL (aa (pv 2) ak)) az (aL _))))) (aq (aJ eE)) aH)
 (aj (rY (pv 2) (d8 (K:=K) 2 rfl rfl (aZ (aP (i:=4) jY.nd rfl (Pr rfl)) (aZ (aP (i:=5) jY.nd rfl (Pr rfl)) d7))))
 (aq (aJ (dF (bC D_is_number hr (aa (pv 4) (aa (pv 3) (aa (lO c_MOST_STEP) ak)))) (dF (bC D_is_term hr (aa (pv 0) (aa (pv 5) ak))) (gF (bO (r:=rIn K true) lG (pv 1) (bC D_named hr (aa (pv 5) ak)) rfl)))))))),?_⟩
  have q0:=q H (aV.refl H)
  cases rg with
  | @rung r kk u t hr0 rt hd =>
   refine⟨_,rfl,_,_,_,_,rfl,.tup hr0,dz _ _,_,rfl,bG ⟨_,rfl,r,_,rfl,.inr (SqT.of hr0),rfl,_,rfl,ug rfl ?_⟩⟩
   refine⟨_,rfl,r,_,rfl,SqT.of hr0,rfl,_,_,rfl,_,_,rfl,rfl,?_⟩
   refine⟨_,rfl,_,rfl,.int kk,lo,9,rfl,.int _,_,rfl,?_⟩
   have er:rgF m who lo (.rung kk t)=(isNum (.int kk) lo 9 && (ltF m (mnF t) && !decide (who∈mnF t))):=rfl
   rw[er] at q q0
   refine zb (fun c=>?_) (fun c=>?_)
   ·rw[c,Sx] at q
    refine⟨_,rfl,_,rfl,u,m,rfl,.inl ⟨n,t,rt,hd,fun H1 s1=>⟨_,rfl,?_⟩⟩⟩
    refine zb (fun c2=>?_) (fun c2=>?_)
    ·rw[c2,Sx] at q
     refine⟨_,rfl,_,rfl,u,n,t,rfl,rt.mono s1,hd,hn,fun r1 ms H2 s2 f2 nm e2=>?_⟩
     refine⟨r1,_,rfl,.inl (SqL.of e2),rfl,Ec ms,?_⟩
     have q':=q H2 (s1.trans s2)
     rw[show (decide (who∈mnF t))=inV (.int (who:Int)) (ms.map V.int) by rw[wA]; exact decide_eq_decide.mpr (Ko nm who).symm] at q'
     exact q'
    ·have q':=q H1 s1
     rw[Bool.eq_false_iff.mpr c2,Tr] at q'
     exact q'
   ·rw[Bool.eq_false_iff.mpr c,Tr] at q0
    exact q0
  | @odd r xs hr0 hl =>
   exact⟨_,rfl,_,_,_,_,rfl,.tup hr0,dz _ _,_,rfl,bG ⟨_,rfl,r,_,rfl,.inr (SqT.of hr0),rfl,_,rfl,Kv (ne2 hl) q0⟩⟩
  | @text r x u hr0 =>
   refine⟨_,rfl,_,_,_,_,rfl,.tup hr0,dz _ _,_,rfl,bG ⟨_,rfl,r,_,rfl,.inr (SqT.of hr0),rfl,_,rfl,ug rfl ?_⟩⟩
   refine⟨_,rfl,r,_,rfl,SqT.of hr0,rfl,_,_,rfl,_,_,rfl,rfl,?_⟩
   exact⟨_,rfl,_,rfl,.str x,lo,9,rfl,.str _,_,rfl,bG q0⟩
  | @hollow r e kk hr0 he =>
   refine⟨_,rfl,_,_,_,_,rfl,.tup hr0,dz _ _,_,rfl,bG ⟨_,rfl,r,_,rfl,.inr (SqT.of hr0),rfl,_,rfl,ug rfl ?_⟩⟩
   refine⟨_,rfl,r,_,rfl,SqT.of hr0,rfl,_,_,rfl,_,_,rfl,rfl,?_⟩
   refine⟨_,rfl,_,rfl,.int kk,lo,9,rfl,.int _,_,rfl,?_⟩
   refine zb (fun c=>?_) (fun c=>?_)
   ·exact⟨_,rfl,_,rfl,.ref e,m,rfl,.inr ⟨e,rfl,he,_,rfl,bG q0⟩⟩
   ·exact q0
inductive nG (vs:List V) (H:Hp) (Q:VK):Prop where
 | mk (a:Addr) (us:List V) (gs:List Rg) (n m who:Nat) (z0:vs=[.int (m:Int),.int (who:Int),.ref a]) (z1:H a=some (.tup us)) (z2:jg n H us gs) (z3:n<=12) (z4:us.length<=20) (z5:1<=m) (z6:∀ H',aV H H'->Q (.bl (Jl m who gs)) H'):nG  vs H Q
def oX:Sp:=fun vs H Q _=>nG  vs H Q
theorem jn.good {n:Nat} {H:Hp} {v:V} {g:Rg} {m who:Nat} {lo:Int} (h:jn n H v g) (e:rgF m who lo g=true):∃ r kk u t,v = .ref r/\H r=some (.tup [.int kk,u])/\gH n H u t/\t.dep<=4/\g = .rung kk t:=by
 cases h with
 | rung h1 h2 h3=>exact⟨_,_,_,_,rfl,h1,h2,h3,rfl⟩
 | odd=>cases e
 | text=>cases e
 | hollow=>cases e
theorem rM {k:Nat} {t1:Xu} (F:Fun K "is_pledge" "is_pledge" jb f fd) (B:Bt mg) (c_MOST_RUNGS:mg "MOST_RUNGS" = some (.int 9 t1)) (hk:1<=k)
  (D_is_number:Df P w K mg base "is_number" 1 ["thing","low","high"] iu) (D_is_rung:Df P w K mg base "is_rung" k ["many","one","thing","lowest_step"] wF):bK P w K mg base CX0 (k+1) f fd ["many","one","thing"] oX:=by
 refine F.ok eZ (fun vs H Q E h=>?_) (fun cdv A outer s H vs Q E hr h=>?_)
 ·obtain⟨a,us,gs,n,m,who,rfl,_⟩:=h
  rfl
 ·obtain⟨a,us,gs,n,m,who,rfl,ha,rg,hn,l20,hm,q⟩:=h
  refine⟨_,(aj (aY (PW.pt (gM (du (cI (aC (r:=qZ K) bU rfl B.isinstance_ aR (aa (pv 2) (aa (iw B.tuple_ cX) ak))))) (d9 (du (cI (bC D_is_number hr (aa (aC (r:=jC K) aU rfl B.len_ bL (aa (pv 2) ak)) (aa az (aa (lO c_MOST_RUNGS) ak))))))))) (aq (aJ eE)) aH)
 (aj (bh (i:=3) eZ.nd rfl (Pr rfl) az)
 (aj (cZ Qy rfl (c7 (pv 2)) (aP (i:=4) eZ.nd rfl (Pr rfl)) (aj (aY (du (cI (bC D_is_rung hr (aa (pv 0) (aa (pv 1) (aa (pv 4) (aa (pv 3) ak))))))) (aq (aJ eE)) aH)
 (aq (bh (i:=3) eZ.nd rfl (Pr rfl) (bW gG (aQ (r:=bI K) aK (pv 4) az (fun _ _=>rfl)) az)))))
 (aq (aJ eE))))),?_⟩
  have el:=rg.length
  have q0:=q H (aV.refl H)
  refine⟨_,rfl,_,_,_,_,rfl,.tup ha,dz _ _,_,rfl,bG ⟨_,rfl,a,_,rfl,.inr (SqT.of ha),.int (us.length:Int),1,9,rfl,.int _,_,rfl,?_⟩⟩
  have en:isNum (.int (us.length:Int)) 1 9=(decide (1<=gs.length) && decide (gs.length<=9)):=by
   show (decide ((1:Int)<=(us.length:Int)) && decide ((us.length:Int)<=9))=_
   rw[el]
   congr 1
   ·exact decide_eq_decide.mpr ⟨fun z=>by lia,fun z=>by lia⟩
   ·exact decide_eq_decide.mpr ⟨fun z=>by lia,fun z=>by lia⟩
  rw[en]
  unfold Jl at q q0
  cases hc:(decide (1<=gs.length) && decide (gs.length<=9)) with
  | false =>
   rw[hc,Tr] at q0
   exact cH q0
  | true =>
   rw[hc,Sx] at q
   refine bG ⟨_,rfl,a,rfl,⟨_,SqT.of ha⟩,dH (K:=K) (a:=a) (xs:=us) (fun i σ H2=>aV H H2/\∃ (lo:Int) (u:Option V),σ=[some (.int (m:Int)),some (.int (who:Int)),some (.ref a),some (.int lo),u]/\plF m who lo (gs.drop i)=plF m who 1 gs)
    ⟨aV.refl H,1,_,rfl,by rw[List.drop_zero]⟩ (fun i σ H2 _ h=>SqT.of (h.1 _ _ ha)) ?_ ?_⟩
   ·rintro i x σ H2 hx ⟨sm,lo,u,rfl,er⟩
    obtain⟨g,hg,rx⟩:=rg.get hx
    have hi:i < gs.length:=(List.getElem?_eq_some_iff.mp hg).1
    have eg:gs[i]=g:=(List.getElem?_eq_some_iff.mp hg).2
    have ed:gs.drop i=g::gs.drop (i+1):=by rw[TJ hi,eg]
    rw[ed,plF] at er
    refine⟨_,rfl,_,rfl,_,rfl,_,rfl,x,g,n,m,who,lo,rfl,rx.mono sm,hn,fun H3 s3=>⟨_,rfl,?_⟩⟩
    cases e:rgF m who lo g with
    | false =>
     rw[e,Tr] at er
     have q':=q H3 (sm.trans s3)
     rw[← er] at q'
     exact cH q'
    | true =>
     rw[e,Sx] at er
     obtain⟨r,kk,y,t,rfl,h1,_,_,rfl⟩:=rx.good e
     refine bG ⟨_,rfl,r,_,_,_,rfl,rfl,SqT.of (s3 _ _ (sm _ _ h1)),au (k:=0) rfl,_,_,rfl,rfl,sm.trans s3,kk+1,_,rfl,er⟩
   ·rintro σ H2 ⟨sm,lo,u,rfl,er⟩
    rw[el,Xm,plF] at er
    have q':=q H2 sm
    rw[← er] at q'
    exact q'
abbrev iU:Stmt:=top 57
theorem uy:aM ["_law_term_here","_law_giving"] ["_law_term_here","_law_giving"] (aA iU):=⟨rfl,rfl,rfl,by decide+kernel,rfl,by decide+kernel,by decide+kernel⟩
theorem CV (g:List Int):∀ ts:List Tm,(ts.map (hF g)).all (fun b=>b)=rO g ts
 | []=>by rw[rO]; rfl
 | t::r=>by rw[rO,← CV g r]; rfl
theorem zx (g:List Int):∀ ts:List Tm,(ts.map (hF g)).any (fun b=>b)=uw g ts
 | []=>by rw[uw]; rfl
 | t::r=>by rw[uw,← zx g r]; rfl
theorem xu (f:Nat->Bool):∀ c:List Nat,(c.map fun i=>if f i=true then (1:Int) else 0).sum=((c.filter f).length:Int)
 | []=>rfl
 | i::c=>by
  have ih:=xu f c
  rw[Qv,List.sum_cons,ih,Xl]
  split
  ·rw[PK]
   lia
  ·lia
theorem vM:bK P w K mg base CX0 0 f fd ["_law_term_here","_law_giving"] (dj K 0):=by
 have no:∀ vs H Q E,¬ dj K 0 vs H Q E:=fun vs H Q E h=>by
  obtain⟨v,g,n,t,ns,_,_,h1,_⟩:=h
  have:=t.nJ
  lia
 exact⟨fun vs H Q E h=>absurd h (no vs H Q E),fun A outer s H args us vs Q E _ _ _ _ h=>absurd h (no vs H Q E)⟩
theorem eQ {d:Nat} (F:Fun K "_law_holds" "_law_holds" iU f fd) (B:Bt mg)
  (D_law_holds:Df P w K mg base "_law_holds" d ["_law_term_here","_law_giving"] (dj K d)):bK P w K mg base CX0 (d+1) f fd ["_law_term_here","_law_giving"] (dj K (d+1)):=by
 refine F.ok uy (fun vs H Q E h=>?_) (fun cdv A outer s H vs Q E hr h=>?_)
 ·obtain⟨v,g,n,t,ns,rfl,_⟩:=h
  rfl
 ·obtain⟨v,g,n,t,ns,rfl,rt,hd,hg,hn,q⟩:=h
  refine⟨_,(aj (aY (aG bD (aQ (r:=bI K) aK (pv 0) az (fun _ _=>rfl)) aO (aL _)) (aq (aJ (bO jM (aQ (r:=bI K) aK (pv 1) (aQ (r:=bI K) aK (pv 0) az (fun _ _=>rfl)) (fun _ _=>rfl)) (aQ (r:=bI K) aK (pv 0) az (fun _ _=>rfl)) (aL _)))) aH)
 (aj (aY (aG bD (aQ (r:=bI K) aK (pv 0) az (fun _ _=>rfl)) aO (aL _)) (aq (aJ (bO jM (aC (r:=Dt K) (m9 rfl) rfl B.sum_ Bo (aa (di (L:=["_law_one"]) (F:=["_law_giving"]) (cap:=[1]) rfl (cG rfl rfl (by kernel_rfl)) (c7 (aQ (r:=bI K) aK (pv 0) az (fun _ _=>rfl))) (fun _ _ _ _ _=>(aP (i:=0) (cg (by decide+kernel)) rfl (Pr rfl))) (fun _ _ _ _ _=>fc) (fun _ _ _ _ _=>(aQ (r:=bI K) aK (pv 1) (pv 0) (fun _ _=>rfl)))) ak)) (aQ (r:=bI K) aK (pv 0) az (fun _ _=>rfl)) (aL _)))) aH)
 (aj (aY (aG bD (aQ (r:=bI K) aK (pv 0) az (fun _ _=>rfl)) aO (aL _)) (aq (aJ (bO jM (aC (r:=Dt K) (m9 rfl) rfl B.sum_ Bo (aa (di (L:=["_law_one"]) (F:=["_law_giving","_law_term_here"]) (cap:=[1,0]) rfl (cG rfl rfl (by kernel_rfl)) (c7 (aQ (r:=bI K) aK (pv 0) az (fun _ _=>rfl))) (fun _ _ _ _ _=>(aP (i:=0) (cg (by decide+kernel)) rfl (Pr rfl))) (fun _ _ _ _ _=>fc) (fun _ _ _ _ _=>(cu (r:=Lj) Bl rfl B.int_ v8 (aa (bO jM (aQ (r:=bI K) aK (pv 1) (pv 0) (fun _ _=>rfl)) (aQ (r:=bI K) aK (pv 2) az (fun _ _=>rfl)) (aL _)) ak)))) ak)) (aQ (r:=bI K) aK (pv 0) az (fun _ _=>rfl)) (aL _)))) aH)
 (aj (aY (aG bD (aQ (r:=bI K) aK (pv 0) az (fun _ _=>rfl)) aO (aL _)) (aq (aJ (aC (r:=Ed K) (mV rfl) rfl B.all_ Bk (aa (di (L:=["_law_part"]) (F:=["_law_giving"]) (cap:=[1]) rfl (cG rfl rfl (by kernel_rfl)) (c7 (aQ (r:=bI K) aK (pv 0) az (fun _ _=>rfl))) (fun _ _ _ _ _=>(aP (i:=0) (cg (by decide+kernel)) rfl (Pr rfl))) (fun _ _ _ _ _=>fc) (fun _ _ _ _ _=>(bC D_law_holds hr (aa (pv 0) (aa (pv 1) ak))))) ak)))) aH)
 (aq (aJ (Mh (bO bD (aQ (r:=bI K) aK (pv 0) az (fun _ _=>rfl)) aO (aL _)) (gF (dF (bO bD (aQ (r:=bI K) aK (pv 0) az (fun _ _=>rfl)) aO (aL _)) (gF (aC (r:=Lb K) (Aq rfl) rfl B.any_ JK (aa (di (L:=["_law_part"]) (F:=["_law_giving"]) (cap:=[1]) rfl (cG rfl rfl (by kernel_rfl)) (c7 (aQ (r:=bI K) aK (pv 0) az (fun _ _=>rfl))) (fun _ _ _ _ _=>(aP (i:=0) (cg (by decide+kernel)) rfl (Pr rfl))) (fun _ _ _ _ _=>fc) (fun _ _ _ _ _=>(bC D_law_holds hr (aa (pv 0) (aa (pv 1) ak))))) ak)))))))))))),?_⟩
  have parts:∀ (D:Addr),H D=none->∀ (b:Addr) (us:List V) (ts:List Tm) (Z:Hp->Prop) (te:TE),us.length<=6->H b=some (.tup us)->cD n H us ts->tdL ts<=d →
    (∀ (x:V) (t:Tm) (σ':St) (H2:Hp) (R:V->Hp->Prop),gH n H2 x t->aV H H2->t.dep<=d->σ'=[some x,some (.ref g)]->(∀ H3,aV H2 H3->R (.bl (hF ns t)) H3)->te σ' H2 R) →
    (∀ H2:Hp,aV H H2->H2 D=some (.lst ((ts.map (hF ns)).map V.bl))->Z H2)->jA D [none,some (.ref g)] (Itt K b) (vR 0) Ij te H Z:=fun D hD b us ts Z te lu hb rl td hte hQ=>by
   have el:=rl.length
   refine eX (K:=K) (a:=b) (xs:=us) (fun i zs σ' H2=>(∃ u,σ'=[u,some (.ref g)])/\zs=((ts.take i).map (hF ns)).map V.bl/\aV H H2/\H2 D=some (.lst zs))
    ⟨⟨_,rfl⟩,rfl,aD hD _,ao⟩ (fun i zs σ' H2 _ h=>⟨gk h.2.2.1 (SqT.of hb),h.2.2.2⟩) ?_ ?_
   ·rintro j zs x σ' H2 hx ⟨⟨u,rfl⟩,e1,sm,hDl⟩
    obtain⟨t,ht,rt⟩:=rl.get hx
    have hj:j < us.length:=(List.getElem?_eq_some_iff.mp hx).1
    refine gT ?_
    refine hte x t _ H2 _ (rt.mono sm) sm (PX (ik ht) td) rfl fun H3 s3=>⟨s3 _ _ hDl,?_,⟨_,rfl⟩,?_,bu (sm.trans s3) hD _,ao⟩
    ·rw[e1,Ow,Ow,Qf]
     exact bj (by lia)
    ·rw[e1,PL,ht,O7,O7]
     rfl
   ·rintro zs σ' H2 ⟨⟨u,rfl⟩,e1,sm,hDl⟩
    rw[el,Pq] at e1
    exact hQ H2 sm (by rw[hDl,e1])
  cases rt with
  | @free a ha =>
   refine⟨_,rfl,a,_,_,_,rfl,rfl,SqT.of ha,au (k:=0) rfl,rfl,_,rfl,bJ (aB (by decide)) ?_⟩
   refine⟨_,rfl,a,_,_,_,rfl,rfl,SqT.of ha,au (k:=0) rfl,rfl,_,rfl,bJ (aB (by decide)) ?_⟩
   refine⟨_,rfl,a,_,_,_,rfl,rfl,SqT.of ha,au (k:=0) rfl,rfl,_,rfl,bJ (aB (by decide)) ?_⟩
   refine⟨_,rfl,a,_,_,_,rfl,rfl,SqT.of ha,au (k:=0) rfl,rfl,_,rfl,bJ (aB (by decide)) ?_⟩
   refine⟨_,rfl,a,_,_,_,rfl,rfl,SqT.of ha,au (k:=0) rfl,rfl,_,rfl,jT rfl ?_⟩
   have q':=q H (aV.refl H)
   rw[hF] at q'
   exact q'
  | @never a ha =>
   refine⟨_,rfl,a,_,_,_,rfl,rfl,SqT.of ha,au (k:=0) rfl,rfl,_,rfl,bJ (aB (by decide)) ?_⟩
   refine⟨_,rfl,a,_,_,_,rfl,rfl,SqT.of ha,au (k:=0) rfl,rfl,_,rfl,bJ (aB (by decide)) ?_⟩
   refine⟨_,rfl,a,_,_,_,rfl,rfl,SqT.of ha,au (k:=0) rfl,rfl,_,rfl,bJ (aB (by decide)) ?_⟩
   refine⟨_,rfl,a,_,_,_,rfl,rfl,SqT.of ha,au (k:=0) rfl,rfl,_,rfl,bJ (aB (by decide)) ?_⟩
   refine⟨_,rfl,a,_,_,_,rfl,rfl,SqT.of ha,au (k:=0) rfl,rfl,_,rfl,bJ (aB (by decide)) ?_⟩
   refine⟨_,rfl,a,_,_,_,rfl,rfl,SqT.of ha,au (k:=0) rfl,rfl,_,rfl,bJ (aB (by decide)) ?_⟩
   have q':=q H (aV.refl H)
   rw[hF] at q'
   exact q'
  | @gives a i k ha hi _ _ =>
   refine⟨_,rfl,a,_,_,_,rfl,rfl,SqT.of ha,au (k:=0) rfl,rfl,_,rfl,jT rfl ?_⟩
   refine⟨_,rfl,_,rfl,a,_,_,_,rfl,rfl,SqT.of ha,au (k:=1) rfl,g,_,_,_,rfl,rfl,hg,atD (by lia),_,rfl,a,_,_,_,rfl,rfl,SqT.of ha,au (k:=2) rfl,_,_,rfl,rfl,?_⟩
   have q':=q H (aV.refl H)
   rw[hF] at q'
   exact q'
  | @sum a b c k ha hb hc _ hl _ _ _ =>
   refine⟨_,rfl,a,_,_,_,rfl,rfl,SqT.of ha,au (k:=0) rfl,rfl,_,rfl,bJ (aB (by decide)) ?_⟩
   refine⟨_,rfl,a,_,_,_,rfl,rfl,SqT.of ha,au (k:=0) rfl,rfl,_,rfl,jT rfl ?_⟩
   refine⟨_,rfl,a,_,_,_,rfl,rfl,SqT.of ha,au (k:=1) rfl,b,rfl,⟨_,SqT.of hb⟩,fun D hD=>eX (K:=K) (a:=b) (xs:=c.map vN) (fun i zs σ' H2=>(∃ u,σ'=[u,some (.ref g)])/\zs=((c.take i).map fun i=>ns.getD i 0).map V.int/\aV H H2/\H2 D=some (.lst zs))
    ⟨⟨_,rfl⟩,rfl,aD hD _,ao⟩ (fun i zs σ' H2 _ h=>⟨gk h.2.2.1 (SqT.of hb),h.2.2.2⟩) ?_ ?_⟩
   ·rintro j zs x σ' H2 hx ⟨⟨u,rfl⟩,e1,sm,hDl⟩
    obtain⟨i,hi,rfl⟩:=yL hx
    have hin:i < n:=hc i (Qe hi)
    refine gT ?_
    refine⟨_,rfl,_,rfl,g,_,_,_,rfl,rfl,gk sm hg,atD (by lia),hDl,?_,⟨_,rfl⟩,?_,bu sm hD _,ao⟩
    ·rw[e1,Ow,Ow,Qf]
     exact bj (by lia)
    ·rw[e1,PL,hi,O7,O7]
     rfl
   ·rintro zs σ' H2 ⟨⟨u,rfl⟩,e1,sm,hDl⟩
    rw[Ow,Pq] at e1
    refine⟨D,_,rfl,SqL.of (by rw[hDl,e1]),_,rfl,a,_,_,_,rfl,rfl,SqT.of (sm _ _ ha),au (k:=2) rfl,_,_,rfl,rfl,?_⟩
    have q':=q H2 sm
    rw[hF] at q'
    exact q'
  | @crowd a b c k m ha hb hc _ hl _ _ _ _ _ =>
   refine⟨_,rfl,a,_,_,_,rfl,rfl,SqT.of ha,au (k:=0) rfl,rfl,_,rfl,bJ (aB (by decide)) ?_⟩
   refine⟨_,rfl,a,_,_,_,rfl,rfl,SqT.of ha,au (k:=0) rfl,rfl,_,rfl,bJ (aB (by decide)) ?_⟩
   refine⟨_,rfl,a,_,_,_,rfl,rfl,SqT.of ha,au (k:=0) rfl,rfl,_,rfl,jT rfl ?_⟩
   refine⟨_,rfl,a,_,_,_,rfl,rfl,SqT.of ha,au (k:=1) rfl,b,rfl,⟨_,SqT.of hb⟩,fun D hD=>eX (K:=K) (a:=b) (xs:=c.map vN) (fun i zs σ' H2=>(∃ u,σ'=[u,some (.ref g),some (.ref a)])/\zs=((c.take i).map fun i=>if decide (k<=ns.getD i 0)=true then (1:Int) else 0).map V.int/\aV H H2/\H2 D=some (.lst zs))
    ⟨⟨_,rfl⟩,rfl,aD hD _,ao⟩ (fun i zs σ' H2 _ h=>⟨gk h.2.2.1 (SqT.of hb),h.2.2.2⟩) ?_ ?_⟩
   ·rintro j zs x σ' H2 hx ⟨⟨u,rfl⟩,e1,sm,hDl⟩
    obtain⟨i,hi,rfl⟩:=yL hx
    have hin:i < n:=hc i (Qe hi)
    refine gT ?_
    refine⟨_,rfl,_,rfl,g,_,_,_,rfl,rfl,gk sm hg,atD (by lia),_,rfl,a,_,_,_,rfl,rfl,SqT.of (sm _ _ ha),au (k:=2) rfl,_,_,rfl,rfl,.inr ⟨_,rfl,hDl,?_,⟨_,rfl⟩,?_,bu sm hD _,ao⟩⟩
    ·rw[e1,Ow,Ow,Qf]
     exact bj (by lia)
    ·rw[e1,PL,hi,O7,O7]
     rfl
   ·rintro zs σ' H2 ⟨⟨u,rfl⟩,e1,sm,hDl⟩
    rw[Ow,Pq] at e1
    refine⟨D,_,rfl,SqL.of (by rw[hDl,e1]),_,rfl,a,_,_,_,rfl,rfl,SqT.of (sm _ _ ha),au (k:=3) rfl,_,_,rfl,rfl,?_⟩
    have q':=q H2 sm
    rw[hF] at q'
    rw[xu]
    exact q'
  | @all a b us ts ha hb _ lu rl =>
   refine⟨_,rfl,a,_,_,_,rfl,rfl,SqT.of ha,au (k:=0) rfl,rfl,_,rfl,bJ (aB (by decide)) ?_⟩
   refine⟨_,rfl,a,_,_,_,rfl,rfl,SqT.of ha,au (k:=0) rfl,rfl,_,rfl,bJ (aB (by decide)) ?_⟩
   refine⟨_,rfl,a,_,_,_,rfl,rfl,SqT.of ha,au (k:=0) rfl,rfl,_,rfl,bJ (aB (by decide)) ?_⟩
   refine⟨_,rfl,a,_,_,_,rfl,rfl,SqT.of ha,au (k:=0) rfl,rfl,_,rfl,jT rfl ?_⟩
   refine⟨_,rfl,a,_,_,_,rfl,rfl,SqT.of ha,au (k:=1) rfl,b,rfl,⟨_,SqT.of hb⟩,fun D hD=>parts D hD b us ts _ _ lu hb rl (by rw[Tm.dep] at hd; lia) (fun x t σ' H2 R rt sm dt eσ hR=>?_) fun H2 sm hDl=>?_⟩
   ·subst eσ
    exact⟨_,rfl,_,rfl,x,g,n,t,ns,rfl,rt,dt,gk sm hg,hn,hR⟩
   ·refine⟨D,_,rfl,SqL.of hDl,?_⟩
    rw[CV]
    have q':=q H2 sm
    rw[hF] at q'
    exact q'
  | @any a b us ts ha hb _ lu rl =>
   refine⟨_,rfl,a,_,_,_,rfl,rfl,SqT.of ha,au (k:=0) rfl,rfl,_,rfl,bJ (aB (by decide)) ?_⟩
   refine⟨_,rfl,a,_,_,_,rfl,rfl,SqT.of ha,au (k:=0) rfl,rfl,_,rfl,bJ (aB (by decide)) ?_⟩
   refine⟨_,rfl,a,_,_,_,rfl,rfl,SqT.of ha,au (k:=0) rfl,rfl,_,rfl,bJ (aB (by decide)) ?_⟩
   refine⟨_,rfl,a,_,_,_,rfl,rfl,SqT.of ha,au (k:=0) rfl,rfl,_,rfl,bJ (aB (by decide)) ?_⟩
   refine⟨_,rfl,a,_,_,_,rfl,rfl,SqT.of ha,au (k:=0) rfl,rfl,_,rfl,bJ (aB (by decide)) ?_⟩
   refine⟨_,rfl,a,_,_,_,rfl,rfl,SqT.of ha,au (k:=0) rfl,rfl,_,rfl,jT rfl ?_⟩
   refine⟨_,rfl,a,_,_,_,rfl,rfl,SqT.of ha,au (k:=1) rfl,b,rfl,⟨_,SqT.of hb⟩,fun D hD=>parts D hD b us ts _ _ lu hb rl (by rw[Tm.dep] at hd; lia) (fun x t σ' H2 R rt sm dt eσ hR=>?_) fun H2 sm hDl=>?_⟩
   ·subst eσ
    exact⟨_,rfl,_,rfl,x,g,n,t,ns,rfl,rt,dt,gk sm hg,hn,hR⟩
   ·refine⟨D,_,rfl,SqL.of hDl,?_⟩
    rw[zx]
    have q':=q H2 sm
    rw[hF] at q'
    exact q'
abbrev j7:Stmt:=top 58
theorem dY:aM ["_law_pledge","_law_giving","_law_found","_law_step","_law_term_here"] ["_law_pledge","_law_giving"] (aA j7):=⟨rfl,rfl,rfl,by decide+kernel,rfl,by decide+kernel,by decide+kernel⟩
theorem uO {k:Nat} (F:Fun K "_law_owes" "_law_owes" j7 f fd) (B:Bt mg)
  (D_law_holds:Df P w K mg base "_law_holds" k ["_law_term_here","_law_giving"] (dj K 4)):bK P w K mg base CX0 (k+1) f fd ["_law_pledge","_law_giving"] (xX K):=by
 refine F.ok dY (fun vs H Q E h=>?_) (fun cdv A outer s H vs Q E hr h=>?_)
 ·obtain⟨a,g,n,p,ns,rfl,_⟩:=h
  rfl
 ·obtain⟨a,g,n,p,ns,rfl,⟨ok,vs,ha,rp⟩,hg,hn,q⟩:=h
  refine⟨_,(aj (bh (i:=2) dY.nd rfl (Pr rfl) az)
 (aj (cZ Qy rfl (c7 (pv 0)) (d8 (K:=K) 2 rfl rfl (aZ (aP (i:=3) dY.nd rfl (Pr rfl)) (aZ (aP (i:=4) dY.nd rfl (Pr rfl)) d7))) (aq (aY (cI (bC D_law_holds hr (aa (pv 4) (aa (pv 1) ak)))) (aq (bh (i:=2) dY.nd rfl (Pr rfl) (pv 3))) aH)))
 (aq (aJ (pv 2))))),?_⟩
  have el:=rp.length
  refine⟨_,rfl,a,rfl,⟨_,SqT.of ha⟩,dH (K:=K) (a:=a) (xs:=vs) (fun i σ H2=>(∃ u v,σ=[some (.ref a),some (.ref g),some (.int (owF ns (p.take i))),u,v])/\aV H H2)
   ⟨⟨_,_,rfl⟩,aV.refl H⟩ (fun i σ H2 _ h=>SqT.of (h.2 _ _ ha)) ?_ ?_⟩
  ·rintro i x σ H2 hx ⟨⟨u,v,rfl⟩,sm⟩
   obtain⟨r,k0,y,t,rfl,hr0,rt,hp⟩:=rp.get hx
   have hm:=Qe hp
   have ow:=v9 (g:=ns) hp
   refine⟨r,_,rfl,SqT.of (sm _ _ hr0),rfl,_,_,rfl,_,_,rfl,rfl,?_⟩
   refine⟨_,rfl,_,rfl,y,g,n,t,ns,rfl,rt.mono sm,(ok.2.2.2 _ hm).2.2,gk sm hg,hn,fun H3 s3=>⟨_,rfl,?_⟩⟩
   cases e:hF ns t with
   | true =>
    rw[if_pos e] at ow
    refine cH ⟨_,rfl,⟨some (.int k0),some y,?_⟩,sm.trans s3⟩
    rw[ow]
    rfl
   | false =>
    rw[if_neg (by rw[e]; exact O2)] at ow
    refine bG ⟨⟨some (.int k0),some y,?_⟩,sm.trans s3⟩
    rw[ow]
    rfl
  ·rintro σ H2 ⟨⟨u,v,rfl⟩,sm⟩
   have q':=q H2 sm
   refine⟨_,rfl,?_⟩
   rw[el,Pq]
   exact q'
abbrev kj:Stmt:=top 59
theorem uW:aM ["_law_some","_law_giving"] ["_law_some","_law_giving"] (aA kj):=⟨rfl,rfl,rfl,by decide+kernel,rfl,by decide+kernel,by decide+kernel⟩
inductive CK (K:Py) (vs:List V) (H:Hp) (Q:VK):Prop where
 | mk (c g:Addr) (n:Nat) (as:List Addr) (ps:List Pl) (ns:List Int) (z0:vs=[.ref c,.ref g]) (z1:H c=some (.lst (as.map V.ref))) (z2:as.length<=100) (z3:fD n H as ps) (z4:SqT K H g (ns.map V.int)) (z5:n<=ns.length) (z6:∀ H',aV H H'->Q (.int (duF ns 0 ps)) H'):CK K vs H Q
def FW (K:Py):Sp:=fun vs H Q _=>CK K vs H Q
theorem u0 {k:Nat} (F:Fun K "_law_owed" "_law_owed" kj f fd) (B:Bt mg)
  (D_law_owes:Df P w K mg base "_law_owes" k ["_law_pledge","_law_giving"] (xX K)):bK P w K mg base CX0 (k+1) f fd ["_law_some","_law_giving"] (FW K):=by
 refine F.ok uW (fun vs H Q E h=>?_) (fun cdv A outer s H vs Q E hr h=>?_)
 ·obtain⟨c,g,n,as,ps,ns,rfl,_⟩:=h
  rfl
 ·obtain⟨c,g,n,as,ps,ns,rfl,hc,l100,rps,hg,hn,q⟩:=h
  refine⟨_,(aq (aJ (aC (r:=Hc K) (rJ rfl) rfl B.max_ tL (aa (bW sH (cJ (aa az ak)) (di (L:=["_law_pledge"]) (F:=["_law_giving"]) (cap:=[1]) rfl (cG rfl rfl (by kernel_rfl)) (dh (pv 0)) (fun _ _ _ _ _=>(aP (i:=0) (cg (by decide+kernel)) rfl (Pr rfl))) (fun _ _ _ _ _=>fc) (fun _ _ _ _ _=>(bC D_law_owes hr (aa (pv 0) (aa (pv 1) ak)))))) ak)))),?_⟩
  have ell:=rps.length
  refine⟨small (by show 1<=1000; decide),fun p4 h4=>?_⟩
  generalize eH4:upd H p4 _=H4
  obtain⟨g4,e4⟩:=aW eH4 h4
  refine⟨_,rfl,c,rfl,⟨_,SqL.of (g4 _ _ hc)⟩,fun D2 hD2=>mQ (K:=K) (a:=c) (xs:=as.map V.ref) (fun j ws σ' H5=>(∃ u,σ'=[u,some (.ref g)])/\ws=((ps.take j).map (owF ns)).map V.int/\aV H4 H5/\H5 D2=some (.lst ws))
   ⟨⟨_,rfl⟩,rfl,aD hD2 _,ao⟩ (fun j ws σ' H5 _ h=>⟨SqL.of (h.2.2.1 _ _ (g4 _ _ hc)),h.2.2.2⟩) ?_ ?_⟩
  ·rintro j ws x σ' H5 hx ⟨⟨u,rfl⟩,e5,s5,hD5⟩
   obtain⟨a,ha,rfl⟩:=Km hx
   obtain⟨pl,hpl,rpl⟩:=rps.get ha
   refine gT ?_
   refine⟨_,rfl,_,rfl,a,g,n,pl,ns,rfl,rpl.mono (g4.trans s5),gk (g4.trans s5) hg,hn,fun H6 s6=>?_⟩
   refine⟨s6 _ _ hD5,?_,⟨_,rfl⟩,?_,bu (s5.trans s6) hD2 _,ao⟩
   ·rw[e5,Ow,Ow,Qf]
    exact bj (by lia)
   ·rw[e5,take_snoc (owF ns) hpl,O7]
    rfl
  ·rintro ws σ' H5 ⟨_,e5,s5,hD5⟩
   rw[Ow,ell,Pq] at e5
   subst e5
   refine⟨p4,D2,_,_,rfl,rfl,s5 _ _ e4,hD5,small ?_,fun p6 h6=>?_⟩
   ·rw[Ow,Ow]
    show 1+ps.length<=1000
    lia
   generalize eH6:upd H5 p6 _=H6
   obtain⟨g6,e6⟩:=aW eH6 h6
   refine⟨p6,0::ps.map (owF ns),rfl,SqL.of e6,by simp,?_⟩
   exact q H6 (g4.trans (s5.trans g6))
abbrev iW:Stmt:=top 56
theorem dD:aM ["_law_term_here","_law_found","_law_parts","_law_one"] ["_law_term_here"] (aA iW):=⟨rfl,rfl,rfl,by decide+kernel,rfl,by decide+kernel,by decide+kernel⟩
theorem eV {d:Nat} (F:Fun K "_law_named" "_law_named" iW f fd) (B:Bt mg)
  (D_law_named:Df P w K mg base "_law_named" d ["_law_term_here"] (gR d)):bK P w K mg base CX0 (d+1) f fd ["_law_term_here"] (gR (d+1)):=by
 refine F.ok dD (fun vs H Q E h=>?_) (fun cdv A outer s H vs Q E hr h=>?_)
 ·obtain⟨v,n,t,rfl,_⟩:=h
  rfl
 ·obtain⟨v,n,t,rfl,rt,hd,h4,hn,q⟩:=h
  refine⟨_,(aj (aY (aG bD (aQ (r:=bI K) aK (pv 0) az (fun _ _=>rfl)) aO (aL _)) (aq (aJ (cJ (aa (aQ (r:=bI K) aK (pv 0) az (fun _ _=>rfl)) ak)))) aH)
 (aj (aY (aG (r:=rIn K false) fP (aQ (r:=bI K) aK (pv 0) az (fun _ _=>rfl)) (bM (aa aO (aa aO ak))) rfl) (aq (aJ (cu (r:=ji K) dU rfl B.list_ iz (aa (aQ (r:=bI K) aK (pv 0) az (fun _ _=>rfl)) ak)))) aH)
 (aj (bh (i:=1) dD.nd rfl (Pr rfl) (cJ ak))
 (aj (cZ Qy rfl (c7 (xg (r:=Nv K) JW (pv 0) (BJ az) Ai)) (aP (i:=2) dD.nd rfl (Pr rfl)) (aq (cZ Qy rfl (c7 (pv 2)) (aP (i:=3) dD.nd rfl (Pr rfl)) (aq (bh (i:=1) dD.nd rfl (Pr rfl) (bW sH (pv 1) (bC D_law_named hr (aa (pv 3) ak))))))))
 (aq (aJ (pv 1))))))),?_⟩
  have small':=mz hn h4 rt hd
  cases rt with
  | @free a ha =>
   refine⟨_,rfl,a,_,_,_,rfl,rfl,SqT.of ha,au (k:=0) rfl,rfl,_,rfl,bJ (aB (by decide)) ?_⟩
   refine⟨_,rfl,a,_,_,_,rfl,rfl,SqT.of ha,au (k:=0) rfl,small (by show 2<=1000; decide),fun p1 h1=>⟨p1,_,rfl,.inr (SqT.of ao),rfl,rfl,_,rfl,ug (by decide+kernel) ?_⟩⟩
   generalize eH1:upd H p1 _=H1
   obtain⟨g1,_⟩:=aW eH1 h1
   refine⟨small (by show 0<=1000; decide),fun r h0=>?_⟩
   generalize eH2:upd H1 r _=H2
   obtain⟨g2,e2⟩:=aW eH2 h0
   refine⟨_,rfl,_,rfl,a,_,rfl,SqT.of (g2 _ _ (g1 _ _ ha)),(by show ¬ (HT.sIx 1 0 (some 1)=0/\HT.sIx 1 1 none=1); decide),fun p3 h3=>?_⟩
   have ec:zf [V.str "free"] (some 1) none=[]:=rfl
   rw[ec]
   generalize eH3:upd H2 p3 _=H3
   obtain⟨g3,e3⟩:=aW eH3 h3
   refine⟨p3,rfl,⟨_,SqT.of e3⟩,dH (K:=K) (a:=p3) (xs:=[]) (fun _ σ H4=>σ=[some (.ref a),some (.ref r),none,none]/\H3=H4) ⟨rfl,rfl⟩ (fun i σ H4 _ h=>by obtain⟨_,rfl⟩:=h; exact SqT.of e3) (fun i x σ H4 hx=>by simp at hx) ?_⟩
   rintro σ H4 ⟨rfl,rfl⟩
   exact⟨_,rfl,q r H3 (g1.trans (g2.trans g3)) (g1.free h0) (by rw[g3 _ _ e2,mnF]; rfl)⟩
  | @never a ha =>
   refine⟨_,rfl,a,_,_,_,rfl,rfl,SqT.of ha,au (k:=0) rfl,rfl,_,rfl,bJ (aB (by decide)) ?_⟩
   refine⟨_,rfl,a,_,_,_,rfl,rfl,SqT.of ha,au (k:=0) rfl,small (by show 2<=1000; decide),fun p1 h1=>⟨p1,_,rfl,.inr (SqT.of ao),rfl,rfl,_,rfl,ug (by decide+kernel) ?_⟩⟩
   generalize eH1:upd H p1 _=H1
   obtain⟨g1,_⟩:=aW eH1 h1
   refine⟨small (by show 0<=1000; decide),fun r h0=>?_⟩
   generalize eH2:upd H1 r _=H2
   obtain⟨g2,e2⟩:=aW eH2 h0
   refine⟨_,rfl,_,rfl,a,_,rfl,SqT.of (g2 _ _ (g1 _ _ ha)),(by show ¬ (HT.sIx 1 0 (some 1)=0/\HT.sIx 1 1 none=1); decide),fun p3 h3=>?_⟩
   have ec:zf [V.str "never"] (some 1) none=[]:=rfl
   rw[ec]
   generalize eH3:upd H2 p3 _=H3
   obtain⟨g3,e3⟩:=aW eH3 h3
   refine⟨p3,rfl,⟨_,SqT.of e3⟩,dH (K:=K) (a:=p3) (xs:=[]) (fun _ σ H4=>σ=[some (.ref a),some (.ref r),none,none]/\H3=H4) ⟨rfl,rfl⟩ (fun i σ H4 _ h=>by obtain⟨_,rfl⟩:=h; exact SqT.of e3) (fun i x σ H4 hx=>by simp at hx) ?_⟩
   rintro σ H4 ⟨rfl,rfl⟩
   exact⟨_,rfl,q r H3 (g1.trans (g2.trans g3)) (g1.free h0) (by rw[g3 _ _ e2,mnF]; rfl)⟩
  | @gives a i k ha hi k1 k9 =>
   refine⟨_,rfl,a,_,_,_,rfl,rfl,SqT.of ha,au (k:=0) rfl,rfl,_,rfl,jT rfl ?_⟩
   exact⟨_,rfl,a,_,_,_,rfl,rfl,SqT.of ha,au (k:=1) rfl,small (by show 1<=1000; decide),fun r h0=>q r _ (aD h0 _) h0 (by rw[ao,mnF]; rfl)⟩
  | @sum a b c k ha hb hc hp l20 l2 k1 k99 =>
   refine⟨_,rfl,a,_,_,_,rfl,rfl,SqT.of ha,au (k:=0) rfl,rfl,_,rfl,bJ (aB (by decide)) ?_⟩
   refine⟨_,rfl,a,_,_,_,rfl,rfl,SqT.of ha,au (k:=0) rfl,small (by show 2<=1000; decide),fun p1 h1=>⟨p1,_,rfl,.inr (SqT.of ao),rfl,rfl,_,rfl,Kv (by decide+kernel) ?_⟩⟩
   generalize eH1:upd H p1 _=H1
   obtain⟨g1,_⟩:=aW eH1 h1
   exact⟨_,rfl,a,_,_,_,rfl,rfl,SqT.of (g1 _ _ ha),au (k:=1) rfl,b,_,rfl,.inr (SqT.of (g1 _ _ hb)),fun r h0=>q r _ (g1.trans (aD h0 _)) (g1.free h0) (by rw[ao,mnF])⟩
  | @crowd a b c k mm ha hb hc hp l20 l1 k1 k9 m1 m12 =>
   refine⟨_,rfl,a,_,_,_,rfl,rfl,SqT.of ha,au (k:=0) rfl,rfl,_,rfl,bJ (aB (by decide)) ?_⟩
   refine⟨_,rfl,a,_,_,_,rfl,rfl,SqT.of ha,au (k:=0) rfl,small (by show 2<=1000; decide),fun p1 h1=>⟨p1,_,rfl,.inr (SqT.of ao),rfl,rfl,_,rfl,Kv (by decide+kernel) ?_⟩⟩
   generalize eH1:upd H p1 _=H1
   obtain⟨g1,_⟩:=aW eH1 h1
   exact⟨_,rfl,a,_,_,_,rfl,rfl,SqT.of (g1 _ _ ha),au (k:=1) rfl,b,_,rfl,.inr (SqT.of (g1 _ _ hb)),fun r h0=>q r _ (g1.trans (aD h0 _)) (g1.free h0) (by rw[ao,mnF])⟩
  | @all a b us ts ha hb l2 l6 rl =>
   have hdl:tdL ts<=d:=by rw[Tm.dep] at hd; lia
   rw[mnF] at small'
   have el:=rl.length
   refine⟨_,rfl,a,_,_,_,rfl,rfl,SqT.of ha,au (k:=0) rfl,rfl,_,rfl,bJ (aB (by decide)) ?_⟩
   refine⟨_,rfl,a,_,_,_,rfl,rfl,SqT.of ha,au (k:=0) rfl,small (by show 2<=1000; decide),fun p1 h1=>⟨p1,_,rfl,.inr (SqT.of ao),rfl,rfl,_,rfl,ug (by decide+kernel) ?_⟩⟩
   generalize eH1:upd H p1 _=H1
   obtain⟨g1,_⟩:=aW eH1 h1
   refine⟨small (by show 0<=1000; decide),fun r h0=>?_⟩
   generalize eH2:upd H1 r _=H2
   obtain⟨g2,e2⟩:=aW eH2 h0
   refine⟨_,rfl,_,rfl,a,_,rfl,SqT.of (g2 _ _ (g1 _ _ ha)),(by show ¬ (HT.sIx 2 0 (some 1)=0/\HT.sIx 2 2 none=2); decide),fun p3 h3=>?_⟩
   have ec:zf [V.str "all",.ref b] (some 1) none=[.ref b]:=rfl
   rw[ec]
   generalize eH3:upd H2 p3 _=H3
   obtain⟨g3,e3⟩:=aW eH3 h3
   have s3:aV H H3:=g1.trans (g2.trans g3)
   refine⟨p3,rfl,⟨_,SqT.of e3⟩,dH (K:=K) (a:=p3) (xs:=[.ref b]) (fun i σ H4=>∃ (l:Addr) (u v:Option V),σ=[some (.ref a),some (.ref l),u,v]/\aV H3 H4/\H l=none/\H4 l=some (.lst ((if i=0 then [] else mnL ts).map vN))) ⟨r,_,_,rfl,aV.refl _,g1.free h0,g3 _ _ e2⟩ (fun i σ H4 _ h=>by obtain⟨_,_,_,_,z,_⟩:=h; exact SqT.of (z _ _ e3)) ?_ ?_⟩
   ·rintro i x σ H4 hx ⟨l,u,v,rfl,s4,fl,el4⟩
    have hi0:i=0:=by
     have:=(List.getElem?_eq_some_iff.mp hx).1
     simpa using this
    subst hi0
    cases hx
    rw[if_pos rfl] at el4
    have s04:aV H H4:=s3.trans s4
    refine⟨_,rfl,b,rfl,⟨_,SqT.of (s04 _ _ hb)⟩,dH (K:=K) (a:=b) (xs:=us) (fun j σ H5=>∃ (l:Addr) (u:Option V),σ=[some (.ref a),some (.ref l),some (.ref b),u]/\aV H4 H5/\H l=none/\H5 l=some (.lst ((mnL (ts.take j)).map vN))) ⟨l,_,rfl,aV.refl _,fl,by rw[Qj,mnL]; exact el4⟩ (fun j σ H5 _ h=>by obtain⟨_,_,_,z,_⟩:=h; exact SqT.of (z _ _ (s04 _ _ hb))) ?_ ?_⟩
    ·rintro j y σ H5 hy ⟨l',u',rfl,s5,fl',el5⟩
     obtain⟨t',ht,rt'⟩:=rl.get hy
     have s05:aV H H5:=s04.trans s5
     refine⟨_,rfl,_,rfl,y,n,t',rfl,rt'.mono s05,PX (ik ht) hdl,by lia,hn,fun r' H6 s6 fr er=>?_⟩
     have hlen:(mnL (ts.take j)).length+(mnF t').length<=2592:=by
      have h1:=zO (ts:=ts) (j+1)
      rw[iD ht,Qa] at h1
      lia
     refine⟨l',r',_,_,rfl,rfl,s6 _ _ el5,er,by rw[Ow,Ow]; exact PX hlen (by decide),fun p h=>?_⟩
     have sn:=aD h (.lst ((mnL (ts.take j)).map vN++(mnF t').map vN))
     exact⟨p,_,rfl,s5.trans (s6.trans sn),(s05.trans s6).free h,by rw[ao,iD ht,O7]⟩
    ·rintro σ H5 ⟨l',u',rfl,s5,fl',el5⟩
     rw[el,Pq] at el5
     exact⟨l',_,_,rfl,s4.trans s5,fl',by rw[if_neg (by decide)]; exact el5⟩
   ·rintro σ H4 ⟨l,u,v,rfl,s4,fl,el4⟩
    exact⟨_,rfl,q l H4 (s3.trans s4) fl (by rw[el4,mnF]; rfl)⟩
  | @any a b us ts ha hb l2 l6 rl =>
   have hdl:tdL ts<=d:=by rw[Tm.dep] at hd; lia
   rw[mnF] at small'
   have el:=rl.length
   refine⟨_,rfl,a,_,_,_,rfl,rfl,SqT.of ha,au (k:=0) rfl,rfl,_,rfl,bJ (aB (by decide)) ?_⟩
   refine⟨_,rfl,a,_,_,_,rfl,rfl,SqT.of ha,au (k:=0) rfl,small (by show 2<=1000; decide),fun p1 h1=>⟨p1,_,rfl,.inr (SqT.of ao),rfl,rfl,_,rfl,ug (by decide+kernel) ?_⟩⟩
   generalize eH1:upd H p1 _=H1
   obtain⟨g1,_⟩:=aW eH1 h1
   refine⟨small (by show 0<=1000; decide),fun r h0=>?_⟩
   generalize eH2:upd H1 r _=H2
   obtain⟨g2,e2⟩:=aW eH2 h0
   refine⟨_,rfl,_,rfl,a,_,rfl,SqT.of (g2 _ _ (g1 _ _ ha)),(by show ¬ (HT.sIx 2 0 (some 1)=0/\HT.sIx 2 2 none=2); decide),fun p3 h3=>?_⟩
   have ec:zf [V.str "any",.ref b] (some 1) none=[.ref b]:=rfl
   rw[ec]
   generalize eH3:upd H2 p3 _=H3
   obtain⟨g3,e3⟩:=aW eH3 h3
   have s3:aV H H3:=g1.trans (g2.trans g3)
   refine⟨p3,rfl,⟨_,SqT.of e3⟩,dH (K:=K) (a:=p3) (xs:=[.ref b]) (fun i σ H4=>∃ (l:Addr) (u v:Option V),σ=[some (.ref a),some (.ref l),u,v]/\aV H3 H4/\H l=none/\H4 l=some (.lst ((if i=0 then [] else mnL ts).map vN))) ⟨r,_,_,rfl,aV.refl _,g1.free h0,g3 _ _ e2⟩ (fun i σ H4 _ h=>by obtain⟨_,_,_,_,z,_⟩:=h; exact SqT.of (z _ _ e3)) ?_ ?_⟩
   ·rintro i x σ H4 hx ⟨l,u,v,rfl,s4,fl,el4⟩
    have hi0:i=0:=by
     have:=(List.getElem?_eq_some_iff.mp hx).1
     simpa using this
    subst hi0
    cases hx
    rw[if_pos rfl] at el4
    have s04:aV H H4:=s3.trans s4
    refine⟨_,rfl,b,rfl,⟨_,SqT.of (s04 _ _ hb)⟩,dH (K:=K) (a:=b) (xs:=us) (fun j σ H5=>∃ (l:Addr) (u:Option V),σ=[some (.ref a),some (.ref l),some (.ref b),u]/\aV H4 H5/\H l=none/\H5 l=some (.lst ((mnL (ts.take j)).map vN))) ⟨l,_,rfl,aV.refl _,fl,by rw[Qj,mnL]; exact el4⟩ (fun j σ H5 _ h=>by obtain⟨_,_,_,z,_⟩:=h; exact SqT.of (z _ _ (s04 _ _ hb))) ?_ ?_⟩
    ·rintro j y σ H5 hy ⟨l',u',rfl,s5,fl',el5⟩
     obtain⟨t',ht,rt'⟩:=rl.get hy
     have s05:aV H H5:=s04.trans s5
     refine⟨_,rfl,_,rfl,y,n,t',rfl,rt'.mono s05,PX (ik ht) hdl,by lia,hn,fun r' H6 s6 fr er=>?_⟩
     have hlen:(mnL (ts.take j)).length+(mnF t').length<=2592:=by
      have h1:=zO (ts:=ts) (j+1)
      rw[iD ht,Qa] at h1
      lia
     refine⟨l',r',_,_,rfl,rfl,s6 _ _ el5,er,by rw[Ow,Ow]; exact PX hlen (by decide),fun p h=>?_⟩
     have sn:=aD h (.lst ((mnL (ts.take j)).map vN++(mnF t').map vN))
     exact⟨p,_,rfl,s5.trans (s6.trans sn),(s05.trans s6).free h,by rw[ao,iD ht,O7]⟩
    ·rintro σ H5 ⟨l',u',rfl,s5,fl',el5⟩
     rw[el,Pq] at el5
     exact⟨l',_,_,rfl,s4.trans s5,fl',by rw[if_neg (by decide)]; exact el5⟩
   ·rintro σ H4 ⟨l,u,v,rfl,s4,fl,el4⟩
    exact⟨_,rfl,q l H4 (s3.trans s4) fl (by rw[el4,mnF]; rfl)⟩
abbrev Ent:=Nat × Nat × Pl
inductive cA (n:Nat) (H:Hp):List V->List Ent->Prop where
 | nil:cA n H [] []
 | cons {e p:Addr} {num one:Nat} {pl:Pl} {us:List V} {es:List Ent}:H e=some (.tup [vN num,vN one,.ref p])->lB n H p pl->cA n H us es->cA n H (.ref e::us) ((num,one,pl)::es)
theorem cA.bc {n:Nat} {H H':Hp} (e:∀ a xs,H a=some (HO.tup xs)->H' a=some (HO.tup xs)):∀ {us:List V} {es:List Ent},cA n H us es->cA n H' us es
 | _,_,.nil=>.nil
 | _,_,.cons h p r=>.cons (e _ _ h) (p.bc e) (cA.bc e r)
theorem cA.length {n:Nat} {H:Hp}:∀ {us:List V} {es:List Ent},cA n H us es->us.length=es.length
 | _,_,.nil=>rfl
 | _,_,.cons _ _ r=>by rw[PK,PK,cA.length r]
theorem cA.get {n:Nat} {H:Hp}:∀ {us:List V} {es:List Ent} {i:Nat} {u:V},cA n H us es->us[i]? = some u->∃ (e p:Addr) (num one:Nat) (pl:Pl),u = .ref e/\es[i]? = some (num,one,pl)/\H e=some (.tup [vN num,vN one,.ref p])/\lB n H p pl
 | _,_,_,_,.nil,h=>by simp at h
 | _,_,0,_,.cons h p _,e=>by
  cases (show some _=some _ from e)
  exact⟨_,_,_,_,_,rfl,rfl,h,p⟩
 | _,_,i+1,_,.cons _ _ r,e=>by
  obtain⟨a,p,x,y,z,h1,h2,h3⟩:=cA.get (i:=i) r (by simpa using e)
  exact⟨a,p,x,y,z,h1,by simpa using h2,h3⟩
theorem cA.snoc {n:Nat} {H:Hp} {e p:Addr} {num one:Nat} {pl:Pl} (h:H e=some (.tup [vN num,vN one,.ref p])) (hp:lB n H p pl):∀ {us:List V} {es:List Ent},cA n H us es->cA n H (us++[.ref e]) (es++[(num,one,pl)])
 | _,_,.nil=>.cons h hp .nil
 | _,_,.cons a b r=>.cons a b (cA.snoc h hp r)
def Ks (CS:Addr) (H H':Hp):Prop:=(∀ a xs,H a=some (HO.tup xs)->H' a=some (HO.tup xs))/\∀ a dx fs,H a=some (HO.ins CS dx fs)->H' a=some (HO.ins CS dx fs)
theorem ksS {CS:Addr} {H H':Hp} (s:aV H H'):Ks CS H H':=⟨fun a xs h=>s a _ h,fun a dx fs h=>s a _ h⟩
def stF (ga goa sa:Addr) (co:Nat):List (Px × V):=[("green",.ref ga),("gone",.ref goa),("standing",.ref sa),("coming",vN co)]
def iy (CS:Addr) (n:Nat) (H:Hp) (a:Addr) (g:List Int) (go:List Nat) (es:List Ent) (co:Nat):Prop :=
 ∃ (dx ga goa sa:Addr) (us:List V),H a=some (.ins CS dx (stF ga goa sa co))/\H ga=some (.tup (g.map V.int))/\H goa=some (.tup (go.map vN))/\H sa=some (.tup us)/\cA n H us es
theorem iy.ks {CS:Addr} {n:Nat} {H H':Hp} {a:Addr} {g:List Int} {go:List Nat} {es:List Ent} {co:Nat} (k:Ks CS H H') (h:iy CS n H a g go es co):iy CS n H' a g go es co:=by
 obtain⟨dx,ga,goa,sa,us,h1,h2,h3,h4,h5⟩:=h
 exact⟨dx,ga,goa,sa,us,k.2 _ _ _ h1,k.1 _ _ h2,k.1 _ _ h3,k.1 _ _ h4,h5.bc k.1⟩
def bnF (nw be ah:Addr):List (Px × V):=[("now",.ref nw),("behind",.ref be),("ahead",.ref ah)]
def ql (CS CB:Addr) (n:Nat) (H:Hp) (b be:Addr) (d:Nat) (g:List Int) (go:List Nat) (es:List Ent) (co:Nat):Prop :=
 ∃ (dx nw ah:Addr) (xs:List V),H b=some (.ins CB dx (bnF nw be ah))/\H be=some (.lst xs)/\xs.length=d/\iy CS n H nw g go es co
def But (b be:Addr) (H H':Hp):Prop:=∀ a o,a≠b->a≠be->H a=some o->H' a=some o
theorem But.ks {CS CB b be dx:Addr} {fs:List (Px × V)} {xs:List V} {H H':Hp} (h:But b be H H') (ne:CB≠CS) (hb:H b=some (.ins CB dx fs)) (hl:H be=some (.lst xs)):Ks CS H H':=by
 refine⟨fun a ys q=>h a _ (fun z=>?_) (fun z=>?_) q,fun a dx' fs' q=>h a _ (fun z=>?_) (fun z=>?_) q⟩
 ·rw[z,hb] at q; cases q
 ·rw[z,hl] at q; cases q
 ·rw[z,hb] at q
  injection q with q
  injection q with q1
  exact ne q1
 ·rw[z,hl] at q; cases q
theorem LR {b be:Addr} {H H':Hp} (s:aV H H'):But b be H H':=fun a o _ _ q=>s a o q
theorem But.trans {b be:Addr} {H H1 H2:Hp} (h:But b be H H1) (k:But b be H1 H2):But b be H H2:=fun a o x y q=>k a o x y (h a o x y q)
theorem ql.same {CS CB:Addr} {n:Nat} {H H':Hp} {b be:Addr} {d:Nat} {g:List Int} {go:List Nat} {es:List Ent} {co:Nat} (s:aV H H') (h:ql CS CB n H b be d g go es co):ql CS CB n H' b be d g go es co:=by
 obtain⟨dx,nw,ah,xs,h1,h2,h3,h4⟩:=h
 exact⟨dx,nw,ah,xs,s _ _ h1,s _ _ h2,h3,h4.ks (ksS s)⟩
structure yp (K:Py) (CS:Addr):Prop where
 cl:Cls K CS
 green:fM K CS "green"
 gone:fM K CS "gone"
 standing:fM K CS "standing"
 coming:fM K CS "coming"
structure zc (K:Py) (CB:Addr):Prop where
 cl:Cls K CB
 now:fM K CB "now"
 behind:fM K CB "behind"
 ahead:fM K CB "ahead"
abbrev ir:Stmt:=inClass (top 37) 0
theorem jW:aM ["self","green","gone","standing","coming"] ["self","green","gone","standing","coming"] (aA ir):=⟨rfl,rfl,rfl,by decide+kernel,rfl,by decide+kernel,by decide+kernel⟩
inductive tM (CS:Addr) (vs:List V) (H:Hp) (Q:VK):Prop where
 | mk (x dx:Addr) (g go sd co:V) (z0:vs=[.ref x,g,go,sd,co]) (z1:H x=some (.ins CS dx [])) (z2:Q .non (upd H x (.ins CS dx [("green",g),("gone",go),("standing",sd),("coming",co)]))):tM CS vs H Q
def gA (CS:Addr):Sp:=fun vs H Q _=>tM CS vs H Q
theorem pN {CS:Addr} (F:Fun K "__init__" "Stand.__init__" ir f fd) (S:yp K CS):bK P w K mg base CX0 1 f fd ["self","green","gone","standing","coming"] (gA CS):=by
 refine F.ok jW (fun vs H Q E h=>?_) (fun cdv A outer s H vs Q E hr h=>?_)
 ·obtain⟨x,dx,g,go,sd,co,rfl,_⟩:=h
  rfl
 ·obtain⟨x,dx,g,go,sd,co,rfl,hx,q⟩:=h
  refine⟨_,(aj (jE (pv 0) (pv 1) rfl)
 (aj (jE (pv 0) (pv 2) rfl)
 (aj (jE (pv 0) (pv 3) rfl)
 (aq (jE (pv 0) (pv 4) rfl))))),?_⟩
  refine⟨_,rfl,_,rfl,x,CS,dx,_,rfl,hx,S.cl,S.green,by show 0 < 1000; decide,?_⟩
  refine⟨_,rfl,_,rfl,x,CS,dx,_,rfl,ao,S.cl,S.gone,by show 1 < 1000; decide,?_⟩
  refine⟨_,rfl,_,rfl,x,CS,dx,_,rfl,ao,S.cl,S.standing,by show 2 < 1000; decide,?_⟩
  refine⟨_,rfl,_,rfl,x,CS,dx,_,rfl,ao,S.cl,S.coming,by show 3 < 1000; decide,?_⟩
  rw[qj,qj,qj]
  exact q
abbrev jz:Stmt:=inClass (top 44) 0
theorem lR:aM ["self"] ["self"] (aA jz):=⟨rfl,rfl,rfl,by decide+kernel,rfl,by decide+kernel,by decide+kernel⟩
abbrev gK:Stmt:=inClass (top 44) 1
theorem qW:aM ["self","stand"] ["self","stand"] (aA gK):=⟨rfl,rfl,rfl,by decide+kernel,rfl,by decide+kernel,by decide+kernel⟩
theorem JQ {K:Py} {H:Hp} {a b:Addr} {xs ys:List V} {Q:VK} (ha:H a=some (.tup xs)) (hb:H b=some (.tup ys)) (hl:xs.length+ys.length<=1000) (q:∀ (p:Addr) (H':Hp),aV H H'->H' p=some (.tup (xs++ys))->Q (.ref p) H'):nC K (.ref a) (.ref b) H Q:=by
 refine⟨a,b,xs,ys,rfl,rfl,SqT.of ha,SqT.of hb,small hl,fun e=>?_,fun _ e=>?_,fun _ _ p hp=>q p _ (aD hp _) ao⟩
 ·subst e
  exact q b H (aV.refl _) hb
 ·subst e
  exact q a H (aV.refl _) (by rw[Q8]; exact ha)
theorem jK {CS x dx:Addr} {H:Hp} {g go sd co:V} {Q:VK} {E:XK} (hx:H x=none) (hdx:H dx=none) (hne:dx≠x) (q:∀ H',aV H H'->H' x=some (.ins CS dx [("green",g),("gone",go),("standing",sd),("coming",co)])->Q .non H') :
  gA CS [.ref x,g,go,sd,co] (upd (upd H dx (.own x)) x (.ins CS dx [])) Q E:=by
 refine⟨x,dx,g,go,sd,co,rfl,ao,?_⟩
 rw[qj]
 exact q _ ((aD hdx _).trans (aD (by rw[aN hne.symm]; exact hx) _)) ao
abbrev iV:Stmt:=inClass (top 44) 2
theorem lF:aM ["self","now"] ["self"] (aA iV):=⟨rfl,rfl,rfl,by decide+kernel,rfl,by decide+kernel,by decide+kernel⟩
mutual
def nn (one:Nat):Tm->Bool
 | .free=>true
 | .never=>true
 | .gives i _=>decide (i≠one)
 | .sum c _=>decide (one ∉ c)
 | .crowd c _ _=>decide (one ∉ c)
 | .all ts=>nnL one ts
 | .any ts=>nnL one ts
def nnL (one:Nat):List Tm->Bool
 | []=>true
 | t::r=>nn one t && nnL one r
end
theorem iB (x:Nat):∀ c:List Nat,inV (.int (x:Int)) (c.map vN)=decide (x∈c)
 | []=>rfl
 | y::c=>by
  have ih:=iB x c
  unfold inV at ih ⊢
  rw[Qv,Sw,ih]
  by_cases e:x=y
  ·subst e
   rw[decide_eq_true Ph]
   simp [vN,eqV]
  ·have:eqV (vN y) (.int (x:Int))=false:=by
    simp [vN,eqV]
    lia
   rw[this,Wr]
   exact decide_eq_decide.mpr (by simp [e])
theorem gZ (c:List Nat):(c.map vN).all oF=true:=by
 rw[List.all_map,List.all_eq_true]
 intro x _
 rfl
mutual
theorem HW {one:Nat}:∀ t:Tm,nn one t=true->one ∉ mnF t
 | .free,_=>by simp [mnF]
 | .never,_=>by simp [mnF]
 | .gives i k,h=>by
  have:=of_decide_eq_true (show decide (i≠one)=true by simpa [nn] using h)
  simp only[mnF]
  exact fun z=>this (List.mem_singleton.mp z).symm
 | .sum c k,h=>by simpa [nn,mnF] using h
 | .crowd c k m,h=>by simpa [nn,mnF] using h
 | .all ts,h=>by
  simp only[mnF]
  exact Ba ts (by simpa [nn] using h)
 | .any ts,h=>by
  simp only[mnF]
  exact Ba ts (by simpa [nn] using h)
theorem Ba {one:Nat}:∀ ts:List Tm,nnL one ts=true->one ∉ mnL ts
 | [],_=>by simp [mnL]
 | t::r,h=>by
  have h':nn one t=true/\nnL one r=true:=by simpa [nnL] using h
  rw[mnL,T7]
  rintro (z | z)
  ·exact HW t h'.1 z
  ·exact Ba r h'.2 z
end
mutual
theorem Hl {n:Nat} {H:Hp}:∀ {v:V} {t:Tm},gH n H v t->∀ i∈mnF t,i < n
 | _,_,.free _,i,h=>by simp [mnF] at h
 | _,_,.never _,i,h=>by simp [mnF] at h
 | _,_,.gives _ a _ _,i,h=>by
  simp only[mnF] at h
  rw[List.mem_singleton.mp h]
  exact a
 | _,_,.sum _ _ a _ _ _ _ _,i,h=>by
  simp only[mnF] at h
  exact a i h
 | _,_,.crowd _ _ a _ _ _ _ _ _ _,i,h=>by
  simp only[mnF] at h
  exact a i h
 | _,_,.all _ _ _ _ r,i,h=>by
  simp only[mnF] at h
  exact Dr r i h
 | _,_,.any _ _ _ _ r,i,h=>by
  simp only[mnF] at h
  exact Dr r i h
theorem Dr {n:Nat} {H:Hp}:∀ {vs:List V} {ts:List Tm},cD n H vs ts->∀ i∈mnL ts,i < n
 | _,_,.nil,i,h=>by simp [mnL] at h
 | _,_,.cons t r,i,h=>by
  rw[mnL,T7] at h
  rcases h with z | z
  ·exact Hl t i z
  ·exact Dr r i z
end
theorem JM {n:Nat} {H:Hp}:∀ {us:List V} {p:Pl},dR n H us p->(∀ x∈p,x.2.dep<=4)->jg n H us (p.map fun x=>Rg.rung x.1 x.2)
 | _,_,.nil,_=>.nil
 | _,_,.cons h t r,d=>.cons (.rung h t (d _ Ph)) (JM r fun x hx=>d x (Pb _ hx))
theorem Gn {n who:Nat} {H:Hp}:∀ {us:List V} {p:Pl} {lo:Int},dR n H us p->(p.map (·.1)).Pairwise (· < ·)->(∀ x∈p,lo<=x.1/\x.1<=9)->(∀ x∈p,nn who x.2=true)->plF n who lo (p.map fun x=>Rg.rung x.1 x.2)=true
 | _,_,_,.nil,_,_,_=>rfl
 | _,_,lo,.cons (k:=k) (t:=t) (ps:=ps) h tr r,pw,hb,hn=>by
  rw[Qv,Rr] at pw
  show (rgF n who lo (.rung k t) && plF n who (k+1) (ps.map fun x=>Rg.rung x.1 x.2))=true
  have h1:=hb (k,t) Ph
  have h2:=HW t (hn (k,t) Ph)
  rw[QS]
  refine⟨?_,Gn r pw.2 (fun x hx=>⟨?_,(hb x (Pb _ hx)).2⟩) fun x hx=>hn x (Pb _ hx)⟩
  ·show ((decide (lo<=k) && decide (k<=9)) && (ltF n (mnF t) && !decide (who∈mnF t)))=true
   rw[decide_eq_true h1.1,decide_eq_true h1.2,Bg.mpr (Hl tr),decide_eq_false h2]
   rfl
  ·have:=pw.1 x.1 (Wh hx)
   lia
theorem Ib {n who:Nat} {H:Hp} {us:List V} {p:Pl} (ok:okP p) (r:dR n H us p) (hn:∀ x∈p,nn who x.2=true):Jl n who (p.map fun x=>Rg.rung x.1 x.2)=true:=by
 obtain⟨h1,h2,h3,h4⟩:=ok
 have l:1<=p.length:=by
  cases p with
  | nil=>exact absurd rfl h1
  | cons _ _=>rw[PK]; lia
 unfold Jl
 rw[Ow,decide_eq_true l,decide_eq_true h2,Gn r h3 (fun x hx=>⟨(h4 x hx).1,(h4 x hx).2.1⟩) hn]
 rfl
abbrev gB:Stmt:=top 38
abbrev fj:Stmt:=top 41
theorem oH:aM ["stand","one"] ["stand","one"] (aA gB):=⟨rfl,rfl,rfl,by decide+kernel,rfl,by decide+kernel,by decide+kernel⟩
theorem mY:aM ["stand","one","pledge"] ["stand","one","pledge"] (aA fj):=⟨rfl,rfl,rfl,by decide+kernel,rfl,by decide+kernel,by decide+kernel⟩
abbrev gC:Stmt:=inClass (top 44) 4
theorem iM:aM ["self","one","pledge","now"] ["self","one","pledge"] (aA gC):=⟨rfl,rfl,rfl,by decide+kernel,rfl,by decide+kernel,by decide+kernel⟩
theorem xZ {g:List Int} {p:Pl} (h:∀ x∈p,0<=x.1):0<=owF g p:=by
 have key:∀ (p:Pl) (f:Int),0<=f->(∀ x∈p,0<=x.1)->0<=p.foldl (owS g) f:=by
  intro p
  induction p with
  | nil=>intro f hf _; exact hf
  | cons x r ih =>
   intro f hf hx
   rw[T8]
   refine ih _ ?_ fun y hy=>hx y (Pb _ hy)
   unfold owS
   split
   ·exact hx x Ph
   ·exact hf
 exact key p 0 (Int.le_refl _) h
abbrev mX:Stmt:=top 39
theorem yN:aM ["standing","one","giving"] ["standing","one","giving"] (aA mX):=⟨rfl,rfl,rfl,by decide+kernel,rfl,by decide+kernel,by decide+kernel⟩
def owL (es:List Ent) (one:Nat) (g:List Int):List Int:=(es.filter fun e=>decide (e.2.1=one)).map fun e=>owF g e.2.2
theorem Ff {es:List Ent} {one:Nat} {g:List Int} {e:Ent}:owL (es++[e]) one g=owL es one g++if e.2.1=one then [owF g e.2.2] else []:=by
 unfold owL
 rw[Sg,O7]
 congr 1
 by_cases h:e.2.1=one
 ·rw[if_pos h,Uh (by exact decide_eq_true h)]
  rfl
 ·rw[if_neg h,Ui (by rw[decide_eq_false h]; exact O2)]
  rfl
inductive rN (vs:List V) (H:Hp) (Q:VK):Prop where
 | mk (sa ga:Addr) (one n:Nat) (us:List V) (es:List Ent) (g:List Int) (z0:vs=[.ref sa,vN one,.ref ga]) (z1:H sa=some (.tup us)) (z2:cA n H us es) (z3:es.length<=100) (z4:H ga=some (.tup (g.map V.int))) (z5:g.length=n) (z6:∀ H',aV H H'->Q (.int (mxD 0 (owL es one g))) H'):rN  vs H Q
def wM:Sp:=fun vs H Q _=>rN  vs H Q
theorem yM {k:Nat} (F:Fun K "owed_of" "owed_of" mX f fd) (B:Bt mg) (D_owes:Df P w K mg base "owes" k ["pledge","giving"] (xX K)) :
  bK P w K mg base CX0 (k+1) f fd ["standing","one","giving"] wM:=by
 refine F.ok yN (fun vs H Q E h=>?_) (fun cdv A outer s H vs Q E hr h=>?_)
 ·obtain⟨sa,ga,one,n,us,es,g,rfl,_⟩:=h
  rfl
 ·obtain⟨sa,ga,one,n,us,es,g,rfl,hsa,hes,l100,hga,lg,q⟩:=h
  refine⟨_,(aq (aJ (HJ rfl rfl B.max_ (aa (di (L:=["number","other","pledge"]) (F:=["giving","one"]) (cap:=[2,1]) rfl (cG rfl rfl (by kernel_rfl)) (c7 (pv 0)) (fun _ _ _ _ _=>(d8 (K:=K) 3 rfl rfl (aZ (aP (i:=0) (cg (by decide+kernel)) rfl (Pr rfl)) (aZ (aP (i:=1) (cg (by decide+kernel)) rfl (Pr rfl)) (aZ (aP (i:=2) (cg (by decide+kernel)) rfl (Pr rfl)) d7))))) (fun _ _ _ _ _=>(jV (aG bD (pv 1) (pv 4) (aL _)))) (fun _ _ _ _ _=>(bC D_owes hr (aa (pv 2) (aa (pv 3) ak))))) ak)))),?_⟩
  have les:=hes.length
  refine⟨_,rfl,sa,rfl,⟨_,SqT.of hsa⟩,fun D hD=>eX (K:=K) (a:=sa) (xs:=us) (fun i zs σ' H2=>(∃ u v w,σ'=[u,v,w,some (.ref ga),some (vN one)])/\aV H H2/\H2 D=some (.lst zs)/\zs=(owL (es.take i) one g).map V.int)
   ⟨⟨_,_,_,rfl⟩,aD hD _,ao,by rw[Qj]; rfl⟩ (fun i zs σ' H2 _ h=>⟨SqT.of (h.2.1 _ _ hsa),h.2.2.1⟩) ?_ ?_⟩
  ·rintro i zs x σ' H2 hx ⟨⟨u,v,w,rfl⟩,sm,eD,rfl⟩
   obtain⟨e,p,num,o2,pl,rfl,he,hent,hpr⟩:=hes.get hx
   have nx:owL (es.take (i+1)) one g=owL (es.take i) one g++if o2=one then [owF g pl] else []:=by
    rw[PL,he]
    exact Ff
   have ll:(owL (es.take i) one g).length<=100:=by
    unfold owL
    rw[Ow]
    refine PX (Ro _ _) ?_
    rw[Qf]
    lia
   refine⟨e,_,rfl,SqT.of (sm _ _ hent),rfl,_,_,rfl,_,_,rfl,_,_,rfl,rfl,?_⟩
   refine⟨_,rfl,_,rfl,rfl,_,rfl,?_⟩
   by_cases z:o2=one
   ·rw[decide_eq_true (show vN o2=vN one by rw[z])]
    refine cH ⟨_,rfl,_,rfl,p,ga,n,pl,g,rfl,hpr.bc (fun a xs q=>sm a _ q),SqT.of (sm _ _ hga),by lia,fun H3 s3=>?_⟩
    refine⟨s3 _ _ eD,bj (by rw[Ow]; lia),⟨_,_,_,rfl⟩,bu (sm.trans s3) hD _,ao,?_⟩
    rw[nx,if_pos z,O7]
    rfl
   ·rw[decide_eq_false (show ¬ vN o2=vN one from fun y=>z (by injection y with y; lia))]
    refine bG ⟨⟨_,_,_,rfl⟩,sm,eD,?_⟩
    rw[nx,if_neg z,Q8]
  ·rintro zs σ' H2 ⟨_,sm,eD,rfl⟩
   rw[les,Pq] at eD
   exact⟨D,_,rfl,SqL.of eD,q H2 sm⟩
theorem cA.Nr {n:Nat} {p:Ent->Bool} {e:Ent} {es:List Ent} {i:Nat} (h:es[i]? = some e):(es.take (i+1)).filter p=(es.take i).filter p++if p e=true then [e] else []:=by
 rw[PL,h,Sg]
 congr 1
 show List.filter p [e]=_
 by_cases z:p e=true
 ·rw[if_pos z,Uh z]
  rfl
 ·rw[if_neg z,Ui z]
  rfl
theorem stT {H H1:Hp} {a:Addr} {xs:List V} (s:gO H H1) (h:H a=some (.tup xs)):H1 a=some (.tup xs):=s a (.tup xs) (fun _ z=>nomatch z) h
theorem stL {H H1:Hp} {a:Addr} {xs:List V} (s:gO H H1) (h:H a=some (.lst xs)):H1 a=some (.lst xs):=s a (.lst xs) (fun _ z=>nomatch z) h
theorem thrown.mono {C:Addr} {w:Px} {H H1:Hp} {E:XK} (s:aV H H1) (h:thrown C w H E):thrown C w H1 E:=fun dx H2 s2 e=>h dx H2 (s.trans s2) e
theorem uX {K:Py} {C G:Addr} {w:Px} {H:Hp} {Q:VK} (R:XRd K C G "word") (q:∀ (a:Addr) (H':Hp),aV H H'->H' a=some (.tup [.str w])->Q (.ref a) H'):thrown C w H (XW K G "word" Q):=by
 intro dx H1 s ed
 refine⟨C,dx,_,_,rfl,rfl,R,ed,rfl,fun x u a hx ha=>q a _ ?_ ao⟩
 exact s.trans ((aD hx _).trans (aD ha _))
inductive uz (CS CN CG:Addr) (vs:List V) (H:Hp) (Q:VK) (E:XK):Prop where
 | mk (st:Addr) (one:Int) (n co:Nat) (g:List Int) (go:List Nat) (es:List Ent) (z0:vs=[.ref st,.int one]) (z1:iy CS n H st g go es co) (z2:((one < 0∨(g.length:Int)<=one)->thrown CN "no folk" H E)) (z3:(∀ i:Nat,one=i->i < g.length->i∈go->thrown CG "gone" H E)) (z4:(∀ i:Nat,one=i->i < g.length->i ∉ go->Q .non H)):uz CS CN CG vs H Q E
def jQ (CS CN CG:Addr):Sp:=fun vs H Q E=>uz CS CN CG vs H Q E
theorem lU {CS CN CG:Addr} (F:Fun K "check_there" "check_there" gB f fd) (B:Bt mg) (S:yp K CS) (D_is_number:Df P w K mg base "is_number" 1 ["thing","low","high"] iu)
  (X_NoFolk:Xc P w K mg base "NoFolk" CN "no folk") (X_Gone:Xc P w K mg base "Gone" CG "gone"):bK P w K mg base (XL P w) 4 f fd ["stand","one"] (jQ CS CN CG):=by
 refine F.okX oH (fun vs H Q E h=>?_) (fun cdv A outer s H vs Q E hr h=>?_)
 ·obtain⟨st,one,n,co,g,go,es,rfl,_⟩:=h
  rfl
 ·obtain⟨st,one,n,co,g,go,es,rfl,⟨dx,ga,goa,sa,us,hs,hga,hgo,hsa,hes⟩,hN,hG,q⟩:=h
  refine⟨_,(aj (aY (du (cI (bC D_is_number hr (aa (pv 1) (aa az (aa (bW rm (aC (r:=jC K) aU rfl B.len_ bL (aa (aX K rfl (pv 0)) ak)) az) ak)))))) (aq (eN X_NoFolk hr rfl dw)) aH)
 (aq (aY (aG (r:=rIn K false) fP (pv 1) (aX K rfl (pv 0)) rfl) (aq (eN X_Gone hr rfl dw)) aH))),?_⟩
  refine aF (fun σ H1=>∃ i:Nat,one=i/\i < g.length/\σ=[some (.ref st),some (vN i)]/\H1=H) ?q1 ?t1
  case t1 =>
   intro N Rc
   refine⟨_,rfl,_,rfl,st,CS,dx,_,_,rfl,hs,S.cl,S.green,rfl,ga,_,rfl,.inr (SqT.of hga),_,_,rfl,rfl,.int one,0,_,rfl,.int _,_,rfl,?_⟩
   by_cases hz:0<=one/\one < g.length
   ·rw[show isNum (.int one) 0 ((((g.map V.int).length:Nat):Int) - 1)=true by
     show (decide ((0:Int)<=one) && decide (one<=(((g.map V.int).length:Nat):Int) - 1))=true
     rw[Ow,decide_eq_true (by lia),decide_eq_true (by lia)]
     rfl]
    refine bG (Rc _ _ ⟨one.toNat,by lia,by lia,?_,rfl⟩)
    show[some (V.ref st),some (V.int one)]=[some (.ref st),some (.int (one.toNat:Int))]
    rw[Int.toNat_of_nonneg hz.1]
   ·rw[show isNum (.int one) 0 ((((g.map V.int).length:Nat):Int) - 1)=false by
     show (decide ((0:Int)<=one) && decide (one<=(((g.map V.int).length:Nat):Int) - 1))=false
     rw[Ow]
     by_cases h0:0<=one
     ·rw[decide_eq_false (show ¬ one<=(g.length:Int) - 1 by lia),Tt]
     ·rw[decide_eq_false h0,Tr]]
    exact cH (hN (by lia))
  case q1 =>
  rintro σ H1 ⟨i,rfl,hi,rfl,rfl⟩
  refine⟨_,rfl,_,rfl,st,CS,dx,_,_,rfl,hs,S.cl,S.gone,rfl,goa,_,rfl,.inr (SqT.of hgo),rfl,gZ go,_,rfl,?_⟩
  have e:inV (vN i) (go.map vN)=decide (i∈go):=by
   rw[show vN i=V.int (i:Int) from rfl,iB]
  rw[if_neg (show ¬ false=true from O2),e]
  by_cases z:i∈go
  ·rw[decide_eq_true z]
   exact cH (hG i rfl hi z)
  ·rw[decide_eq_false z]
   exact bG (q i rfl hi z)
mutual
theorem HD {one:Nat}:∀ t:Tm,one ∉ mnF t->nn one t=true
 | .free,_=>by simp [nn]
 | .never,_=>by simp [nn]
 | .gives i k,h=>by
  simp only[mnF] at h
  simp only[nn]
  exact decide_eq_true fun z=>h (by rw[z]; exact List.mem_singleton.mpr rfl)
 | .sum c k,h=>by simpa [nn,mnF] using h
 | .crowd c k m,h=>by simpa [nn,mnF] using h
 | .all ts,h=>by
  simp only[mnF] at h
  simp only[nn]
  exact zX ts h
 | .any ts,h=>by
  simp only[mnF] at h
  simp only[nn]
  exact zX ts h
theorem zX {one:Nat}:∀ ts:List Tm,one ∉ mnL ts->nnL one ts=true
 | [],_=>by simp [nnL]
 | t::r,h=>by
  rw[mnL,T7,not_or] at h
  rw[nnL,HD t h.1,zX r h.2]
  rfl
end
theorem Ci {n who:Nat} {x:Int × Tm}:∀ {p:Pl} {lo:Int},x∈p->nn who x.2=false->plF n who lo (p.map fun x=>Rg.rung x.1 x.2)=false
 | [],_,h,_=>by cases h
 | y::r,lo,h,e=>by
  show (rgF n who lo (.rung y.1 y.2) && plF n who (y.1+1) (r.map fun x=>Rg.rung x.1 x.2))=false
  rcases List.mem_cons.mp h with z | z
  ·have hm:who∈mnF y.2:=Classical.byContradiction fun q=>by
    rw[← z,HD x.2 (by rw[z]; exact q)] at *
    cases e
   show (((decide (lo<=y.1) && decide (y.1<=9)) && (ltF n (mnF y.2) && !decide (who∈mnF y.2))) && _)=false
   rw[decide_eq_true hm]
   simp
  ·rw[Ci z e,Tt]
theorem JG {n who:Nat} {x:Int × Tm} {p:Pl} (h:x∈p) (e:nn who x.2=false):Jl n who (p.map fun x=>Rg.rung x.1 x.2)=false:=by
 unfold Jl
 rw[Ci h e,Tt]
inductive wk (CS CP:Addr) (vs:List V) (H:Hp) (Q:VK) (E:XK):Prop where
 | mk (st p:Addr) (one n co:Nat) (g:List Int) (go:List Nat) (es:List Ent) (pl:Pl) (z0:vs=[.ref st,vN one,.ref p]) (z1:iy CS n H st g go es co) (z2:g.length=n) (z3:1<=n) (z4:n<=12) (z5:lB n H p pl) (z6:((∃ x∈pl,nn one x.2=false)->thrown CP "bad pledge" H E)) (z7:((∀ x∈pl,nn one x.2=true)->∀ H',aV H H'->Q .non H')):wk CS CP vs H Q E
def zH (CS CP:Addr):Sp:=fun vs H Q E=>wk CS CP vs H Q E
theorem km {CS CP:Addr} {k:Nat} (hk:3<=k) (F:Fun K "check_pledge" "check_pledge" fj f fd) (B:Bt mg) (S:yp K CS) (D_is_pledge:Df P w K mg base "is_pledge" k ["many","one","thing"] oX)
  (X_BadPledge:Xc P w K mg base "BadPledge" CP "bad pledge"):bK P w K mg base (XL P w) (k+1) f fd ["stand","one","pledge"] (zH CS CP):=by
 refine F.okX mY (fun vs H Q E h=>?_) (fun cdv A outer s H vs Q E hr h=>?_)
 ·obtain⟨st,p,one,n,co,g,go,es,pl,rfl,_⟩:=h
  rfl
 ·obtain⟨st,p,one,n,co,g,go,es,pl,rfl,⟨dx,ga,goa,sa,us,hs,hga,hgo,hsa,hes⟩,lg,n1,n12,⟨okp,vs0,hp,rv⟩,hbad,q⟩:=h
  refine⟨_,(aq (aY (du (cI (bC D_is_pledge hr (aa (aC (r:=jC K) aU rfl B.len_ bL (aa (aX K rfl (pv 0)) ak)) (aa (pv 1) (aa (pv 2) ak)))))) (aq (eN X_BadPledge hr rfl dw (hk:=hk))) aH)),?_⟩
  have lv:=rv.length
  have p9:=okp.2.1
  refine⟨_,rfl,st,CS,dx,_,_,rfl,hs,S.cl,S.green,rfl,ga,_,rfl,.inr (SqT.of hga),_,rfl,_,rfl,p,vs0,_,n,n,one,?_,hp,JM rv fun x hx=>(okp.2.2.2 x hx).2.2,n12,by lia,n1,fun H1 s1=>?_⟩
  ·show[V.int (((g.map V.int).length:Nat):Int),vN one,V.ref p]=_
   rw[Ow,lg]
   rfl
  ·by_cases hn:∀ x∈pl,nn one x.2=true
   ·rw[Ib okp rv hn]
    exact⟨_,rfl,bG (q hn H1 s1)⟩
   ·obtain⟨x,hx,e⟩:∃ x∈pl,nn one x.2=false:=Classical.byContradiction fun z=>hn fun x hx=>by
     cases e:nn one x.2 with
     | true=>rfl
     | false=>exact absurd ⟨x,hx,e⟩ z
    rw[JG hx e]
    exact⟨_,rfl,cH ((hbad ⟨x,hx,e⟩).mono s1)⟩
theorem uG:∀ (n:Nat) (go:List Nat),go.Nodup->(∀ x∈go,x < n)->go.length<=n
 | 0,go,_,h=>by
  cases go with
  | nil=>exact OJ _
  | cons a r=>exact absurd (h a Ph) (V0 _)
 | n+1,go,nd,h=>by
  have:=uG n (go.filter fun x=>decide (x≠n)) (nd.filter _) fun x hx=>by
   have h1:=List.mem_filter.mp hx
   have h2:=h x h1.1
   have h3:x≠n:=of_decide_eq_true h1.2
   lia
  have c:=List.length_eq_countP_add_countP (p:=fun x=>decide (x≠n)) (l:=go)
  rw[List.countP_eq_length_filter] at c
  have c2:List.countP (fun a=>decide ¬decide (a≠n)=true) go<=1:=by
   have:=List.nodup_iff_count.mp nd n
   refine PX (Nat.le_of_eq ?_) this
   unfold List.count
   congr 1
   funext x
   by_cases z:x=n <;> simp [z]
  lia
theorem Bf {T:TT} {a b:TS} {D:Ends} {σ:St} {H:Hp} (R:Bool->Hp->Prop) (hT:∀ Q:Bool->Hp->Prop,(∀ c H1,R c H1->Q c H1)->T σ H Q) (ha:∀ H1,R true H1->a D σ H1) (hb:∀ H1,R false H1->b D σ H1):Nf T a b D σ H:=by
 refine hT _ fun c H1 r=>?_
 cases c
 ·exact hb _ r
 ·exact ha _ r
mutual
theorem gH.le {n m:Nat} {H:Hp} (h:n<=m):∀ {v:V} {t:Tm},gH n H v t->gH m H v t
 | _,_,.free e=>.free e
 | _,_,.never e=>.never e
 | _,_,.gives e a b c=>.gives e (OD a h) b c
 | _,_,.sum e e2 a b c d f g=>.sum e e2 (fun i hi=>OD (a i hi) h) b c d f g
 | _,_,.crowd e e2 a b c d f g i j=>.crowd e e2 (fun i hi=>OD (a i hi) h) b c d f g i j
 | _,_,.all e e2 a b r=>.all e e2 a b (cD.le h r)
 | _,_,.any e e2 a b r=>.any e e2 a b (cD.le h r)
theorem cD.le {n m:Nat} {H:Hp} (h:n<=m):∀ {vs:List V} {ts:List Tm},cD n H vs ts->cD m H vs ts
 | _,_,.nil=>.nil
 | _,_,.cons a r=>.cons (gH.le h a) (cD.le h r)
end
theorem dR.le {n m:Nat} {H:Hp} (h:n<=m):∀ {vs:List V} {p:Pl},dR n H vs p->dR m H vs p
 | _,_,.nil=>.nil
 | _,_,.cons a t r=>.cons a (t.le h) (dR.le h r)
theorem lB.le {n m:Nat} {H:Hp} {a:Addr} {p:Pl} (h:n<=m) (r:lB n H a p):lB m H a p:=⟨r.1,r.2.choose,r.2.choose_spec.1,r.2.choose_spec.2.le h⟩
theorem cA.le {n m:Nat} {H:Hp} (h:n<=m):∀ {us:List V} {es:List Ent},cA n H us es->cA m H us es
 | _,_,.nil=>.nil
 | _,_,.cons a p r=>.cons a (p.le h) (cA.le h r)
structure Bn (CS CB:Addr) (n:Nat) (H:Hp) (b be ah dx nw:Addr) (xs zs:List V) (g:List Int) (go:List Nat) (es:List Ent) (co:Nat):Prop where
 hb:H b=some (.ins CB dx (bnF nw be ah))
 hbe:H be=some (.lst xs)
 hah:H ah=some (.lst zs)
 st:iy CS n H nw g go es co
 nb:be≠ah
 lg:g.length=n
 n12:n<=12
 l40:es.length<=40
 gn:go.Nodup
 gl:∀ x∈go,x < n
section
variable {CS CB:Addr} {n:Nat} {H H':Hp} {b be ah dx nw:Addr} {xs zs:List V} {g:List Int} {go:List Nat} {es:List Ent} {co:Nat}
theorem Bn.same (B:Bn CS CB n H b be ah dx nw xs zs g go es co) (s:aV H H'):Bn CS CB n H' b be ah dx nw xs zs g go es co :=
 ⟨s _ _ B.hb,s _ _ B.hbe,s _ _ B.hah,B.st.ks (ksS s),B.nb,B.lg,B.n12,B.l40,B.gn,B.gl⟩
theorem Bn.sT (B:Bn CS CB n H b be ah dx nw xs zs g go es co) (s:gO H H'):Bn CS CB n H' b be ah dx nw xs zs g go es co :=
 ⟨s _ _ (fun _ z=>nomatch z) B.hb,s _ _ (fun _ z=>nomatch z) B.hbe,s _ _ (fun _ z=>nomatch z) B.hah,B.st.ks ⟨fun a ys q=>s _ _ (fun _ z=>nomatch z) q,fun a dx fs q=>s _ _ (fun _ z=>nomatch z) q⟩,B.nb,B.lg,B.n12,B.l40,B.gn,B.gl⟩
theorem Bn.Oq (B:Bn CS CB n H b be ah dx nw xs zs g go es co):ql CS CB n H b be xs.length g go es co:=⟨dx,nw,ah,xs,B.hb,B.hbe,rfl,B.st⟩
theorem Bn.few (B:Bn CS CB n H b be ah dx nw xs zs g go es co):go.length<=12:=PX (uG n go B.gn B.gl) B.n12
end
inductive wC (CB:Addr) (vs:List V) (H:Hp) (Q:VK):Prop where
 | mk (b be st dx nw ah:Addr) (xs:List V) (z0:vs=[.ref b,.ref st]) (z1:H b=some (.ins CB dx (bnF nw be ah))) (z2:H be=some (.lst xs)) (z3:xs.length<=900) (z4:∀ (ah':Addr) (H':Hp),H ah'=none->H' b=some (.ins CB dx (bnF st be ah'))->H' be=some (.lst (xs++[.ref nw]))->H' ah'=some (.lst [])->But b be H H'->Q .non H'):wC CB vs H Q
def jZ (CB:Addr):Sp:=fun vs H Q _=>wC CB vs H Q
theorem oK {CB:Addr} (F:Fun K "go_on" "Boon.go_on" gK f fd) (S:zc K CB):bK P w K mg base CX0 1 f fd ["self","stand"] (jZ CB):=by
 refine F.ok qW (fun vs H Q E h=>?_) (fun cdv A outer s H vs Q E hr h=>?_)
 ·obtain⟨b,be,st,dx,nw,ah,xs,rfl,_⟩:=h
  rfl
 ·obtain⟨b,be,st,dx,nw,ah,xs,rfl,hb,hbe,l9,q⟩:=h
  refine⟨_,(aj (cj (DN Ug T3 TY fH (aX K rfl (pv 0)) (aa (aX K rfl (pv 0)) ak)))
 (aj (jE (pv 0) (cJ ak) rfl)
 (aq (jE (pv 0) (pv 1) rfl)))),?_⟩
  have bb:be≠b:=fun z=>by rw[z,hb] at hbe; cases hbe
  refine⟨_,rfl,b,CB,dx,_,_,rfl,hb,S.cl,S.behind,rfl,.inl ⟨rfl,_,SqL.of hbe⟩,_,rfl,b,CB,dx,_,_,rfl,hb,S.cl,S.now,rfl,be,_,_,rfl,rfl,hbe,bj (by lia),?_⟩
  have k1:But b be H (upd H be (.lst (xs++[.ref nw]))):=fun a o _ h z=>by rw[aN h]; exact z
  generalize eH1:upd H be _=H1 at k1
  have e1:H1 be=some (.lst (xs++[.ref nw])):=by rw[← eH1]; exact ao
  have e1b:H1 b=some (.ins CB dx (bnF nw be ah)):=by rw[← eH1,aN bb.symm]; exact hb
  refine⟨small (by show 0<=1000; decide),fun a2 h2=>?_⟩
  have n2:a2≠be:=fun z=>by rw[z,e1] at h2; cases h2
  have n2b:a2≠b:=fun z=>by rw[z,e1b] at h2; cases h2
  have fr:H a2=none:=by rw[← eH1,aN n2] at h2; exact h2
  generalize eH2:upd H1 a2 _=H2
  obtain⟨g2,e2⟩:=aW eH2 h2
  refine⟨_,rfl,b,CB,dx,_,rfl,g2 _ _ e1b,S.cl,S.ahead,by show 3 < 1000; decide,?_⟩
  have k3:∀ a o,a≠b->H2 a=some o->upd H2 b (.ins CB dx (pq "ahead" (.ref a2) (bnF nw be ah))) a=some o:=fun a o h z=>by rw[aN h]; exact z
  generalize eH3:upd H2 b _=H3 at k3
  have e3:H3 b=some (.ins CB dx (bnF nw be a2)):=by rw[← eH3]; exact ao
  refine⟨_,rfl,_,rfl,b,CB,dx,_,rfl,e3,S.cl,S.now,by show 3 < 1000; decide,?_⟩
  refine q a2 _ fr ao (by rw[aN bb]; exact k3 _ _ bb (g2 _ _ e1)) (by rw[aN n2b]; exact k3 _ _ n2b e2) fun a o h h' z=>?_
  rw[aN h]
  exact k3 _ _ h (g2 _ _ (k1 a o h h' z))
theorem Fx {CS CB:Addr} {n n':Nat} {H H1:Hp} {b be ah dx nw x:Addr} {xs zs:List V} {g g':List Int} {go go':List Nat} {es es':List Ent} {co co':Nat} {Q:VK} (B:Bn CS CB n H b be ah dx nw xs zs g go es co) (ne:CB≠CS) (l9:xs.length<=900) (s:aV H H1) (st:iy CS n' H1 x g' go' es' co')
  (lg:g'.length=n') (n12:n'<=12) (l40:es'.length<=40) (gn:go'.Nodup) (gl:∀ x∈go',x < n') (q:∀ (H':Hp) (ah':Addr),But b be H H'->H ah'=none->Bn CS CB n' H' b be ah' dx x (xs++[.ref nw]) [] g' go' es' co'->Q .non H'):jZ CB [.ref b,.ref x] H1 Q E0:=by
 refine⟨b,be,x,dx,nw,ah,xs,rfl,s _ _ B.hb,s _ _ B.hbe,l9,fun ah' H' fa e1 e2 e3 bt=>?_⟩
 refine q H' ah' ((LR s).trans bt) (s.free fa) ⟨e1,e2,e3,st.ks (bt.ks ne (s _ _ B.hb) (s _ _ B.hbe)),fun z=>?_,lg,n12,l40,gn,gl⟩
 rw[← z,s _ _ B.hbe] at fa
 cases fa
inductive t7 (CS CB:Addr) (vs:List V) (H:Hp) (Q:VK):Prop where
 | mk (b dx:Addr) (z0:vs=[.ref b]) (z1:H b=some (.ins CB dx [])) (z2:∀ (be ah nw:Addr) (H':Hp),H be=none->H ah=none->(∀ a o,a≠b->H a=some o->H' a=some o)->Bn CS CB 0 H' b be ah dx nw [] [] [] [] [] 0->Q .non H'):t7 CS CB vs H Q
def xG (CS CB:Addr):Sp:=fun vs H Q _=>t7 CS CB vs H Q
theorem qw {CS CB:Addr} (F:Fun K "__init__" "Boon.__init__" jz f fd) (S:zc K CB) (D_Stand:Dk2 P w K mg base "Stand" CS 1 ["self","green","gone","standing","coming"] (gA CS)) :
  bK P w K mg base CX0 3 f fd ["self"] (xG CS CB):=by
 refine F.ok lR (fun vs H Q E h=>?_) (fun cdv A outer s H vs Q E hr h=>?_)
 ·obtain⟨b,dx,rfl,_⟩:=h
  rfl
 ·obtain⟨b,dx,rfl,hb,q⟩:=h
  refine⟨_,(aj (jE (pv 0) (zj D_Stand hr (aa (bM ak) (aa (bM ak) (aa (bM ak) (aa az ak))))) rfl)
 (aj (jE (pv 0) (cJ ak) rfl)
 (aq (jE (pv 0) (cJ ak) rfl)))),?_⟩
  refine⟨small (by show 0<=1000; decide),fun p1 h1=>?_⟩
  generalize eH1:upd H p1 _=H1
  obtain⟨g1,e1⟩:=aW eH1 h1
  refine⟨small (by show 0<=1000; decide),fun p2 h2=>?_⟩
  generalize eH2:upd H1 p2 _=H2
  obtain⟨g2,e2⟩:=aW eH2 h2
  refine⟨small (by show 0<=1000; decide),fun p3 h3=>?_⟩
  generalize eH3:upd H2 p3 _=H3
  obtain⟨g3,e3⟩:=aW eH3 h3
  have s3:=g1.trans (g2.trans g3)
  intro x dx2 hx hdx hne
  refine jK hx hdx hne fun H4 sB e4=>⟨rfl,?_⟩
  have s4:=s3.trans sB
  refine⟨_,rfl,b,CB,dx,_,rfl,s4 _ _ hb,S.cl,S.now,by show 0 < 1000; decide,?_⟩
  have k1:∀ a o,a≠b->H4 a=some o->upd H4 b (.ins CB dx (pq "now" (.ref x) [])) a=some o:=fun a o h z=>by rw[aN h]; exact z
  generalize eH5:upd H4 b _=H5 at k1
  have e5:H5 b=some (.ins CB dx [("now",.ref x)]):=by rw[← eH5]; exact ao
  refine⟨small (by show 0<=1000; decide),fun be hbe=>?_⟩
  generalize eH6:upd H5 be _=H6
  obtain⟨g6,e6⟩:=aW eH6 hbe
  refine⟨_,rfl,b,CB,dx,_,rfl,g6 _ _ e5,S.cl,S.behind,by show 1 < 1000; decide,?_⟩
  have bb:be≠b:=fun z=>by rw[z,e5] at hbe; cases hbe
  have k2:∀ a o,a≠b->H6 a=some o->upd H6 b (.ins CB dx (pq "behind" (.ref be) [("now",.ref x)])) a=some o:=fun a o h z=>by rw[aN h]; exact z
  generalize eH7:upd H6 b _=H7 at k2
  have e7:H7 b=some (.ins CB dx [("now",.ref x),("behind",.ref be)]):=by rw[← eH7]; exact ao
  refine⟨small (by show 0<=1000; decide),fun ah hah=>?_⟩
  have ab:ah≠b:=fun z=>by rw[z,e7] at hah; cases hah
  generalize eH8:upd H7 ah _=H8
  obtain⟨g8,e8⟩:=aW eH8 hah
  refine⟨_,rfl,b,CB,dx,_,rfl,g8 _ _ e7,S.cl,S.ahead,by show 2 < 1000; decide,?_⟩
  have k3:∀ a o,a≠b->H8 a=some o->upd H8 b (.ins CB dx (pq "ahead" (.ref ah) [("now",.ref x),("behind",.ref be)])) a=some o:=fun a o h z=>by rw[aN h]; exact z
  generalize eH9:upd H8 b _=H9 at k3
  have e9:H9 b=some (.ins CB dx (bnF x be ah)):=by rw[← eH9]; exact ao
  have all:∀ a o,a≠b->H4 a=some o->H9 a=some o:=fun a o h z=>k3 a o h (g8 _ _ (k2 a o h (g6 _ _ (k1 a o h z))))
  have tp:∀ (p:Addr) (xs:List V),H4 p=some (HO.tup xs)->H9 p=some (HO.tup xs):=fun p xs z=>all p _ (fun y=>by rw[y,s4 _ _ hb] at z; cases z) z
  have xb:x≠b:=fun z=>by rw[z] at hx; rw[s3 _ _ hb] at hx; cases hx
  have e6':H7 be=some (.lst []):=k2 _ _ bb e6
  have old:∀ a,a≠b->H5 a=none->H a=none:=fun a hn h=>by
   cases hq:H a with
   | none=>rfl
   | some o =>
    have:=k1 a o hn (s4 _ _ hq)
    rw[h] at this
    cases this
  refine q be ah x H9 (old be bb hbe) ?_ (fun a o h z=>all a o h (s4 _ _ z)) ⟨e9,k3 _ _ bb (g8 _ _ e6'),k3 _ _ ab e8,⟨dx2,p1,p2,p3,[],all _ _ xb e4,tp _ _ (sB _ _ (g3 _ _ (g2 _ _ e1))),tp _ _ (sB _ _ (g3 _ _ e2)),tp _ _ (sB _ _ e3),.nil⟩,fun z=>?_,rfl,by decide,by decide,.nil,by simp⟩
  ·refine old ah ab ?_
   cases hq:H5 ah with
   | none=>rfl
   | some o =>
    have:=k2 ah o ab (g6 _ _ hq)
    rw[hah] at this
    cases this
  ·rw[← z,e6'] at hah
   cases hah
inductive xf (CS CB CF:Addr) (vs:List V) (H:Hp) (Q:VK) (E:XK):Prop where
 | mk (b be ah dx nw:Addr) (n co:Nat) (xs zs:List V) (g:List Int) (go:List Nat) (es:List Ent) (z0:vs=[.ref b]) (z1:Bn CS CB n H b be ah dx nw xs zs g go es co) (z2:xs.length<=900) (z3:(12<=n->thrown CF "full" H E)) (z4:(n < 12->∀ (H':Hp) (nw' ah':Addr),But b be H H'->H ah'=none->Bn CS CB (n+1) H' b be ah' dx nw' (xs++[.ref nw]) [] (g++[0]) go es co->Q (vN n) H')):xf CS CB CF vs H Q E
def Bd (CS CB CF:Addr):Sp:=fun vs H Q E=>xf CS CB CF vs H Q E
theorem oJ {CS CB CF:Addr} {t1:Xu} (ne:CB≠CS) (F:Fun K "come" "Boon.come" iV f fd) (B:Bt mg) (S:yp K CS) (T:zc K CB) (c_MOST_FOLK:mg "MOST_FOLK" = some (.int 12 t1))
  (D_Stand:Dk2 P w K mg base "Stand" CS 1 ["self","green","gone","standing","coming"] (gA CS)) (D_Boon_go_on:Dm2 P w K mg base CB "go_on" 1 ["self","stand"] (jZ CB)) (X_Full:Xc P w K mg base "Full" CF "full") :
  bK P w K mg base (XL P w) 4 f fd ["self"] (Bd CS CB CF):=by
 refine F.okX lF (fun vs H Q E h=>?_) (fun cdv A outer s H vs Q E hr h=>?_)
 ·obtain⟨b,be,ah,dx,nw,n,co,xs,zs,g,go,es,rfl,_⟩:=h
  rfl
 ·obtain⟨b,be,ah,dx,nw,n,co,xs,zs,g,go,es,rfl,hB,l9,hF,q⟩:=h
  refine⟨_,(aj (bh (i:=1) lF.nd rfl (Pr rfl) (aX K rfl (pv 0)))
 (aj (aY (aG jM (aC (r:=jC K) aU rfl B.len_ bL (aa (aX K rfl (pv 1)) ak)) (lO c_MOST_FOLK) (aL _)) (aq (eN X_Full hr rfl dw)) aH)
 (aj (cj (DX D_Boon_go_on hr (pv 0) (aa (zj D_Stand hr (aa (bW (r:=nC K) jR (aX K rfl (pv 1)) (bM (aa az ak))) (aa (aX K rfl (pv 1)) (aa (aX K rfl (pv 1)) (aa (aX K rfl (pv 1)) ak))))) ak)))
 (aq (aJ (aC (r:=jC K) aU rfl B.len_ bL (aa (aX K rfl (pv 1)) ak))))))),?_⟩
  have hb:=hB.hb
  have lg:=hB.lg
  obtain⟨dx2,ga,goa,sa,us,hs,hga,hgoa,hsa,hes⟩:=id hB.st
  refine aF (fun σ H1=>σ=[some (.ref b),some (.ref nw)]/\H1=H) ?q0 ?t0
  case t0 =>
   intro N Rc
   exact⟨_,rfl,b,CB,dx,_,_,rfl,hb,T.cl,T.now,rfl,Rc _ _ ⟨rfl,rfl⟩⟩
  case q0 =>
  rintro σ H0 ⟨rfl,rfl⟩
  refine aF (fun σ H1=>σ=[some (.ref b),some (.ref nw)]/\H1=H0/\n < 12) ?q1 ?t1
  case t1 =>
   intro N Rc
   refine⟨_,rfl,nw,CS,dx2,_,_,rfl,hs,S.cl,S.green,rfl,ga,_,rfl,.inr (SqT.of hga),_,_,rfl,rfl,_,rfl,?_⟩
   by_cases z:12<=n
   ·rw[decide_eq_true (show ((12:Int)<=(((g.map V.int).length:Nat):Int)) by rw[Ow]; lia)]
    exact cH (hF z)
   ·rw[decide_eq_false (show ¬ ((12:Int)<=(((g.map V.int).length:Nat):Int)) by rw[Ow]; lia)]
    exact bG (Rc _ _ ⟨rfl,rfl,by lia⟩)
  case q1 =>
  rintro σ H1 ⟨rfl,rfl,h12⟩
  replace q:=q h12
  refine aF (fun σ H2=>∃ (nw' ah':Addr),σ=[some (.ref b),some (.ref nw)]/\But b be H1 H2/\H1 ah'=none/\Bn CS CB (n+1) H2 b be ah' dx nw' (xs++[.ref nw]) [] (g++[0]) go es co) ?q2 ?t2
  case t2 =>
   intro N Rc
   refine⟨_,rfl,b,dx,_,rfl,hb,rfl,?_⟩
   refine⟨_,rfl,nw,CS,dx2,_,_,rfl,hs,S.cl,S.green,rfl,small (by show 1<=1000; decide),fun p1 h1=>?_⟩
   generalize eH2:upd H1 p1 _=H2
   obtain⟨g2,e2⟩:=aW eH2 h1
   refine JQ (g2 _ _ hga) e2 (by rw[Ow]; show g.length+1<=1000; lia) fun p H3 s3 e3=>?_
   have s13:=g2.trans s3
   have e3:H3 p=some (.tup ((g++[0]).map V.int)):=by rw[e3,O7]; rfl
   have hs3:=s13 _ _ hs
   refine⟨_,rfl,nw,CS,dx2,_,_,rfl,hs3,S.cl,S.gone,rfl,_,rfl,nw,CS,dx2,_,_,rfl,hs3,S.cl,S.standing,rfl,_,rfl,nw,CS,dx2,_,_,rfl,hs3,S.cl,S.coming,rfl,fun x dx3 hx hdx hne=>?_⟩
   refine jK hx hdx hne fun H4 s4 e4=>⟨rfl,?_⟩
   have s14:=s13.trans s4
   exact Fx (Q:=fun _ H1=>N [some (.ref b),some (.ref nw)] H1) hB ne l9 s14 ⟨dx3,p,goa,sa,us,e4,s4 _ _ e3,s14 _ _ hgoa,s14 _ _ hsa,(hes.bc fun a ys z=>s14 _ _ z).le (Rm n)⟩ (by rw[Qa,lg]; rfl) (by lia) hB.l40 hB.gn (fun x hx=>QB (hB.gl x hx)) fun H' ah' bt fa hB'=>Rc _ _ ⟨_,ah',rfl,bt,fa,hB'⟩
  case q2 =>
  rintro σ H2 ⟨nw',ah',rfl,bt,fa,hB'⟩
  have ks:=bt.ks ne hb hB.hbe
  refine⟨_,rfl,nw,CS,dx2,_,_,rfl,ks.2 _ _ _ hs,S.cl,S.green,rfl,ga,_,rfl,.inr (SqT.of (ks.1 _ _ hga)),?_⟩
  rw[Ow,lg]
  exact q H2 nw' ah' bt fa hB'
structure XA where
 nf:Addr
 go:Addr
 bp:Addr
 fu:Addr
 np:Addr
 bd:Addr
 nd:Addr
 br:Addr
 nl:Addr
def XA.of (x:XA) (w:Px):Addr:=if w = "no folk" then x.nf else if w = "gone" then x.go else if w = "bad pledge" then x.bp else if w = "full" then x.fu else if w = "no pledge" then x.np else if w = "bound" then x.bd else if w = "not due" then x.nd else if w = "bad rise" then x.br else x.nl
def Th (x:XA) (w:Px) (H:Hp) (E:XK):Prop:=thrown (x.of w) w H E
theorem Th.mono {x:XA} {w:Px} {H H1:Hp} {E:XK} (s:aV H H1) (h:Th x w H E):Th x w H1 E:=thrown.mono s h
section
variable {x:XA}
theorem MK:x.of "no folk" = x.nf:=by unfold XA.of; rw[if_pos rfl]
theorem Lk:x.of "gone" = x.go:=by unfold XA.of; rw[if_neg (by decide),if_pos rfl]
theorem Mx:x.of "bad pledge" = x.bp:=by unfold XA.of; rw[if_neg (by decide),if_neg (by decide),if_pos rfl]
theorem JB:x.of "full" = x.fu:=by unfold XA.of; rw[if_neg (by decide),if_neg (by decide),if_neg (by decide),if_pos rfl]
theorem Ls:x.of "not due" = x.nd:=by unfold XA.of; rw[if_neg (by decide),if_neg (by decide),if_neg (by decide),if_neg (by decide),if_neg (by decide),if_neg (by decide),if_pos rfl]
theorem Ld:x.of "bad rise" = x.br:=by unfold XA.of; rw[if_neg (by decide),if_neg (by decide),if_neg (by decide),if_neg (by decide),if_neg (by decide),if_neg (by decide),if_neg (by decide),if_pos rfl]
end
def miW (n:Nat) (go:List Nat) (o:Int):Px:=if o < 0∨(n:Int)<=o then "no folk" else if o.toNat∈go then "gone" else ""
theorem rD (n:Nat) (go:List Nat) (o:Int):(miW n go o = "no folk"/\(o < 0∨(n:Int)<=o))∨(∃ i:Nat,o=i/\i < n/\((i∈go/\miW n go o = "gone")∨(i ∉ go/\miW n go o = ""))):=by
 unfold miW
 by_cases h:o < 0∨(n:Int)<=o
 ·exact .inl ⟨if_pos h,h⟩
 ·refine .inr ⟨o.toNat,by lia,by lia,?_⟩
  rw[if_neg h]
  by_cases g:o.toNat∈go
  ·exact .inl ⟨g,if_pos g⟩
  ·exact .inr ⟨g,if_neg g⟩
theorem sI {n:Nat} {go:List Nat} {o:Int} (h:miW n go o = ""):∃ i:Nat,o=i/\i < n/\i ∉ go:=by
 rcases rD n go o with⟨e,_⟩ | ⟨i,e,hi,⟨_,e2⟩ | ⟨g,_⟩⟩
 ·rw[e] at h; exact absurd h (by decide)
 ·rw[e2] at h; exact absurd h (by decide)
 ·exact⟨i,e,hi,g⟩
theorem j5 {n i:Nat} {go:List Nat} (hi:i < n):miW n go (i:Int)=if i∈go then ("gone" : Px) else "":=by
 unfold miW
 rw[if_neg (by lia),PN]
theorem j9 {CS:Addr} {x:XA} {st:Addr} {one:Int} {n co:Nat} {g:List Int} {go:List Nat} {es:List Ent} {H:Hp} {Q:VK} {E:XK} (hst:iy CS n H st g go es co) (lg:g.length=n) (hw:miW n go one≠""->Th x (miW n go one) H E) (q:∀ i:Nat,one=i->i < n->i ∉ go->Q .non H):jQ CS x.nf x.go [.ref st,.int one] H Q E:=by
 refine⟨st,one,n,co,g,go,es,rfl,hst,fun z=>?_,fun i e hi hg=>?_,fun i e hi hg=>q i e (by lia) hg⟩
 ·have e:miW n go one = "no folk":=by unfold miW; rw[if_pos (by lia)]
  have:=hw (by rw[e]; decide)
  unfold Th at this
  rw[e,MK] at this
  exact this
 ·have e:miW n go one = "gone":=by rw[e,j5 (by lia),if_pos hg]
  have:=hw (by rw[e]; decide)
  unfold Th at this
  rw[e,Lk] at this
  exact this
def plW (n:Nat) (go:List Nat) (es:List Ent) (o:Int) (pl:Pl):Px:=if miW n go o≠"" then miW n go o else if ∃ x∈pl,nn o.toNat x.2=false then "bad pledge" else if 40<=es.length then "full" else ""
inductive pD (CS CB:Addr) (x:XA) (vs:List V) (H:Hp) (Q:VK) (E:XK):Prop where
 | mk (b be ah dx nw p:Addr) (one:Int) (n co:Nat) (xs zs:List V) (g:List Int) (go:List Nat) (es:List Ent) (pl:Pl) (z0:vs=[.ref b,.int one,.ref p]) (z1:Bn CS CB n H b be ah dx nw xs zs g go es co) (z2:lB n H p pl) (z3:xs.length<=900) (z4:(plW n go es one pl≠""->Th x (plW n go es one pl) H E)) (z5:(plW n go es one pl = ""->∀ (H':Hp) (nw' ah':Addr),But b be H H'->H ah'=none->Bn CS CB n H' b be ah' dx nw' (xs++[.ref nw]) [] g go (es++[(co,one.toNat,pl)]) (co+1)->Q (vN co) H')):pD CS CB x vs H Q E
def uF (CS CB:Addr) (x:XA):Sp:=fun vs H Q E=>pD CS CB x vs H Q E
theorem lM {CS CB:Addr} {x:XA} {t1:Xu} {k:Nat} (hk:4<=k) (ne:CB≠CS) (F:Fun K "pledge" "Boon.pledge" gC f fd) (B:Bt mg) (S:yp K CS) (T:zc K CB) (c_MOST_PLEDGES:mg "MOST_PLEDGES" = some (.int 40 t1))
  (D_check_there:Dx P w K mg base "check_there" 4 ["stand","one"] (jQ CS x.nf x.go)) (D_check_pledge:Dx P w K mg base "check_pledge" k ["stand","one","pledge"] (zH CS x.bp))
  (D_Stand:Dk2 P w K mg base "Stand" CS 1 ["self","green","gone","standing","coming"] (gA CS)) (D_Boon_go_on:Dm2 P w K mg base CB "go_on" 1 ["self","stand"] (jZ CB)) (X_Full:Xc P w K mg base "Full" x.fu "full") :
  bK P w K mg base (XL P w) (k+1) f fd ["self","one","pledge"] (uF CS CB x):=by
 refine F.okX iM (fun vs H Q E h=>?_) (fun cdv A outer s H vs Q E hr h=>?_)
 ·obtain⟨b,be,ah,dx,nw,p,one,n,co,xs,zs,g,go,es,pl,rfl,_⟩:=h
  rfl
 ·obtain⟨b,be,ah,dx,nw,p,one,n,co,xs,zs,g,go,es,pl,rfl,hB,hp,l9,hw,q⟩:=h
  refine⟨_,(aj (bh (i:=3) iM.nd rfl (Pr rfl) (aX K rfl (pv 0)))
 (aj (cj (yH D_check_there hr cY (aa (pv 3) (aa (pv 1) ak))))
 (aj (cj (yH D_check_pledge hr cY (aa (pv 3) (aa (pv 1) (aa (pv 2) ak)))))
 (aj (aY (aG jM (aC (r:=jC K) aU rfl B.len_ bL (aa (aX K rfl (pv 3)) ak)) (lO c_MOST_PLEDGES) (aL _)) (aq (eN X_Full hr rfl dw (hk:=(Uq hk)))) aH)
 (aj (cj (DX D_Boon_go_on hr (pv 0) (aa (zj D_Stand hr (aa (aX K rfl (pv 3)) (aa (aX K rfl (pv 3)) (aa (bW (r:=nC K) jR (aX K rfl (pv 3)) (bM (aa (bM (aa (aX K rfl (pv 3)) (aa (pv 1) (aa (pv 2) ak)))) ak))) (aa (bW gG (aX K rfl (pv 3)) az) ak))))) ak)))
 (aq (aJ (aX K rfl (pv 3))))))))),?_⟩
  have hb:=hB.hb
  have hst:=hB.st
  refine aF (fun σ H1=>σ=[some (.ref b),some (.int one),some (.ref p),some (.ref nw)]/\H1=H) ?q0 ?t0
  case t0 =>
   intro N Rc
   exact⟨_,rfl,b,CB,dx,_,_,rfl,hb,T.cl,T.now,rfl,Rc _ _ ⟨rfl,rfl⟩⟩
  case q0 =>
  rintro σ H0 ⟨rfl,rfl⟩
  refine aF (fun σ H1=>∃ i:Nat,one=i/\i < n/\i ∉ go/\σ=[some (.ref b),some (vN i),some (.ref p),some (.ref nw)]/\H1=H0) ?q1 ?t1
  case t1 =>
   intro N Rc
   refine⟨_,rfl,_,rfl,j9 (Q:=fun _ H1=>N [some (.ref b),some (.int one),some (.ref p),some (.ref nw)] H1) hst hB.lg (fun z=>?_) fun i e hi hg=>Rc _ _ ⟨i,e,hi,hg,by rw[e]; rfl,rfl⟩⟩
   have e:plW n go es one pl=miW n go one:=by unfold plW; rw[if_pos z]
   rw[← e]
   exact hw (by rw[e]; exact z)
  case q1 =>
  rintro σ H1 ⟨i,rfl,hone,hgo,rfl,rfl⟩
  have e0:plW n go es (i:Int) pl=if ∃ x∈pl,nn i x.2=false then ("bad pledge" : Px) else if 40<=es.length then "full" else "":=by
   unfold plW
   rw[j5 hone,if_neg hgo,if_neg (fun z=>z rfl),PN]
  rw[e0] at hw q
  rw[PN] at q
  refine aF (fun σ H2=>σ=[some (.ref b),some (vN i),some (.ref p),some (.ref nw)]/\aV H1 H2/\∀ x∈pl,nn i x.2=true) ?q2 ?t2
  case t2 =>
   intro N Rc
   refine⟨_,rfl,_,rfl,_,rfl,nw,p,i,n,co,g,go,es,pl,rfl,hst,hB.lg,by lia,hB.n12,hp,fun z=>?_,fun hn H2 s2=>Rc _ _ ⟨rfl,s2,hn⟩⟩
   rw[if_pos z] at hw
   have:=hw (by decide)
   unfold Th at this
   rw[Mx] at this
   exact this
  case q2 =>
  rintro σ H2 ⟨rfl,s2,hn⟩
  rw[if_neg (fun⟨y,hy,z⟩=>by rw[hn y hy] at z; cases z)] at hw q
  replace hB:=hB.same s2
  obtain⟨dx2,ga,goa,sa,us,hs,hga,hgoa,hsa,hes⟩:=id hB.st
  have les:=hes.length
  refine aF (fun σ H3=>σ=[some (.ref b),some (vN i),some (.ref p),some (.ref nw)]/\H3=H2/\es.length < 40) ?q3 ?t3
  case t3 =>
   intro N Rc
   refine⟨_,rfl,nw,CS,dx2,_,_,rfl,hs,S.cl,S.standing,rfl,sa,_,rfl,.inr (SqT.of hsa),_,_,rfl,rfl,_,rfl,?_⟩
   by_cases z:40<=es.length
   ·rw[decide_eq_true (show ((40:Int)<=((us.length:Nat):Int)) by lia)]
    rw[if_pos z] at hw
    have:=hw (by decide)
    unfold Th at this
    rw[JB] at this
    exact cH (this.mono s2)
   ·rw[decide_eq_false (show ¬ ((40:Int)<=((us.length:Nat):Int)) by lia)]
    exact bG (Rc _ _ ⟨rfl,rfl,by lia⟩)
  case q3 =>
  rintro σ H3 ⟨rfl,rfl,l40'⟩
  rw[if_neg (by lia)] at q
  replace q:=q rfl
  have hb3:=hB.hb
  refine aF (fun σ H4=>∃ (nw' ah':Addr),σ=[some (.ref b),some (vN i),some (.ref p),some (.ref nw)]/\But b be H3 H4/\H3 ah'=none/\Bn CS CB n H4 b be ah' dx nw' (xs++[.ref nw]) [] g go (es++[(co,i,pl)]) (co+1)) ?q4 ?t4
  case t4 =>
   intro N Rc
   refine⟨_,rfl,b,dx,_,rfl,hb3,rfl,?_⟩
   refine⟨_,rfl,nw,CS,dx2,_,_,rfl,hs,S.cl,S.green,rfl,_,rfl,nw,CS,dx2,_,_,rfl,hs,S.cl,S.gone,rfl,_,rfl,nw,CS,dx2,_,_,rfl,hs,S.cl,S.standing,rfl,?_⟩
   refine⟨_,rfl,nw,CS,dx2,_,_,rfl,hs,S.cl,S.coming,rfl,_,rfl,_,rfl,small (by show 3<=1000; decide),fun p1 h1=>?_⟩
   generalize eH5:upd H3 p1 _=H5
   obtain⟨g5,e5⟩:=aW eH5 h1
   refine⟨small (by show 1<=1000; decide),fun p2 h2=>?_⟩
   generalize eH6:upd H5 p2 _=H6
   obtain⟨g6,e6⟩:=aW eH6 h2
   have s36:=g5.trans g6
   refine JQ (s36 _ _ hsa) e6 (by show us.length+1<=1000; lia) fun p3 H7 s7 e7=>?_
   have s37:=s36.trans s7
   refine⟨_,rfl,nw,CS,dx2,_,_,rfl,s37 _ _ hs,S.cl,S.coming,rfl,_,_,rfl,rfl,fun y dx3 hx hdx hne=>?_⟩
   refine jK hx hdx hne fun H8 s8 e8=>⟨rfl,?_⟩
   have s38:=s37.trans s8
   have t38:∀ a ys,H3 a=some (HO.tup ys)->H8 a=some (HO.tup ys):=fun a ys q=>s38 a _ q
   exact Fx (Q:=fun _ H1=>N [some (.ref b),some (vN i),some (.ref p),some (.ref nw)] H1) hB ne l9 s38 ⟨dx3,ga,goa,p3,us++[.ref p1],e8,s38 _ _ hga,s38 _ _ hgoa,s8 _ _ e7,cA.snoc (s8 _ _ (s7 _ _ (g6 _ _ e5))) ((hp.bc fun a ys q=>s2 a _ q).bc t38) (hes.bc t38)⟩ hB.lg hB.n12 (by rw[Qa]; show es.length+1<=40; lia) hB.gn hB.gl fun H' ah' bt fa hB'=>Rc _ _ ⟨_,ah',rfl,bt,fa,hB'⟩
  case q4 =>
  rintro σ H4 ⟨nw',ah',rfl,bt,fa,hB4⟩
  have ks:=bt.ks ne hb3 hB.hbe
  exact⟨_,rfl,nw,CS,dx2,_,_,rfl,ks.2 _ _ _ hs,S.cl,S.coming,rfl,q H4 nw' ah' ((LR s2).trans bt) (s2.free fa) hB4⟩
inductive rz (CS CB:Addr) (x:XA) (vs:List V) (H:Hp) (Q:VK) (E:XK):Prop where
 | mk (b be ah dx nw:Addr) (one:Int) (n co:Nat) (xs zs:List V) (g:List Int) (go:List Nat) (es:List Ent) (z0:vs=[.ref b,.int one]) (z1:Bn CS CB n H b be ah dx nw xs zs g go es co) (z2:xs.length<=900) (z3:(miW n go one≠""->Th x (miW n go one) H E)) (z4:(miW n go one = ""->∀ (H':Hp) (nw' ah':Addr),But b be H H'->H ah'=none->Bn CS CB n H' b be ah' dx nw' (xs++[.ref nw]) [] g (mq (go++[one.toNat])) (es.filter fun e=>decide (e.2.1≠one.toNat)) co->Q .non H')):rz CS CB x vs H Q E
def xm (CS CB:Addr) (x:XA):Sp:=fun vs H Q E=>rz CS CB x vs H Q E
abbrev gU:Stmt:=inClass (top 44) 3
theorem fQ:aM ["self","one","now","left"] ["self","one"] (aA gU):=⟨rfl,rfl,rfl,by decide+kernel,rfl,by decide+kernel,by decide+kernel⟩
theorem mH {CS CB:Addr} {x:XA} (ne:CB≠CS) (F:Fun K "leave" "Boon.leave" gU f fd) (B:Bt mg) (S:yp K CS) (T:zc K CB)
  (D_check_there:Dx P w K mg base "check_there" 4 ["stand","one"] (jQ CS x.nf x.go)) (D_Stand:Dk2 P w K mg base "Stand" CS 1 ["self","green","gone","standing","coming"] (gA CS)) (D_Boon_go_on:Dm2 P w K mg base CB "go_on" 1 ["self","stand"] (jZ CB)) :
  bK P w K mg base (XL P w) 5 f fd ["self","one"] (xm CS CB x):=by
 refine F.okX fQ (fun vs H Q E h=>?_) (fun cdv A outer s H vs Q E hr h=>?_)
 ·obtain⟨b,be,ah,dx,nw,one,n,co,xs,zs,g,go,es,rfl,_⟩:=h
  rfl
 ·obtain⟨b,be,ah,dx,nw,one,n,co,xs,zs,g,go,es,rfl,hB,l9,hw,q⟩:=h
  refine⟨_,(aj (bh (i:=2) fQ.nd rfl (Pr rfl) (aX K rfl (pv 0)))
 (aj (cj (yH D_check_there hr cY (aa (pv 2) (aa (pv 1) ak))))
 (aj (bh (i:=3) fQ.nd rfl (Pr rfl) (cu (r:=rB K) gm rfl B.tuple_ cX (aa (di (L:=["entry"]) (F:=["one"]) (cap:=[1]) rfl (cG rfl rfl (by kernel_rfl)) (c7 (aX K rfl (pv 2))) (fun _ _ _ _ _=>(aP (i:=0) (cg (by decide+kernel)) rfl (Pr rfl))) (fun _ _ _ _ _=>(jV (aG qI (aQ (r:=bI K) aK (pv 0) az (fun _ _=>rfl)) (pv 1) (aL _)))) (fun _ _ _ _ _=>(pv 0))) ak)))
 (aq (cj (DX D_Boon_go_on hr (pv 0) (aa (zj D_Stand hr (aa (aX K rfl (pv 2)) (aa (cu (r:=rB K) gm rfl B.tuple_ cX (aa (aC (r:=Gb K) yd rfl B.sorted_ (by decide+kernel) (aa (bW (r:=nC K) jR (aX K rfl (pv 2)) (bM (aa (pv 1) ak))) ak)) ak)) (aa (pv 3) (aa (aX K rfl (pv 2)) ak))))) ak))))))),?_⟩
  have hb:=hB.hb
  have lgo:=hB.few
  have l40:=hB.l40
  obtain⟨dx2,ga,goa,sa,us,hs,hga,hgoa,hsa,hes⟩:=id hB.st
  have les:=hes.length
  refine aF (fun σ H1=>σ=[some (.ref b),some (.int one),some (.ref nw),none]/\H1=H) ?q0 ?t0
  case t0 =>
   intro N Rc
   exact⟨_,rfl,b,CB,dx,_,_,rfl,hb,T.cl,T.now,rfl,Rc _ _ ⟨rfl,rfl⟩⟩
  case q0 =>
  rintro σ H0 ⟨rfl,rfl⟩
  refine aF (fun σ H1=>∃ i:Nat,one=i/\i < n/\i ∉ go/\σ=[some (.ref b),some (vN i),some (.ref nw),none]/\H1=H0) ?q1 ?t1
  case t1 =>
   intro N Rc
   exact⟨_,rfl,_,rfl,j9 (Q:=fun _ H1=>N [some (.ref b),some (.int one),some (.ref nw),none] H1) hB.st hB.lg hw fun i e hi hg=>Rc _ _ ⟨i,e,hi,hg,by rw[e]; rfl,rfl⟩⟩
  case q1 =>
  rintro σ H2 ⟨i,rfl,hone,hgo,rfl,rfl⟩
  rw[j5 hone,if_neg hgo,PN] at q
  replace q:=q rfl
  refine aF (fun σ H3=>∃ (ch:Addr) (us':List V),σ=[some (.ref b),some (vN i),some (.ref nw),some (.ref ch)]/\aV H2 H3/\H3 ch=some (.tup us')/\cA n H3 us' (es.filter fun e=>decide (e.2.1≠i))) ?q3 ?t3
  case t3 =>
   intro N Rc
   refine⟨_,rfl,nw,CS,dx2,_,_,rfl,hs,S.cl,S.standing,rfl,sa,rfl,⟨_,SqT.of hsa⟩,fun D hD=>eX (K:=K) (a:=sa) (xs:=us) (fun j zs σ' H3=>(∃ u,σ'=[u,some (vN i)])/\aV H2 H3/\H3 D=some (.lst zs)/\cA n H3 zs ((es.take j).filter fun e=>decide (e.2.1≠i)))
    ⟨⟨_,rfl⟩,aD hD _,ao,by rw[Qj]; exact .nil⟩ (fun j zs σ' H3 _ h=>⟨SqT.of (h.2.1 _ _ hsa),h.2.2.1⟩) ?_ ?_⟩
   ·rintro j zs y σ' H3 hx ⟨⟨u,rfl⟩,sm,eD,ez⟩
    obtain⟨e,p2,nu,o2,pl2,rfl,he,hent,hpr⟩:=hes.get hx
    have lz:=ez.length
    have lf:=Ro (fun e:Ent=>decide (e.2.1≠i)) (es.take j)
    rw[Qf] at lf
    have nx:=cA.Nr (n:=n) (p:=fun e:Ent=>decide (e.2.1≠i)) he
    refine⟨_,rfl,e,_,_,_,rfl,rfl,SqT.of (sm _ _ hent),rfl,_,rfl,rfl,_,rfl,?_⟩
    by_cases z:o2=i
    ·rw[show decide (vN o2=vN i)=true from decide_eq_true (by rw[z])]
     show if (!true)=true then _ else _
     refine bG ⟨⟨_,rfl⟩,sm,eD,?_⟩
     rw[nx,if_neg (by rw[decide_eq_false (not_not_intro z)]; exact O2),Q8]
     exact ez
    ·rw[show decide (vN o2=vN i)=false from decide_eq_false fun y=>z (by injection y with y; lia)]
     show if (!false)=true then _ else _
     have tk:=pL (zs':=zs++[.ref e]) eD
     refine cH ⟨_,rfl,eD,bj (by lia),⟨_,rfl⟩,bu sm hD _,ao,?_⟩
     rw[nx,if_pos (decide_eq_true z)]
     exact cA.snoc (tk _ _ (sm _ _ hent)) ((hpr.bc fun a ys q=>sm a _ q).bc tk) (ez.bc tk)
   ·rintro zs σ' H3 ⟨_,sm,eD,ez⟩
    rw[les,Pq] at ez
    refine⟨D,_,rfl,.inl ⟨SqL.of eD,fun a ha=>?_⟩⟩
    have sn:=aD ha (.tup zs)
    exact Rc _ _ ⟨a,zs,rfl,sm.trans sn,ao,ez.bc fun a ys q=>sn a _ q⟩
  case q3 =>
  rintro σ H3 ⟨ch,us',rfl,s3,ech,ees⟩
  have hs3:=s3 _ _ hs
  refine⟨_,rfl,b,dx,_,rfl,s3 _ _ hb,rfl,?_⟩
  refine⟨_,rfl,nw,CS,dx2,_,_,rfl,hs3,S.cl,S.green,rfl,?_⟩
  refine⟨_,rfl,nw,CS,dx2,_,_,rfl,hs3,S.cl,S.gone,rfl,_,rfl,small (by show 1<=1000; decide),fun p1 h1=>?_⟩
  generalize eH4:upd H3 p1 _=H4
  obtain⟨g4,e4⟩:=aW eH4 h1
  refine JQ (g4 _ _ (s3 _ _ hgoa)) e4 (by rw[Ow]; show go.length+1<=1000; lia) fun p2 H5 s5 e5=>?_
  have e5:H5 p2=some (.tup ((go++[i]).map vN)):=by rw[e5,O7]; rfl
  have ep:SqT K H5 p2 (((go++[i]).map fun i:Nat=>(i:Int)).map V.int):=SqT.of (e5.trans (by rw[m5]))
  refine⟨p2,_,rfl,ep,by rw[Ow,Qa]; show go.length+1 < 64; lia,fun ms pms so l hl=>?_⟩
  have ems:=Hh pms so
  subst ems
  generalize eH6:upd H5 l _=H6
  obtain⟨g6,e6⟩:=aW eH6 hl
  refine⟨l,_,rfl,.inl ⟨SqL.of e6,fun tt htt=>?_⟩⟩
  generalize eH7:upd H6 tt _=H7
  obtain⟨g7,e7⟩:=aW eH7 htt
  have s37:=g4.trans (s5.trans (g6.trans g7))
  have s27:=s3.trans s37
  refine⟨_,rfl,_,rfl,nw,CS,dx2,_,_,rfl,s37 _ _ hs3,S.cl,S.coming,rfl,fun y dx3 hx hdx hne=>?_⟩
  refine jK hx hdx hne fun H8 s8 e8=>⟨rfl,?_⟩
  have s28:=s27.trans s8
  have mem:∀ y,y∈mq (go++[i]) ↔ y∈go∨y=i:=fun y=>by rw[(fK _).mem_iff,T7,Rt]
  refine Fx hB ne l9 s28 ⟨dx3,ga,tt,ch,us',e8,s28 _ _ hga,s8 _ _ (e7.trans (by rw[m5])),(s37.trans s8) _ _ ech,ees.bc fun a ys q=>(s37.trans s8) a _ q⟩ hB.lg hB.n12 (PX (Ro _ _) l40) ?_ (fun y hy=>?_) fun H' ah' bt fa hB'=>q H' _ ah' bt fa hB'
  ·refine (fK _).nodup_iff.mpr ?_
   rw[W6]
   refine⟨hB.gn,by simp,fun y hy z hz e=>hgo ?_⟩
   rw[Rt] at hz
   rw[← hz,← e]
   exact hy
  ·rcases (mem y).mp hy with z | z
   ·exact hB.gl y z
   ·rw[z]
    exact hone
abbrev jr:Stmt:=top 43
abbrev jt:Stmt:=inClass (top 44) 7
theorem cL:aM ["stand","rises","steps","crowd","one","step","green"] ["stand","rises"] (aA jr):=⟨rfl,rfl,rfl,by decide+kernel,rfl,by decide+kernel,by decide+kernel⟩
theorem uH:aM ["self","rises"] ["self","rises"] (aA jt):=⟨rfl,rfl,rfl,by decide+kernel,rfl,by decide+kernel,by decide+kernel⟩
inductive RiI (H:Hp):List V->List (Int × Int)->Prop where
 | nil:RiI H [] []
 | cons {us:List V} {ps:List (Int × Int)} {e:Addr} {o s:Int} (h:H e=some (.tup [.int o,.int s])) (r:RiI H us ps):RiI H (.ref e::us) ((o,s)::ps)
theorem RiI.bc {H H':Hp} (t:∀ a xs,H a=some (HO.tup xs)->H' a=some (HO.tup xs)):∀ {us:List V} {ps:List (Int × Int)},RiI H us ps->RiI H' us ps
 | _,_,.nil=>.nil
 | _,_,.cons h r=>.cons (t _ _ h) (r.bc t)
theorem RiI.length {H:Hp}:∀ {us:List V} {ps:List (Int × Int)},RiI H us ps->us.length=ps.length
 | _,_,.nil=>rfl
 | _,_,.cons _ r=>congrArg (· + 1) r.length
theorem RiI.get {H:Hp}:∀ {us:List V} {ps:List (Int × Int)} {i:Nat} {u:V},RiI H us ps->us[i]? = some u->∃ (e:Addr) (o s:Int),u = .ref e/\ps[i]? = some (o,s)/\H e=some (.tup [.int o,.int s])
 | _,_,0,_,.cons h _,q=>by
  cases q
  exact⟨_,_,_,rfl,rfl,h⟩
 | _,_,i+1,_,.cons _ r,q=>r.get (i:=i) q
def seI (g:List Int) (ps:List (Int × Int)):List Int:=ps.foldl (fun g x=>g.set x.1.toNat x.2) g
theorem kE (ps:List (Int × Int)):∀ g:List Int,(seI g ps).length=g.length:=by
 induction ps with
 | nil=>intro g; rfl
 | cons x r ih =>
  intro g
  show (seI (g.set x.1.toNat x.2) r).length=_
  rw[ih,XF]
theorem xQ (g:List Int) (ps:List (Int × Int)) (x:Int × Int):seI g (ps++[x])=(seI g ps).set x.1.toNat x.2:=by
 unfold seI
 rw[List.foldl_append]
 rfl
theorem BV {ps:List (Int × Int)} {j:Nat}:∀ {g:List Int},(∀ x∈ps,x.1.toNat≠j)->(seI g ps).getD j 0=g.getD j 0:=by
 induction ps with
 | nil=>intro g _; rfl
 | cons x r ih =>
  intro g h
  show (seI (g.set x.1.toNat x.2) r).getD j 0=_
  rw[ih fun y hy=>h y (Pb _ hy),Qq,V8 (h x Ph),← Qq]
theorem JN {ps:List (Int × Int)}:∀ {g:List Int} {x:Int × Int},(ps.map (·.1.toNat)).Nodup->x∈ps->x.1.toNat < g.length->(seI g ps).getD x.1.toNat 0=x.2:=by
 induction ps with
 | nil=>intro g x _ h; cases h
 | cons y r ih =>
  intro g x nd h hl
  rw[Qv,List.nodup_cons] at nd
  show (seI (g.set y.1.toNat y.2) r).getD x.1.toNat 0=_
  rcases List.mem_cons.mp h with z | z
  ·rw[z] at hl ⊢
   rw[BV fun w hw e=>nd.1 (by rw[← e]; exact Wh hw),Qq,Ur hl]
   rfl
  ·exact ih nd.2 z (by rw[XF]; exact hl)
def riW (n:Nat) (g:List Int) (go:List Nat):List Nat->List (Int × Int)->Px
 | _,[]=>""
 | seen,x::r=>if miW n go x.1≠"" then miW n go x.1 else if x.1.toNat∈seen∨¬ (g.getD x.1.toNat 0 < x.2/\x.2<=9) then "bad rise" else riW n g go (seen++[x.1.toNat]) r
def haW (n:Nat) (g:List Int) (go:List Nat) (es:List Ent) (ps:List (Int × Int)):Px:=if ps=[] then "bad rise" else if riW n g go [] ps≠"" then riW n g go [] ps else if ∃ x∈ps,mxD 0 (owL es x.1.toNat (seI g ps)) < x.2 then "not due" else ""
structure Bu (n:Nat) (g:List Int) (go:List Nat) (ps:List (Int × Int)) (i:Nat):Prop where
 on:riW n g go ((ps.take i).map (·.1.toNat)) (ps.drop i)=riW n g go [] ps
 nd:((ps.take i).map (·.1.toNat)).Nodup
 al:∀ x∈ps.take i,∃ j:Nat,x.1=j/\j < n/\j ∉ go/\g.getD j 0 < x.2/\x.2<=9
theorem Bu.zero (n:Nat) (g:List Int) (go:List Nat) (ps:List (Int × Int)):Bu n g go ps 0:=⟨rfl,Vo,fun x hx=>by rw[Qj] at hx; cases hx⟩
section
variable {n:Nat} {g:List Int} {go:List Nat} {ps:List (Int × Int)} {i:Nat} {o s:Int}
theorem Bu.word (h:Bu n g go ps i) (hp:ps[i]? = some (o,s)):riW n g go [] ps=if miW n go o≠"" then miW n go o else if o.toNat∈(ps.take i).map (·.1.toNat)∨¬ (g.getD o.toNat 0 < s/\s<=9) then ("bad rise" : Px) else riW n g go ((ps.take i).map (·.1.toNat)++[o.toNat]) (ps.drop (i+1)):=by
 have ip:=(List.getElem?_eq_some_iff.mp hp).1
 rw[← h.on,TJ ip,(List.getElem?_eq_some_iff.mp hp).2]
 rfl
theorem Bu.step (h:Bu n g go ps i) (hp:ps[i]? = some (o,s)) {j:Nat} (ej:o=j) (hj:j < n) (hg:j ∉ go) (hs:j ∉ (ps.take i).map (·.1.toNat)) (h1:g.getD j 0 < s) (h9:s<=9):Bu n g go ps (i+1):=by
 have nx:ps.take (i+1)=ps.take i++[(o,s)]:=by rw[PL,hp]; rfl
 have w:=h.word hp
 rw[ej,j5 hj,if_neg hg,if_neg (fun z=>z rfl),PN,if_neg (fun z=>z.elim hs fun z=>z ⟨h1,h9⟩)] at w
 refine⟨?_,?_,fun x hx=>?_⟩
 ·rw[w,nx,O7,ej]
  rfl
 ·rw[nx,O7,W6]
  refine⟨h.nd,by simp,fun x hx y hy z=>hs ?_⟩
  have hy':y=j:=by
   rw[ej] at hy
   simpa using hy
  rw[← hy',← z]
  exact hx
 ·rw[nx] at hx
  rcases List.mem_append.mp hx with z | z
  ·exact h.al x z
  ·rw[List.mem_singleton.mp z]
   exact⟨j,ej,hj,hg,h1,h9⟩
end
inductive o9 (CS:Addr) (x:XA) (vs:List V) (H:Hp) (Q:VK) (E:XK):Prop where
 | mk (st ra:Addr) (n co:Nat) (g:List Int) (go:List Nat) (es:List Ent) (us:List V) (ps:List (Int × Int)) (z0:vs=[.ref st,.ref ra]) (z1:iy CS n H st g go es co) (z2:g.length=n) (z3:es.length<=40) (z4:H ra=some (.lst us)) (z5:RiI H us ps) (z6:ps.length<=100) (z7:(haW n g go es ps≠""->Th x (haW n g go es ps) H E)) (z8:(haW n g go es ps = ""->∀ (st':Addr) (H':Hp),aV H H'->iy CS n H' st' (seI g ps) go es co->Q (.ref st') H')):o9 CS x vs H Q E
def rZ (CS:Addr) (x:XA):Sp:=fun vs H Q E=>o9 CS x vs H Q E
theorem oR {CS:Addr} {x:XA} {t1:Xu} {k:Nat} (hk:4<=k) (F:Fun K "handed_in" "handed_in" jr f fd) (B:Bt mg) (S:yp K CS) (c_MOST_STEP:mg "MOST_STEP" = some (.int 9 t1))
  (D_check_there:Dx P w K mg base "check_there" 4 ["stand","one"] (jQ CS x.nf x.go)) (D_is_number:Df P w K mg base "is_number" 1 ["thing","low","high"] iu) (D_owed_of:Df P w K mg base "owed_of" k ["standing","one","giving"] wM) (D_Stand:Dk2 P w K mg base "Stand" CS 1 ["self","green","gone","standing","coming"] (gA CS))
  (X_BadRise:Xc P w K mg base "BadRise" x.br "bad rise") (X_NotDue:Xc P w K mg base "NotDue" x.nd "not due") :
  bK P w K mg base (XL P w) (k+1) f fd ["stand","rises"] (rZ CS x):=by
 refine F.okX cL (fun vs H Q E h=>?_) (fun cdv A outer s H vs Q E hr h=>?_)
 ·obtain⟨st,ra,n,co,g,go,es,us,ps,rfl,_⟩:=h
  rfl
 ·obtain⟨st,ra,n,co,g,go,es,us,ps,rfl,hst,lg,l40,hra,hri,p100,hw,q⟩:=h
  refine⟨_,(aj (aY (aG bD (aC (r:=jC K) aU rfl B.len_ bL (aa (pv 1) ak)) az (aL _)) (aq (eN X_BadRise hr rfl dw (hk:=(Uq hk)))) aH)
 (aj (bh (i:=2) cL.nd rfl (Pr rfl) (cu (r:=ji K) dU rfl B.list_ iz (aa (aX K rfl (pv 0)) ak)))
 (aj (bh (i:=3) cL.nd rfl (Pr rfl) (cJ ak))
 (aj (cZ PassesOwn.leaving rfl (dh (pv 1)) (d8 (K:=K) 2 rfl rfl (aZ (aP (i:=4) cL.nd rfl (Pr rfl)) (aZ (aP (i:=5) cL.nd rfl (Pr rfl)) d7))) (aj (cj (yH D_check_there hr cY (aa (pv 0) (aa (pv 4) ak))))
 (aj (aY (PW.pt (gM (aG (r:=rIn K false) fP (pv 4) (pv 3) rfl) (d9 (du (cI (bC D_is_number hr (aa (pv 5) (aa (bW gG (aQ (r:=yV K) dJ (pv 2) (pv 4) (fun _ _=>rfl)) az) (aa (lO c_MOST_STEP) ak))))))))) (aq (eN X_BadRise hr rfl dw (hk:=(Uq hk)))) aH)
 (aj (rY (pv 5) (Gx (pv 2) (pv 4) set_list))
 (aq (cj (DN Ug T3 TY fH (pv 3) (aa (pv 4) ak))))))))
 (aj (bh (i:=6) cL.nd rfl (Pr rfl) (cu (r:=rB K) gm rfl B.tuple_ cX (aa (pv 2) ak)))
 (aj (cZ PassesOwn.leaving rfl (dh (pv 3)) (aP (i:=4) cL.nd rfl (Pr rfl)) (aq (aY (aG Hf (aQ (r:=bI K) aK (pv 6) (pv 4) (fun _ _=>rfl)) (bC D_owed_of hr (aa (aX K rfl (pv 0)) (aa (pv 4) (aa (pv 6) ak)))) (aL _)) (aq (eN X_NotDue hr rfl dw (hk:=(Uq hk)))) aH)))
 (aq (aJ (zj D_Stand hr (aa (pv 6) (aa (aX K rfl (pv 0)) (aa (aX K rfl (pv 0)) (aa (aX K rfl (pv 0)) ak))))))))))))),?_⟩
  obtain⟨dx,ga,goa,sa,es0,hs,hga,hgoa,hsa,hes⟩:=id hst
  have lus:=hri.length
  refine aF (fun σ H1=>σ=[some (.ref st),some (.ref ra),none,none,none,none,none]/\H1=H/\ps≠[]) ?q0 ?t0
  case t0 =>
   intro N Rc
   refine⟨_,rfl,ra,_,rfl,.inl (SqL.of hra),rfl,_,rfl,?_⟩
   by_cases z:ps=[]
   ·rw[show decide (V.int ((us.length:Nat):Int)=V.int 0)=true from decide_eq_true (by rw[lus,z]; rfl)]
    have e:haW n g go es ps = "bad rise":=by unfold haW; rw[if_pos z]
    rw[e] at hw
    have:=hw (by decide)
    unfold Th at this
    rw[Ld] at this
    exact cH this
   ·have p0:0 < ps.length:=List.length_pos_iff.mpr z
    rw[show decide (V.int ((us.length:Nat):Int)=V.int 0)=false from decide_eq_false fun y=>by injection y with y; lia]
    exact bG (Rc _ _ ⟨rfl,rfl,z⟩)
  case q0 =>
  rintro σ H1 ⟨rfl,rfl,pne⟩
  have eha:haW n g go es ps=if riW n g go [] ps≠"" then riW n g go [] ps else if ∃ x∈ps,mxD 0 (owL es x.1.toNat (seI g ps)) < x.2 then ("not due" : Px) else "":=by unfold haW; rw[if_neg pne]
  rw[eha] at hw q
  refine aF (fun σ F1=>∃ a1:Addr,σ=[some (.ref st),some (.ref ra),some (.ref a1),none,none,none,none]/\aV H1 F1/\F1 a1=some (.lst (g.map V.int))/\H1 a1=none) ?qs ?ts
  case ts =>
   intro N Rc
   exact⟨_,rfl,st,CS,dx,_,_,rfl,hs,S.cl,S.green,rfl,ga,_,rfl,.inr (SqT.of hga),fun a1 h1=>Rc _ _ ⟨a1,rfl,aD h1 _,ao,h1⟩⟩
  case qs =>
  rintro σ F1 ⟨a1,rfl,gf1,ef1,h1⟩
  refine aF (fun σ F2=>∃ a2:Addr,σ=[some (.ref st),some (.ref ra),some (.ref a1),some (.ref a2),none,none,none]/\aV F1 F2/\F2 a2=some (.lst [])/\F1 a2=none) ?qt ?tt
  case tt =>
   intro N Rc
   exact⟨small (by show 0<=1000; decide),fun a2 h2=>Rc _ _ ⟨a2,rfl,aD h2 _,ao,h2⟩⟩
  case qt =>
  rintro σ F2 ⟨a2,rfl,gf2,ef2,h2⟩
  have n12':a1≠a2:=fun z=>by rw[z,h2] at ef1; cases ef1
  have ef1':=gf2 _ _ ef1
  have h2':H1 a2=none:=gf1.free h2
  refine aF (fun σ H3=>∃ (u v:Option V),σ=[some (.ref st),some (.ref ra),some (.ref a1),some (.ref a2),u,v,none]/\aV H1 H3/\H3 a1=some (.lst ((seI g ps).map V.int))/\H3 a2=some (.lst ((ps.map (·.1.toNat)).map vN))/\Bu n g go ps ps.length) ?q1 ?t1
  case t1 =>
   intro N Rc
   refine⟨_,rfl,ra,rfl,⟨_,SqL.of ((gf1.trans gf2) _ _ hra)⟩,dq (K:=K) (a:=ra) (xs:=us) (fun i σ H3=>∃ (u v:Option V),σ=[some (.ref st),some (.ref ra),some (.ref a1),some (.ref a2),u,v,none]/\aV H1 H3/\H3 a1=some (.lst ((seI g (ps.take i)).map V.int))/\H3 a2=some (.lst (((ps.take i).map (·.1.toNat)).map vN))/\Bu n g go ps i)
    ⟨_,_,rfl,gf1.trans gf2,ef1',ef2,.zero n g go ps⟩ (fun i σ H3 _ h=>by obtain⟨_,_,_,z,_⟩:=h; exact SqL.of (z _ _ hra)) ?_ ?_⟩
   ·rintro i y σ H3 hx ⟨u,v,rfl,sm,e1,e2,ok⟩
    obtain⟨e,o,sp,rfl,hp,hent⟩:=hri.get hx
    have ip:=(List.getElem?_eq_some_iff.mp hp).1
    have nx:ps.take (i+1)=ps.take i++[(o,sp)]:=by rw[PL,hp]; rfl
    have wd:=ok.word hp
    refine⟨e,_,rfl,SqT.of (sm _ _ hent),rfl,_,_,rfl,_,_,rfl,rfl,?_⟩
    refine aF (fun σ H4=>∃ j:Nat,o=j/\j < n/\j ∉ go/\σ=[some (.ref st),some (.ref ra),some (.ref a1),some (.ref a2),some (vN j),some (.int sp),none]/\H4=H3) ?qc ?tc
    case tc =>
     intro N' Rc'
     refine⟨_,rfl,_,rfl,j9 (Q:=fun _ H1=>N' [some (.ref st),some (.ref ra),some (.ref a1),some (.ref a2),some (.int o),some (.int sp),none] H1) (hst.ks (ksS sm)) lg (fun z=>?_) fun j ej hj hg=>Rc' _ _ ⟨j,ej,hj,hg,by rw[ej]; rfl,rfl⟩⟩
     rw[if_pos z] at wd
     rw[if_pos (by rw[wd]; exact z),wd] at hw
     exact (hw z).mono sm
    case qc =>
    rintro σ H4 ⟨j,rfl,hj,hg,rfl,rfl⟩
    rw[j5 hj,if_neg hg,if_neg (fun z=>z rfl),PN] at wd
    have hol:j < (seI g (ps.take i)).length:=by rw[kE]; lia
    have bad:(j∈(ps.take i).map (·.1.toNat)∨¬ (g.getD j 0 < sp/\sp<=9))->thrown x.br "bad rise" H4 E:=fun z=>by
     rw[if_pos z] at wd
     rw[if_pos (by rw[wd]; decide),wd] at hw
     have:=hw (by decide)
     unfold Th at this
     rw[Ld] at this
     exact this.mono sm
    refine aF (fun σ H5=>σ=[some (.ref st),some (.ref ra),some (.ref a1),some (.ref a2),some (vN j),some (.int sp),none]/\H5=H4/\j ∉ (ps.take i).map (·.1.toNat)/\g.getD j 0 < sp/\sp<=9) ?qa ?ta
    case ta =>
     intro N' Rc'
     refine⟨_,rfl,_,rfl,a2,_,rfl,.inl (SqL.of e2),rfl,gZ _,_,rfl,?_⟩
     rw[show vN j=V.int (j:Int) from rfl,iB]
     by_cases z:j∈(ps.take i).map (·.1.toNat)
     ·rw[if_neg (show ¬ false=true from O2),decide_eq_true z]
      exact cH (bad (.inl z))
     ·rw[if_neg (show ¬ false=true from O2),decide_eq_false z]
      have ge:(seI g (ps.take i)).getD j 0=g.getD j 0:=BV fun y hy e=>z (by rw[← e]; exact Wh hy)
      have gei:(seI g (ps.take i)).getD j 0=(seI g (ps.take i))[j]:=by rw[Qq,PB hol]; rfl
      refine bG ?_
      refine⟨_,rfl,_,rfl,_,rfl,a1,_,_,_,rfl,rfl,SqL.of e1,w6 hol,_,_,rfl,rfl,.int sp,_,9,rfl,.int _,_,rfl,?_⟩
      rw[show isNum (.int sp) ((seI g (ps.take i))[j]+1) 9=decide (g.getD j 0 < sp/\sp<=9) by
       show (decide ((seI g (ps.take i))[j]+1<=sp) && decide (sp<=9))=_
       rw[← gei,ge,Bool.decide_and]
       rfl]
      by_cases y:g.getD j 0 < sp/\sp<=9
      ·rw[decide_eq_true y]
       exact bG (Rc' _ _ ⟨rfl,rfl,z,y⟩)
      ·rw[decide_eq_false y]
       exact cH (bad (.inr y))
    case qa =>
    rintro σ H5 ⟨rfl,rfl,nin,h1',h9'⟩
    refine⟨_,rfl,_,rfl,_,rfl,a1,_,_,j,rfl,rfl,e1,?_,?_⟩
    ·unfold ixN
     rw[if_pos (by lia),if_pos (by rw[Ow]; lia)]
     rfl
    ·generalize eU:upd _ a1 _=H6
     have e16:H6 a1=some (.lst ((seI g (ps.take (i+1))).map V.int)):=by
      rw[← eU,ao,nx,xQ,List.map_set]
      rfl
     have e26:H6 a2=some (.lst (((ps.take i).map (·.1.toNat)).map vN)):=by
      rw[← eU,aN n12'.symm]
      exact e2
     have s6:aV H1 H6:=by
      rw[← eU]
      exact bu sm h1 _
     refine⟨_,rfl,.inl ⟨rfl,_,SqL.of e26⟩,_,rfl,a2,_,_,rfl,rfl,e26,bj (by rw[Ow,Ow,Qf]; lia),_,_,rfl,bu s6 h2' _,?_,?_,ok.step hp rfl hj hg nin h1' h9'⟩
     ·rw[aN n12']
      exact e16
     ·rw[ao,nx,O7,O7]
      rfl
   ·rintro σ H3 ⟨u,v,rfl,sm,e1,e2,ok⟩
    rw[lus] at ok
    rw[lus,Pq] at e1 e2
    exact Rc _ _ ⟨u,v,rfl,sm,e1,e2,ok⟩
  case q1 =>
  rintro σ H3 ⟨u,v,rfl,sm,e1,e2,ok⟩
  have ri:riW n g go [] ps = "":=by
   rw[← ok.on,Xm]
   rfl
  have al:=ok.al
  have ndu:=ok.nd
  rw[Pq] at al ndu
  rw[if_neg (by rw[ri]; decide)] at hw q
  refine aF (fun σ H4=>∃ gr:Addr,σ=[some (.ref st),some (.ref ra),some (.ref a1),some (.ref a2),u,v,some (.ref gr)]/\aV H3 H4/\H4 gr=some (.tup ((seI g ps).map V.int))) ?q2 ?t2
  case t2 =>
   intro N Rc
   refine⟨_,rfl,a1,_,rfl,.inl ⟨SqL.of e1,fun l hl=>Rc _ _ ⟨l,rfl,aD hl _,?_⟩⟩⟩
   rw[ao]
  case q2 =>
  rintro σ H4 ⟨gr,rfl,s4,egr⟩
  have sm4:=sm.trans s4
  have sl:(seI g ps).length=n:=by rw[kE]; exact lg
  refine aF (fun σ H5=>∃ u:Option V,σ=[some (.ref st),some (.ref ra),some (.ref a1),some (.ref a2),u,v,some (.ref gr)]/\aV H4 H5/\∀ x∈ps,¬ mxD 0 (owL es x.1.toNat (seI g ps)) < x.2) ?q3 ?t3
  case t3 =>
   intro N Rc
   refine⟨_,rfl,a2,rfl,⟨_,SqL.of (s4 _ _ e2)⟩,dq (K:=K) (a:=a2) (xs:=(ps.map (·.1.toNat)).map vN) (fun i σ H5=>∃ u:Option V,σ=[some (.ref st),some (.ref ra),some (.ref a1),some (.ref a2),u,v,some (.ref gr)]/\aV H4 H5/\∀ x∈ps.take i,¬ mxD 0 (owL es x.1.toNat (seI g ps)) < x.2)
    ⟨_,rfl,aV.refl _,fun x hx=>by rw[Qj] at hx; cases hx⟩ (fun i σ H5 _ h=>by obtain⟨_,_,z,_⟩:=h; exact SqL.of (z _ _ (s4 _ _ e2))) ?_ ?_⟩
   ·rintro i y σ H5 hx ⟨u,rfl,s5,hno⟩
    rw[Pk,Pk] at hx
    obtain⟨z,hz,rfl⟩:∃ z,ps[i]? = some z/\y=vN z.1.toNat:=by
     cases w:ps[i]? with
     | none=>rw[w] at hx; cases hx
     | some z=>rw[w] at hx; cases hx; exact⟨z,rfl,rfl⟩
    have hm:=Qe hz
    obtain⟨j,ej,hj,_⟩:=al z hm
    have ejn:z.1.toNat=j:=by lia
    have hol:z.1.toNat < (seI g ps).length:=by rw[sl,ejn]; exact hj
    have gei:(seI g ps)[z.1.toNat]=z.2:=by
     have h1:=JN ndu hm (by rw[lg,ejn]; exact hj)
     rw[Qq,PB hol] at h1
     exact h1
    have sm5:=sm4.trans s5
    refine⟨_,rfl,_,rfl,gr,_,_,_,rfl,rfl,SqT.of (s5 _ _ egr),w6 hol,?_⟩
    refine⟨_,rfl,st,CS,dx,_,_,rfl,sm5 _ _ hs,S.cl,S.standing,rfl,_,rfl,_,rfl,sa,gr,z.1.toNat,n,es0,es,_,rfl,sm5 _ _ hsa,hes.bc fun a xs q=>sm5 a _ q,by lia,s5 _ _ egr,sl,fun H6 s6=>?_⟩
    refine⟨_,_,rfl,rfl,_,rfl,?_⟩
    rw[gei]
    by_cases y:mxD 0 (owL es z.1.toNat (seI g ps)) < z.2
    ·rw[decide_eq_true y]
     rw[if_pos ⟨z,hm,y⟩] at hw
     have:=hw (by decide)
     unfold Th at this
     rw[Ls] at this
     exact cH (this.mono (sm5.trans s6))
    ·rw[decide_eq_false y]
     refine bG ⟨_,rfl,s5.trans s6,fun x hx=>?_⟩
     rw[PL,hz] at hx
     rcases List.mem_append.mp hx with w | w
     ·exact hno x w
     ·rw[List.mem_singleton.mp w]
      exact y
   ·rintro σ H5 ⟨u,rfl,s5,hno⟩
    rw[Ow,Ow,Pq] at hno
    exact Rc _ _ ⟨u,rfl,s5,hno⟩
  case q3 =>
  rintro σ H5 ⟨u,rfl,s5,hno⟩
  rw[if_neg fun⟨x,hx,z⟩=>hno x hx z] at q
  have sm5:=sm4.trans s5
  have hs5:=sm5 _ _ hs
  refine⟨_,rfl,_,rfl,st,CS,dx,_,_,rfl,hs5,S.cl,S.gone,rfl,_,rfl,st,CS,dx,_,_,rfl,hs5,S.cl,S.standing,rfl,_,rfl,st,CS,dx,_,_,rfl,hs5,S.cl,S.coming,rfl,fun y dx3 hx hdx hne=>?_⟩
  refine jK hx hdx hne fun H6 s6 e6=>⟨rfl,?_⟩
  have s16:=sm5.trans s6
  exact q rfl y H6 s16 ⟨dx3,gr,goa,sa,es0,e6,s6 _ _ (s5 _ _ egr),s16 _ _ hgoa,s16 _ _ hsa,hes.bc fun a xs q=>s16 a _ q⟩
inductive xH (CS CB:Addr) (x:XA) (vs:List V) (H:Hp) (Q:VK) (E:XK):Prop where
 | mk (b be ah dx nw ra:Addr) (n co:Nat) (xs zs us:List V) (g:List Int) (go:List Nat) (es:List Ent) (ps:List (Int × Int)) (z0:vs=[.ref b,.ref ra]) (z1:Bn CS CB n H b be ah dx nw xs zs g go es co) (z2:xs.length<=900) (z3:H ra=some (.lst us)) (z4:RiI H us ps) (z5:ps.length<=100) (z6:(haW n g go es ps≠""->Th x (haW n g go es ps) H E)) (z7:(haW n g go es ps = ""->∀ (H':Hp) (nw' ah':Addr),But b be H H'->H ah'=none->Bn CS CB n H' b be ah' dx nw' (xs++[.ref nw]) [] (seI g ps) go es co->Q .non H')):xH CS CB x vs H Q E
def Aj (CS CB:Addr) (x:XA):Sp:=fun vs H Q E=>xH CS CB x vs H Q E
theorem oU {CS CB:Addr} {x:XA} {k:Nat} (hk:2<=k) (ne:CB≠CS) (F:Fun K "hand" "Boon.hand" jt f fd) (B:Bt mg) (T:zc K CB)
  (D_handed_in:Dx P w K mg base "handed_in" k ["stand","rises"] (rZ CS x)) (D_Boon_go_on:Dm2 P w K mg base CB "go_on" 1 ["self","stand"] (jZ CB)):bK P w K mg base (XL P w) (k+1) f fd ["self","rises"] (Aj CS CB x):=by
 refine F.okX uH (fun vs H Q E h=>?_) (fun cdv A outer s H vs Q E hr h=>?_)
 ·obtain⟨b,be,ah,dx,nw,ra,n,co,xs,zs,us,g,go,es,ps,rfl,_⟩:=h
  rfl
 ·obtain⟨b,be,ah,dx,nw,ra,n,co,xs,zs,us,g,go,es,ps,rfl,hB,l9,hra,hri,p100,hw,q⟩:=h
  refine⟨_,(aq (cj (DX D_Boon_go_on hr (pv 0) (aa (yH D_handed_in hr cY (aa (aX K rfl (pv 0)) (aa (pv 1) ak))) ak)))),?_⟩
  refine⟨_,rfl,b,dx,_,rfl,hB.hb,rfl,?_⟩
  refine⟨_,rfl,b,CB,dx,_,_,rfl,hB.hb,T.cl,T.now,rfl,_,rfl,nw,ra,n,co,g,go,es,us,ps,rfl,hB.st,hB.lg,hB.l40,hra,hri,p100,hw,fun z st' H1 s1 hst1=>?_⟩
  exact Fx hB ne l9 s1 hst1 (by rw[kE]; exact hB.lg) hB.n12 hB.l40 hB.gn hB.gl fun H' ah' bt fa hB'=>q z H' _ ah' bt fa hB'
def prF (n:Nat) (go:List Nat):List V:=(Rk n).map fun i=>.bl (decide (i ∉ go))
theorem cP (n:Nat) (go:List Nat):(prF n go).length=n:=by unfold prF; rw[Ow,RB]
theorem zU {n i:Nat} {go:List Nat} (h:i < n):(prF n go)[i]? = some (.bl (decide (i ∉ go))):=by
 unfold prF
 rw[Pk,Wj h]
 rfl
inductive TbR (n:Nat) (H:Hp):List (Key × V)->List Ent->Prop where
 | nil:TbR n H [] []
 | cons {t p:Addr} {num one:Nat} {pl:Pl} {kvs:List (Key × V)} {es:List Ent} (h:H t=some (.tup [vN one,.ref p])) (q:lB n H p pl) (r:TbR n H kvs es):TbR n H ((Ru (num:Int),.ref t)::kvs) ((num,one,pl)::es)
section
variable {n m:Nat} {H H':Hp}
theorem TbR.bc (e:∀ a xs,H a=some (HO.tup xs)->H' a=some (HO.tup xs)):∀ {kvs:List (Key × V)} {es:List Ent},TbR n H kvs es->TbR n H' kvs es
 | _,_,.nil=>.nil
 | _,_,.cons h q r=>.cons (e _ _ h) (q.bc e) (TbR.bc e r)
theorem TbR.le (h:n<=m):∀ {kvs:List (Key × V)} {es:List Ent},TbR n H kvs es->TbR m H kvs es
 | _,_,.nil=>.nil
 | _,_,.cons a q r=>.cons a (q.le h) (TbR.le h r)
theorem TbR.length:∀ {kvs:List (Key × V)} {es:List Ent},TbR n H kvs es->kvs.length=es.length
 | _,_,.nil=>rfl
 | _,_,.cons _ _ r=>congrArg (· + 1) (TbR.length r)
theorem TbR.keys:∀ {kvs:List (Key × V)} {es:List Ent},TbR n H kvs es->kvs.map (·.1)=(es.map fun e=>(e.1:Int)).map Ru
 | _,_,.nil=>rfl
 | _,_,.cons _ _ r=>congrArg (_::·) (TbR.keys r)
theorem TbR.snoc {t p:Addr} {num one:Nat} {pl:Pl} (h:H t=some (.tup [vN one,.ref p])) (q:lB n H p pl):∀ {kvs:List (Key × V)} {es:List Ent},TbR n H kvs es->TbR n H (kvs++[(Ru (num:Int),.ref t)]) (es++[(num,one,pl)])
 | _,_,.nil=>.cons h q .nil
 | _,_,.cons a b r=>.cons a b (TbR.snoc h q r)
theorem TbR.val {i:Nat} {e:Ent}:∀ {kvs:List (Key × V)} {es:List Ent},TbR n H kvs es->(es.map (·.1)).Nodup->es[i]? = some e->∃ (t p:Addr),uL kvs (Ru (e.1:Int))=some (.ref t)/\H t=some (.tup [vN e.2.1,.ref p])/\lB n H p e.2.2
 | _,_,.nil,_,h=>by simp at h
 | _,_,.cons (num:=num) (es:=es) h q r,nd,he=>by
  rw[Qv,List.nodup_cons] at nd
  cases i with
  | zero =>
   cases (show some _=some _ from he)
   exact⟨_,_,lX rfl,h,q⟩
  | succ i =>
   have he':es[i]? = some e:=by simpa using he
   obtain⟨t,p,h1,h2,h3⟩:=TbR.val (i:=i) r nd.2 he'
   refine⟨t,p,?_,h2,h3⟩
   rw[jG fun z=>nd.1 ?_]
   ·exact h1
   ·have:(num:Int)=(e.1:Int):=Sum.inl.inj z
    rw[show num=e.1 by lia]
    exact List.mem_map.mpr ⟨e,Qe he',rfl⟩
theorem TbR.none {k:Int}:∀ {kvs:List (Key × V)} {es:List Ent},TbR n H kvs es->(∀ e∈es,(e.1:Int)≠k)->uL kvs (Ru k)=none
 | _,_,.nil,_=>rfl
 | _,_,.cons _ _ r,h=>by
  rw[jG fun z=>h _ Ph (Sum.inl.inj z)]
  exact TbR.none r fun e he=>h e (Pb _ he)
end
structure EsU (n:Nat) (go:List Nat) (es:List Ent) (co:Nat):Prop where
 up:(es.map (·.1)).Pairwise (· < ·)
 lt:∀ e∈es,e.1 < co/\e.2.1 < n/\e.2.1 ∉ go
section
variable {n:Nat} {go:List Nat} {es:List Ent} {co:Nat}
theorem EsU.nd (h:EsU n go es co):(es.map (·.1)).Nodup:=h.up.imp fun z=>Pa z
theorem EsU.sort (h:EsU n go es co) {ms:List Int} (p:ms.Perm (es.map fun e=>(e.1:Int))) (so:ms.Pairwise (·<=·)):ms=es.map fun e=>(e.1:Int):=by
 refine iH p so ?_
 have:=h.up
 rw[WY] at this ⊢
 exact this.imp fun z=>by lia
end
def StR (be:Addr) (n:Nat) (H:Hp) (a:Addr) (g:List Int) (go:List Nat) (es:List Ent) (co:Nat):Prop :=
 ∃ (pa ga ta:Addr) (kvs:List (Key × V)),H a=some (.tup [.ref pa,.ref ga,.ref ta,vN co])/\H pa=some (.lst (prF n go))/\H ga=some (.tup (g.map V.int))/\H ta=some (.dK kvs)/\TbR n H kvs es/\pa≠be
theorem StR.same {be:Addr} {n:Nat} {H H':Hp} {a:Addr} {g:List Int} {go:List Nat} {es:List Ent} {co:Nat} (s:aV H H') (h:StR be n H a g go es co):StR be n H' a g go es co:=by
 obtain⟨pa,ga,ta,kvs,h1,h2,h3,h4,h5,h6⟩:=h
 exact⟨pa,ga,ta,kvs,s _ _ h1,s _ _ h2,s _ _ h3,s _ _ h4,h5.bc fun a xs z=>s _ _ z,h6⟩
theorem StR.sT {be:Addr} {n:Nat} {H H':Hp} {a:Addr} {g:List Int} {go:List Nat} {es:List Ent} {co:Nat} (s:gO H H') (h:StR be n H a g go es co):StR be n H' a g go es co:=by
 obtain⟨pa,ga,ta,kvs,h1,h2,h3,h4,h5,h6⟩:=h
 exact⟨pa,ga,ta,kvs,stT s h1,stL s h2,stT s h3,s _ _ (fun _ z=>nomatch z) h4,h5.bc fun a xs z=>stT s z,h6⟩
theorem StR.but {CB:Addr} {be b dx:Addr} {fs:List (Px × V)} {xs:List V} {n:Nat} {H H':Hp} {a:Addr} {g:List Int} {go:List Nat} {es:List Ent} {co:Nat} (hb:H b=some (.ins CB dx fs)) (hbe:H be=some (.lst xs)) (s:But b be H H') (h:StR be n H a g go es co):StR be n H' a g go es co:=by
 obtain⟨pa,ga,ta,kvs,h1,h2,h3,h4,h5,h6⟩:=h
 have tp:∀ a ys,H a=some (HO.tup ys)->H' a=some (HO.tup ys):=fun a ys q=>s a _ (fun z=>by rw[z,hb] at q; cases q) (fun z=>by rw[z,hbe] at q; cases q) q
 exact⟨pa,ga,ta,kvs,tp _ _ h1,s _ _ (fun z=>by rw[z,hb] at h2; cases h2) h6 h2,tp _ _ h3,s _ _ (fun z=>by rw[z,hb] at h4; cases h4) (fun z=>by rw[z,hbe] at h4; cases h4) h4,h5.bc tp,h6⟩
abbrev gf:Stmt:=top 61
theorem oO:aM ["_law_state","_law_one"] ["_law_state","_law_one"] (aA gf):=⟨rfl,rfl,rfl,by decide+kernel,rfl,by decide+kernel,by decide+kernel⟩
inductive o5 (vs:List V) (H:Hp) (Q:VK):Prop where
 | mk (be a:Addr) (o:Int) (n:Nat) (g:List Int) (go:List Nat) (es:List Ent) (co:Nat) (z0:vs=[.ref a,.int o]) (z1:StR be n H a g go es co) (z2:Q (.str (miW n go o)) H):o5  vs H Q
def nQ:Sp:=fun vs H Q _=>o5  vs H Q
theorem oV (F:Fun K "_law_missing" "_law_missing" gf f fd) (B:Bt mg):bK P w K mg base CX0 1 f fd ["_law_state","_law_one"] nQ:=by
 refine F.ok oO (fun vs H Q E h=>?_) (fun cdv A outer s H vs Q E hr h=>?_)
 ·obtain⟨be,a,o,n,g,go,es,co,rfl,_⟩:=h
  rfl
 ·obtain⟨be,a,o,n,g,go,es,co,rfl,⟨pa,ga,ta,kvs,h1,h2,h3,h4,h5,h6⟩,q⟩:=h
  refine⟨_,(aj (aY (PW.pt (gM (aG yx (pv 1) az (aL _)) (d9 (aG jM (pv 1) (aC (r:=jC K) aU rfl B.len_ bL (aa (aQ (r:=bI K) aK (pv 0) az (fun _ _=>rfl)) ak)) (aL _))))) (aq (aJ aO)) aH)
 (aq (aJ (pQ (cI (aQ (r:=yV K) dJ (aQ (r:=bI K) aK (pv 0) az (fun _ _=>rfl)) (pv 1) (fun _ _=>rfl))) aO aO)))),?_⟩
  refine aF (fun σ H1=>σ=[some (.ref a),some (.int o)]/\H1=H/\¬ (o < 0∨(n:Int)<=o)) ?q1 ?t1
  case t1 =>
   intro N Rc
   have e1:(o < 0∨(n:Int)<=o)->Q (.str "no folk") H:=fun z=>by
    have:miW n go o = "no folk":=by unfold miW; rw[if_pos z]
    rw[← this]
    exact q
   refine⟨_,rfl,_,_,rfl,rfl,_,rfl,?_⟩
   refine zb (fun z=>cH (e1 (.inl (of_decide_eq_true z)))) (fun z=>?_)
   refine⟨_,rfl,_,rfl,a,_,_,_,rfl,rfl,SqT.of h1,au (k:=0) rfl,pa,_,rfl,.inl (SqL.of h2),_,_,rfl,rfl,_,rfl,?_⟩
   rw[cP]
   refine zb (fun y=>e1 (.inr (of_decide_eq_true y))) (fun y=>Rc _ _ ⟨rfl,rfl,fun x=>x.elim (fun v=>z (decide_eq_true v)) (fun v=>y (decide_eq_true v))⟩)
  case q1 =>
  rintro σ H1 ⟨rfl,rfl,hn⟩
  have hi:o.toNat < n:=by lia
  have eo:o=((o.toNat:Nat):Int):=by lia
  have em:miW n go o=if o.toNat∈go then ("gone" : Px) else "":=by unfold miW; rw[if_neg hn]
  rw[em] at q
  refine⟨_,rfl,a,_,_,_,rfl,rfl,SqT.of h1,au (k:=0) rfl,_,rfl,pa,_,_,.bl (decide (o.toNat ∉ go)),rfl,rfl,SqL.of h2,?_,_,rfl,?_⟩
  ·rw[eo]
   exact gj (by rw[PN]; exact zU hi)
  ·by_cases z:o.toNat∈go
   ·rw[decide_eq_false (not_not_intro z)]
    rw[if_pos z] at q
    exact bG q
   ·rw[decide_eq_true z]
    rw[if_neg z] at q
    exact cH q
abbrev gW:Stmt:=top 60
theorem qX:aM ["_law_table","_law_one"] ["_law_table","_law_one"] (aA gW):=⟨rfl,rfl,rfl,by decide+kernel,rfl,by decide+kernel,by decide+kernel⟩
def miP (es:List Ent) (o:Int):List Pl:=(es.filter fun e=>decide ((e.2.1:Int)=o)).map fun e=>e.2.2
inductive uE (vs:List V) (H:Hp) (Q:VK):Prop where
 | mk (ta:Addr) (o:Int) (n:Nat) (kvs:List (Key × V)) (es:List Ent) (z0:vs=[.ref ta,.int o]) (z1:H ta=some (.dK kvs)) (z2:TbR n H kvs es) (z3:(es.map (·.1)).Pairwise (· < ·)) (z4:es.length<=40) (z5:∀ (l:Addr) (as:List Addr) (H':Hp),aV H H'->H l=none->H' l=some (.lst (as.map V.ref))->as.length<=40->fD n H' as (miP es o)->Q (.ref l) H'):uE  vs H Q
def v7:Sp:=fun vs H Q _=>uE  vs H Q
theorem qL (F:Fun K "_law_listed" "_law_listed" gW f fd) (B:Bt mg):bK P w K mg base CX0 2 f fd ["_law_table","_law_one"] v7:=by
 refine F.ok qX (fun vs H Q E h=>?_) (fun cdv A outer s H vs Q E hr h=>?_)
 ·obtain⟨ta,o,n,kvs,es,rfl,_⟩:=h
  rfl
 ·obtain⟨ta,o,n,kvs,es,rfl,hta,tb,up,l40,q⟩:=h
  refine⟨_,(aq (aJ (di (L:=["_law_number"]) (F:=["_law_table","_law_one"]) (cap:=[0,1]) rfl (cG rfl rfl (by kernel_rfl)) (dh (aC (r:=vY) (kJ rfl) rfl B.sorted_ (by decide+kernel) (aa (pv 0) ak))) (fun _ _ _ _ _=>(aP (i:=0) (cg (by decide+kernel)) rfl (Pr rfl))) (fun _ _ _ _ _=>(jV (aG bD (aQ (r:=bI K) aK (mF hr.mO (pv 1) (pv 0) (fun _ _=>rfl)) az (fun _ _=>rfl)) (pv 2) (aL _)))) (fun _ _ _ _ _=>(aQ (r:=bI K) aK (mF hr.mO (pv 1) (pv 0) (fun _ _=>rfl)) az (fun _ _=>rfl)))))),?_⟩
  have nd:(es.map (·.1)).Nodup:=up.imp fun z=>Pa z
  refine⟨_,rfl,ta,kvs,es.map fun e=>(e.1:Int),rfl,hta,tb.keys,by rw[Ow]; lia,fun ms pm so l hl=>?_⟩
  have em:ms=es.map fun e=>(e.1:Int):=iH pm so (by rw[WY] at up ⊢; exact up.imp fun z=>by lia)
  subst em
  generalize eH1:upd H l _=H1
  obtain⟨s1,e1⟩:=aW eH1 hl
  refine⟨l,rfl,⟨_,SqL.of e1⟩,fun D hD=>mQ (K:=K) (a:=l) (xs:=(es.map fun e=>(e.1:Int)).map V.int) (fun i zs σ' H2=>(∃ u,σ'=[u,some (.ref ta),some (.int o)])/\aV H1 H2/\H2 D=some (.lst zs)/\∃ as:List Addr,zs=as.map V.ref/\as.length<=i/\fD n H2 as (miP (es.take i) o))
   ⟨⟨_,rfl⟩,aD hD _,ao,[],rfl,OJ _,by rw[Qj]; exact .nil⟩ (fun i zs σ' H2 _ h=>⟨SqL.of (h.2.1 _ _ e1),h.2.2.1⟩) ?_ ?_⟩
  ·rintro i zs x σ' H2 hx ⟨⟨u,rfl⟩,sm,eD,as,rfl,las,ps⟩
   rw[Pk,Pk] at hx
   obtain⟨e,he,rfl⟩:∃ e,es[i]? = some e/\x = .int (e.1:Int):=by
    cases z:es[i]? with
    | none=>rw[z] at hx; cases hx
    | some e=>rw[z] at hx; cases hx; exact⟨e,rfl,rfl⟩
   have ie:=(List.getElem?_eq_some_iff.mp he).1
   have s02:=s1.trans sm
   obtain⟨t,p,hv,ht,hp⟩:=tb.val nd he
   have nx:miP (es.take (i+1)) o=miP (es.take i) o++if (e.2.1:Int)=o then [e.2.2] else []:=by
    unfold miP
    rw[PL,he,Sg,O7]
    congr 1
    by_cases z:(e.2.1:Int)=o
    ·rw[if_pos z,show (Option.toList (some e))=[e] from rfl,Uh (by exact decide_eq_true z)]
     rfl
    ·rw[if_neg z,show (Option.toList (some e))=[e] from rfl,Ui (by rw[decide_eq_false z]; exact O2)]
     rfl
   have dg:Ae H2 ta (.int (e.1:Int)) (some (.ref t)):=by
    rw[← hv]
    exact Ae.k (k:=Ru (e.1:Int)) (s02 _ _ hta)
   refine⟨_,rfl,_,rfl,ta,_,rfl,dg,t,_,_,_,rfl,rfl,SqT.of (s02 _ _ ht),au (k:=0) rfl,_,rfl,rfl,_,rfl,?_⟩
   by_cases z:(e.2.1:Int)=o
   ·rw[show decide (vN e.2.1=V.int o)=true from decide_eq_true (by rw[← z]; rfl)]
    refine cH ⟨_,rfl,_,rfl,ta,_,rfl,dg,t,_,_,_,rfl,rfl,SqT.of (s02 _ _ ht),au (k:=1) rfl,eD,bj (by rw[Ow]; lia),⟨_,rfl⟩,bu sm hD _,ao,as++[p],?_,?_,?_⟩
    ·rw[O7]
     rfl
    ·rw[Qa]
     show as.length+1<=_
     lia
    ·rw[nx,if_pos z]
     have tk:=pL (zs':=as.map V.ref++[.ref p]) eD
     exact fD.snoc ((hp.bc fun a xs w=>s02 _ _ w).bc tk) (ps.bc tk)
   ·rw[show decide (vN e.2.1=V.int o)=false from decide_eq_false fun y=>z (by injection y)]
    refine bG ⟨⟨_,rfl⟩,sm,eD,as,rfl,by lia,?_⟩
    rw[nx,if_neg z,Q8]
    exact ps
  ·rintro zs σ' H2 ⟨_,sm,eD,as,rfl,las,ps⟩
   rw[Ow,Ow] at las ps
   rw[Pq] at ps
   exact q D as H2 (s1.trans sm) (s1.free hD) eD (by lia) ps
theorem Lz {es:List Ent} (ok:∀ e∈es,okP e.2.2) (one:Nat) (g:List Int):duF g 0 (miP es (one:Int))=mxD 0 (owL es one g):=by
 have e:owL es one g=(miP es (one:Int)).map (owF g):=by
  unfold owL miP
  rw[List.map_map]
  have:(fun e:Ent=>decide (e.2.1=one))=fun e:Ent=>decide ((e.2.1:Int)=(one:Int)):=by
   funext e
   exact decide_eq_decide.mpr ⟨fun h=>by rw[h],fun h=>by lia⟩
  rw[this]
  rfl
 unfold duF
 rw[← e]
 have all:∀ x∈owL es one g,0<=x:=fun x hx=>by
  obtain⟨e,he,rfl⟩:=List.mem_map.mp hx
  exact xZ fun y hy=>by have:=((ok e (List.mem_filter.mp he).1).2.2.2 y hy).1; lia
 cases h:owL es one g with
 | nil=>rfl
 | cons a r =>
  have:=all a (by rw[h]; exact Ph)
  show r.foldl max (max 0 a)=r.foldl max a
  rw[show max 0 a=a by lia]
theorem TbR.ok {n:Nat} {H:Hp}:∀ {kvs:List (Key × V)} {es:List Ent},TbR n H kvs es->∀ e∈es,okP e.2.2
 | _,_,.nil,e,h=>by cases h
 | _,_,.cons _ p r,e,h=>by
  rcases List.mem_cons.mp h with z | z
  ·rw[z]
   exact p.1
  ·exact TbR.ok r e z
abbrev j6:Stmt:=top 62
theorem fY:aM ["_law_state","_law_one","_law_pledge","_law_step","_law_term_here","_law_names"] ["_law_state","_law_one","_law_pledge"] (aA j6):=⟨rfl,rfl,rfl,by decide+kernel,rfl,by decide+kernel,by decide+kernel⟩
inductive CJ (vs:List V) (H:Hp) (Q:VK):Prop where
 | mk (be a p:Addr) (i n:Nat) (g:List Int) (go:List Nat) (es:List Ent) (co:Nat) (pl:Pl) (z0:vs=[.ref a,vN i,.ref p]) (z1:StR be n H a g go es co) (z2:lB n H p pl) (z3:1<=n) (z4:n<=12) (z5:((∃ x∈pl,nn i x.2=false)->∀ H',aV H H'->Q (.bl false) H')) (z6:((¬ ∃ x∈pl,nn i x.2=false)->∀ H',aV H H'->Q (.bl true) H')):CJ  vs H Q
def Gh:Sp:=fun vs H Q _=>CJ  vs H Q
theorem Jp {n:Nat} {c:List Nat} (hn:1<=n) (h:∀ i∈c,i < n):mxD 0 (0::c.map fun i:Nat=>(i:Int)) < (n:Int):=by
 show (c.map fun i:Nat=>(i:Int)).foldl max 0 < (n:Int)
 have:∀ (l:List Nat) (a:Int),a < n->(∀ i∈l,i < n)->(l.map fun i:Nat=>(i:Int)).foldl max a < (n:Int):=by
  intro l
  induction l with
  | nil=>intro a ha _; exact ha
  | cons b r ih =>
   intro a ha hl
   refine ih _ ?_ fun i hi=>hl i (Pb _ hi)
   have:=hl b Ph
   show max a (b:Int) < (n:Int)
   lia
 exact this c 0 (by lia) h
theorem vI (F:Fun K "_law_good" "_law_good" j6 f fd) (B:Bt mg) (D_law_named:Df P w K mg base "_law_named" 4 ["_law_term_here"] (gR 4)):bK P w K mg base CX0 5 f fd ["_law_state","_law_one","_law_pledge"] Gh:=by
 refine F.ok fY (fun vs H Q E h=>?_) (fun cdv A outer s H vs Q E hr h=>?_)
 ·obtain⟨be,a,p,i,n,g,go,es,co,pl,rfl,_⟩:=h
  rfl
 ·obtain⟨be,a,p,i,n,g,go,es,co,pl,rfl,⟨pa,ga,ta,kvs,h1,h2,h3,h4,h5,h6⟩,⟨okp,vs,hp,rv⟩,n1,n12,q0,q1⟩:=h
  refine⟨_,(aj (cZ Qy rfl (c7 (pv 2)) (d8 (K:=K) 2 rfl rfl (aZ (aP (i:=3) fY.nd rfl (Pr rfl)) (aZ (aP (i:=4) fY.nd rfl (Pr rfl)) d7))) (aj (bh (i:=5) fY.nd rfl (Pr rfl) (bC D_law_named hr (aa (pv 4) ak)))
 (aq (aY (PW.pt (gM (aG (r:=rIn K false) fP (pv 1) (pv 5) rfl) (d9 (aG jM (aC (r:=Hc K) (rJ rfl) rfl B.max_ tL (aa (bW sH (cJ (aa az ak)) (pv 5)) ak)) (aC (n8 rfl) rfl B.max_ tL (aa az (aa (aC (r:=jC K) aU rfl B.len_ bL (aa (aQ (r:=bI K) aK (pv 0) az (fun _ _=>rfl)) ak)) ak))) (aL _))))) (aq (aJ eE)) aH))))
 (aq (aJ eE))),?_⟩
  have lv:=rv.length
  refine aF (fun σ H1=>aV H H1/\¬ ∃ x∈pl,nn i x.2=false) (fun σ H1 z=>q1 z.2 H1 z.1) fun N Rc=>?_
  refine⟨_,rfl,p,rfl,⟨_,SqT.of hp⟩,dH (K:=K) (a:=p) (xs:=vs) (fun k σ H1=>(∃ u v w,σ=[some (.ref a),some (vN i),some (.ref p),u,v,w])/\aV H H1/\∀ x∈pl.take k,nn i x.2=true) ⟨⟨_,_,_,rfl⟩,aV.refl _,fun x hx=>by rw[Qj] at hx; cases hx⟩ (fun k σ H1 _ z=>SqT.of (z.2.1 _ _ hp)) ?_ ?_⟩
  ·rintro k x σ H1 hx ⟨⟨u,v,w',rfl⟩,s1,hno⟩
   obtain⟨r,st,y,t,rfl,hr',tr,hk⟩:=rv.get hx
   have hm:=Qe hk
   have hd:=(okp.2.2.2 _ hm).2.2
   refine⟨r,_,rfl,SqT.of (s1 _ _ hr'),rfl,_,_,rfl,_,_,rfl,rfl,?_⟩
   refine aF (fun σ H2=>∃ l:Addr,σ=[some (.ref a),some (vN i),some (.ref p),some (.int st),some y,some (.ref l)]/\aV H1 H2/\H2 l=some (.lst ((mnF t).map vN))) ?qa ?ta
   case ta =>
    intro N' Rc'
    exact⟨_,rfl,y,n,t,rfl,tr.mono s1,hd,by decide,n12,fun l H2 s2 _ e2=>Rc' _ _ ⟨l,rfl,s2,e2⟩⟩
   case qa =>
   rintro σ H2 ⟨l,rfl,s2,el⟩
   have s12:=s1.trans s2
   refine⟨_,rfl,_,rfl,l,_,rfl,.inl (SqL.of el),rfl,gZ _,_,rfl,?_⟩
   rw[if_neg (show ¬ false=true from O2),show vN i=V.int (i:Int) from rfl,iB]
   by_cases z:i∈mnF t
   ·rw[decide_eq_true z]
    refine cH (cH (q0 ⟨_,hm,?_⟩ H2 s12))
    cases e:nn i t with
    | false=>rfl
    | true=>exact absurd z (HW t e)
   ·rw[decide_eq_false z]
    refine bG ⟨small (by show 1<=1000; decide),fun p4 hp4=>?_⟩
    generalize eH4:upd H2 p4 _=H4
    obtain⟨g4,e4⟩:=aW eH4 hp4
    have sml:=mz n12 (OJ 4) tr hd
    refine⟨_,rfl,p4,l,_,_,rfl,rfl,e4,g4 _ _ el,?_,fun p6 hp6=>?_⟩
    ·rw[Ow]
     exact PX (show 1+(mnF t).length<=100000 by lia) (by decide)
    generalize eH6:upd H4 p6 _=H6
    obtain⟨g6,e6⟩:=aW eH6 hp6
    have s26:=g4.trans g6
    refine⟨p6,0::(mnF t).map (fun i:Nat=>(i:Int)),rfl,SqL.of (e6.trans (by rw[Qv,← m5]; rfl)),by simp,?_⟩
    refine⟨_,rfl,a,_,_,_,rfl,rfl,SqT.of ((s12.trans s26) _ _ h1),au (k:=0) rfl,pa,_,rfl,.inl (SqL.of ((s12.trans s26) _ _ h2)),_,_,rfl,?_⟩
    rw[cP]
    have lt:=Jp n1 (Hl tr)
    refine⟨_,_,rfl,rfl,_,rfl,?_⟩
    rw[decide_eq_false (by split <;> lia)]
    refine bG ⟨⟨_,_,_,rfl⟩,s12.trans s26,fun x hx'=>?_⟩
    rw[PL,hk] at hx'
    rcases List.mem_append.mp hx' with w | w
    ·exact hno x w
    ·rw[List.mem_singleton.mp w]
     exact HD t z
  ·rintro σ H1 ⟨⟨u,v,w',rfl⟩,s1,hno⟩
   rw[lv,Pq] at hno
   exact Rc _ _ ⟨s1,fun⟨x,hx,z⟩=>by rw[hno x hx] at z; cases z⟩
abbrev jw:Stmt:=top 64
theorem eO:aM ["_law_state","_law_rises","_law_green_there","_law_one","_law_step"] ["_law_state","_law_rises"] (aA jw):=⟨rfl,rfl,rfl,by decide+kernel,rfl,by decide+kernel,by decide+kernel⟩
inductive rR (vs:List V) (H:Hp) (Q:VK):Prop where
 | mk (be a ra:Addr) (n:Nat) (g:List Int) (go:List Nat) (es:List Ent) (co:Nat) (us:List V) (ps:List (Int × Int)) (z0:vs=[.ref a,.ref ra]) (z1:StR be n H a g go es co) (z2:g.length=n) (z3:H ra=some (.lst us)) (z4:RiI H us ps) (z5:(∀ x∈ps,∃ j:Nat,x.1=j/\j < n)) (z6:∀ (r:Addr) (H':Hp),aV H H'->H' r=some (.tup ((seI g ps).map V.int))->Q (.ref r) H'):rR  vs H Q
def qY:Sp:=fun vs H Q _=>rR  vs H Q
theorem sO (F:Fun K "_law_green" "_law_green" jw f fd) (B:Bt mg):bK P w K mg base CX0 1 f fd ["_law_state","_law_rises"] qY:=by
 refine F.ok eO (fun vs H Q E h=>?_) (fun cdv A outer s H vs Q E hr h=>?_)
 ·obtain⟨be,a,ra,n,g,go,es,co,us,ps,rfl,_⟩:=h
  rfl
 ·obtain⟨be,a,ra,n,g,go,es,co,us,ps,rfl,⟨pa,ga,ta,kvs,h1,h2,h3,h4,h5,h6⟩,lg,hra,hri,hin,q⟩:=h
  refine⟨_,(aj (bh (i:=2) eO.nd rfl (Pr rfl) (cu (r:=ji K) dU rfl B.list_ iz (aa (aQ (r:=bI K) aK (pv 0) az (fun _ _=>rfl)) ak)))
 (aj (cZ Qy rfl (dh (pv 1)) (d8 (K:=K) 2 rfl rfl (aZ (aP (i:=3) eO.nd rfl (Pr rfl)) (aZ (aP (i:=4) eO.nd rfl (Pr rfl)) d7))) (aq (rY (pv 4) (Gx (pv 2) (pv 3) set_list))))
 (aq (aJ (cu (r:=rB K) gm rfl B.tuple_ cX (aa (pv 2) ak)))))),?_⟩
  have lus:=hri.length
  refine aF (fun σ F1=>∃ a1:Addr,σ=[some (.ref a),some (.ref ra),some (.ref a1),none,none]/\aV H F1/\F1 a1=some (.lst (g.map V.int))/\H a1=none) ?qs ?ts
  case ts =>
   intro N Rc
   exact⟨_,rfl,a,_,_,_,rfl,rfl,SqT.of h1,au (k:=1) rfl,ga,_,rfl,.inr (SqT.of h3),fun a1 hn=>Rc _ _ ⟨a1,rfl,aD hn _,ao,hn⟩⟩
  case qs =>
  rintro σ F1 ⟨a1,rfl,gf1,ef1,hn1⟩
  refine aF (fun σ H3=>∃ (u v:Option V),σ=[some (.ref a),some (.ref ra),some (.ref a1),u,v]/\aV H H3/\H3 a1=some (.lst ((seI g ps).map V.int))) ?q1 ?t1
  case t1 =>
   intro N Rc
   refine⟨_,rfl,ra,rfl,⟨_,SqL.of (gf1 _ _ hra)⟩,dq (K:=K) (a:=ra) (xs:=us) (fun i σ H3=>∃ (u v:Option V),σ=[some (.ref a),some (.ref ra),some (.ref a1),u,v]/\aV H H3/\H3 a1=some (.lst ((seI g (ps.take i)).map V.int)))
    ⟨_,_,rfl,gf1,ef1⟩ (fun i σ H3 _ h=>by obtain⟨_,_,_,z,_⟩:=h; exact SqL.of (z _ _ hra)) ?_ ?_⟩
   ·rintro i y σ H3 hx ⟨u,v,rfl,sm,e1⟩
    obtain⟨e,o,sp,rfl,hp,hent⟩:=hri.get hx
    obtain⟨j,ej,hj⟩:=hin _ (Qe hp)
    have ej:o=j:=ej
    have nx:ps.take (i+1)=ps.take i++[(o,sp)]:=by rw[PL,hp]; rfl
    refine⟨e,_,rfl,SqT.of (sm _ _ hent),rfl,_,_,rfl,_,_,rfl,rfl,?_⟩
    refine⟨_,rfl,_,rfl,_,rfl,a1,_,_,j,rfl,rfl,e1,?_,_,_,rfl,bu sm hn1 _,?_⟩
    ·unfold ixN
     rw[if_pos (by lia),if_pos (by rw[Ow,kE]; lia),ej]
     rfl
    ·rw[ao,nx,xQ,List.map_set]
     show _=some (HO.lst ((List.map V.int (seI g (ps.take i))).set o.toNat (.int sp)))
     rw[ej,PN]
   ·rintro σ H3 ⟨u,v,rfl,sm,e1⟩
    rw[lus,Pq] at e1
    exact Rc _ _ ⟨u,v,rfl,sm,e1⟩
  case q1 =>
  rintro σ H3 ⟨u,v,rfl,sm,e1⟩
  exact⟨_,rfl,a1,_,rfl,.inl ⟨SqL.of e1,fun l hl=>q l _ (sm.trans (aD hl _)) ao⟩⟩
abbrev cR:Stmt:=top 65
theorem bf:aM ["_law_state","_law_rises","_law_seen","_law_one","_law_step","_law_behind_them"] ["_law_state","_law_rises"] (aA cR):=⟨rfl,rfl,rfl,by decide+kernel,rfl,by decide+kernel,by decide+kernel⟩
inductive uq (vs:List V) (H:Hp) (Q:VK):Prop where
 | mk (be a ra:Addr) (n:Nat) (g:List Int) (go:List Nat) (es:List Ent) (co:Nat) (us:List V) (ps:List (Int × Int)) (z0:vs=[.ref a,.ref ra]) (z1:StR be n H a g go es co) (z2:g.length=n) (z3:EsU n go es co) (z4:es.length<=40) (z5:H ra=some (.lst us)) (z6:RiI H us ps) (z7:ps.length<=100) (z8:∀ H',aV H H'->Q (.str (haW n g go es ps)) H'):uq  vs H Q
def vW:Sp:=fun vs H Q _=>uq  vs H Q
theorem iI {k:Nat} (hk:2<=k) (F:Fun K "_law_rises_refusal" "_law_rises_refusal" cR f fd) (B:Bt mg) (D_law_missing:Df P w K mg base "_law_missing" 1 ["_law_state","_law_one"] nQ) (D_law_green:Df P w K mg base "_law_green" 1 ["_law_state","_law_rises"] qY)
  (D_law_listed:Df P w K mg base "_law_listed" 2 ["_law_table","_law_one"] v7) (D_law_owed:Df P w K mg base "_law_owed" k ["_law_some","_law_giving"] (FW K)):bK P w K mg base CX0 (k+1) f fd ["_law_state","_law_rises"] vW:=by
 refine F.ok bf (fun vs H Q E h=>?_) (fun cdv A outer s H vs Q E hr h=>?_)
 ·obtain⟨be,a,ra,n,g,go,es,co,us,ps,rfl,_⟩:=h
  rfl
 ·obtain⟨be,a,ra,n,g,go,es,co,us,ps,rfl,hst,lg,eu,l40,hra,hri,p100,q⟩:=h
  refine⟨_,(aj (bh (i:=2) bf.nd rfl (Pr rfl) (cJ ak))
 (aj (cZ Qy rfl (dh (pv 1)) (d8 (K:=K) 2 rfl rfl (aZ (aP (i:=3) bf.nd rfl (Pr rfl)) (aZ (aP (i:=4) bf.nd rfl (Pr rfl)) d7))) (aj (aY (aG qI (bC D_law_missing hr (aa (pv 0) (aa (pv 3) ak))) aO (aL _)) (aq (aJ (bC D_law_missing hr (aa (pv 0) (aa (pv 3) ak))))) aH)
 (aj (aY (PW.pt (gM (aG (r:=rIn K false) fP (pv 3) (pv 2) rfl) (gM (aG Hg (pv 4) (aQ (r:=bI K) aK (aQ (r:=bI K) aK (pv 0) az (fun _ _=>rfl)) (pv 3) (fun _ _=>rfl)) (aL _)) (d9 (aG Hf (pv 4) az (aL _)))))) (aq (aJ aO)) aH)
 (aq (cj (DN Ug T3 TY fH (pv 2) (aa (pv 3) ak)))))))
 (aj (aY (aG (r:=M5 K) (J0 hr.La) (pv 1) (cJ ak) (aL _)) (aq (aJ aO)) aH)
 (aj (bh (i:=5) bf.nd rfl (Pr rfl) (bC D_law_green hr (aa (pv 0) (aa (pv 1) ak))))
 (aj (cZ Qy rfl (dh (pv 1)) (d8 (K:=K) 2 rfl rfl (aZ (aP (i:=3) bf.nd rfl (Pr rfl)) (aZ (aP (i:=4) bf.nd rfl (Pr rfl)) d7))) (aq (aY (aG Hf (pv 4) (bC D_law_owed hr (aa (bC D_law_listed hr (aa (aQ (r:=bI K) aK (pv 0) az (fun _ _=>rfl)) (aa (pv 3) ak))) (aa (pv 5) ak))) (aL _)) (aq (aJ aO)) aH)))
 (aq (aJ aO))))))),?_⟩
  have lus:=hri.length
  have st_:∀ {H':Hp},aV H H'->∃ (pa ga ta:Addr) (kvs:List (Key × V)),H' a=some (.tup [.ref pa,.ref ga,.ref ta,vN co])/\H' ga=some (.tup (g.map V.int))/\H' ta=some (.dK kvs)/\TbR n H' kvs es:=fun s=>by
   obtain⟨pa,ga,ta,kvs,h1,h2,h3,h4,h5,h6⟩:=hst.same s
   exact⟨pa,ga,ta,kvs,h1,h3,h4,h5⟩
  refine aF (fun σ F2=>∃ a2:Addr,σ=[some (.ref a),some (.ref ra),some (.ref a2),none,none,none]/\aV H F2/\F2 a2=some (.lst [])/\H a2=none) ?qt ?tt
  case tt =>
   intro N Rc
   exact⟨small (by show 0<=1000; decide),fun a2 h2=>Rc _ _ ⟨a2,rfl,aD h2 _,ao,h2⟩⟩
  case qt =>
  rintro σ F2 ⟨a2,rfl,gf2,ef2,h2⟩
  refine aF (fun σ H3=>∃ (u v:Option V),σ=[some (.ref a),some (.ref ra),some (.ref a2),u,v,none]/\aV H H3/\Bu n g go ps ps.length) ?q1 ?t1
  case t1 =>
   intro N Rc
   refine⟨_,rfl,ra,rfl,⟨_,SqL.of (gf2 _ _ hra)⟩,dq (K:=K) (a:=ra) (xs:=us) (fun i σ H3=>∃ (u v:Option V),σ=[some (.ref a),some (.ref ra),some (.ref a2),u,v,none]/\aV H H3/\H3 a2=some (.lst (((ps.take i).map (·.1.toNat)).map vN))/\Bu n g go ps i)
    ⟨_,_,rfl,gf2,ef2,.zero n g go ps⟩ (fun i σ H3 _ h=>by obtain⟨_,_,_,z,_⟩:=h; exact SqL.of (z _ _ hra)) ?_ ?_⟩
   ·rintro i y σ H3 hx ⟨u,v,rfl,sm,e2,ok⟩
    obtain⟨e,o,sp,rfl,hp,hent⟩:=hri.get hx
    have ip:=(List.getElem?_eq_some_iff.mp hp).1
    have pne:ps≠[]:=fun z=>by rw[z] at ip; exact absurd ip (V0 _)
    have eha:riW n g go [] ps≠""->haW n g go es ps=riW n g go [] ps:=fun z=>by unfold haW; rw[if_neg pne,if_pos z]
    have nx:ps.take (i+1)=ps.take i++[(o,sp)]:=by rw[PL,hp]; rfl
    have wd:=ok.word hp
    have hst3:=hst.same sm
    refine⟨e,_,rfl,SqT.of (sm _ _ hent),rfl,_,_,rfl,_,_,rfl,rfl,?_⟩
    refine aF (fun σ H4=>∃ j:Nat,o=j/\j < n/\j ∉ go/\σ=[some (.ref a),some (.ref ra),some (.ref a2),some (vN j),some (.int sp),none]/\H4=H3) ?qc ?tc
    case tc =>
     intro N' Rc'
     refine⟨_,rfl,_,rfl,be,a,o,n,g,go,es,co,rfl,hst3,rfl,_,rfl,?_⟩
     rcases rD n go o with⟨em,_⟩ | ⟨j,ej,hj,⟨hg,em⟩ | ⟨hg,em⟩⟩
     ·rw[em,show decide (V.str "no folk" = V.str "")=false from decide_eq_false (aB (by decide))]
      refine cH ⟨_,rfl,_,rfl,be,a,o,n,g,go,es,co,rfl,hst3,?_⟩
      rw[if_pos (by rw[em]; decide)] at wd
      rw[← wd,← eha (by rw[wd,em]; decide)]
      exact q H3 sm
     ·rw[em,show decide (V.str "gone" = V.str "")=false from decide_eq_false (aB (by decide))]
      refine cH ⟨_,rfl,_,rfl,be,a,o,n,g,go,es,co,rfl,hst3,?_⟩
      rw[if_pos (by rw[em]; decide)] at wd
      rw[← wd,← eha (by rw[wd,em]; decide)]
      exact q H3 sm
     ·rw[em,show decide (V.str "" = V.str "")=true from decide_eq_true rfl]
      exact bG (Rc' _ _ ⟨j,ej,hj,hg,by rw[ej]; rfl,rfl⟩)
    case qc =>
    rintro σ H4 ⟨j,rfl,hj,hg,rfl,rfl⟩
    rw[j5 hj,if_neg hg,if_neg (fun z=>z rfl),PN] at wd
    obtain⟨pa,ga,ta,kvs,h1',h3',h4',h5'⟩:=st_ sm
    have hjg:j < g.length:=by lia
    have gei:g.getD j 0=g[j]:=by rw[Qq,PB hjg]; rfl
    have bad:(j∈(ps.take i).map (·.1.toNat)∨¬ (g.getD j 0 < sp/\sp<=9))->Q (.str "bad rise") H4:=fun z=>by
     rw[if_pos z] at wd
     rw[← wd,← eha (by rw[wd]; decide)]
     exact q H4 sm
    refine aF (fun σ H5=>σ=[some (.ref a),some (.ref ra),some (.ref a2),some (vN j),some (.int sp),none]/\H5=H4/\j ∉ (ps.take i).map (·.1.toNat)/\g.getD j 0 < sp/\sp<=9) ?qa ?ta
    case ta =>
     intro N' Rc'
     refine⟨_,rfl,_,rfl,a2,_,rfl,.inl (SqL.of e2),rfl,gZ _,_,rfl,?_⟩
     rw[if_neg (show ¬ false=true from O2),show vN j=V.int (j:Int) from rfl,iB]
     by_cases z:j∈(ps.take i).map (·.1.toNat)
     ·rw[decide_eq_true z]
      exact cH (cH (bad (.inl z)))
     ·rw[decide_eq_false z]
      refine bG ⟨_,rfl,_,rfl,a,_,_,_,rfl,rfl,SqT.of h1',au (k:=1) rfl,_,rfl,ga,_,_,_,rfl,rfl,SqT.of h3',w6 hjg,_,_,rfl,rfl,_,rfl,?_⟩
      by_cases y:sp<=g[j]
      ·rw[decide_eq_true y]
       exact cH (cH (bad (.inr (by rw[gei]; lia))))
      ·rw[decide_eq_false y]
       refine bG ⟨_,rfl,_,_,rfl,rfl,_,rfl,?_⟩
       by_cases y9:9 < sp
       ·rw[decide_eq_true y9]
        exact cH (bad (.inr (by lia)))
       ·rw[decide_eq_false y9]
        exact bG (Rc' _ _ ⟨rfl,rfl,z,by rw[gei]; lia,by lia⟩)
    case qa =>
    rintro σ H5 ⟨rfl,rfl,nin,h1'',h9''⟩
    refine⟨_,rfl,.inl ⟨rfl,_,SqL.of e2⟩,_,rfl,a2,_,_,rfl,rfl,e2,bj (by rw[Ow,Ow,Qf]; lia),_,_,rfl,bu sm h2 _,?_,ok.step hp rfl hj hg nin h1'' h9''⟩
    rw[ao,nx,O7,O7]
    rfl
   ·rintro σ H3 ⟨u,v,rfl,sm,e2,ok⟩
    rw[lus] at ok
    exact Rc _ _ ⟨u,v,rfl,sm,ok⟩
  case q1 =>
  rintro σ H3 ⟨u,v,rfl,sm,ok⟩
  have ri:riW n g go [] ps = "":=by
   rw[← ok.on,Xm]
   rfl
  have al:=ok.al
  rw[Pq] at al
  refine aF (fun σ H4=>σ=[some (.ref a),some (.ref ra),some (.ref a2),u,v,none]/\aV H H4/\ps≠[]) ?q2 ?t2
  case t2 =>
   intro N Rc
   refine⟨_,rfl,small (by show 0<=1000; decide),fun pe he=>?_⟩
   have sn:=aD he (.lst [])
   refine⟨ra,pe,us,rfl,rfl,SqL.of (sn _ _ (sm _ _ hra)),SqL.of ao,_,rfl,?_⟩
   by_cases z:ps=[]
   ·have:us=[]:=Rv (by rw[lus,z]; rfl)
    rw[this]
    have e:haW n g go es ps = "bad rise":=by unfold haW; rw[if_pos z]
    rw[e] at q
    exact cH (q _ (sm.trans sn))
   ·have:us.isEmpty=false:=by
     cases us with
     | nil=>exact absurd (Rv lus.symm) z
     | cons _ _=>rfl
    rw[this]
    exact bG (Rc _ _ ⟨rfl,sm.trans sn,z⟩)
  case q2 =>
  rintro σ H4 ⟨rfl,s4,pne⟩
  have eha:haW n g go es ps=if ∃ x∈ps,mxD 0 (owL es x.1.toNat (seI g ps)) < x.2 then ("not due" : Px) else "":=by unfold haW; rw[if_neg pne,if_neg (by rw[ri]; decide)]
  rw[eha] at q
  refine aF (fun σ H5=>∃ gr:Addr,σ=[some (.ref a),some (.ref ra),some (.ref a2),u,v,some (.ref gr)]/\aV H H5/\H5 gr=some (.tup ((seI g ps).map V.int))) ?q3 ?t3
  case t3 =>
   intro N Rc
   exact⟨_,rfl,_,rfl,be,a,ra,n,g,go,es,co,us,ps,rfl,hst.same s4,lg,s4 _ _ hra,hri.bc fun a xs z=>s4 _ _ z,fun x hx=>by obtain⟨j,ej,hj,_⟩:=al x hx; exact⟨j,ej,hj⟩,fun gr H5 s5 e5=>Rc _ _ ⟨gr,rfl,s4.trans s5,e5⟩⟩
  case q3 =>
  rintro σ H5 ⟨gr,rfl,s5,egr⟩
  have sl:(seI g ps).length=n:=by rw[kE]; exact lg
  refine aF (fun σ H6=>aV H H6/\∀ x∈ps,¬ mxD 0 (owL es x.1.toNat (seI g ps)) < x.2) ?q4 ?t4
  case q4 =>
   rintro σ H6 ⟨s6,hno⟩
   rw[if_neg fun⟨x,hx,z⟩=>hno x hx z] at q
   exact q H6 s6
  case t4 =>
  intro N Rc
  refine⟨_,rfl,ra,rfl,⟨_,SqL.of (s5 _ _ hra)⟩,dq (K:=K) (a:=ra) (xs:=us) (fun i σ H6=>(∃ u v:Option V,σ=[some (.ref a),some (.ref ra),some (.ref a2),u,v,some (.ref gr)])/\aV H5 H6/\∀ x∈ps.take i,¬ mxD 0 (owL es x.1.toNat (seI g ps)) < x.2)
   ⟨⟨_,_,rfl⟩,aV.refl _,fun x hx=>by rw[Qj] at hx; cases hx⟩ (fun i σ H6 _ h=>SqL.of (h.2.1 _ _ (s5 _ _ hra))) ?_ ?_⟩
  ·rintro i y σ H6 hx ⟨⟨u,v,rfl⟩,s6,hno⟩
   obtain⟨e,o,sp,rfl,hp,hent⟩:=hri.get hx
   have hm:=Qe hp
   obtain⟨j,ej,hj,_⟩:=al _ hm
   have ej:o=j:=ej
   subst ej
   have s06:=s5.trans s6
   obtain⟨pa,ga,ta,kvs,h1',h3',h4',h5'⟩:=st_ s06
   refine⟨e,_,rfl,SqT.of (s06 _ _ hent),rfl,_,_,rfl,_,_,rfl,rfl,?_⟩
   refine⟨_,rfl,_,rfl,a,_,_,_,rfl,rfl,SqT.of h1',au (k:=2) rfl,_,rfl,ta,(j:Int),n,kvs,es,rfl,h4',h5',eu.up,l40,fun l as H7 s7 _ e7 las ps7=>?_⟩
   refine⟨_,rfl,l,gr,n,as,_,_,rfl,e7,by lia,ps7,SqT.of (s7 _ _ (s6 _ _ egr)),by lia,fun H8 s8=>?_⟩
   refine⟨_,_,rfl,rfl,_,rfl,?_⟩
   rw[Lz h5'.ok]
   by_cases z:mxD 0 (owL es j (seI g ps)) < sp
   ·rw[decide_eq_true z]
    rw[if_pos ⟨_,hm,by rw[PN]; exact z⟩] at q
    exact cH (q _ (s06.trans (s7.trans s8)))
   ·rw[decide_eq_false z]
    refine bG ⟨⟨_,_,rfl⟩,s6.trans (s7.trans s8),fun x hx'=>?_⟩
    rw[PL,hp] at hx'
    rcases List.mem_append.mp hx' with w | w
    ·exact hno x w
    ·rw[List.mem_singleton.mp w,PN]
     exact z
  ·rintro σ H6 ⟨_,s6,hno⟩
   rw[lus,Pq] at hno
   exact Rc _ _ ⟨s5.trans s6,hno⟩
structure Sa where
 n:Nat
 g:List Int
 go:List Nat
 es:List Ent
 co:Nat
inductive lE where
 | come
 | leave (o:Int)
 | pledge (o:Int) (pl:Pl)
 | hand (ps:List (Int × Int))
def Sa.aft (A:Sa):lE->Sa
 | .come=>⟨A.n+1,A.g++[0],A.go,A.es,A.co⟩
 | .leave o=>⟨A.n,A.g,mq (A.go++[o.toNat]),A.es.filter fun e=>decide (e.2.1≠o.toNat),A.co⟩
 | .pledge o pl=>⟨A.n,A.g,A.go,A.es++[(A.co,o.toNat,pl)],A.co+1⟩
 | .hand ps=>⟨A.n,seI A.g ps,A.go,A.es,A.co⟩
def reW (A:Sa):lE->Px
 | .come=>if 12<=A.n then "full" else ""
 | .leave o=>miW A.n A.go o
 | .pledge o pl=>plW A.n A.go A.es o pl
 | .hand ps=>haW A.n A.g A.go A.es ps
def vaV (A:Sa):lE->V
 | .come=>vN A.n
 | .leave _=>.non
 | .pledge _ _=>vN A.co
 | .hand _=>.non
inductive DeR (n:Nat) (H:Hp) (a:Addr):lE->Prop where
 | come (h:H a=some (.tup [.str "come"])):DeR n H a .come
 | leave {o:Int} (h:H a=some (.tup [.str "leave",.int o])):DeR n H a (.leave o)
 | pledge {o:Int} {p:Addr} {pl:Pl} (h:H a=some (.tup [.str "pledge",.int o,.ref p])) (q:lB n H p pl):DeR n H a (.pledge o pl)
 | hand {r:Addr} {us:List V} {ps:List (Int × Int)} (h:H a=some (.tup [.str "hand",.ref r])) (hr:H r=some (.lst us)) (q:RiI H us ps) (l:ps.length<=100):DeR n H a (.hand ps)
theorem DeR.sT {n:Nat} {H H':Hp} {a:Addr} {d:lE} (s:gO H H') (h:DeR n H a d):DeR n H' a d:=by
 cases h with
 | come h=>exact .come (stT s h)
 | leave h=>exact .leave (stT s h)
 | pledge h q=>exact .pledge (stT s h) (q.bc fun a xs z=>stT s z)
 | hand h hr q l=>exact .hand (stT s h) (stL s hr) (q.bc fun a xs z=>stT s z) l
theorem DeR.same {n:Nat} {H H':Hp} {a:Addr} {d:lE} (s:aV H H') (h:DeR n H a d):DeR n H' a d:=h.sT s.t
structure AOk (A:Sa):Prop where
 lg:A.g.length=A.n
 n12:A.n<=12
 l40:A.es.length<=40
 eu:EsU A.n A.go A.es A.co
 gl:∀ x∈A.go,x < A.n
theorem Gj {n:Nat} {go:List Nat} {es:List Ent} {o:Int} {pl:Pl} (h:plW n go es o pl = ""):∃ i:Nat,o=i/\i < n/\i ∉ go/\es.length < 40:=by
 unfold plW at h
 by_cases z:miW n go o≠""
 ·rw[if_pos z] at h
  exact absurd h z
 ·rw[if_neg z] at h
  obtain⟨i,e,hi,hg⟩:=sI (Classical.not_not.mp z)
  refine⟨i,e,hi,hg,?_⟩
  by_cases y:∃ x∈pl,nn o.toNat x.2=false
  ·rw[if_pos y] at h
   exact absurd h (by decide)
  ·rw[if_neg y] at h
   by_cases q:40<=es.length
   ·rw[if_pos q] at h
    exact absurd h (by decide)
   ·lia
theorem AOk.aft {A:Sa} {d:lE} (k:AOk A) (h:reW A d = ""):AOk (A.aft d):=by
 cases d with
 | come =>
  have h12:¬ 12<=A.n:=fun z=>by
   have e:reW A .come = "full":=if_pos z
   rw[e] at h
   exact absurd h (by decide)
  exact⟨by show (A.g++[0]).length=A.n+1; rw[Qa,k.lg]; rfl,by show A.n+1<=12; lia,k.l40,⟨k.eu.up,fun e he=>by have:=k.eu.lt e he; exact⟨this.1,QB this.2.1,this.2.2⟩⟩,fun x hx=>QB (k.gl x hx)⟩
 | leave o =>
  obtain⟨i,e,hi,hg⟩:=sI (show miW A.n A.go o = "" from h)
  have eo:o.toNat=i:=by lia
  have mem:∀ y,y∈mq (A.go++[o.toNat]) ↔ y∈A.go∨y=i:=fun y=>by rw[(fK _).mem_iff,T7,Rt,eo]
  refine⟨k.lg,k.n12,PX (Ro _ _) k.l40,⟨k.eu.up.sublist (List.filter_sublist.map _),fun e he=>?_⟩,fun x hx=>?_⟩
  ·have h1:=List.mem_filter.mp he
   have h2:=k.eu.lt e h1.1
   have h3:e.2.1≠o.toNat:=of_decide_eq_true h1.2
   exact⟨h2.1,h2.2.1,fun z=>((mem _).mp z).elim h2.2.2 fun y=>h3 (by lia)⟩
  ·rcases (mem x).mp hx with z | z
   ·exact k.gl x z
   ·rw[z]
    exact hi
 | pledge o pl =>
  obtain⟨i,e,hi,hg,hl⟩:=Gj (show plW A.n A.go A.es o pl = "" from h)
  have eo:o.toNat=i:=by lia
  refine⟨k.lg,k.n12,by show (A.es++[_]).length<=40; rw[Qa]; show A.es.length+1<=40; lia,⟨?_,fun e he=>?_⟩,k.gl⟩
  ·show (List.map _ (A.es++[(A.co,o.toNat,pl)])).Pairwise _
   rw[O7,List.pairwise_append]
   refine⟨k.eu.up,by simp,fun x hx y hy=>?_⟩
   obtain⟨e,he,rfl⟩:=List.mem_map.mp hx
   have hy':y=A.co:=by simpa using hy
   rw[hy']
   exact (k.eu.lt e he).1
  ·rcases List.mem_append.mp he with z | z
   ·have:=k.eu.lt e z
    exact⟨QB this.1,this.2⟩
   ·rw[List.mem_singleton.mp z]
    exact⟨R6 _,by rw[eo]; exact hi,by rw[eo]; exact hg⟩
 | hand ps=>exact⟨by show (seI A.g ps).length=A.n; rw[kE]; exact k.lg,k.n12,k.l40,k.eu,k.gl⟩
abbrev fZ:Stmt:=top 67
theorem iJ:aM ["_law_state","_law_deed","_law_word_here","_law_one"] ["_law_state","_law_deed"] (aA fZ):=⟨rfl,rfl,rfl,by decide+kernel,rfl,by decide+kernel,by decide+kernel⟩
inductive o7 (vs:List V) (H:Hp) (Q:VK):Prop where
 | mk (be a da:Addr) (A:Sa) (d:lE) (z0:vs=[.ref a,.ref da]) (z1:StR be A.n H a A.g A.go A.es A.co) (z2:AOk A) (z3:DeR A.n H da d) (z4:∀ H',aV H H'->Q (.str (reW A d)) H'):o7  vs H Q
def tK:Sp:=fun vs H Q _=>o7  vs H Q
theorem oM {k:Nat} (hk:5<=k) (F:Fun K "_law_refusal" "_law_refusal" fZ f fd) (B:Bt mg) (D_law_missing:Df P w K mg base "_law_missing" 1 ["_law_state","_law_one"] nQ) (D_law_good:Df P w K mg base "_law_good" 5 ["_law_state","_law_one","_law_pledge"] Gh)
  (D_law_rises_refusal:Df P w K mg base "_law_rises_refusal" k ["_law_state","_law_rises"] vW):bK P w K mg base CX0 (k+1) f fd ["_law_state","_law_deed"] tK:=by
 refine F.ok iJ (fun vs H Q E h=>?_) (fun cdv A outer s H vs Q E hr h=>?_)
 ·obtain⟨be,a,da,A,d,rfl,_⟩:=h
  rfl
 ·obtain⟨be,a,da,S,d,rfl,hst,ok,hd,q⟩:=h
  refine⟨_,(aj (aY (aG bD (aQ (r:=bI K) aK (pv 1) az (fun _ _=>rfl)) aO (aL _)) (aq (aJ (pQ (aG jM (aC (r:=jC K) aU rfl B.len_ bL (aa (aQ (r:=bI K) aK (pv 0) az (fun _ _=>rfl)) ak)) az (aL _)) aO aO))) aH)
 (aj (aY (aG bD (aQ (r:=bI K) aK (pv 1) az (fun _ _=>rfl)) aO (aL _)) (aq (aJ (bC D_law_rises_refusal hr (aa (pv 0) (aa (aQ (r:=bI K) aK (pv 1) az (fun _ _=>rfl)) ak))))) aH)
 (aj (aY (aG (r:=rIn K false) fP (aQ (r:=bI K) aK (pv 1) az (fun _ _=>rfl)) (bM (aa aO (aa aO ak))) rfl) (aj (bh (i:=2) iJ.nd rfl (Pr rfl) (bC D_law_missing hr (aa (pv 0) (aa (aQ (r:=bI K) aK (pv 1) az (fun _ _=>rfl)) ak))))
 (aj (aY (PW.pt (JC (aG bD (pv 2) aO (aL _)) (G5 (aG bD (aQ (r:=bI K) aK (pv 1) az (fun _ _=>rfl)) aO (aL _))))) (aj (aY (du (cI (bC D_law_good hr (aa (pv 0) (aa (aQ (r:=bI K) aK (pv 1) az (fun _ _=>rfl)) (aa (aQ (r:=bI K) aK (pv 1) az (fun _ _=>rfl)) ak)))))) (aq (aJ aO)) aH)
 (aq (aJ (pQ (aG jM (aC (r:=J9) yP rfl B.len_ bL (aa (aQ (r:=bI K) aK (pv 0) az (fun _ _=>rfl)) ak)) az (aL _)) aO aO)))) aH)
 (aq (aJ (pv 2))))) aH)
 (aj dN
 (aj dN
 (aj dN
 (aq dN))))))),?_⟩
  obtain⟨pa,ga,ta,kvs,h1,h2,h3,h4,h5,h6⟩:=id hst
  cases hd with
  | come hda =>
   refine⟨_,rfl,da,_,_,_,rfl,rfl,SqT.of hda,au (k:=0) rfl,rfl,_,rfl,?_⟩
   rw[show decide (V.str "come" = V.str "come")=true from decide_eq_true rfl]
   refine cH ⟨_,rfl,a,_,_,_,rfl,rfl,SqT.of h1,au (k:=0) rfl,pa,_,rfl,.inl (SqL.of h2),_,_,rfl,rfl,_,rfl,?_⟩
   rw[cP]
   have qq:=q H (aV.refl H)
   by_cases z:12<=S.n
   ·rw[decide_eq_true (by lia)]
    rw[show reW S .come = "full" from if_pos z] at qq
    exact cH qq
   ·rw[decide_eq_false (by lia)]
    rw[show reW S .come = "" from if_neg z] at qq
    exact bG qq
  | leave hda =>
   rename_i o
   refine⟨_,rfl,da,_,_,_,rfl,rfl,SqT.of hda,au (k:=0) rfl,rfl,_,rfl,?_⟩
   rw[show decide (V.str "leave" = V.str "come")=false from decide_eq_false (aB (by decide))]
   refine bG (nN ?_)
   refine⟨_,rfl,da,_,_,_,rfl,rfl,SqT.of hda,au (k:=0) rfl,rfl,_,rfl,?_⟩
   rw[show decide (V.str "leave" = V.str "hand")=false from decide_eq_false (aB (by decide))]
   refine bG (nN ?_)
   refine⟨_,rfl,da,_,_,_,rfl,rfl,SqT.of hda,au (k:=0) rfl,small (by show 2<=1000; decide),fun p1 hp1=>?_⟩
   have sn:=aD hp1 (.tup [.str "leave",.str "pledge"])
   refine⟨p1,_,rfl,.inr (SqT.of ao),rfl,rfl,_,rfl,Kv (by decide+kernel) ?_⟩
   refine aF (fun σ H1=>σ=[some (.ref a),some (.ref da),some (.str (miW S.n S.go o)),none]/\H1=upd H p1 (.tup [.str "leave",.str "pledge"])) ?qL0 ?tL0
   case tL0 =>
    intro N Rc
    exact⟨_,rfl,_,rfl,da,_,_,_,rfl,rfl,SqT.of (sn _ _ hda),au (k:=1) rfl,be,a,o,S.n,S.g,S.go,S.es,S.co,rfl,hst.same sn,Rc _ _ ⟨rfl,rfl⟩⟩
   case qL0 =>
   rintro σ H1 ⟨rfl,rfl⟩
   refine aF (fun σ H1=>σ=[some (.ref a),some (.ref da),some (.str (miW S.n S.go o)),none]/\H1=upd H p1 (.tup [.str "leave",.str "pledge"])) (fun σ H1 z=>by obtain⟨rfl,rfl⟩:=z; exact⟨_,rfl,q _ sn⟩) fun N Rc=>?_
   refine Bf (fun c H1=>c=false/\H1=upd H p1 (.tup [.str "leave",.str "pledge"])) (fun Q' Rq=>?_) (fun H1 z=>by cases z.1) (fun H1 z=>by obtain⟨-,rfl⟩:=z; exact Rc _ _ ⟨rfl,rfl⟩)
   refine⟨_,rfl,rfl,_,rfl,?_⟩
   refine zb (fun _=>?_) (fun z=>Rq _ _ ⟨rfl,rfl⟩)
   refine⟨_,rfl,da,_,_,_,rfl,rfl,SqT.of (sn _ _ hda),au (k:=0) rfl,rfl,_,rfl,?_⟩
   rw[show decide (V.str "leave" = V.str "pledge")=false from decide_eq_false (aB (by decide))]
   exact Rq _ _ ⟨rfl,rfl⟩
  | pledge hda hp =>
   rename_i o p pl
   refine⟨_,rfl,da,_,_,_,rfl,rfl,SqT.of hda,au (k:=0) rfl,rfl,_,rfl,?_⟩
   rw[show decide (V.str "pledge" = V.str "come")=false from decide_eq_false (aB (by decide))]
   refine bG (nN ?_)
   refine⟨_,rfl,da,_,_,_,rfl,rfl,SqT.of hda,au (k:=0) rfl,rfl,_,rfl,?_⟩
   rw[show decide (V.str "pledge" = V.str "hand")=false from decide_eq_false (aB (by decide))]
   refine bG (nN ?_)
   refine⟨_,rfl,da,_,_,_,rfl,rfl,SqT.of hda,au (k:=0) rfl,small (by show 2<=1000; decide),fun p1 hp1=>?_⟩
   have sn:=aD hp1 (.tup [.str "leave",.str "pledge"])
   refine⟨p1,_,rfl,.inr (SqT.of ao),rfl,rfl,_,rfl,Kv (by decide+kernel) ?_⟩
   refine aF (fun σ H1=>σ=[some (.ref a),some (.ref da),some (.str (miW S.n S.go o)),none]/\H1=upd H p1 (.tup [.str "leave",.str "pledge"])) ?qP0 ?tP0
   case tP0 =>
    intro N Rc
    exact⟨_,rfl,_,rfl,da,_,_,_,rfl,rfl,SqT.of (sn _ _ hda),au (k:=1) rfl,be,a,o,S.n,S.g,S.go,S.es,S.co,rfl,hst.same sn,Rc _ _ ⟨rfl,rfl⟩⟩
   case qP0 =>
   rintro σ H1 ⟨rfl,rfl⟩
   refine aF (fun σ H1=>σ=[some (.ref a),some (.ref da),some (.str (miW S.n S.go o)),none]/\H1=upd H p1 (.tup [.str "leave",.str "pledge"])/\¬ miW S.n S.go o = "") ?qP1 ?tP1
   case qP1 =>
    rintro σ H1 ⟨rfl,rfl,z⟩
    have e:reW S (.pledge o pl)=miW S.n S.go o:=by
     show plW _ _ _ _ _=_
     unfold plW
     rw[if_pos z]
    rw[e] at q
    exact⟨_,rfl,q _ sn⟩
   case tP1 =>
   intro N Rc
   refine Bf (fun c H1=>H1=upd H p1 (.tup [.str "leave",.str "pledge"])/\c=decide (miW S.n S.go o = "")) (fun Q' Rq=>?_) ?pl (fun H1 z=>by obtain⟨rfl,y⟩:=z; exact Rc _ _ ⟨rfl,rfl,of_decide_eq_false y.symm⟩)
   ·refine⟨_,rfl,rfl,_,rfl,?_⟩
    by_cases z:miW S.n S.go o = ""
    ·rw[show decide (V.str (miW S.n S.go o)=V.str "")=true from decide_eq_true (by rw[z])]
     refine cH ⟨_,rfl,da,_,_,_,rfl,rfl,SqT.of (sn _ _ hda),au (k:=0) rfl,rfl,_,rfl,?_⟩
     rw[show decide (V.str "pledge" = V.str "pledge")=true from decide_eq_true rfl]
     exact Rq _ _ ⟨rfl,(decide_eq_true z).symm⟩
    ·rw[show decide (V.str (miW S.n S.go o)=V.str "")=false from decide_eq_false (aB z)]
     exact bG (Rq _ _ ⟨rfl,(decide_eq_false z).symm⟩)
   case pl =>
    rintro H1 ⟨rfl,z⟩
    have z:=of_decide_eq_true z.symm
    obtain⟨i,rfl,hi,hg⟩:=sI z
    have e0:reW S (.pledge (i:Int) pl)=if ∃ x∈pl,nn i x.2=false then ("bad pledge" : Px) else if 40<=S.es.length then "full" else "":=by
     show plW _ _ _ _ _=_
     unfold plW
     rw[z,if_neg (fun y=>y rfl),PN]
    rw[e0] at q
    have n12:=ok.n12
    refine aF (fun σ H2=>σ=[some (.ref a),some (.ref da),some (.str (miW S.n S.go (i:Int))),none]/\aV H H2/\¬ ∃ x∈pl,nn i x.2=false) ?qg ?tg
    case tg =>
     intro N Rc
     refine⟨_,rfl,_,rfl,da,_,_,_,rfl,rfl,SqT.of (sn _ _ hda),au (k:=1) rfl,_,rfl,da,_,_,_,rfl,rfl,SqT.of (sn _ _ hda),au (k:=2) rfl,be,a,p,i,S.n,S.g,S.go,S.es,S.co,pl,rfl,hst.same sn,hp.mono sn,by lia,n12,fun y H2 s2=>?_,fun y H2 s2=>?_⟩
     ·refine⟨false,rfl,?_⟩
      show if (!false)=true then _ else _
      rw[if_pos y] at q
      exact cH (q _ (sn.trans s2))
     ·refine⟨true,rfl,?_⟩
      show if (!true)=true then _ else _
      exact bG (Rc _ _ ⟨rfl,sn.trans s2,y⟩)
    case qg =>
    rintro σ H2 ⟨rfl,s2,hn⟩
    rw[if_neg hn] at q
    refine⟨_,rfl,a,_,_,_,rfl,rfl,SqT.of (s2 _ _ h1),au (k:=2) rfl,ta,kvs,rfl,s2 _ _ h4,_,_,rfl,rfl,_,rfl,?_⟩
    rw[h5.length]
    by_cases y:40<=S.es.length
    ·rw[decide_eq_true (by lia)]
     rw[if_pos y] at q
     exact cH (q _ s2)
    ·rw[decide_eq_false (by lia)]
     rw[if_neg y] at q
     exact bG (q _ s2)
  | hand hda hr' hri lp =>
   rename_i r us ps
   refine⟨_,rfl,da,_,_,_,rfl,rfl,SqT.of hda,au (k:=0) rfl,rfl,_,rfl,?_⟩
   rw[show decide (V.str "hand" = V.str "come")=false from decide_eq_false (aB (by decide))]
   refine bG (nN ?_)
   refine⟨_,rfl,da,_,_,_,rfl,rfl,SqT.of hda,au (k:=0) rfl,rfl,_,rfl,?_⟩
   rw[show decide (V.str "hand" = V.str "hand")=true from decide_eq_true rfl]
   exact cH ⟨_,rfl,_,rfl,da,_,_,_,rfl,rfl,SqT.of hda,au (k:=1) rfl,be,a,r,S.n,S.g,S.go,S.es,S.co,us,ps,rfl,hst,ok.lg,ok.eu,ok.l40,hr',hri,lp,q⟩
abbrev jj:Stmt:=top 69
theorem tV:aM ["_law_state","_law_deed"] ["_law_state","_law_deed"] (aA jj):=⟨rfl,rfl,rfl,by decide+kernel,rfl,by decide+kernel,by decide+kernel⟩
inductive wz (vs:List V) (H:Hp) (Q:VK):Prop where
 | mk (be a da:Addr) (A:Sa) (d:lE) (z0:vs=[.ref a,.ref da]) (z1:StR be A.n H a A.g A.go A.es A.co) (z2:DeR A.n H da d) (z3:Q (vaV A d) H):wz  vs H Q
def BW:Sp:=fun vs H Q _=>wz  vs H Q
theorem DeR.word {n:Nat} {H:Hp} {a:Addr} {d:lE} (h:DeR n H a d):∃ (w:Px) (r:List V),H a=some (.tup (.str w::r))/\((w = "come"/\d = .come)∨(w = "pledge"/\∃ o pl,d = .pledge o pl)∨(w≠"come"/\w≠"pledge"/\∀ A,vaV A d = .non)):=by
 cases h with
 | come h=>exact⟨_,_,h,.inl ⟨rfl,rfl⟩⟩
 | leave h=>exact⟨_,_,h,.inr (.inr ⟨by decide,by decide,fun _=>rfl⟩)⟩
 | pledge h _=>exact⟨_,_,h,.inr (.inl ⟨rfl,_,_,rfl⟩)⟩
 | hand h _ _ _=>exact⟨_,_,h,.inr (.inr ⟨by decide,by decide,fun _=>rfl⟩)⟩
theorem uA (F:Fun K "_law_value" "_law_value" jj f fd) (B:Bt mg):bK P w K mg base CX0 1 f fd ["_law_state","_law_deed"] BW:=by
 refine F.ok tV (fun vs H Q E h=>?_) (fun cdv A outer s H vs Q E hr h=>?_)
 ·obtain⟨be,a,da,A,d,rfl,_⟩:=h
  rfl
 ·obtain⟨be,a,da,S,d,rfl,⟨pa,ga,ta,kvs,h1,h2,h3,h4,h5,h6⟩,hd,q⟩:=h
  refine⟨_,(aj (aY (aG bD (aQ (r:=bI K) aK (pv 1) az (fun _ _=>rfl)) aO (aL _)) (aq (aJ (aC (r:=jC K) aU rfl B.len_ bL (aa (aQ (r:=bI K) aK (pv 0) az (fun _ _=>rfl)) ak)))) aH)
 (aj (aY (aG bD (aQ (r:=bI K) aK (pv 1) az (fun _ _=>rfl)) aO (aL _)) (aq (aJ (aQ (r:=bI K) aK (pv 0) az (fun _ _=>rfl)))) aH)
 (aq (aJ K4)))),?_⟩
  obtain⟨wd,r,hda,hw⟩:=hd.word
  refine⟨_,rfl,da,_,_,_,rfl,rfl,SqT.of hda,au (k:=0) rfl,rfl,_,rfl,?_⟩
  rcases hw with⟨rfl,rfl⟩ | ⟨rfl,o,pl,rfl⟩ | ⟨n1,n2,e⟩
  ·rw[show decide (V.str "come" = V.str "come")=true from decide_eq_true rfl]
   refine cH ⟨_,rfl,a,_,_,_,rfl,rfl,SqT.of h1,au (k:=0) rfl,pa,_,rfl,.inl (SqL.of h2),?_⟩
   rw[cP]
   exact q
  ·rw[show decide (V.str "pledge" = V.str "come")=false from decide_eq_false (aB (by decide))]
   refine bG (nN ?_)
   refine⟨_,rfl,da,_,_,_,rfl,rfl,SqT.of hda,au (k:=0) rfl,rfl,_,rfl,?_⟩
   rw[show decide (V.str "pledge" = V.str "pledge")=true from decide_eq_true rfl]
   exact cH ⟨_,rfl,a,_,_,_,rfl,rfl,SqT.of h1,au (k:=3) rfl,q⟩
  ·rw[show decide (V.str wd=V.str "come")=false from decide_eq_false (aB n1)]
   refine bG (nN ?_)
   refine⟨_,rfl,da,_,_,_,rfl,rfl,SqT.of hda,au (k:=0) rfl,rfl,_,rfl,?_⟩
   rw[show decide (V.str wd=V.str "pledge")=false from decide_eq_false (aB n2)]
   refine bG (nN ?_)
   rw[e] at q
   exact q
abbrev jc:Stmt:=top 68
theorem bQ:aM ["_law_state","_law_deed","_law_present","_law_green_there","_law_table","_law_coming_number","_law_left","_law_some","_law_number"] ["_law_state","_law_deed"] (aA jc):=⟨rfl,rfl,rfl,by decide+kernel,rfl,by decide+kernel,by decide+kernel⟩
inductive xJ (vs:List V) (H:Hp) (Q:VK):Prop where
 | mk (be a da:Addr) (A:Sa) (d:lE) (o:HO) (z0:vs=[.ref a,.ref da]) (z1:StR be A.n H a A.g A.go A.es A.co) (z2:H be=some o) (z3:AOk A) (z4:DeR A.n H da d) (z5:reW A d = "") (z6:∀ (a':Addr) (H':Hp),aV H H'->StR be (A.aft d).n H' a' (A.aft d).g (A.aft d).go (A.aft d).es (A.aft d).co->Q (.ref a') H'):xJ  vs H Q
def Av:Sp:=fun vs H Q _=>xJ  vs H Q
theorem Ea {n:Nat} {go:List Nat} (h:∀ x∈go,x < n):prF (n+1) go=prF n go++[.bl true]:=by
 unfold prF
 rw[XD,O7]
 congr 1
 show[V.bl (decide (n ∉ go))]=_
 rw[decide_eq_true (show n ∉ go from fun z=>Qu _ (h n z))]
theorem Cj {n:Nat} {g:List Int} {go:List Nat}:∀ {ps:List (Int × Int)} {seen:List Nat},riW n g go seen ps = ""->∀ x∈ps,∃ j:Nat,x.1=j/\j < n
 | [],_,_,x,hx=>by cases hx
 | y::r,seen,h,x,hx=>by
  rw[riW] at h
  by_cases z:miW n go y.1≠""
  ·rw[if_pos z] at h
   exact absurd h z
  ·rw[if_neg z] at h
   split at h
   ·exact absurd h (by decide)
   ·rcases List.mem_cons.mp hx with e | e
    ·obtain⟨j,ej,hj,_⟩:=sI (Classical.not_not.mp z)
     rw[e]
     exact⟨j,ej,hj⟩
    ·exact Cj h x e
theorem Jh {n:Nat} {g:List Int} {go:List Nat} {es:List Ent} {ps:List (Int × Int)} (h:haW n g go es ps = ""):∀ x∈ps,∃ j:Nat,x.1=j/\j < n:=by
 unfold haW at h
 by_cases z:ps=[]
 ·rw[if_pos z] at h
  exact absurd h (by decide)
 ·rw[if_neg z] at h
  by_cases y:riW n g go [] ps≠""
  ·rw[if_pos y] at h
   exact absurd h y
  ·exact Cj (Classical.not_not.mp y)
theorem ux (F:Fun K "_law_after" "_law_after" jc f fd) (B:Bt mg) (B_dict:mg "dict" = none) (D_law_green:Df P w K mg base "_law_green" 1 ["_law_state","_law_rises"] qY):bK P w K mg base CX0 2 f fd ["_law_state","_law_deed"] Av:=by
 refine F.ok bQ (fun vs H Q E h=>?_) (fun cdv A outer s H vs Q E hr h=>?_)
 ·obtain⟨be,a,da,A,d,o,rfl,_⟩:=h
  rfl
 ·obtain⟨be,a,da,S,d,ob,rfl,hst,hbe,ok,hd,hw,q⟩:=h
  refine⟨_,(aj (rY (pv 0) (d8 (K:=K) 4 rfl rfl (aZ (aP (i:=2) bQ.nd rfl (Xk rfl)) (aZ (aP (i:=3) bQ.nd rfl (Pr rfl)) (aZ (aP (i:=4) bQ.nd rfl (Pr rfl)) (aZ (aP (i:=5) bQ.nd rfl (Pr rfl)) d7))))))
 (aj (aY (aG bD (aQ (r:=bI K) aK (pv 1) az (fun _ _=>rfl)) aO (aL _)) (aq (aJ (bM (aa (bW sH (pv 2) (cJ (aa eE ak))) (aa (bW (r:=nC K) jR (pv 3) (bM (aa az ak))) (aa (pv 4) (aa (pv 5) ak))))))) aH)
 (aj (aY (aG bD (aQ (r:=bI K) aK (pv 1) az (fun _ _=>rfl)) aO (aL _)) (aj (u9 (L:=["_law_at"]) (F:=["_law_present","_law_deed"]) (cap:=[2,1]) (j:=6) bQ.nd rfl (Pr rfl) rfl (cG rfl rfl (by kernel_rfl)) (jL rfl B.range_ (aa (aC (r:=jC K) aU rfl B.len_ bL (aa (pv 2) ak)) ak)) (fun _ _ _ _ _=>(aP (i:=0) (cg (by decide+kernel)) rfl (Pr rfl))) (fun _ _ _ _ _=>fc) (fun _ _ _ _ _=>(dF (aQ (r:=yV K) dJ (pv 1) (pv 0) (fun _ _=>rfl)) (gF (bO qI (pv 0) (aQ (r:=bI K) aK (pv 2) az (fun _ _=>rfl)) (aL _))))))
 (aj (bh (i:=7) bQ.nd rfl (Pr rfl) wW)
 (aj (cZ Qy rfl (dh (aC (r:=vY) (kJ rfl) rfl B.sorted_ (by decide+kernel) (aa (pv 4) ak))) (aP (i:=8) bQ.nd rfl (Pr rfl)) (aq (aY (aG qI (aQ (r:=bI K) aK (mF hr.mO (pv 4) (pv 8) (fun _ _=>rfl)) az (fun _ _=>rfl)) (aQ (r:=bI K) aK (pv 1) az (fun _ _=>rfl)) (aL _)) (aq (zY hr.mO (pv 7) (pv 8) (mF hr.mO (pv 4) (pv 8) (fun _ _=>rfl)) rfl)) aH)))
 (aq (aJ (bM (aa (pv 6) (aa (pv 3) (aa (pv 7) (aa (pv 5) ak)))))))))) aH)
 (aj (aY (aG bD (aQ (r:=bI K) aK (pv 1) az (fun _ _=>rfl)) aO (aL _)) (aj (bh (i:=7) bQ.nd rfl (Pr rfl) (cu (r:=Cg) vo rfl B_dict Ho (aa (pv 4) ak)))
 (aj (zY hr.mO (pv 7) (pv 5) (bM (aa (aQ (r:=bI K) aK (pv 1) az (fun _ _=>rfl)) (aa (aQ (r:=bI K) aK (pv 1) az (fun _ _=>rfl)) ak))) rfl)
 (aq (aJ (bM (aa (pv 2) (aa (pv 3) (aa (pv 7) (aa (bW gG (pv 5) az) ak))))))))) aH)
 (aj (aY (aG bD (aQ (r:=bI K) aK (pv 1) az (fun _ _=>rfl)) aO (aL _)) (aq (aJ (bM (aa (pv 2) (aa (bC D_law_green hr (aa (pv 0) (aa (aQ (r:=bI K) aK (pv 1) az (fun _ _=>rfl)) ak))) (aa (pv 4) (aa (pv 5) ak))))))) aH)
 (aq dN)))))),?_⟩
  obtain⟨pa,ga,ta,kvs,h1,h2,h3,h4,h5,h6⟩:=id hst
  have new:∀ {H1:Hp} {l:Addr},aV H H1->H1 l=none->l≠be:=fun s hl z=>by rw[z,s _ _ hbe] at hl; cases hl
  have l40:=ok.l40
  refine aF (fun σ H1=>σ=[some (.ref a),some (.ref da),some (.ref pa),some (.ref ga),some (.ref ta),some (vN S.co),none,none,none]/\H1=H) ?q0 ?t0
  case t0 =>
   intro N Rc
   exact⟨_,rfl,a,_,rfl,SqT.of h1,rfl,_,_,rfl,_,_,rfl,_,_,rfl,_,_,rfl,rfl,Rc _ _ ⟨rfl,rfl⟩⟩
  case q0 =>
  rintro σ H1 ⟨rfl,rfl⟩
  cases hd with
  | come hda =>
   refine⟨_,rfl,da,_,_,_,rfl,rfl,SqT.of hda,au (k:=0) rfl,rfl,_,rfl,?_⟩
   rw[show decide (V.str "come" = V.str "come")=true from decide_eq_true rfl]
   refine cH ⟨_,rfl,small (by show 1<=1000; decide),fun p1 hp1=>?_⟩
   generalize eF1:upd H1 p1 _=F1
   obtain⟨gf1,ef1⟩:=aW eF1 hp1
   have n12:=ok.n12
   have lg:=ok.lg
   refine⟨pa,p1,_,_,rfl,rfl,gf1 _ _ h2,ef1,small (by rw[cP]; show S.n+1<=1000; lia),fun p2 hp2=>?_⟩
   generalize eF2:upd F1 p2 _=F2
   obtain⟨gf2,ef2⟩:=aW eF2 hp2
   rw[← Ea ok.gl] at ef2
   refine⟨_,rfl,small (by show 1<=1000; decide),fun p3 hp3=>?_⟩
   generalize eF3:upd F2 p3 _=F3
   obtain⟨gf3,ef3⟩:=aW eF3 hp3
   have s13:=gf1.trans (gf2.trans gf3)
   refine JQ (s13 _ _ h3) ef3 (by rw[Ow]; show S.g.length+1<=1000; lia) fun p4 F4 s4 e4=>?_
   refine⟨_,rfl,_,rfl,small (by show 4<=1000; decide),fun p5 hp5=>?_⟩
   generalize eF5:upd F4 p5 _=F5
   obtain⟨gf5,ef5⟩:=aW eF5 hp5
   have s15:=s13.trans (s4.trans gf5)
   refine q p5 F5 s15 ⟨p2,p4,ta,kvs,ef5,(gf3.trans (s4.trans gf5)) _ _ ef2,gf5 _ _ (e4.trans (by show _=some (HO.tup ((S.g++[0]).map V.int)); rw[O7]; rfl)),s15 _ _ h4,(h5.bc fun a xs z=>s15 _ _ z).le (Rm _),new gf1 hp2⟩
  | leave hda =>
   rename_i o
   obtain⟨i,rfl,hi,hg⟩:=sI (show miW S.n S.go o = "" from hw)
   refine⟨_,rfl,da,_,_,_,rfl,rfl,SqT.of hda,au (k:=0) rfl,rfl,_,rfl,?_⟩
   rw[show decide (V.str "leave" = V.str "come")=false from decide_eq_false (aB (by decide))]
   refine bG (nN ?_)
   refine⟨_,rfl,da,_,_,_,rfl,rfl,SqT.of hda,au (k:=0) rfl,rfl,_,rfl,?_⟩
   rw[show decide (V.str "leave" = V.str "leave")=true from decide_eq_true rfl]
   refine cH ?_
   have n12:=ok.n12
   refine aF (fun σ H2=>∃ pl:Addr,σ=[some (.ref a),some (.ref da),some (.ref pa),some (.ref ga),some (.ref ta),some (vN S.co),some (.ref pl),none,none]/\aV H1 H2/\H1 pl=none/\H2 pl=some (.lst (prF S.n (mq (S.go++[i]))))) ?qa ?ta
   case ta =>
    intro N Rc
    refine⟨_,rfl,pa,_,rfl,.inl (SqL.of h2),_,rfl,by rw[cP]; lia,by rw[cP]; lia,fun D hD=>fO (lo:=0) (n:=(((prF S.n S.go).length:Nat):Int).toNat) (fun j zs σ' H2=>(∃ u,σ'=[u,some (.ref pa),some (.ref da)])/\aV H1 H2/\H2 D=some (.lst zs)/\zs=prF j (mq (S.go++[i])))
     ⟨⟨_,rfl⟩,aD hD _,ao,rfl⟩ (fun j zs σ' H2 _ h=>h.2.2.1) ?_ ?_⟩
    ·rintro j zs σ' H2 hj ⟨⟨u,rfl⟩,sm,eD,rfl⟩
     rw[cP] at hj
     have hj':j < S.n:=by lia
     rw[Us]
     have nx:prF (j+1) (mq (S.go++[i]))=prF j (mq (S.go++[i]))++[.bl (decide (j ∉ S.go) && decide (j≠i))]:=by
      unfold prF
      rw[XD,O7]
      congr 1
      show[V.bl (decide (j ∉ mq (S.go++[i])))]=_
      rw[← Bool.decide_and]
      congr 2
      refine decide_eq_decide.mpr ?_
      rw[(fK _).mem_iff,T7,Rt]
      exact⟨fun h=>⟨fun z=>h (.inl z),fun z=>h (.inr z)⟩,fun h z=>z.elim h.1 h.2⟩
     refine gT ?_
     refine⟨_,rfl,_,rfl,pa,_,_,.bl (decide (j ∉ S.go)),rfl,rfl,SqL.of (sm _ _ h2),gj (zU hj'),?_⟩
     have fin:∀ c:Bool,c=(decide (j ∉ S.go) && decide (j≠i))->H2 D=some (.lst (prF j (mq (S.go++[i]))))/\(prF j (mq (S.go++[i]))).length < sizeLine/\(∃ u:Option V,[some (V.int (j:Int)),some (V.ref pa),some (V.ref da)]=[u,some (V.ref pa),some (V.ref da)])/\aV H1 (upd H2 D (.lst (prF j (mq (S.go++[i]))++[.bl c])))/\upd H2 D (.lst (prF j (mq (S.go++[i]))++[.bl c])) D=some (.lst (prF j (mq (S.go++[i]))++[.bl c]))/\prF j (mq (S.go++[i]))++[.bl c]=prF (j+1) (mq (S.go++[i])):=fun c hc =>
      ⟨eD,bj (by rw[cP]; lia),⟨_,rfl⟩,bu sm hD _,ao,by rw[nx,hc]⟩
     by_cases z:j∈S.go
     ·rw[decide_eq_false (not_not_intro z)] at fin ⊢
      exact⟨false,rfl,bG (fin false rfl)⟩
     ·rw[decide_eq_true z] at fin ⊢
      refine⟨true,rfl,cH ⟨_,rfl,_,rfl,da,_,_,_,rfl,rfl,SqT.of (sm _ _ hda),au (k:=1) rfl,rfl,fin _ ?_⟩⟩
      rw[Sx]
      by_cases y:j=i
      ·rw[decide_eq_true (show V.int (j:Int)=V.int (i:Int) by rw[y]),decide_eq_false (not_not_intro y)]
       rfl
      ·rw[decide_eq_false (show ¬ V.int (j:Int)=V.int (i:Int) from fun x=>y (by injection x with x; lia)),decide_eq_true y]
       rfl
    ·rintro zs σ' H2 ⟨_,sm,eD,rfl⟩
     have e:(((prF S.n S.go).length:Nat):Int).toNat=S.n:=by rw[cP]; lia
     rw[e] at eD
     exact Rc _ _ ⟨D,rfl,sm,hD,eD⟩
   case qa =>
   rintro σ H2 ⟨pl,rfl,s2,fpl,epl⟩
   have up:=ok.eu.up
   have nd:=ok.eu.nd
   refine aF (fun σ H3=>∃ so:Addr,σ=[some (.ref a),some (.ref da),some (.ref pa),some (.ref ga),some (.ref ta),some (vN S.co),some (.ref pl),some (.ref so),none]/\aV H2 H3/\H2 so=none/\H3 so=some (.dK [])) ?qb ?tb
   case tb =>
    intro N Rc so hso
    exact Rc _ _ ⟨so,rfl,aD hso _,hso,ao⟩
   case qb =>
   rintro σ H3 ⟨so,rfl,s3,fso,eso⟩
   have s13:=s2.trans s3
   have fso1:=s2.free fso
   refine aF (fun σ H4=>∃ (u:Option V) (kv:List (Key × V)),σ=[some (.ref a),some (.ref da),some (.ref pa),some (.ref ga),some (.ref ta),some (vN S.co),some (.ref pl),some (.ref so),u]/\aV H1 H4/\H4 pl=some (.lst (prF S.n (mq (S.go++[i]))))/\H4 so=some (.dK kv)/\TbR S.n H4 kv (S.es.filter fun e=>decide (e.2.1≠i))) ?qc ?tc
   case tc =>
    intro N Rc
    refine⟨_,rfl,ta,kvs,S.es.map fun e=>(e.1:Int),rfl,s13 _ _ h4,h5.keys,by rw[Ow]; lia,fun ms pm sr l hl=>?_⟩
    have em:=ok.eu.sort pm sr
    subst em
    generalize eH4:upd H3 l _=H4
    obtain⟨s4,e4⟩:=aW eH4 hl
    have nsl:so≠l:=fun z=>by rw[z,hl] at eso; cases eso
    have eso4:=s4 _ _ eso
    have s14:=s13.trans s4
    refine⟨l,rfl,⟨_,SqL.of e4⟩,dq (K:=K) (a:=l) (xs:=(S.es.map fun e=>(e.1:Int)).map V.int) (fun j σ H5=>∃ (u:Option V) (kv:List (Key × V)),σ=[some (.ref a),some (.ref da),some (.ref pa),some (.ref ga),some (.ref ta),some (vN S.co),some (.ref pl),some (.ref so),u]/\aV H1 H5/\H5 pl=some (.lst (prF S.n (mq (S.go++[i]))))/\H5 l=some (.lst ((S.es.map fun e=>(e.1:Int)).map V.int))/\H5 so=some (.dK kv)/\TbR S.n H5 kv ((S.es.take j).filter fun e=>decide (e.2.1≠i)))
     ⟨_,[],rfl,s14,s4 _ _ (s3 _ _ epl),e4,eso4,by rw[Qj]; exact .nil⟩ (fun j σ H5 _ z=>by obtain⟨_,_,_,_,_,y,_⟩:=z; exact SqL.of y) ?_ ?_⟩
    ·rintro j x σ H5 hx ⟨u,kv,rfl,s5,epl5,el5,eso5,tb5⟩
     rw[Pk,Pk] at hx
     obtain⟨e,he,rfl⟩:∃ e,S.es[j]? = some e/\x = .int (e.1:Int):=by
      cases z:S.es[j]? with
      | none=>rw[z] at hx; cases hx
      | some e=>rw[z] at hx; cases hx; exact⟨e,rfl,rfl⟩
     obtain⟨t,p,hv,ht,hpp⟩:=h5.val nd he
     have nx:=cA.Nr (n:=S.n) (p:=fun e:Ent=>decide (e.2.1≠i)) he
     have dg:Ae H5 ta (.int (e.1:Int)) (some (.ref t)):=by
      rw[← hv]
      exact Ae.k (k:=Ru (e.1:Int)) (s5 _ _ h4)
     have lkv:=tb5.length
     have lf:=Ro (fun e:Ent=>decide (e.2.1≠i)) (S.es.take j)
     rw[Qf] at lf
     refine gN ?_
     refine⟨_,rfl,_,rfl,ta,_,rfl,dg,t,_,_,_,rfl,rfl,SqT.of (s5 _ _ ht),au (k:=0) rfl,_,rfl,da,_,_,_,rfl,rfl,SqT.of (s5 _ _ hda),au (k:=1) rfl,rfl,_,rfl,?_⟩
     by_cases z:e.2.1=i
     ·rw[show decide (vN e.2.1=V.int (i:Int))=true from decide_eq_true (by rw[z]; rfl)]
      show if (!true)=true then _ else _
      refine bG (nN ⟨_,kv,rfl,s5,epl5,el5,eso5,?_⟩)
      rw[nx,if_neg (by rw[decide_eq_false (not_not_intro z)]; exact O2),Q8]
      exact tb5
     ·rw[show decide (vN e.2.1=V.int (i:Int))=false from decide_eq_false fun y=>z (by injection y with y; lia)]
      show if (!false)=true then _ else _
      have hno:uL kv (Ru (e.1:Int))=none:=tb5.none fun e' he' y=>by
       have m1:=List.mem_filter.mp he'
       obtain⟨k',hk',ek'⟩:=Wi m1.1
       rw[Qf] at hk'
       rw[List.getElem_take] at ek'
       have je:=List.getElem?_eq_some_iff.mp he
       have e1:(S.es.map (·.1))[k']'(by rw[Ow]; lia)=(S.es.map (·.1))[j]'(by rw[Ow]; exact je.1):=by
        rw[List.getElem_map,List.getElem_map,ek',je.2]
        lia
       have:=(List.getElem_inj nd).mp e1
       lia
      refine cH ⟨_,rfl,_,rfl,ta,_,rfl,dg,_,rfl,_,rfl,so,_,rfl,Jj.k (k:=Ru (e.1:Int)) eso5 (OD (show kv.length < 1000 by lia) (by decide)),?_⟩
      have tk:∀ b ys,H5 b=some (HO.tup ys)->upd H5 so (.dK (putK kv (Ru (e.1:Int)) (.ref t))) b=some (HO.tup ys):=fun b ys hb=>by rw[aN fun y=>by rw[y,eso5] at hb; cases hb]; exact hb
      refine⟨_,_,rfl,bu s5 fso1 _,?_,?_,ao,?_⟩
      ·rw[aN fun y=>by rw[y,eso5] at epl5; cases epl5]
       exact epl5
      ·rw[aN nsl.symm]
       exact el5
      ·rw[wG _ hno,nx,if_pos (decide_eq_true z)] at *
       exact TbR.snoc (num:=e.1) (one:=e.2.1) (pl:=e.2.2) (tk _ _ (s5 _ _ ht)) ((hpp.bc fun a xs y=>s5 _ _ y).bc tk) (tb5.bc tk)
    ·rintro σ H5 ⟨u,kv,rfl,s5,epl5,_,eso5,tb5⟩
     rw[Ow,Ow,Pq] at tb5
     exact Rc _ _ ⟨u,kv,rfl,s5,epl5,eso5,tb5⟩
   case qc =>
   rintro σ H4 ⟨u,kv,rfl,s4,epl4,eso4,tb4⟩
   refine⟨_,rfl,_,rfl,_,rfl,_,rfl,small (by show 4<=1000; decide),fun p5 hp5=>?_⟩
   have sn:=aD hp5 (.tup [.ref pl,.ref ga,.ref so,vN S.co])
   have s5:=s4.trans sn
   refine q p5 _ s5 ⟨pl,ga,so,kv,ao,?_,s5 _ _ h3,sn _ _ eso4,?_,new (aV.refl _) fpl⟩
   ·show _=some (HO.lst (prF S.n (mq (S.go++[((i:Nat):Int).toNat]))))
    rw[PN]
    exact sn _ _ epl4
   ·show TbR S.n _ kv (S.es.filter fun e=>decide (e.2.1≠((i:Nat):Int).toNat))
    rw[PN]
    exact tb4.bc fun a xs y=>sn _ _ y
  | pledge hda hp =>
   rename_i o p pl
   obtain⟨i,rfl,hi,hg,hl⟩:=Gj (show plW S.n S.go S.es o pl = "" from hw)
   refine⟨_,rfl,da,_,_,_,rfl,rfl,SqT.of hda,au (k:=0) rfl,rfl,_,rfl,?_⟩
   rw[show decide (V.str "pledge" = V.str "come")=false from decide_eq_false (aB (by decide))]
   refine bG (nN ?_)
   refine⟨_,rfl,da,_,_,_,rfl,rfl,SqT.of hda,au (k:=0) rfl,rfl,_,rfl,?_⟩
   rw[show decide (V.str "pledge" = V.str "leave")=false from decide_eq_false (aB (by decide))]
   refine bG (nN ?_)
   refine⟨_,rfl,da,_,_,_,rfl,rfl,SqT.of hda,au (k:=0) rfl,rfl,_,rfl,?_⟩
   rw[show decide (V.str "pledge" = V.str "pledge")=true from decide_eq_true rfl]
   refine cH ?_
   refine aF (fun σ H2=>∃ so:Addr,σ=[some (.ref a),some (.ref da),some (.ref pa),some (.ref ga),some (.ref ta),some (vN S.co),none,some (.ref so),none]/\aV H1 H2/\H1 so=none/\H2 so=some (.dK kvs)) ?qd ?td
   case td =>
    intro N Rc
    exact⟨_,rfl,ta,kvs,rfl,h4,fun so hso=>Rc _ _ ⟨so,rfl,aD hso _,hso,ao⟩⟩
   case qd =>
   rintro σ H2 ⟨so,rfl,s2,fso,eso⟩
   have lk:=h5.length
   have hno:uL kvs (Ru (S.co:Int))=none:=h5.none fun e he=>by have:=(ok.eu.lt e he).1; lia
   refine aF (fun σ H3=>∃ t:Addr,σ=[some (.ref a),some (.ref da),some (.ref pa),some (.ref ga),some (.ref ta),some (vN S.co),none,some (.ref so),none]/\aV H1 H3/\H3 so=some (.dK (kvs++[(Ru (S.co:Int),.ref t)]))/\H3 t=some (.tup [vN i,.ref p])) ?qe ?te
   case te =>
    intro N Rc
    refine⟨_,rfl,da,_,_,_,rfl,rfl,SqT.of (s2 _ _ hda),au (k:=1) rfl,_,rfl,da,_,_,_,rfl,rfl,SqT.of (s2 _ _ hda),au (k:=2) rfl,small (by show 2<=1000; decide),fun t ht=>?_⟩
    have sn:=aD ht (.tup [.int (i:Int),.ref p])
    have eso':=sn _ _ eso
    have nst:so≠t:=fun z=>by rw[z,ht] at eso; cases eso
    refine⟨_,rfl,_,rfl,so,_,rfl,Jj.k (k:=Ru (S.co:Int)) eso' (OD (show kvs.length < 1000 by lia) (by decide)),Rc _ _ ⟨t,rfl,bu (s2.trans sn) fso _,?_,?_⟩⟩
    ·rw[ao,wG _ hno]
    ·rw[aN nst.symm]
     exact ao
   case qe =>
   rintro σ H3 ⟨t,rfl,s3,eso3,et⟩
   refine⟨_,rfl,_,rfl,_,rfl,_,rfl,_,_,rfl,rfl,small (by show 4<=1000; decide),fun p5 hp5=>?_⟩
   have sn:=aD hp5 (.tup [.ref pa,.ref ga,.ref so,.int ((S.co:Int)+1)])
   have s4:=s3.trans sn
   refine q p5 _ s4 ⟨pa,ga,so,_,ao,s4 _ _ h2,s4 _ _ h3,sn _ _ eso3,?_,h6⟩
   show TbR S.n _ _ (S.es++[(S.co,((i:Nat):Int).toNat,pl)])
   rw[PN]
   exact TbR.snoc (sn _ _ et) (hp.bc fun a xs z=>s4 _ _ z) (h5.bc fun a xs z=>s4 _ _ z)
  | hand hda hr' hri lp =>
   rename_i r us ps
   refine⟨_,rfl,da,_,_,_,rfl,rfl,SqT.of hda,au (k:=0) rfl,rfl,_,rfl,?_⟩
   rw[show decide (V.str "hand" = V.str "come")=false from decide_eq_false (aB (by decide))]
   refine bG (nN ?_)
   refine⟨_,rfl,da,_,_,_,rfl,rfl,SqT.of hda,au (k:=0) rfl,rfl,_,rfl,?_⟩
   rw[show decide (V.str "hand" = V.str "leave")=false from decide_eq_false (aB (by decide))]
   refine bG (nN ?_)
   refine⟨_,rfl,da,_,_,_,rfl,rfl,SqT.of hda,au (k:=0) rfl,rfl,_,rfl,?_⟩
   rw[show decide (V.str "hand" = V.str "pledge")=false from decide_eq_false (aB (by decide))]
   refine bG (nN ?_)
   refine⟨_,rfl,da,_,_,_,rfl,rfl,SqT.of hda,au (k:=0) rfl,rfl,_,rfl,?_⟩
   rw[show decide (V.str "hand" = V.str "hand")=true from decide_eq_true rfl]
   refine cH ⟨_,rfl,_,rfl,_,rfl,da,_,_,_,rfl,rfl,SqT.of hda,au (k:=1) rfl,be,a,r,S.n,S.g,S.go,S.es,S.co,us,ps,rfl,hst,ok.lg,hr',hri,Jh (show haW S.n S.g S.go S.es ps = "" from hw),fun r2 H2 s2 e2=>?_⟩
   refine⟨_,rfl,_,rfl,small (by show 4<=1000; decide),fun p5 hp5=>?_⟩
   have sn:=aD hp5 (.tup [.ref pa,.ref r2,.ref ta,vN S.co])
   have s5:=s2.trans sn
   exact q p5 _ s5 ⟨pa,r2,ta,kvs,ao,s5 _ _ h2,sn _ _ e2,s5 _ _ h4,h5.bc fun a xs y=>s5 _ _ y,h6⟩
mutual
def tmD:Tm->Dm
 | .free=>.tup [.str "free"]
 | .never=>.tup [.str "never"]
 | .gives i k=>.tup [.str "gives",.int (i:Int),.int k]
 | .sum c k=>.tup [.str "sum",.tup ((c.map fun i:Nat=>(i:Int)).map Dm.int),.int k]
 | .crowd c k m=>.tup [.str "crowd",.tup ((c.map fun i:Nat=>(i:Int)).map Dm.int),.int k,.int m]
 | .all ts=>.tup [.str "all",.tup (Ft ts)]
 | .any ts=>.tup [.str "any",.tup (Ft ts)]
def Ft:List Tm->List Dm
 | []=>[]
 | t::r=>tmD t::Ft r
end
theorem tu {H:Hp} {b:Addr} {c:List Nat} (h:H b=some (.tup (c.map vN))) (l:c.length<=20):Rep H (.ref b) (.tup ((c.map fun i:Nat=>(i:Int)).map Dm.int)):=by
 rw[m5] at h
 exact pZ h (by rw[Ow]; lia)
mutual
theorem gH.rep {n:Nat} {H:Hp}:∀ {v:V} {t:Tm},gH n H v t->Rep H v (tmD t)
 | _,_,.free h=>by rw[tmD]; exact .tup h (by show 1<=100000; decide) (.cons (.str _) .nil)
 | _,_,.never h=>by rw[tmD]; exact .tup h (by show 1<=100000; decide) (.cons (.str _) .nil)
 | _,_,.gives h _ _ _=>by rw[tmD]; exact .tup h (by show 3<=100000; decide) (.cons (.str _) (.cons (.int _) (.cons (.int _) .nil)))
 | _,_,.sum h hb _ _ l _ _ _=>by rw[tmD]; exact .tup h (by show 3<=100000; decide) (.cons (.str _) (.cons (tu hb l) (.cons (.int _) .nil)))
 | _,_,.crowd h hb _ _ l _ _ _ _ _=>by rw[tmD]; exact .tup h (by show 4<=100000; decide) (.cons (.str _) (.cons (tu hb l) (.cons (.int _) (.cons (.int _) .nil))))
 | _,_,.all h hb _ l6 rl=>by rw[tmD]; exact .tup h (by show 2<=100000; decide) (.cons (.str _) (.cons (.tup hb (by lia) (cD.rep rl)) .nil))
 | _,_,.any h hb _ l6 rl=>by rw[tmD]; exact .tup h (by show 2<=100000; decide) (.cons (.str _) (.cons (.tup hb (by lia) (cD.rep rl)) .nil))
theorem cD.rep {n:Nat} {H:Hp}:∀ {vs:List V} {ts:List Tm},cD n H vs ts->oE H vs (Ft ts)
 | _,_,.nil=>by rw[Ft]; exact .nil
 | _,_,.cons h r=>by rw[Ft]; exact .cons (gH.rep h) (cD.rep r)
end
mutual
theorem Cr:∀ t:Tm,(tmD t).dep<=2 * t.dep
 | .free=>by rw[tmD]; decide
 | .never=>by rw[tmD]; decide
 | .gives i k=>by rw[tmD]; simp [Dm.dep,fJ,Tm.dep]
 | .sum c k=>by
  rw[tmD,Dm.dep,fJ,fJ,zB]
  simp [Dm.dep,fJ,Tm.dep]
 | .crowd c k m=>by
  rw[tmD,Dm.dep,fJ,fJ,zB]
  simp [Dm.dep,fJ,Tm.dep]
 | .all ts=>by
  have:=pM ts
  rw[tmD,Dm.dep,fJ,fJ,Dm.dep,Tm.dep]
  simp [Dm.dep,fJ]
  lia
 | .any ts=>by
  have:=pM ts
  rw[tmD,Dm.dep,fJ,fJ,Dm.dep,Tm.dep]
  simp [Dm.dep,fJ]
  lia
theorem pM:∀ ts:List Tm,fJ (Ft ts)<=2 * tdL ts
 | []=>by rw[Ft,tdL,fJ]; decide
 | t::r=>by
  have h1:=Cr t
  have h2:=pM r
  rw[Ft,fJ,tdL]
  lia
end
abbrev CW:Stmt:=top 46
abbrev uV:Stmt:=top 48
theorem G4:aM ["boon"] ["boon"] (aA CW):=⟨rfl,rfl,rfl,by decide+kernel,rfl,by decide+kernel,by decide+kernel⟩
theorem FJ:aM ["boon"] ["boon"] (aA uV):=⟨rfl,rfl,rfl,by decide+kernel,rfl,by decide+kernel,by decide+kernel⟩
inductive Cz (CS CB:Addr) (vs:List V) (H:Hp) (Q:VK):Prop where
 | mk (b be:Addr) (n d co:Nat) (g:List Int) (go:List Nat) (es:List Ent) (z0:vs=[.ref b]) (z1:ql CS CB n H b be d g go es co) (z2:Q (.int (g.length:Int)) H):Cz CS CB vs H Q
def Ay (CS CB:Addr):Sp:=fun vs H Q _=>Cz CS CB vs H Q
inductive xq (CS CB:Addr) (vs:List V) (H:Hp) (Q:VK):Prop where
 | mk (b be:Addr) (n d co:Nat) (g:List Int) (go:List Nat) (es:List Ent) (z0:vs=[.ref b]) (z1:ql CS CB n H b be d g go es co) (z2:∀ a,H a=some (.tup (g.map V.int))->Q (.ref a) H):xq CS CB vs H Q
def CT (CS CB:Addr):Sp:=fun vs H Q _=>xq CS CB vs H Q
theorem Hn {CS CB:Addr} (F:Fun K "folk" "folk" CW f fd) (B:Bt mg) (S:yp K CS) (T:zc K CB):bK P w K mg base CX0 1 f fd ["boon"] (Ay CS CB):=by
 refine F.ok G4 (fun vs H Q E h=>?_) (fun cdv A outer s H vs Q E hr h=>?_)
 ·obtain⟨b,be,n,d,co,g,go,es,rfl,_⟩:=h
  rfl
 ·obtain⟨b,be,n,d,co,g,go,es,rfl,⟨dx,nw,ah,xs,hb,hbe,lx,dx2,ga,goa,sa,us,hs,hga,hgoa,hsa,hes⟩,q⟩:=h
  refine⟨_,(aq (aJ (aC (r:=jC K) aU rfl B.len_ bL (aa (aX K rfl (aX K rfl (pv 0))) ak)))),?_⟩
  refine⟨_,rfl,b,CB,dx,_,_,rfl,hb,T.cl,T.now,rfl,nw,CS,dx2,_,_,rfl,hs,S.cl,S.green,rfl,ga,_,rfl,.inr (SqT.of hga),?_⟩
  rw[Ow]
  exact q
theorem Fj {CS CB:Addr} (F:Fun K "green" "green" uV f fd) (B:Bt mg) (S:yp K CS) (T:zc K CB):bK P w K mg base CX0 1 f fd ["boon"] (CT CS CB):=by
 refine F.ok FJ (fun vs H Q E h=>?_) (fun cdv A outer s H vs Q E hr h=>?_)
 ·obtain⟨b,be,n,d,co,g,go,es,rfl,_⟩:=h
  rfl
 ·obtain⟨b,be,n,d,co,g,go,es,rfl,⟨dx,nw,ah,xs,hb,hbe,lx,dx2,ga,goa,sa,us,hs,hga,hgoa,hsa,hes⟩,q⟩:=h
  refine⟨_,(aq (aJ (aX K rfl (aX K rfl (pv 0))))),?_⟩
  exact⟨_,rfl,b,CB,dx,_,_,rfl,hb,T.cl,T.now,rfl,nw,CS,dx2,_,_,rfl,hs,S.cl,S.green,rfl,q ga hga⟩
abbrev vD:Stmt:=top 47
theorem DP:aM ["boon"] ["boon"] (aA vD):=⟨rfl,rfl,rfl,by decide+kernel,rfl,by decide+kernel,by decide+kernel⟩
def thF (n:Nat) (go:List Nat):List Nat:=(Rk n).filter fun i=>decide (i ∉ go)
theorem wD (n:Nat) (go:List Nat):thF (n+1) go=thF n go++if n∈go then [] else [n]:=by
 unfold thF
 rw[XD,Sg]
 congr 1
 by_cases h:n∈go
 ·rw[if_pos h,Ui (by rw[decide_eq_false (fun y=>y h)]; exact O2)]
  rfl
 ·rw[if_neg h,Uh (by exact decide_eq_true h)]
  rfl
theorem uZ (n:Nat) (go:List Nat):(thF n go).length<=n:=by
 have:=Ro (fun i=>decide (i ∉ go)) (Rk n)
 rw[RB] at this
 exact this
inductive tY (CS CB:Addr) (vs:List V) (H:Hp) (Q:VK):Prop where
 | mk (b be:Addr) (n d co:Nat) (g:List Int) (go:List Nat) (es:List Ent) (z0:vs=[.ref b]) (z1:ql CS CB n H b be d g go es co) (z2:g.length<=12) (z3:∀ (a:Addr) (H':Hp),aV H H'->H a=none->H' a=some (.lst ((thF g.length go).map vN))->Q (.ref a) H'):tY CS CB vs H Q
def xN (CS CB:Addr):Sp:=fun vs H Q _=>tY CS CB vs H Q
theorem pJ {CS CB:Addr} (F:Fun K "there" "there" vD f fd) (B:Bt mg) (S:yp K CS) (T:zc K CB) (D_folk:Df P w K mg base "folk" 1 ["boon"] (Ay CS CB)):bK P w K mg base CX0 2 f fd ["boon"] (xN CS CB):=by
 refine F.ok DP (fun vs H Q E h=>?_) (fun cdv A outer s H vs Q E hr h=>?_)
 ·obtain⟨b,be,n,d,co,g,go,es,rfl,_⟩:=h
  rfl
 ·obtain⟨b,be,n,d,co,g,go,es,rfl,hB,n12,q⟩:=h
  refine⟨_,(aq (aJ (di (L:=["one"]) (F:=["boon"]) (cap:=[0]) rfl (cG rfl rfl (by kernel_rfl)) (jL rfl B.range_ (aa (bC D_folk hr (aa (pv 0) ak)) ak)) (fun _ _ _ _ _=>(aP (i:=0) (cg (by decide+kernel)) rfl (Pr rfl))) (fun _ _ _ _ _=>(jV (aG (r:=rIn K true) lG (pv 0) (aX K rfl (aX K rfl (pv 1))) rfl))) (fun _ _ _ _ _=>(pv 0))))),?_⟩
  obtain⟨dx,nw,ah,xs,hb,hbe,lx,dx2,ga,goa,sa,us,hs,hga,hgoa,hsa,hes⟩:=id hB
  refine⟨_,rfl,b,be,n,d,co,g,go,es,rfl,hB,_,rfl,by lia,by lia,fun D hD=>fO (lo:=0) (n:=((g.length:Int)).toNat) (fun i zs σ' H2=>(∃ u,σ'=[u,some (.ref b)])/\aV H H2/\H2 D=some (.lst zs)/\zs=(thF i go).map vN)
   ⟨⟨_,rfl⟩,aD hD _,ao,rfl⟩ (fun i zs σ' H2 _ h=>h.2.2.1) ?_ ?_⟩
  ·rintro i zs σ' H2 hi ⟨⟨u,rfl⟩,sm,eD,rfl⟩
   rw[Us]
   have li:=uZ i go
   have nx:=wD i go
   refine⟨_,rfl,_,rfl,b,CB,dx,_,_,rfl,sm _ _ hb,T.cl,T.now,rfl,nw,CS,dx2,_,_,rfl,sm _ _ hs,S.cl,S.gone,rfl,goa,_,rfl,.inr (SqT.of (sm _ _ hgoa)),rfl,gZ go,_,rfl,?_⟩
   have e:inV (.int (i:Int)) (go.map vN)=decide (i∈go):=iB i go
   rw[if_pos rfl,e]
   by_cases z:i∈go
   ·rw[decide_eq_true z]
    refine bG ⟨⟨_,rfl⟩,sm,eD,?_⟩
    rw[nx,if_pos z,Q8]
   ·rw[decide_eq_false z]
    refine cH ⟨_,rfl,eD,bj (by rw[Ow]; lia),⟨_,rfl⟩,bu sm hD _,ao,?_⟩
    rw[nx,if_neg z,O7]
    rfl
  ·rintro zs σ' H2 ⟨_,sm,eD,rfl⟩
   exact q D H2 sm hD eD
abbrev nR:Stmt:=top 49
theorem yF:aM ["boon"] ["boon"] (aA nR):=⟨rfl,rfl,rfl,by decide+kernel,rfl,by decide+kernel,by decide+kernel⟩
abbrev pI:Stmt:=top 50
theorem An:aM ["boon"] ["boon"] (aA pI):=⟨rfl,rfl,rfl,by decide+kernel,rfl,by decide+kernel,by decide+kernel⟩
inductive ni (CS CB:Addr) (vs:List V) (H:Hp) (Q:VK):Prop where
 | mk (b be:Addr) (n d co:Nat) (g:List Int) (go:List Nat) (es:List Ent) (z0:vs=[.ref b]) (z1:ql CS CB n H b be d g go es co) (z2:∀ (a:Addr) (us:List V) (H':Hp),aV H H'->H a=none->cA n H us es->H' a=some (.lst us)->Q (.ref a) H'):ni CS CB vs H Q
def oY (CS CB:Addr):Sp:=fun vs H Q _=>ni CS CB vs H Q
theorem vz {CS CB:Addr} (F:Fun K "pledges" "pledges" nR f fd) (B:Bt mg) (S:yp K CS) (T:zc K CB):bK P w K mg base CX0 1 f fd ["boon"] (oY CS CB):=by
 refine F.ok yF (fun vs H Q E h=>?_) (fun cdv A outer s H vs Q E hr h=>?_)
 ·obtain⟨b,be,n,d,co,g,go,es,rfl,_⟩:=h
  rfl
 ·obtain⟨b,be,n,d,co,g,go,es,rfl,⟨dx,nw,ah,xs,hb,hbe,lx,dx2,ga,goa,sa,us,hs,hga,hgoa,hsa,hes⟩,q⟩:=h
  refine⟨_,(aq (aJ (cu (r:=ji K) dU rfl B.list_ iz (aa (aX K rfl (aX K rfl (pv 0))) ak)))),?_⟩
  exact⟨_,rfl,b,CB,dx,_,_,rfl,hb,T.cl,T.now,rfl,nw,CS,dx2,_,_,rfl,hs,S.cl,S.standing,rfl,sa,_,rfl,.inr (SqT.of hsa),fun l hl=>q l us _ (aD hl _) hl hes ao⟩
inductive um (CS CB:Addr) (vs:List V) (H:Hp) (Q:VK):Prop where
 | mk (b be:Addr) (n d co:Nat) (g:List Int) (go:List Nat) (es:List Ent) (z0:vs=[.ref b]) (z1:ql CS CB n H b be d g go es co) (z2:Q (vN co) H):um CS CB vs H Q
def vX (CS CB:Addr):Sp:=fun vs H Q _=>um CS CB vs H Q
theorem zQ {CS CB:Addr} (F:Fun K "coming" "coming" pI f fd) (B:Bt mg) (S:yp K CS) (T:zc K CB):bK P w K mg base CX0 1 f fd ["boon"] (vX CS CB):=by
 refine F.ok An (fun vs H Q E h=>?_) (fun cdv A outer s H vs Q E hr h=>?_)
 ·obtain⟨b,be,n,d,co,g,go,es,rfl,_⟩:=h
  rfl
 ·obtain⟨b,be,n,d,co,g,go,es,rfl,⟨dx,nw,ah,xs,hb,hbe,lx,dx2,ga,goa,sa,us,hs,hga,hgoa,hsa,hes⟩,q⟩:=h
  refine⟨_,(aq (aJ (aX K rfl (aX K rfl (pv 0))))),?_⟩
  exact⟨_,rfl,b,CB,dx,_,_,rfl,hb,T.cl,T.now,rfl,nw,CS,dx2,_,_,rfl,hs,S.cl,S.coming,rfl,q⟩
abbrev qK:Stmt:=top 70
theorem Ah:aM ["_law_boon_here","_law_deed"] ["_law_boon_here","_law_deed"] (aA qK):=⟨rfl,rfl,rfl,by decide+kernel,rfl,by decide+kernel,by decide+kernel⟩
inductive Jt (CS CB:Addr) (x:XA) (vs:List V) (H:Hp) (Q:VK) (E:XK):Prop where
 | mk (b be ah dx nw da:Addr) (xs zs:List V) (A:Sa) (d:lE) (z0:vs=[.ref b,.ref da]) (z1:Bn CS CB A.n H b be ah dx nw xs zs A.g A.go A.es A.co) (z2:xs.length<=900) (z3:DeR A.n H da d) (z4:(reW A d≠""->Th x (reW A d) H E)) (z5:(reW A d = ""->∀ (H':Hp) (nw' ah':Addr),But b be H H'->H ah'=none->Bn CS CB (A.aft d).n H' b be ah' dx nw' (xs++[.ref nw]) [] (A.aft d).g (A.aft d).go (A.aft d).es (A.aft d).co->Q (vaV A d) H')):Jt CS CB x vs H Q E
def Nu (CS CB:Addr) (x:XA):Sp:=fun vs H Q E=>Jt CS CB x vs H Q E
theorem zF {CS CB:Addr} {x:XA} {k:Nat} (hk:5<=k) (F:Fun K "_law_do" "_law_do" qK f fd) (B:Bt mg) (M_Boon_come:Dmx P w K mg base CB "come" 4 ["self"] (Bd CS CB x.fu)) (M_Boon_leave:Dmx P w K mg base CB "leave" 5 ["self","one"] (xm CS CB x))
  (M_Boon_pledge:Dmx P w K mg base CB "pledge" k ["self","one","pledge"] (uF CS CB x)) (M_Boon_hand:Dmx P w K mg base CB "hand" k ["self","rises"] (Aj CS CB x)):bK P w K mg base (XL P w) (k+1) f fd ["_law_boon_here","_law_deed"] (Nu CS CB x):=by
 refine F.okX Ah (fun vs H Q E h=>?_) (fun cdv A outer s H vs Q E hr h=>?_)
 ·obtain⟨b,be,ah,dx,nw,da,xs,zs,S,d,rfl,_⟩:=h
  rfl
 ·obtain⟨b,be,ah,dx,nw,da,xs,zs,S,d,rfl,hB,l9,hd,hw,q⟩:=h
  refine⟨_,(aj (aY (aG bD (aQ (r:=bI K) aK (pv 1) az (fun _ _=>rfl)) aO (aL _)) (aq (aJ (Ig M_Boon_come hr cY (pv 0)))) aH)
 (aj (aY (aG bD (aQ (r:=bI K) aK (pv 1) az (fun _ _=>rfl)) aO (aL _)) (aq (aJ (Dq M_Boon_leave hr cY (pv 0) (aa (aQ (r:=bI K) aK (pv 1) az (fun _ _=>rfl)) ak)))) aH)
 (aj (aY (aG bD (aQ (r:=bI K) aK (pv 1) az (fun _ _=>rfl)) aO (aL _)) (aq (aJ (Dq M_Boon_pledge hr cY (pv 0) (aa (aQ (r:=bI K) aK (pv 1) az (fun _ _=>rfl)) (aa (aQ (r:=bI K) aK (pv 1) az (fun _ _=>rfl)) ak))))) aH)
 (aj (aY (aG bD (aQ (r:=bI K) aK (pv 1) az (fun _ _=>rfl)) aO (aL _)) (aq dN) aH)
 (aj (aY (aG bD (aQ (r:=bI K) aK (pv 1) az (fun _ _=>rfl)) aO (aL _)) (aq dN) aH)
 (aj (aY (aG bD (aQ (r:=bI K) aK (pv 1) az (fun _ _=>rfl)) aO (aL _)) (aq (aJ (Dq M_Boon_hand hr cY (pv 0) (aa (cu (r:=ji K) dU rfl B.list_ iz (aa (aQ (r:=bI K) aK (pv 1) az (fun _ _=>rfl)) ak)) ak)))) aH)
 (aj (aY (aG bD (aQ (r:=bI K) aK (pv 1) az (fun _ _=>rfl)) aO (aL _)) (aq dN) aH)
 (aq dN)))))))),?_⟩
  have hb:=hB.hb
  cases hd with
  | come hda =>
   refine⟨_,rfl,da,_,_,_,rfl,rfl,SqT.of hda,au (k:=0) rfl,rfl,_,rfl,?_⟩
   rw[show decide (V.str "come" = V.str "come")=true from decide_eq_true rfl]
   refine cH ⟨_,rfl,b,dx,_,rfl,hb,rfl,b,be,ah,dx,nw,S.n,S.co,xs,zs,S.g,S.go,S.es,rfl,hB,l9,fun z=>?_,fun z=>q (if_neg (by lia))⟩
   rw[show reW S .come = "full" from if_pos z] at hw
   have:=hw (by decide)
   unfold Th at this
   rw[JB] at this
   exact this
  | leave hda =>
   rename_i o
   refine⟨_,rfl,da,_,_,_,rfl,rfl,SqT.of hda,au (k:=0) rfl,rfl,_,rfl,?_⟩
   rw[show decide (V.str "leave" = V.str "come")=false from decide_eq_false (aB (by decide))]
   refine bG (nN ?_)
   refine⟨_,rfl,da,_,_,_,rfl,rfl,SqT.of hda,au (k:=0) rfl,rfl,_,rfl,?_⟩
   rw[show decide (V.str "leave" = V.str "leave")=true from decide_eq_true rfl]
   exact cH ⟨_,rfl,b,dx,_,rfl,hb,rfl,_,rfl,da,_,_,_,rfl,rfl,SqT.of hda,au (k:=1) rfl,b,be,ah,dx,nw,o,S.n,S.co,xs,zs,S.g,S.go,S.es,rfl,hB,l9,hw,q⟩
  | pledge hda hp =>
   rename_i o p pl
   refine⟨_,rfl,da,_,_,_,rfl,rfl,SqT.of hda,au (k:=0) rfl,rfl,_,rfl,?_⟩
   rw[show decide (V.str "pledge" = V.str "come")=false from decide_eq_false (aB (by decide))]
   refine bG (nN ?_)
   refine⟨_,rfl,da,_,_,_,rfl,rfl,SqT.of hda,au (k:=0) rfl,rfl,_,rfl,?_⟩
   rw[show decide (V.str "pledge" = V.str "leave")=false from decide_eq_false (aB (by decide))]
   refine bG (nN ?_)
   refine⟨_,rfl,da,_,_,_,rfl,rfl,SqT.of hda,au (k:=0) rfl,rfl,_,rfl,?_⟩
   rw[show decide (V.str "pledge" = V.str "pledge")=true from decide_eq_true rfl]
   exact cH ⟨_,rfl,b,dx,_,rfl,hb,rfl,_,rfl,da,_,_,_,rfl,rfl,SqT.of hda,au (k:=1) rfl,_,rfl,da,_,_,_,rfl,rfl,SqT.of hda,au (k:=2) rfl,b,be,ah,dx,nw,p,o,S.n,S.co,xs,zs,S.g,S.go,S.es,pl,rfl,hB,hp,l9,hw,q⟩
  | hand hda hr' hri lp =>
   rename_i r us ps
   refine⟨_,rfl,da,_,_,_,rfl,rfl,SqT.of hda,au (k:=0) rfl,rfl,_,rfl,?_⟩
   rw[show decide (V.str "hand" = V.str "come")=false from decide_eq_false (aB (by decide))]
   refine bG (nN ?_)
   refine⟨_,rfl,da,_,_,_,rfl,rfl,SqT.of hda,au (k:=0) rfl,rfl,_,rfl,?_⟩
   rw[show decide (V.str "hand" = V.str "leave")=false from decide_eq_false (aB (by decide))]
   refine bG (nN ?_)
   refine⟨_,rfl,da,_,_,_,rfl,rfl,SqT.of hda,au (k:=0) rfl,rfl,_,rfl,?_⟩
   rw[show decide (V.str "hand" = V.str "pledge")=false from decide_eq_false (aB (by decide))]
   refine bG (nN ?_)
   refine⟨_,rfl,da,_,_,_,rfl,rfl,SqT.of hda,au (k:=0) rfl,rfl,_,rfl,?_⟩
   rw[show decide (V.str "hand" = V.str "change")=false from decide_eq_false (aB (by decide))]
   refine bG (nN ?_)
   refine⟨_,rfl,da,_,_,_,rfl,rfl,SqT.of hda,au (k:=0) rfl,rfl,_,rfl,?_⟩
   rw[show decide (V.str "hand" = V.str "withdraw")=false from decide_eq_false (aB (by decide))]
   refine bG (nN ?_)
   refine⟨_,rfl,da,_,_,_,rfl,rfl,SqT.of hda,au (k:=0) rfl,rfl,_,rfl,?_⟩
   rw[show decide (V.str "hand" = V.str "hand")=true from decide_eq_true rfl]
   refine cH ⟨_,rfl,b,dx,_,rfl,hb,rfl,_,rfl,da,_,_,_,rfl,rfl,SqT.of hda,au (k:=1) rfl,r,_,rfl,.inl (SqL.of hr'),fun r2 h2=>?_⟩
   have sn:=aD h2 (.lst us)
   exact⟨b,be,ah,dx,nw,r2,S.n,S.co,xs,zs,us,S.g,S.go,S.es,ps,rfl,hB.same sn,l9,ao,hri.bc fun a xs z=>sn _ _ z,lp,fun z=>(hw z).mono sn,fun z H' nw' ah' bt fa hB'=>q z H' nw' ah' ((LR sn).trans bt) (sn.free fa) hB'⟩
def rgD (x:Int × Tm):Dm:=.tup [.int x.1,tmD x.2]
def plD (p:Pl):Dm:=.tup (p.map rgD)
def enD (e:Ent):Dm:=.tup [.int (e.1:Int),.int (e.2.1:Int),plD e.2.2]
theorem dR.rep {n:Nat} {H:Hp}:∀ {vs:List V} {p:Pl},dR n H vs p->oE H vs (p.map rgD)
 | _,_,.nil=>.nil
 | _,_,.cons h t r=>.cons (.tup h (by show 2<=100000; decide) (.cons (.int _) (.cons t.rep .nil))) (dR.rep r)
theorem lB.rep {n:Nat} {H:Hp} {a:Addr} {p:Pl} (h:lB n H a p):Rep H (.ref a) (plD p):=by
 obtain⟨ok,vs,hv,rv⟩:=h
 exact .tup hv (by have:=rv.length; have:=ok.2.1; lia) rv.rep
theorem cA.Lg {n:Nat} {H:Hp}:∀ {us:List V} {es:List Ent},cA n H us es->oE H us (es.map enD)
 | _,_,.nil=>.nil
 | _,_,.cons h p r=>.cons (.tup h (by show 3<=100000; decide) (.cons (.int _) (.cons (.int _) (.cons p.rep .nil)))) (cA.Lg r)
theorem pK {ds:List Dm} {k:Nat} (h:∀ d∈ds,d.dep<=k):fJ ds<=k:=by
 induction ds with
 | nil=>rw[fJ]; exact Ql _
 | cons d r ih =>
  rw[fJ]
  have h1:=h d Ph
  have h2:=ih fun x hx=>h x (Pb _ hx)
  lia
theorem Ih {p:Pl} (ok:okP p):(plD p).dep<=10:=by
 have:fJ (p.map rgD)<=9:=pK fun d hd=>by
  obtain⟨x,hx,rfl⟩:=List.mem_map.mp hd
  have h1:=Cr x.2
  have h2:=(ok.2.2.2 x hx).2.2
  unfold rgD
  simp only[Dm.dep,fJ]
  lia
 unfold plD
 rw[Dm.dep]
 lia
theorem HF {es:List Ent} (ok:∀ e∈es,okP e.2.2):fJ (es.map enD)<=11:=pK fun d hd=>by
 obtain⟨e,he,rfl⟩:=List.mem_map.mp hd
 have:=Ih (ok e he)
 unfold enD
 simp only[Dm.dep,fJ]
 lia
theorem kY {H:Hp}:∀ c:List Nat,oE H (c.map vN) (c.map fun i:Nat=>Dm.int (i:Int))
 | []=>.nil
 | i::r=>.cons (.int _) (kY r)
abbrev ig:Stmt:=top 55
theorem bV:aM ["_law_boon_here","_law_state","_law_found","_law_present","_law_lies","_law_table","_law_after_here","_law_here","_law_rows"] ["_law_boon_here","_law_state"] (aA ig):=⟨rfl,rfl,rfl,by decide+kernel,rfl,by decide+kernel,by decide+kernel⟩
inductive sZ (CS CB:Addr) (vs:List V) (H:Hp) (Q:VK):Prop where
 | mk (b be ah dx nw a:Addr) (xs zs:List V) (A:Sa) (z0:vs=[.ref b,.ref a]) (z1:Bn CS CB A.n H b be ah dx nw xs zs A.g A.go A.es A.co) (z2:StR be A.n H a A.g A.go A.es A.co) (z3:AOk A) (z4:∀ H',aV H H'->Q (.bl true) H'):sZ CS CB vs H Q
def wL (CS CB:Addr):Sp:=fun vs H Q _=>sZ CS CB vs H Q
theorem qi {CS CB:Addr} (F:Fun K "_law_stands" "_law_stands" ig f fd) (B:Bt mg) (D_folk:Df P w K mg base "folk" 1 ["boon"] (Ay CS CB)) (D_there:Df P w K mg base "there" 2 ["boon"] (xN CS CB)) (D_green:Df P w K mg base "green" 1 ["boon"] (CT CS CB))
  (D_pledges:Df P w K mg base "pledges" 1 ["boon"] (oY CS CB)) (D_coming:Df P w K mg base "coming" 1 ["boon"] (vX CS CB)) (D_law_same:Df P w K mg base "_law_same" 14 ["_law_found","_law_due"] (nT 14)):bK P w K mg base CX0 15 f fd ["_law_boon_here","_law_state"] (wL CS CB):=by
 refine F.ok bV (fun vs H Q E h=>?_) (fun cdv A outer s H vs Q E hr h=>?_)
 ·obtain⟨b,be,ah,dx,nw,a,xs,zs,S,rfl,_⟩:=h
  rfl
 ·obtain⟨b,be,ah,dx,nw,a,xs,zs,S,rfl,hB,hst,ok,q⟩:=h
  refine⟨_,(aj (bh (i:=2) bV.nd rfl (Pr rfl) (cJ (aa (bC D_folk hr (aa (pv 0) ak)) (aa (bC D_there hr (aa (pv 0) ak)) (aa (bC D_green hr (aa (pv 0) ak)) (aa (bC D_pledges hr (aa (pv 0) ak)) (aa (bC D_coming hr (aa (pv 0) ak)) ak)))))))
 (aj (rY (pv 1) (d8 (K:=K) 4 rfl rfl (aZ (aP (i:=3) bV.nd rfl (Xk rfl)) (aZ (aP (i:=4) bV.nd rfl (Pr rfl)) (aZ (aP (i:=5) bV.nd rfl (Xk rfl)) (aZ (aP (i:=6) bV.nd rfl (Pr rfl)) d7))))))
 (aj (u9 (L:=["_law_one"]) (F:=["_law_present"]) (cap:=[3]) (j:=7) bV.nd rfl (Pr rfl) rfl (cG rfl rfl (by kernel_rfl)) (jL rfl B.range_ (aa (aC (r:=jC K) aU rfl B.len_ bL (aa (pv 3) ak)) ak)) (fun _ _ _ _ _=>(aP (i:=0) (cg (by decide+kernel)) rfl (Pr rfl))) (fun _ _ _ _ _=>(jV (cI (aQ (r:=yV K) dJ (pv 1) (pv 0) (fun _ _=>rfl))))) (fun _ _ _ _ _=>(pv 0)))
 (aj (u9 (L:=["_law_number"]) (F:=["_law_table"]) (cap:=[5]) (j:=8) bV.nd rfl (Pr rfl) rfl (cG rfl rfl (by kernel_rfl)) (dh (aC (r:=vY) (kJ rfl) rfl B.sorted_ (by decide+kernel) (aa (pv 5) ak))) (fun _ _ _ _ _=>(aP (i:=0) (cg (by decide+kernel)) rfl (Pr rfl))) (fun _ _ _ _ _=>fc) (fun _ _ _ _ _=>(bW (r:=nC K) jR (bM (aa (pv 0) ak)) (mF hr.mO (pv 1) (pv 0) (fun _ _=>rfl)))))
 (aq (aJ (bC D_law_same hr (aa (pv 2) (aa (cJ (aa (aC (r:=jC K) aU rfl B.len_ bL (aa (pv 3) ak)) (aa (pv 7) (aa (pv 4) (aa (pv 8) (aa (pv 6) ak)))))) ak))))))))),?_⟩
  have lg:=ok.lg
  have n12:=ok.n12
  have l40:=ok.l40
  have lth:=uZ S.n S.go
  have hBn:=hB.Oq
  refine aF (fun σ H1=>∃ (l:Addr),σ=[some (.ref b),some (.ref a),some (.ref l),none,none,none,none,none,none]/\aV H H1/\Rep H1 (.ref l) (.lst [.int (S.n:Int),.lst ((thF S.n S.go).map fun i:Nat=>.int (i:Int)),.tup (S.g.map Dm.int),.lst (S.es.map enD),.int (S.co:Int)])) ?q1 ?t1
  case t1 =>
   intro N Rc
   refine⟨_,rfl,b,be,S.n,_,S.co,S.g,S.go,S.es,rfl,hBn,_,rfl,b,be,S.n,_,S.co,S.g,S.go,S.es,rfl,hBn,by lia,fun th H1 s1 _ eth=>?_⟩
   rw[lg] at eth
   refine⟨_,rfl,b,be,S.n,_,S.co,S.g,S.go,S.es,rfl,hBn.same s1,fun ga hga=>⟨_,rfl,b,be,S.n,_,S.co,S.g,S.go,S.es,rfl,hBn.same s1,fun pa us H2 s2 _ hes epa=>?_⟩⟩
   refine⟨_,rfl,b,be,S.n,_,S.co,S.g,S.go,S.es,rfl,hBn.same (s1.trans s2),small (by show 5<=1000; decide),fun l hl=>?_⟩
   generalize eH3:upd H2 l _=H3
   obtain⟨s3,e3⟩:=aW eH3 hl
   have s23:=s2.trans s3
   have les:=hes.length
   refine Rc _ _ ⟨l,rfl,s1.trans s23,.lst e3 (by show 5<=100000; decide) ?_⟩
   rw[lg]
   exact .cons (.int _) (.cons (.lst (s23 _ _ eth) (by rw[Ow]; lia) (kY _)) (.cons (pZ (s23 _ _ hga) (by lia)) (.cons (.lst (s3 _ _ epa) (by lia) (hes.bc fun a xs z=>s23 _ _ z).Lg) (.cons (.int _) .nil))))
  case q1 =>
  rintro σ H1 ⟨l,rfl,s1,rl⟩
  obtain⟨pa,ga,ta,kvs,h1,h2,h3,h4,h5,h6⟩:=hst.same s1
  refine aF (fun σ H2=>σ=[some (.ref b),some (.ref a),some (.ref l),some (.ref pa),some (.ref ga),some (.ref ta),some (vN S.co),none,none]/\H2=H1) ?q2 ?t2
  case t2 =>
   intro N Rc
   exact⟨_,rfl,a,_,rfl,SqT.of h1,rfl,_,_,rfl,_,_,rfl,_,_,rfl,_,_,rfl,rfl,Rc _ _ ⟨rfl,rfl⟩⟩
  case q2 =>
  rintro σ H2 ⟨rfl,rfl⟩
  refine aF (fun σ H3=>∃ (hl:Addr),σ=[some (.ref b),some (.ref a),some (.ref l),some (.ref pa),some (.ref ga),some (.ref ta),some (vN S.co),some (.ref hl),none]/\aV H2 H3/\H3 hl=some (.lst ((thF S.n S.go).map vN))) ?q3 ?t3
  case t3 =>
   intro N Rc
   refine⟨_,rfl,pa,_,rfl,.inl (SqL.of h2),_,rfl,by rw[cP]; lia,by rw[cP]; lia,fun D hD=>fO (lo:=0) (n:=(((prF S.n S.go).length:Nat):Int).toNat) (fun j zs σ' H3=>(∃ u,σ'=[u,some (.ref pa)])/\aV H2 H3/\H3 D=some (.lst zs)/\zs=(thF j S.go).map vN)
    ⟨⟨_,rfl⟩,aD hD _,ao,rfl⟩ (fun j zs σ' H3 _ h=>h.2.2.1) ?_ ?_⟩
   ·rintro j zs σ' H3 hj ⟨⟨u,rfl⟩,sm,eD,rfl⟩
    rw[cP] at hj
    have hj':j < S.n:=by lia
    rw[Us]
    have nx:=wD j S.go
    have lj:=uZ j S.go
    refine⟨_,rfl,_,rfl,pa,_,_,.bl (decide (j ∉ S.go)),rfl,rfl,SqL.of (sm _ _ h2),gj (zU hj'),_,rfl,?_⟩
    by_cases z:j∈S.go
    ·rw[decide_eq_false (not_not_intro z)]
     refine bG ⟨⟨_,rfl⟩,sm,eD,?_⟩
     rw[nx,if_pos z,Q8]
    ·rw[decide_eq_true z]
     refine cH ⟨_,rfl,eD,bj (by rw[Ow]; lia),⟨_,rfl⟩,bu sm hD _,ao,?_⟩
     rw[nx,if_neg z,O7]
     rfl
   ·rintro zs σ' H3 ⟨_,sm,eD,rfl⟩
    have e:(((prF S.n S.go).length:Nat):Int).toNat=S.n:=by rw[cP]; lia
    rw[e] at eD
    exact Rc _ _ ⟨D,rfl,sm,eD⟩
  case q3 =>
  rintro σ H3 ⟨hl,rfl,s3,ehl⟩
  have nd:=ok.eu.nd
  refine aF (fun σ H4=>∃ (rw':Addr) (us:List V),σ=[some (.ref b),some (.ref a),some (.ref l),some (.ref pa),some (.ref ga),some (.ref ta),some (vN S.co),some (.ref hl),some (.ref rw')]/\aV H3 H4/\H4 rw'=some (.lst us)/\cA S.n H4 us S.es) ?q4 ?t4
  case t4 =>
   intro N Rc
   refine⟨_,rfl,ta,kvs,S.es.map fun e=>(e.1:Int),rfl,s3 _ _ h4,h5.keys,by rw[Ow]; lia,fun ms pm sr l2 hl2=>?_⟩
   have em:=ok.eu.sort pm sr
   subst em
   generalize eH4:upd H3 l2 _=H4
   obtain⟨s4,e4⟩:=aW eH4 hl2
   refine⟨l2,rfl,⟨_,SqL.of e4⟩,fun D hD=>mQ (K:=K) (a:=l2) (xs:=(S.es.map fun e=>(e.1:Int)).map V.int) (fun j zs σ' H5=>(∃ u,σ'=[u,some (.ref ta)])/\aV H4 H5/\H5 D=some (.lst zs)/\cA S.n H5 zs (S.es.take j))
    ⟨⟨_,rfl⟩,aD hD _,ao,by rw[Qj]; exact .nil⟩ (fun j zs σ' H5 _ h=>⟨SqL.of (h.2.1 _ _ e4),h.2.2.1⟩) ?_ ?_⟩
   ·rintro j zs y σ' H5 hx ⟨⟨u,rfl⟩,sm,eD,ez⟩
    rw[Pk,Pk] at hx
    obtain⟨e,he,rfl⟩:∃ e,S.es[j]? = some e/\y = .int (e.1:Int):=by
     cases z:S.es[j]? with
     | none=>rw[z] at hx; cases hx
     | some e=>rw[z] at hx; cases hx; exact⟨e,rfl,rfl⟩
    obtain⟨t,p,hv,ht,hpp⟩:=h5.val nd he
    have s25:=s3.trans (s4.trans sm)
    have lz:=ez.length
    rw[Qf] at lz
    refine gT ?_
    refine⟨_,rfl,small (by show 1<=1000; decide),fun p1 hp1=>?_⟩
    generalize eH6:upd H5 p1 _=H6
    obtain⟨s6,e6⟩:=aW eH6 hp1
    have s26:=s25.trans s6
    have dg:Ae H6 ta (.int (e.1:Int)) (some (.ref t)):=by
     rw[← hv]
     exact Ae.k (k:=Ru (e.1:Int)) (s26 _ _ h4)
    refine⟨_,rfl,_,rfl,ta,_,rfl,dg,?_⟩
    refine JQ e6 (s26 _ _ ht) (by show 1+2<=1000; decide) fun p2 H7 s7 e7=>?_
    have eD7:=s7 _ _ (s6 _ _ eD)
    have s27:=s26.trans s7
    have tk:=pL (zs':=zs++[.ref p2]) eD7
    refine⟨eD7,bj (by lia),⟨_,rfl⟩,bu (sm.trans (s6.trans s7)) hD _,ao,?_⟩
    rw[PL,he]
    exact cA.snoc (num:=e.1) (one:=e.2.1) (pl:=e.2.2) (tk _ _ e7) ((hpp.bc fun a xs z=>s27 _ _ z).bc tk) ((ez.bc fun a xs z=>(s6.trans s7) _ _ z).bc tk)
   ·rintro zs σ' H5 ⟨_,sm,eD,ez⟩
    rw[Ow,Ow,Pq] at ez
    exact Rc _ _ ⟨D,zs,rfl,s4.trans sm,eD,ez⟩
  case q4 =>
  rintro σ H4 ⟨rw',us,rfl,s4,erw,ees⟩
  have s24:=s3.trans s4
  have les:=ees.length
  refine⟨_,rfl,_,rfl,pa,_,rfl,.inl (SqL.of (s24 _ _ h2)),_,rfl,_,rfl,_,rfl,_,rfl,small (by show 5<=1000; decide),fun l5 hl5=>?_⟩
  rw[cP]
  generalize eH5:upd H4 l5 _=H5
  obtain⟨s5,e5⟩:=aW eH5 hl5
  have s25:=s24.trans s5
  refine⟨_,_,_,rfl,rl.mono s25,.lst e5 (by show 5<=100000; decide) (.cons (.int _) (.cons (.lst ((s4.trans s5) _ _ ehl) (by rw[Ow]; lia) (kY _)) (.cons (pZ (s25 _ _ h3) (by lia)) (.cons (.lst (s5 _ _ erw) (by lia) (ees.bc fun a xs z=>s5 _ _ z).Lg) (.cons (.int _) .nil))))),?_,fun H6 s6=>q H6 (s1.trans (s25.trans s6))⟩
  have d1:=HF h5.ok
  have d2:fJ ((thF S.n S.go).map fun i:Nat=>Dm.int (i:Int))<=0:=pK fun d hd=>by obtain⟨i,_,rfl⟩:=List.mem_map.mp hd; simp [Dm.dep]
  have d3:fJ (S.g.map Dm.int)<=0:=pK fun d hd=>by obtain⟨i,_,rfl⟩:=List.mem_map.mp hd; simp [Dm.dep]
  simp only[Dm.dep,fJ]
  lia
theorem HX {n:Nat} {H:Hp} {f1 f2 f3:Addr} {k:Int} (h1:H f1=some (.tup [.str "free"])) (h2:H f2=some (.tup [.int k,.ref f1])) (h3:H f3=some (.tup [.ref f2])) (k1:1<=k) (k9:k<=9):lB n H f3 [(k,.free)] :=
 ⟨⟨by simp,by show 1<=9; decide,by simp,fun x hx=>by rw[List.mem_singleton.mp hx]; exact⟨k1,k9,by simp [Tm.dep]⟩⟩,_,h3,.cons h2 (.free h1) .nil⟩
abbrev jd:Stmt:=top 75
theorem dC:aM ["_law_cell","_law_state","_law_drawn","_law_n","_law_one","_law_step"] ["_law_cell","_law_state"] (aA jd):=⟨rfl,rfl,rfl,by decide+kernel,rfl,by decide+kernel,by decide+kernel⟩
theorem DeR.le {n m:Nat} {H:Hp} {a:Addr} {d:lE} (l:n<=m) (h:DeR n H a d):DeR m H a d:=by
 cases h with
 | come h=>exact .come h
 | leave h=>exact .leave h
 | pledge h q=>exact .pledge h (q.le l)
 | hand h hr q l=>exact .hand h hr q l
theorem DeR.live {n:Nat} {H:Hp} {a:Addr} {d:lE} (h:DeR n H a d):∃ ys,H a=some (.tup ys):=by
 cases h with
 | come h=>exact⟨_,h⟩
 | leave h=>exact⟨_,h⟩
 | pledge h _=>exact⟨_,h⟩
 | hand h _ _ _=>exact⟨_,h⟩
inductive DsR (be:Addr) (n:Nat) (H:Hp):List V->List lE->Prop where
 | nil:DsR be n H [] []
 | cons {a:Addr} {d:lE} {us:List V} {ds:List lE} (h:DeR n H a d) (nr:∀ r,H a=some (.tup [.str "hand",.ref r])->r≠be) (r:DsR be n H us ds):DsR be n H (.ref a::us) (d::ds)
theorem DsR.get {be:Addr} {n:Nat} {H:Hp}:∀ {us:List V} {ds:List lE} {i:Nat} {u:V},DsR be n H us ds->us[i]? = some u->∃ (a:Addr) (d:lE),u = .ref a/\DeR n H a d/\∀ r,H a=some (.tup [.str "hand",.ref r])->r≠be
 | _,_,0,_,.cons h nr _,q=>by
  cases q
  exact⟨_,_,rfl,h,nr⟩
 | _,_,i+1,_,.cons _ _ r,q=>DsR.get (i:=i) r q
theorem DeR.kp {be:Addr} {n:Nat} {H H':Hp} {a:Addr} {d:lE} (tp:∀ a ys,H a=some (HO.tup ys)->H' a=some (HO.tup ys)) (lp:∀ a ys,a≠be->H a=some (HO.lst ys)->H' a=some (HO.lst ys)) (nr:∀ r,H a=some (.tup [.str "hand",.ref r])->r≠be) (h:DeR n H a d):DeR n H' a d:=by
 cases h with
 | come h=>exact .come (tp _ _ h)
 | leave h=>exact .leave (tp _ _ h)
 | pledge h q=>exact .pledge (tp _ _ h) (q.bc tp)
 | hand h hr q l=>exact .hand (tp _ _ h) (lp _ _ (nr _ h) hr) (q.bc tp) l
theorem DsR.kp {be:Addr} {n:Nat} {H H':Hp} (tp:∀ a ys,H a=some (HO.tup ys)->H' a=some (HO.tup ys)) (lp:∀ a ys,a≠be->H a=some (HO.lst ys)->H' a=some (HO.lst ys)):∀ {us:List V} {ds:List lE},DsR be n H us ds->DsR be n H' us ds
 | _,_,.nil=>.nil
 | _,_,.cons h nr r=>.cons (h.kp tp lp nr) (fun x z=>nr x (by
  obtain⟨ys,hy⟩:=h.live
  have:=tp _ _ hy
  rw[this] at z
  rw[hy]
  exact z)) (DsR.kp tp lp r)
theorem Ia {σ:St} {H:Hp} {Q:V->Hp->Prop} (h:∀ z:Int,Q (.int z) H):tOp (rI Nx fun i j=>.int (i ^ j.toNat)) (tC (.int 10)) (tC (.int 40)) σ H Q:=⟨10,40,rfl,rfl,⟨by decide,by decide,by decide⟩,h _⟩
theorem cE {te:TE} {σ:St} {H:Hp} {Q:List V->Hp->Prop} (h:te σ H fun x H1=>Q [x] H1):Fb te Gp σ H Q:=h
inductive xR (vs:List V) (H:Hp) (Q:VK):Prop where
 | mk (be a:Addr) (c:Int) (n:Nat) (g:List Int) (go:List Nat) (es:List Ent) (co:Nat) (o:HO) (z0:vs=[.int c,.ref a]) (z1:StR be n H a g go es co) (z2:H be=some o) (z3:n<=12) (z4:∀ (l:Addr) (us:List V) (ds:List lE) (H':Hp),aV H H'->H l=none->H' l=some (.lst us)->us.length<=2->DsR be n H' us ds->Q (.ref l) H'):xR  vs H Q
def Am:Sp:=fun vs H Q _=>xR  vs H Q
theorem tR (F:Fun K "_law_deeds" "_law_deeds" jd f fd) (B:Bt mg) (D_law_draws:Df P w K mg base "_law_draws" 1 ["_law_cell","_law_parts"] (zG K)):bK P w K mg base CX0 2 f fd ["_law_cell","_law_state"] Am:=by
 refine F.ok dC (fun vs H Q E h=>?_) (fun cdv A outer s H vs Q E hr h=>?_)
 ·obtain⟨be,a,c,n,g,go,es,co,o,rfl,_⟩:=h
  rfl
 ·obtain⟨be,a,c,n,g,go,es,co,ob,rfl,⟨pa,ga,ta,kvs,h1,h2,h3,h4,h5,h6⟩,hbe,n12,q⟩:=h
  refine⟨_,(aj (bh (i:=2) dC.nd rfl (Pr rfl) (bC D_law_draws hr (aa (pv 0) (aa (cJ (aa az (aa az (aa az (aa az ak))))) ak))))
 (aj (bh (i:=3) dC.nd rfl (Pr rfl) (aC (r:=jC K) aU rfl B.len_ bL (aa (aQ (r:=bI K) aK (pv 1) az (fun _ _=>rfl)) ak)))
 (aj (aY (aG yx (aQ (r:=yV K) dJ (pv 2) az (fun _ _=>rfl)) az (aL _)) (aq (aJ (cJ (aa (bM (aa aO ak)) ak)))) aH)
 (aj (bh (i:=4) dC.nd rfl (Pr rfl) (aQ (r:=yV K) dJ (cJ (aa (bW pH (aQ (r:=yV K) dJ (pv 2) az (fun _ _=>rfl)) (aC (n8 rfl) rfl B.max_ tL (aa az (aa (pv 3) ak)))) (aa (bW pH (aQ (r:=yV K) dJ (pv 2) az (fun _ _=>rfl)) (aC (n8 rfl) rfl B.max_ tL (aa az (aa (pv 3) ak)))) (aa (pv 3) (aa (Mr K1 az) (aa (bW Bj az az) ak)))))) (aQ (r:=yV K) dJ (pv 2) az (fun _ _=>rfl)) (fun _ _=>rfl)))
 (aj (aY (aG yx (aQ (r:=yV K) dJ (pv 2) az (fun _ _=>rfl)) az (aL _)) (aq (aJ (cJ (aa (bM (aa aO (aa (pv 4) ak))) ak)))) aH)
 (aj (bh (i:=5) dC.nd rfl (Pr rfl) (bW gG az (aQ (r:=yV K) dJ (pv 2) az (fun _ _=>rfl))))
 (aq (aJ (cJ (aa (bM (aa aO (aa (pv 4) (aa (bM (aa (bM (aa (pv 5) (aa (bM (aa aO ak)) ak))) ak)) ak)))) (aa (bM (aa aO (aa (cJ (aa (bM (aa (pv 4) (aa (pv 5) ak))) ak)) ak))) ak))))))))))),?_⟩
  refine aF (fun σ Hy=>∃ (dr:Addr) (dl:List V) (d0 d1 d2 d3:Int),σ=[some (.int c),some (.ref a),some (.ref dr),none,none,none]/\aV H Hy/\Hy dr=some (.lst dl)/\atI dl 0=some (.int d0)/\atI dl 1=some (.int d1)/\atI dl 2=some (.int d2)/\atI dl 3=some (.int d3)/\0<=d2/\d2 < 9/\0<=d3/\d3 < 5) ?qA ?tA
  case tA =>
   intro N Rc
   refine⟨_,rfl,small (by show 4<=1000; decide),fun p7 h7=>?_⟩
   generalize eHa:upd H p7 _=Ha
   obtain⟨ga,ea⟩:=aW eHa h7
   refine⟨c,p7,[7,14,9,5],rfl,SqL.of ea,by decide,by decide,fun p8 h8=>?_⟩
   generalize eHb:upd Ha p8 _=Hb
   obtain⟨gb,eb⟩:=aW eHb h8
   obtain⟨d0,k0,b0⟩:=jF (c:=DR c) (i:=0) (ps:=[7,14,9,5]) (by decide) rfl
   obtain⟨d1,k1,b1⟩:=jF (c:=DR c) (i:=1) (ps:=[7,14,9,5]) (by decide) rfl
   obtain⟨d2,k2,b2⟩:=jF (c:=DR c) (i:=2) (ps:=[7,14,9,5]) (by decide) rfl
   obtain⟨d3,k3,b3⟩:=jF (c:=DR c) (i:=3) (ps:=[7,14,9,5]) (by decide) rfl
   exact Rc _ _ ⟨p8,_,d0,d1,d2,d3,rfl,ga.trans gb,eb,au (pR k0),au (pR k1),au (pR k2),au (pR k3),b2.1,b2.2,b3.1,b3.2⟩
  case qA =>
  rintro σ H1 ⟨dr,dl,d0,d1,d2,d3,rfl,s1,edr,at0,at1,at2,at3,b2,b2',b3,b3'⟩
  refine aF (fun σ H2=>σ=[some (.int c),some (.ref a),some (.ref dr),some (vN n),none,none]/\H2=H1) ?qB ?tB
  case tB =>
   intro N Rc
   refine⟨_,rfl,a,_,_,_,rfl,rfl,SqT.of (s1 _ _ h1),au (k:=0) rfl,pa,_,rfl,.inl (SqL.of (s1 _ _ h2)),?_⟩
   rw[cP]
   exact Rc _ _ ⟨rfl,rfl⟩
  case qB =>
  rintro σ H2 ⟨rfl,rfl⟩
  refine aF (fun σ H3=>σ=[some (.int c),some (.ref a),some (.ref dr),some (vN n),none,none]/\H3=H2) ?qC ?tC
  case tC =>
   intro N Rc
   refine⟨_,rfl,dr,_,_,_,rfl,rfl,SqL.of edr,at0,_,_,rfl,rfl,_,rfl,?_⟩
   refine zb (fun _=>?_) (fun _=>Rc _ _ ⟨rfl,rfl⟩)
   refine⟨small (by show 1<=1000; decide),fun p1 hp1=>?_⟩
   generalize eF1:upd H2 p1 _=F1
   obtain⟨gf1,ef1⟩:=aW eF1 hp1
   refine⟨small (by show 1<=1000; decide),fun l hl=>?_⟩
   have sn:=aD hl (.lst [.ref p1])
   exact q l _ [.come] _ (s1.trans (gf1.trans sn)) ((s1.trans gf1).free hl) ao (by show 1<=2; decide) (.cons (.come (sn _ _ ef1)) (fun r z=>by rw[sn _ _ ef1] at z; cases z) .nil)
  case qC =>
  rintro σ H3 ⟨rfl,rfl⟩
  have mx:(0:Int) < (if (n:Int) > 1 then (n:Int) else 1):=by split <;> lia
  refine aF (fun σ H4=>∃ o:Int,σ=[some (.int c),some (.ref a),some (.ref dr),some (vN n),some (.int o),none]/\aV H3 H4) ?qD ?tD
  case tD =>
   intro N Rc
   refine⟨_,rfl,dr,_,_,_,rfl,rfl,SqL.of edr,at1,_,rfl,_,_,rfl,_,_,rfl,rfl,mx,?_⟩
   refine⟨_,rfl,dr,_,_,_,rfl,rfl,SqL.of edr,at1,_,rfl,_,_,rfl,_,_,rfl,rfl,mx,_,rfl,_,rfl,cE (Ia fun big=>?_)⟩
   refine⟨small (by show 5<=1000; decide),fun l hl=>?_⟩
   generalize eF1:upd H3 l _=F1
   obtain⟨gf1,ef1⟩:=aW eF1 hl
   refine⟨_,rfl,dr,_,_,_,rfl,rfl,SqL.of (gf1 _ _ edr),at3,?_⟩
   obtain⟨o,ho⟩:∃ o:Int,atI [V.int (d1 % (if (n:Int) > 1 then (n:Int) else 1)),V.int (d1 % (if (n:Int) > 1 then (n:Int) else 1)),vN n,V.int (-1),V.int big] d3=some (.int o):=by
    have h5:d3=0∨d3=1∨d3=2∨d3=3∨d3=4:=by lia
    rcases h5 with rfl | rfl | rfl | rfl | rfl
    ·exact⟨_,au (k:=0) rfl⟩
    ·exact⟨_,au (k:=1) rfl⟩
    ·exact⟨_,au (k:=2) rfl⟩
    ·exact⟨_,au (k:=3) rfl⟩
    ·exact⟨_,au (k:=4) rfl⟩
   exact⟨l,_,_,_,rfl,rfl,SqL.of ef1,ho,Rc _ _ ⟨o,rfl,gf1⟩⟩
  case qD =>
  rintro σ H4 ⟨o,rfl,s4⟩
  replace edr:=s4 _ _ edr
  replace s1:=s1.trans s4
  refine aF (fun σ H5=>σ=[some (.int c),some (.ref a),some (.ref dr),some (vN n),some (.int o),none]/\H5=H4) ?qE ?tE
  case tE =>
   intro N Rc
   refine⟨_,rfl,dr,_,_,_,rfl,rfl,SqL.of edr,at0,_,_,rfl,rfl,_,rfl,?_⟩
   refine zb (fun _=>?_) (fun _=>Rc _ _ ⟨rfl,rfl⟩)
   refine⟨_,rfl,small (by show 2<=1000; decide),fun p1 hp1=>?_⟩
   generalize eF1:upd H4 p1 _=F1
   obtain⟨gf1,ef1⟩:=aW eF1 hp1
   refine⟨small (by show 1<=1000; decide),fun l hl=>?_⟩
   have sn:=aD hl (.lst [.ref p1])
   exact q l _ [.leave o] _ (s1.trans (gf1.trans sn)) ((s1.trans gf1).free hl) ao (by show 1<=2; decide) (.cons (.leave (sn _ _ ef1)) (fun r z=>by rw[sn _ _ ef1] at z; cases z) .nil)
  case qE =>
  rintro σ H5 ⟨rfl,rfl⟩
  refine aF (fun σ H6=>σ=[some (.int c),some (.ref a),some (.ref dr),some (vN n),some (.int o),some (.int (1+d2))]/\H6=H5) ?qF ?tF
  case tF =>
   intro N Rc
   exact⟨_,rfl,dr,_,_,_,rfl,rfl,SqL.of edr,at2,_,_,rfl,rfl,Rc _ _ ⟨rfl,rfl⟩⟩
  case qF =>
  rintro σ H6 ⟨rfl,rfl⟩
  refine⟨_,rfl,_,rfl,small (by show 1<=1000; decide),fun f1 hf1=>?_⟩
  generalize eF1:upd H6 f1 _=F1
  obtain⟨gf1,ef1⟩:=aW eF1 hf1
  refine⟨small (by show 2<=1000; decide),fun f2 hf2=>?_⟩
  generalize eF2:upd F1 f2 _=F2
  obtain⟨gf2,ef2⟩:=aW eF2 hf2
  refine⟨small (by show 1<=1000; decide),fun f3 hf3=>?_⟩
  generalize eF3:upd F2 f3 _=F3
  obtain⟨gf3,ef3⟩:=aW eF3 hf3
  refine⟨small (by show 3<=1000; decide),fun f4 hf4=>?_⟩
  generalize eF4:upd F3 f4 _=F4
  obtain⟨gf4,ef4⟩:=aW eF4 hf4
  refine⟨_,rfl,_,rfl,small (by show 2<=1000; decide),fun f5 hf5=>?_⟩
  generalize eF5:upd F4 f5 _=F5
  obtain⟨gf5,ef5⟩:=aW eF5 hf5
  refine⟨small (by show 1<=1000; decide),fun f6 hf6=>?_⟩
  generalize eF6:upd F5 f6 _=F6
  obtain⟨gf6,ef6⟩:=aW eF6 hf6
  refine⟨small (by show 2<=1000; decide),fun f7 hf7=>?_⟩
  generalize eF7:upd F6 f7 _=F7
  obtain⟨gf7,ef7⟩:=aW eF7 hf7
  refine⟨small (by show 2<=1000; decide),fun l hl=>?_⟩
  have sn:=aD hl (.lst [.ref f4,.ref f7])
  have s37:=gf4.trans (gf5.trans (gf6.trans (gf7.trans sn)))
  have s07:=s1.trans (gf1.trans (gf2.trans (gf3.trans (gf4.trans (gf5.trans (gf6.trans gf7))))))
  have e4:=(gf5.trans (gf6.trans (gf7.trans sn))) _ _ ef4
  have e7:=sn _ _ ef7
  have s05:=s1.trans (gf1.trans (gf2.trans (gf3.trans (gf4.trans gf5))))
  exact q l _ [.pledge o [(1+d2,.free)],.hand [(o,1+d2)]] _ (s07.trans sn) (s07.free hl) ao (by show 2<=2; decide) (.cons (.pledge e4 (HX (s37 _ _ (gf3 _ _ (gf2 _ _ ef1))) (s37 _ _ (gf3 _ _ ef2)) (s37 _ _ ef3) (by lia) (by lia))) (fun r z=>by rw[e4] at z; cases z) (.cons (.hand e7 ((gf7.trans sn) _ _ ef6) (.cons ((gf6.trans (gf7.trans sn)) _ _ ef5) .nil) (by show 1<=100; decide)) (fun r z w=>by
   rw[e7] at z
   cases z
   rw[w,s05 _ _ hbe] at hf6
   cases hf6) .nil))
section
variable {K:Py} {G C T:Addr} {q w:Px} {cap:List Nat} {te:XK->TE} {σ:St} {H:Hp} {Q:VK}
theorem yQ (hT:TabOk H T q) (R:XRd K C G "word") (h:∀ H1,gO H H1->TabOk H1 T q->∀ (Q2:VK) (E2:XK),thrown C w H1 E2->te E2 (Je cap σ) H1 Q2)
  (k:∀ a H',gO H H'->TabOk H' T q->H' a=some (.tup [.str w])->Q (.ref a) H'):Mz T q cap (twWord K G) te σ H Q :=
 ⟨hT,fun _ H1 sm tb=>h H1 sm tb _ _ (uX R fun a H' s e=>k a H' (sm.trans s.t) (tb.same s) e)⟩
theorem Ef {P:V->Hp->Prop} (hT:TabOk H T q) (h:∀ H1,gO H H1->TabOk H1 T q->∀ (Q2:VK) (E2:XK),(∀ v H2,P v H2->Q2 v H2)->te E2 (Je cap σ) H1 Q2)
  (k:∀ a v H2 H',P v H2->aV H2 H'->H' a=some (.tup [.str "told",v])->Q (.ref a) H'):Mz T q cap (twWord K G) te σ H Q :=
 ⟨hT,fun _ H1 sm tb=>h H1 sm tb _ _ fun v H2 p=>⟨small (by show 2<=1000; decide),fun a ha=>k a v H2 _ p (aD ha _) ao⟩⟩
end
theorem xW {H:Hp} {a:Addr} {w:Px} (h:H a=some (.tup [.str w])):Rep H (.ref a) (.tup [.str w]):=.tup h (by show 1<=100000; decide) (.cons (.str _) .nil)
theorem wQ {H:Hp} {a:Addr} {v:V} {d:Dm} (h:H a=some (.tup [.str "told",v])) (r:Rep H v d):Rep H (.ref a) (.tup [.str "told",d]):=.tup h (by show 2<=100000; decide) (.cons (.str _) (.cons r .nil))
theorem Em {w:Px} {n:Nat} (h:1 < n):(Dm.tup [.str w]).dep < n:=by simpa [Dm.dep,fJ] using h
def Jo:Px:=("law" : Px)++".<locals>."++"<lambda>"
theorem tab_keep {H H':Hp} {T:Addr} {q:Px} (h:TabOk H T q) (k1:∀ a ps,H a=some (.tbl ps)->H' a=some (.tbl ps)) (k2:∀ a o u,H a=some (.frz o u)->H' a=some (.frz o u)):TabOk H' T q:=by
 obtain⟨ps,e,t,f⟩:=h
 refine⟨ps,k1 _ _ e,t,fun pos cv z=>?_⟩
 obtain⟨c,oc,u,vs,tk,e1,e2,e3⟩:=f pos cv z
 exact⟨c,oc,u,vs,tk,e1,k2 _ _ _ e2,e3⟩
theorem Ii {CB b be dx T:Addr} {fs:List (Px × V)} {xs:List V} {H H':Hp} {q:Px} (h1:H b=some (.ins CB dx fs)) (h2:H be=some (.lst xs)) (x:But b be H H') (t:TabOk H T q):TabOk H' T q :=
 tab_keep t (fun a ps ha=>x _ _ (fun z=>by rw[z,h1] at ha; cases ha) (fun z=>by rw[z,h2] at ha; cases ha) ha) fun a o u ha=>x _ _ (fun z=>by rw[z,h1] at ha; cases ha) (fun z=>by rw[z,h2] at ha; cases ha) ha
structure Wk (CS CB T:Addr) (H:Hp) (b be dx a:Addr) (A:Sa) (k:Nat):Prop where
 bn:∃ (ah nw:Addr) (xs zs:List V),Bn CS CB A.n H b be ah dx nw xs zs A.g A.go A.es A.co/\xs.length<=k
 st:StR be A.n H a A.g A.go A.es A.co
 ok:AOk A
 tb:TabOk H T Jo
section
variable {CS CB T:Addr} {H H':Hp} {b be dx a:Addr} {A:Sa} {k:Nat}
theorem Wk.sT (h:Wk CS CB T H b be dx a A k) (s:gO H H') (t:TabOk H' T Jo):Wk CS CB T H' b be dx a A k:=by
 obtain⟨⟨ah,nw,xs,zs,hB,l⟩,st,ok,_⟩:=h
 exact⟨⟨ah,nw,xs,zs,hB.sT s,l⟩,st.sT s,ok,t⟩
theorem Wk.same (h:Wk CS CB T H b be dx a A k) (s:aV H H'):Wk CS CB T H' b be dx a A k:=h.sT s.t (h.tb.same s)
theorem Wk.up {j:Nat} (h:Wk CS CB T H b be dx a A k) (l:k<=j):Wk CS CB T H b be dx a A j:=by
 obtain⟨⟨ah,nw,xs,zs,hB,lx⟩,st,ok,t⟩:=h
 exact⟨⟨ah,nw,xs,zs,hB,by lia⟩,st,ok,t⟩
end
def vaD (A:Sa):lE->Dm
 | .come=>.int (A.n:Int)
 | .leave _=>.non
 | .pledge _ _=>.int (A.co:Int)
 | .hand _=>.non
theorem GK {H:Hp} (A:Sa) (d:lE):Rep H (vaV A d) (vaD A d):=by
 cases d with
 | come=>exact .int _
 | leave=>exact .non
 | pledge=>exact .int _
 | hand=>exact .non
theorem KH (A:Sa) (d:lE):(vaD A d).dep=0:=by cases d <;> simp [vaD,Dm.dep]
theorem Ms (A:Sa) (d:lE):A.n<=(A.aft d).n:=by
 cases d with
 | come=>exact Rm _
 | leave=>exact OJ _
 | pledge=>exact OJ _
 | hand=>exact OJ _
abbrev HN:Stmt:=top 76
theorem iT:aM ["_law_script","_law_boon_here","_law_state","_law_cell","_law_deed","_law_word_here","_law_want"] ["_law_script"] (aA HN):=⟨rfl,rfl,rfl,by decide+kernel,rfl,by decide+kernel,by decide+kernel⟩
inductive GR (K:Py) (T:Addr) (vs:List V) (H:Hp) (Q:VK):Prop where
 | mk (a:Addr) (ns:List Int) (z0:vs=[.ref a]) (z1:SqL K H a (ns.map V.int)) (z2:ns.length<=63) (z3:TabOk H T Jo) (z4:∀ H',Q (.bl true) H'):GR K T vs H Q
def FN (K:Py) (T:Addr):Sp:=fun vs H Q _=>GR K T vs H Q
theorem K5 {f c T fW G CS CB:Addr} {x:XA} {fd fdW:Qw} (F:Lf K "law" "law" HN f fd c) (B:Bt mg) (HP:yo mg c T base) (m_BoonError:mg "BoonError" = some (.ref G)) (RX:∀ w:Px,XRd K (x.of w) G "word")
  (F_law_word:Fun K "_law_word" "_law_word" dW fW fdW) (m_law_word:mg "_law_word" = some (.ref fW)) (D_Boon:Dk2 P w K mg base "Boon" CB 3 ["self"] (xG CS CB)) (D_law_deeds:Df P w K mg base "_law_deeds" 2 ["_law_cell","_law_state"] Am) (D_law_refusal:Df P w K mg base "_law_refusal" 8 ["_law_state","_law_deed"] tK)
  (D_law_value:Df P w K mg base "_law_value" 1 ["_law_state","_law_deed"] BW) (D_law_do:Dx P w K mg base "_law_do" 15 ["_law_boon_here","_law_deed"] (Nu CS CB x)) (D_law_after:Df P w K mg base "_law_after" 2 ["_law_state","_law_deed"] Av) (D_law_stands:Df P w K mg base "_law_stands" 15 ["_law_boon_here","_law_state"] (wL CS CB)) (D_law_same:Df P w K mg base "_law_same" 3 ["_law_found","_law_due"] (nT 3)) :
  bK P w K mg base CX0 19 f fd ["_law_script"] (FN K T):=by
 refine F.ok iT (fun vs H Q E h=>?_) (fun A outer s H vs Q E hr h=>?_)
 ·obtain⟨a,ns,rfl,_⟩:=h
  rfl
 ·obtain⟨a,ns0,rfl,hS,lN,hT,q⟩:=h
  refine⟨_,(aj (bh (i:=0) iT.nd rfl (Pr rfl) (xg (r:=Nq K) Ir (pv 0) Ai (BJ az)))
 (aj (bh (i:=1) iT.nd rfl (Xk rfl) (J6 D_Boon hr))
 (aj (bh (i:=2) iT.nd rfl (Pr rfl) (bM (aa (cJ ak) (aa (bM ak) (aa wW (aa az ak))))))
 (aj (cZ Qy rfl (dh (bW sH (pv 0) (cJ (aa az (aa az (aa az ak)))))) (aP (i:=3) iT.nd rfl (Pr rfl)) (aq (cZ Qy rfl (dh (bC D_law_deeds hr (aa (pv 3) (aa (pv 2) ak)))) (aP (i:=4) iT.nd rfl (Xk rfl)) (aj (bh (i:=5) iT.nd rfl (Pr rfl) (bC D_law_refusal hr (aa (pv 2) (aa (pv 4) ak))))
 (aj (bh (i:=6) iT.nd rfl (Pr rfl) (bM (aa aO (aa (bC D_law_value hr (aa (pv 2) (aa (pv 4) ak))) ak))))
 (aj (aY (aG qI (pv 5) aO (aL _)) (aq (bh (i:=6) iT.nd rfl (Pr rfl) (bM (aa (pv 5) ak)))) aH)
 (aj (aY (du (cI (bC D_law_same hr (aa (Kf (k:=17) (NL:=["_law_boon_here","_law_deed"]) (cap:=[1,4]) F_law_word nY hr rfl m_law_word (JX (cG rfl rfl (by kernel_rfl))) rfl HP.code HP.blt (fun f cd cl A outer s H E j hj hr=>(yH D_law_do hr yO (aa (pv 0) (aa (pv 1) ak)))) (Jc m_BoonError)) (aa (pv 6) ak))))) (aq (aJ eE)) aH)
 (aj (aY (aG bD (pv 5) aO (aL _)) (aq (bh (i:=2) iT.nd rfl (Pr rfl) (bC D_law_after hr (aa (pv 2) (aa (pv 4) ak))))) aH)
 (aq (aY (du (cI (bC D_law_stands hr (aa (pv 1) (aa (pv 2) ak))))) (aq (aJ eE)) aH))))))))))
 (aq (aJ eE)))))),?_⟩
  refine aF (fun σ H1=>∃ (p1:Addr) (ss:List Int),σ=[some (.ref p1),none,none,none,none,none,none]/\aV H H1/\H1 p1=some (.lst (ss.map V.int))/\ss.length<=63) ?q0 ?t0
  case t0 =>
   intro N Rc
   refine⟨_,rfl,_,rfl,a,_,rfl,hS,fun p1 h1=>?_⟩
   obtain⟨ss,es,ls⟩:=Ei ns0 none (some 63)
   rw[es]
   exact Rc _ _ ⟨p1,ss,rfl,aD h1 _,ao,by lia⟩
  case q0 =>
  rintro σ H1 ⟨p1,ss,rfl,g1,e1,ls⟩
  refine aF (fun σ H2=>∃ (b be ah dx nw:Addr),σ=[some (.ref p1),some (.ref b),none,none,none,none,none]/\aV H1 H2/\H1 be=none/\H1 b=none/\Bn CS CB 0 H2 b be ah dx nw [] [] [] [] [] 0) ?q1 ?t1
  case t1 =>
   intro N Rc x dx hx hdx hne
   have fr0:∀ c,H1 c≠none->c≠x/\c≠dx:=fun c h=>⟨fun z=>h (by rw[z]; exact hx),fun z=>h (by rw[z]; exact hdx)⟩
   refine⟨x,dx,rfl,ao,fun be ah nw H4 fbe fah fr hB=>⟨rfl,Rc _ _ ⟨x,be,ah,dx,nw,rfl,fun a o h=>?_,?_,hx,hB⟩⟩⟩
   ·obtain⟨ax,ad⟩:=fr0 a (by rw[h]; simp)
    exact fr a o ax (by rw[aN ax,aN ad]; exact h)
   ·cases hq:H1 be with
    | none=>rfl
    | some o =>
     obtain⟨ax,ad⟩:=fr0 be (by rw[hq]; simp)
     rw[aN ax,aN ad,hq] at fbe
     cases fbe
  case q1 =>
  rintro σ H2 ⟨b,be,ah,dx,nw,rfl,s2,fbe,fb,hB⟩
  refine aF (fun σ H3=>∃ st:Addr,σ=[some (.ref p1),some (.ref b),some (.ref st),none,none,none,none]/\aV H1 H3/\Wk CS CB T H3 b be dx st ⟨0,[],[],[],0⟩ 0) ?q2 ?t2
  case t2 =>
   intro N Rc
   refine⟨small (by show 0<=1000; decide),fun a1 h1=>?_⟩
   generalize eF1:upd H2 a1 _=F1
   obtain⟨gf1,ef1⟩:=aW eF1 h1
   refine⟨small (by show 0<=1000; decide),fun a2 h2=>?_⟩
   generalize eF2:upd F1 a2 _=F2
   obtain⟨gf2,ef2⟩:=aW eF2 h2
   intro a3 h3
   generalize eF3:upd F2 a3 _=F3
   obtain⟨gf3,ef3⟩:=aW eF3 h3
   refine⟨small (by show 4<=1000; decide),fun st hst=>?_⟩
   generalize eF4:upd F3 st _=F4
   obtain⟨gf4,ef4⟩:=aW eF4 hst
   have s24:=gf1.trans (gf2.trans (gf3.trans gf4))
   refine Rc _ _ ⟨st,rfl,s2.trans s24,⟨⟨ah,nw,[],[],hB.same s24,OJ _⟩,⟨a1,a2,a3,[],ef4,(gf2.trans (gf3.trans gf4)) _ _ ef1,(gf3.trans gf4) _ _ ef2,gf4 _ _ ef3,.nil,fun z=>?_⟩,⟨rfl,by decide,by decide,⟨.nil,by simp⟩,by simp⟩,hT.same (g1.trans (s2.trans s24))⟩⟩
   rw[z,hB.hbe] at h1
   cases h1
  case q2 =>
  rintro σ H3 ⟨st,rfl,s3,W3⟩
  refine aF (fun _ _=>True) (fun _ _ _=>q _) fun N Rc=>?_
  refine⟨_,rfl,small (by show 3<=1000; decide),fun p5 h5=>?_⟩
  generalize eH8:upd H3 p5 _=H8
  obtain⟨g8,e8⟩:=aW eH8 h5
  refine⟨p1,p5,_,_,rfl,rfl,g8 _ _ (s3 _ _ e1),e8,small (by rw[Ow]; show ss.length+3<=1000; lia),fun p6 h6=>?_⟩
  have ec:ss.map V.int++[V.int 0,V.int 1,V.int 2]=(ss++[0,1,2]).map V.int:=by rw[O7]; rfl
  rw[ec]
  generalize eH9:upd H8 p6 _=H9
  obtain⟨g9,e9⟩:=aW eH9 h6
  have W9:=(W3.same g8).same g9
  obtain⟨_,_,_,_,hB3,_⟩:=W3.bn
  have n6:p6≠be:=fun z=>by rw[z,g8 _ _ hB3.hbe] at h6; cases h6
  refine⟨p6,rfl,⟨_,SqL.of e9⟩,dq (K:=K) (a:=p6) (xs:=(ss++[0,1,2]).map V.int) (fun i σ Hx=>∃ (u3 u4 u5 u6:Option V) (st:Addr) (S:Sa),σ=[some (.ref p1),some (.ref b),some (.ref st),u3,u4,u5,u6]/\Hx p6=some (.lst ((ss++[0,1,2]).map V.int))/\Wk CS CB T Hx b be dx st S (2 * i))
   ⟨_,_,_,_,st,_,rfl,e9,W9⟩ (fun i σ Hx _ h=>by obtain⟨_,_,_,_,_,_,_,z,_⟩:=h; exact SqL.of z) ?_ (fun _ _ _=>Rc _ _ trivial)⟩
  clear W9 W3 Rc hB3 hB
  rintro i y σ Hx hx ⟨u3,u4,u5,u6,st,S,rfl,e6,W⟩
  obtain⟨cv,hcv,rfl⟩:=int_at hx
  have il:=(List.getElem?_eq_some_iff.mp hcv).1
  rw[Qa] at il
  have il:i < ss.length+3:=il
  refine gN ?_
  obtain⟨_,_,_,_,hB0,_⟩:=W.bn
  refine⟨_,rfl,_,rfl,be,st,cv,S.n,S.g,S.go,S.es,S.co,_,rfl,W.st,hB0.hbe,W.ok.n12,fun l us ds H4 s4 fl el lus hds=>?_⟩
  have nl:l≠be:=fun z=>by rw[z,hB0.hbe] at fl; cases fl
  have W4:=W.same s4
  replace e6:=s4 _ _ e6
  refine⟨l,rfl,⟨_,SqL.of el⟩,dq (K:=K) (a:=l) (xs:=us) (fun j σ H5=>∃ (u4 u5 u6:Option V) (st:Addr) (S':Sa),σ=[some (.ref p1),some (.ref b),some (.ref st),some (.int cv),u4,u5,u6]/\H5 p6=some (.lst ((ss++[0,1,2]).map V.int))/\H5 l=some (.lst us)/\S.n<=S'.n/\DsR be S.n H5 us ds/\Wk CS CB T H5 b be dx st S' (2 * i+j))
   ⟨_,_,_,st,S,rfl,e6,el,OJ _,hds,W4⟩ (fun j σ H5 _ h=>by obtain⟨_,_,_,_,_,_,_,z,_⟩:=h; exact SqL.of z) ?_ ?_⟩
  case refine_2 =>
   rintro σ H5 ⟨u4,u5,u6,st,S',rfl,e6,_,_,_,W5⟩
   exact⟨_,_,_,_,st,S',rfl,e6,W5.up (by lia)⟩
  clear W W4 hB0 e6 el hds s4 fl u4 u5 u6 hx
  rintro j y σ H5 hx ⟨u4,u5,u6,st,S',rfl,e6,el,hn,hds,Wx⟩
  obtain⟨da,d,rfl,hd0,nr⟩:=hds.get hx
  have hd:=hd0.le hn
  have jl:=(List.getElem?_eq_some_iff.mp hx).1
  refine gN ?_
  refine aF (fun σ H6=>σ=[some (.ref p1),some (.ref b),some (.ref st),some (.int cv),some (.ref da),some (.str (reW S' d)),u6]/\aV H5 H6) ?qA ?tA
  case tA =>
   intro N Rc
   exact⟨_,rfl,_,rfl,be,st,da,S',d,rfl,Wx.st,Wx.ok,hd,fun H6 s6=>Rc _ _ ⟨rfl,s6⟩⟩
  case qA =>
  rintro σ H6 ⟨rfl,s6⟩
  refine aF (fun σ H7=>∃ wa:Addr,σ=[some (.ref p1),some (.ref b),some (.ref st),some (.int cv),some (.ref da),some (.str (reW S' d)),some (.ref wa)]/\aV H5 H7/\H7 wa=some (.tup [.str "told",vaV S' d])) ?qB ?tB
  case tB =>
   intro N Rc
   refine⟨_,rfl,_,rfl,be,st,da,S',d,rfl,Wx.st.same s6,hd.same s6,small (by show 2<=1000; decide),fun wa hwa=>Rc _ _ ⟨wa,rfl,s6.trans (aD hwa _),ao⟩⟩
  case qB =>
  rintro σ H7 ⟨wa,rfl,s7,ewa⟩
  refine aF (fun σ H8=>∃ wa:Addr,σ=[some (.ref p1),some (.ref b),some (.ref st),some (.int cv),some (.ref da),some (.str (reW S' d)),some (.ref wa)]/\aV H5 H8/\H8 wa=some (.tup (if reW S' d = "" then [.str "told",vaV S' d] else [.str (reW S' d)]))) ?qC ?tC
  case tC =>
   intro N Rc
   refine⟨_,rfl,rfl,_,rfl,?_⟩
   by_cases z:reW S' d = ""
   ·rw[show decide (V.str (reW S' d)=V.str "")=true from decide_eq_true (by rw[z])]
    show if (!true)=true then _ else _
    exact bG (Rc _ _ ⟨wa,rfl,s7,by rw[if_pos z]; exact ewa⟩)
   ·rw[show decide (V.str (reW S' d)=V.str "")=false from decide_eq_false (aB z)]
    show if (!false)=true then _ else _
    refine cH ⟨_,rfl,small (by show 1<=1000; decide),fun p hp=>Rc _ _ ⟨p,rfl,s7.trans (aD hp _),?_⟩⟩
    rw[ao,if_neg z]
  case qC =>
  clear ewa s7 s6
  rintro σ H8 ⟨wa,rfl,s8,ewa⟩
  replace Wx:=Wx.same s8
  have nr8:∀ r,H8 da=some (.tup [.str "hand",.ref r])->r≠be:=fun r z=>nr r (by
   obtain⟨ys,hy⟩:=hd.live
   rw[s8 _ _ hy] at z
   rw[hy]
   exact z)
  replace hd:=hd.same s8
  replace hds:=hds.kp (fun a ys z=>s8 _ _ z) (fun a ys _ z=>s8 _ _ z)
  replace e6:=s8 _ _ e6
  replace el:=s8 _ _ el
  obtain⟨⟨ah,nw,xs,zs,hB,lx⟩,hst,ok,tb⟩:=id Wx
  refine aF (fun σ H9=>σ=[some (.ref p1),some (.ref b),some (.ref st),some (.int cv),some (.ref da),some (.str (reW S' d)),some (.ref wa)]/\H9 p6=some (.lst ((ss++[0,1,2]).map V.int))/\H9 l=some (.lst us)/\DsR be S.n H9 us ds/\DeR S'.n H9 da d/\StR be S'.n H9 st S'.g S'.go S'.es S'.co/\TabOk H9 T Jo/\((reW S' d≠""/\Wk CS CB T H9 b be dx st S' (2 * i+j))∨(reW S' d = ""/\∃ (ah nw:Addr) (xs zs:List V),Bn CS CB (S'.aft d).n H9 b be ah dx nw xs zs (S'.aft d).g (S'.aft d).go (S'.aft d).es (S'.aft d).co/\xs.length<=2 * i+j+1))) ?qD ?tD
  case tD =>
   intro N Rc
   by_cases z:reW S' d = ""
   ·rw[if_pos z] at ewa
    refine Ef (P:=fun v H2=>v=vaV S' d/\∃ (Hq:Hp) (nw' ah':Addr),gO H8 Hq/\TabOk Hq T Jo/\But b be Hq H2/\Bn CS CB (S'.aft d).n H2 b be ah' dx nw' (xs++[.ref nw]) [] (S'.aft d).g (S'.aft d).go (S'.aft d).es (S'.aft d).co) tb (fun H1 s1 t1 Q2 E2 th=>?_) (fun a v H2 H' p s' ea=>?_)
    ·exact⟨_,rfl,_,rfl,b,be,ah,dx,nw,da,xs,zs,S',d,rfl,hB.sT s1,by lia,hd.sT s1,fun y=>absurd z y,fun _ H2 nw' ah' bt _ hB'=>th _ _ ⟨rfl,H1,nw',ah',s1,t1,bt,hB'⟩⟩
    ·obtain⟨rfl,Hq,nw',ah',sq,tq,bt,hB2⟩:=p
     have hBq:=hB.sT sq
     have tp:∀ a ys,H8 a=some (HO.tup ys)->H' a=some (HO.tup ys):=fun a ys y=>s' _ _ (bt a _ (fun w=>by rw[w] at y; rw[hB.hb] at y; cases y) (fun w=>by rw[w] at y; rw[hB.hbe] at y; cases y) (stT sq y))
     have lp:∀ a ys,a≠be->H8 a=some (HO.lst ys)->H' a=some (HO.lst ys):=fun a ys hn y=>s' _ _ (bt a _ (fun w=>by rw[w] at y; rw[hB.hb] at y; cases y) hn (stL sq y))
     refine⟨_,rfl,_,_,_,rfl,wQ ea (GK S' d),wQ (tp _ _ ewa) (GK S' d),by simp only[Dm.dep,fJ,KH]; lia,fun Hz sz=>⟨true,rfl,?_⟩⟩
     show if (!true)=true then _ else _
     have tpz:∀ a ys,H8 a=some (HO.tup ys)->Hz a=some (HO.tup ys):=fun a ys y=>sz _ _ (tp _ _ y)
     have lpz:∀ a ys,a≠be->H8 a=some (HO.lst ys)->Hz a=some (HO.lst ys):=fun a ys hn y=>sz _ _ (lp _ _ hn y)
     exact bG (Rc _ _ ⟨rfl,lpz _ _ n6 e6,lpz _ _ nl el,hds.kp tpz lpz,hd.kp tpz lpz nr8,((StR.but hBq.hb hBq.hbe bt (hst.sT sq)).same s').same sz,((Ii hBq.hb hBq.hbe bt tq).same s').same sz,.inr ⟨z,ah',nw',_,_,(hB2.same s').same sz,by rw[Qa]; show xs.length+1<=_; lia⟩⟩)
   ·rw[if_neg z] at ewa
    refine yQ (C:=x.of (reW S' d)) (w:=reW S' d) tb (RX (reW S' d)) (fun H1 s1 t1 Q2 E2 th=>?_) (fun a H' s' t' ea=>?_)
    ·exact⟨_,rfl,_,rfl,b,be,ah,dx,nw,da,xs,zs,S',d,rfl,hB.sT s1,by lia,hd.sT s1,fun _=>th,fun y=>absurd y z⟩
    ·refine⟨_,rfl,_,_,_,rfl,xW ea,xW (stT s' ewa),Em (by decide),fun Hz sz=>⟨true,rfl,?_⟩⟩
     show if (!true)=true then _ else _
     have sz':=s'.trans sz.t
     have tz:=t'.same sz
     exact bG (Rc _ _ ⟨rfl,stL sz' e6,stL sz' el,hds.kp (fun a ys y=>stT sz' y) (fun a ys _ y=>stL sz' y),hd.sT sz',hst.sT sz',tz,.inl ⟨z,Wx.sT sz' tz⟩⟩)
  case qD =>
  clear hds el e6 hst tb hB Wx ewa hd
  rintro σ H9 ⟨rfl,e6,el,hds,hd,hst,tb,hc⟩
  refine aF (fun σ Ha=>∃ (st:Addr) (S'':Sa),σ=[some (.ref p1),some (.ref b),some (.ref st),some (.int cv),some (.ref da),some (.str (reW S' d)),some (.ref wa)]/\aV H9 Ha/\S.n<=S''.n/\Wk CS CB T Ha b be dx st S'' (2 * i+(j+1))) ?qE ?tE
  case tE =>
   intro N Rc
   refine⟨_,rfl,rfl,_,rfl,?_⟩
   rcases hc with⟨z,W9⟩ | ⟨z,ah',nw',xs',zs',hB',lx'⟩
   ·rw[show decide (V.str (reW S' d)=V.str "")=false from decide_eq_false (aB z)]
    exact bG (Rc _ _ ⟨st,S',rfl,aV.refl _,hn,W9.up (by lia)⟩)
   ·rw[show decide (V.str (reW S' d)=V.str "")=true from decide_eq_true (by rw[z])]
    refine cH ⟨_,rfl,_,rfl,be,st,da,S',d,_,rfl,hst,hB'.hbe,ok,hd,z,fun a' Ha sa hst'=>Rc _ _ ⟨a',S'.aft d,rfl,sa,PX hn (Ms S' d),⟨⟨ah',nw',xs',zs',hB'.same sa,by lia⟩,hst',ok.aft z,tb.same sa⟩⟩⟩
  case qE =>
  rintro σ Ha ⟨st',S'',rfl,sa,hn',Wa⟩
  obtain⟨⟨ah2,nw2,xs2,zs2,hB2,lx2⟩,hst2,ok2,tb2⟩:=id Wa
  refine⟨_,rfl,_,rfl,b,be,ah2,dx,nw2,st',xs2,zs2,S'',rfl,hB2,hst2,ok2,fun Hb sb=>⟨true,rfl,?_⟩⟩
  show if (!true)=true then _ else _
  have s9b:=sa.trans sb
  exact bG ⟨_,_,_,st',S'',rfl,s9b _ _ e6,s9b _ _ el,hn',hds.kp (fun a ys y=>s9b _ _ y) (fun a ys _ y=>s9b _ _ y),Wa.same sb⟩
theorem all_mk {l:W.OpenLaw} {w:Qd} {K:Py} {h:Qo} {mg:Px->Option Value} {fa fq1 fq2 fq3 fq4 fq5 fq6 fq7 fq8 fq9 fq10 fq11 fq12 fq13 fq14 fq15 fq17 fq19 fq20 fq21 fq22 fq23 fq24 fq25 fq26 fq27 fq28 fq29 fq30 fq31 fq32 fq33 fq34 fq35 fq37 fq38 fq40 fq41 fq42 fq43 fq48 fq49:Addr} (X:K.In h) (G:h.Ns O8 mg) (hfa:mg "law" = some (.ref fa)) {tk_MOST_FOLK tk_MOST_STEP tk_MOST_SUM tk_MOST_DEPTH tk_FEWEST_PARTS tk_MOST_PARTS tk_MOST_RUNGS tk_MOST_PLEDGES:Xu} {Cw10 Cw11:Addr} {f_Stand_init f_Boon_init f_Boon_go_on f_Boon_come f_Boon_leave f_Boon_pledge f_Boon_hand:Addr} {Cw0 fiw0 Cw1 fiw1 Cw2 fiw2 Cw3 fiw3 Cw8 fiw8 Cw7 fiw7 Cw6 fiw6:Addr} {bmw0 bmw1 bmw2 bmw3 bmw8 bmw7 bmw6:List Value} {mc:Value} {cLaw:Addr}
  (qw0:dB K "BoonError" "BoonError.__init__" Cw0 fiw0 (inClass jk 0) bmw0)
  (xga:W.specialIn K (.ref Cw0) "__getattribute__" = some (some (.builtin "type.__getattribute__")))
  (xty:W.typeIn K (.ref Cw0)=some mc)
  (xrd:W.readsIn K Cw0 mc=true)
  (xfd:W.findCls K (.ref Cw0) mc "__init__" = some (.val (.ref fiw0)))
  (qw1:dB K "BadPledge" "BadPledge.__init__" Cw1 fiw1 (inClass jo 0) bmw1)
  (mrw1:(Pg Cw1::bmw1).contains (.ref Cw0)=true)
  (qw2:dB K "NoFolk" "NoFolk.__init__" Cw2 fiw2 (inClass qx 0) bmw2)
  (mrw2:(Pg Cw2::bmw2).contains (.ref Cw0)=true)
  (qw3:dB K "Gone" "Gone.__init__" Cw3 fiw3 (inClass Bv 0) bmw3)
  (mrw3:(Pg Cw3::bmw3).contains (.ref Cw0)=true)
  (qw8:dB K "Full" "Full.__init__" Cw8 fiw8 (inClass BK 0) bmw8)
  (mrw8:(Pg Cw8::bmw8).contains (.ref Cw0)=true)
  (qw7:dB K "BadRise" "BadRise.__init__" Cw7 fiw7 (inClass nF 0) bmw7)
  (mrw7:(Pg Cw7::bmw7).contains (.ref Cw0)=true)
  (qw6:dB K "NotDue" "NotDue.__init__" Cw6 fiw6 (inClass qO 0) bmw6)
  (mrw6:(Pg Cw6::bmw6).contains (.ref Cw0)=true)
  (qw10:gD K "Stand" Cw10)
  (n_Stand_green:Tg K (.ref Cw10) "green" = some none)
  (n_Stand_gone:Tg K (.ref Cw10) "gone" = some none)
  (n_Stand_standing:Tg K (.ref Cw10) "standing" = some none)
  (n_Stand_coming:Tg K (.ref Cw10) "coming" = some none)
  (q_Stand_init:cF K Cw10 "__init__" "Stand.__init__" ir f_Stand_init)
  (qw11:gD K "Boon" Cw11)
  (n_Boon_now:Tg K (.ref Cw11) "now" = some none)
  (n_Boon_behind:Tg K (.ref Cw11) "behind" = some none)
  (n_Boon_ahead:Tg K (.ref Cw11) "ahead" = some none)
  (q_Boon_init:cF K Cw11 "__init__" "Boon.__init__" jz f_Boon_init)
  (q_Boon_go_on:cF K Cw11 "go_on" "Boon.go_on" gK f_Boon_go_on)
  (q_Boon_come:cF K Cw11 "come" "Boon.come" iV f_Boon_come)
  (q_Boon_leave:cF K Cw11 "leave" "Boon.leave" gU f_Boon_leave)
  (q_Boon_pledge:cF K Cw11 "pledge" "Boon.pledge" gC f_Boon_pledge)
  (q_Boon_hand:cF K Cw11 "hand" "Boon.hand" jt f_Boon_hand)
  (ne_Boonw10:Cw11≠Cw10)
  (qq1:HasDef K "is_number" ju fq1)
  (qq2:HasDef K "is_crowd" jU fq2)
  (qq3:HasDef K "are_parts" jm fq3)
  (qq4:HasDef K "is_term_within" dM fq4)
  (qq5:HasDef K "is_term" nA fq5)
  (qq6:HasDef K "all_hold" kO fq6)
  (qq7:HasDef K "any_holds" jx fq7)
  (qq8:HasDef K "holds" vd fq8)
  (qq9:HasDef K "mentions" j4 fq9)
  (qq10:HasDef K "named" vC fq10)
  (qq11:HasDef K "is_rung" nU fq11)
  (qq12:HasDef K "is_pledge" jb fq12)
  (qq13:HasDef K "owes" zz fq13)
  (qq14:HasDef K "check_there" gB fq14)
  (qq15:HasDef K "owed_of" mX fq15)
  (qq17:HasDef K "check_pledge" fj fq17)
  (qq19:HasDef K "handed_in" jr fq19)
  (qq20:HasDef K "folk" CW fq20)
  (qq21:HasDef K "there" vD fq21)
  (qq22:HasDef K "green" uV fq22)
  (qq23:HasDef K "pledges" nR fq23)
  (qq24:HasDef K "coming" pI fq24)
  (qq25:HasDef K "_law_draws" jf fq25)
  (qq26:HasDef K "_law_same" kZ fq26)
  (qq27:HasDef K "_law_word" dW fq27)
  (qq28:HasDef K "_law_stands" ig fq28)
  (qq29:HasDef K "_law_named" iW fq29)
  (qq30:HasDef K "_law_holds" iU fq30)
  (qq31:HasDef K "_law_owes" j7 fq31)
  (qq32:HasDef K "_law_owed" kj fq32)
  (qq33:HasDef K "_law_listed" gW fq33)
  (qq34:HasDef K "_law_missing" gf fq34)
  (qq35:HasDef K "_law_good" j6 fq35)
  (qq37:HasDef K "_law_green" jw fq37)
  (qq38:HasDef K "_law_rises_refusal" cR fq38)
  (qq40:HasDef K "_law_refusal" fZ fq40)
  (qq41:HasDef K "_law_after" jc fq41)
  (qq42:HasDef K "_law_value" jj fq42)
  (qq43:HasDef K "_law_do" qK fq43)
  (qq48:HasDef K "_law_deeds" jd fq48)
  (qq49:gq K "law" HN fq49 cLaw 644)
  (v_MOST_FOLK:Ri K O8 "MOST_FOLK" = some (some (.int 12 tk_MOST_FOLK)))
  (v_MOST_STEP:Ri K O8 "MOST_STEP" = some (some (.int 9 tk_MOST_STEP)))
  (v_MOST_SUM:Ri K O8 "MOST_SUM" = some (some (.int 99 tk_MOST_SUM)))
  (v_MOST_DEPTH:Ri K O8 "MOST_DEPTH" = some (some (.int 4 tk_MOST_DEPTH)))
  (v_FEWEST_PARTS:Ri K O8 "FEWEST_PARTS" = some (some (.int 2 tk_FEWEST_PARTS)))
  (v_MOST_PARTS:Ri K O8 "MOST_PARTS" = some (some (.int 6 tk_MOST_PARTS)))
  (v_MOST_RUNGS:Ri K O8 "MOST_RUNGS" = some (some (.int 9 tk_MOST_RUNGS)))
  (v_MOST_PLEDGES:Ri K O8 "MOST_PLEDGES" = some (some (.int 40 tk_MOST_PLEDGES)))
  (z_len:Ri K O8 "len" = some none)
  (z_range:Ri K O8 "range" = some none)
  (z_all:Ri K O8 "all" = some none)
  (z_isinstance:Ri K O8 "isinstance" = some none)
  (z_int:Ri K O8 "int" = some none)
  (z_bool:Ri K O8 "bool" = some none)
  (z_str:Ri K O8 "str" = some none)
  (z_list:Ri K O8 "list" = some none)
  (z_tuple:Ri K O8 "tuple" = some none)
  (z_abs:Ri K O8 "abs" = some none)
  (z_max:Ri K O8 "max" = some none)
  (z_min:Ri K O8 "min" = some none)
  (z_sum:Ri K O8 "sum" = some none)
  (z_sorted:Ri K O8 "sorted" = some none)
  (z_zip:Ri K O8 "zip" = some none)
  (z_reversed:Ri K O8 "reversed" = some none)
  (z_divmod:Ri K O8 "divmod" = some none)
  (z_set:Ri K O8 "set" = some none)
  (z_any:Ri K O8 "any" = some none)
  (z_enumerate:Ri K O8 "enumerate" = some none)
  (z_ValueError:Ri K O8 "ValueError" = some none)
  (z_dict:Ri K O8 "dict" = some none)
  : ∃ (fd:Qw) (c:Addr),W.codeHdIn K c 644=true/\(∀ (s:Ov) (v:Value),VL s fd ⟨[v],[]⟩ [("_law_script",v)])/\∀ base:Qo,K.In base->base.Ns O8 mg->yo mg c 644 base->bK l.prog w K mg base CX0 19 fa fd ["_law_script"] (FN K 644):=by
 have e:=hfa.symm.trans (qq49.name X G)
 cases e
 have B:Bt mg:=⟨Qs X G z_len,Qs X G z_range,Qs X G z_all,Qs X G z_isinstance,Qs X G z_int,Qs X G z_bool,Qs X G z_str,Qs X G z_list,Qs X G z_tuple,Qs X G z_abs,Qs X G z_max,Qs X G z_min,Qs X G z_sum,Qs X G z_sorted,Qs X G z_zip,Qs X G z_reversed,Qs X G z_divmod,Qs X G z_set,Qs X G z_any,Qs X G z_enumerate⟩
 have c_MOST_FOLK:=Wc X G v_MOST_FOLK
 have c_MOST_STEP:=Wc X G v_MOST_STEP
 have c_MOST_SUM:=Wc X G v_MOST_SUM
 have c_MOST_DEPTH:=Wc X G v_MOST_DEPTH
 have c_FEWEST_PARTS:=Wc X G v_FEWEST_PARTS
 have c_MOST_PARTS:=Wc X G v_MOST_PARTS
 have c_MOST_RUNGS:=Wc X G v_MOST_RUNGS
 have c_MOST_PLEDGES:=Wc X G v_MOST_PLEDGES
 have c_dict:=Qs X G z_dict
 obtain⟨_,Fq49,bq49⟩:=qq49.law (y:="_law_script") fun _ _ _ _ _ _ s v=>.of_eq rfl
 refine⟨_,cLaw,qq49.hd,bq49,fun base _ _ HP=>?_⟩
 have mw0:=qw0.name X G
 obtain⟨_,Fiw0⟩:=qw0.fn
 have biw0:=Fiw0.binds (ps:=["self","word"]) fun _ _ _ _ _ _ us hl=>by obtain⟨x0,x1,rfl⟩:=Kd hl; rfl
 have z_V:=Qs X G z_ValueError
 have Ow0:uf K Cw0 mc "__init__" fiw0:=⟨xga,xrd,xfd,qw0.kp,rfl⟩
 have FB:=Fg (P:=l.prog) (w:=w) (mg:=mg) (base:=base) Fiw0 z_V
 have mw1:=qw1.name X G
 obtain⟨_,Fiw1⟩:=qw1.fn
 have biw1:=Fiw1.binds (ps:=["self"]) fun _ _ _ _ _ _ us hl=>by obtain⟨x0,rfl⟩:=Eb hl; rfl
 have Rw1:=qw1.xrd qw0 mrw1
 have Xw1:Xc l.prog w K mg base "BadPledge" Cw1 "bad pledge":=⟨⟨_,_,Af Fiw1 mw0 Ow0 FB biw0,mw1,qw1.Jk,biw1⟩⟩
 have mw2:=qw2.name X G
 obtain⟨_,Fiw2⟩:=qw2.fn
 have biw2:=Fiw2.binds (ps:=["self"]) fun _ _ _ _ _ _ us hl=>by obtain⟨x0,rfl⟩:=Eb hl; rfl
 have Rw2:=qw2.xrd qw0 mrw2
 have Xw2:Xc l.prog w K mg base "NoFolk" Cw2 "no folk":=⟨⟨_,_,BX Fiw2 mw0 Ow0 FB biw0,mw2,qw2.Jk,biw2⟩⟩
 have mw3:=qw3.name X G
 obtain⟨_,Fiw3⟩:=qw3.fn
 have biw3:=Fiw3.binds (ps:=["self"]) fun _ _ _ _ _ _ us hl=>by obtain⟨x0,rfl⟩:=Eb hl; rfl
 have Rw3:=qw3.xrd qw0 mrw3
 have Xw3:Xc l.prog w K mg base "Gone" Cw3 "gone":=⟨⟨_,_,Bx Fiw3 mw0 Ow0 FB biw0,mw3,qw3.Jk,biw3⟩⟩
 have mw8:=qw8.name X G
 obtain⟨_,Fiw8⟩:=qw8.fn
 have biw8:=Fiw8.binds (ps:=["self"]) fun _ _ _ _ _ _ us hl=>by obtain⟨x0,rfl⟩:=Eb hl; rfl
 have Rw8:=qw8.xrd qw0 mrw8
 have Xw8:Xc l.prog w K mg base "Full" Cw8 "full":=⟨⟨_,_,Bm Fiw8 mw0 Ow0 FB biw0,mw8,qw8.Jk,biw8⟩⟩
 have mw7:=qw7.name X G
 obtain⟨_,Fiw7⟩:=qw7.fn
 have biw7:=Fiw7.binds (ps:=["self"]) fun _ _ _ _ _ _ us hl=>by obtain⟨x0,rfl⟩:=Eb hl; rfl
 have Rw7:=qw7.xrd qw0 mrw7
 have Xw7:Xc l.prog w K mg base "BadRise" Cw7 "bad rise":=⟨⟨_,_,Aw Fiw7 mw0 Ow0 FB biw0,mw7,qw7.Jk,biw7⟩⟩
 have mw6:=qw6.name X G
 obtain⟨_,Fiw6⟩:=qw6.fn
 have biw6:=Fiw6.binds (ps:=["self"]) fun _ _ _ _ _ _ us hl=>by obtain⟨x0,rfl⟩:=Eb hl; rfl
 have Rw6:=qw6.xrd qw0 mrw6
 have Xw6:Xc l.prog w K mg base "NotDue" Cw6 "not due":=⟨⟨_,_,zM Fiw6 mw0 Ow0 FB biw0,mw6,qw6.Jk,biw6⟩⟩
 have dd:=fun {x:Px} {st:Stmt} {f:Addr} {ps:List Px} {sp:Sp} {k:Nat} (q:HasDef K x st f)=>q.df (P:=l.prog) (w:=w) (mg:=mg) (base:=base) (ps:=ps) (sp:=sp) (k:=k) X G
 have dx:=fun {x:Px} {st:Stmt} {f:Addr} {ps:List Px} {sp:Sp} {k:Nat} (q:HasDef K x st f)=>q.dx (P:=l.prog) (w:=w) (mg:=mg) (base:=base) (ps:=ps) (sp:=sp) (k:=k) X G
 have dmx:=fun {x m q:Px} {C:Addr} {st:Stmt} {f:Addr} {ps:List Px} {sp:Sp} {k:Nat} (o:cF K C m q st f) (c:gD K x C)=>o.dmx (P:=l.prog) (w:=w) (mg:=mg) (base:=base) (ps:=ps) (sp:=sp) (k:=k) c
 have dm:=fun {x m q:Px} {C:Addr} {st:Stmt} {f:Addr} {ps:List Px} {sp:Sp} {k:Nat} (o:cF K C m q st f) (c:gD K x C)=>o.dm (P:=l.prog) (w:=w) (mg:=mg) (base:=base) (ps:=ps) (sp:=sp) (k:=k) c
 have S:yp K Cw10:=⟨qw10.cl,n_Stand_green,n_Stand_gone,n_Stand_standing,n_Stand_coming⟩
 have T:zc K Cw11:=⟨qw11.cl,n_Boon_now,n_Boon_behind,n_Boon_ahead⟩
 have ne:=ne_Boonw10
 let xa:XA:=⟨Cw2,Cw3,Cw1,Cw8,Cw2,Cw2,Cw6,Cw7,Cw2⟩
 have RX:∀ w:Px,XRd K (xa.of w) Cw0 "word":=fun w=>by unfold XA.of; (repeat' split) <;> first | exact Rw2 | exact Rw3 | exact Rw1 | exact Rw8 | exact Rw6 | exact Rw7
 have Dq25:=dd qq25 (bF (by intros; rfl)) fun _ F=>uD F B
 have S0:Df l.prog w K mg base "_law_same" 0 ["_law_found","_law_due"] (nT 0):=dd qq26 (bF (by intros; rfl)) fun _ _=>same_none
 have S1:=dd qq26 (bF (by intros; rfl)) fun _ F=>bz F B S0
 have S2:=dd qq26 (bF (by intros; rfl)) fun _ F=>bz F B S1
 have S3:=dd qq26 (bF (by intros; rfl)) fun _ F=>bz F B S2
 have S4:=dd qq26 (bF (by intros; rfl)) fun _ F=>bz F B S3
 have S5:=dd qq26 (bF (by intros; rfl)) fun _ F=>bz F B S4
 have S6:=dd qq26 (bF (by intros; rfl)) fun _ F=>bz F B S5
 have S7:=dd qq26 (bF (by intros; rfl)) fun _ F=>bz F B S6
 have S8:=dd qq26 (bF (by intros; rfl)) fun _ F=>bz F B S7
 have S9:=dd qq26 (bF (by intros; rfl)) fun _ F=>bz F B S8
 have S10:=dd qq26 (bF (by intros; rfl)) fun _ F=>bz F B S9
 have S11:=dd qq26 (bF (by intros; rfl)) fun _ F=>bz F B S10
 have S12:=dd qq26 (bF (by intros; rfl)) fun _ F=>bz F B S11
 have S13:=dd qq26 (bF (by intros; rfl)) fun _ F=>bz F B S12
 have S14:=dd qq26 (bF (by intros; rfl)) fun _ F=>bz F B S13
 have H0:Df l.prog w K mg base "holds" 0 ["term","giving"] (dj K 0):=dd qq8 (bF (by intros; rfl)) fun _ _=>yU
 have A1:=dd qq6 (bF (by intros; rfl)) fun _ F=>fX F B H0
 have Y1:=dd qq7 (bF (by intros; rfl)) fun _ F=>eY F B H0
 have H1:=dd qq8 (bF (by intros; rfl)) fun _ F=>lY F B A1 Y1
 have A2:=dd qq6 (bF (by intros; rfl)) fun _ F=>fX F B H1
 have Y2:=dd qq7 (bF (by intros; rfl)) fun _ F=>eY F B H1
 have H2:=dd qq8 (bF (by intros; rfl)) fun _ F=>lY F B A2 Y2
 have A3:=dd qq6 (bF (by intros; rfl)) fun _ F=>fX F B H2
 have Y3:=dd qq7 (bF (by intros; rfl)) fun _ F=>eY F B H2
 have H3:=dd qq8 (bF (by intros; rfl)) fun _ F=>lY F B A3 Y3
 have A4:=dd qq6 (bF (by intros; rfl)) fun _ F=>fX F B H3
 have Y4:=dd qq7 (bF (by intros; rfl)) fun _ F=>eY F B H3
 have H4:=dd qq8 (bF (by intros; rfl)) fun _ F=>lY F B A4 Y4
 have Dq13:=dd qq13 (bF (by intros; rfl)) fun _ F=>Hj F B H4
 have L0:Df l.prog w K mg base "_law_holds" 0 ["_law_term_here","_law_giving"] (dj K 0):=dd qq30 (bF (by intros; rfl)) fun _ _=>vM
 have L1:=dd qq30 (bF (by intros; rfl)) fun _ F=>eQ F B L0
 have L2:=dd qq30 (bF (by intros; rfl)) fun _ F=>eQ F B L1
 have L3:=dd qq30 (bF (by intros; rfl)) fun _ F=>eQ F B L2
 have L4:=dd qq30 (bF (by intros; rfl)) fun _ F=>eQ F B L3
 have Dq31:=dd qq31 (bF (by intros; rfl)) fun _ F=>uO F B L4
 have Dq32:=dd qq32 (bF (by intros; rfl)) fun _ F=>u0 F B Dq31
 have Dq1:=dd qq1 (iZ (by intros; rfl)) fun _ F=>tG F B
 have Dq2:=dd qq2 (iZ (by intros; rfl)) fun _ F=>uN F B Dq1
 have W0:Df l.prog w K mg base "is_term_within" 1 ["many","thing","deep"] (iG 0):=dd qq4 (iZ (by intros; rfl)) fun _ _=>vK
 have P0:=dd qq3 (iZ (by intros; rfl)) fun _ F=>eF F B c_FEWEST_PARTS c_MOST_PARTS (by decide) Dq1 W0
 have W1:=dd qq4 (iZ (by intros; rfl)) fun _ F=>cN F B c_MOST_STEP c_MOST_SUM c_MOST_FOLK (by decide) Dq1 Dq2 P0
 have P1:=dd qq3 (iZ (by intros; rfl)) fun _ F=>eF F B c_FEWEST_PARTS c_MOST_PARTS (by decide) Dq1 W1
 have W2:=dd qq4 (iZ (by intros; rfl)) fun _ F=>cN F B c_MOST_STEP c_MOST_SUM c_MOST_FOLK (by decide) Dq1 Dq2 P1
 have P2:=dd qq3 (iZ (by intros; rfl)) fun _ F=>eF F B c_FEWEST_PARTS c_MOST_PARTS (by decide) Dq1 W2
 have W3:=dd qq4 (iZ (by intros; rfl)) fun _ F=>cN F B c_MOST_STEP c_MOST_SUM c_MOST_FOLK (by decide) Dq1 Dq2 P2
 have P3:=dd qq3 (iZ (by intros; rfl)) fun _ F=>eF F B c_FEWEST_PARTS c_MOST_PARTS (by decide) Dq1 W3
 have W4:=dd qq4 (iZ (by intros; rfl)) fun _ F=>cN F B c_MOST_STEP c_MOST_SUM c_MOST_FOLK (by decide) Dq1 Dq2 P3
 have Dq5:=dd qq5 (bF (by intros; rfl)) fun _ F=>yq F B c_MOST_DEPTH W4
 have M0:Df l.prog w K mg base "mentions" 0 ["term"] (gR 0):=dd qq9 (bind1 (by intros; rfl)) fun _ _=>tH
 have M1:=dd qq9 (bind1 (by intros; rfl)) fun _ F=>fU F B M0
 have M2:=dd qq9 (bind1 (by intros; rfl)) fun _ F=>fU F B M1
 have M3:=dd qq9 (bind1 (by intros; rfl)) fun _ F=>fU F B M2
 have M4:=dd qq9 (bind1 (by intros; rfl)) fun _ F=>fU F B M3
 have Dq10:=dd qq10 (bind1 (by intros; rfl)) fun _ F=>Ej F B M4
 have N0:Df l.prog w K mg base "_law_named" 0 ["_law_term_here"] (gR 0):=dd qq29 (bind1 (by intros; rfl)) fun _ _=>tH
 have N1:=dd qq29 (bind1 (by intros; rfl)) fun _ F=>eV F B N0
 have N2:=dd qq29 (bind1 (by intros; rfl)) fun _ F=>eV F B N1
 have N3:=dd qq29 (bind1 (by intros; rfl)) fun _ F=>eV F B N2
 have N4:=dd qq29 (bind1 (by intros; rfl)) fun _ F=>eV F B N3
 have Dq11:=dd qq11 (Mw (by intros; rfl)) fun _ F=>yz F B c_MOST_STEP (by decide) Dq1 Dq5 Dq10
 have Dq12:=dd qq12 (iZ (by intros; rfl)) fun _ F=>rM F B c_MOST_RUNGS (by decide) Dq1 Dq11
 have Dw10:=q_Stand_init.dk (P:=l.prog) (w:=w) (base:=base) (ps:=["self","green","gone","standing","coming"]) qw10 X G (fun _ F=>F.binds fun _ _ _ _ _ _ us hl=>by obtain⟨x0,x1,x2,x3,x4,rfl⟩:=Nz hl; rfl) fun _ F=>pN F S
 have Dw11:=q_Boon_init.dk (P:=l.prog) (w:=w) (base:=base) (ps:=["self"]) qw11 X G (fun _ F=>F.binds fun _ _ _ _ _ _ us hl=>by obtain⟨x0,rfl⟩:=Eb hl; rfl) fun _ F=>qw F T Dw10
 have D_Boon_go_on:=dm (ps:=["self","stand"]) q_Boon_go_on qw11 (fun _ F=>F.binds fun _ _ _ _ _ _ us hl=>by obtain⟨x0,x1,rfl⟩:=Kd hl; rfl) fun _ F=>oK F T
 have M_Boon_come:=dmx (ps:=["self"]) q_Boon_come qw11 (fun _ F=>F.binds fun _ _ _ _ _ _ us hl=>by obtain⟨x0,rfl⟩:=Eb hl; rfl) fun _ F=>oJ ne F B S T c_MOST_FOLK Dw10 D_Boon_go_on Xw8
 have E_check_there:=dx qq14 (bF (by intros; rfl)) fun _ F=>lU F B S Dq1 Xw2 Xw3
 have E_check_pledge:=dx qq17 (iZ (by intros; rfl)) fun _ F=>km (by decide) F B S Dq12 Xw1
 have M_Boon_pledge:=dmx (ps:=["self","one","pledge"]) q_Boon_pledge qw11 (fun _ F=>F.binds fun _ _ _ _ _ _ us hl=>by obtain⟨x0,x1,x2,rfl⟩:=Nm hl; rfl) fun _ F=>lM (x:=xa) (by decide) ne F B S T c_MOST_PLEDGES E_check_there E_check_pledge Dw10 D_Boon_go_on Xw8
 have M_Boon_leave:=dmx (ps:=["self","one"]) q_Boon_leave qw11 (fun _ F=>F.binds fun _ _ _ _ _ _ us hl=>by obtain⟨x0,x1,rfl⟩:=Kd hl; rfl) fun _ F=>mH (x:=xa) ne F B S T E_check_there Dw10 D_Boon_go_on
 have Dq15:=dd qq15 (iZ (by intros; rfl)) fun _ F=>yM F B Dq13
 have E_handed_in:=dx qq19 (bF (by intros; rfl)) fun _ F=>oR (x:=xa) (by decide) F B S c_MOST_STEP E_check_there Dq1 Dq15 Dw10 Xw7 Xw6
 have M_Boon_hand:=dmx (ps:=["self","rises"]) q_Boon_hand qw11 (fun _ F=>F.binds fun _ _ _ _ _ _ us hl=>by obtain⟨x0,x1,rfl⟩:=Kd hl; rfl) fun _ F=>(oU (x:=xa) (by decide) ne F B T E_handed_in D_Boon_go_on).mono (show 12<=14 by decide)
 have Dq20:=dd qq20 (bind1 (by intros; rfl)) fun _ F=>Hn F B S T
 have Dq22:=dd qq22 (bind1 (by intros; rfl)) fun _ F=>Fj F B S T
 have Dq21:=dd qq21 (bind1 (by intros; rfl)) fun _ F=>pJ F B S T Dq20
 have Dq23:=dd qq23 (bind1 (by intros; rfl)) fun _ F=>vz F B S T
 have Dq24:=dd qq24 (bind1 (by intros; rfl)) fun _ F=>zQ F B S T
 have Dq34:=dd qq34 (bF (by intros; rfl)) fun _ F=>oV F B
 have Dq33:=dd qq33 (bF (by intros; rfl)) fun _ F=>qL F B
 have Dq35:=dd qq35 (iZ (by intros; rfl)) fun _ F=>vI F B N4
 have Dq37:=dd qq37 (bF (by intros; rfl)) fun _ F=>sO F B
 have Dq38:=dd qq38 (bF (by intros; rfl)) fun _ F=>iI (by decide) F B Dq34 Dq37 Dq33 Dq32
 have Dq40:=dd qq40 (bF (by intros; rfl)) fun _ F=>oM (by decide) F B Dq34 Dq35 Dq38
 have Dq42:=dd qq42 (bF (by intros; rfl)) fun _ F=>uA F B
 have Dq41:=dd qq41 (bF (by intros; rfl)) fun _ F=>ux F B c_dict Dq37
 have Dq43:=dx qq43 (bF (by intros; rfl)) fun _ F=>zF (x:=xa) (by decide) F B M_Boon_come M_Boon_leave M_Boon_pledge M_Boon_hand
 have Dq28:=dd qq28 (bF (by intros; rfl)) fun _ F=>qi F B Dq20 Dq21 Dq22 Dq23 Dq24 S14
 have Dq48:=dd qq48 (bF (by intros; rfl)) fun _ F=>tR F B Dq25
 obtain⟨_,Fq27⟩:=qq27.fn
 have mq27:=qq27.name X G
 exact K5 Fq49 B HP mw0 RX Fq27 mq27 Dw11 Dq48 Dq40 Dq42 Dq43 Dq41 Dq28 S3
theorem walk {l:W.OpenLaw} {q:O9} {loose:List Px} {XP:(Px->Option Value)->Qo->Prop} {YP:Qd->Qo->Prop} {d:DefRec} {K:Params->Py} (hn:l.most=some 63) (hdf:d.params.defaults=[])
  (hY:∀ (w:Qd) (h:Qo),YP w h->(K w.params).In h/\h.get? 644=some (W.tabObj #[])) (hno:∀ w:Qd,W.noTabs (K w.params)=true)
  (F:∀ (w:Qd) (mg:Px->Option Value) (fa:Addr) (h:Qo),(K w.params).In h->h.Ns O8 mg->mg d.name=some (.ref fa)->∃ (fd:Qw) (c:Addr),W.codeHdIn (K w.params) c 644=true/\(∀ (s:Ov) (u:Value),VL s fd ⟨[u],[]⟩ [("_law_script",u)]) ∧
   ∀ base:Qo,(K w.params).In base->base.Ns O8 mg->yo mg c 644 base->bK l.prog w (K w.params) mg base CX0 19 fa fd ["_law_script"] (FN (K w.params) 644)) :
  W.WalkO q loose XP YP l.row.toRowW d [] (fun f vs=>PySem.call f vs) :=
 L2.Ey (n:=63) (k:=19) (x:="_law_script") (q:=Jo) (T:=644) (sp:=fun w=>FN (K w.params) 644) hn (by decide) hdf ⟨rfl,by decide,by decide⟩ hY hno F fun _ _ a ns hl hT hS=>⟨a,ns,rfl,hS,hl,hT,fun _=>rfl⟩
end My
end
open PySem PySem.W PyProof.Rows
namespace PySem.Challenge.cw_loveboon_k33_folk_come_and_leave_holds
theorem tw6688132340928132502:True:=trivial
theorem tw14637093647455063424:True:=trivial
theorem tw220466195184627856:True:=trivial
theorem tw10722950379949109396:True:=trivial
theorem tw7354241411833186192:True:=trivial
theorem tw6819083402475622096:True:=trivial
theorem tw4817007243359104238:True:=trivial
theorem tw14973741742348512019:True:=trivial
theorem tw15355388373400551761:True:=trivial
theorem tw2512155835258499202:True:=trivial
theorem tw13538568374899890517:True:=trivial
theorem tw4961131205041468717:True:=trivial
theorem tw3391960277407052425:True:=trivial
theorem tw15043967095489807792:True:=trivial
theorem tw8307263487812898679:True:=trivial
theorem tw7829960597447519170:True:=trivial
theorem tw430800290008270018:True:=trivial
theorem tw898454627618151147:True:=trivial
theorem tw13479061697213086017:True:=trivial
theorem tw8565270346457154520:True:=trivial
theorem tw17120694916382933506:True:=trivial
theorem tw9550487797780082158:True:=trivial
theorem tw11900273399475381470:True:=trivial
theorem tw16603606098906626086:True:=trivial
theorem tw13909436829902645227:True:=trivial
theorem tw12958865706970460891:True:=trivial
theorem tw10687571728099323913:True:=trivial
theorem tw1009596244173473245:True:=trivial
theorem tw13855173655988516349:True:=trivial
theorem tw17789725251168187943:True:=trivial
theorem tw11219840502292662574:True:=trivial
theorem tw13890868387404600139:True:=trivial
theorem tw18430955147825474557:True:=trivial
theorem tw15110467136076513388:True:=trivial
theorem tw6503186215947518002:True:=trivial
theorem tw8843864557381546403:True:=trivial
theorem tw4858788019017651073:True:=trivial
theorem tw5485419826960928266:True:=trivial
end PySem.Challenge.cw_loveboon_k33_folk_come_and_leave_holds
set_option maxRecDepth 100000 in
set_option maxHeartbeats 0 in
theorem PySem.Challenge.cw_loveboon_k33_folk_come_and_leave_holds : PySem.Challenge.rw_loveboon_k33_folk_come_and_leave.Holds := by
 w_on; o_law; k_head; (case hw=>w_witness2)
 k_fill
 refine My.walk (l:=PySem.Challenge.rw_loveboon_k33_folk_come_and_leave) rfl rfl (fun w h Y=>⟨W.km_in_of Y,W.km_tabs_of Y 644 (by simp)⟩) (fun w=>by kernel_rfl) ?F
 case F =>
  intro w mg fa h KX G hmg
  refine' My.all_mk KX G hmg ?qw0 ?xga ?xty ?xrd ?xfd ?qw1 ?mrw1 ?qw2 ?mrw2 ?qw3 ?mrw3 ?qw8 ?mrw8 ?qw7 ?mrw7 ?qw6 ?mrw6 ?qw10 ?n_Stand_green ?n_Stand_gone ?n_Stand_standing ?n_Stand_coming ?q_Stand_init ?qw11 ?n_Boon_now ?n_Boon_behind ?n_Boon_ahead ?q_Boon_init ?q_Boon_go_on ?q_Boon_come ?q_Boon_leave ?q_Boon_pledge ?q_Boon_hand ?ne_Boonw10 ?qq1 ?qq2 ?qq3 ?qq4 ?qq5 ?qq6 ?qq7 ?qq8 ?qq9 ?qq10 ?qq11 ?qq12 ?qq13 ?qq14 ?qq15 ?qq17 ?qq19 ?qq20 ?qq21 ?qq22 ?qq23 ?qq24 ?qq25 ?qq26 ?qq27 ?qq28 ?qq29 ?qq30 ?qq31 ?qq32 ?qq33 ?qq34 ?qq35 ?qq37 ?qq38 ?qq40 ?qq41 ?qq42 ?qq43 ?qq48 ?qq49 ?v_MOST_FOLK ?v_MOST_STEP ?v_MOST_SUM ?v_MOST_DEPTH ?v_FEWEST_PARTS ?v_MOST_PARTS ?v_MOST_RUNGS ?v_MOST_PLEDGES ?z_len ?z_range ?z_all ?z_isinstance ?z_int ?z_bool ?z_str ?z_list ?z_tuple ?z_abs ?z_max ?z_min ?z_sum ?z_sorted ?z_zip ?z_reversed ?z_divmod ?z_set ?z_any ?z_enumerate ?z_ValueError ?z_dict
  (case qw0=>apply L2.dB.mk <;> first | exact⟨rfl,rfl,rfl,rfl⟩ | k_is | rfl)
  (case xga|xty|xrd|xfd=>k_is)
  (case qw1=>apply L2.dB.mk <;> first | exact⟨rfl,rfl,rfl,rfl⟩ | k_is | rfl)
  (case mrw1=>rfl)
  (case qw2=>apply L2.dB.mk <;> first | exact⟨rfl,rfl,rfl,rfl⟩ | k_is | rfl)
  (case mrw2=>rfl)
  (case qw3=>apply L2.dB.mk <;> first | exact⟨rfl,rfl,rfl,rfl⟩ | k_is | rfl)
  (case mrw3=>rfl)
  (case qw8=>apply L2.dB.mk <;> first | exact⟨rfl,rfl,rfl,rfl⟩ | k_is | rfl)
  (case mrw8=>rfl)
  (case qw7=>apply L2.dB.mk <;> first | exact⟨rfl,rfl,rfl,rfl⟩ | k_is | rfl)
  (case mrw7=>rfl)
  (case qw6=>apply L2.dB.mk <;> first | exact⟨rfl,rfl,rfl,rfl⟩ | k_is | rfl)
  (case mrw6=>rfl)
  (case qw10=>apply L2.gD.mk <;> k_is)
  (case n_Stand_green|n_Stand_gone|n_Stand_standing|n_Stand_coming=>k_is)
  (case q_Stand_init=>apply L2.cF.mk <;> k_is)
  (case qw11=>apply L2.gD.mk <;> k_is)
  (case n_Boon_now|n_Boon_behind|n_Boon_ahead=>k_is)
  (case q_Boon_init|q_Boon_go_on|q_Boon_come|q_Boon_leave|q_Boon_pledge|q_Boon_hand=>apply L2.cF.mk <;> k_is)
  (case ne_Boonw10=>decide)
  (case qq1|qq2|qq3|qq4|qq5|qq6|qq7|qq8|qq9|qq10|qq11|qq12|qq13|qq14|qq15|qq17|qq19|qq20|qq21|qq22|qq23|qq24|qq25|qq26|qq27|qq28|qq29|qq30|qq31|qq32|qq33|qq34|qq35|qq37|qq38|qq40|qq41|qq42|qq43|qq48=>apply L2.HasDef.mk <;> k_is)
  (case qq49=>apply L2.gq.mk <;> first | k_is | kernel_rfl)
  (case v_MOST_FOLK|v_MOST_STEP|v_MOST_SUM|v_MOST_DEPTH|v_FEWEST_PARTS|v_MOST_PARTS|v_MOST_RUNGS|v_MOST_PLEDGES|z_len|z_range|z_all|z_isinstance|z_int|z_bool|z_str|z_list|z_tuple|z_abs|z_max|z_min|z_sum|z_sorted|z_zip|z_reversed|z_divmod|z_set|z_any|z_enumerate|z_ValueError|z_dict=>k_is)
