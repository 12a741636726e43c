import PyProof.Rows.All
import Wide.All
import OpenK.AllK
import Wide.FinOn
import Lean
import PyProof.EqAt
import PyProof.EqKinds
import PyProof.TupleCall
import PyProof.NeKinds
import PySem.Challenge.RW_loveboon_k57_whole_gifts_stay_when_folk
noncomputable section
open Array renaming getElem?_eq_getElem→QD,length_toList→Ra,getElem?_toList→R4,getD_eq_getD_getElem?→Th,getElem?_eq_none→Uk
open Bool renaming false_ne_true→Qk,and_eq_true→Rn,true_and→Vb,or_eq_true→Vf,false_and→Vn,eq_iff_iff→VD,false_or→Xj
open False renaming elim→Tq
open ForInStep renaming yield→Ve
open Int renaming emod_lt_of_pos→QT,emod_nonneg→Q6,toNat_natCast→Q8,le_refl→RB,zero_add→RV,eq_ofNat_of_zero_le→Uc,le_trans→Vm
open List renaming length_map→Qc,getD_eq_getElem?_getD→Qf,getElem?_eq_getElem→Qg,mem_cons_self→Qi,map_append→Qj,mem_cons_of_mem→Qm,take_length→Qq,length_cons→Qu,length_take→Qv,length_append→Qx,size_toArray→Qz,mem_append_right→QB,mem_of_getElem?→QC,getElem?_map→QH,replicate→QM,take_add_one→QR,lookup_cons→Q9,foldl_cons→Ri,range→Rk,length_range→Ro,take_zero→Rp,length_replicate→Rt,getElem?_eq_none→Ru,length_filter_le→RK,append_nil→RL,map_cons→RZ,mem_cons→Sq,pairwise_cons→Sw,getElem?_append_right→SX,getElem_mem→S8,sum→Te,filter_append→Tp,drop_eq_getElem_cons→Tu,take_succ_cons→TY,getElem?_range→T4,filter_cons_of_pos→Ua,filter_cons_of_neg→Ub,zipWith→Ui,mem_singleton→Uj,replicate_succ'→Uz,getElem?_set_ne→UG,not_mem_nil→U0,length_drop→U3,getElem?_append_left→U4,length_zipWith→U6,length_set→Vd,getElem?_replicate→Vh,getElem?_set_self→Vl,filter_cons→Vr,all_cons→Vu,lookup→Vx,getElem_toArray→Vy,eq_nil_of_length_eq_zero→Vz,getElem_of_mem→VG,filterMap_cons→VH,pairwise_map→V6,nodup_append→V7,foldl_append→V8,append_assoc→V9,sum_cons→Wc,any_cons→We,range_succ_eq_map→Wq,map_map→Wr,range_succ→Ww,take_append_drop→Wz,getElem?_toArray→WD,pairwise_append→WY,mem_append_left→W5,forIn_nil→W6,mem_map_of_mem→Xd,set_eq_take_append_cons_drop→Xp,all_map→XH,cons_append→X3,all_eq_true→X4,length→X8,getLast?_eq_some_getLast→Yb,of_mem_zip→Yj,mem_append→Yk,forIn_cons→Yl,dropLast_concat_getLast→Ym
open List.Pairwise renaming nil→XJ
open Nat renaming le_refl→Ql,lt_of_lt_of_le→Qs,ne_of_lt→QJ,le_trans→QL,zero_le→QW,lt_irrefl→RG,lt_succ_of_lt→RQ,lt_succ_self→R7,ne_of_gt→Sv,le_succ→S5,le_of_lt→Tg,succ_ne_zero→T9,not_lt_zero→Um,lt_of_le_of_lt→Vg,lt_trans→VM,lt_or_ge→Wn,lt_of_succ_lt_succ→Wo,le_of_not_lt→XX
open Ne renaming symm→Uh
open Option.some renaming inj→QZ
open Or renaming inl→Qw,inr→Wm
open PyProof.Rows renaming IntsAre→Rz,step_dedup→RP,callWith_type1→Sy,AllBare→Ws,seqObj→WL,envOfC→Xk,SortKind→Xy,slot_tuple_getitem→XN,callWith_builtin1→XS
open PyProof.Rows.F renaming plain_set_update_loop→Wh
open PySem renaming wpAny_bind→Qa,Shared→Qe,wpAny_pure→Qh,wpAny→Qp,model→Qy,mainGlobals→QG,Program→QK,starEach→QS,wpAny_newObj_type→QV,World→Q3,Str→Q4,Around→Q5,bootBuiltins→Rb,mem_of_lookup→Rj,wpAny_call_entry→Rm,Heap→Rv,wpAny_callSpecial?_slot→Rx,wpAny_field→RJ,wpAny_mono→RM,codeAny→R5,wpAny_seqItems→R6,wpAny_holding→R9,rawInt→Sd,codeAny_builtin→Ss,wpAny_truthy_bool→SJ,wpAny_setField→SM,foldedSetIterable→SN,eval→S6,wpAny_Call_Name_kw→S7,wpAny_of_eq→Tc,compareOp→Tj,builtinLookup_eq_fast→Tr,pyNext→Tt,letOwnedTupleGo→Tv,Obj→Tz,FuncData→TF,plainId_quiet→TJ,backTo→TQ,Scope→TX,wpAny_askSetting→T5,isSubtype_type→T6,firstArgMember→T7,wpAny_setField_rec→Ue,wpAny_passesOwn→Ul,wpAny_standAt→Uo,wpAny_attempt→Up,behindInMarks→Uq,wpAny_setState_of→Ur,wpAny_pyIter_list→Us,Builtin→Uu,wpAny_rule→Uv,SetTable→Uy,wpAny_isInstance→UL,intKind→UT,IsPair→U7,wpAny_comprehension_free→U8,compPost→U9,typeLookup_type→Vc,codeAny_mono→Vi,binaryOp→Vj,pickOrder→Vo,assignEach→Vp,wpAny_letGo→Vv,sliceBounds→Vw,wpAny_updateSeq→VB,wpAny_setEntries_of→VF,standAt→VJ,holding→VL,wpAny_tryCatch→VP,newFunctionEnv→VR,compEnvC→VV,NameKind→V2,Pos→V5,argsOk→Wa,seqItems?→Wf,codeAny_compStart_list→Wi,assign→Wj,wpAny_specialOf→Wt,wpAny_ite_false→Wu,wpAny_execs_nil→Wv,IsZip→Wx,wpAny_updateSeq_pair→WK,pyIter→WM,keywordEach→WN,isSubtype_stop→WQ,bindArgs→WR,Result→WW,getMethod→W7,cellsFrom→W8,BindsTo→Xb,wpAny_onRaise→Xf,wpAny_handled→Xg,signature?_of→Xh,attributeBase→Xi,wpAny_typeOf→Xq,wpAny_pyIter_slot→Xr,relayAll→Xu,callerA→Xv,Env→XM,noFill_tuple_add→XQ,newExc→XR,IsPart→X5,wpAny_throw→X7,wpAny_loadPart'→Yc,wpAny_ite_split→Yd,theTreesLotGoes→Ye,codeAny_of_tree→Yg,setNext→Yo,newList→Yp
open PySem.Around renaming under_plainId→Sx
open PySem.Builtin.Builtins renaming bindParams→VN
open PySem.Builtin.List renaming listExtendWith→Ut,listLengthHint→Ys
open PySem.Builtin.Slice renaming slicePlaces→U5,sliceAdjust→V3
open PySem.Builtin.SmallTypes renaming nextOf→RT,ownedTupleIsFree→Ti,ownedTupleHandOut→Xe,newClass→Yr
open PySem.Builtin.Tuple renaming tupleExact→Va
open PySem.F renaming type_list_append→RC,slot_list_append→RD,plainAttrs_list→RN,plain_max_loop→Ud,slot_tuple_iterator_next→UJ,args_tuple_add_2→Wb,entry_tuple_add→Wg,slot_tuple_add→Wl,slot_zip_next→Wy,entry_max_loop→X6,args_tuple_iterator_next_1→Yn,entry_tuple_iterator_next→Yq
open PySem.Heap renaming get?_push_of_some→Qd,get?_push_size→Qn,lt_size→Qt,get?_update_other→Q0,get?_update_self→Q7,size_push→Rf,SameBut→S9
open PySem.Heap.SameBut renaming update→Ry
open PySem.NameKind renaming free→Sh,cell→Vt
open PySem.Obj renaming mapSeq→Ug,mapFields→Vs,putSet→Xo
open PySem.PassesOwn renaming never→QX
open PySem.SeqAt.EqAt renaming int_int→Xm
open PySem.SetTable renaming below→RX,grown→Ux
open PySem.SetTable.below renaming go→Vk
open PySem.SetTable.probe renaming go→Xz
open PySem.Str renaming ofString→Tf
open PySem.Value renaming ref→Rh,none→R8,type→TV,int→T8,bool→Wk
open PySem.W renaming Frag→Qo,Frag→QF,mg_none_of→Rr,findIn→Sg,kia_one→Su,emptyDict→SQ,nsIn→Td,keepIn→Tn,instObj→Tw,kitOne→Uw,fnOf→UW,plainGet→Vq,codeIn→V1,hasDictIn→V4,findIn→WT,lookIn→WX,mg_of→Xa,plainGet_of→Xc,callWith_K→Xn,plainOver→XC,methodObj→XD,isFn→XF,takerIn→Yh,makesIn→Yi
open PySem.Walks renaming list→Xl
open Sum renaming inr→Xw,inl→Xx
open True renaming intro→V0
set_option Elab.async false
set_option linter.all false
set_option maxRecDepth 100000
namespace L2
open PySem PySem.Spec PyProof.Rows
abbrev Key:=Sum Int Q4
def Ms:Key->Value->Bool
 | .inl k,v=>Value.isInt k v
 | .inr x,v=>Value.isStrOf x v
def Pu (w:Q3):Key->Int
 | .inl k=>hashInt k
 | .inr x=>hashStr w x
theorem cJ:∀ {k:Key} {v:Value},Ms k v=true->(∃ i t,k=Xx i/\v=T8 i t)∨(∃ x t,k=Xw x/\v=Value.str x t)
 | .inl i,v,h=>by
  obtain⟨t,e⟩:=Value.isInt_shape (k:=i) (v:=v) h
  exact .inl ⟨i,t,rfl,e⟩
 | .inr x,v,h=>by
  obtain⟨t,e⟩:=Value.isStrOf_shape (x:=x) (v:=v) h
  exact .inr ⟨x,t,rfl,e⟩
theorem Ld (a b:Int):decide ((Xx a:Key)=Xx b)=(a == b):=by
 by_cases e:a=b
 ·subst e; simp
 ·have h:¬ (Xx a:Key)=Xx b:=fun q=>e (Sum.inl.inj q)
  rw[decide_eq_false h]
  exact (beq_eq_false_iff_ne.mpr e).symm
theorem Lx (a b:Q4):decide ((Xw a:Key)=Xw b)=decide (a=b):=by
 by_cases e:a=b
 ·subst e; simp
 ·have h:¬ (Xw a:Key)=Xw b:=fun q=>e (Sum.inr.inj q)
  rw[decide_eq_false h,decide_eq_false e]
theorem K8 (a:Int) (b:Q4):decide ((Xx a:Key)=Xw b)=false:=decide_eq_false (fun q=>nomatch q)
theorem LK (a:Q4) (b:Int):decide ((Xw a:Key)=Xx b)=false:=decide_eq_false (fun q=>nomatch q)
def Ey (prog:QK) (w:Q3):PySem.KeyKind prog w Key where
 is:=Ms
 hash:=Pu w
 inj:=fun v a b ha hb=>by
  rcases cJ ha with⟨i,t,rfl,rfl⟩ | ⟨x,t,rfl,rfl⟩
  ·rcases cJ hb with⟨j,u,rfl,e⟩ | ⟨y,u,rfl,e⟩
   ·injection e with e1 _; rw[e1]
   ·exact nomatch e
  ·rcases cJ hb with⟨j,u,rfl,e⟩ | ⟨y,u,rfl,e⟩
   ·exact nomatch e
   ·injection e with e1 _; rw[e1]
 byValue:=fun k v h=>by
  rcases cJ h with⟨i,t,rfl,rfl⟩ | ⟨x,t,rfl,rfl⟩ <;> rfl
 pyHash:=fun hv h=>by
  rcases cJ hv with⟨i,t,rfl,rfl⟩ | ⟨x,t,rfl,rfl⟩
  ·exact wpAny_pyHash_int h
  ·exact wpAny_pyHash_str h
 eqBool:=fun hu hv h=>by
  rcases cJ hu with⟨i,t,rfl,rfl⟩ | ⟨x,t,rfl,rfl⟩
  ·rcases cJ hv with⟨j,u,rfl,rfl⟩ | ⟨y,u,rfl,rfl⟩
   ·rw[Ld] at h; exact wpAny_eqBool_int h
   ·rw[K8] at h; exact SeqAt.EqAt.int_str i t y u _ _ _ _ h
  ·rcases cJ hv with⟨j,u,rfl,rfl⟩ | ⟨y,u,rfl,rfl⟩
   ·rw[LK] at h; exact SeqAt.EqAt.str_int x t j u _ _ _ _ h
   ·rw[Lx] at h; exact wpAny_eqBool_str h
 «strs»:=fun k x t v h=>by
  rcases cJ h with⟨i,u,rfl,e⟩ | ⟨y,u,rfl,e⟩
  ·exact nomatch e
  ·injection e with e1 _
   subst e1
   cases v <;> rfl
end L2
namespace L2
open PySem PySem.Spec PyProof.Rows
inductive V where
 | non | bl (b:Bool) | int (i:Int) | str (x:Q4) | byt (b:Array UInt8) | flt (b:UInt64) | ref (a:Addr) | ty (n:String)
 deriving DecidableEq
def RelV:V->Value->Prop
 | .non,u=>u=R8
 | .bl b,u=>u=Wk b
 | .int i,u=>∃ t,u=T8 i t
 | .str x,u=>∃ t,u=Value.str x t
 | .byt b,u=>∃ t,u=Value.bytes b t
 | .flt b,u=>∃ t,u=Value.float b t
 | .ref a,u=>u=Rh a
 | .ty n,u=>u=TV n
abbrev Vals:List V->List Value->Prop:=Paired RelV
theorem Vals.length {xs:List V} {us:List Value} (r:Vals xs us):xs.length=us.length:=Paired.length r
theorem Vals.get:∀ {xs:List V} {us:List Value} {i:Nat} {x:V},Vals xs us->xs[i]? = some x->∃ u,us[i]? = some u/\RelV x u
 | _,_,_,_,.nil,e=>by simp at e
 | _,_,0,_,.cons r _,e=>by simp at e; subst e; exact⟨_,rfl,r⟩
 | _,_,i+1,x,.cons _ t,e=>by
  obtain⟨u,h1,h2⟩:=Vals.get (i:=i) (x:=x) t (by simpa using e)
  exact⟨u,by simpa using h1,h2⟩
theorem Vals.set {x:V} {u:Value} (r:RelV x u):∀ {xs:List V} {us:List Value} (i:Nat),Vals xs us->Vals (xs.set i x) (us.set i u)
 | _,_,_,.nil=>.nil
 | _,_,0,.cons _ t=>.cons r t
 | _,_,i+1,.cons q t=>.cons q (Vals.set r i t)
theorem Vals.append:∀ {xs ys:List V} {us ws:List Value},Vals xs us->Vals ys ws->Vals (xs++ys) (us++ws)
 | _,_,_,_,.nil,s=>s
 | _,_,_,_,.cons r t,s=>.cons r (Vals.append t s)
theorem Vals.take:∀ {xs:List V} {us:List Value} (n:Nat),Vals xs us->Vals (xs.take n) (us.take n)
 | _,_,0,_=>.nil
 | _,_,_+1,.nil=>.nil
 | _,_,n+1,.cons r t=>.cons r (Vals.take n t)
theorem Vals.drop:∀ {xs:List V} {us:List Value} (n:Nat),Vals xs us->Vals (xs.drop n) (us.drop n)
 | _,_,0,r=>r
 | _,_,_+1,.nil=>.nil
 | _,_,n+1,.cons _ t=>Vals.drop n t
def Ff:Option V->Option Value->Prop
 | some v,some u=>RelV v u
 | none,none=>True
 | _,_=>False
def KV {κ:Type}:List (κ × V)->List (κ × Value)->Prop:=Paired fun (p:κ × V) (q:κ × Value)=>p.1=q.1/\RelV p.2 q.2
def kV:Key->V
 | .inl i=>.int i
 | .inr x=>.str x
inductive HO where
 /-- a list -/
 | lst (xs:List V)
 /-- a tuple (never changes) -/
 | tup (xs:List V)
 /-- a dict whose keys are ints and texts; one whose keys are tuples of ints and texts (the empty one is both) -/
 | dK (kvs:List (Key × V)) | dT (kvs:List (List Key × V))
 /-- a set of ints: its members,its size -/
 | set (S:Int->Bool) (n:Nat)
 /-- an instance of the class at C,its dict at dx,its attributes -/
 | ins (C dx:Addr) (fs:List (Q4 × V))
 /-- the dict of the instance at x -/
 | own (x:Addr)
 /-- the dict of an exception -/
 | xd (fs:List (Q4 × V))
 /-- a bound method,f of x -/
 | met (f x:Addr)
 /-- a range object lo,lo+1,.. below hi -/
 | rng (lo hi:Int)
 /-- a thing that is known to the object (the script; a dict while a loop walks it): read,never written while it is so -/
 | frz (o:Tz) (u:HO)
 /-- a code object's table -/
 | tbl (ps:Array Value)
 /-- any other thing,by what is true of its one object (a def of one's own: SetO a S n:=HO.ext fun h=>..) -/
 | ext (φ:Rv->Prop)
abbrev Hp:=Addr->Option HO
def upd (H:Hp) (a:Addr) (o:HO):Hp:=fun b=>if b=a then some o else H b
theorem ao {H:Hp} {a:Addr} {o:HO}:upd H a o a=some o:=by unfold upd; rw[if_pos rfl]
theorem bx {H:Hp} {a b:Addr} {o:HO} (h:b≠a):upd H a o b=H b:=by unfold upd; rw[if_neg h]
theorem oO {H:Hp} {a:Addr} {o u:HO}:upd (upd H a o) a u=upd H a u:=by
 funext b; unfold upd; split <;> rfl
theorem dD {H:Hp} {a b:Addr} {o:HO} (h:H a=some o) (h':H b=none):a≠b:=by
 intro e; subst e; rw[h] at h'; cases h'
section
variable (P:QK) (w:Q3)
def fQ (H:Hp) (h:Rv) (a:Addr):HO->Prop
 | .lst xs=>xs.length<=sizeLine/\∃ (its:List Value) (n:Nat),Vals xs its/\h.get? a=some { cls:=.type "list",data:=.seq its.toArray n }
 | .tup xs=>xs.length<=sizeLine/\∃ its:List Value,Vals xs its/\IsTup h a its.toArray
 | .dK kvs=>kvs.length<=sizeLine/\(a == sysModules)=false/\∃ vs,KV kvs vs/\h.DictOf (Ey P w) a vs
 | .dT kvs=>kvs.length<=sizeLine/\(a == sysModules)=false/\∃ xs:List (List Key × Addr × Value),
   Paired (fun (p:List Key × V) (q:List Key × Addr × Value)=>p.1=q.1/\H q.2.1=some (.tup (p.1.map kV))/\RelV p.2 q.2.2) kvs xs ∧
   ∃ o es ep,h.get? a=some o/\o.ExactDict/\o.data = .dict es ep/\es.toList=xs.map (entryOfKey (tupleKind (Ey P w)))/\(xs.map (·.1)).Nodup
 | .set S n=>h.SetOf (UT P w) a S n
 | .ins C dx fs=>H dx=some (.own a)/\fs.length<=1000/\dx≠a/\h.get? a=some (Tw C dx) ∧
   ∃ mA,h.Ns1 dx mA/\(∀ f,Ff (fs.lookup f) (mA f))/\PySem.Within mA (fs.map (·.1))
 | .own _=>∃ o,h.get? a=some o
 | .xd fs=>∃ mA,h.Ns1 a mA/\∀ f,Ff (fs.lookup f) (mA f)
 | .rng lo hi=>∃ t u v,h.get? a=some { cls:=.type "range",data:=.fields #[.int lo t,.int hi u,.int 1 v] }
 | .frz o u=>h.get? a=some o/\fQ H h a u
 | .tbl ps=>h.get? a=some { cls:=.none,data:=.fields ps }
 | .met f x=>h.get? a=some (XD (.ref f) (.ref x))
 | .ext φ=>φ h/\(∃ o,h.get? a=some o)/\∀ h1 h2:Rv,φ h1->(∀ o,h1.get? a=some o->h2.get? a=some o)->φ h2
def HOk (H:Hp) (h:Rv):Prop:=∀ a o,H a=some o->fQ P w H h a o
end
section
variable {P:QK} {w:Q3} {H H':Hp} {h h':Rv} {a:Addr} {o:HO}
theorem fQ.lt (x:fQ P w H h a o):a < h.objs.size:=by
 cases o with
 | lst xs=>obtain⟨_,_,_,_,e⟩:=x; exact Qt e
 | tup xs=>obtain⟨_,_,_,p⟩:=x; exact p.lt
 | dK kvs=>obtain⟨_,_,_,_,o,_,_,e,_⟩:=x; exact Qt e
 | dT kvs=>obtain⟨_,_,_,_,o,_,_,e,_⟩:=x; exact Qt e
 | set S n=>obtain⟨o,_,_,_,e,_⟩:=x; exact Qt e
 | ins C dx fs=>obtain⟨_,_,_,e,_⟩:=x; exact Qt e
 | own y=>obtain⟨_,e⟩:=x; exact Qt e
 | xd fs=>obtain⟨_,⟨_,_,_,e,_⟩,_⟩:=x; exact Qt e
 | rng lo hi=>obtain⟨_,_,_,e⟩:=x; exact Qt e
 | frz ob u=>obtain⟨e,_⟩:=x; exact Qt e
 | tbl ps=>exact Qt (show h.get? a=some _ from x)
 | met f y=>exact Qt (show h.get? a=some _ from x)
 | ext φ=>obtain⟨_,⟨_,e⟩,_⟩:=x; exact Qt e
theorem Paired.OJ {α β:Type} {F G:α->β->Prop}:∀ {l₁:List α} {l₂:List β},Paired F l₁ l₂->(∀ a b,F a b->G a b)->Paired G l₁ l₂
 | _,_,.nil,_=>.nil
 | _,_,.cons r t,f=>.cons (f _ _ r) (Paired.OJ t f)
theorem fQ.stay (x:fQ P w H h a o) (k:∀ b u,(b=a∨H b=some (.own a))->h.get? b=some u->h'.get? b=some u)
  (ho:∀ b,H b=some (.own a)->H' b=some (.own a)) (ht:∀ b xs,H b=some (.tup xs)->H' b=some (.tup xs)):fQ P w H' h' a o:=by
 induction o with
 | lst xs=>obtain⟨z,its,n,r,e⟩:=x; exact⟨z,its,n,r,k _ _ (.inl rfl) e⟩
 | tup xs=>obtain⟨z,its,r,ob,e,c⟩:=x; exact⟨z,its,r,ob,k _ _ (.inl rfl) e,c⟩
 | dK kvs=>obtain⟨z,y,vs,r,ob,es,ep,e,c⟩:=x; exact⟨z,y,vs,r,ob,es,ep,k _ _ (.inl rfl) e,c⟩
 | dT kvs =>
  obtain⟨z,y,xs,r,ob,es,ep,e,c⟩:=x
  exact⟨z,y,xs,Paired.OJ r fun p q z=>⟨z.1,ht _ _ z.2.1,z.2.2⟩,ob,es,ep,k _ _ (.inl rfl) e,c⟩
 | set S n=>obtain⟨ob,es,ep,t,e,c⟩:=x; exact⟨ob,es,ep,t,k _ _ (.inl rfl) e,c⟩
 | ins C dx fs =>
  obtain⟨d,z,ne,e,mA,⟨od,es,ep,e2,c⟩,r⟩:=x
  exact⟨ho _ d,z,ne,k _ _ (.inl rfl) e,mA,⟨od,es,ep,k _ _ (.inr d) e2,c⟩,r⟩
 | own y=>obtain⟨ob,e⟩:=x; exact⟨ob,k _ _ (.inl rfl) e⟩
 | xd fs=>obtain⟨mA,⟨od,es,ep,e,c⟩,r⟩:=x; exact⟨mA,⟨od,es,ep,k _ _ (.inl rfl) e,c⟩,r⟩
 | rng lo hi=>obtain⟨t,u,v,e⟩:=x; exact⟨t,u,v,k _ _ (.inl rfl) e⟩
 | frz ob u ih=>obtain⟨e,q⟩:=x; exact⟨k _ _ (.inl rfl) e,ih q⟩
 | tbl ps =>
  have e:h.get? a=some { cls:=.none,data:=.fields ps }:=x
  show h'.get? a=some { cls:=.none,data:=.fields ps }
  exact k a _ (.inl rfl) e
 | met f y =>
  have e:h.get? a=some (XD (.ref f) (.ref y)):=x
  show h'.get? a=some (XD (.ref f) (.ref y))
  exact k a _ (.inl rfl) e
 | ext φ=>obtain⟨p,⟨o,e⟩,st⟩:=x; exact⟨st _ _ p fun o q=>k _ _ (.inl rfl) q,⟨o,k _ _ (.inl rfl) e⟩,st⟩
theorem HOk.lt (x:HOk P w H h) (e:H a=some o):a < h.objs.size:=(x a o e).lt
theorem HOk.fresh (x:HOk P w H h) (e:h.objs.size<=a):H a=none:=by
 cases q:H a with
 | none=>rfl
 | some u=>exact absurd (Qs (x.lt q) e) (RG _)
theorem HOk.kept (x:HOk P w H h) (k:∀ b u,h.get? b=some u->h'.get? b=some u):HOk P w H h':=fun a o e =>
 (x a o e).stay (fun b u _ q=>k b u q) (fun _ q=>q) fun _ _ q=>q
theorem HOk.laid (x:HOk P w H h) (k:∀ b u,h.get? b=some u->h'.get? b=some u) (hp:h.objs.size<=a) (new:fQ P w (upd H a o) h' a o):HOk P w (upd H a o) h':=fun b u e=>by
 have hn:=x.fresh hp
 by_cases hb:b=a
 ·subst hb; rw[ao] at e; cases e; exact new
 ·rw[bx hb] at e
  exact (x b u e).stay (fun c v _ q=>k c v q) (fun c q=>by rw[bx (dD q hn)]; exact q) fun c xs q=>by rw[bx (dD q hn)]; exact q
end
def Rd (H:Hp) (a:Addr) (u:HO):Prop:=H a=some u∨∃ o,H a=some (.frz o u)
theorem Rd.ok {P:QK} {w:Q3} {H:Hp} {h:Rv} {a:Addr} {u:HO} (r:Rd H a u) (x:HOk P w H h):fQ P w H h a u:=by
 rcases r with r | ⟨o,r⟩
 ·exact x a u r
 ·obtain⟨_,q⟩:=x a _ r
  exact q
def Mut:Option HO->Prop
 | some (.lst _)=>True
 | some (.dK _)=>True
 | some (.dT _)=>True
 | some (.set _ _)=>True
 | some (.ins _ _ _)=>True
 | some (.ext _)=>True
 | _=>False
section
variable {P:QK} {w:Q3} {H:Hp} {h h':Rv} {x e:Addr} {o':HO}
theorem HOk.write (ok:HOk P w H h) (mu:Mut (H x)) (he:e=x∨H e=some (.own x)) (k:∀ b u,b≠e->h.get? b=some u->h'.get? b=some u) (heo:∃ u,h'.get? e=some u)
  (new:fQ P w (upd H x o') h' x o'):HOk P w (upd H x o') h':=fun b u q=>by
 have nown:∀ c y,H c=some (.own y)->c≠x:=fun c y r z=>by subst z; rw[r] at mu; exact mu
 have ntup:∀ c xs,H c=some (.tup xs)->c≠x:=fun c xs r z=>by subst z; rw[r] at mu; exact mu
 by_cases hb:b=x
 ·subst hb; rw[ao] at q; cases q; exact new
 ·rw[bx hb] at q
  by_cases hbe:b=e
  ·have q':H b=some (.own x):=by
    rcases he with z | z
    ·exact absurd (hbe.trans z) hb
    ·rw[hbe]; exact z
   rw[q] at q'; cases q'
   obtain⟨v,hv⟩:=heo
   exact⟨v,by rw[hbe]; exact hv⟩
  ·refine (ok b u q).stay (fun c v hc r=>k c v ?_ r) (fun c r=>by rw[bx (nown c b r)]; exact r) fun c xs r=>by rw[bx (ntup c xs r)]; exact r
   rcases hc with rfl | hc
   ·exact hbe
   ·rintro rfl
    rcases he with z | z
    ·exact nown c b hc z
    ·rw[hc] at z; cases z; exact hb rfl
end
structure Un (fs ex:List Addr) (H H':Hp) (h h':Rv):Prop where
 keep:∀ b o,h.get? b=some o->H b=none->b ∉ fs->b ∉ ex->h'.get? b=some o
 slot:∀ b o,h.get? b=some o->H b=none->b∈fs->b ∉ ex->∃ sl,h'.get? b=some { o with slots:=sl }
 free:∀ b o,h.get? b=some o->H b=none->b ∉ ex->H' b=none
 there:∀ b o,h.get? b=some o->b ∉ ex->∃ o',h'.get? b=some o'
 tups:∀ b xs,H b=some (.tup xs)->H' b=some (.tup xs)
 frzs:∀ b o u,H b=some (.frz o u)->H' b=some (.frz o u)
 tbls:∀ b ps,H b=some (.tbl ps)->∃ more,H' b=some (.tbl (ps++more))
section
variable {fs fs' ex ex':List Addr} {H H1 H2:Hp} {h h1 h2 h':Rv} {a x e:Addr} {o:HO}
theorem Un.any (u:Un fs ex H H1 h h1) {b:Addr} {ob:Tz} (q:h.get? b=some ob) (n:H b=none) (hx:b ∉ ex):∃ sl,h1.get? b=some { ob with slots:=sl }:=by
 by_cases hb:b∈fs
 ·exact u.slot b ob q n hb hx
 ·exact⟨ob.slots,u.keep b ob q n hb hx⟩
theorem Un.trans (a:Un fs ex H H1 h h1) (b:Un fs ex H1 H2 h1 h2):Un fs ex H H2 h h2 where
 keep:=fun c ob q n hc hx=>b.keep c ob (a.keep c ob q n hc hx) (a.free c ob q n hx) hc hx
 slot:=fun c ob q n hc hx=>by
  obtain⟨sl,e1⟩:=a.slot c ob q n hc hx
  obtain⟨sl',e2⟩:=b.slot c _ e1 (a.free c ob q n hx) hc hx
  exact⟨sl',e2⟩
 free:=fun c ob q n hx=>by
  obtain⟨o',e1⟩:=a.there c ob q hx
  exact b.free c o' e1 (a.free c ob q n hx) hx
 there:=fun c ob q hx=>by
  obtain⟨o',e1⟩:=a.there c ob q hx
  exact b.there c o' e1 hx
 tups:=fun c xs q=>b.tups c xs (a.tups c xs q)
 frzs:=fun c ob xs q=>b.frzs c ob xs (a.frzs c ob xs q)
 tbls:=fun c ps q=>by
  obtain⟨m1,e1⟩:=a.tbls c ps q
  obtain⟨m2,e2⟩:=b.tbls c _ e1
  exact⟨m1++m2,by rw[e2,Array.append_assoc]⟩
theorem Un.kept (k:∀ b u,h.get? b=some u->h'.get? b=some u):Un fs ex H H h h' :=
 ⟨fun b ob q _ _ _=>k b ob q,fun b ob q _ _ _=>⟨ob.slots,k b ob q⟩,fun _ _ _ n _=>n,fun b ob q _=>⟨ob,k b ob q⟩,fun _ _ q=>q,fun _ _ _ q=>q,fun _ ps q=>⟨#[],by rw[q]; simp⟩⟩
theorem Un.refl:Un fs ex H H h h:=Un.kept fun _ _ q=>q
theorem Un.laid (k:∀ b u,h.get? b=some u->h'.get? b=some u) (hp:h.objs.size<=a) (hn:H a=none):Un fs ex H (upd H a o) h h' where
 keep:=fun b u q _ _ _=>k b u q
 slot:=fun b u q _ _ _=>⟨u.slots,k b u q⟩
 free:=fun b u q n _=>by rw[bx (QJ (Qs (Qt q) hp))]; exact n
 there:=fun b u q _=>⟨u,k b u q⟩
 tups:=fun b xs q=>by rw[bx (dD q hn)]; exact q
 frzs:=fun b u xs q=>by rw[bx (dD q hn)]; exact q
 tbls:=fun b ps q=>⟨#[],by rw[bx (dD q hn),q]; simp⟩
theorem Un.write (mu:Mut (H x)) (he:e=x∨H e=some (.own x)) (k:∀ b u,b≠e->h.get? b=some u->h'.get? b=some u) (heo:∃ u,h'.get? e=some u):Un fs ex H (upd H x o) h h':=by
 have hx:∀ b,H b=none->b≠x:=fun b n z=>by subst z; rw[n] at mu; exact mu
 have hb:∀ b,H b=none->b≠e:=fun b n z=>by
  subst z
  rcases he with r | r
  ·exact hx b n r
  ·rw[n] at r; cases r
 have hm:∀ b u,H b=some u->¬ Mut (some u)->b≠x:=fun b u q nm z=>by subst z; rw[q] at mu; exact nm mu
 refine⟨fun b u q n _ _=>k b u (hb b n) q,fun b u q n _ _=>⟨u.slots,k b u (hb b n) q⟩,fun b u q n _=>by rw[bx (hx b n)]; exact n,fun b u q _=>?_,
  fun b xs q=>by rw[bx (hm b _ q fun z=>z)]; exact q,fun b u xs q=>by rw[bx (hm b _ q fun z=>z)]; exact q,fun b ps q=>⟨#[],by rw[bx (hm b _ q fun z=>z),q]; simp⟩⟩
 by_cases hbe:b=e
 ·subst hbe; exact heo
 ·exact⟨u,k b u hbe q⟩
end
def trk (h:Rv) (H:Hp):List Addr:=(Rk h.objs.size).filter fun a=>(H a).isSome
def FJ (h:Rv) (H:Hp):Rv:=PySem.W.hideAll h (trk h H)
theorem Eb (h:Rv) (H:Hp):(FJ h H).objs.size=h.objs.size:=PySem.W.hideAll_size _ _
theorem Fi {h:Rv} {H:Hp} {b:Addr} {o:Tz} (e:h.get? b=some o) (n:H b=none):(FJ h H).get? b=some o :=
 PySem.W.hideAll_get _ e fun hm=>by
  have q:(H b).isSome=true:=(List.mem_filter.mp hm).2
  rw[n] at q; simp at q
theorem Jo {h:Rv} {H:Hp} {b:Addr} {o:Tz} (e:(FJ h H).get? b=some o):h.get? b=some o/\H b=none:=by
 have e':h.get? b=some o:=PySem.W.of_hideAll (trk h H) e
 refine⟨e',?_⟩
 cases q:H b with
 | none=>rfl
 | some x =>
  have hm:b∈trk h H:=List.mem_filter.mpr ⟨List.mem_range.mpr (Qt e'),by simp [q]⟩
  have z:(FJ h H).get? b=none:=PySem.W.hideAll_none (trk h H) hm
  rw[z] at e; cases e
def Jj (g h:Rv) (L:Addr):List (Addr × Tz):=(Rk h.objs.size).filterMap fun a=>if a=L∨(g.get? a).isSome=true then none else (h.get? a).map fun o=>(a,o)
def rest (g h:Rv) (L d:Addr):List (Addr × Tz):=(Jj g h L).filter fun p=>decide (p.1≠d)
end L2
namespace L2
open PySem PySem.Spec PyProof.Rows
structure Mod (K:Qo) (mg:Q4->Option Value) (base:Rv):Prop where
 kin:K.In base
 glob:base.Ns QG mg
 blt:∃ mb,base.Ns builtinsNs mb/\∀ x:Q4,x≠"__name__"->mb x=Rb x
 nolimit:base.NoLimit
structure Cx where
 prog:QK
 w:Q3
 K:Qo
 mg:Q4->Option Value
 base:Rv
 A:Q5
 N:List Q4
 s₀:Qe
 H₀:Hp
 env:XM
 outer:List XM
 stack:List XM
 ex:List Addr
 fn:Q4->Bool
 calm:Bool
 pn:List (Addr × Tz)
 xe:Value->Qe->Prop
def frs (l:List XM):List Addr:=l.filterMap (·.frame)
abbrev Cx.fs (X:Cx):List Addr:=frs X.outer
def Vis (sc:TX) (x:Q4):Prop:=sc.names.lookup x=some .local∨sc.names.lookup x=some .cell∨sc.names.lookup x=some .free
def Loc (sc:TX) (x:Q4):Prop:=sc.names.lookup x=some .local∨sc.names.lookup x=some .cell
def Look (env:XM) (h:Rv) (m:Q4->Option Value) (x:Q4) (u:Value):Prop :=
 (env.kindOf x=some .local/\m x=some u)∨((env.kindOf x=some .cell∨env.kindOf x=some .free)/\∃ c,env.cells.lookup x=some c/\h.IsCell c (some u))
structure Cx.Ok (X:Cx):Prop where
 mod:Mod X.K X.mg X.base
 kind:X.env.scope.kind = .function
 glob:X.env.globals=QG
 blt:X.env.builtins=builtinsNs
 above:X.s₀.heap.objs.size<=X.env.locals
 inj:∀ x y c,X.env.cells.lookup x=some c->X.env.cells.lookup y=some c->x=y
 has:∀ x,(X.env.kindOf x=some .cell∨X.env.kindOf x=some .free)->∃ c,X.env.cells.lookup x=some c
 cab:∀ x c,X.fn x=true->X.env.cells.lookup x=some c->X.s₀.heap.objs.size<=c
 hd:X.calm=true->X.A.handled=none
 frames:X.A.frames=some X.stack
 stk:X.stack=X.outer∨(X.stack=X.env::X.outer/\X.env.frame=some X.env.locals)
 exf:∀ b∈X.ex,b≠X.env.locals/\∀ x c,X.env.cells.lookup x=some c->c≠b
 bs:∀ b o,X.base.get? b=some o->X.s₀.heap.get? b=some o/\X.H₀ b=none
 bsz:X.base.objs.size<=X.s₀.heap.objs.size
 noex:∀ b o,X.base.get? b=some o->b ∉ X.ex
 exfs:∀ b∈X.ex,b ∉ X.fs
 Ar:X.s₀.heap.FunFrames X.base X.outer
 frf:∀ b∈X.fs,X.H₀ b=none
structure Inv (X:Cx) (pins:List (Addr × Tz)) (σ:List (Option V)) (H:Hp) (s:Qe):Prop where
 ok:X.Ok
 os:s.os=X.s₀.os
 bare:Ws s.gens
 base:Un X.fs X.ex X.H₀ H X.s₀.heap s.heap
 loc:∃ m,s.heap.Ns X.env.locals m/\∀ (i:Nat) (x:Q4) (v:V),X.N[i]? = some x->σ[i]? = some (some v)->Vis X.env.scope x->∃ u,RelV v u/\Look X.env s.heap m x u
 cell:∀ x c,X.env.cells.lookup x=some c->∃ v,s.heap.IsCell c v
 free:H X.env.locals=none
 freeC:∀ x c,X.env.cells.lookup x=some c->H c=none
 pin:∀ p∈X.pn++pins,s.heap.get? p.1=some p.2/\H p.1=none/\p.1≠X.env.locals/\p.1 ∉ X.fs/\∀ v,p.2.data≠.cell v
 hok:HOk X.prog X.w H s.heap
 len:σ.length=X.N.length
section
variable {X:Cx} {pins:List (Addr × Tz)} {σ:List (Option V)} {H H':Hp} {s:Qe} {h':Rv}
theorem Cx.Ok.Ph (ok:X.Ok) {b:Addr} {o:Tz} (e:X.base.get? b=some o):b ∉ X.fs:=fun hb=>by
 have:=(ok.Ar.mem hb).1
 rw[e] at this; cases this
theorem Inv.bs (I:Inv X pins σ H s):∀ b o,X.base.get? b=some o->s.heap.get? b=some o/\H b=none:=fun b o e =>
 ⟨I.base.keep b o (I.ok.bs b o e).1 (I.ok.bs b o e).2 (I.ok.Ph e) (I.ok.noex b o e),I.base.free b o (I.ok.bs b o e).1 (I.ok.bs b o e).2 (I.ok.noex b o e)⟩
theorem Inv.bk (I:Inv X pins σ H s):∀ b o,X.base.get? b=some o->s.heap.get? b=some o:=fun b o e=>(I.bs b o e).1
theorem Inv.mod (I:Inv X pins σ H s):Mod X.K X.mg X.base:=I.ok.mod
theorem Inv.kIn (I:Inv X pins σ H s):X.K.In s.heap:=I.ok.mod.kin.keeps I.bk
theorem Inv.lt (I:Inv X pins σ H s):X.env.locals < s.heap.objs.size:=let ⟨_,hn,_⟩:=I.loc; hn.lt
theorem Inv.sz (I:Inv X pins σ H s):X.s₀.heap.objs.size<=s.heap.objs.size:=QL I.ok.above (Tg I.lt)
theorem Inv.O8 (I:Inv X pins σ H s) {a:Addr} (h:s.heap.objs.size<=a):a ∉ X.fs:=fun hb=>by
 obtain⟨_,o,ho,_⟩:=I.ok.Ar.mem hb
 exact absurd (Qs (Qt ho) (QL I.sz h)) (RG _)
theorem Inv.cne (I:Inv X pins σ H s):∀ x c,X.env.cells.lookup x=some c->c≠X.env.locals:=fun x c e z=>by
 obtain⟨v,o,ho,hd⟩:=I.cell x c e
 obtain⟨m,⟨o',es,ep,ho',hd',_⟩,_⟩:=I.loc
 rw[z,ho'] at ho; cases ho; rw[hd'] at hd; cases hd
theorem Inv.Ar (I:Inv X pins σ H s):s.heap.FunFrames X.base X.outer:=by
 have all:∀ (l:List XM),(∀ b∈frs l,b∈X.fs)->X.s₀.heap.FunFrames X.base l->s.heap.FunFrames X.base l:=by
  intro l
  induction l with
  | nil=>intro _ _; trivial
  | cons env r ih =>
   intro hs hl
   obtain⟨hk,⟨L,o,hf,hn,ho,hd⟩,hr⟩:=hl
   have hL:L∈X.fs:=hs L (by unfold frs; rw[VH,hf]; exact Qi)
   obtain⟨sl,e⟩:=I.base.slot L o ho (I.ok.frf L hL) hL fun z=>I.ok.exfs L z hL
   exact⟨hk,⟨L,_,hf,hn,e,hd⟩,ih (fun b hb=>hs b (by unfold frs; rw[VH,hf]; exact Qm _ hb)) hr⟩
 exact all X.outer (fun _ hb=>hb) I.ok.Ar
theorem Inv.stack (I:Inv X pins σ H s):s.heap.FunFrames X.base X.stack:=by
 rcases I.ok.stk with e | ⟨e,hf⟩
 ·rw[e]; exact I.Ar
 ·rw[e]
  obtain⟨m,hn,_⟩:=I.loc
  refine .cons (by rw[I.ok.kind]; decide) hf hn ?_ I.Ar
  exact Heap.get?_none_of_le (QL I.ok.bsz I.ok.above)
theorem Inv.Dp (I:Inv X pins σ H s):∀ b∈frs X.stack,b∈X.env.locals::X.fs:=fun b hb=>by
 rcases I.ok.stk with e | ⟨e,hf⟩
 ·rw[e] at hb; exact Qm _ hb
 ·rw[e] at hb
  unfold frs at hb
  rw[VH,hf] at hb
  exact hb
theorem Inv.wG (I:Inv X pins σ H s):∀ b∈frs X.stack,H b=none:=fun b hb=>by
 rcases List.mem_cons.mp (I.Dp b hb) with e | hb
 ·rw[e]; exact I.free
 ·obtain⟨_,o,ho,_⟩:=I.ok.Ar.mem hb
  exact I.base.free b o ho (I.ok.frf b hb) fun z=>I.ok.exfs b z hb
theorem Inv.step {g':Array GenState} {t':Nat} {d':Drawn} {ch:List Addr} (I:Inv X pins σ H s)
  (hch:∀ b∈ch,(b∈X.ex∨X.s₀.heap.objs.size<=b)/\b≠X.env.locals/\(∀ x c,X.env.cells.lookup x=some c->c≠b)/\∀ p∈X.pn++pins,p.1≠b)
  (keep:∀ b o,b≠X.env.locals->b ∉ X.fs->b ∉ ch->s.heap.get? b=some o->H b=none->h'.get? b=some o)
  (slot:∀ b o,b≠X.env.locals->b∈X.fs->b ∉ ch->s.heap.get? b=some o->H b=none->∃ sl,h'.get? b=some { o with slots:=sl }) (free:∀ b o,b ∉ ch->s.heap.get? b=some o->H b=none->H' b=none)
  (there:∀ b o,b ∉ ch->s.heap.get? b=some o->∃ o',h'.get? b=some o')
  (tups:∀ b xs,H b=some (.tup xs)->H' b=some (.tup xs)) (frzs:∀ b o u,H b=some (.frz o u)->H' b=some (.frz o u)) (tbls:∀ b ps,H b=some (.tbl ps)->∃ more,H' b=some (.tbl (ps++more)))
  (ns:∀ m,s.heap.Ns X.env.locals m->h'.Ns X.env.locals m) (hok:HOk X.prog X.w H' h') (hg:Ws g') :
  Inv X pins σ H' { s with heap:=h',gens:=g',drawn:=d',toks:=t' }:=by
 have neL:∀ b o,X.s₀.heap.get? b=some o->b≠X.env.locals:=fun b o e=>QJ (Qs (Qt e) I.ok.above)
 have neC:∀ b o,X.s₀.heap.get? b=some o->b ∉ X.ex->b ∉ ch:=fun b o e hx hb=>by
  rcases (hch b hb).1 with z | z
  ·exact hx z
  ·exact absurd (Qs (Qt e) z) (RG _)
 have cellK:∀ x c,X.env.cells.lookup x=some c->∀ v,s.heap.IsCell c v->h'.IsCell c v:=fun x c e v ⟨o,ho,hd⟩=>by
  have nch:c ∉ ch:=fun z=>(hch c z).2.2.1 x c e rfl
  by_cases hc:c∈X.fs
  ·obtain⟨sl,q⟩:=slot c o (I.cne x c e) hc nch ho (I.freeC x c e)
   exact⟨_,q,hd⟩
  ·exact⟨o,keep c o (I.cne x c e) hc nch ho (I.freeC x c e),hd⟩
 refine⟨I.ok,I.os,hg,⟨fun b o e n hb hx=>?_,fun b o e n hb hx=>?_,fun b o e n hx=>?_,fun b o e hx=>?_,fun b xs e=>tups b xs (I.base.tups b xs e),fun b o xs e=>frzs b o xs (I.base.frzs b o xs e),fun b ps e=>?_⟩,?_,fun x c e=>?_,?_,fun x c e=>?_,fun p hp=>?_,hok,I.len⟩
 ·exact keep b o (neL b o e) hb (neC b o e hx) (I.base.keep b o e n hb hx) (I.base.free b o e n hx)
 ·obtain⟨sl,e1⟩:=I.base.slot b o e n hb hx
  obtain⟨sl',e2⟩:=slot b _ (neL b o e) hb (neC b o e hx) e1 (I.base.free b o e n hx)
  exact⟨sl',e2⟩
 ·obtain⟨o',e1⟩:=I.base.there b o e hx
  exact free b o' (neC b o e hx) e1 (I.base.free b o e n hx)
 ·obtain⟨o',e1⟩:=I.base.there b o e hx
  exact there b o' (neC b o e hx) e1
 ·obtain⟨m1,e1⟩:=I.base.tbls b ps e
  obtain⟨m2,e2⟩:=tbls b _ e1
  exact⟨m1++m2,by rw[e2,Array.append_assoc]⟩
 ·obtain⟨m,hn,hl⟩:=I.loc
  refine⟨m,ns m hn,fun i x v e1 e2 e3=>?_⟩
  obtain⟨u,r,l⟩:=hl i x v e1 e2 e3
  refine⟨u,r,?_⟩
  rcases l with l | ⟨k,c,e,z⟩
  ·exact .inl l
  ·exact .inr ⟨k,c,e,cellK x c e _ z⟩
 ·obtain⟨v,z⟩:=I.cell x c e
  exact⟨v,cellK x c e v z⟩
 ·obtain⟨m,⟨o,_,_,ho,_⟩,_⟩:=I.loc
  exact free _ o (fun z=>(hch _ z).2.1 rfl) ho I.free
 ·obtain⟨v,o,ho,hd⟩:=I.cell x c e
  exact free c o (fun z=>(hch c z).2.2.1 x c e rfl) ho (I.freeC x c e)
 ·obtain⟨e,n,ne,nf,d⟩:=I.pin p hp
  have nch:p.1 ∉ ch:=fun z=>(hch p.1 z).2.2.2 p hp rfl
  exact⟨keep p.1 p.2 ne nf nch e n,free p.1 p.2 nch e n,ne,nf,d⟩
theorem Inv.un {t':Nat} (I:Inv X pins σ H s) (u:Un X.fs [] H H' s.heap h') (hok:HOk X.prog X.w H' h'):Inv X pins σ H' { s with heap:=h',toks:=t' }:=by
 obtain⟨m,⟨o,es,ep,ho,r⟩,_⟩:=id I.loc
 obtain⟨sl,hL⟩:=u.any ho I.free (by simp)
 exact I.step (g':=s.gens) (d':=s.drawn) (ch:=[]) (fun _ z=>nomatch z) (fun b o _ hb _ e n=>u.keep b o e n hb (by simp)) (fun b o _ hb _ e n=>u.slot b o e n hb (by simp)) (fun b o _ e n=>u.free b o e n (by simp)) (fun b o _ e=>u.there b o e (by simp)) u.tups u.frzs u.tbls (fun m' hm=>by
  obtain⟨o',es',ep',ho',r'⟩:=hm
  rw[ho] at ho'; cases ho'
  exact⟨_,es',ep',hL,r'⟩) hok I.bare
theorem Inv.call {g':Array GenState} {t':Nat} {d':Drawn} {ch:List Addr} (I:Inv X pins σ H s) (u:Un (frs X.stack) ch H H' s.heap h') (hok:HOk X.prog X.w H' h') (hg:Ws g')
  (hch:∀ b∈ch,(b∈X.ex∨X.s₀.heap.objs.size<=b)/\b≠X.env.locals/\(∀ x c,X.env.cells.lookup x=some c->c≠b)/\∀ p∈X.pn++pins,p.1≠b) :
  Inv X pins σ H' { s with heap:=h',gens:=g',drawn:=d',toks:=t' }:=by
 obtain⟨m,⟨o,es,ep,ho,r⟩,_⟩:=id I.loc
 obtain⟨sl,hL⟩:=u.any ho I.free fun z=>(hch _ z).2.1 rfl
 exact I.step (ch:=ch) hch (fun b o hL hb hc e n=>u.keep b o e n (fun z=>(List.mem_cons.mp (I.Dp b z)).elim hL hb) hc) (fun b o _ _ hc e n=>u.any e n hc) (fun b o hc e n=>u.free b o e n hc) (fun b o hc e=>u.there b o e hc) u.tups u.frzs u.tbls (fun m' hm=>by
  obtain⟨o',es',ep',ho',r'⟩:=hm
  rw[ho] at ho'; cases ho'
  exact⟨_,es',ep',hL,r'⟩) hok hg
theorem Inv.turned {t':Nat} {it:Addr} (I:Inv X pins σ H s) (k:∀ b o,b≠it->s.heap.get? b=some o->h'.get? b=some o) (hn:H it=none) (hL:it≠X.env.locals)
  (h1:it∈X.ex∨X.s₀.heap.objs.size<=it) (h2:∀ x c,X.env.cells.lookup x=some c->c≠it) (h3:∀ p∈X.pn++pins,p.1≠it):Inv X pins σ H { s with heap:=h',toks:=t' }:=by
 have nit:∀ b u,H b=some u->b≠it:=fun b u e z=>by rw[z,hn] at e; cases e
 refine I.step (g':=s.gens) (d':=s.drawn) (ch:=[it]) (fun b hb=>?_) (fun b o _ _ hc e _=>k b o (fun z=>hc (by simp [z])) e) (fun b o _ _ hc e _=>⟨o.slots,k b o (fun z=>hc (by simp [z])) e⟩) (fun _ _ _ _ n=>n)
  (fun b o hc e=>⟨o,k b o (fun z=>hc (by simp [z])) e⟩) (fun _ _ e=>e) (fun _ _ _ e=>e) (fun b ps e=>⟨#[],by rw[e]; simp⟩) (fun m hm=>?_) (fun b u e=>?_) I.bare
 ·have e:b=it:=by simpa using hb
  subst e
  exact⟨h1,hL,h2,h3⟩
 ·obtain⟨o,es,ep,ho,r⟩:=hm
  exact⟨o,es,ep,k _ o (Uh hL) ho,r⟩
 ·refine (I.hok b u e).stay (fun c v hc q=>k c v ?_ q) (fun _ q=>q) fun _ _ q=>q
  rcases hc with z | z
  ·rw[z]; exact nit b u e
  ·exact nit c _ z
theorem Inv.tok (I:Inv X pins σ H s) (t:Nat):Inv X pins σ H { s with toks:=t }:=I.un (h':=s.heap) (t':=t) Un.refl I.hok
theorem Inv.kept {t':Nat} (I:Inv X pins σ H s) (k:∀ b u,s.heap.get? b=some u->h'.get? b=some u):Inv X pins σ H { s with heap:=h',toks:=t' }:=I.un (Un.kept k) (I.hok.kept k)
theorem Inv.laid {a:Addr} {o:HO} {t':Nat} (I:Inv X pins σ H s) (k:∀ b u,s.heap.get? b=some u->h'.get? b=some u) (hp:s.heap.objs.size<=a) (new:fQ X.prog X.w (upd H a o) h' a o) :
  Inv X pins σ (upd H a o) { s with heap:=h',toks:=t' }:=I.un (Un.laid k hp (I.hok.fresh hp)) (I.hok.laid k hp new)
theorem Inv.write {x e:Addr} {o:HO} {t':Nat} (I:Inv X pins σ H s) (mu:Mut (H x)) (he:e=x∨H e=some (.own x)) (k:∀ b u,b≠e->s.heap.get? b=some u->h'.get? b=some u) (heo:∃ u,h'.get? e=some u)
  (new:fQ X.prog X.w (upd H x o) h' x o):Inv X pins σ (upd H x o) { s with heap:=h',toks:=t' }:=I.un (Un.write mu he k heo) (I.hok.write mu he k heo new)
theorem Inv.Dq {pins':List (Addr × Tz)} (I:Inv X pins σ H s) (h:∀ p∈pins',s.heap.get? p.1=some p.2/\H p.1=none/\p.1≠X.env.locals/\p.1 ∉ X.fs/\∀ v,p.2.data≠.cell v):Inv X pins' σ H s :=
 ⟨I.ok,I.os,I.bare,I.base,I.loc,I.cell,I.free,I.freeC,fun p hp=>(List.mem_append.mp hp).elim (fun z=>I.pin p (W5 _ z)) (h p),I.hok,I.len⟩
theorem yH {N:List Q4} (hN:N.Nodup) {i j:Nat} {x:Q4} (a:N[i]? = some x) (b:N[j]? = some x):i=j:=by
 obtain⟨h1,e1⟩:=List.getElem?_eq_some_iff.mp a
 obtain⟨h2,e2⟩:=List.getElem?_eq_some_iff.mp b
 exact (List.getElem_inj hN).mp (e1.trans e2.symm)
theorem ug {M:Model} {A:Q5} {E:Value->Qe->Prop} {i:Nat} {x:Q4} {v:V} {u:Value} {Q:Unit->Qe->Prop} (I:Inv X pins σ H s) (hN:X.N.Nodup) (hi:X.N[i]? = some x) (hx:Loc X.env.scope x) (r:RelV v u)
  (h:∀ s',Inv X pins (σ.set i (some v)) H s'->(∃ a,S9 a s.heap s'.heap/\(a=X.env.locals∨X.env.cells.lookup x=some a))->Q () s') (hf:X.fn x=true∨X.env.scope.names.lookup x=some .local:=by first | exact .inl rfl | exact .inr rfl | assumption):Qp M A (storeName X.env x u) Q E s:=by
 obtain⟨m,hn,hl⟩:=id I.loc
 have hcls:(X.env.scope.kind == .class || (X.env.scope.kind == .module && X.env.locals != X.env.globals))=false:=by rw[I.ok.kind]; rfl
 have hiσ:i < σ.length:=by rw[I.len]; exact (List.getElem?_eq_some_iff.mp hi).1
 have cne:=I.cne
 have tracked:∀ {a:Addr} {h':Rv},(∃ o,s.heap.get? a=some o/\H a=none)->S9 a s.heap h'->HOk X.prog X.w H h':=fun {a h'} ha hs b ob e=>by
  obtain⟨_,_,hfree⟩:=ha
  refine (I.hok b ob e).stay (fun c w' hc q=>(hs.2 c ?_).trans q) (fun _ q=>q) fun _ _ q=>q
  rintro rfl
  rcases hc with rfl | hc
  ·rw[hfree] at e; cases e
  ·rw[hfree] at hc; cases hc
 rcases hx with hk | hk
 ·refine wpAny_storeName_local hk hn (fun h' hn' hs=>?_) hcls
  obtain⟨oL,_,_,hoL,_⟩:=id hn
  refine h _ ⟨I.ok,I.os,I.bare,⟨fun b o e n hb hx=>?_,fun b o e n hb hx=>?_,I.base.free,fun b o e hx=>?_,I.base.tups,I.base.frzs,I.base.tbls⟩,⟨_,hn',fun j y v' e1 e2 e3=>?_⟩,fun y c e=>?_,I.free,I.freeC,fun p hp=>?_,tracked ⟨oL,hoL,I.free⟩ hs,by simpa using I.len⟩ ⟨_,hs,.inl rfl⟩
  ·exact (hs.2 b (QJ (Qs (Qt e) I.ok.above))).trans (I.base.keep b o e n hb hx)
  ·obtain⟨sl,e1⟩:=I.base.slot b o e n hb hx
   exact⟨sl,(hs.2 b (QJ (Qs (Qt e) I.ok.above))).trans e1⟩
  ·obtain⟨o',e1⟩:=I.base.there b o e hx
   exact⟨o',(hs.2 b (QJ (Qs (Qt e) I.ok.above))).trans e1⟩
  ·by_cases hj:j=i
   ·subst hj
    rw[hi] at e1; cases e1
    rw[Vl hiσ] at e2
    cases e2
    exact⟨u,r,.inl ⟨hk,by simp⟩⟩
   ·rw[UG (Uh hj)] at e2
    obtain⟨u',r',q⟩:=hl j y v' e1 e2 e3
    refine⟨u',r',?_⟩
    rcases q with⟨k,e⟩ | ⟨k,c,e,z⟩
    ·refine .inl ⟨k,?_⟩
     have:y≠x:=fun e=>hj (yH hN e1 (e▸hi))
     simp [this,e]
    ·exact .inr ⟨k,c,e,z.sameBut hs (cne y c e)⟩
  ·obtain⟨w',z⟩:=I.cell y c e
   exact⟨w',z.sameBut hs (cne y c e)⟩
  ·obtain⟨e,n,ne,nf,d⟩:=I.pin p hp
   exact⟨(hs.2 p.1 ne).trans e,n,ne,nf,d⟩
 ·have hfn:X.fn x=true:=by
   rcases hf with z | z
   ·exact z
   ·rw[z] at hk; cases hk
  obtain⟨c,hc⟩:=I.ok.has x (.inl hk)
  obtain⟨w',z⟩:=I.cell x c hc
  refine wpAny_storeName_cell I.ok.kind hk hc z (fun h' hc' hs=>?_)
  obtain⟨oc,hoc,hocd⟩:=id z
  refine h { s with heap:=h' } ⟨I.ok,I.os,I.bare,⟨fun b o e n hb hx=>?_,fun b o e n hb hx=>?_,I.base.free,fun b o e hx=>?_,I.base.tups,I.base.frzs,I.base.tbls⟩,⟨m,hn.sameBut hs (Uh (cne x c hc)),fun j y v' e1 e2 e3=>?_⟩,fun y c' e=>?_,I.free,I.freeC,fun p hp=>?_,tracked ⟨oc,hoc,I.freeC x c hc⟩ hs,by simpa using I.len⟩ ⟨c,hs,.inr hc⟩
  ·exact (hs.2 b (QJ (Qs (Qt e) (I.ok.cab x c hfn hc)))).trans (I.base.keep b o e n hb hx)
  ·obtain⟨sl,e1⟩:=I.base.slot b o e n hb hx
   exact⟨sl,(hs.2 b (QJ (Qs (Qt e) (I.ok.cab x c hfn hc)))).trans e1⟩
  ·obtain⟨o',e1⟩:=I.base.there b o e hx
   exact⟨o',(hs.2 b (QJ (Qs (Qt e) (I.ok.cab x c hfn hc)))).trans e1⟩
  ·by_cases hj:j=i
   ·subst hj
    rw[hi] at e1; cases e1
    rw[Vl hiσ] at e2
    cases e2
    exact⟨u,r,.inr ⟨.inl hk,c,hc,hc'⟩⟩
   ·rw[UG (Uh hj)] at e2
    obtain⟨u',r',q⟩:=hl j y v' e1 e2 e3
    refine⟨u',r',?_⟩
    rcases q with q | ⟨k,c',e,z'⟩
    ·exact .inl q
    ·refine .inr ⟨k,c',e,z'.sameBut hs ?_⟩
     rintro rfl
     exact hj (yH hN e1 (I.ok.inj _ _ _ e hc▸hi))
  ·by_cases hcc:c'=c
   ·subst hcc; exact⟨_,hc'⟩
   ·obtain⟨w2,z2⟩:=I.cell y c' e
    exact⟨w2,z2.sameBut hs hcc⟩
  ·obtain⟨e,n,ne,nf,d⟩:=I.pin p hp
   refine⟨(hs.2 p.1 ?_).trans e,n,ne,nf,d⟩
   intro q
   rw[q,hoc] at e
   have q':oc=p.2:=QZ e
   exact d w' (by rw[← q']; exact hocd)
theorem yM {M:Model} {A:Q5} {E:Value->Qe->Prop} {i:Nat} {x:Q4} {v:V} {u:Value} {Q:Unit->Qe->Prop} (I:Inv X pins σ H s) (hN:X.N.Nodup) (hi:X.N[i]? = some x) (hx:Loc X.env.scope x) (r:RelV v u)
  (h:∀ s',Inv X pins (σ.set i (some v)) H s'->Q () s') (hf:X.fn x=true∨X.env.scope.names.lookup x=some .local:=by first | exact .inl rfl | exact .inr rfl | assumption):Qp M A (storeName X.env x u) Q E s :=
 ug I hN hi hx r (fun s' I' _=>h s' I') hf
theorem Inv.call' {s':Qe} {ch:List Addr} (I:Inv X pins σ H s) (ho:s'.os=s.os) (u:Un (frs X.stack) ch H H' s.heap s'.heap) (hok:HOk X.prog X.w H' s'.heap) (hg:Ws s'.gens)
  (hch:∀ b∈ch,(b∈X.ex∨X.s₀.heap.objs.size<=b)/\b≠X.env.locals/\(∀ x c,X.env.cells.lookup x=some c->c≠b)/\∀ p∈X.pn++pins,p.1≠b):Inv X pins σ H' s':=by
 obtain⟨h',g',d',t',o'⟩:=s'
 have e:o'=s.os:=ho
 subst e
 exact I.call (g':=g') (t':=t') (d':=d') u hok hg hch
end
abbrev XK:=Value->Option Addr->Hp->Prop
abbrev St:=List (Option V)
abbrev VK:=V->Hp->Prop
abbrev TE:=St->Hp->VK->Prop
abbrev TT:=St->Hp->(Bool->Hp->Prop)->Prop
abbrev TA:=St->Hp->(List V->Hp->Prop)->Prop
structure Ends where
 nx:St->Hp->Prop
 rt:VK
 bk:St->Hp->Prop:=fun _ _=>False
 ct:St->Hp->Prop:=fun _ _=>False
abbrev TS:=Ends->St->Hp->Prop
inductive EP (X:Cx) (pins:List (Addr × Tz)) (σ:St) (Q:VK) (u:Value) (s':Qe):Prop where
 | mk (v:V) (H':Hp) (z0:Inv X pins σ H' s') (z1:RelV v u) (z2:Q v H'):EP X pins σ Q u s'
def TP (X:Cx) (pins:List (Addr × Tz)) (σ:St) (Q:Bool->Hp->Prop) (b:Bool) (s':Qe):Prop:=∃ H',Inv X pins σ H' s'/\Q b H'
inductive AP (X:Cx) (pins:List (Addr × Tz)) (σ:St) (Q:List V->Hp->Prop) (us:List Value) (s':Qe):Prop where
 | mk (vs:List V) (H':Hp) (z0:Inv X pins σ H' s') (z1:Vals vs us) (z2:Q vs H'):AP X pins σ Q us s'
def SP (X:Cx) (pins:List (Addr × Tz)) (D:Ends) (f:Flow) (s':Qe):Prop :=
 match f with
 | .next=>∃ σ' H',Inv X pins σ' H' s'/\D.nx σ' H'
 | .brk=>∃ σ' H',Inv X pins σ' H' s'/\D.bk σ' H'
 | .cont=>∃ σ' H',Inv X pins σ' H' s'/\D.ct σ' H'
 | .ret u=>∃ v σ' H',Inv X pins σ' H' s'/\RelV v u/\D.rt v H'
def PE (X:Cx) (e:Expr) (t:TE):Prop :=
 ∀ (pins:List (Addr × Tz)) (s:Qe) (σ:St) (H:Hp) (Q:VK),Inv X pins σ H s->t σ H Q->Qp (Qy X.prog X.w) X.A (S6 e X.env) (EP X pins σ Q) X.xe s
def PT (X:Cx) (e:Expr) (t:TT):Prop :=
 ∀ (pins:List (Addr × Tz)) (s:Qe) (σ:St) (H:Hp) (Q:Bool->Hp->Prop),Inv X pins σ H s->t σ H Q->Qp (Qy X.prog X.w) X.A (isTrue e X.env (S6 e X.env)) (TP X pins σ Q) X.xe s
def PW (X:Cx) (e:Expr) (t:TT):Prop :=
 ∀ (whole:Sem Value) (pins:List (Addr × Tz)) (s:Qe) (σ:St) (H:Hp) (Q:Bool->Hp->Prop),Inv X pins σ H s->t σ H Q->Qp (Qy X.prog X.w) X.A (isTrue e X.env whole) (TP X pins σ Q) X.xe s
theorem PW.pt {X:Cx} {e:Expr} {t:TT} (h:PW X e t):PT X e t:=h _
def PA (X:Cx) (es:List Expr) (t:TA):Prop :=
 ∀ (pos:V5) (pins:List (Addr × Tz)) (s:Qe) (σ:St) (H:Hp) (Q:List V->Hp->Prop),Inv X pins σ H s->t σ H Q->Qp (Qy X.prog X.w) X.A (spliced (TQ pos (QS es X.env))) (AP X pins σ Q) X.xe s
def PS (X:Cx) (st:Stmt) (t:TS):Prop :=
 ∀ (pins:List (Addr × Tz)) (s:Qe) (σ:St) (H:Hp) (D:Ends),Inv X pins σ H s->t D σ H->Qp (Qy X.prog X.w) X.A (exec st X.env) (SP X pins D) X.xe s
def PSs (X:Cx) (st:List Stmt) (t:TS):Prop :=
 ∀ (pins:List (Addr × Tz)) (s:Qe) (σ:St) (H:Hp) (D:Ends),Inv X pins σ H s->t D σ H->Qp (Qy X.prog X.w) X.A (execs st X.env) (SP X pins D) X.xe s
theorem thn {α:Type} {t:Sem α} {Q Q':α->Qe->Prop} {M:Model} {A:Q5} {E:Value->Qe->Prop} {s:Qe} (h:Qp M A t Q E s) (hQ:∀ a s,Q a s->Q' a s):Qp M A t Q' E s:=RM h hQ fun _ _ x=>x
end L2
namespace L2
open PySem PySem.Spec PyProof.Rows
section
variable {X:Cx}
inductive ExB (x:V) (P:Bool->Prop):Prop where
 | mk (c:Bool) (z0:x = .bl c) (z1:P c):ExB x P
inductive LR (i:Nat) (σ:St) (H:Hp) (Q:VK):Prop where
 | mk (v:V) (z0:σ[i]? = some (some v)) (z1:Q v H):LR i σ H Q
def An (i:Nat):TE:=fun σ H Q=>LR i σ H Q
def tC (v:V):TE:=fun _ H Q=>Q v H
theorem Mw {i:Nat} {x:Q4} {pos:V5} (hN:X.N[i]? = some x) (hv:Vis X.env.scope x) (hd:(x == ("__debug__" : Q4))=false:=by decide) (hcd:(x == ("__classdict__" : Q4))=false:=by decide):PE X (.Name x pos) (An i):=by
 intro pins s σ H Q I h
 obtain⟨v,e,h⟩:=h
 obtain⟨m,hn,hl⟩:=I.loc
 obtain⟨u,r,l⟩:=hl i x v hN e hv
 have fin:EP X pins σ Q u s:=⟨v,H,I,r,h⟩
 rcases l with⟨hk,hm⟩ | ⟨hk,c,hc,hcell⟩
 ·exact wpAny_Name (wpAny_loadName_local I.ok.kind hk hn hm fin) hd
 ·rcases hk with hk | hk
  ·exact wpAny_Name (wpAny_loadName_cell I.ok.kind hk hc hcell fin) hd
  ·exact wpAny_Name (wpAny_loadName_free I.ok.kind hk hc hcell fin hcd) hd
theorem au {i j pos}:PE X (.Constant (.int i) j pos) (tC (.int i)):=fun _ _ _ H _ I h=>wpAny_Constant_int ⟨.int i,H,I.tok _,⟨_,rfl⟩,h⟩
theorem fV {b j pos}:PE X (.Constant (.bool b) j pos) (tC (.bl b)):=fun _ _ _ H _ I h=>Constant_bool ⟨.bl b,H,I,rfl,h⟩
theorem bB {x j pos}:PE X (.Constant (.str x) j pos) (tC (.str x)):=fun _ _ _ H _ I h=>Calls.Constant_str ⟨.str x,H,I.tok _,⟨_,rfl⟩,h⟩
def Gl (X:Cx) (x:Q4):Prop:=X.env.kindOf x=some .globalImplicit
theorem rT {E:Value->Qe->Prop} {pins:List (Addr × Tz)} {s:Qe} {σ:St} {H:Hp} {x:Q4} {u:Value} {pos:V5} {Q:Value->Qe->Prop} (I:Inv X pins σ H s) (hg:Gl X x) (hm:X.mg x=some u) (h:Q u s)
  (hd:(x == ("__debug__" : Q4))=false:=by decide):Qp (Qy X.prog X.w) X.A (S6 (.Name x pos) X.env) Q E s :=
 Calls.Name_function_global I.ok.kind hg (Calls.loadGlobal_global (by rw[I.ok.glob]; exact I.mod.glob.keeps I.bk) hm h) hd
theorem jh {E:Value->Qe->Prop} {pins:List (Addr × Tz)} {s:Qe} {σ:St} {H:Hp} {x:Q4} {u:Value} {pos:V5} {Q:Value->Qe->Prop} (I:Inv X pins σ H s) (hg:Gl X x) (hm:X.mg x=none) (hv:Rb x=some u) (h:Q u s)
  (hn:x≠"__name__":=by decide) (hd:(x == ("__debug__" : Q4))=false:=by decide):Qp (Qy X.prog X.w) X.A (S6 (.Name x pos) X.env) Q E s:=by
 obtain⟨mb,h1,h2⟩:=I.mod.blt
 exact Calls.Name_function_global I.ok.kind hg (Calls.loadGlobal_builtin (by rw[I.ok.glob]; exact I.mod.glob.keeps I.bk) hm (by rw[I.ok.blt]; exact h1.keeps I.bk) ((h2 x hn).trans hv) h) hd
theorem J3 {x:Q4} {v:V} {u:Value} {pos:V5} (hg:Gl X x) (hm:X.mg x=some u) (r:RelV v u) (hd:(x == ("__debug__" : Q4))=false:=by decide):PE X (.Name x pos) (tC v) :=
 fun _ _ _ H _ I h=>rT I hg hm ⟨v,H,I,r,h⟩ hd
theorem JH {x:Q4} {v:V} {u:Value} {pos:V5} (hg:Gl X x) (hm:X.mg x=none) (hv:Rb x=some u) (r:RelV v u) (hn:x≠"__name__":=by decide) (hd:(x == ("__debug__" : Q4))=false:=by decide):PE X (.Name x pos) (tC v) :=
 fun _ _ _ H _ I h=>jh I hg hm hv ⟨v,H,I,r,h⟩ hn hd
variable {a b:Expr} {ta tb:TE} {pos:V5}
def PC (X:Cx) (op:CmpOp) (a b:Expr) (t:TE):Prop :=
 ∀ (pins:List (Addr × Tz)) (s:Qe) (σ:St) (H:Hp) (Q:VK),Inv X pins σ H s->t σ H Q →
  Qp (Qy X.prog X.w) X.A (S6 a X.env) (fun v s₁=>Qp (Qy X.prog X.w) X.A (S6 b X.env) (fun u s₂=>Qp (Qy X.prog X.w) X.A (Tj op v u) (EP X pins σ Q) X.xe s₂) X.xe s₁) X.xe s
theorem ye (b:Expr) {op:CmpOp} (h:op≠.In) (h2:op≠.NotIn):Uq op b=false:=by
 have e1:(op == CmpOp.In)=false:=by cases op <;> first | rfl | exact absurd rfl h
 have e2:(op == CmpOp.NotIn)=false:=by cases op <;> first | rfl | exact absurd rfl h2
 cases b <;> simp [Uq,e1,e2]
def Pk (ta:TE):TE:=fun σ H Q=>ta σ H fun x H1=>Q (.bl (decide (x = .non))) H1
theorem RelV.Gs {x:V} {v:Value} (r:RelV x v):(v == R8)=decide (x = .non):=by
 cases x with
 | non=>cases r; rfl
 | bl _=>cases r; rfl
 | int _=>obtain⟨t,rfl⟩:=r; rfl
 | str _=>obtain⟨t,rfl⟩:=r; rfl
 | byt _=>obtain⟨t,rfl⟩:=r; rfl
 | flt _=>obtain⟨t,rfl⟩:=r; rfl
 | ref _=>cases r; rfl
 | ty _=>cases r; rfl
theorem Ia {j pos'} (ha:PE X a ta):PC X .Is a (.Constant .none j pos') (Pk ta):=by
 intro pins s σ H Q I h
 refine thn (ha pins s σ H _ I h) fun v s1 ⟨x,H1,I1,r1,q1⟩=>?_
 exact Constant_none (is_none_gen ⟨.bl _,H1,I1,by rw[r1.Gs]; rfl,q1⟩)
def tB (t:TE):TT:=fun σ H Q=>t σ H fun x H1=>ExB x fun c=>Q c H1
theorem MJ {op:CmpOp} {t:TE} (h:PC X op a b t) (h1:Uq op b=false:=by first | exact ye _ (by decide) (by decide) | rfl):PE X (.Compare a [op] [b] pos) t:=fun pins s σ H Q I hw=>wpAny_Compare1 (h pins s σ H Q I hw) h1
theorem MF {op:CmpOp} {t:TE} (h:PC X op a b t) (h1:Uq op b=false:=by first | exact ye _ (by decide) (by decide) | rfl):PT X (.Compare a [op] [b] pos) (tB t):=by
 intro pins s σ H Q I hw
 refine wpAny_isTrue_Compare1 (thn (h pins s σ H _ I hw) fun v s1 h1=>thn h1 fun u s2 h2=>thn h2 fun c s3 ⟨x,H1,I1,r1,q1⟩=>?_) h1
 obtain⟨d,rfl,q⟩:=q1
 cases r1
 exact SJ ⟨H1,I1,q⟩
theorem cZ {e:Expr} {t:TE} (h:PE X e t) (he:∀ whole,isTrue e X.env whole=(do let v ← whole; VJ e.pos; VL [v] (truthy v)):=by intro _; rfl):PT X e (tB t):=by
 intro pins s σ H Q I hw
 refine isTrue_plain (thn (h pins s σ H _ I hw) fun v s1 ⟨x,H1,I1,r1,q1⟩=>?_) (he _)
 obtain⟨d,rfl,q⟩:=q1
 cases r1
 exact SJ ⟨H1,I1,q⟩
variable {tA tB':TT} {rest:List Expr}
def Oq (t u:TT):TT:=fun σ H Q=>t σ H fun c H1=>if c=true then u σ H1 Q else Q false H1
def tOr (t u:TT):TT:=fun σ H Q=>t σ H fun c H1=>if c=true then Q true H1 else u σ H1 Q
def PN (t:TT):TT:=fun σ H Q=>t σ H fun c H1=>Q (!c) H1
theorem kW (ha:PT X a tA):PW X (.BoolOp .And [a] pos) tA:=by
 intro wh pins s σ H Q I h
 refine isTrue_and (thn (ha pins s σ H Q I h) fun c s1 e=>?_)
 cases c with
 | true=>exact isTrue_and_nil e
 | false=>exact e
theorem gY (ha:PT X a tA):PW X (.BoolOp .Or [a] pos) tA:=by
 intro wh pins s σ H Q I h
 refine isTrue_or (thn (ha pins s σ H Q I h) fun c s1 e=>?_)
 cases c with
 | false=>exact isTrue_or_nil e
 | true=>exact e
theorem ou (ha:PT X a tA) (hb:PW X (.BoolOp .And (b::rest) pos) tB'):PW X (.BoolOp .And (a::b::rest) pos) (Oq tA tB'):=by
 intro wh pins s σ H Q I h
 refine isTrue_and (thn (ha pins s σ H _ I h) fun c s1 ⟨H1,I1,q1⟩=>?_)
 cases c with
 | true=>exact hb wh pins s1 σ H1 Q I1 q1
 | false=>exact⟨H1,I1,q1⟩
theorem lR (ha:PT X a tA) (hb:PW X (.BoolOp .Or (b::rest) pos) tB'):PW X (.BoolOp .Or (a::b::rest) pos) (tOr tA tB'):=by
 intro wh pins s σ H Q I h
 refine isTrue_or (thn (ha pins s σ H _ I h) fun c s1 ⟨H1,I1,q1⟩=>?_)
 cases c with
 | true=>exact⟨H1,I1,q1⟩
 | false=>exact hb wh pins s1 σ H1 Q I1 q1
theorem dY (ha:PT X a tA):PT X (.UnaryOp .Not a pos) (PN tA):=by
 intro pins s σ H Q I h
 exact isTrue_not (ha pins s σ H (fun c H1=>Q (!c) H1) I h)
def Ob (ta tb:TE):TE:=fun σ H Q=>ta σ H fun x H1=>ExB x fun c=>if c=true then tb σ H1 Q else Q (.bl false) H1
def Pz (ta tb:TE):TE:=fun σ H Q=>ta σ H fun x H1=>ExB x fun c=>if c=true then Q (.bl true) H1 else tb σ H1 Q
def NK (ta:TE):TE:=fun σ H Q=>ta σ H fun x H1=>ExB x fun c=>Q (.bl (!c)) H1
theorem iB {op} {t:TE} (h:PE X a t):PE X (.BoolOp op [a] pos) t:=fun pins s σ H Q I hw=>BoolOp_one (h pins s σ H Q I hw)
theorem dZ (ha:PE X a ta) (hb:PE X (.BoolOp .And (b::rest) pos) tb):PE X (.BoolOp .And (a::b::rest) pos) (Ob ta tb):=by
 intro pins s σ H Q I h
 refine BoolOp_and (thn (ha pins s σ H _ I h) fun v s1 ⟨x,H1,I1,r1,q1⟩=>?_)
 obtain⟨c,rfl,q1⟩:=q1
 cases r1
 refine SJ ?_
 cases c with
 | true=>exact hb pins s1 σ H1 Q I1 q1
 | false=>exact⟨.bl false,H1,I1,rfl,q1⟩
theorem Nu (ha:PE X a ta) (hb:PE X (.BoolOp .Or (b::rest) pos) tb):PE X (.BoolOp .Or (a::b::rest) pos) (Pz ta tb):=by
 intro pins s σ H Q I h
 refine BoolOp_or (thn (ha pins s σ H _ I h) fun v s1 ⟨x,H1,I1,r1,q1⟩=>?_)
 obtain⟨c,rfl,q1⟩:=q1
 cases r1
 refine SJ ?_
 cases c with
 | false=>exact hb pins s1 σ H1 Q I1 q1
 | true=>exact⟨.bl true,H1,I1,rfl,q1⟩
theorem Mp (ha:PE X a ta):PE X (.UnaryOp .Not a pos) (NK ta):=by
 intro pins s σ H Q I h
 refine UnaryOp_ (thn (ha pins s σ H _ I h) fun v s1 ⟨x,H1,I1,r1,q1⟩=>?_)
 obtain⟨c,rfl,q1⟩:=q1
 cases r1
 exact not_of (SJ ⟨.bl (!c),H1,I1,rfl,q1⟩)
end
end L2
namespace L2
open PySem PySem.Spec PyProof.Rows
def SqL (K:Qo) (H:Hp) (a:Addr) (xs:List V):Prop :=
 Rd H a (.lst xs) ∨
  ∃ (o:Tz) (its:Array Value) (n:Nat),K.lookup a=some o/\o.cls = .type "list"/\o.dict=none/\o.data = .seq its n/\its.size<=sizeLine/\Vals xs its.toList
def SqT (K:Qo) (H:Hp) (a:Addr) (xs:List V):Prop :=
 Rd H a (.tup xs) ∨
  ∃ (o:Tz) (its:Array Value) (n:Nat),K.lookup a=some o/\o.cls = .type "tuple"/\o.data = .seq its n/\its.size<=sizeLine/\Vals xs its.toList
def PB:Value->Option V
 | .none=>some .non
 | .bool b=>some (.bl b)
 | .int i _=>some (.int i)
 | .str x _=>some (.str x)
 | .bytes b _=>some (.byt b)
 | .float b _=>some (.flt b)
 | .ref a=>some (.ref a)
 | .type n=>some (.ty n)
 | _=>none
theorem RelV.abs {x:V} {u:Value} (r:RelV x u):PB u=some x:=by
 cases x with
 | non=>cases r; rfl
 | bl _=>cases r; rfl
 | int _=>obtain⟨t,rfl⟩:=r; rfl
 | str _=>obtain⟨t,rfl⟩:=r; rfl
 | byt _=>obtain⟨t,rfl⟩:=r; rfl
 | flt _=>obtain⟨t,rfl⟩:=r; rfl
 | ref _=>cases r; rfl
 | ty _=>cases r; rfl
theorem RelV.inj {x y:V} {u:Value} (r:RelV x u) (q:RelV y u):x=y:=QZ (r.abs.symm.trans q.abs)
theorem Vals.inj:∀ {xs ys:List V} {us:List Value},Vals xs us->Vals ys us->xs=ys
 | _,_,_,.nil,.nil=>rfl
 | _,_,_,.cons r t,.cons r' t'=>by rw[r.inj r',Vals.inj t t']
section
variable {X:Cx} {pins:List (Addr × Tz)} {σ:St} {H:Hp} {s:Qe} {a:Addr} {xs ys:List V}
theorem SqL.of {K:Qo} (h:H a=some (.lst xs)):SqL K H a xs:=.inl (.inl h)
theorem SqT.of {K:Qo} (h:H a=some (.tup xs)):SqT K H a xs:=.inl (.inl h)
theorem Inv.list (I:Inv X pins σ H s) (h:SqL X.K H a xs):∃ its:List Value,Vals xs its/\PlainL s.heap a its.toArray/\xs.length<=sizeLine:=by
 rcases h with h | ⟨o,its,n,hk,hc,hd,hs,hz,r⟩
 ·obtain⟨z,its,n,r,e⟩:=h.ok I.hok
  exact⟨its,r,⟨_,n,e,rfl,rfl,rfl⟩,z⟩
 ·refine⟨its.toList,r,⟨o,n,I.kIn a o hk,hc,hd,by simpa using hs⟩,?_⟩
  have e:=r.length
  simp only[Ra] at e
  lia
theorem Inv.tuple (I:Inv X pins σ H s) (h:SqT X.K H a xs):∃ its:List Value,Vals xs its/\IsTup s.heap a its.toArray/\xs.length<=sizeLine:=by
 rcases h with h | ⟨o,its,n,hk,hc,hs,hz,r⟩
 ·obtain⟨z,its,r,p⟩:=h.ok I.hok
  exact⟨its,r,p,z⟩
 ·refine⟨its.toList,r,⟨o,I.kIn a o hk,hc,n,by simpa using hs⟩,?_⟩
  have e:=r.length
  simp only[Ra] at e
  lia
theorem Inv.su (I:Inv X pins σ H s) (h:SqL X.K H a xs) (h':SqL X.K H a ys):xs=ys:=by
 obtain⟨its,r,⟨o,n,e,_,_,d⟩,_⟩:=I.list h
 obtain⟨its',r',⟨o',n',e',_,_,d'⟩,_⟩:=I.list h'
 rw[e] at e'; cases e'
 rw[d] at d'
 injection d' with d1 _
 have:its=its':=by simpa using congrArg Array.toList d1
 subst this
 exact r.inj r'
theorem Inv.oJ (I:Inv X pins σ H s) (h:SqT X.K H a xs) (h':SqT X.K H a ys):xs=ys:=by
 obtain⟨its,r,⟨o,e,_,n,d⟩,_⟩:=I.tuple h
 obtain⟨its',r',⟨o',e',_,n',d'⟩,_⟩:=I.tuple h'
 rw[e] at e'; cases e'
 rw[d] at d'
 injection d' with d1 _
 have:its=its':=by simpa using congrArg Array.toList d1
 subst this
 exact r.inj r'
end
abbrev Cx.wish (X:Cx) (E:Value->Qe->Prop):Cx:={ X with xe:=E }
abbrev Cx.nox (X:Cx):Cx:=X.wish fun _ _=>False
theorem Cx.Ok.wish {X:Cx} (ok:X.Ok) (E:Value->Qe->Prop):(X.wish E).Ok :=
 ⟨ok.mod,ok.kind,ok.glob,ok.blt,ok.above,ok.inj,ok.has,ok.cab,ok.hd,ok.frames,ok.stk,ok.exf,ok.bs,ok.bsz,ok.noex,ok.exfs,ok.Ar,ok.frf⟩
theorem Cx.Ok.mC {X:Cx} {E:Value->Qe->Prop} (ok:(X.wish E).Ok):X.Ok :=
 ⟨ok.mod,ok.kind,ok.glob,ok.blt,ok.above,ok.inj,ok.has,ok.cab,ok.hd,ok.frames,ok.stk,ok.exf,ok.bs,ok.bsz,ok.noex,ok.exfs,ok.Ar,ok.frf⟩
section
variable {X:Cx} {pins:List (Addr × Tz)} {σ:St} {H:Hp} {s:Qe} {E:Value->Qe->Prop}
theorem Inv.wish (I:Inv X pins σ H s) (E:Value->Qe->Prop):Inv (X.wish E) pins σ H s:=⟨I.ok.wish E,I.os,I.bare,I.base,I.loc,I.cell,I.free,I.freeC,I.pin,I.hok,I.len⟩
theorem Inv.mC (I:Inv (X.wish E) pins σ H s):Inv X pins σ H s:=⟨I.ok.mC,I.os,I.bare,I.base,I.loc,I.cell,I.free,I.freeC,I.pin,I.hok,I.len⟩
theorem SP.mC {D:Ends} {f:Flow} {s':Qe} (h:SP (X.wish E) pins D f s'):SP X pins D f s':=by
 cases f with
 | next=>obtain⟨σ',H',I,q⟩:=h; exact⟨σ',H',I.mC,q⟩
 | brk=>obtain⟨σ',H',I,q⟩:=h; exact⟨σ',H',I.mC,q⟩
 | cont=>obtain⟨σ',H',I,q⟩:=h; exact⟨σ',H',I.mC,q⟩
 | ret u=>obtain⟨v,σ',H',I,r,q⟩:=h; exact⟨v,σ',H',I.mC,r,q⟩
theorem PSs.nox {st:List Stmt} {t:TS} (h:PSs X.nox st t):PSs X st t:=fun pins s σ H D I hw =>
 RM (h pins s σ H D (I.wish _) hw) (fun _ _ q=>q.mC) fun _ _ z=>Tq z
end
section
variable {X:Cx} {st:Stmt} {rest:List Stmt} {t u:TS} {e:Expr} {te:TE} {pos:V5}
def Nv:TS:=fun D σ H=>D.nx σ H
def G6 (t u:TS):TS:=fun D σ H=>t { D with nx:=u D } σ H
theorem aN:PSs X [] Nv:=fun _ _ σ H _ I h=>Wv ⟨σ,H,I,h⟩
theorem aq (h1:PS X st t) (h2:PSs X rest u):PSs X (st::rest) (G6 t u):=by
 intro pins s σ H D I h
 refine wpAny_execs_cons (thn (h1 pins s σ H { D with nx:=u D } I h) fun f s1 q=>?_)
 cases f with
 | next =>
  obtain⟨σ',H',I',q⟩:=q
  exact h2 pins s1 σ' H' D I' q
 | ret v=>exact q
 | brk=>exact q
 | cont=>exact q
theorem aA (h1:PS X st t):PSs X [st] t:=by
 intro pins s σ H D I h
 refine wpAny_execs_cons (thn (h1 pins s σ H D I h) fun f s1 q=>?_)
 cases f with
 | next=>exact Wv q
 | ret v=>exact q
 | brk=>exact q
 | cont=>exact q
theorem Inv.quiet {pins:List (Addr × Tz)} {σ:St} {H:Hp} {s:Qe} (I:Inv X pins σ H s):interactive X.env=false:=by simp [interactive,I.ok.kind]
def Nx (te:TE):TS:=fun D σ H=>te σ H fun _ H1=>D.nx σ H1
theorem bT (he:PE X e te) (hs:swapsWith e none pos.line X.env=pure false:=by rfl):PS X (.Expr e pos) (Nx te):=by
 intro pins s σ H D I h
 exact wpAny_Expr_any (thn (he pins s σ H _ I h) fun v s1 ⟨x,H1,I1,r1,q1⟩=>⟨σ,H1,I1,q1⟩) I.quiet hs
def Pr (te:TE):TS:=fun D σ H=>te σ H D.rt
theorem aG (he:PE X e te):PS X (.Return (some e) pos) (Pr te):=by
 intro pins s σ H D I h
 exact wpAny_Return_some (thn (he pins s σ H _ I h) fun v s1 ⟨x,H1,I1,r1,q1⟩=>⟨x,σ,H1,I1,r1,q1⟩)
def Fz (c:TT) (t u:TS):TS:=fun D σ H=>c σ H fun b H1=>if b=true then t D σ H1 else u D σ H1
theorem bA {c:Expr} {a b:List Stmt} {tc:TT} (hc:PT X c tc) (ha:PSs X a t) (hb:PSs X b u):PS X (.If c a b pos) (Fz tc t u):=by
 intro pins s σ H D I h
 refine wpAny_If (thn (hc pins s σ H _ I h) fun d s1 ⟨H1,I1,q1⟩=>?_)
 cases d with
 | true=>exact ha pins s1 σ H1 D I1 q1
 | false=>exact hb pins s1 σ H1 D I1 q1
def Nb:TS:=fun _ _ _=>False
theorem fB:PS X st Nb:=fun _ _ _ _ _ _ h=>h.elim
end
abbrev TG:=V->St->Hp->(St->Hp->Prop)->Prop
abbrev TGs:=List V->St->Hp->(St->Hp->Prop)->Prop
def PG (X:Cx) (target:Expr) (t:TG):Prop :=
 ∀ (pins:List (Addr × Tz)) (s:Qe) (σ:St) (H:Hp) (v:V) (u:Value) (Q:St->Hp->Prop),Inv X pins σ H s->RelV v u->t v σ H Q →
  Qp (Qy X.prog X.w) X.A (Wj target X.env u) (fun _ s'=>∃ σ' H',Inv X pins σ' H' s'/\Q σ' H') X.xe s
def PGs (X:Cx) (ts:List Expr) (t:TGs):Prop :=
 ∀ (pins:List (Addr × Tz)) (s:Qe) (σ:St) (H:Hp) (vs:List V) (us:List Value) (Q:St->Hp->Prop),Inv X pins σ H s->Vals vs us->t vs σ H Q →
  Qp (Qy X.prog X.w) X.A (assignInOrder ((Vp ts X.env).map (·.2)) us) (fun _ s'=>∃ σ' H',Inv X pins σ' H' s'/\Q σ' H') X.xe s
abbrev NP:=V->V->V->Hp->(Hp->Prop)->Prop
def Ov (X:Cx) (t:NP):Prop :=
 ∀ (pins:List (Addr × Tz)) (s:Qe) (σ:St) (H:Hp) (o i v:V) (ov iv u:Value) (Q:Hp->Prop),Inv X pins σ H s->RelV o ov->RelV i iv->RelV v u->t o i v H Q →
  Qp (Qy X.prog X.w) X.A (setItem ov iv u) (fun _ s'=>∃ H',Inv X pins σ H' s'/\Q H') X.xe s
section
variable {X:Cx} {pos:V5}
def vM (i:Nat):TG:=fun v σ H Q=>Q (σ.set i (some v)) H
theorem aJ {i:Nat} {x:Q4} (hN:X.N.Nodup) (hi:X.N[i]? = some x) (hx:Loc X.env.scope x) (hf:X.fn x=true∨X.env.scope.names.lookup x=some .local:=by first | exact .inl rfl | exact .inr rfl | assumption):PG X (.Name x pos) (vM i):=by
 intro pins s σ H v u Q I r h
 exact wpAny_assign_Name (yM I hN hi hx r (fun s' I'=>⟨_,H,I',h⟩) hf)
def Px:TGs:=fun vs σ H Q=>vs=[]/\Q σ H
inductive HF (t:TG) (u:TGs) (vs:List V) (σ:St) (H:Hp) (Q:St->Hp->Prop):Prop where
 | mk (v:V) (r:List V) (z0:vs=v::r) (z1:t v σ H fun σ' H'=>u r σ' H' Q):HF t u vs σ H Q
def NT (t:TG) (u:TGs):TGs:=fun vs σ H Q=>HF t u vs σ H Q
theorem fO:PGs X [] Px:=by
 intro pins s σ H vs us Q I r h
 obtain⟨e,h⟩:=h
 subst e
 cases r
 exact assignInOrder_nil ⟨σ,H,I,h⟩
theorem bH {e:Expr} {es:List Expr} {t:TG} {u:TGs} (h1:PG X e t) (h2:PGs X es u)
  (hs:(Vp (e::es) X.env).map (·.2)=Wj e X.env::(Vp es X.env).map (·.2):=by rfl):PGs X (e::es) (NT t u):=by
 intro pins s σ H vs us Q I r h
 obtain⟨v,vr,e1,h⟩:=h
 subst e1
 cases r with
 | cons r rr =>
  rw[hs]
  refine assignInOrder_cons (thn (h1 pins s σ H _ _ _ I r h) fun _ s1 ⟨σ1,H1,I1,q1⟩=>?_)
  exact h2 pins s1 σ1 H1 _ _ Q I1 rr q1
inductive Mj (K:Qo) (n:Nat) (t:TGs) (v:V) (σ:St) (H:Hp) (Q:St->Hp->Prop):Prop where
 | mk (a:Addr) (xs:List V) (z0:v = .ref a) (z1:SqT K H a xs) (z2:xs.length=n) (z3:t xs σ H Q):Mj K n t v σ H Q
def Oi (K:Qo) (n:Nat) (t:TGs):TG:=fun v σ H Q=>Mj K n t v σ H Q
theorem M6 {es:List Expr} {k:Nat} {t:TGs} {n:Nat} (hc:X.calm=true) (h:PGs X es t)
  (hn:(Vp es X.env).length=n:=by rfl) (hst:(Vp es X.env).findIdx? (·.1)=none:=by rfl):PG X (.Tuple es k pos) (Oi X.K n t):=by
 intro pins s σ H v u Q I r hw
 obtain⟨a,xs,e1,hq,hl,hw⟩:=hw
 subst e1
 cases r
 obtain⟨its,rv,ht,hz⟩:=I.tuple hq
 refine assign_Tuple_tuple (I.ok.hd hc) ht (by simp [hn,← hl,rv.length]) hst fun h' hx=>?_
 have I1:Inv X pins σ H { s with heap:=h' }:=I.kept (t':=s.toks) fun b o e=>hx b o (QJ (Qt e)) e
 exact h pins _ σ H xs _ Q I1 (by simpa using rv) hw
def Pq (to ti:TE) (t:NP):TG:=fun v σ H Q=>to σ H fun o H1=>ti σ H1 fun i H2=>t o i v H2 fun H3=>Q σ H3
theorem HW {o i:Expr} {to ti:TE} {t:NP} (ho:PE X o to) (hi:PE X i ti) (hs:Ov X t)
  (ha:∀ v,Wj (.Subscript o i pos) X.env v=(do
   let ov ← VL [v] (S6 o X.env)
   let iv ← VL [v,ov] (S6 i X.env)
   VJ pos
   VL [v,ov,iv] (setItem ov iv v)
   release [v,ov,iv] []):=by intro _; rfl):PG X (.Subscript o i pos) (Pq to ti t):=by
 intro pins s σ H v u Q I r h
 rw[ha]
 refine Qa (R9 (thn (ho pins s σ H _ I h) fun ov s1 ⟨x,H1,I1,r1,q1⟩=>?_))
 refine Qa (R9 (thn (hi pins s1 σ H1 _ I1 q1) fun iv s2 ⟨y,H2,I2,r2,q2⟩=>?_))
 refine Qa (Uo (Qa (R9 (thn (hs pins s2 σ H2 x y v ov iv u _ I2 r1 r2 r q2) fun _ s3 ⟨H3,I3,q3⟩=>?_))))
 exact wpAny_release ⟨σ,H3,I3,q3⟩
def OD (te:TE) (g:TG):TS:=fun D σ H=>te σ H fun x H1=>g x σ H1 D.nx
theorem Bd {tg e:Expr} {te:TE} {g:TG} (he:PE X e te) (hg:PG X tg g) (hs:swapsWithSole [tg] e pos.line X.env=pure false:=by rfl) (hw:swappedStores [tg] e X.env=pure none:=by rfl)
  (h1:(Vp [tg] X.env).map (·.2)=[Wj tg X.env]:=by rfl):PS X (.Assign [tg] e pos) (OD te g):=by
 intro pins s σ H D I h
 refine wpAny_Assign_stores (thn (he pins s σ H _ I h) fun v s1 ⟨x,H1,I1,r1,q1⟩=>?_) hs hw
 rw[h1]
 exact thn (hg pins s1 σ H1 x v _ I1 r1 q1) fun _ s2 q=>q
theorem bf {i:Nat} {x:Q4} {e:Expr} {te:TE} {pos':V5} (hN:X.N.Nodup) (hi:X.N[i]? = some x) (hx:Loc X.env.scope x) (he:PE X e te) (hs:swapsWith e (some (.Name x pos')) pos.line X.env=pure false:=by rfl) (hf:X.fn x=true∨X.env.scope.names.lookup x=some .local:=by first | exact .inl rfl | exact .inr rfl | assumption) :
  PS X (.Assign [.Name x pos'] e pos) (OD te (vM i)):=by
 intro pins s σ H D I h
 refine wpAny_Assign_Name (thn (he pins s σ H _ I h) fun v s1 ⟨y,H1,I1,r1,q1⟩=>?_) hs
 exact yM I1 hN hi hx r1 (fun s2 I2=>⟨_,H1,I2,q1⟩) hf
end
section
variable {X:Cx} {pos:V5}
def IW (c:TT) (tb:TS):TS:=fun D σ H=>∃ W:Nat->St->Hp->Prop,(∃ m,W m σ H)/\∀ m σ H,W m σ H →
 c σ H fun b H1=>if b=true then ∃ N:St->Hp->Prop,(∀ σ' H',N σ' H'->∃ m',m' < m/\W m' σ' H')/\tb { D with nx:=N,ct:=N,bk:=D.nx } σ H1 else D.nx σ H1
theorem Fl {c:Expr} {body:List Stmt} {tc:TT} {tb:TS} (hp:PassesOwn (Qy X.prog X.w) X.A X.env X.xe) (hc:PT X c tc) (hb:PSs X body tb):PS X (.While c body [] pos) (IW tc tb):=by
 intro pins s σ H D I h
 obtain⟨W,⟨m0,w0⟩,turn⟩:=h
 refine wpAny_While (codeAny_whileLoop (fun n s'=>∃ σ' H',Inv X pins σ' H' s'/\W n σ' H') ?_ m0 ⟨σ,H,I,w0⟩)
 rintro n s1 ⟨σ1,H1,I1,w1⟩
 refine Ul hp (thn (hc pins s1 σ1 H1 _ I1 (turn n σ1 H1 w1)) fun b s2 ⟨H2,I2,q2⟩=>?_)
 cases b with
 | true =>
  obtain⟨N,hN,q2⟩:=q2
  rw[if_pos rfl]
  refine Ul hp (thn (hb pins s2 σ1 H2 _ I2 q2) fun f s3 q3=>?_)
  cases f with
  | next =>
   obtain⟨σ3,H3,I3,n3⟩:=q3
   obtain⟨m',hm,w3⟩:=hN σ3 H3 n3
   exact⟨m',hm,σ3,H3,I3,w3⟩
  | cont =>
   obtain⟨σ3,H3,I3,n3⟩:=q3
   obtain⟨m',hm,w3⟩:=hN σ3 H3 n3
   exact⟨m',hm,σ3,H3,I3,w3⟩
  | brk=>exact q3
  | ret v=>exact q3
 | false =>
  rw[if_neg Qk]
  exact Wv ⟨σ1,H2,I2,q2⟩
end
structure It where
 go:Nat->Hp->Prop
 yld:Nat->Hp->V->Hp->Prop
 stop:Nat->Hp->Prop
def pG (X:Cx) (pins:List (Addr × Tz)) (H:Hp) (b:Addr):Prop :=
 H b=none/\b≠X.env.locals/\b ∉ X.fs/\(b∈X.ex∨X.s₀.heap.objs.size<=b)/\(∀ x c,X.env.cells.lookup x=some c->c≠b)/\∀ p∈X.pn++pins,p.1≠b
theorem Inv.Ii {X:Cx} {pins:List (Addr × Tz)} {σ:St} {H H':Hp} {s:Qe} {b:Addr} (I:Inv X pins σ H s) (hb:s.heap.objs.size<=b) (hn:H' b=none):pG X pins H' b:=by
 refine⟨hn,Sv (Qs I.lt hb),I.O8 hb,.inr (QL I.sz hb),fun x c e z=>?_,fun p hp z=>?_⟩
 ·obtain⟨v,q⟩:=I.cell x c e
  exact absurd (Qs q.lt (by rw[z]; exact hb)) (RG _)
 ·exact absurd (Qs (Qt (I.pin p hp).1) (by rw[z]; exact hb)) (RG _)
structure Turn (P:QK) (w:Q3) (K:Qo) (tg:Expr) (J:It) (fp:List Addr) (it:Addr) (tn:Nat->Rv->Prop):Prop where
 mem:it∈fp
 obj:∀ i h,tn i h->∀ b∈fp,∃ o,h.get? b=some o/\∀ v,o.data≠.cell v
 keep:∀ i h h',tn i h->(∀ b∈fp,∀ o,h.get? b=some o->h'.get? b=some o)->tn i h'
 item:∀ (X:Cx),X.prog=P->X.w=w->X.K=K->X.calm=true->∀ (i:Nat) (pins:List (Addr × Tz)) (s:Qe) (σ:St) (H:Hp) (E:Value->Qe->Prop),Inv X pins σ H s->(∀ b∈fp,pG X pins H b)->tn i s.heap->J.go i H →
  Qp (Qy P w) X.A (Tt (.ref it)) (fun r s1=>∃ u,r=some u ∧
   Qp (Qy P w) X.A (Tv tg (.ref it) u) (fun _ s2=>∃ x H',Inv X pins σ H' s2/\RelV x u/\J.yld i H x H'/\tn (i+1) s2.heap/\∀ b∈fp,H' b=none) E s1) E s
 done:∀ (X:Cx),X.prog=P->X.w=w->X.K=K->X.calm=true->∀ (i:Nat) (pins:List (Addr × Tz)) (s:Qe) (σ:St) (H:Hp) (E:Value->Qe->Prop),Inv X pins σ H s->(∀ b∈fp,pG X pins H b)->tn i s.heap->J.stop i H →
  Qp (Qy P w) X.A (Tt (.ref it)) (fun r s1=>r=none/\Inv X pins σ H s1) E s
 self:∀ (A:Q5) (i:Nat) (s:Qe) (Q:Value->Qe->Prop) (E:Value->Qe->Prop),tn i s.heap->Q (.ref it) s->Qp (Qy P w) A (WM (.ref it)) Q E s
abbrev TI:=St->Hp->(It->Hp->Prop)->Prop
def PIE (X:Cx) (pins:List (Addr × Tz)) (σ:St) (tg:Expr) (R:It->Hp->Prop) (itv:Value) (s2:Qe):Prop :=
 ∃ (it:Addr) (fp:List Addr) (tn:Nat->Rv->Prop) (J:It) (H':Hp),itv = .ref it/\Inv X pins σ H' s2/\Turn X.prog X.w X.K tg J fp it tn/\tn 0 s2.heap/\(∀ b∈fp,pG X pins H' b)/\R J H'
def PI (X:Cx) (tg iter:Expr) (wi:TI):Prop :=
 ∀ (pins:List (Addr × Tz)) (s:Qe) (σ:St) (H:Hp) (R:It->Hp->Prop),Inv X pins σ H s->wi σ H R →
  Qp (Qy X.prog X.w) X.A (S6 iter X.env) (fun v s1=>Qp (Qy X.prog X.w) X.A (WM v) (PIE X pins σ tg R) X.xe s1) X.xe s
theorem Gj {M : Model} {A : Q5} {E : Value → Qe → Prop} {s : Qe} {tg : Expr} {it : Addr} {u : Value} {o : Tz} {n : String} {vs : Array Value} {Q : Unit → Qe → Prop} (ho : s.heap.get? it = some o) (hc : o.cls = .type n) (hd : o.data = .fields vs)
    (hn : ["enumerate", "zip", "dict_itemiterator", "dict_reverseitemiterator", "odict_iterator", "itertools.zip_longest", "itertools.pairwise"].contains n = false) (hQ : Q () s) : Qp M A (Tv tg (.ref it) u) Q E s := by
  unfold Tv
  cases tg <;> first
    | exact Qh hQ
    | (cases u <;> first
        | exact Qh hQ
        | (refine Qa (wpAny_load ho ?_)
           rw [hc, hd]
           show Qp M A (if (["enumerate", "zip", "dict_itemiterator", "dict_reverseitemiterator", "odict_iterator", "itertools.zip_longest", "itertools.pairwise"].contains n && vs[0]? == some (Sd _)) = true then _ else _) Q E s
           rw [if_neg (by intro h; rw [hn, Vn] at h; cases h)]
           exact Qh hQ))
def Itl (K:Qo) (a:Addr):It :=
 ⟨fun i H=>∃ xs x,SqL K H a xs/\xs[i]? = some x,fun i H x H'=>H'=H/\∀ xs,SqL K H a xs->xs[i]? = some x,fun i H=>∃ xs,SqL K H a xs/\xs.length<=i⟩
def Itt (K:Qo) (a:Addr):It :=
 ⟨fun i H=>∃ xs x,SqT K H a xs/\xs[i]? = some x,fun i H x H'=>H'=H/\∀ xs,SqT K H a xs->xs[i]? = some x,fun i H=>∃ xs,SqT K H a xs/\xs.length<=i⟩
def Itr (lo:Int) (n:Nat):It:=⟨fun i _=>i < n,fun i H x H'=>H'=H/\x = .int (lo+i),fun i _=>n<=i⟩
theorem BP {P:QK} {w:Q3} {K:Qo} {tg:Expr} (a it:Addr):Turn P w K tg (Itl K a) [it] it (fun i h=>h.IsListIter it a i) where
 mem:=by simp
 obj:=fun i h st b hb=>by
  have e:b=it:=by simpa using hb
  subst e
  obtain⟨o,e,c,d⟩:=st
  exact⟨o,e,fun v z=>by rw[d] at z; cases z⟩
 keep:=fun i h h' st k=>st.at fun o e=>k it (by simp) o e
 item:=by
  intro X hP hw hK hc i pins s σ H E I hf st hg
  subst hP hw hK
  obtain⟨xs,x,hq,hx⟩:=hg
  obtain⟨its,rv,p,hz⟩:=I.list hq
  obtain⟨u,hu,ru⟩:=rv.get hx
  obtain⟨f0,f1,f2,f3,f4,f5⟩:=hf it (by simp)
  refine wpAny_pyNext_list_item st p.isList (x:=u) (by simpa using hu) fun h' st' sb=>?_
  have I1:Inv X pins σ H { s with heap:=h' }:=I.turned (t':=s.toks) (fun b o hb e=>(sb.2 b hb).trans e) f0 f1 f3 f4 f5
  obtain⟨o,e,c,d⟩:=id st'
  exact⟨u,rfl,Gj (s:={ s with heap:=h' }) e c d (by decide) ⟨x,H,I1,ru,⟨rfl,fun ys hy=>by rw[I.su hy hq]; exact hx⟩,st',fun b hb=>(hf b hb).1⟩⟩
 done:=by
  intro X hP hw hK hc i pins s σ H E I hf st hg
  subst hP hw hK
  obtain⟨xs,hq,hx⟩:=hg
  obtain⟨its,rv,p,hz⟩:=I.list hq
  obtain⟨f0,f1,f2,f3,f4,f5⟩:=hf it (by simp)
  have hl:=rv.length
  exact wpAny_pyNext_list_end (I.ok.hd hc) st p.isList (by simp; lia) fun h' eb=>⟨rfl,I.turned (t':=s.toks) (fun b o hb e=>eb b o hb e) f0 f1 f3 f4 f5⟩
 self:=fun _ _ _ _ _ st h=>wpAny_pyIter_listiter st h
theorem zN {P:QK} {w:Q3} {K:Qo} {tg:Expr} (a it:Addr):Turn P w K tg (Itt K a) [it] it (fun i h=>h.IsTupleIter it a i) where
 mem:=by simp
 obj:=fun i h st b hb=>by
  have e:b=it:=by simpa using hb
  subst e
  obtain⟨o,e,c,d⟩:=st
  exact⟨o,e,fun v z=>by rw[d] at z; cases z⟩
 keep:=fun i h h' st k=>st.at fun o e=>k it (by simp) o e
 item:=by
  intro X hP hw hK hc i pins s σ H E I hf st hg
  subst hP hw hK
  obtain⟨xs,x,hq,hx⟩:=hg
  obtain⟨its,rv,p,hz⟩:=I.tuple hq
  obtain⟨u,hu,ru⟩:=rv.get hx
  obtain⟨f0,f1,f2,f3,f4,f5⟩:=hf it (by simp)
  refine wpAny_pyNext_tuple_item st (show s.heap.IsTuple a its.toArray from p) (x:=u) (by simpa using hu) fun h' st' sb=>?_
  have I1:Inv X pins σ H { s with heap:=h' }:=I.turned (t':=s.toks) (fun b o hb e=>(sb.2 b hb).trans e) f0 f1 f3 f4 f5
  obtain⟨o,e,c,d⟩:=id st'
  exact⟨u,rfl,Gj (s:={ s with heap:=h' }) e c d (by decide) ⟨x,H,I1,ru,⟨rfl,fun ys hy=>by rw[I.oJ hy hq]; exact hx⟩,st',fun b hb=>(hf b hb).1⟩⟩
 done:=by
  intro X hP hw hK hc i pins s σ H E I hf st hg
  subst hP hw hK
  obtain⟨xs,hq,hx⟩:=hg
  obtain⟨its,rv,p,hz⟩:=I.tuple hq
  obtain⟨f0,f1,f2,f3,f4,f5⟩:=hf it (by simp)
  have hl:=rv.length
  exact wpAny_pyNext_tuple_end (I.ok.hd hc) st (show s.heap.IsTuple a its.toArray from p) (by simp; lia) fun h' eb=>⟨rfl,I.turned (t':=s.toks) (fun b o hb e=>eb b o hb e) f0 f1 f3 f4 f5⟩
 self:=fun _ _ _ _ _ st h=>wpAny_pyIter_tupleiter st h
theorem zL {P:QK} {w:Q3} {K:Qo} {tg:Expr} (it:Addr) (lo:Int) (n:Nat):Turn P w K tg (Itr lo n) [it] it (fun i h=>IsRangeIter h it (lo+(i:Nat) * 1) ((n:Int) - (i:Nat)) 1) where
 mem:=by simp
 obj:=fun i h st b hb=>by
  have e:b=it:=by simpa using hb
  subst e
  exact⟨_,st,fun v z=>by
   have z':Data.fields _=Data.cell v:=z
   cases z'⟩
 keep:=fun i h h' st k=>k it (by simp) _ st
 item:=by
  intro X hP hw hK hc i pins s σ H E I hf st hg
  subst hP hw hK
  obtain⟨f0,f1,f2,f3,f4,f5⟩:=hf it (by simp)
  have W:=Walks.range (prog:=X.prog) (w:=X.w) (I.ok.hd hc) it lo 1 n
  refine W.item i s _ _ hg st fun v h' tk hv st' kk=>?_
  obtain⟨t,rfl⟩:=hv
  have I1:Inv X pins σ H { s with heap:=h',toks:=tk }:=I.turned (fun b o hb e=>kk b o (by simpa using hb) e) f0 f1 f3 f4 f5
  refine⟨_,rfl,Gj (s:={ s with heap:=h',toks:=tk }) (n:="range_iterator") st' rfl rfl (by decide) ⟨.int (lo+i),H,I1,⟨t,?_⟩,⟨rfl,rfl⟩,st',fun b hb=>(hf b hb).1⟩⟩
  rw[Int.mul_one]
 done:=by
  intro X hP hw hK hc i pins s σ H E I hf st hg
  subst hP hw hK
  obtain⟨f0,f1,f2,f3,f4,f5⟩:=hf it (by simp)
  exact wpAny_pyNext_range_end (I.ok.hd hc) st (by have:n<=i:=hg; lia) fun h' eb=>⟨rfl,I.turned (t':=s.toks) (fun b o hb e=>eb b o hb e) f0 f1 f3 f4 f5⟩
 self:=fun _ _ _ _ _ st h=>wpAny_pyIter_rangeiter st h
end L2
namespace L2
open PySem PySem.Spec PyProof.Rows
section
variable {X:Cx} {tg:Expr}
def Jz (K:Qo) (tl:TE):TI:=fun σ H R=>tl σ H fun x H1=>∃ a,x = .ref a/\(∃ xs,SqL K H1 a xs)/\R (Itl K a) H1
def Om (K:Qo) (tl:TE):TI:=fun σ H R=>tl σ H fun x H1=>∃ a,x = .ref a/\(∃ xs,SqT K H1 a xs)/\R (Itt K a) H1
theorem dN {l:Expr} {tl:TE} (hl:PE X l tl):PI X tg l (Jz X.K tl):=by
 intro pins s σ H R I h
 refine thn (hl pins s σ H _ I h) fun v s1 ⟨x,H1,I1,r1,q1⟩=>?_
 obtain⟨a,e,⟨xs,hq⟩,q⟩:=q1
 subst e
 cases r1
 obtain⟨its,rv,p,hz⟩:=I1.list hq
 refine Us p.isList ?_
 refine⟨s1.heap.objs.size,[s1.heap.objs.size],_,_,H1,rfl,I1.kept (t':=s1.toks) fun b o e=>Qd _ e,BP a _,⟨_,Qn _ rfl,rfl,rfl⟩,fun b hb=>?_,q⟩
 have e:b=s1.heap.objs.size:=by simpa using hb
 subst e
 exact I1.Ii (Ql _) (I1.hok.fresh (Ql _))
theorem dj {l:Expr} {tl:TE} (hl:PE X l tl):PI X tg l (Om X.K tl):=by
 intro pins s σ H R I h
 refine thn (hl pins s σ H _ I h) fun v s1 ⟨x,H1,I1,r1,q1⟩=>?_
 obtain⟨a,e,⟨xs,hq⟩,q⟩:=q1
 subst e
 cases r1
 obtain⟨its,rv,p,hz⟩:=I1.tuple hq
 refine wpAny_pyIter_tuple (show s1.heap.IsTuple a its.toArray from p) ?_
 refine⟨s1.heap.objs.size,[s1.heap.objs.size],_,_,H1,rfl,I1.kept (t':=s1.toks) fun b o e=>Qd _ e,zN a _,⟨_,Qn _ rfl,rfl,rfl⟩,fun b hb=>?_,q⟩
 have e:b=s1.heap.objs.size:=by simpa using hb
 subst e
 exact I1.Ii (Ql _) (I1.hok.fresh (Ql _))
theorem FT {pins:List (Addr × Tz)} {σ:St} {H:Hp} {s:Qe} {R:It->Hp->Prop} {E:Value->Qe->Prop} {lo hi:Int} {t u v:Tok} {tk:Nat} (I:Inv X pins σ H s) (h1 : -(2 ^ 62)<=lo) (h2:lo < 2 ^ 62) (h3 : -(2 ^ 62)<=hi) (h4:hi < 2 ^ 62)
  (q:R (Itr lo (hi - lo).toNat) H):Qp (Qy X.prog X.w) X.A (WM (.ref s.heap.objs.size)) (PIE X pins σ tg R) E { s with heap:=s.heap.push { cls:=.type "range",data:=.fields #[.int lo t,.int hi u,.int 1 v] },toks:=tk }:=by
 refine wpAny_pyIter_range (IsRange.new ..) (small_one h1 h2 h3 h4) ?_
 have I1:Inv X pins σ H { s with heap:=s.heap.push { cls:=.type "range",data:=.fields #[.int lo t,.int hi u,.int 1 v] },toks:=tk }:=I.kept fun b o e=>Qd _ e
 refine⟨(s.heap.push { cls:=.type "range",data:=.fields #[.int lo t,.int hi u,.int 1 v] }).objs.size,[(s.heap.push { cls:=.type "range",data:=.fields #[.int lo t,.int hi u,.int 1 v] }).objs.size],_,_,H,rfl,
  I1.kept (t':=tk) fun b o e=>Qd _ e,zL _ lo (hi - lo).toNat,?_,fun b hb=>?_,q⟩
 ·have e1:lo+((0:Nat):Int) * 1=lo:=by simp
  have e2:(((hi - lo).toNat:Nat):Int) - ((0:Nat):Int)=Builtin.Range.rangeSize lo hi 1:=by rw[rangeSize_one]; split <;> lia
  show IsRangeIter _ _ (lo+((0:Nat):Int) * 1) ((((hi - lo).toNat:Nat):Int) - ((0:Nat):Int)) 1
  rw[e1,e2]
  exact Qn _ rfl
 ·have e:b=(s.heap.push { cls:=.type "range",data:=.fields #[.int lo t,.int hi u,.int 1 v] }).objs.size:=by simpa using hb
  subst e
  exact I1.Ii (Ql _) (I1.hok.fresh (Ql _))
def N5 (ta:TA):TI:=fun σ H R=>ta σ H fun vs H1=>∃ j:Int,vs=[.int j]/\-(2 ^ 62)<=j/\j < 2 ^ 62/\R (Itr 0 j.toNat) H1
theorem bU {a:Expr} {ta:TA} {p pos:V5} (hg:Gl X "range") (hm:X.mg "range" = none) (ha:PA X [a] ta) (hs:QS [a] X.env=[(false,S6 a X.env)]:=by rfl):PI X tg (.Call (.Name "range" p) [a] [] pos) (N5 ta):=by
 intro pins s σ H R I h
 refine Call_ (jh I hg hm boot_range (Sy (thn (ha pos pins s σ H _ I h) fun us s1 ⟨vs,H1,I1,r1,q1⟩=>?_) hs rfl))
 obtain⟨j,e,q1,q2,q⟩:=q1
 subst e
 cases r1 with
 | cons r rr =>
  cases rr
  obtain⟨t,rfl⟩:=r
  exact call_range_1 (FT I1 (by lia) (by lia) q1 q2 (by simpa using q))
def Pb (wi:TI) (g:TG) (tb:TS):TS:=fun D σ H=>wi σ H fun J H1=>∃ W:Nat->Nat->St->Hp->Prop,(∃ m,W 0 m σ H1)/\∀ i m σ H,W i m σ H →
 (J.stop i H/\D.nx σ H)∨(J.go i H/\∃ N:St->Hp->Prop,(∀ σ' H',N σ' H'->∃ m',m' < m/\W (i+1) m' σ' H')/\∀ x H',J.yld i H x H'->g x σ H' fun σ2 H2=>tb { D with nx:=N,ct:=N,bk:=D.nx } σ2 H2)
def jO (fp:List Addr) (h:Rv):List (Addr × Tz):=fp.filterMap fun b=>(h.get? b).map fun o=>(b,o)
theorem cN {fp:List Addr} {h:Rv} {b:Addr} {o:Tz} (hb:b∈fp) (e:h.get? b=some o):(b,o)∈jO fp h:=List.mem_filterMap.mpr ⟨b,hb,by rw[e]; rfl⟩
theorem BJ {fp:List Addr} {h:Rv} {p:Addr × Tz} (hp:p∈jO fp h):p.1∈fp/\h.get? p.1=some p.2:=by
 obtain⟨b,hb,e⟩:=List.mem_filterMap.mp hp
 cases q:h.get? b with
 | none=>rw[q] at e; cases e
 | some o =>
  rw[q] at e
  have e':(b,o)=p:=QZ e
  subst e'
  exact⟨hb,q⟩
theorem Inv.pinned {pins:List (Addr × Tz)} {σ:St} {H:Hp} {s:Qe} {fp:List Addr} (I:Inv X pins σ H s) (hf:∀ b∈fp,pG X pins H b) (ho:∀ b∈fp,∃ o,s.heap.get? b=some o/\∀ v,o.data≠.cell v):Inv X (pins++jO fp s.heap) σ H s :=
 I.Dq fun p hp=>(List.mem_append.mp hp).elim (fun z=>I.pin p (QB _ z)) fun z=>by
  obtain⟨hb,e⟩:=BJ z
  obtain⟨f0,f1,f2,_⟩:=hf p.1 hb
  obtain⟨o,e',d⟩:=ho p.1 hb
  rw[e] at e'; cases e'
  exact⟨e,f0,f1,f2,d⟩
theorem Inv.gj {pins pl:List (Addr × Tz)} {σ:St} {H:Hp} {s:Qe} (I:Inv X (pins++pl) σ H s):Inv X pins σ H s:=I.Dq fun p hp=>I.pin p (QB _ (W5 _ hp))
theorem cY {iter:Expr} {body:List Stmt} {wi:TI} {g:TG} {tb:TS} {pos:V5} (hp:PassesOwn (Qy X.prog X.w) X.A X.env X.xe) (hc:X.calm=true) (hi:PI X tg iter wi) (hg:PG X tg g) (hb:PSs X body tb)
  (hs:∀ x,SN iter X.env x=pure x:=by intro _; rfl):PS X (.For tg iter body [] pos) (Pb wi g tb):=by
 intro pins s σ H D I h
 refine wpAny_For (thn (hi pins s σ H _ I h) fun v s1 h1=>thn h1 fun itv s2 h2=>?_) hs
 obtain⟨it,fp,tn,J,H2,e,I2,T,st2,f2,W,⟨m0,w0⟩,turn⟩:=h2
 subst e
 have stat:∀ {H':Hp},(∀ b∈fp,H' b=none)->∀ b∈fp,pG X pins H' b:=fun hn b hb=>⟨hn b hb,(f2 b hb).2⟩
 refine codeAny_forLoop_any (fun n s'=>∃ i σ' H',Inv X pins σ' H' s'/\tn i s'.heap/\(∀ b∈fp,H' b=none)/\W i n σ' H') ?_ m0 ⟨0,σ,H2,I2,st2,fun b hb=>(f2 b hb).1,w0⟩
 rintro n s3 ⟨i,σ3,H3,I3,st3,fr3,w3⟩
 rcases turn i n σ3 H3 w3 with⟨stop,qn⟩ | ⟨go,N,hN,step⟩
 ·refine Ul hp (thn (T.done X rfl rfl rfl hc i pins s3 σ3 H3 X.xe I3 (stat fr3) st3 stop) fun r s4 ⟨hr,I4⟩=>?_)
  subst hr
  exact Wv ⟨σ3,H3,I4,qn⟩
 ·refine Ul hp (thn (T.item X rfl rfl rfl hc i pins s3 σ3 H3 X.xe I3 (stat fr3) st3 go) fun r s4 ⟨u,hr,h4⟩=>?_)
  subst hr
  refine Ul hp (thn h4 fun _ s5 ⟨x,H5,I5,r5,y5,st5,fr5⟩=>?_)
  have I5':=I5.pinned (stat fr5) (T.obj _ _ st5)
  refine Ul hp (thn (hg _ s5 σ3 H5 x u _ I5' r5 (step x H5 y5)) fun _ s6 ⟨σ6,H6,I6,q6⟩=>?_)
  refine Ul hp (thn (hb _ s6 σ6 H6 _ I6 q6) fun f s7 q7=>?_)
  have again:∀ {σ7:St} {H7:Hp},Inv X (pins++jO fp s5.heap) σ7 H7 s7->N σ7 H7->∃ m,m < n/\∃ i σ' H',Inv X pins σ' H' s7/\tn i s7.heap/\(∀ b∈fp,H' b=none)/\W i m σ' H':=fun {σ7 H7} I7 n7=>by
   obtain⟨m',hm,w7⟩:=hN σ7 H7 n7
   refine⟨m',hm,i+1,σ7,H7,I7.gj,T.keep _ _ _ st5 fun b hb o e=>(I7.pin (b,o) (QB _ (QB _ (cN hb e)))).1,fun b hb=>?_,w7⟩
   obtain⟨o,e,d⟩:=T.obj _ _ st5 b hb
   exact (I7.pin (b,o) (QB _ (QB _ (cN hb e)))).2.1
  cases f with
  | next=>obtain⟨σ7,H7,I7,n7⟩:=q7; exact again I7 n7
  | cont=>obtain⟨σ7,H7,I7,n7⟩:=q7; exact again I7 n7
  | brk=>obtain⟨σ7,H7,I7,q7⟩:=q7; exact⟨σ7,H7,I7.gj,q7⟩
  | ret v=>obtain⟨x7,σ7,H7,I7,r7,q7⟩:=q7; exact⟨x7,σ7,H7,I7.gj,r7,q7⟩
end
theorem gF {K:Qo} {a:Addr} {xs:List V} {g:TG} {tb:TS} {D:Ends} {σ:St} {H:Hp} (Pv:Nat->St->Hp->Prop) (h0:Pv 0 σ H) (hl:∀ i σ H,i<=xs.length->Pv i σ H->SqL K H a xs)
  (hs:∀ i x σ H,xs[i]? = some x->Pv i σ H->g x σ H fun σ2 H2=>tb { D with nx:=Pv (i+1),ct:=Pv (i+1),bk:=D.nx } σ2 H2) (hd:∀ σ H,Pv xs.length σ H->D.nx σ H) :
  ∃ W:Nat->Nat->St->Hp->Prop,(∃ m,W 0 m σ H)/\∀ i m σ H,W i m σ H →
   ((Itl K a).stop i H/\D.nx σ H)∨((Itl K a).go i H/\∃ N:St->Hp->Prop,(∀ σ' H',N σ' H'->∃ m',m' < m/\W (i+1) m' σ' H')/\∀ x H',(Itl K a).yld i H x H'->g x σ H' fun σ2 H2=>tb { D with nx:=N,ct:=N,bk:=D.nx } σ2 H2):=by
 refine⟨fun i m σ H=>m=xs.length - i/\i<=xs.length/\Pv i σ H,⟨xs.length,by simp,QW _,h0⟩,?_⟩
 rintro i m σ H ⟨rfl,hi,p⟩
 have q:=hl i σ H hi p
 by_cases hlt:i < xs.length
 ·refine .inr ⟨⟨xs,xs[i],q,by simp [hlt]⟩,Pv (i+1),fun σ' H' p'=>⟨xs.length - (i+1),by lia,rfl,hlt,p'⟩,fun x H' y=>?_⟩
  obtain⟨e,y⟩:=y
  subst e
  exact hs i x σ _ (y xs q) p
 ·have e:i=xs.length:=by lia
  subst e
  exact .inl ⟨⟨xs,q,Ql _⟩,hd σ H p⟩
theorem oR {K:Qo} {a:Addr} {xs:List V} {g:TG} {tb:TS} {D:Ends} {σ:St} {H:Hp} (Pv:Nat->St->Hp->Prop) (h0:Pv 0 σ H) (hl:∀ i σ H,i<=xs.length->Pv i σ H->SqT K H a xs)
  (hs:∀ i x σ H,xs[i]? = some x->Pv i σ H->g x σ H fun σ2 H2=>tb { D with nx:=Pv (i+1),ct:=Pv (i+1),bk:=D.nx } σ2 H2) (hd:∀ σ H,Pv xs.length σ H->D.nx σ H) :
  ∃ W:Nat->Nat->St->Hp->Prop,(∃ m,W 0 m σ H)/\∀ i m σ H,W i m σ H →
   ((Itt K a).stop i H/\D.nx σ H)∨((Itt K a).go i H/\∃ N:St->Hp->Prop,(∀ σ' H',N σ' H'->∃ m',m' < m/\W (i+1) m' σ' H')/\∀ x H',(Itt K a).yld i H x H'->g x σ H' fun σ2 H2=>tb { D with nx:=N,ct:=N,bk:=D.nx } σ2 H2):=by
 refine⟨fun i m σ H=>m=xs.length - i/\i<=xs.length/\Pv i σ H,⟨xs.length,by simp,QW _,h0⟩,?_⟩
 rintro i m σ H ⟨rfl,hi,p⟩
 have q:=hl i σ H hi p
 by_cases hlt:i < xs.length
 ·refine .inr ⟨⟨xs,xs[i],q,by simp [hlt]⟩,Pv (i+1),fun σ' H' p'=>⟨xs.length - (i+1),by lia,rfl,hlt,p'⟩,fun x H' y=>?_⟩
  obtain⟨e,y⟩:=y
  subst e
  exact hs i x σ _ (y xs q) p
 ·have e:i=xs.length:=by lia
  subst e
  exact .inl ⟨⟨xs,q,Ql _⟩,hd σ H p⟩
theorem dI {lo:Int} {n:Nat} {g:TG} {tb:TS} {D:Ends} {σ:St} {H:Hp} (Pv:Nat->St->Hp->Prop) (h0:Pv 0 σ H)
  (hs:∀ i σ H,i < n->Pv i σ H->g (.int (lo+i)) σ H fun σ2 H2=>tb { D with nx:=Pv (i+1),ct:=Pv (i+1),bk:=D.nx } σ2 H2) (hd:∀ σ H,Pv n σ H->D.nx σ H) :
  ∃ W:Nat->Nat->St->Hp->Prop,(∃ m,W 0 m σ H)/\∀ i m σ H,W i m σ H →
   ((Itr lo n).stop i H/\D.nx σ H)∨((Itr lo n).go i H/\∃ N:St->Hp->Prop,(∀ σ' H',N σ' H'->∃ m',m' < m/\W (i+1) m' σ' H')/\∀ x H',(Itr lo n).yld i H x H'->g x σ H' fun σ2 H2=>tb { D with nx:=N,ct:=N,bk:=D.nx } σ2 H2):=by
 refine⟨fun i m σ H=>m=n - i/\i<=n/\Pv i σ H,⟨n,by simp,QW _,h0⟩,?_⟩
 rintro i m σ H ⟨rfl,hi,p⟩
 by_cases hlt:i < n
 ·refine .inr ⟨hlt,Pv (i+1),fun σ' H' p'=>⟨n - (i+1),by lia,rfl,hlt,p'⟩,fun x H' y=>?_⟩
  obtain⟨e,y⟩:=y
  subst e y
  exact hs i σ _ hlt p
 ·have e:i=n:=by lia
  subst e
  exact .inl ⟨Ql _,hd σ H p⟩
theorem Ho {c:TT} {tb:TS} {D:Ends} {σ:St} {H:Hp} (Pv:St->Hp->Prop) (μ:St->Hp->Nat) (h0:Pv σ H)
  (hs:∀ σ H,Pv σ H->c σ H fun b H1=>if b=true then tb { D with nx:=fun σ' H'=>Pv σ' H'/\μ σ' H' < μ σ H,ct:=fun σ' H'=>Pv σ' H'/\μ σ' H' < μ σ H,bk:=D.nx } σ H1 else D.nx σ H1)
  (mono:∀ σ H Q Q',(∀ b H1,Q b H1->Q' b H1)->c σ H Q->c σ H Q'):IW c tb D σ H:=by
 refine⟨fun m σ H=>m=μ σ H/\Pv σ H,⟨_,rfl,h0⟩,?_⟩
 rintro m σ H ⟨rfl,p⟩
 refine mono σ H _ _ (fun b H1 q=>?_) (hs σ H p)
 cases b with
 | true=>exact⟨_,fun σ' H' ⟨p',l⟩=>⟨_,l,rfl,p'⟩,q⟩
 | false=>exact q
end L2
namespace L2
open PySem PySem.Spec PyProof.Rows
abbrev R2:=V->V->Hp->VK->Prop
def OpR (X:Cx) (f:Value->Value->Sem Value) (r:R2):Prop :=
 ∀ (pins:List (Addr × Tz)) (s:Qe) (σ:St) (H:Hp) (x y:V) (v u:Value) (Q:VK),Inv X pins σ H s->RelV x v->RelV y u->r x y H Q →
  Qp (Qy X.prog X.w) X.A (f v u) (EP X pins σ Q) X.xe s
def UnR (X:Cx) (f:Value->Sem Value) (r:V->Hp->VK->Prop):Prop :=
 ∀ (pins:List (Addr × Tz)) (s:Qe) (σ:St) (H:Hp) (x:V) (v:Value) (Q:VK),Inv X pins σ H s->RelV x v->r x H Q →
  Qp (Qy X.prog X.w) X.A (f v) (EP X pins σ Q) X.xe s
def gh (X:Cx) (f:Value) (r:List V->Hp->VK->Prop):Prop :=
 ∀ (pins:List (Addr × Tz)) (s:Qe) (σ:St) (H:Hp) (xs:List V) (us:List Value) (Q:VK),Inv X pins σ H s->Vals xs us->r xs H Q →
  Qp (Qy X.prog X.w) X.A (call f us) (EP X pins σ Q) X.xe s
def tOp (r:R2) (ta tb:TE):TE:=fun σ H Q=>ta σ H fun x H1=>tb σ H1 fun y H2=>r x y H2 Q
def tUn (r:V->Hp->VK->Prop) (ta:TE):TE:=fun σ H Q=>ta σ H fun x H1=>r x H1 Q
inductive RII (C:Int->Int->Prop) (g:Int->Int->V) (x:V) (y:V) (H:Hp) (Q:VK):Prop where
 | mk (i:Int) (j:Int) (z0:x = .int i) (z1:y = .int j) (z2:C i j) (z3:Q (g i j) H):RII C g x y H Q
def rI (C:Int->Int->Prop) (g:Int->Int->V):R2:=fun x y H Q=>RII C g x y H Q
inductive Ot (g:Int->Int->V) (x:V) (y:V) (H:Hp) (Q:VK):Prop where
 | mk (i:Int) (j:Int) (z0:x = .int i) (z1:y = .int j) (z2:Q (g i j) H):Ot g x y H Q
def rI0 (g:Int->Int->V):R2:=fun x y H Q=>Ot g x y H Q
inductive RUI (g:Int->V) (x:V) (H:Hp) (Q:VK):Prop where
 | mk (i:Int) (z0:x = .int i) (z1:Q (g i) H):RUI g x H Q
def rU (g:Int->V):V->Hp->VK->Prop:=fun x H Q=>RUI g x H Q
section
variable {X:Cx} {a b c:Expr} {ta tb tc:TE} {pos:V5}
theorem Nr (ha:PE X a ta) (hb:PE X b tb) {pins:List (Addr × Tz)} {s:Qe} {σ:St} {H:Hp} {R:V->V->Hp->Prop} (I:Inv X pins σ H s)
  (h:ta σ H fun x H1=>tb σ H1 fun y H2=>R x y H2) {Q:Value->Qe->Prop} {f:Value->Value->Sem Value}
  (hf:∀ v u s2 x y H2,Inv X pins σ H2 s2->RelV x v->RelV y u->R x y H2->Qp (Qy X.prog X.w) X.A (f v u) Q X.xe s2) :
  Qp (Qy X.prog X.w) X.A (S6 a X.env) (fun v s₁=>Qp (Qy X.prog X.w) X.A (S6 b X.env) (fun u s₂=>Qp (Qy X.prog X.w) X.A (f v u) Q X.xe s₂) X.xe s₁) X.xe s:=by
 refine thn (ha pins s σ H _ I h) fun v s1 ⟨x,H1,I1,r1,q1⟩=>?_
 refine thn (hb pins s1 σ H1 _ I1 q1) fun u s2 ⟨y,H2,I2,r2,q2⟩=>?_
 exact hf v u s2 x y H2 I2 r1 r2 q2
theorem aV {op:Operator} {r:R2} (ho:OpR X (Vj op) r) (ha:PE X a ta) (hb:PE X b tb):PE X (.BinOp a op b pos) (tOp r ta tb):=by
 intro pins s σ H Q I h
 exact wpAny_BinOp (Nr ha hb I h fun v u s2 x y H2 I2 rx ry q=>ho pins s2 σ H2 x y v u Q I2 rx ry q)
theorem GC {op:UnaryOp} {r:V->Hp->VK->Prop} (ho:UnR X (unaryOp op) r) (ha:PE X a ta):PE X (.UnaryOp op a pos) (tUn r ta):=by
 intro pins s σ H Q I h
 exact UnaryOp_ (thn (ha pins s σ H _ I h) fun v s1 ⟨x,H1,I1,r1,q1⟩=>ho pins s1 σ H1 x v Q I1 r1 q1)
theorem opI {f:Value->Value->Sem Value} {C:Int->Int->Prop} {g:Int->Int->Int}
  (rule:∀ (i j:Int) (t u:Tok) (s:Qe) (Q:Value->Qe->Prop) (E:Value->Qe->Prop),C i j->Q (.int (g i j) s.toks) { s with toks:=s.toks+1 }->Qp (Qy X.prog X.w) X.A (f (.int i t) (.int j u)) Q E s) :
  OpR X f (rI C fun i j=>.int (g i j)):=by
 intro pins s σ H x y v u Q I rx ry h
 obtain⟨i,j,rfl,rfl,hc,q⟩:=h
 obtain⟨t,rfl⟩:=rx
 obtain⟨t',rfl⟩:=ry
 exact rule i j t t' s _ _ hc ⟨.int (g i j),H,I.tok _,⟨_,rfl⟩,q⟩
theorem O3 {f:Value->Value->Sem Value} {g:Int->Int->Int}
  (rule:∀ (i j:Int) (t u:Tok) (s:Qe) (Q:Value->Qe->Prop) (E:Value->Qe->Prop),Q (.int (g i j) s.toks) { s with toks:=s.toks+1 }->Qp (Qy X.prog X.w) X.A (f (.int i t) (.int j u)) Q E s) :
  OpR X f (rI0 fun i j=>.int (g i j)):=by
 intro pins s σ H x y v u Q I rx ry h
 obtain⟨i,j,rfl,rfl,q⟩:=h
 obtain⟨t,rfl⟩:=rx
 obtain⟨t',rfl⟩:=ry
 exact rule i j t t' s _ _ ⟨.int (g i j),H,I.tok _,⟨_,rfl⟩,q⟩
theorem Nj {f:Value->Value->Sem Value} {g:Int->Int->Bool}
  (rule:∀ (i j:Int) (t u:Tok) (s:Qe) (Q:Value->Qe->Prop) (E:Value->Qe->Prop),Q (.bool (g i j)) s->Qp (Qy X.prog X.w) X.A (f (.int i t) (.int j u)) Q E s) :
  OpR X f (rI0 fun i j=>.bl (g i j)):=by
 intro pins s σ H x y v u Q I rx ry h
 obtain⟨i,j,rfl,rfl,q⟩:=h
 obtain⟨t,rfl⟩:=rx
 obtain⟨t',rfl⟩:=ry
 exact rule i j t t' s _ _ ⟨.bl (g i j),H,I,rfl,q⟩
def PL (i j:Int):Prop:=0 < j/\j < 1073741824
def Pa (i j:Int):Prop:=0<=j/\j<=1000000/\i.natAbs < 2 ^ 64
def NB (i j:Int):Prop:=(-(2 ^ 64) < i/\i < 2 ^ 64)∨(-(2 ^ 64) < j/\j < 2 ^ 64)
theorem NB.ok {i j:Int} (h:NB i j):IntMulOk i j:=by
 rcases h with⟨h1,h2⟩ | ⟨h1,h2⟩
 ·exact .of_left (intBits_le_64 h1 h2)
 ·exact .of_right (intBits_le_64 h1 h2)
theorem bI:OpR X (Vj .Add) (rI0 fun i j=>.int (i+j)):=O3 fun _ _ _ _ _ _ _ q=>add_int q
theorem iD:OpR X (Vj .Sub) (rI0 fun i j=>.int (i - j)):=O3 fun _ _ _ _ _ _ _ q=>sub_int q
theorem fW:OpR X (Vj .Mult) (rI NB fun i j=>.int (i * j)):=opI fun _ _ _ _ _ _ _ hc q=>mul_int q hc.ok
theorem wB:OpR X (Vj .FloorDiv) (rI PL fun i j=>.int (i / j)):=opI fun i j _ _ _ _ _ hc q=>by
 have h1:(0:Int) < j:=hc.1
 have h2:j < 1073741824:=hc.2
 exact floordiv_int (by lia) (by rw[Int.fdiv_eq_ediv_of_nonneg i (by lia)]; exact q) (.inl (PyProof.noPylong_small (by lia)))
theorem cR:OpR X (Vj .Mod) (rI (fun _ j=>0 < j) fun i j=>.int (i % j)):=opI fun i j _ _ _ _ _ hc q=>by
 have h1:(0:Int) < j:=hc
 exact mod_int' (by lia) (by rw[Int.fmod_eq_emod_of_nonneg i (by lia)]; exact q)
theorem pW:OpR X (Vj .Pow) (rI Pa fun i j=>.int (i ^ j.toNat)):=opI fun _ _ _ _ _ _ _ hc q=>pow_int_small hc.1 hc.2.1 hc.2.2 q
theorem unI {f:Value->Sem Value} {g:Int->Int}
  (rule:∀ (i:Int) (t:Tok) (s:Qe) (Q:Value->Qe->Prop) (E:Value->Qe->Prop),Q (.int (g i) s.toks) { s with toks:=s.toks+1 }->Qp (Qy X.prog X.w) X.A (f (.int i t)) Q E s) :
  UnR X f (rU fun i=>.int (g i)):=by
 intro pins s σ H x v Q I rx h
 obtain⟨i,rfl,q⟩:=h
 obtain⟨t,rfl⟩:=rx
 exact rule i t s _ _ ⟨.int (g i),H,I.tok _,⟨_,rfl⟩,q⟩
theorem xJ:UnR X (unaryOp .USub) (rU fun i=>.int (-i)):=unI fun _ _ _ _ _ q=>neg_int q
end
def Oj:V->V->Bool
 | .non,.non=>true | .non,.int _=>true | .int _,.non=>true | .non,.bl _=>true | .bl _,.non=>true | .non,.str _=>true | .str _,.non=>true
 | .int _,.int _=>true | .bl _,.bl _=>true | .str _,.str _=>true | .byt _,.byt _=>true
 | .int _,.str _=>true | .str _,.int _=>true | .bl _,.str _=>true | .str _,.bl _=>true
 | _,_=>false
def rEq:R2:=fun x y H Q=>Oj x y=true/\Q (.bl (decide (x=y))) H
def rNe:R2:=fun x y H Q=>Oj x y=true/\Q (.bl (!decide (x=y))) H
theorem De {i j:Int}:decide (V.int i=V.int j)=(i == j):=by
 rw[VD]
 simp
theorem Io {i j:Bool}:decide (V.bl i=V.bl j)=(i == j):=by
 rw[VD]
 simp
theorem Et {i j:Q4}:decide (V.str i=V.str j)=(i == j):=by
 rw[VD]
 simp
theorem Dt {i j:Array UInt8}:decide (V.byt i=V.byt j)=(i.toList == j.toList):=by
 rw[VD]
 cases i
 cases j
 simp
section
variable {X:Cx} {a b c:Expr} {ta tb tc:TE} {pos:V5}
theorem cD {pins:List (Addr × Tz)} {σ:St} {H:Hp} {s:Qe} {Q:VK} {k k':Bool} (I:Inv X pins σ H s) (q:Q (.bl k) H) (e:k=k'):EP X pins σ Q (.bool k') s:=by
 subst e
 exact⟨.bl k,H,I,rfl,q⟩
theorem cz:OpR X (Tj .Eq) rEq:=by
 intro pins s σ H x y v u Q I rx ry h
 obtain⟨hs,q⟩:=h
 cases x with
 | non =>
  cases rx
  cases y with
  | non=>cases ry; exact PySem.EqNone.eq_none_none (cD I q (by simp))
  | bl j=>cases ry; exact PySem.EqNone.eq_none_bool (cD I q (by simp))
  | int j=>obtain⟨t',rfl⟩:=ry; exact PySem.EqNone.eq_none_int (cD I q (by simp))
  | str j=>obtain⟨t',rfl⟩:=ry; exact PySem.EqNone.eq_none_str (cD I q (by simp))
  | _=>exact absurd (show false=true from hs) Qk
 | bl i =>
  cases rx
  cases y with
  | non=>cases ry; exact PySem.EqNone.eq_bool_none (cD I q (by simp))
  | bl j=>cases ry; exact eq_bool (cD I q Io)
  | str j=>obtain⟨t',rfl⟩:=ry; exact PySem.EqMixed.eq_bool_str (cD I q (by simp))
  | _=>exact absurd (show false=true from hs) Qk
 | int i =>
  obtain⟨t,rfl⟩:=rx
  cases y with
  | non=>cases ry; exact PySem.EqNone.eq_int_none (cD I q (by simp))
  | int j=>obtain⟨t',rfl⟩:=ry; exact eq_int (cD I q De)
  | str j=>obtain⟨t',rfl⟩:=ry; exact PySem.EqMixed.eq_int_str (cD I q (by simp))
  | _=>exact absurd (show false=true from hs) Qk
 | str i =>
  obtain⟨t,rfl⟩:=rx
  cases y with
  | non=>cases ry; exact PySem.EqNone.eq_str_none (cD I q (by simp))
  | bl j=>cases ry; exact PySem.EqMixed.eq_str_bool (cD I q (by simp))
  | int j=>obtain⟨t',rfl⟩:=ry; exact PySem.EqMixed.eq_str_int (cD I q (by simp))
  | str j=>obtain⟨t',rfl⟩:=ry; exact eq_str (cD I q Et)
  | _=>exact absurd (show false=true from hs) Qk
 | byt i =>
  obtain⟨t,rfl⟩:=rx
  cases y with
  | byt j=>obtain⟨t',rfl⟩:=ry; exact PySem.W.eq_bytes (cD I q Dt)
  | _=>exact absurd (show false=true from hs) Qk
 | _=>cases y <;> exact absurd (show false=true from hs) Qk
theorem zj:OpR X (Tj .NotEq) rNe:=by
 intro pins s σ H x y v u Q I rx ry h
 obtain⟨hs,q⟩:=h
 cases x with
 | non =>
  cases rx
  cases y with
  | non=>cases ry; exact PySem.EqNone.ne_none_none (cD I q (by simp))
  | bl j=>cases ry; exact PySem.EqNone.ne_none_bool (cD I q (by simp))
  | int j=>obtain⟨t',rfl⟩:=ry; exact PySem.EqNone.ne_none_int (cD I q (by simp))
  | str j=>obtain⟨t',rfl⟩:=ry; exact PySem.EqNone.ne_none_str (cD I q (by simp))
  | _=>exact absurd (show false=true from hs) Qk
 | bl i =>
  cases rx
  cases y with
  | non=>cases ry; exact PySem.EqNone.ne_bool_none (cD I q (by simp))
  | bl j=>cases ry; exact ne_bool (cD I q (congrArg not Io))
  | str j=>obtain⟨t',rfl⟩:=ry; exact PySem.EqMixed.ne_bool_str (cD I q (by simp))
  | _=>exact absurd (show false=true from hs) Qk
 | int i =>
  obtain⟨t,rfl⟩:=rx
  cases y with
  | non=>cases ry; exact PySem.EqNone.ne_int_none (cD I q (by simp))
  | int j=>obtain⟨t',rfl⟩:=ry; exact ne_int (cD I q (congrArg not De))
  | str j=>obtain⟨t',rfl⟩:=ry; exact PySem.EqMixed.ne_int_str (cD I q (by simp))
  | _=>exact absurd (show false=true from hs) Qk
 | str i =>
  obtain⟨t,rfl⟩:=rx
  cases y with
  | non=>cases ry; exact PySem.EqNone.ne_str_none (cD I q (by simp))
  | bl j=>cases ry; exact PySem.EqMixed.ne_str_bool (cD I q (by simp))
  | int j=>obtain⟨t',rfl⟩:=ry; exact PySem.EqMixed.ne_str_int (cD I q (by simp))
  | str j=>obtain⟨t',rfl⟩:=ry; exact ne_str (cD I q (congrArg not Et))
  | _=>exact absurd (show false=true from hs) Qk
 | byt i =>
  obtain⟨t,rfl⟩:=rx
  cases y with
  | byt j=>obtain⟨t',rfl⟩:=ry; exact PySem.W.ne_bytes (cD I q (congrArg not Dt))
  | _=>exact absurd (show false=true from hs) Qk
 | _=>cases y <;> exact absurd (show false=true from hs) Qk
theorem wI:OpR X (Tj .Lt) (rI0 fun i j=>.bl (decide (i < j))):=Nj fun _ _ _ _ _ _ _ q=>lt_int q
theorem Lr:OpR X (Tj .LtE) (rI0 fun i j=>.bl (decide (i<=j))):=Nj fun _ _ _ _ _ _ _ q=>le_int q
theorem rm:OpR X (Tj .Gt) (rI0 fun i j=>.bl (decide (j < i))):=Nj fun _ _ _ _ _ _ _ q=>gt_int q
theorem mL:OpR X (Tj .GtE) (rI0 fun i j=>.bl (decide (j<=i))):=Nj fun _ _ _ _ _ _ _ q=>ge_int q
theorem aL (b:Expr) {op:CmpOp} (h:op≠.In:=by decide) (h2:op≠.NotIn:=by decide):Uq op b=false:=by
 have e1:(op == CmpOp.In)=false:=by cases op <;> first | rfl | exact absurd rfl h
 have e2:(op == CmpOp.NotIn)=false:=by cases op <;> first | rfl | exact absurd rfl h2
 cases b <;> simp [Uq,e1,e2]
theorem cu {op:CmpOp} {r:R2} (ho:OpR X (Tj op) r) (ha:PE X a ta) (hb:PE X b tb) (hm:Uq op b=false):PE X (.Compare a [op] [b] pos) (tOp r ta tb):=by
 intro pins s σ H Q I h
 exact wpAny_Compare1 (Nr ha hb I h fun v u s2 x y H2 I2 rx ry q=>ho pins s2 σ H2 x y v u Q I2 rx ry q) hm
def Nz (t:TE):TT:=fun σ H Q=>t σ H fun x H'=>ExB x fun k=>Q k H'
theorem aH {op:CmpOp} {r:R2} (ho:OpR X (Tj op) r) (ha:PE X a ta) (hb:PE X b tb) (hm:Uq op b=false):PT X (.Compare a [op] [b] pos) (Nz (tOp r ta tb)):=by
 intro pins s σ H Q I h
 refine wpAny_isTrue_Compare1 (thn (ha pins s σ H _ I h) fun v s1 ⟨x,H1,I1,r1,q1⟩=>thn (hb pins s1 σ H1 _ I1 q1) fun u s2 ⟨y,H2,I2,r2,q2⟩ =>
  thn (ho pins s2 σ H2 x y v u _ I2 r1 r2 q2) fun c s3 ⟨z,H3,I3,r3,k,e,q3⟩=>?_) hm
 subst e
 cases r3
 exact SJ ⟨H3,I3,q3⟩
theorem qw:(sizeLine:Nat) < 2 ^ 63:=by rw[sizeLine_eq]; decide
theorem vals1 {x:V} {us:List Value} (r:Vals [x] us):∃ u,us=[u]/\RelV x u:=by
 cases r with
 | cons r1 r2=>cases r2; exact⟨_,rfl,r1⟩
theorem vals2 {x y:V} {us:List Value} (r:Vals [x,y] us):∃ u w',us=[u,w']/\RelV x u/\RelV y w':=by
 cases r with
 | cons r1 r2 =>
  cases r2 with
  | cons r3 r4=>cases r4; exact⟨_,_,rfl,r1,r3⟩
theorem m5:gh X (.builtin "abs") (fun xs H Q=>∃ i,xs=[.int i]/\Q (.int (if i < 0 then -i else i)) H):=by
 intro pins s σ H xs us Q I r h
 obtain⟨i,rfl,q⟩:=h
 obtain⟨u,rfl,t,rfl⟩:=vals1 r
 exact call_abs_int fun u tk=>⟨.int (if i < 0 then -i else i),H,I.tok _,⟨_,rfl⟩,q⟩
theorem tV (hc:X.calm=true):gh X (.builtin "max") (fun xs H Q=>∃ i j,xs=[.int i,.int j]/\Q (.int (if j > i then j else i)) H):=by
 intro pins s σ H xs us Q I r h
 obtain⟨i,j,rfl,q⟩:=h
 obtain⟨u,w',rfl,⟨t,rfl⟩,⟨t',rfl⟩⟩:=vals2 r
 refine max_two_ints (I.ok.hd hc) fun h' tk k=>⟨_,H,I.kept k,?_,q⟩
 by_cases hj:j > i
 ·rw[if_pos hj,if_pos hj]; exact⟨_,rfl⟩
 ·rw[if_neg hj,if_neg hj]; exact⟨_,rfl⟩
theorem Em (hc:X.calm=true):gh X (.builtin "min") (fun xs H Q=>∃ i j,xs=[.int i,.int j]/\Q (.int (if j < i then j else i)) H):=by
 intro pins s σ H xs us Q I r h
 obtain⟨i,j,rfl,q⟩:=h
 obtain⟨u,w',rfl,⟨t,rfl⟩,⟨t',rfl⟩⟩:=vals2 r
 refine min_two_ints (I.ok.hd hc) fun h' tk k=>⟨_,H,I.kept k,?_,q⟩
 by_cases hj:j < i
 ·rw[if_pos hj,if_pos hj]; exact⟨_,rfl⟩
 ·rw[if_neg hj,if_neg hj]; exact⟨_,rfl⟩
theorem uy:gh X (.type "int") (fun xs H Q=>(∃ i,xs=[.int i]/\Q (.int i) H)∨∃ k,xs=[.bl k]/\Q (.int (if k then 1 else 0)) H):=by
 intro pins s σ H xs us Q I r h
 rcases h with⟨i,rfl,q⟩ | ⟨k,rfl,q⟩
 ·obtain⟨u,rfl,t,rfl⟩:=vals1 r
  exact call_int_int ⟨.int i,H,I,⟨_,rfl⟩,q⟩
 ·obtain⟨u,rfl,r1⟩:=vals1 r
  cases r1
  exact call_int_bool ⟨.int (if k then 1 else 0),H,I.tok _,⟨_,rfl⟩,q⟩
end
end L2
namespace L2
open PySem PySem.Spec PyProof.Rows
structure JP (h:Rv) (x dx C:Addr) (mA:Q4->Option Value):Prop where
 obj:h.get? x=some (Tw C dx)
 ns:h.Ns1 dx mA
 ne:dx≠x
theorem Be {h:Rv} {dx:Addr} {mA:Q4->Option Value} (n:h.Ns1 dx mA):∃ od,h.get? dx=some od/\∀ name,WX name od=some (mA name):=by
 obtain⟨o,es,ep,ho,hd,hk,_,hm⟩:=n
 refine⟨o,ho,fun name=>?_⟩
 have e:=hm name
 unfold nsFind findBy at e
 rw[← Array.find?_toList] at e
 unfold WX
 rw[hd]
 dsimp only
 split
 ·rename_i y q
  rw[q] at e
  exact congrArg some e
 ·rename_i q
  rw[q] at e
  have a:es.toList.any (·.refKey)=false:=by
   rw[List.any_eq_false]
   intro y hy
   obtain⟨z,t,hkey⟩:=hk y (Array.mem_toList_iff.mp hy)
   simp [DictEntry.refKey,hkey]
  have a':¬ es.toList.any (·.refKey)=true:=by rw[a]; exact Qk
  rw[if_neg a']
  exact congrArg some e
theorem JP.look {h:Rv} {x dx C:Addr} {mA:Q4->Option Value} (I:JP h x dx C mA):∃ od,PySem.W.InstAt h x (Tw C dx) C (some od)/\∀ name,WX name od=some (mA name) :=
 let ⟨od,ho,hl⟩:=Be I.ns
 ⟨od,⟨I.obj,rfl,rfl,ho⟩,hl⟩
section
variable {prog:QK} {w:Q3} {A:Q5} {E:Value->Qe->Prop} {s:Qe} {K:Qo} {x dx C f:Addr} {mA:Q4->Option Value} {name:Q4} {v:Value}
theorem get_map {expr:Bool} {Q:Value->Qe->Prop} (X:K.In s.heap) (I:JP s.heap x dx C mA) (hg:Vq K C name=true) (hh:V4 K C=true)
  (ha:Sg K (.ref C) name=some none) (hv:mA name=some v) (hv':PySem.W.handedIn v=true) (h:Q v { s with toks:=s.toks+1 }) :
  Qp (Qy prog w) A (getAttr (.ref x) name expr) Q E s:=by
 obtain⟨od,J,hl⟩:=I.look
 exact PySem.W.get_value X J (Xc hg).1 (PySem.W.findObj_own hh ha rfl (by rw[hl,hv])) hv' h
theorem Fx {pl:Sem Bool} {Q:Value × List Value->Qe->Prop} (X:K.In s.heap) (I:JP s.heap x dx C mA) (hg:Vq K C name=true)
  (hf:Sg K (.ref C) name=some (some (.ref f))) (ht:XF K (.ref f)=true) (hv:mA name=none) (h:Q (.ref f,[.ref x]) s) :
  Qp (Qy prog w) A (W7 (.ref x) name pl) Q E s:=by
 obtain⟨od,J,hl⟩:=I.look
 exact PySem.W.method_fn X J (Xc hg).1 (Xc hg).2 hf (beq_iff_eq.mp ht) (by show (WX name od).map (·.isSome)=some false; rw[hl,hv]; rfl) h
theorem Jr {ns:List Q4} {Q:Unit->Qe->Prop} (X:K.In s.heap) (I:JP s.heap x dx C mA)
  (hs:Sg K (.ref C) "__setattr__" = some (some (.builtin "object.__setattr__"))) (hp:XC K C=true) (ht:Yh K C name=some none) (hh:V4 K C=true)
  (hw:PySem.Within mA ns) (hsz:ns.length<=sizeLine)
  (h:∀ h',JP h' x dx C (fun y=>if y=name then some v else mA y)->S9 dx s.heap h'->Q () { s with heap:=h',toks:=s.toks+2 }) :
  Qp (Qy prog w) A (setAttr (.ref x) name v) Q E s:=by
 obtain⟨od,J,hl⟩:=I.look
 refine PySem.W.set_plain X J hs (PySem.W.osa_open (s:={ s with toks:=s.toks+1 }) (r:=none) X J hp ht fun b=>?_)
 obtain⟨cd,hc,hd'⟩:=PySem.W.any_some hh
 have hx:s.heap.get? x=some ⟨.ref C,some dx,.plain,#[]⟩:=I.obj
 refine Qa (Qh (Qa (Qa (wpAny_loadPart hx (Qa (PySem.W.Looks.here (s:={ s with toks:=s.toks+1 }) (PySem.W.looks_clsIn X hc) ?_))))))
 rw[hd']
 refine Qh (a:=some dx) (Qa (Qh (Qa ?_)))
 refine wpAny_nsSet1 (s:={ s with toks:=s.toks+1 }) I.ns fun h' hn2 hs2=>?_
 obtain⟨oD,esD,epD,hoD,hdD,hcD⟩:=hn2.count (PySem.Within.cons name v hw)
 refine Qa (wpAny_lookBehind hoD (by rw[hdD]; exact pastItsLine_dict (QL hcD (by rw[Qu]; lia))) ?_)
 exact Qh (h _ ⟨(hs2.2 _ (Uh I.ne)).trans I.obj,hn2,I.ne⟩ hs2)
theorem Gi {R:WW->Qe->Prop} {vs:List Value} {kw:List (Q4 × Value)} (X:K.In s.heap) (hm:Yi K C=true)
  (hi:Sg K (.ref C) "__init__" = some (some (.ref f))) (hf:PySem.W.typeIn K (.ref f)=some (.type "function"))
  (h:R5 (Qy prog w) (A.under (.builtin "type.__call__" ⟨.ref C::vs,kw⟩)) (.call (.ref f) ⟨.ref (s.heap.objs.size+1)::vs,kw⟩) (PySem.W.InitBack (s.heap.objs.size+1) R)
   {s with heap:=(s.heap.push SQ).push (Tw C s.heap.objs.size) }) :
  R5 (Qy prog w) A (.call (.ref C) ⟨vs,kw⟩) R s:=by
 obtain⟨hh,g,d,t,os⟩:=s
 exact PySem.W.make_core (PySem.W.makes_of X hm) (PySem.W.looks_findIn X hi) (fun self=>PySem.W.bind_fn X self hf) (.inl rfl) h
end
def pN (f:Q4) (v:V):List (Q4 × V)->List (Q4 × V)
 | []=>[(f,v)]
 | (g,x)::r=>if g=f then (g,v)::r else (g,x)::pN f v r
theorem nJ (f g:Q4) (v:V):∀ fs:List (Q4 × V),(pN f v fs).lookup g=if g=f then some v else fs.lookup g
 | []=>by
  show Vx g [(f,v)]=_
  by_cases h:g=f
  ·have hb:(g == f)=true:=beq_iff_eq.mpr h
   simp only[Vx,hb,if_pos h]
  ·have hb:(g == f)=false:=beq_eq_false_iff_ne.mpr h
   simp only[Vx,hb,if_neg h]
 | (k,x)::r=>by
  have ih:=nJ f g v r
  rw[show pN f v ((k,x)::r)=(if k=f then (k,v)::r else (k,x)::pN f v r) from rfl]
  by_cases hk:k=f
  ·rw[if_pos hk]
   by_cases h:g=k
   ·have hb:(g == k)=true:=beq_iff_eq.mpr h
    simp only[Vx,hb,if_pos (h.trans hk)]
   ·have hb:(g == k)=false:=beq_eq_false_iff_ne.mpr h
    simp only[Vx,hb,if_neg (fun e:g=f=>h (e.trans hk.symm))]
  ·rw[if_neg hk]
   by_cases h:g=k
   ·have hb:(g == k)=true:=beq_iff_eq.mpr h
    simp only[Vx,hb,if_neg (fun e:g=f=>hk (h.symm.trans e))]
   ·have hb:(g == k)=false:=beq_eq_false_iff_ne.mpr h
    simp only[Vx,hb]
    exact ih
theorem oH (f:Q4) (v:V):∀ fs:List (Q4 × V),f∈(pN f v fs).map (·.1)/\∀ g,g∈fs.map (·.1)->g∈(pN f v fs).map (·.1)
 | []=>⟨by simp [pN],fun g h=>by simp at h⟩
 | (k,x)::r=>by
  obtain⟨i1,i2⟩:=oH f v r
  rw[show pN f v ((k,x)::r)=(if k=f then (k,v)::r else (k,x)::pN f v r) from rfl]
  by_cases hk:k=f
  ·rw[if_pos hk]
   subst hk
   exact⟨by simp,fun g h=>by simpa using h⟩
  ·rw[if_neg hk]
   refine⟨?_,fun g h=>?_⟩
   ·rw[RZ]
    exact Qm _ i1
   ·rw[RZ] at h ⊢
    rcases List.mem_cons.mp h with e | e
    ·exact List.mem_cons.mpr (.inl e)
    ·exact Qm _ (i2 g e)
theorem nR (f:Q4) (v:V):∀ fs:List (Q4 × V),(pN f v fs).length<=fs.length+1
 | []=>by simp [pN]
 | (k,x)::r=>by
  have ih:=nR f v r
  rw[show pN f v ((k,x)::r)=(if k=f then (k,v)::r else (k,x)::pN f v r) from rfl]
  by_cases hk:k=f
  ·rw[if_pos hk,Qu,Qu]; lia
  ·rw[if_neg hk,Qu,Qu]; lia
theorem Ff.some_of {v:V} {o:Option Value} (r:Ff (some v) o):∃ u,o=some u/\RelV v u:=by
 cases o with
 | none=>exact (show False from r).elim
 | some u=>exact⟨u,rfl,r⟩
theorem Ff.none_of {o:Option Value} (r:Ff none o):o=none:=by
 cases o with
 | none=>rfl
 | some u=>exact (show False from r).elim
theorem Cd {v:V} {u:Value} (r:RelV v u):PySem.W.handedIn u=true:=by
 cases v with
 | non=>cases (show u=R8 from r); rfl
 | bl b=>cases (show u=Wk b from r); rfl
 | int i=>obtain⟨t,e⟩:=(show ∃ t,u=T8 i t from r); cases e; rfl
 | str x=>obtain⟨t,e⟩:=(show ∃ t,u=Value.str x t from r); cases e; rfl
 | byt b=>obtain⟨t,e⟩:=(show ∃ t,u=Value.bytes b t from r); cases e; rfl
 | flt b=>obtain⟨t,e⟩:=(show ∃ t,u=Value.float b t from r); cases e; rfl
 | ref a=>cases (show u=Rh a from r); rfl
 | ty n=>cases (show u=TV n from r); rfl
section
variable {P:QK} {w:Q3} {H H':Hp} {h h':Rv} {a C dx:Addr} {fs fs':List (Q4 × V)}
theorem rK (hok:HOk P w H h) (e:H a=some (.ins C dx fs)):∃ mA,JP h a dx C mA/\(∀ f,Ff (fs.lookup f) (mA f))/\PySem.Within mA (fs.map (·.1))/\fs.length<=1000/\H dx=some (.own a):=by
 obtain⟨d,z,ne,ob,mA,n,r,q⟩:=(show fQ P w H h a (.ins C dx fs) from hok a _ e)
 exact⟨mA,⟨ob,n,ne⟩,r,q,z,d⟩
end
structure Cls (K:Qo) (C:Addr):Prop where
 pg:Vq K C Str.empty=true
 hd:V4 K C=true
 po:XC K C=true
 sa:Sg K (.ref C) "__setattr__" = some (some (.builtin "object.__setattr__"))
theorem Cls.get {K:Qo} {C:Addr} (c:Cls K C) (f:Q4):Vq K C f=true:=c.pg
def fX (K:Qo) (C:Addr) (f:Q4):Prop:=Sg K (.ref C) f=some none
theorem fX.taker {K:Qo} {C:Addr} {f:Q4} (n:fX K C f):Yh K C f=some none:=by
 unfold Yh
 rw[show Sg K (.ref C) f=some none from n]
 rfl
structure Meth (K:Qo) (C:Addr) (m:Q4) (f:Addr):Prop where
 at_:Sg K (.ref C) m=some (some (.ref f))
 fn:XF K (.ref f)=true
 kp:Tn K (.ref f)=true
section
variable {X:Cx} {pins:List (Addr × Tz)} {σ:St} {H:Hp} {s:Qe} {a C dx:Addr} {fs:List (Q4 × V)} {f:Q4} {v:V} {A:Q5} {E:Value->Qe->Prop}
theorem zJ {b:Bool} {Q:Value->Qe->Prop} (I:Inv X pins σ H s) (e:H a=some (.ins C dx fs)) (c:Cls X.K C) (n:fX X.K C f) (l:fs.lookup f=some v)
  (h:∀ u s',Inv X pins σ H s'->RelV v u->Q u s'):Qp (Qy X.prog X.w) A (getAttr (.ref a) f b) Q E s:=by
 obtain⟨mA,O,r,_,_,_⟩:=rK I.hok e
 obtain⟨u,hu,ru⟩:=Ff.some_of (v:=v) (o:=mA f) (by rw[← l]; exact r f)
 exact get_map I.kIn O (c.get f) c.hd n hu (Cd ru) (h u _ (I.tok _) ru)
theorem pU {m:Q4} {g:Addr} {pl:Sem Bool} {Q:Value × List Value->Qe->Prop} (I:Inv X pins σ H s) (e:H a=some (.ins C dx fs)) (c:Cls X.K C) (k:Meth X.K C m g) (l:fs.lookup m=none)
  (h:Q (.ref g,[.ref a]) s):Qp (Qy X.prog X.w) A (W7 (.ref a) m pl) Q E s:=by
 obtain⟨mA,O,r,_,_,_⟩:=rK I.hok e
 have hn:mA m=none:=Ff.none_of (by rw[← l]; exact r m)
 exact Fx I.kIn O (c.get m) k.at_ k.fn hn h
theorem zp {y:V} {u:Value} {Q:Unit->Qe->Prop} (I:Inv X pins σ H s) (e:H a=some (.ins C dx fs)) (c:Cls X.K C) (n:fX X.K C f) (hl:fs.length < 1000) (ry:RelV y u)
  (h:∀ s',Inv X pins σ (upd H a (.ins C dx (pN f y fs))) s'->Q () s'):Qp (Qy X.prog X.w) A (setAttr (.ref a) f u) Q E s:=by
 obtain⟨mA,O,r,wi,_,ho⟩:=rK I.hok e
 have hz:(fs.map (·.1)).length<=sizeLine:=by rw[Qc,sizeLine_eq]; lia
 refine Jr I.kIn O c.sa c.po n.taker c.hd wi hz fun h' O' sb=>h _ ?_
 have hd:∃ o,h'.get? dx=some o:=let ⟨o,_,_,e',_⟩:=O'.ns; ⟨o,e'⟩
 refine I.write (x:=a) (e:=dx) (by rw[e]; exact V0) (.inr ho) (fun b q hb z=>(sb.2 b hb).trans z) hd ?_
 refine⟨by rw[bx O.ne]; exact ho,?_,O.ne,O'.obj,_,O'.ns,fun g=>?_,fun g hg=>?_⟩
 ·have:=nR f y fs; lia
 ·show Ff ((pN f y fs).lookup g) (if g=f then some u else mA g)
  rw[nJ]
  by_cases q:g=f
  ·rw[if_pos q,if_pos q]; exact ry
  ·rw[if_neg q,if_neg q]; exact r g
 ·by_cases q:g=f
  ·rw[q]; exact (oH f y fs).1
  ·refine (oH f y fs).2 g (wi g fun z=>hg ?_)
   show (if g=f then some u else mA g)=none
   rw[if_neg q]; exact z
theorem Inv.made (I:Inv X pins σ H s):Inv X pins σ (upd (upd H s.heap.objs.size (.own (s.heap.objs.size+1))) (s.heap.objs.size+1) (.ins C s.heap.objs.size []))
  {s with heap:=(s.heap.push SQ).push (Tw C s.heap.objs.size) }:=by
 have e1:(s.heap.push SQ).get? s.heap.objs.size=some SQ:=Qn s.heap rfl
 have e2:((s.heap.push SQ).push (Tw C s.heap.objs.size)).get? (s.heap.objs.size+1)=some (Tw C s.heap.objs.size):=by
  have:=Qn (s.heap.push SQ) (o:=Tw C s.heap.objs.size) rfl
  rwa [Rf] at this
 have e3:(s.heap.push SQ).Ns s.heap.objs.size (fun _=>none):=⟨SQ,#[],_,e1,rfl,(fun e he=>absurd he (by simp)),fun _=>rfl⟩
 have I1:=I.laid (a:=s.heap.objs.size) (o:=.own (s.heap.objs.size+1)) (h':=s.heap.push SQ) (t':=s.toks) (fun b u q=>Qd _ q) (Ql _) ⟨_,e1⟩
 refine I1.laid (a:=s.heap.objs.size+1) (o:=.ins C s.heap.objs.size []) (t':=s.toks) (fun b u q=>Qd _ q) (Nat.le_of_eq (Rf _ _)) ?_
 have ne:s.heap.objs.size≠s.heap.objs.size+1:=QJ (R7 _)
 refine⟨by rw[bx ne,ao],QW _,ne,e2,fun _=>none,(Heap.Ns1.of_empty e3).at fun o q=>Qd _ q,fun _=>V0,fun y hy=>absurd rfl hy⟩
theorem Kf {prog:QK} {w:Q3} {env:XM} {e:Expr} {f:Q4} {pos:V5} {s:Qe} {Q:Value->Qe->Prop} (hb:Xi e f env (S6 e env)=S6 e env)
  (h:Qp (Qy prog w) A (S6 e env) (fun o s₁=>Qp (Qy prog w) A (getAttr o f true) Q E s₁) E s):Qp (Qy prog w) A (S6 (.Attribute e f pos) env) Q E s :=
 Attribute_any_ h (by rw[arm_eval_Attribute,hb])
end
def Ow (K:Qo) (ta:TE) (f:Q4):TE:=fun σ H Q=>ta σ H fun x H1=>∃ a C dx fs v,x = .ref a/\H1 a=some (.ins C dx fs)/\Cls K C/\fX K C f/\fs.lookup f=some v/\Q v H1
def Py (K:Qo) (ta tv:TE) (f:Q4):TS:=fun D σ H=>tv σ H fun y H1=>ta σ H1 fun x H2=>∃ a C dx fs,x = .ref a/\H2 a=some (.ins C dx fs)/\Cls K C/\fX K C f/\fs.length < 1000 ∧
 D.nx σ (upd H2 a (.ins C dx (pN f y fs)))
section
variable {X:Cx} {o e value:Expr} {f:Q4} {pos pos' tpos:V5} {ta tv:TE}
theorem Lb (he:PE X e ta) (hb:Xi e f X.env (S6 e X.env)=S6 e X.env):PE X (.Attribute e f pos) (Ow X.K ta f):=by
 intro pins s σ H Q I h
 refine Kf hb (thn (he pins s σ H _ I h) fun u s1 ⟨x,H1,I1,rx,a,C,dx,fs,v,ex,ea,c,n,l,q⟩=>?_)
 subst ex
 obtain rfl:u=Rh a:=rx
 exact zJ I1 ea c n l fun u' s2 I2 ru=>⟨v,H1,I2,ru,q⟩
theorem jX (ha:PE X o ta) (hv:PE X value tv) (hs:swapsWith value (some (.Attribute o f pos')) pos.line X.env=pure false):PS X (.Assign [.Attribute o f pos'] value pos) (Py X.K ta tv f):=by
 intro pins s σ H D I h
 refine plainObj_wpAny_Assign_Attribute (thn (hv pins s σ H _ I h) fun u s1 ⟨y,H1,I1,ry,q⟩=>thn (ha pins s1 σ H1 _ I1 q) fun ov s2 ⟨x,H2,I2,rx,a,C,dx,fs,ex,ea,c,n,l,q2⟩=>?_) hs
 subst ex
 obtain rfl:ov=Rh a:=rx
 exact zp I2 ea c n l ry fun s3 I3=>⟨σ,_,I3,q2⟩
end
section
variable {X:Cx} {pins:List (Addr × Tz)} {σ:St} {H:Hp} {s:Qe} {A:Q5} {E:Value->Qe->Prop} {Q:Value->Qe->Prop} {c:Value} {b:Bool}
inductive Ai (K:Qo) (H:Hp):V->Value->Prop where
 | non:Ai K H .non (.type "NoneType")
 | bl (x:Bool):Ai K H (.bl x) (.type "bool")
 | int (i:Int):Ai K H (.int i) (.type "int")
 | str (x:Q4):Ai K H (.str x) (.type "str")
 | flt (x:UInt64):Ai K H (.flt x) (.type "float")
 | lst {a:Addr} {xs:List V} (e:H a=some (.lst xs)):Ai K H (.ref a) (.type "list")
 | frz {a:Addr} {o:Tz} {xs:List V} (e:H a=some (.frz o (.lst xs))):Ai K H (.ref a) (.type "list")
 | tup {a:Addr} {xs:List V} (e:H a=some (.tup xs)):Ai K H (.ref a) (.type "tuple")
 | dK {a:Addr} {kvs:List (Key × V)} (e:H a=some (.dK kvs)):Ai K H (.ref a) (.type "dict")
 | dT {a:Addr} {kvs:List (List Key × V)} (e:H a=some (.dT kvs)):Ai K H (.ref a) (.type "dict")
 | ins {a C dx:Addr} {fs:List (Q4 × V)} (e:H a=some (.ins C dx fs)) (cl:Cls K C) (ha:Sg K (.ref C) "__class__" = some (some (.builtin "object.__class__")))
   (hn:PySem.W.specialIn K (.builtin "object.__class__") "__get__" = some (some (.builtin "getset_descriptor.__get__"))) (htk:PySem.W.takesIn K (.builtin "object.__class__")=some true)
   (hm:PySem.W.mroIn K C (.type "object")=some true):Ai K H (.ref a) (.ref C)
theorem Ea {x:V} {u t:Value} (I:Inv X pins σ H s) (rx:RelV x u) (ty:Ai X.K H x t) (e:PySem.W.kitOne X.K t c=some b) (h:∀ tk,Q (.bool b) { s with toks:=tk }) :
  Qp (Qy X.prog X.w) A (call (.builtin "isinstance") [u,c]) Q E s:=by
 cases ty with
 | non=>cases (show u=R8 from rx); exact Su PySem.W.kitx_none I.kIn V0 e (fun z=>nomatch z) h
 | bl y=>cases (show u=Wk y from rx); exact Su PySem.W.kitx_bool I.kIn V0 e (fun z=>nomatch z) h
 | int i=>obtain⟨t,q⟩:=(show ∃ t,u=T8 i t from rx); cases q; exact Su PySem.W.kitx_int I.kIn V0 e (fun z=>nomatch z) h
 | str y=>obtain⟨t,q⟩:=(show ∃ t,u=Value.str y t from rx); cases q; exact Su PySem.W.kitx_str I.kIn V0 e (fun z=>nomatch z) h
 | flt y=>obtain⟨t,q⟩:=(show ∃ t,u=Value.float y t from rx); cases q; exact Su PySem.W.kitx_float I.kIn V0 e (fun z=>nomatch z) h
 | @lst a xs ea =>
  cases (show u=Rh a from rx)
  obtain⟨_,_,n,_,h1⟩:=(show fQ X.prog X.w H s.heap a (.lst xs) from I.hok a _ ea)
  exact Su PySem.W.kitx_list I.kIn ⟨_,h1,rfl⟩ e (fun z=>nomatch z) h
 | @frz a ob xs ea =>
  cases (show u=Rh a from rx)
  obtain⟨_,_,_,n,_,h1⟩:=(show fQ X.prog X.w H s.heap a (.frz ob (.lst xs)) from I.hok a _ ea)
  exact Su PySem.W.kitx_list I.kIn ⟨_,h1,rfl⟩ e (fun z=>nomatch z) h
 | @tup a xs ea =>
  cases (show u=Rh a from rx)
  obtain⟨_,_,_,p⟩:=(show fQ X.prog X.w H s.heap a (.tup xs) from I.hok a _ ea)
  obtain⟨o,h1,h2,_⟩:=p
  exact Su PySem.W.kitx_tuple I.kIn ⟨o,h1,h2⟩ e (fun z=>nomatch z) h
 | @dK a kvs ea =>
  cases (show u=Rh a from rx)
  obtain⟨_,_,vs,_,p⟩:=(show fQ X.prog X.w H s.heap a (.dK kvs) from I.hok a _ ea)
  obtain⟨o,es,ep,h1,h2,_⟩:=p
  exact Su PySem.W.kitx_dict I.kIn ⟨o,h1,h2.1⟩ e (fun z=>nomatch z) h
 | @dT a kvs ea =>
  cases (show u=Rh a from rx)
  obtain⟨_,_,xs,_,o,es,ep,h1,h2,_⟩:=(show fQ X.prog X.w H s.heap a (.dT kvs) from I.hok a _ ea)
  exact Su PySem.W.kitx_dict I.kIn ⟨o,h1,h2.1⟩ e (fun z=>nomatch z) h
 | @ins a C dx fs ea cl ha hn htk hm =>
  cases (show u=Rh a from rx)
  obtain⟨mA,O,_⟩:=rK I.hok ea
  obtain⟨od,J,_⟩:=O.look
  exact Su (PySem.W.kitx_own (cl.get _) cl.hd ha hn htk hm) I.kIn J e (fun z=>nomatch z) h
end
end L2
namespace L2
open PySem PySem.Spec PyProof.Rows
structure jM (k:Nat) (A:Q5):Prop where
 hd:A.handled=none
 dp:A.depth+3 * k+5 < recursionLimit
 un:A.units+16 * k+200 < cLine
theorem jM.mono {j k:Nat} {A:Q5} (r:jM k A) (h:j<=k):jM j A:=⟨r.hd,by have:=r.dp; lia,by have:=r.un; lia⟩
theorem jM.deeper {k:Nat} {A:Q5} (r:jM (k+1) A) (env:XM):jM k (A.deeper env) :=
 ⟨r.hd,by have:=r.dp; show A.depth+1+3 * k+5 < _; lia,by have:=r.un; show A.units+3+16 * k+200 < _; lia⟩
theorem Am {A:Q5} {C:Addr} {us:List Value} {kw:List (Q4 × Value)}:(A.under (.builtin "type.__call__" ⟨.ref C::us,kw⟩)).depth=A.depth+1:=by
 first | rfl | simp [Around.under,Code.weight,Code.isCreation,Code.isGuard,Code.isCaller,Code.frames,Code.isFrame,guardIds]
theorem Ak {A:Q5} {C:Addr} {us:List Value} {kw:List (Q4 × Value)}:(A.under (.builtin "type.__call__" ⟨.ref C::us,kw⟩)).units=A.units+1:=by
 first | rfl | simp [Around.under,Code.cUnits,Code.frames,Code.isFrame]
theorem jM.make {k:Nat} {A:Q5} (r:jM (k+1) A) (C:Addr) (us:List Value) (kw:List (Q4 × Value)):jM k (A.under (.builtin "type.__call__" ⟨.ref C::us,kw⟩)) :=
 ⟨r.hd,by have:=r.dp; rw[Am]; lia,by have:=r.un; rw[Ak]; lia⟩
theorem jM.depth {k:Nat} {A:Q5} (r:jM k A):A.depth < recursionLimit:=by have:=r.dp; lia
theorem jM.uU {k:Nat} {A:Q5} (r:jM k A):A.units < cLine:=by have:=r.un; lia
def Fo:TA:=fun _ H Q=>Q [] H
def Gd (ta:TE) (tr:TA):TA:=fun σ H Q=>ta σ H fun x H1=>tr σ H1 fun xs H2=>Q (x::xs) H2
section
variable {X:Cx} {e:Expr} {es:List Expr} {te:TE} {t:TA} {pos:V5}
theorem aj:PA X [] Fo:=fun _ _ _ _ H Q I h=>Calls.spliced_nil ⟨[],H,I,.nil,h⟩
theorem aa (ha:PE X e te) (hr:PA X es t) (hs:QS (e::es) X.env=(false,S6 e X.env)::QS es X.env:=by rfl):PA X (e::es) (Gd te t):=by
 intro pos pins s σ H Q I h
 rw[hs]
 show Qp _ _ (spliced ((false,S6 e X.env)::TQ pos (QS es X.env))) _ _ s
 refine Calls.spliced_cons (thn (ha pins s σ H _ I h) fun u s1 ⟨x,H1,I1,r1,q1⟩=>?_)
 exact thn (hr pos pins s1 σ H1 _ I1 q1) fun us s2 ⟨xs,H2,I2,r2,q2⟩=>⟨x::xs,H2,I2,.cons r1 r2,q2⟩
def O1 (t:TA):TE:=fun σ H Q=>t σ H fun xs H1=>xs.length<=sizeLine/\∀ p,H1 p=none->Q (.ref p) (upd H1 p (.tup xs))
def O5 (t:TA):TE:=fun σ H Q=>t σ H fun xs H1=>xs.length<=sizeLine/\∀ p,H1 p=none->Q (.ref p) (upd H1 p (.lst xs))
theorem cA {x1} (h:PA X es t):PE X (.Tuple es x1 pos) (O1 t):=by
 intro pins s σ H Q I hq
 refine wpAny_Tuple_spliced (thn (h pos pins s σ H _ I hq) fun us s1 ⟨xs,H1,I1,r,z,q⟩=>⟨by rw[← r.length]; exact z,?_⟩)
 have hf:H1 s1.heap.objs.size=none:=I1.hok.fresh (Ql _)
 refine⟨.ref s1.heap.objs.size,upd H1 s1.heap.objs.size (.tup xs),I1.laid (t':=s1.toks) (fun b u e=>Qd _ e) (Ql _) ?_,rfl,q _ hf⟩
 exact⟨z,us,r,⟨_,Qn _ rfl,rfl,_,rfl⟩⟩
theorem bZ (h:PA X es t):PE X (.List es pos) (O5 t):=by
 intro pins s σ H Q I hq
 refine wpAny_List_spliced (thn (h pos pins s σ H _ I hq) fun us s1 ⟨xs,H1,I1,r,z,q⟩=>⟨by rw[← r.length]; exact z,?_⟩)
 have hf:H1 s1.heap.objs.size=none:=I1.hok.fresh (Ql _)
 refine⟨.ref s1.heap.objs.size,upd H1 s1.heap.objs.size (.lst xs),I1.laid (t':=s1.toks) (fun b u e=>Qd _ e) (Ql _) ?_,rfl,q _ hf⟩
 exact⟨z,us,0,r,Qn _ rfl⟩
end
abbrev Sp:=List V->Hp->VK->XK->Prop
abbrev CXT:=List XM->Hp->Qe->XK->Value->Qe->Prop
structure J0 (P:QK) (w:Q3) (K:Qo) (mg:Q4->Option Value) (base:Rv) (A:Q5) (outer:List XM) (s:Qe) (H:Hp):Prop where
 frames:A.frames=some outer
 mod:Mod K mg base
 bs:∀ b o,base.get? b=some o->s.heap.get? b=some o/\H b=none
 bsz:base.objs.size<=s.heap.objs.size
 Ar:s.heap.FunFrames base outer
 frf:∀ b∈frs outer,H b=none
 hok:HOk P w H s.heap
 bare:Ws s.gens
def CE (outer:List XM) (P:QK) (w:Q3) (H:Hp) (s:Qe) (Q:VK) (u:Value) (s':Qe):Prop :=
 ∃ v H',s'.os=s.os/\Ws s'.gens/\Un (frs outer) [] H H' s.heap s'.heap/\HOk P w H' s'.heap/\RelV v u/\Q v H'
def CR (CX:CXT) (outer:List XM) (P:QK) (w:Q3) (H:Hp) (s:Qe) (Q:VK) (E:XK) (r:WW) (s':Qe):Prop :=
 match r with
 | .ok (.ret u)=>CE outer P w H s Q u s'
 | .ok _=>False
 | .error e=>CX outer H s E e s'
structure cI (P:QK) (w:Q3) (K:Qo) (mg:Q4->Option Value) (base:Rv) (CX:CXT) (k:Nat) (f:Addr) (fd:TF) (ps:List Q4) (sp:Sp):Prop where
 len:∀ vs H Q E,sp vs H Q E->vs.length=ps.length
 run:∀ (A:Q5) (outer:List XM) (s:Qe) (H:Hp) (args:Args) (us:List Value) (vs:List V) (Q:VK) (E:XK),jM k A->J0 P w K mg base A outer s H->Xb s fd args (ps.zip us)->Vals vs us->sp vs H Q E →
  R5 (Qy P w) A (.call (.ref f) args) (CR CX outer P w H s Q E) s
theorem J0.make {P:QK} {w:Q3} {K:Qo} {mg:Q4->Option Value} {base:Rv} {A:Q5} {outer:List XM} {s:Qe} {H:Hp} (e:J0 P w K mg base A outer s H) (C:Addr) (us:List Value) (kw:List (Q4 × Value)) :
  J0 P w K mg base (A.under (.builtin "type.__call__" ⟨.ref C::us,kw⟩)) outer s H:=⟨by first | exact e.frames | (simpa [Around.under,Code.envs,Code.isFrame,pushEnvs] using e.frames),e.mod,e.bs,e.bsz,e.Ar,e.frf,e.hok,e.bare⟩
section
variable {X:Cx} {pins:List (Addr × Tz)} {σ:St} {H:Hp} {s s':Qe}
theorem Inv.env0 (I:Inv X pins σ H s):J0 X.prog X.w X.K X.mg X.base X.A X.stack s H :=
 ⟨I.ok.frames,I.ok.mod,I.bs,QL I.ok.bsz I.sz,I.stack,I.wG,I.hok,I.bare⟩
theorem Inv.after {Q:VK} {u:Value} (I:Inv X pins σ H s) (h:CE X.stack X.prog X.w H s Q u s'):EP X pins σ Q u s':=by
 obtain⟨v,H',os,bare,un,hok,r,q⟩:=h
 obtain⟨hh,g,d,t,os'⟩:=s'
 obtain rfl:os'=s.os:=os
 exact⟨v,H',I.call (h':=hh) (g':=g) (d':=d) (t':=t) (ch:=[]) un hok bare (fun b z=>absurd z (by simp)),r,q⟩
end
def JN (sp:Sp) (dvs:List V) (E:XK) (t:TA):TE:=fun σ H Q=>t σ H fun vs H1=>sp (vs++dvs) H1 Q E
def Gz (C:Addr) (m:Q4) (sp:Sp) (dvs:List V) (E:XK) (ta:TE) (t:TA):TE:=fun σ H Q=>ta σ H fun x H1=>∃ a dx fs,x = .ref a/\H1 a=some (.ins C dx fs)/\fs.lookup m=none ∧
 t σ H1 fun vs H2=>sp (x::(vs++dvs)) H2 Q E
def Ga (C:Addr) (sp:Sp) (dvs:List V) (E:XK) (t:TA):TE:=fun σ H Q=>t σ H fun vs H1=>∀ x dx,H1 x=none->H1 dx=none->dx≠x →
 sp (.ref x::(vs++dvs)) (upd (upd H1 dx (.own x)) x (.ins C dx [])) (fun v H2=>v = .non/\Q (.ref x) H2) E
def Binds (K:Qo) (fd:TF) (ps:List Q4) (ds:List Value):Prop :=
 ∀ (s:Qe) (us:List Value),K.In s.heap->(us++ds).length=ps.length->Xb s fd ⟨us,[]⟩ (ps.zip (us++ds))
theorem Binds.all {K:Qo} {fd:TF} {ps:List Q4} (h:∀ us:List Value,us.length=ps.length->WR fd ⟨us,[]⟩=pure (ps.zip us)):Binds K fd ps []:=fun s us _ hl=>by
 rw[RL] at hl ⊢
 exact .of_eq (h us hl)
def Passes (CX:CXT) (X:Cx) (E:XK):Prop:=∀ (pins:List (Addr × Tz)) (σ:St) (H:Hp) (s:Qe) (e:Value) (s':Qe),Inv X pins σ H s->CX X.stack H s E e s'->X.xe e s'
section
variable {X:Cx} {CX:CXT} {k:Nat} {f C:Addr} {fd:TF} {ps:List Q4} {sp:Sp} {dvs:List V} {ds:List Value} {E:XK} {x m:Q4} {p pos apos:V5} {e o:Expr} {es:List Expr} {ta:TE} {t:TA}
theorem CP {pins:List (Addr × Tz)} {σ:St} {H:Hp} {s:Qe} {Q:VK} {us:List Value} {vs:List V} (F:cI X.prog X.w X.K X.mg X.base CX k f fd ps sp) (hr:jM k X.A) (hb:Binds X.K fd ps ds) (hd:Vals dvs ds) (hx:Passes CX X E)
  (I:Inv X pins σ H s) (r:Vals vs us) (h:sp (vs++dvs) H Q E):Qp (Qy X.prog X.w) X.A (call (.ref f) us) (EP X pins σ Q) X.xe s:=by
 have r2:Vals (vs++dvs) (us++ds):=r.append hd
 have hl:(us++ds).length=ps.length:=by rw[← r2.length]; exact F.len _ _ _ _ h
 refine wpAny_call (Vi (F.run X.A X.stack s H ⟨us,[]⟩ (us++ds) (vs++dvs) Q E hr I.env0 (hb s us I.kIn hl) r2 h) fun r s' hq=>?_)
 cases r with
 | error e=>exact hx pins σ H s e s' I hq
 | ok fl =>
  cases fl with
  | ret u=>exact I.after hq
  | next=>exact Tq hq
  | brk=>exact Tq hq
  | cont=>exact Tq hq
theorem Ju (F:cI X.prog X.w X.K X.mg X.base CX k f fd ps sp) (hr:jM k X.A) (hg:Gl X x) (hm:X.mg x=some (.ref f)) (hk:Tn X.K (.ref f)=true) (hb:Binds X.K fd ps ds) (hd:Vals dvs ds) (hx:Passes CX X E)
  (ha:PA X (e::es) t) (hdb:(x == ("__debug__" : Q4))=false:=by decide) (he:QS (e::es) X.env=(false,S6 e X.env)::QS es X.env:=by rfl) (hpl:(TQ pos (QS es X.env)).any (·.1)=false:=by rfl) :
  PE X (.Call (.Name x p) (e::es) [] pos) (JN sp dvs E t):=by
 intro pins s σ H Q I h
 refine S7 (rT I hg hm ?_ hdb)
 refine Xn (h₀:=X.base) I.ok.mod.kin hk (thn (ha pos pins s σ H _ I h) fun us s1 ⟨vs,H1,I1,r,q⟩=>⟨I1.kIn,?_⟩) he hpl
 exact CP F hr hb hd hx I1 r q
theorem KJ {pl:Sem Bool} (he:PE X o ta) (c:Cls X.K C) (hm:Meth X.K C m f) (F:cI X.prog X.w X.K X.mg X.base CX k f fd ps sp) (hr:jM k X.A) (hb:Binds X.K fd ps ds) (hd:Vals dvs ds) (hx:Passes CX X E) (ha:PA X (e::es) t)
  (hst:QS (e::es) X.env=(false,S6 e X.env)::QS es X.env:=by rfl) (hpl:(TQ pos (QS es X.env)).any (·.1)=false:=by rfl)
  (ht:S6 (.Call (.Attribute o m apos) (e::es) [] pos) X.env=(do
   let ov ← S6 o X.env
   VJ apos.atName
   let (f,first) ← VL [ov] (W7 ov m pl)
   callWith pos f first (TQ pos (QS (e::es) X.env)) (backToKw pos (WN [] X.env))):=by rfl) :
  PE X (.Call (.Attribute o m apos) (e::es) [] pos) (Gz C m sp dvs E ta t):=by
 intro pins s σ H Q I h
 refine PySem.W.methodCall_KW (pl:=pl) (thn (he pins s σ H _ I h) fun u s1 ⟨x,H1,I1,rx,a,dx,fs,ex,ea,l,q⟩=>?_) ht
 subst ex
 obtain rfl:u=Rh a:=rx
 refine pU I1 ea c hm l ?_
 refine Xn (first:=[.ref a]) (h₀:=X.base) I.ok.mod.kin hm.kp (thn (ha pos pins s1 σ H1 _ I1 q) fun us s2 ⟨vs,H2,I2,r,q2⟩=>⟨I2.kIn,?_⟩) hst hpl
 exact CP (us:=.ref a::us) (vs:=.ref a::vs) F hr hb hd hx I2 (.cons rfl r) q2
theorem G9 {pl:Sem Bool} (he:PE X o ta) (c:Cls X.K C) (hm:Meth X.K C m f) (F:cI X.prog X.w X.K X.mg X.base CX k f fd ps sp) (hr:jM k X.A) (hb:Binds X.K fd ps ds) (hd:Vals dvs ds) (hx:Passes CX X E)
  (ht:S6 (.Call (.Attribute o m apos) [] [] pos) X.env=(do
   let ov ← S6 o X.env
   VJ apos.atName
   let (f,first) ← VL [ov] (W7 ov m pl)
   callWith pos f first (TQ pos (QS [] X.env)) (backToKw pos (WN [] X.env))):=by rfl) :
  PE X (.Call (.Attribute o m apos) [] [] pos) (Gz C m sp dvs E ta Fo):=by
 intro pins s σ H Q I h
 refine PySem.W.methodCall_KW (pl:=pl) (thn (he pins s σ H _ I h) fun u s1 ⟨x,H1,I1,rx,a,dx,fs,ex,ea,l,q⟩=>?_) ht
 subst ex
 obtain rfl:u=Rh a:=rx
 refine pU I1 ea c hm l ?_
 exact PySem.W.callWith_K0 (first:=[.ref a]) I1.kIn hm.kp (CP (us:=[.ref a]) (vs:=[.ref a]) F hr hb hd hx I1 (.cons rfl .nil) q)
structure Mk (K:Qo) (C f:Addr):Prop where
 makes:Yi K C=true
 init:Sg K (.ref C) "__init__" = some (some (.ref f))
 fn:XF K (.ref f)=true
 kp:Tn K (.ref C)=true
theorem yU {pins:List (Addr × Tz)} {σ:St} {H:Hp} {s:Qe} {Q:VK} {us:List Value} {vs:List V} (M:Mk X.K C f) (F:cI X.prog X.w X.K X.mg X.base CX k f fd ps sp) (hr:jM (k+1) X.A) (hb:Binds X.K fd ps ds) (hd:Vals dvs ds)
  (hx:Passes CX X E) (I:Inv X pins σ H s) (r:Vals vs us)
  (h:∀ x dx,H x=none->H dx=none->dx≠x->sp (.ref x::(vs++dvs)) (upd (upd H dx (.own x)) x (.ins C dx [])) (fun v H2=>v = .non/\Q (.ref x) H2) E) :
  Qp (Qy X.prog X.w) X.A (call (.ref C) us) (EP X pins σ Q) X.xe s:=by
 have hq:=h (s.heap.objs.size+1) s.heap.objs.size (I.hok.fresh (S5 _)) (I.hok.fresh (Ql _)) (QJ (R7 _))
 have I2:=Inv.made (C:=C) I
 have r2:Vals (V.ref (s.heap.objs.size+1)::(vs++dvs)) (Rh (s.heap.objs.size+1)::(us++ds)):=.cons rfl (r.append hd)
 have hl:(Rh (s.heap.objs.size+1)::us++ds).length=ps.length:=by
  have e:=r2.length
  rw[F.len _ _ _ _ hq] at e
  exact e.symm
 refine wpAny_call (Gi (f:=f) I.kIn M.makes M.init (beq_iff_eq.mp M.fn) (Vi (F.run _ X.stack _ _ ⟨Rh (s.heap.objs.size+1)::us,[]⟩ (Rh (s.heap.objs.size+1)::(us++ds)) _ _ E (hr.make C us [])
  (I2.env0.make C us []) (hb _ (Rh (s.heap.objs.size+1)::us) I2.kIn hl) r2 hq) fun r s' hq'=>?_))
 cases r with
 | error e=>exact hx pins σ _ _ e s' I2 hq'
 | ok fl =>
  cases fl with
  | ret u =>
   obtain⟨v,H',I3,rv,ev,q3⟩:=I2.after hq'
   subst ev
   exact⟨rv,⟨V.ref (s.heap.objs.size+1),H',I3,rfl,q3⟩⟩
  | next=>exact Tq hq'
  | brk=>exact Tq hq'
  | cont=>exact Tq hq'
theorem JF (M:Mk X.K C f) (F:cI X.prog X.w X.K X.mg X.base CX k f fd ps sp) (hr:jM (k+1) X.A) (hg:Gl X x) (hm:X.mg x=some (.ref C)) (hb:Binds X.K fd ps ds) (hd:Vals dvs ds) (hx:Passes CX X E)
  (ha:PA X (e::es) t) (hdb:(x == ("__debug__" : Q4))=false:=by decide) (he:QS (e::es) X.env=(false,S6 e X.env)::QS es X.env:=by rfl) (hpl:(TQ pos (QS es X.env)).any (·.1)=false:=by rfl) :
  PE X (.Call (.Name x p) (e::es) [] pos) (Ga C sp dvs E t):=by
 intro pins s σ H Q I h
 refine S7 (rT I hg hm ?_ hdb)
 refine Xn (h₀:=X.base) I.ok.mod.kin M.kp (thn (ha pos pins s σ H _ I h) fun us s1 ⟨vs,H1,I1,r,q⟩=>⟨I1.kIn,?_⟩) he hpl
 exact yU M F hr hb hd hx I1 r q
theorem Hs (M:Mk X.K C f) (F:cI X.prog X.w X.K X.mg X.base CX k f fd ps sp) (hr:jM (k+1) X.A) (hg:Gl X x) (hm:X.mg x=some (.ref C)) (hb:Binds X.K fd ps ds) (hd:Vals dvs ds) (hx:Passes CX X E)
  (hdb:(x == ("__debug__" : Q4))=false:=by decide):PE X (.Call (.Name x p) [] [] pos) (Ga C sp dvs E Fo):=by
 intro pins s σ H Q I h
 refine S7 (rT I hg hm ?_ hdb)
 exact PySem.W.callWith_K0 I.kIn M.kp (yU (us:=[]) M F hr hb hd hx I .nil h)
end
section
variable {X:Cx} {CX:CXT} {k:Nat} {f C:Addr} {fd:TF} {ps ks:List Q4} {sp:Sp} {E:XK} {x m:Q4} {p pos apos kpos:V5} {e o:Expr} {es:List Expr} {kws:List Keyword} {te ta:TE} {t tk:TA} {nm:Option Q4}
variable {g:List Value->List Value->List Value} {gV:List V->List V->List V}
end
structure aO (N P:List Q4) (sc:TX):Prop where
 kind:sc.kind = .function
 co:sc.isCoroutine=false
 gen:sc.isGenerator=false
 nd:N.Nodup
 pre:N.take P.length=P
 par:∀ x∈P,sc.names.lookup x=some .local∨sc.names.lookup x=some .cell
 nofree:∀ y∈sc.names,y.2≠.free
theorem sU {kindOf:Q4->Option V2} {x:Q4}:∀ {binds:List (Q4 × Value)} {m:Q4->Option Value},(∀ v,(x,v) ∉ binds)->bindL kindOf binds m x=m x
 | [],_,_=>rfl
 | (n,v)::r,m,h=>by
  unfold bindL
  rw[sU fun w hw=>h w (Qm _ hw)]
  split
  ·have:x≠n:=by rintro rfl; exact h v Qi
   simp [this]
  ·rfl
theorem vA {kindOf:Q4->Option V2} {x:Q4}:∀ {binds:List (Q4 × Value)} {m:Q4->Option Value},(∀ v,(x,v) ∉ binds)->bindC kindOf binds m x=m x
 | [],_,_=>rfl
 | (n,v)::r,m,h=>by
  unfold bindC
  rw[vA fun w hw=>h w (Qm _ hw)]
  split
  ·rfl
  ·have:x≠n:=by rintro rfl; exact h v Qi
   simp [this]
theorem uM {kindOf:Q4->Option V2} {x:Q4} {v:Value}:∀ {P:List Q4} {vs:List Value} {i:Nat} {m:Q4->Option Value},P.Nodup->P[i]? = some x->vs[i]? = some v->kindOf x=some .local →
  bindL kindOf (P.zip vs) m x=some v
 | [],_,_,_,_,h,_,_=>by simp at h
 | _::_,[],_,_,_,_,h,_=>by simp at h
 | p::P,w::vs,0,m,nd,h1,h2,hk=>by
  simp at h1 h2; subst h1; subst h2
  show bindL kindOf ((p,w)::P.zip vs) m p=_
  unfold bindL
  rw[sU fun v hv=>(List.nodup_cons.mp nd).1 (Yj hv).1,if_pos hk]
  simp
 | p::P,w::vs,i+1,m,nd,h1,h2,hk=>by
  show bindL kindOf ((p,w)::P.zip vs) m x=_
  unfold bindL
  exact uM (i:=i) (List.nodup_cons.mp nd).2 (by simpa using h1) (by simpa using h2) hk
theorem uR {kindOf:Q4->Option V2} {x:Q4} {v:Value}:∀ {P:List Q4} {vs:List Value} {i:Nat} {m:Q4->Option Value},P.Nodup->P[i]? = some x->vs[i]? = some v->kindOf x≠some .local →
  bindC kindOf (P.zip vs) m x=some v
 | [],_,_,_,_,h,_,_=>by simp at h
 | _::_,[],_,_,_,_,h,_=>by simp at h
 | p::P,w::vs,0,m,nd,h1,h2,hk=>by
  simp at h1 h2; subst h1; subst h2
  show bindC kindOf ((p,w)::P.zip vs) m p=_
  unfold bindC
  rw[vA fun v hv=>(List.nodup_cons.mp nd).1 (Yj hv).1,if_neg hk]
  simp
 | p::P,w::vs,i+1,m,nd,h1,h2,hk=>by
  show bindC kindOf ((p,w)::P.zip vs) m x=_
  unfold bindC
  exact uR (i:=i) (List.nodup_cons.mp nd).2 (by simpa using h1) (by simpa using h2) hk
def start (N:List Q4) (vs:List V):St:=vs.map some++QM (N.length - vs.length) none
def KR (CX:CXT) (P:QK) (w:Q3) (K:Qo) (mg:Q4->Option Value) (base:Rv) (N:List Q4) (qual:Q4) (scope:TX) (f:Addr) (cd:Value) (A:Q5) (outer:List XM) (s:Qe) (H:Hp) (E:XK):Cx where
 prog:=P
 w:=w
 K:=K
 mg:=mg
 base:=base
 A:=A.deeper (Xk qual scope s.heap.objs.size f cd)
 N:=N
 s₀:=s
 H₀:=H
 env:=Xk qual scope s.heap.objs.size f cd
 outer:=outer
 stack:=Xk qual scope s.heap.objs.size f cd::outer
 ex:=[]
 calm:=true
 fn:=fun _=>true
 pn:=[]
 xe:=fun e s'=>Qp (Qy P w) (A.deeper (Xk qual scope s.heap.objs.size f cd)) (leaving (Xk qual scope s.heap.objs.size f cd) e) (fun _ s''=>CX outer H s E e s'') (fun e' s''=>CX outer H s E e' s'') s'
theorem yI {sc:TX} {n:Nat} {x:Q4} (h:sc.names.lookup x=some .cell):∃ c,(W8 n sc.names []).lookup x=some c:=by
 have q:=PySem.W.cellsFrom_some sc.names n [] (.inl h)
 exact Option.isSome_iff_exists.mp q
theorem Av {CX:CXT} {P:QK} {w:Q3} {K:Qo} {mg:Q4->Option Value} {base:Rv} {N ps:List Q4} {qual:Q4} {scope:TX} {f:Addr} {cd:Value} {A:Q5} {outer:List XM} {s s1:Qe} {H:Hp} {E:XK} {us:List Value} {vs:List V}
  (S:aO N ps scope) (hd:A.handled=none) (e0:J0 P w K mg base A outer s H) (hl:vs.length=ps.length) (r:Vals vs us)
  (x:InCallC s s.heap.objs.size (bindL (Xk qual scope s.heap.objs.size f cd).kindOf (ps.zip us) fun _=>none) (W8 (s.heap.objs.size+1) scope.names []) (bindC (Xk qual scope s.heap.objs.size f cd).kindOf (ps.zip us) fun _=>none) s1) :
  Inv (KR CX P w K mg base N qual scope f cd A outer s H E) [] (start N vs) H s1:=by
 have hpl:ps.length<=N.length:=by have:=congrArg X8 S.pre; rw[Qv] at this; lia
 obtain⟨h1,tk,rfl,hk⟩:=x.done
 have noA:∀ b:Addr,b ∉ (KR CX P w K mg base N qual scope f cd A outer s H E).ex:=fun b z=>absurd (show b∈([]:List Addr) from z) (by simp)
 refine⟨⟨e0.mod,S.kind,rfl,rfl,Ql _,fun y z c h1 h2=>?_,fun y hy=>?_,fun y c _ h=>?_,fun _=>hd,Around.frames_deeper e0.frames,.inr ⟨rfl,rfl⟩,fun b z=>absurd z (noA b),e0.bs,e0.bsz,fun b _ _=>noA b,fun b z=>absurd z (noA b),e0.Ar,e0.frf⟩,
  rfl,e0.bare,Un.kept hk,⟨_,x.toInCall.ns,fun i y v h1 h2 h3=>?_⟩,fun y c h=>⟨_,x.cell y c h⟩,e0.hok.fresh (Ql _),fun y c h=>?_,fun p hp=>absurd (show p∈([]:List (Addr × Tz)) from hp) (by simp),e0.hok.kept hk,?_⟩
 ·exact name_of_addr x.apart (Rj h1) (Rj h2)
 ·have hy:scope.names.lookup y=some .cell∨scope.names.lookup y=some .free:=hy
  rcases hy with hy | hy
  ·exact yI hy
  ·exact absurd rfl (S.nofree _ (Rj hy))
 ·exact Tg (x.above y c (Rj h))
 ·have hi:i < vs.length:=by
   unfold start at h2
   by_cases hi:i < vs.length
   ·exact hi
   ·rw[SX (by simpa using hi)] at h2
    rw[Vh] at h2
    split at h2 <;> cases h2
  have ha:vs[i]? = some v:=by
   unfold start at h2
   rw[U4 (by simpa using hi),QH] at h2
   cases e:vs[i]? with
   | none=>rw[e] at h2; cases h2
   | some a=>rw[e] at h2; cases h2; rfl
  obtain⟨u,hu,rv⟩:=r.get ha
  have hp:ps[i]? = some y:=by
   rw[← S.pre,List.getElem?_take_of_lt (by lia)]; exact h1
  have ndP:ps.Nodup:=by rw[← S.pre]; exact S.nd.sublist (List.take_sublist _ _)
  refine⟨u,rv,?_⟩
  rcases S.par y (QC hp) with k | k
  ·exact .inl ⟨k,uM ndP hp hu k⟩
  ·obtain⟨c,e⟩:=yI (n:=s.heap.objs.size+1) k
   refine .inr ⟨.inl k,c,e,?_⟩
   have q:=x.cell y c e
   rw[uR ndP hp hu (by show scope.names.lookup y≠_; rw[k]; decide)] at q
   exact q
 ·exact e0.hok.fresh (Tg (x.above y c (Rj h)))
 ·unfold start
  show _=N.length
  rw[Qx,Qc,Rt]
  lia
theorem Nt {CX:CXT} {P:QK} {w:Q3} {K:Qo} {mg:Q4->Option Value} {base:Rv} {k:Nat} {f:Addr} {name qual:Q4} {params:Arguments} {body:List Stmt} {scope:TX} {dV kV doc pm cdv ct oc:Value} {an od:Option Addr}
  {osl:Array (Option Value)} {N ps:List Q4} {sp:Sp} (lk:K.lookup f=some ⟨oc,od,.func (UW name qual params body scope dV kV doc pm an cdv ct),osl⟩) (hcd:V1 K cdv qual=true) (S:aO N ps scope)
  (len:∀ vs H Q E,sp vs H Q E->vs.length=ps.length)
  (hbody:∀ (A:Q5) (outer:List XM) (s:Qe) (H:Hp) (vs:List V) (Q:VK) (E:XK),jM k (A.deeper (Xk qual scope s.heap.objs.size f cdv))->sp vs H Q E →
   ∃ t,PSs (KR CX P w K mg base N qual scope f cdv A outer s H E) body t/\t { nx:=fun _ H'=>Q .non H',rt:=Q } (start N vs) H) :
  cI P w K mg base CX (k+1) f (UW name qual params body scope dV kV doc pm an cdv ct) ps sp:=by
 refine⟨len,fun A outer s H args us vs Q E hr e0 hb r hsp=>?_⟩
 have hl:=len _ _ _ _ hsp
 have KX:K.In s.heap:=e0.mod.kin.keeps fun b o e=>(e0.bs b o e).1
 have lim:s.heap.NoLimit:=e0.mod.nolimit.keeps fun b o e=>(e0.bs b o e).1
 have hkind:∀ y∈ps.zip us,scope.names.lookup y.1=some .local∨(scope.names.lookup y.1=some .cell/\((W8 (s.heap.objs.size+1) scope.names []).lookup y.1).isSome=true):=fun⟨n,v⟩ hy=>by
  rcases S.par n (Yj hy).1 with q | q
  ·exact .inl q
  ·exact .inr ⟨q,PySem.W.cellsFrom_some _ _ _ (.inl q)⟩
 refine codeAny_call_function hr.depth (KX _ _ lk) rfl S.co S.gen rfl (PySem.W.codeRec_of KX hcd) (hb _ _ _ _ ?_)
 refine wpAny_newFunctionEnv_cells S.kind hkind fun env he s1 x=>?_
 subst he
 refine⟨lim.keeps x.toInCall.keep,codeAny_func ?_⟩
 obtain⟨t,ht,hq⟩:=hbody A outer s H vs Q E (hr.deeper _) hsp
 have I:Inv (KR CX P w K mg base N qual scope f cdv A outer s H E) [] (start N vs) H s1:=Av S hr.hd e0 hl r x
 refine RM (ht [] s1 (start N vs) H _ I hq) (fun fl s' hs=>?_) fun e s' hs=>hs
 have fin:∀ {σ':St} {H':Hp} {v:V} {u:Value},Inv (KR CX P w K mg base N qual scope f cdv A outer s H E) [] σ' H' s'->RelV v u->Q v H'->CE outer P w H s Q u s' :=
  fun {σ' H' v u} J rv q=>⟨v,H',J.os,J.bare,J.base,J.hok,rv,q⟩
 cases fl with
 | ret u =>
  obtain⟨v,σ',H',J,rv,q⟩:=hs
  exact fin J rv q
 | next =>
  obtain⟨σ',H',J,q⟩:=hs
  exact fin (v:=V.non) (u:=R8) J rfl q
 | brk =>
  obtain⟨_,_,_,q⟩:=hs
  exact Tq q
 | cont =>
  obtain⟨_,_,_,q⟩:=hs
  exact Tq q
end L2
namespace L2
open PySem PySem.Spec PyProof.Rows
section
variable {X:Cx} {x:Q4} {p pos:V5} {e:Expr} {es:List Expr} {t:TA} {id T:String} {r:List V->Hp->VK->Prop}
def tCB (r:List V->Hp->VK->Prop) (t:TA):TE:=fun σ H Q=>t σ H fun vs H1=>r vs H1 Q
theorem aF (hc:gh X (.builtin id) r) (hg:Gl X x) (hm:X.mg x=none) (hv:Rb x=some (.builtin id)) (ha:PA X (e::es) t) (hn:x≠"__name__":=by decide) (hdb:(x == ("__debug__" : Q4))=false:=by decide)
  (he:QS (e::es) X.env=(false,S6 e X.env)::QS es X.env:=by rfl) (hpl:(TQ pos (QS es X.env)).any (·.1)=false:=by rfl):PE X (.Call (.Name x p) (e::es) [] pos) (tCB r t):=by
 intro pins s σ H Q I h
 refine S7 (jh I hg hm hv ?_ hn hdb)
 exact XS (thn (ha pos pins s σ H _ I h) fun us s1 ⟨vs,H1,I1,r1,q1⟩=>hc pins s1 σ H1 vs us Q I1 r1 q1) he hpl
theorem bJ (hc:gh X (.type T) r) (hg:Gl X x) (hm:X.mg x=none) (hv:Rb x=some (.type T)) (ha:PA X (e::es) t) (hn:x≠"__name__":=by decide) (hdb:(x == ("__debug__" : Q4))=false:=by decide)
  (he:QS (e::es) X.env=(false,S6 e X.env)::QS es X.env:=by rfl) (hpl:(TQ pos (QS es X.env)).any (·.1)=false:=by rfl):PE X (.Call (.Name x p) (e::es) [] pos) (tCB r t):=by
 intro pins s σ H Q I h
 refine S7 (jh I hg hm hv ?_ hn hdb)
 exact Sy (thn (ha pos pins s σ H _ I h) fun us s1 ⟨vs,H1,I1,r1,q1⟩=>hc pins s1 σ H1 vs us Q I1 r1 q1) he hpl
end
end L2
namespace HT
open PySem PyProof.Rows
section
open PySem.SeqAt
open PySem.AutoSeq1 (wpAny_loadPart')
open PySem.MeetsSeq PySem.MeetsSeq2 PySem.MeetsSeq3
end
section
variable {prog:QK} {w:Q3} {A:Q5} {E:Value->Qe->Prop} {s:Qe}
theorem Jl {t b:Addr} {vs ws:List Value} {Q:Value->Qe->Prop} (ht:IsTup s.heap t vs.toArray) (hb:IsTup s.heap b ws.toArray) (hv:vs≠[])
  (h1:ws=[]->Q (.ref t) s) (h2:ws≠[]->Q (.ref s.heap.objs.size) { s with heap:=s.heap.push { cls:=.type "tuple",data:=.seq (vs++ws).toArray } })
  (hsz:vs.length+ws.length<=sizeLine):Qp (Qy prog w) A (Vj .Add (.ref t) (.ref b)) Q E s:=by
 obtain⟨⟨cls,dd,data,sl⟩,ho,hc,n,hd⟩:=id ht
 obtain⟨⟨cls2,dd2,data2,sl2⟩,ho2,hc2,n2,hd2⟩:=id hb
 simp only at hc hd hc2 hd2
 subst hc hd hc2 hd2
 have e:vs.toArray++ws.toArray=(vs++ws).toArray:=by simp
 by_cases hw:ws=[]
 ·exact concat_meets ⟨_,ho,rfl⟩ ⟨_,ho2,rfl⟩ XQ seq_tuple_add Wl Wg (Wb _ _)
   (tuple_addW1 t b vs.toArray ws.toArray n n2 dd dd2 sl sl2 (by simpa using hv) (by simp [hw])) ⟨ho,ho2,h1 hw⟩
 ·refine concat_meets ⟨_,ho,rfl⟩ ⟨_,ho2,rfl⟩ XQ seq_tuple_add Wl Wg (Wb _ _)
   (tuple_addW2 t b vs.toArray ws.toArray n n2 dd dd2 sl sl2 (by simpa using hv) (by simpa using hw) (by rw[Qz,Qz]; exact hsz)) ⟨ho,ho2,?_⟩
  rw[e]
  exact h2 hw
def sIx (n d:Nat):Option Int->Nat
 | none=>d
 | some v=>if v < 0 then (v+(n:Int)).toNat else min v.toNat n
theorem yL (n d:Nat):sIx n d none=d:=rfl
theorem rB (n d k:Nat):sIx n d (some (k:Int))=min k n:=by
 show (if (k:Int) < 0 then ((k:Int)+(n:Int)).toNat else min (k:Int).toNat n)=min k n
 rw[if_neg (by lia),Q8]
theorem MT (n d:Nat) (hd:d<=n) (o:Option Int):sIx n d o<=n:=by
 cases o with
 | none=>exact hd
 | some v =>
  show (if v < 0 then (v+(n:Int)).toNat else min v.toNat n)<=n
  by_cases hv:v < 0
  ·rw[if_pos hv]; lia
  ·rw[if_neg hv]; exact Nat.min_le_right _ _
theorem Ei (v:Int) (n d:Nat):(if v < 0 then max (v+(n:Int)) 0 else min v (n:Int))=((sIx n d (some v):Nat):Int):=by
 show (if v < 0 then max (v+(n:Int)) 0 else min v (n:Int))=(((if v < 0 then (v+(n:Int)).toNat else min v.toNat n):Nat):Int)
 by_cases hv:v < 0
 ·simp only[if_pos hv]; lia
 ·simp only[if_neg hv]; lia
theorem Af (lo hi:Option Int) (n:Nat):V3 lo hi 1 (n:Int)=(((sIx n 0 lo:Nat):Int),((sIx n n hi:Nat):Int)):=by
 have h1:¬ ((1:Int) < 0):=by lia
 unfold V3
 simp only[h1,if_false]
 refine Prod.ext ?_ ?_
 ·cases lo with
  | none=>rfl
  | some v=>exact Ei v n 0
 ·cases hi with
  | none=>rfl
  | some v=>exact Ei v n n
theorem Ac (i j:Nat):U5 (i:Int) (j:Int) 1=j - i:=by
 unfold U5
 have h1:(1:Int) > 0:=by lia
 simp only[h1,if_true,Int.ediv_one]
 split <;> lia
theorem pY {v:Value} {o:Option Int} {Q:Option Int->Qe->Prop} (p:X5 v o) (h:Q o s):Qp (Qy prog w) A (Builtin.Slice.slicePartIndex v) Q E s:=by
 cases p with
 | none=>exact slicePart_none h
 | int i t=>exact slicePart_int h
theorem mH {sl:Addr} {vl vu:Value} {lo hi:Option Int} {n:Nat} {Q:Int × Int × Nat->Qe->Prop} (hs:s.heap.IsSliceOf sl vl vu .none) (pl:X5 vl lo) (pu:X5 vu hi)
  (h:Q (((sIx n 0 lo:Nat):Int),1,sIx n n hi - sIx n 0 lo) s):Qp (Qy prog w) A (Builtin.Slice.sliceApplied (.ref sl) (pure (n:Int))) Q E s:=by
 obtain⟨os,hos,hcs,hds⟩:=id hs
 unfold Builtin.Slice.sliceApplied Builtin.Slice.sliceFields
 refine Qa (Qa (RJ hos hds (x:=vl) rfl (Qa (RJ hos hds (x:=vu) rfl (Qa (RJ hos hds (x:=.none) rfl (Qh ?_)))))))
 refine Qa (slicePart_none ?_)
 show Qp _ _ (if ((1:Int) == 0)=true then _ else _) _ _ s
 rw[if_neg (by decide)]
 refine Qa (pY pl (Qa (pY pu (Qa (Qh ?_)))))
 show Qp _ _ (match V3 lo hi 1 (n:Int) with | (lo,hi)=>pure (lo,(1:Int),U5 lo hi 1)) _ _ s
 rw[Af lo hi n]
 show Qp _ _ (pure (((sIx n 0 lo:Nat):Int),(1:Int),U5 ((sIx n 0 lo:Nat):Int) ((sIx n n hi:Nat):Int) 1)) _ _ s
 rw[Ac]
 exact Qh h
theorem Fv (xs:Array Value) (i k:Nat):((Rk k).filterMap fun (m:Nat)=>xs[((i:Int)+(m:Int) * 1).toNat]?).toArray=((xs.toList.drop i).take k).toArray:=by
 have e:(fun (m:Nat)=>xs[((i:Int)+(m:Int) * 1).toNat]?)=fun m=>xs[i+m]?:=by
  funext m
  have:((i:Int)+(m:Int) * 1).toNat=i+m:=by lia
  rw[this]
 rw[e]
 have:=pick_run xs i k
 rw[List.filterMap_map] at this
 have e2:((fun x=>xs[x]?) ∘ fun x=>i+x)=fun m=>xs[i+m]?:=rfl
 rw[e2] at this
 rw[this]
theorem lJ {t sl:Addr} {items:Array Value} {vl vu:Value} {lo hi:Option Int} {Q:Value->Qe->Prop} (ht:IsTup s.heap t items) (hs:s.heap.IsSliceOf sl vl vu .none) (pl:X5 vl lo) (pu:X5 vu hi)
  (hw:¬ (sIx items.size 0 lo=0/\sIx items.size items.size hi=items.size))
  (h:Q (.ref s.heap.objs.size) { s with heap:=s.heap.push { cls:=.type "tuple",data:=.seq ((items.toList.drop (sIx items.size 0 lo)).take (sIx items.size items.size hi - sIx items.size 0 lo)).toArray } })
  (hsz:items.size<=sizeLine):Qp (Qy prog w) A (getItem (.ref t) (.ref sl)) Q E s:=by
 have htake:sizeOk (.seq ((items.toList.drop (sIx items.size 0 lo)).take (sIx items.size items.size hi - sIx items.size 0 lo)).toArray):=by
  show ((items.toList.drop (sIx items.size 0 lo)).take (sIx items.size items.size hi - sIx items.size 0 lo)).toArray.size<=sizeLine
  rw[Qz,Qv,U3,Ra]
  lia
 have hj:sIx items.size items.size hi<=items.size:=MT _ _ (Ql _) hi
 obtain⟨os,hos,hcs,hds⟩:=id hs
 have hTs:s.TypeIs (.ref sl) "slice":=⟨os,hos,hcs⟩
 unfold getItem
 try with_reducible refine R9 ?_
 first | refine Qa (Qh ?_) | skip
 refine Qa (wpAny_sequenceKey ht.typeIs (by decide) ?_)
 refine Qa (Rx (name:=Tf "__getitem__") ht.typeIs XN
  (Rm XN ht.typeIs entry_tuple_getitem ?_ (args_tuple_getitem _ _)))
 show Qp _ _ (Builtin.Tuple.tupleItemsOf (.ref t) >>= _) _ _ s
 refine Qa (tupleItemsOf_ ht ?_)
 refine Qa (Xq hTs ?_)
 rw[if_pos (by decide)]
 refine Qa (mH hs pl pu ?_)
 have hno:¬ ((((sIx items.size 0 lo:Nat):Int) == 0 && (1:Int) == 1 && (sIx items.size items.size hi - sIx items.size 0 lo) == items.size)=true):=by
  intro q
  rw[Rn,Rn] at q
  have q1:((sIx items.size 0 lo:Nat):Int)=0:=eq_of_beq q.1.1
  have q2:sIx items.size items.size hi - sIx items.size 0 lo=items.size:=eq_of_beq q.2
  exact hw ⟨by lia,by lia⟩
 show Qp _ _ (if (((sIx items.size 0 lo:Nat):Int) == 0 && (1:Int) == 1 && (sIx items.size items.size hi - sIx items.size 0 lo) == items.size)=true then _ else _) _ _ s
 rw[if_neg hno,Fv]
 first
  | exact Qa (m:=Va _) (QV (Qh ⟨_,rfl,Qh h⟩) htake)
  | exact Qa (m:=Va _) (QV (Qa (Qh (Qh ⟨_,rfl,Qh h⟩))) htake)
  | exact Qa (Qa (m:=Va _) (QV (Qh (Qh ⟨_,rfl,Qh h⟩)) htake))
  | exact Qa (Qa (m:=Va _) (QV (Qh ⟨_,rfl,Qh h⟩) htake))
end
end HT
namespace L2
open PySem PySem.Spec PyProof.Rows
abbrev TO:=St->Hp->(Option Int->Hp->Prop)->Prop
def PO (X:Cx) (e:Option Expr) (t:TO):Prop :=
 ∀ (pins:List (Addr × Tz)) (s:Qe) (σ:St) (H:Hp) (Q:Option Int->Hp->Prop),Inv X pins σ H s->t σ H Q →
  Qp (Qy X.prog X.w) X.A (evalPart e X.env) (fun u s'=>∃ o H',Inv X pins σ H' s'/\X5 u o/\Q o H') X.xe s
def nF:TO:=fun _ H Q=>Q none H
def Ce (t:TE):TO:=fun σ H Q=>t σ H fun x H1=>∃ i,x = .int i/\Q (some i) H1
theorem intsAre_of {ns:List Int}:∀ {us:List Value},Vals (ns.map V.int) us->Rz us ns:=by
 induction ns with
 | nil=>intro us r; rw[List.map_nil] at r; cases r; exact .nil
 | cons n ns ih =>
  intro us r
  rw[RZ] at r
  cases r with
  | cons r1 r2 =>
   obtain⟨t,e⟩:=r1
   subst e
   exact .cons n t (ih r2)
section
variable {X:Cx} {e:Expr} {te:TE} {lo hi:Option Expr} {tl th:TO} {pos p2:V5}
theorem o6:PO X none nF:=by
 intro pins s σ H Q I h
 rw[evalPart_none]
 exact Qh ⟨none,H,I,.none,h⟩
theorem nT (h:PE X e te):PO X (some e) (Ce te):=by
 intro pins s σ H Q I hw
 rw[evalPart_some]
 refine thn (h pins s σ H _ I hw) fun u s1 ⟨x,H1,I1,r1,q1⟩=>?_
 obtain⟨i,rfl,q⟩:=q1
 obtain⟨t,rfl⟩:=r1
 exact⟨some i,H1,I1,.int i t,q⟩
def SlR (X:Cx) (r:V->Option Int->Option Int->Hp->VK->Prop):Prop :=
 ∀ (pins:List (Addr × Tz)) (s:Qe) (σ:St) (H:Hp) (x:V) (v vl vu:Value) (lo hi:Option Int) (sl:Addr) (Q:VK),Inv X pins σ H s->RelV x v->s.heap.IsSliceOf sl vl vu .none->X5 vl lo->X5 vu hi->r x lo hi H Q →
  ∃ T id,typeLookup (.type T) "__getitem__" = pure (some (.builtin id))/\s.TypeIs v T/\Qp (Qy X.prog X.w) X.A (getItem v (.ref sl)) (EP X pins σ Q) X.xe s
def tSl (r:V->Option Int->Option Int->Hp->VK->Prop) (te:TE) (tl th:TO):TE:=fun σ H Q=>te σ H fun x H1=>tl σ H1 fun l H2=>th σ H2 fun u H3=>r x l u H3 Q
theorem jQ {r:V->Option Int->Option Int->Hp->VK->Prop} (hr:SlR X r) (he:PE X e te) (hl:PO X lo tl) (hu:PO X hi th):PE X (.Subscript e (.Slice lo hi none p2) pos) (tSl r te tl th):=by
 intro pins s σ H Q I h
 refine Subscript_ (thn (he pins s σ H _ I h) fun v s1 ⟨x,H1,I1,r1,q1⟩=>?_)
 refine wpAny_Slice (thn (hl pins s1 σ H1 _ I1 q1) fun vl s2 ⟨l,H2,I2,pl,q2⟩=>thn (hu pins s2 σ H2 _ I2 q2) fun vu s3 ⟨u,H3,I3,pu,q3⟩=>?_)
 rw[evalPart_none]
 refine Qh ?_
 have I4:Inv X pins σ H3 { s3 with heap:=s3.heap.push { cls:=.type "slice",data:=.fields #[vl,vu,.none] } }:=I3.kept (t':=s3.toks) fun b ob q=>Qd _ q
 obtain⟨T,id,hT,ht,hg⟩:=hr pins { s3 with heap:=s3.heap.push { cls:=.type "slice",data:=.fields #[vl,vu,.none] } } σ H3 x v vl vu l u s3.heap.objs.size Q I4 r1 (Heap.IsSliceOf.new ..) pl pu q3
 show Qp (Qy X.prog X.w) X.A (subscriptTail e (.Slice lo hi none p2) v (.ref s3.heap.objs.size)) (EP X pins σ Q) X.xe { s3 with heap:=s3.heap.push { cls:=.type "slice",data:=.fields #[vl,vu,.none] } }
 exact tail_any (ops:=[.ref s3.heap.objs.size,v]) ht hT hg (by with_unfolding_all rfl)
def wY (xs:List V) (lo hi:Option Int):List V:=(xs.drop (HT.sIx xs.length 0 lo)).take (HT.sIx xs.length xs.length hi - HT.sIx xs.length 0 lo)
theorem o7 (xs:List V) (lo hi:Option Int):(wY xs lo hi).length<=xs.length:=by
 unfold wY
 rw[Qv,U3]
 lia
inductive Lp (K:Qo) (x:V) (lo:Option Int) (hi:Option Int) (H:Hp) (Q:VK):Prop where
 | mk (a:Addr) (xs:List V) (z0:x = .ref a) (z1:SqT K H a xs) (z2:¬ (HT.sIx xs.length 0 lo=0/\HT.sIx xs.length xs.length hi=xs.length)) (z3:∀ p,H p=none->Q (.ref p) (upd H p (.tup (wY xs lo hi)))):Lp K x lo hi H Q
def Ip (K:Qo):V->Option Int->Option Int->Hp->VK->Prop:=fun x lo hi H Q=>Lp K x lo hi H Q
theorem BK:SlR X (Ip X.K):=by
 intro pins s σ H x v vl vu lo hi sl Q I rx hs pl pu h
 obtain⟨a,xs,rfl,hx,hw,q⟩:=h
 cases rx
 obtain⟨its,r,ht,hz⟩:=I.tuple hx
 have hlen:its.toArray.size=xs.length:=by rw[Qz]; exact r.length.symm
 refine⟨"tuple",_,PyProof.Rows.slot_tuple_getitem.lookup,ht.typeIs,?_⟩
 refine HT.lJ ht hs pl pu (by rw[hlen]; exact hw) ?_ (by rw[hlen]; exact hz)
 rw[hlen]
 refine⟨.ref s.heap.objs.size,_,I.laid (t':=s.toks) (o:=.tup (wY xs lo hi)) (fun b ob q=>Qd _ q) (Ql _) ?_,rfl,q _ (I.hok.fresh (Ql _))⟩
 exact⟨QL (o7 xs lo hi) hz,_,(r.drop (HT.sIx xs.length 0 lo)).take (HT.sIx xs.length xs.length hi - HT.sIx xs.length 0 lo),IsTup.new _ _⟩
def N6 (K:Qo):R2:=fun x y H Q=>∃ a b xs ys,x = .ref a/\y = .ref b/\SqT K H a xs/\SqT K H b ys/\xs≠[]/\xs.length+ys.length<=sizeLine ∧
 (ys=[]->Q (.ref a) H)/\(ys≠[]->∀ p,H p=none->Q (.ref p) (upd H p (.tup (xs++ys))))
theorem Vals.wF {xs:List V} {us:List Value} (r:Vals xs us):us=[] ↔ xs=[]:=by
 cases r with
 | nil=>simp
 | cons _ _=>simp
theorem Kz:OpR X (Vj .Add) (N6 X.K):=by
 intro pins s σ H x y v u Q I rx ry h
 obtain⟨a,b,xs,ys,rfl,rfl,ha,hb,hx,hz,q1,q2⟩:=h
 cases rx
 cases ry
 obtain⟨its,r1,p1,_⟩:=I.tuple ha
 obtain⟨its2,r2,p2,_⟩:=I.tuple hb
 refine HT.Jl p1 p2 (fun z=>hx (r1.wF.mp z)) (fun z=>⟨.ref a,H,I,rfl,q1 (r2.wF.mp z)⟩) (fun z=>?_) (by rw[← r1.length,← r2.length]; exact hz)
 refine⟨.ref s.heap.objs.size,_,I.laid (t':=s.toks) (o:=.tup (xs++ys)) (fun b ob q=>Qd _ q) (Ql _) ?_,rfl,q2 (fun w=>z (r2.wF.mpr w)) _ (I.hok.fresh (Ql _))⟩
 exact⟨by rw[Qx]; exact hz,_,r1.append r2,IsTup.new _ _⟩
end
end L2
namespace L2
open PySem PySem.Spec PyProof.Rows
def ixN (n:Nat) (i:Int):Option Nat:=if 0<=i then (if i < n then some i.toNat else none) else if -(n:Int)<=i then some (i+n).toNat else none
def atI {α:Type} (xs:List α) (i:Int):Option α:=(ixN xs.length i).bind fun j=>xs[j]?
theorem Eo {n:Nat} {i:Int} {j:Nat} (h:ixN n i=some j):seqIndex? i n=some j/\j < n/\-(n:Int)<=i/\i < n:=by
 unfold ixN at h
 by_cases h0:0<=i
 ·rw[if_pos h0] at h
  by_cases h1:i < n
  ·rw[if_pos h1] at h
   have e:i.toNat=j:=QZ h
   exact⟨by rw[seqIndex_of h0 h1,e],by lia,by lia,h1⟩
  ·rw[if_neg h1] at h; cases h
 ·rw[if_neg h0] at h
  by_cases h1 : -(n:Int)<=i
  ·rw[if_pos h1] at h
   have e:(i+n).toNat=j:=QZ h
   exact⟨by rw[seqIndex_neg (by lia) h1,e],by lia,h1,by lia⟩
  ·rw[if_neg h1] at h; cases h
theorem wj {α:Type} {xs:List α} {i:Int} {v:α} (h:atI xs i=some v):∃ j,seqIndex? i xs.length=some j/\xs[j]? = some v/\j < xs.length/\-(xs.length:Int)<=i/\i < xs.length:=by
 unfold atI at h
 cases e:ixN xs.length i with
 | none=>rw[e] at h; cases h
 | some j =>
  rw[e] at h
  obtain⟨h1,h2,h3,h4⟩:=Eo e
  exact⟨j,h1,h,h2,h3,h4⟩
theorem gK {α:Type} {xs:List α} {j:Nat} {v:α} (h:xs[j]? = some v):atI xs (j:Int)=some v:=by
 have hj:j < xs.length:=(List.getElem?_eq_some_iff.mp h).1
 have e:ixN xs.length (j:Int)=some j:=by
  unfold ixN
  rw[if_pos (by lia),if_pos (by lia)]; simp
 unfold atI; rw[e]; exact h
theorem Fy {α:Type} (xs:List α) (v:α):atI (xs++[v]) (-1)=some v:=by
 have hl:(xs++[v]).length=xs.length+1:=by simp
 have e:ixN (xs++[v]).length (-1)=some xs.length:=by
  unfold ixN
  rw[hl,if_neg (by decide),if_pos (by lia)]
  congr 1
  lia
 unfold atI
 rw[e]
 show (xs++[v])[xs.length]? = some v
 simp
def Js (b:Expr):Prop:=∀ o i,subscripted b false o i=operate [o,i] (getItem o i)
def IxR (X:Cx) (r:R2):Prop :=
 ∀ (value slice:Expr) (pins:List (Addr × Tz)) (s:Qe) (σ:St) (H:Hp) (x y:V) (v u:Value) (Q:VK),Inv X pins σ H s->RelV x v->RelV y u->r x y H Q →
  subscripted slice false v u=operate [v,u] (getItem v u)->Qp (Qy X.prog X.w) X.A (subscriptTail value slice v u) (EP X pins σ Q) X.xe s
def MtR (X:Cx) (id:String) (r:V->List V->Hp->VK->Prop):Prop :=
 ∀ (pins:List (Addr × Tz)) (s:Qe) (σ:St) (H:Hp) (x:V) (xs:List V) (v:Value) (us:List Value) (Q:VK),Inv X pins σ H s->RelV x v->Vals xs us->r x xs H Q →
  Qp (Qy X.prog X.w) X.A (call (.builtin id) (v::us)) (EP X pins σ Q) X.xe s
section
variable {X:Cx} {a b:Expr} {ta tb:TE} {pos:V5}
theorem IxR.or {r r':R2} (h:IxR X r) (h':IxR X r'):IxR X (fun x y H Q=>r x y H Q∨r' x y H Q):=by
 intro value slice pins s σ H x y v u Q I rx ry q hs
 rcases q with q | q
 ·exact h value slice pins s σ H x y v u Q I rx ry q hs
 ·exact h' value slice pins s σ H x y v u Q I rx ry q hs
theorem aQ {r:R2} (hr:IxR X r) (ha:PE X a ta) (hb:PE X b tb) (hs:Js b):PE X (.Subscript a b pos) (tOp r ta tb):=by
 intro pins s σ H Q I h
 exact Subscript_ (Nr ha hb I h fun v u s2 x y H2 I2 rx ry q=>hr a b pins s2 σ H2 x y v u Q I2 rx ry q (hs _ _))
inductive M9 (K:Qo) (x:V) (y:V) (H:Hp) (Q:VK):Prop where
 | mk (p:Addr) (xs:List V) (i:Int) (v:V) (z0:x = .ref p) (z1:y = .int i) (z2:SqL K H p xs) (z3:atI xs i=some v) (z4:Q v H):M9 K x y H Q
def dX (K:Qo):R2:=fun x y H Q=>M9 K x y H Q
inductive KY (K:Qo) (x:V) (y:V) (H:Hp) (Q:VK):Prop where
 | mk (p:Addr) (xs:List V) (i:Int) (v:V) (z0:x = .ref p) (z1:y = .int i) (z2:SqT K H p xs) (z3:atI xs i=some v) (z4:Q v H):KY K x y H Q
def cW (K:Qo):R2:=fun x y H Q=>KY K x y H Q
def O2:R2:=fun x y H Q=>∃ z i c,x = .str z/\y = .int i/\z.length<=sizeLine/\atI z.cps.toList i=some c/\Q (.str ⟨#[c]⟩) H
theorem aZ:IxR X (dX X.K):=by
 intro value slice pins s σ H x y v u Q I rx ry h hs
 obtain⟨p,xs,i,z,rfl,rfl,hq,he,q⟩:=h
 cases rx
 obtain⟨t,rfl⟩:=ry
 obtain⟨its,r,pl,hz⟩:=I.list hq
 obtain⟨j,h1,h2,h3,h4,h5⟩:=wj he
 obtain⟨w,ew,rw'⟩:=r.get h2
 have hl:=r.length
 have hn:=qw
 have fin:EP X pins σ Q w s:=⟨z,H,I,rw',q⟩
 by_cases h0:0<=i
 ·have hj:i.toNat=j:=by
   rw[seqIndex_of h0 h5] at h1
   exact QZ h1
  exact item_listR pl.isList h0 (by lia) (by rw[hj]; simpa using ew) fin hs
 ·have hj:(i+(its.toArray.size:Int)).toNat=j:=by
   rw[seqIndex_neg (by lia) h4] at h1
   rw[Qz,← hl]
   exact QZ h1
  exact subscriptTail_builtinR (x:=w) pl.isList.typeIs slot_list_getitem.lookup
   (wpAny_getItem_list_neg (Q:=fun r s'=>r=w/\EP X pins σ Q r s') pl.isList (by lia) (by rw[Qz] <;> lia) (by lia) (by rw[hj]; simpa using ew) ⟨rfl,fin⟩) hs
theorem aY:IxR X (cW X.K):=by
 intro value slice pins s σ H x y v u Q I rx ry h hs
 obtain⟨p,xs,i,z,rfl,rfl,hq,he,q⟩:=h
 cases rx
 obtain⟨t,rfl⟩:=ry
 obtain⟨its,r,pl,hz⟩:=I.tuple hq
 obtain⟨j,h1,h2,h3,h4,h5⟩:=wj he
 obtain⟨w,ew,rw'⟩:=r.get h2
 have hl:=r.length
 have hn:=qw
 have fin:EP X pins σ Q w s:=⟨z,H,I,rw',q⟩
 exact subscriptTail_builtinR (x:=w) pl.typeIs slot_tuple_getitem.lookup
  (getItem_tuple (j:=j) (Q:=fun r s'=>r=w/\EP X pins σ Q r s') pl (by lia) (by lia) (by rw[Qz,← hl]; exact h1) (by simpa using ew) ⟨rfl,fin⟩) hs
theorem Ni:IxR X O2:=by
 intro value slice pins s σ H x y v u Q I rx ry h hs
 obtain⟨z,i,c,rfl,rfl,hz,he,q⟩:=h
 obtain⟨t,rfl⟩:=rx
 obtain⟨t',rfl⟩:=ry
 obtain⟨j,h1,h2,h3,h4,h5⟩:=wj he
 have hl:z.cps.toList.length=z.length:=by simp [Str.length]
 rw[hl] at h1 h4 h5
 have hn:=qw
 exact tail_any (typeIs_str s z t) slot_str_getitem.lookup (getItem_str (c:=c) (by
  have e1:decide (i < -(2 ^ 63:Int))=false:=decide_eq_false (by lia)
  have e2:decide (i ≥ 2 ^ 63)=false:=decide_eq_false (by lia)
  rw[e1,e2,Bool.or_false]) (by rw[h1]; simpa using h2) ⟨.str ⟨#[c]⟩,H,I.tok _,⟨_,rfl⟩,q⟩) hs
def rIx (K:Qo):R2:=fun x y H Q=>dX K x y H Q∨cW K x y H Q∨O2 x y H Q
theorem Ik:IxR X (rIx X.K):=aZ.or (aY.or Ni)
theorem zF (its:List Value) (n j:Nat) (u:Value):Ug (·.setIfInBounds j u) { cls:=.type "list",data:=.seq its.toArray n }={ cls:=.type "list",data:=.seq (its.set j u).toArray n }:=by
 simp [Ug]
theorem Inv.lst {pins:List (Addr × Tz)} {σ:St} {H:Hp} {s:Qe} {p:Addr} {xs:List V} (I:Inv X pins σ H s) (h:H p=some (.lst xs)) :
  ∃ (its:List Value) (n:Nat),Vals xs its/\s.heap.get? p=some { cls:=.type "list",data:=.seq its.toArray n }/\xs.length<=sizeLine:=by
 obtain⟨z,its,n,r,e⟩:=I.hok p _ h
 exact⟨its,n,r,e,z⟩
theorem Inv.MK {pins:List (Addr × Tz)} {σ:St} {H:Hp} {s:Qe} {p:Addr} {xs ys:List V} {its its':List Value} {n n':Nat} {f:Tz->Tz} (I:Inv X pins σ H s) (h:H p=some (.lst xs))
  (ho:s.heap.get? p=some { cls:=.type "list",data:=.seq its.toArray n }) (hf:f { cls:=.type "list",data:=.seq its.toArray n }={ cls:=.type "list",data:=.seq its'.toArray n' }) (r:Vals ys its') (hz:ys.length<=sizeLine) (t:Nat) :
  Inv X pins σ (upd H p (.lst ys)) { s with heap:=s.heap.update p f,toks:=t }:=by
 have e:(s.heap.update p f).get? p=some { cls:=.type "list",data:=.seq its'.toArray n' }:=by
  rw[Q7 f ho (by rw[hf] <;> rfl),hf]
 refine I.write (x:=p) (e:=p) (by rw[h]; trivial) (.inl rfl) (fun b u hb q=>(Q0 _ _ (Uh hb)).trans q) ⟨_,e⟩ ?_
 exact⟨hz,its',n',r,e⟩
def Oe:V->V->V->Hp->(Hp->Prop)->Prop:=fun o i v H Q=>∃ p xs k j,o = .ref p/\i = .int k/\H p=some (.lst xs)/\ixN xs.length k=some j/\Q (upd H p (.lst (xs.set j v)))
theorem set_list:Ov X Oe:=by
 intro pins s σ H o i v ov iv u Q I ro ri rv h
 obtain⟨p,xs,k,j,rfl,rfl,hp,hj,q⟩:=h
 cases ro
 obtain⟨t,rfl⟩:=ri
 obtain⟨its,n,r,ho,hz⟩:=I.lst hp
 obtain⟨h1,h2,h3,h4⟩:=Eo hj
 have hl:=r.length
 have hn:=qw
 have I':Inv X pins σ (upd H p (.lst (xs.set j v))) { s with heap:=s.heap.update p (Ug (·.setIfInBounds j u)) } :=
  I.MK hp ho (zF its n j u) (r.set rv j) (by rw[Vd]; exact hz) s.toks
 by_cases h0:0<=k
 ·have hk:k.toNat=j:=by
   rw[seqIndex_of h0 h4] at h1
   exact QZ h1
  exact PySem.W.ki_setAt ho h0 (by lia) (by rw[Qz,← hl]; exact h4) (by rw[hk]; exact⟨_,I',q⟩)
 ·have hk:(k+(its.toArray.size:Int)).toNat=j:=by
   rw[seqIndex_neg (by lia) h3] at h1
   rw[Qz,← hl]
   exact QZ h1
  exact PySem.W.ki_setBack ho (by lia) (by rw[Qz,← hl]; exact h3) (by lia) (by rw[hk]; exact⟨_,I',q⟩)
theorem uZ (lo hi:Option Int) (n:Nat):(Vw lo hi none n).1=((HT.sIx n 0 lo:Nat):Int)/\(Vw lo hi none n).2.1=((HT.sIx n n hi:Nat):Int)/\(Vw lo hi none n).2.2=1:=by
 refine⟨?_,?_,rfl⟩
 ·cases lo with
  | none=>simp [Vw,HT.sIx]
  | some i =>
   simp only[Vw,HT.sIx,Option.getD_none,show (1:Int) > 0 by decide,if_true]
   by_cases h:i < 0
   ·simp only[h,if_true] <;> lia
   ·simp only[h,if_false] <;> lia
 ·cases hi with
  | none=>simp [Vw,HT.sIx]
  | some i =>
   simp only[Vw,HT.sIx,Option.getD_none,show (1:Int) > 0 by decide,if_true]
   by_cases h:i < 0
   ·simp only[h,if_true] <;> lia
   ·simp only[h,if_false] <;> lia
theorem rF (its:List Value) (lo hi:Option Int):slicePick its.toArray lo hi none=((its.drop (HT.sIx its.length 0 lo)).take (HT.sIx its.length its.length hi - HT.sIx its.length 0 lo)).toArray:=by
 obtain⟨h1,h2,h3⟩:=uZ lo hi its.toArray.size
 unfold slicePick
 rw[h1,h2,h3]
 simp only[sliceRange_one,pick_run,Qz] <;> rfl
inductive Lk (K:Qo) (x:V) (lo:Option Int) (hi:Option Int) (H:Hp) (Q:VK):Prop where
 | mk (a:Addr) (xs:List V) (z0:x = .ref a) (z1:SqL K H a xs) (z2:∀ p,H p=none->Q (.ref p) (upd H p (.lst (wY xs lo hi)))):Lk K x lo hi H Q
def Oc (K:Qo):V->Option Int->Option Int->Hp->VK->Prop:=fun x lo hi H Q=>Lk K x lo hi H Q
theorem Dn:SlR X (Oc X.K):=by
 intro pins s σ H x v vl vu lo hi sl Q I rx hs pl pu h
 obtain⟨a,xs,rfl,hx,q⟩:=h
 cases rx
 obtain⟨its,r,ht,hz⟩:=I.list hx
 have hlen:=r.length
 refine⟨"list",_,slot_list_getitem.lookup,ht.isList.typeIs,?_⟩
 refine wpAny_getItem_list_slice ht.isList hs pl pu .none (by simp) ?_ (by rw[Qz] <;> lia)
 rw[rF,← hlen]
 refine⟨.ref s.heap.objs.size,_,I.laid (t':=s.toks) (o:=.lst (wY xs lo hi)) (fun b ob q=>Qd _ q) (Ql _) ?_,rfl,q _ (I.hok.fresh (Ql _))⟩
 exact⟨QL (o7 xs lo hi) hz,_,0,(r.drop (HT.sIx xs.length 0 lo)).take (HT.sIx xs.length xs.length hi - HT.sIx xs.length 0 lo),Qn _ rfl⟩
def pI:V->Bool
 | .non=>true
 | .bl _=>true
 | .int _=>true
 | .str _=>true
 | _=>false
def eqV:V->V->Bool
 | .non,.non=>true
 | .bl a,.bl b=>a == b
 | .bl a,.int b=>(if a then 1 else 0) == b
 | .int a,.bl b=>a == (if b then 1 else 0)
 | .int a,.int b=>a == b
 | .str a,.str b=>a == b
 | _,_=>false
theorem Lh {A:Q5} {s:Qe} {y x:V} {u v:Value} (ry:RelV y u) (rx:RelV x v) (fy:pI y=true) (fx:pI x=true):SeqAt.EqAt A s u v (eqV y x):=by
 cases y with
 | non =>
  cases ry
  cases x with
  | non=>cases rx; exact SeqAt.EqAt.same _
  | bl b=>cases rx; exact SeqAt.EqAt.none_bool b
  | int b=>obtain⟨t,rfl⟩:=rx; exact SeqAt.EqAt.none_int b t
  | str b=>obtain⟨t,rfl⟩:=rx; exact SeqAt.EqAt.none_str b t
  | _=>exact absurd (show false=true from fx) Qk
 | bl a =>
  cases ry
  cases x with
  | non=>cases rx; exact SeqAt.EqAt.bool_none a
  | bl b=>cases rx; exact SeqAt.EqAt.bool_bool a b
  | int b=>obtain⟨t,rfl⟩:=rx; exact SeqAt.EqAt.bool_int a b t
  | str b=>obtain⟨t,rfl⟩:=rx; exact SeqAt.EqAt.bool_str a b t
  | _=>exact absurd (show false=true from fx) Qk
 | int a =>
  obtain⟨t',rfl⟩:=ry
  cases x with
  | non=>cases rx; exact SeqAt.EqAt.int_none a t'
  | bl b=>cases rx; exact SeqAt.EqAt.int_bool a t' b
  | int b=>obtain⟨t,rfl⟩:=rx; exact Xm a t' b t
  | str b=>obtain⟨t,rfl⟩:=rx; exact SeqAt.EqAt.int_str a t' b t
  | _=>exact absurd (show false=true from fx) Qk
 | str a =>
  obtain⟨t',rfl⟩:=ry
  cases x with
  | non=>cases rx; exact SeqAt.EqAt.str_none a t'
  | bl b=>cases rx; exact SeqAt.EqAt.str_bool a t' b
  | int b=>obtain⟨t,rfl⟩:=rx; exact SeqAt.EqAt.str_int a t' b t
  | str b=>obtain⟨t,rfl⟩:=rx; exact SeqAt.EqAt.str_str a t' b t
  | _=>exact absurd (show false=true from fx) Qk
 | _=>exact absurd (show false=true from fy) Qk
def eqU (x:V) (u:Value):Bool:=match u with
 | .none=>eqV .non x
 | .bool b=>eqV (.bl b) x
 | .int i _=>eqV (.int i) x
 | .str z _=>eqV (.str z) x
 | _=>false
theorem Ij {x y:V} {u:Value} (r:RelV y u) (f:pI y=true):eqU x u=eqV y x:=by
 cases y with
 | non=>cases r; rfl
 | bl b=>cases r; rfl
 | int i=>obtain⟨t,rfl⟩:=r; rfl
 | str z=>obtain⟨t,rfl⟩:=r; rfl
 | _=>exact absurd (show false=true from f) Qk
theorem oh {x:V}:∀ {xs:List V} {us:List Value},Vals xs us->xs.all pI=true->us.any (eqU x)=xs.any fun y=>eqV y x
 | _,_,.nil,_=>rfl
 | y::xs,u::us,.cons r t,f=>by
  rw[Vu,Rn] at f
  rw[We,We,Ij r f.1,oh t f.2]
theorem jT {A:Q5} {s:Qe} {x:V} {v:Value} (rx:RelV x v) (fx:pI x=true):∀ {xs:List V} {us:List Value},Vals xs us->xs.all pI=true->∀ u∈us,SeqAt.EqAt A s u v (eqU x u)
 | _,_,.nil,_=>fun u hu=>by cases hu
 | y::xs,u::us,.cons r t,f=>fun u' hu=>by
  rw[Vu,Rn] at f
  rcases List.mem_cons.mp hu with rfl | hu
  ·rw[Ij r f.1]; exact Lh r rx f.1 fx
  ·exact jT rx fx t f.2 u' hu
def inV (x:V) (xs:List V):Bool:=xs.any fun y=>eqV y x
inductive Oh (K:Qo) (neg:Bool) (x:V) (y:V) (H:Hp) (Q:VK):Prop where
 | mk (p:Addr) (xs:List V) (z0:y = .ref p) (z1:(SqL K H p xs∨SqT K H p xs)) (z2:pI x=true) (z3:xs.all pI=true) (z4:Q (.bl (if neg then !inV x xs else inV x xs)) H):Oh K neg x y H Q
def rIn (K:Qo) (neg:Bool):R2:=fun x y H Q=>Oh K neg x y H Q
theorem iG:OpR X (Tj .In) (rIn X.K false):=by
 intro pins s σ H x y v u Q I rx ry h
 obtain⟨p,xs,rfl,hq,fx,fs,q⟩:=h
 cases ry
 rcases hq with hq | hq
 ·obtain⟨its,r,pl,hz⟩:=I.list hq
  refine SeqAt.in_listAt (eqU x) pl.isList (fun w hw=>jT rx fx r fs w (by simpa using hw)) ⟨.bl _,H,I,rfl,?_⟩
  rw[show its.toArray.any (eqU x)=its.any (eqU x) by simp,oh r fs]
  exact q
 ·obtain⟨its,r,pl,hz⟩:=I.tuple hq
  refine SeqAt.in_tupleAt (eqU x) pl (fun w hw=>jT rx fx r fs w (by simpa using hw)) ⟨.bl _,H,I,rfl,?_⟩
  rw[show its.toArray.any (eqU x)=its.any (eqU x) by simp,oh r fs]
  exact q
theorem mq:OpR X (Tj .NotIn) (rIn X.K true):=by
 intro pins s σ H x y v u Q I rx ry h
 obtain⟨p,xs,rfl,hq,fx,fs,q⟩:=h
 cases ry
 rcases hq with hq | hq
 ·obtain⟨its,r,pl,hz⟩:=I.list hq
  refine SeqAt.notIn_listAt (eqU x) pl.isList (fun w hw=>jT rx fx r fs w (by simpa using hw)) ⟨.bl _,H,I,rfl,?_⟩
  rw[show its.toArray.any (eqU x)=its.any (eqU x) by simp,oh r fs]
  exact q
 ·obtain⟨its,r,pl,hz⟩:=I.tuple hq
  refine SeqAt.notIn_tupleAt (eqU x) pl (fun w hw=>jT rx fx r fs w (by simpa using hw)) ⟨.bl _,H,I,rfl,?_⟩
  rw[show its.toArray.any (eqU x)=its.any (eqU x) by simp,oh r fs]
  exact q
theorem uo:gh X (.builtin "len") (fun xs H Q=>∃ p ys,xs=[.ref p]/\(SqL X.K H p ys∨SqT X.K H p ys)/\Q (.int ys.length) H):=by
 intro pins s σ H xs us Q I r h
 obtain⟨p,ys,rfl,hq,q⟩:=h
 obtain⟨u,rfl,rx⟩:=vals1 r
 cases rx
 have hn:=qw
 rcases hq with hq | hq
 ·obtain⟨its,r',pl,hz⟩:=I.list hq
  have hlen:=r'.length
  exact Calls.call_len_list pl.isList (by simp only[Qz] <;> lia) ⟨.int ys.length,H,I.tok _,⟨s.toks+1,by rw[Qz,hlen]⟩,q⟩
 ·obtain⟨its,r',pl,hz⟩:=I.tuple hq
  have hlen:=r'.length
  exact len_tuple pl (by simp only[Qz] <;> lia) ⟨.int ys.length,H,I.tok _,⟨s.toks+1,by rw[Qz,hlen]⟩,q⟩
theorem uz:gh X (.type "list") (fun xs H Q=>∃ p ys,xs=[.ref p]/\(SqL X.K H p ys∨SqT X.K H p ys)/\∀ l,H l=none->Q (.ref l) (upd H l (.lst ys))):=by
 intro pins s σ H xs us Q I r h
 obtain⟨p,ys,rfl,hq,q⟩:=h
 obtain⟨u,rfl,rx⟩:=vals1 r
 cases rx
 have fin:∀ (its:List Value),Vals ys its->ys.length<=sizeLine->∀ (h':Rv) (c':Nat),(∀ b o',s.heap.get? b=some o'->h'.get? b=some o') →
   h'.get? s.heap.objs.size=some { cls:=.type "list",dict:=none,data:=.seq its.toArray c',slots:=#[] }->EP X pins σ Q (.ref s.heap.objs.size) { s with heap:=h' }:=fun its r' hz h' c' kp e =>
  ⟨.ref s.heap.objs.size,_,I.laid (t':=s.toks) kp (Ql _) (show fQ X.prog X.w _ h' _ (.lst ys) from ⟨hz,its,c',r',e⟩),rfl,q _ (I.hok.fresh (Ql _))⟩
 rcases hq with hq | hq
 ·obtain⟨its,r',pl,hz⟩:=I.list hq
  have hlen:=r'.length
  obtain⟨o,ho,hc,n,hd⟩:=pl.isList
  exact call_list_seq p (.inl rfl) ho hc hd (fun h' c' kp e=>fin its r' hz h' c' kp e) (by simp only[Qz] <;> lia)
 ·obtain⟨its,r',pl,hz⟩:=I.tuple hq
  have hlen:=r'.length
  obtain⟨o,ho,hc,n,hd⟩:=pl
  exact call_list_seq p (.inr rfl) ho hc hd (fun h' c' kp e=>fin its r' hz h' c' kp e) (by simp only[Qz] <;> lia)
theorem rQ:gh X (.type "tuple") (fun xs H Q=>∃ p ys,xs=[.ref p]/\((SqL X.K H p ys/\∀ l,H l=none->Q (.ref l) (upd H l (.tup ys)))∨(SqT X.K H p ys/\Q (.ref p) H))):=by
 intro pins s σ H xs us Q I r h
 obtain⟨p,ys,rfl,h⟩:=h
 obtain⟨u,rfl,rx⟩:=vals1 r
 cases rx
 rcases h with⟨hq,q⟩ | ⟨hq,q⟩
 ·obtain⟨its,r',pl,hz⟩:=I.list hq
  have hlen:=r'.length
  refine call_tuple_list pl.isList (fun h' kp=>?_) (by simp only[Qz] <;> lia)
  have I1:Inv X pins σ H { s with heap:=h' }:=I.kept (t':=s.toks) kp
  have I2:Inv X pins σ (upd H h'.objs.size (.tup ys)) { s with heap:=h'.push { cls:=.type "tuple",data:=.seq its.toArray } } :=
   I1.laid (t':=s.toks) (fun b o e=>Qd _ e) (Ql _) (show fQ X.prog X.w _ _ _ (.tup ys) from ⟨hz,its,r',IsTup.new _ _⟩)
  exact⟨.ref h'.objs.size,_,I2,rfl,q _ (I1.hok.fresh (Ql _))⟩
 ·obtain⟨its,r',pl,hz⟩:=I.tuple hq
  exact call_tuple_same pl ⟨.ref p,H,I,rfl,q⟩
def tyV (K:Qo) (T:String) (x:V) (H:Hp):Prop:=match x with
 | .str _=>T = "str"
 | .int _=>T = "int"
 | .ref p=>(T = "list"/\∃ xs,SqL K H p xs)∨(T = "tuple"/\∃ o,K.lookup p=some o/\o.cls = .type "tuple"/\o.dict=none) ∨
   (T = "dict"/\((∃ kvs,H p=some (.dK kvs))∨∃ kvs,H p=some (.dT kvs)))∨(T = "set"/\∃ S n,H p=some (.set S n))
 | _=>False
theorem LC {pins:List (Addr × Tz)} {σ:St} {H:Hp} {s:Qe} {T:String} {x:V} {v:Value} (I:Inv X pins σ H s) (r:RelV x v) (ty:tyV X.K T x H) :
  s.TypeIs v T/\∀ a,v = .ref a->∃ ob,s.heap.get? a=some ob/\ob.dict=none:=by
 cases x with
 | str z =>
  obtain⟨t,rfl⟩:=r
  cases (show T = "str" from ty)
  exact⟨typeIs_str s z t,fun _ e=>nomatch e⟩
 | int i =>
  obtain⟨t,rfl⟩:=r
  cases (show T = "int" from ty)
  exact⟨typeIs_int s i t,fun _ e=>nomatch e⟩
 | ref p =>
  cases r
  rcases ty with⟨rfl,xs,hq⟩ | ⟨rfl,o,hk,hc,hd⟩ | ⟨rfl,hk⟩ | ⟨rfl,S,n,hk⟩
  ·obtain⟨its,_,pl,_⟩:=I.list hq
   refine⟨pl.isList.typeIs,fun a e=>?_⟩
   cases e
   obtain⟨o,n,e,c,hd,_⟩:=pl
   exact⟨o,e,hd⟩
  ·refine⟨⟨o,I.kIn p o hk,hc⟩,fun a e=>?_⟩
   cases e
   exact⟨o,I.kIn _ o hk,hd⟩
  ·have z:∃ o,s.heap.get? p=some o/\o.ExactDict:=by
    rcases hk with⟨kvs,hk⟩ | ⟨kvs,hk⟩
    ·obtain⟨_,_,_,_,o,_,_,e,ex,_⟩:=I.hok p _ hk
     exact⟨o,e,ex⟩
    ·obtain⟨_,_,_,_,o,_,_,e,ex,_⟩:=I.hok p _ hk
     exact⟨o,e,ex⟩
   obtain⟨o,e,ex⟩:=z
   refine⟨⟨o,e,ex.1⟩,fun a e2=>?_⟩
   cases e2
   exact⟨o,e,ex.2.1⟩
  ·obtain⟨o,_,_,_,e,ex,_⟩:=I.hok p _ hk
   refine⟨⟨o,e,ex.1⟩,fun a e2=>?_⟩
   cases e2
   exact⟨o,e,ex.2.1⟩
 | _=>exact Tq ty
def tBM (K:Qo) (T:String) (r:V->List V->Hp->VK->Prop) (to:TE) (t:TA):TE:=fun σ H Q=>to σ H fun x H1=>tyV K T x H1/\t σ H1 fun xs H2=>r x xs H2 Q
variable {o e:Expr} {es:List Expr} {to:TE} {t:TA} {name:Q4} {apos cpos:V5} {T id:String} {r:V->List V->Hp->VK->Prop}
theorem qJ (pa:PlainAttrs T) (slot:Slot T name id) (hty:typeOf (.builtin id)=pure (.type "method_descriptor")) (hm:MtR X id r) (ho:PE X o to) (ha:PA X (e::es) t)
  (hbase:Xi o name X.env (S6 o X.env)=S6 o X.env:=by rfl)
  (hfew:((TQ cpos (QS (e::es) X.env)).all (fun x=>!x.1) && (backToKw cpos (WN [] X.env)).all (fun x=>x.1.isSome)
   && decide ((e::es).length+([]:List Keyword).length+(if ([]:List Keyword).isEmpty then 0 else 1) < 30))=true:=by rfl)
  (hline:(apos.endLine == cpos.line)=true:=by rfl) (hs:QS (e::es) X.env=(false,S6 e X.env)::QS es X.env:=by rfl) (hplain:(TQ cpos (QS es X.env)).any (·.1)=false:=by rfl) :
  PE X (.Call (.Attribute o name apos) (e::es) [] cpos) (tBM X.K T r to t):=by
 intro pins s σ H Q I h
 refine wpAny_Call_method_late hbase hfew hline rfl (thn (ho pins s σ H _ I h) fun v s1 ⟨x,H1,I1,r1,ty,q1⟩=>?_)
 obtain⟨h1,h2⟩:=LC I1 r1 ty
 refine⟨T,id,pa,slot,hty,h1,h2,?_⟩
 have hA:=ha cpos pins s1 σ H1 _ I1 q1
 rw[hs] at hA ⊢
 refine Calls.callWith_builtin (by show (false || (TQ cpos (QS es X.env)).any (·.1))=false; rw[hplain] <;> rfl) (Calls.evalArgs_plain ?_)
 exact thn hA fun us s2 ⟨vs,H2,I2,r2,q2⟩=>hm pins s2 σ H2 x vs v us Q I2 r1 r2 q2
/- xs.append(e),list.index on a module's tuple .. are MtR facts of 06m -/
end
end L2
namespace L2
open PySem PySem.Spec PyProof.Rows
def MtM (X:Cx) (id:String) (r:V->List V->Hp->VK->Prop):Prop :=
 ∀ (pins:List (Addr × Tz)) (s:Qe) (σ:St) (H:Hp) (x:V) (xs:List V) (v:Value) (us:List Value) (Q:VK),Inv X pins σ H s->RelV x v->Vals xs us->r x xs H Q →
  Qp (Qy X.prog X.w) X.A (call (.builtin id) (v::us)) (EP X pins σ Q) X.xe s
theorem Vals.one:∀ {x:V} {us:List Value},Vals [x] us->∃ u,us=[u]/\RelV x u
 | _,_,.cons r .nil=>⟨_,rfl,r⟩
section
variable {X:Cx} {pins:List (Addr × Tz)} {σ:St} {H:Hp} {s:Qe} {l b:Addr} {xs ys zs:List V}
theorem Inv.Pj {its its':List Value} {n:Nat} {f:Array Value->Array Value} {t':Nat} (I:Inv X pins σ H s) (hH:H l=some (.lst xs))
  (e:s.heap.get? l=some { cls:=.type "list",data:=.seq its.toArray n }) (hf:f its.toArray=its'.toArray) (hv:Vals ys its') (hz:ys.length<=sizeLine) :
  Inv X pins σ (upd H l (.lst ys)) { s with heap:=s.heap.update l (Ug f),toks:=t' }:=by
 have q:=PySem.IsL.update e f
 rw[hf] at q
 refine I.write (x:=l) (e:=l) (by rw[hH]; exact trivial) (.inl rfl) (fun b' u hb hu=>(Q0 s.heap (Ug f) (Uh hb)).trans hu) ⟨_,q⟩ ?_
 exact⟨hz,its',_,hv,q⟩
theorem Inv.Nk {its:List Value} {t':Nat} (I:Inv X pins σ H s) (hv:Vals ys its) (hz:ys.length<=sizeLine) :
  Inv X pins σ (upd H s.heap.objs.size (.lst ys)) { s with heap:=s.heap.push { cls:=.type "list",data:=.seq its.toArray },toks:=t' } :=
 I.laid (fun _ _ q=>Qd _ q) (Ql _) ⟨hz,its,0,hv,Qn _ rfl⟩
theorem Inv.fresh (I:Inv X pins σ H s):H s.heap.objs.size=none:=I.hok.fresh (Ql _)
theorem Inv.Od (I:Inv X pins σ H s) (hH:H l=some (.lst xs)):xs.length<=sizeLine/\∃ (its:List Value) (n:Nat),Vals xs its/\xs.length=its.length/\s.heap.get? l=some { cls:=.type "list",data:=.seq its.toArray n }:=by
 obtain⟨z,its,n,r,e⟩:=I.hok l _ hH
 exact⟨z,its,n,r,r.length,e⟩
end
section
variable {X:Cx}
inductive yx (x:V) (vs:List V) (H:Hp) (Q:VK):Prop where
 | mk (l:Addr) (xs:List V) (y:V) (z0:x = .ref l) (z1:vs=[y]) (z2:H l=some (.lst xs)) (z3:xs.length < sizeLine) (z4:Q .non (upd H l (.lst (xs++[y])))):yx  x vs H Q
def Ko:V->List V->Hp->VK->Prop:=fun x vs H Q=>yx  x vs H Q
theorem cM:MtM X "list.append" Ko:=by
 intro pins s σ H x vs v us Q I rx rv h
 obtain⟨l,xs,y,rfl,rfl,hH,hz,q⟩:=h
 cases rx
 obtain⟨u,rfl,ru⟩:=rv.one
 obtain⟨z,its,n,r,hl,e⟩:=I.Od hH
 refine call_meets F.slot_list_append ⟨_,e,rfl⟩ F.entry_list_append (F.args_list_append_2 _ _) (PySem.list_append l its.toArray n u (by rw[Qz]; lia)) ⟨e,?_⟩
 refine⟨.non,_,I.Pj (its':=its++[u]) hH e (by simp) (r.append (.cons ru .nil)) ?_,rfl,q⟩
 rw[Qx,List.length_singleton]
 lia
inductive Lj (x:V) (y:V) (H:Hp) (Q:VK):Prop where
 | mk (l:Addr) (b:Addr) (xs:List V) (zs:List V) (z0:x = .ref l) (z1:y = .ref b) (z2:H l=some (.lst xs)) (z3:H b=some (.lst zs)) (z4:xs.length+zs.length<=sizeLine) (z5:∀ p,H p=none->Q (.ref p) (upd H p (.lst (xs++zs)))):Lj  x y H Q
def PJ:R2:=fun x y H Q=>Lj  x y H Q
theorem vy:OpR X (Vj .Add) PJ:=by
 intro pins s σ H x y v u Q I rx ry h
 obtain⟨l,b,xs,zs,rfl,rfl,hH,hB,hz,q⟩:=h
 cases rx
 cases ry
 obtain⟨z,its,n,r,hl,e⟩:=I.Od hH
 obtain⟨z2,its2,n2,r2,hl2,e2⟩:=I.Od hB
 refine PySem.P.add_list e e2 ?_ (by rw[Qz,Qz]; lia)
 have ea:its.toArray++its2.toArray=(its++its2).toArray:=by simp
 rw[ea]
 exact⟨.ref _,_,I.Nk (t':=s.toks) (r.append r2) (by rw[Qx]; lia),rfl,q _ I.fresh⟩
end
section
variable {prog:QK} {w:Q3} {A:Q5} {E:Value->Qe->Prop} {s:Qe}
set_option maxRecDepth 100000 in
end
section
variable {X:Cx}
end
end L2
namespace Att
open PySem PySem.W PySem.Calls PyProof.Rows
theorem m6 {P:Params} {h:Rv}:∀ (ns:List Int) (vs:List Value),WellAll P h vs (ns.map WData.int)->Rz vs ns:=by
 intro ns
 induction ns with
 | nil =>
  intro vs w
  rw[List.map_nil] at w
  cases w
  exact .nil
 | cons n ns ih =>
  intro vs w
  rw[RZ] at w
  cases w with
  | cons a b =>
   cases a
   exact .cons _ _ (ih _ b)
theorem Fe {l:OpenLaw} {n:Nat} (hn:l.most=some n) {P:Params} {h:Rv} {args:List WData} {vals:List Value}
  (hpre:l.row.toRowW.claim.pre args=true) (hwl:WellAll P h vals args) :
  ∃ a vs ns,vals=[Rh a]/\args=[WData.list (ns.map WData.int)]/\h.get? a=some { cls:=.type "list",data:=.seq vs.toArray }/\Rz vs ns/\ns.length<=n:=by
 have hsh:WShape.hasAll [] args [.list .int]=true:=(pre_splitW hpre).1
 have hc:l.pre.holds [] { args:=args }=true:=(pre_splitW hpre).2
 obtain⟨d,r,rfl,h1,h2⟩:=hasAllW_cons hsh
 obtain rfl:=hasAllW_nil h2
 obtain⟨xs,rfl,h3⟩:=hasW_list h1
 obtain⟨ns,rfl⟩:=items_int h3
 have hlen:ns.length<=n:=by
  unfold OpenLaw.pre at hc
  have h4:(WTm.not (.lt (.lit (.int (n:Int))) (.len (.arg 0)))).holds [] { args:=[.list (ns.map .int)] }=true:=by
   have h4:=(holds_andW hc).1
   rw[hn] at h4
   exact h4
  have h5:=condW_of h4 (w_not (w_lt w_lit (w_len_list (w_arg rfl))))
  rw[Qc] at h5
  refine XX fun q=>?_
  have q':(n:Int) < ((ns.length:Nat):Int):=by lia
  first
   | (rw[decide_eq_true q'] at h5; exact absurd h5 (by decide))
   | (simp at h5; lia)
 cases hwl with
 | cons w1 w2 =>
  cases w2
  cases w1 with
  | list ho hall=>exact⟨_,_,ns,rfl,rfl,ho,m6 ns _ hall,hlen⟩
theorem CN (l:OpenLaw) (args:List WData):l.row.toRowW.claim.post args (.bool true) args=true :=
 postW_of (r:=l.row.toRowW) (X:=(true == true))
  (show WShape.has [] (.bool true) .bool=true by first | rfl | decide | simp [WShape.has,WShape.arms,WShape.armsAll])
  (show (WTm.eq .res (.lit (.bool true))).value [] { args:=args,res:=some (.bool true),after:=args }=some (.bool (true == true)) from w_eq_bool (w_res rfl) w_lit) rfl
theorem xm {l:OpenLaw} {n:Nat} {q:QK} {loose:List Q4} {XP:(Q4->Option Value)->Rv->Prop} {YP:Q3->Rv->Prop} {d:DefRec}
  (hn:l.most=some n) (hdf:d.params.defaults=[])
  (call:∀ (w:Q3) (s₀ s₁:Qe) (mg mb:Q4->Option Value) (fa:Addr) (o:Tz) (pm cd doc:Value) (a:Addr) (vs:List Value) (ns:List Int),
   Ground q loose [] XP w s₀ mg mb s₁.heap->YP w s₁.heap →
   s₁.heap.get? fa=some o->o.data = .func (docDef d.name d.params d.body d.scope pm cd doc)->s₁.heap.CodeRec cd d.name->mg d.name=some (.ref fa) →
   s₁.heap.get? a=some { cls:=.type "list",data:=.seq vs.toArray }->Rz vs ns->ns.length<=n->s₁.gens = #[] →
   R5 (Qy l.prog w) Xv (.call (.ref fa) ⟨[.ref a],[]⟩) (fun r s'=>r = .ok (.ret (.bool true))/\OldK s₁.heap s'.heap/\s'.os=s₁.os/\Ws s'.gens) s₁) :
  WalkO q loose XP YP l.row.toRowW d [] (fun f vs=>PySem.call f vs):=by
 intro w s₀ s₁ mg mb G Y fa o pm cd doc dV kV ho hd hcd hD hmg hg args vals as hpre hlay hrd hwl hlo
 obtain rfl:dV = .none:=Dflts.none hD hdf
 obtain rfl:kV = .none:=Dflts.noKw hD
 obtain⟨a,vs,ns,rfl,rfl,hobj,hints,hlen⟩:=Fe hn hpre hwl
 refine enter_call (Vi (call w s₀ s₁ mg mb fa o pm cd doc a vs ns G Y ho (fd_plain hd) hcd hmg hobj hints hlen hg) fun r s' hq=>?_)
 obtain⟨rfl,h2,h3,h4⟩:=hq
 exact⟨.inl ⟨.bool true,.bool true,[],rfl,fun _=>rfl,.bool true,CN l _,fun _=>⟨XJ,fun _ hm=>(nomatch hm)⟩⟩,h2,h3,h4⟩
section
variable {prog:QK} {w:Q3} {A:Q5} {E:Value->Qe->Prop} {s:Qe} {K:Frag}
end
end Att
namespace L2
open PySem PySem.Spec PyProof.Rows
theorem iy:∀ {vs:List Value} {ns:List Int},Rz vs ns->Vals (ns.map V.int) vs
 | _,_,.nil=>.nil
 | _,_,.cons n t h=>.cons ⟨t,rfl⟩ (iy h)
def Only (H:Hp):Prop:=∀ b,H b=none∨∃ o xs,H b=some (.frz o (.lst xs))
theorem Fw {P:QK} {w:Q3} {K:Qo} {mg mb:Q4->Option Value} {CX:CXT} {k:Nat} {fa a:Addr} {fd:TF} {x:Q4} {sp:Sp} {s₁:Qe} {vs:List Value} {ns:List Int}
  (KX:K.In s₁.heap) (hns:s₁.heap.Ns QG mg) (hb:s₁.heap.Ns builtinsNs mb) (hbb:∀ x:Q4,x≠"__name__"->mb x=Rb x) (hlim:s₁.heap.NoLimit) (hg:s₁.gens = #[])
  (ha:s₁.heap.get? a=some { cls:=.type "list",data:=.seq vs.toArray }) (hi:Rz vs ns) (hl:ns.length<=sizeLine) (hr:jM k Xv)
  (F:∀ base:Rv,K.In base->base.Ns QG mg->cI P w K mg base CX k fa fd [x] sp) (hbind:∀ (s:Qe) (u:Value),Xb s fd ⟨[u],[]⟩ [(x,u)])
  (hsp:∀ H:Hp,Only H->SqL K H a (ns.map V.int)->sp [.ref a] H (fun v _=>v = .bl true) fun _ _ _=>False)
  (hCX:∀ H e s',CX [] H s₁ (fun _ _ _=>False) e s'->False) :
  R5 (Qy P w) Xv (.call (.ref fa) ⟨[.ref a],[]⟩) (fun r s'=>r = .ok (.ret (.bool true))/\OldK s₁.heap s'.heap/\s'.os=s₁.os/\Ws s'.gens) s₁:=by
 have rv:=iy hi
 have lenV:=hi.length
 have core:∀ H:Hp,Only H->SqL K H a (ns.map V.int)->HOk P w H s₁.heap->(∀ b,H b≠none->b=a)->(H a≠none->K.lookup a=none) →
   R5 (Qy P w) Xv (.call (.ref fa) ⟨[.ref a],[]⟩) (fun r s'=>r = .ok (.ret (.bool true))/\OldK s₁.heap s'.heap/\s'.os=s₁.os/\Ws s'.gens) s₁:=by
  intro H hO hS hok hA hK
  have base_of:∀ {b:Addr} {o:Tz},s₁.heap.get? b=some o->H b=none->(FJ s₁.heap H).get? b=some o:=fun e n=>Fi e n
  have noA:∀ {b:Addr} {o:Tz} {es:Array DictEntry} {ep:Nat},s₁.heap.get? b=some o->o.data = .dict es ep->H b=none:=fun {b o es ep} e d=>by
   cases q:H b with
   | none=>rfl
   | some u =>
    have e':b=a:=hA b (by rw[q]; simp)
    subst e'
    rw[ha] at e; cases e
    have d':Data.seq vs.toArray _=Data.dict es ep:=d
    cases d'
  have nsK:∀ {b:Addr} {m:Q4->Option Value},s₁.heap.Ns b m->(FJ s₁.heap H).Ns b m:=fun {b m} ⟨o,es,ep,e,d,r⟩=>⟨o,es,ep,base_of e (noA e d),d,r⟩
  have hKb:K.In (FJ s₁.heap H):=fun b o e=>base_of (KX b o e) (by
   cases q:H b with
   | none=>rfl
   | some u =>
    have e':b=a:=hA b (by rw[q]; simp)
    subst e'
    rw[hK (by rw[q]; simp)] at e; cases e)
  have hM:Mod K mg (FJ s₁.heap H):=⟨hKb,nsK hns,⟨mb,nsK hb,hbb⟩,let ⟨mc,h1,h2⟩:=hlim; ⟨mc,nsK h1,h2⟩⟩
  have e0:J0 P w K mg (FJ s₁.heap H) Xv [] s₁ H:=⟨rfl,hM,fun b o e=>Jo e,Nat.le_of_eq (Eb _ _),trivial,fun b hb=>absurd (show b∈([]:List Addr) from hb) (by simp),hok,.of_eq hg⟩
  refine Vi ((F _ hKb (nsK hns)).run Xv [] s₁ H ⟨[.ref a],[]⟩ [.ref a] [.ref a] _ _ hr e0 (hbind s₁ (.ref a)) (.cons rfl .nil) (hsp H hO hS)) fun r s' h=>?_
  cases r with
  | error e=>exact (hCX H e s' h).elim
  | ok fl =>
   cases fl with
   | next=>exact Tq h
   | brk=>exact Tq h
   | cont=>exact Tq h
   | ret u =>
    obtain⟨v,H',os,bare,un,hok',r',q⟩:=h
    have q':v = .bl true:=q
    subst q'
    obtain rfl:u=Wk true:=r'
    refine⟨rfl,OldK.of_keep fun b o e=>?_,os,bare⟩
    cases q:H b with
    | none=>exact un.keep b o e q (by intro z; exact absurd (show b∈([]:List Addr) from z) (by simp)) (by simp)
    | some u =>
     rcases hO b with z | ⟨ob,xs,z⟩
     ·rw[q] at z; cases z
     ·have z2:=un.frzs b ob _ z
      obtain⟨e1,_⟩:=hok b _ z
      obtain⟨e2,_⟩:=hok' b _ z2
      rw[e] at e1; cases e1
      exact e2
 cases hk:K.lookup a with
 | some o =>
  have e:=KX a o hk
  rw[ha] at e
  cases e
  refine core (fun _=>none) (fun _=>.inl rfl) (.inr ⟨_,vs.toArray,_,hk,rfl,rfl,rfl,by rw[Qz,lenV]; exact hl,by simpa using rv⟩) (fun b u z=>by have z':(none:Option HO)=some u:=z; cases z') (fun b z=>absurd rfl z) fun z=>absurd rfl z
 | none =>
  refine core (fun b=>if b=a then some (.frz { cls:=.type "list",data:=.seq vs.toArray } (.lst (ns.map V.int))) else none) (fun b=>?_) (.inl (.inr ⟨{ cls:=.type "list",data:=.seq vs.toArray },if_pos rfl⟩)) (fun b u z=>?_) (fun b z=>?_) fun _=>hk
  ·by_cases hb:b=a
   ·exact .inr ⟨_,_,if_pos hb⟩
   ·exact .inl (if_neg hb)
  ·by_cases hb:b=a
   ·have z':=(if_pos hb).symm.trans z
    cases z'
    subst hb
    exact⟨ha,by rw[Qc]; exact hl,vs,_,rv,ha⟩
   ·have z':=(if_neg hb).symm.trans z
    cases z'
  ·by_cases hb:b=a
   ·exact hb
   ·exact absurd (if_neg hb) z
end L2
namespace L2
open PySem PySem.Spec PyProof.Rows
theorem Kd {l:PySem.W.OpenLaw} {n k:Nat} {q:QK} {loose:List Q4} {XP:(Q4->Option Value)->Rv->Prop} {YP:Q3->Rv->Prop} {d:DefRec} {K:Params->Qo} {CX:Q3->CXT} {sp:Q3->Sp} {x:Q4}
  (hn:l.most=some n) (hn2:n<=sizeLine) (hdf:d.params.defaults=[]) (hr:jM k Xv)
  (hY:∀ (w:Q3) (h:Rv),YP w h->(K w.params).In h)
  (F:∀ (w:Q3) (mg:Q4->Option Value) (fa:Addr) (h:Rv),(K w.params).In h->h.Ns QG mg->mg d.name=some (.ref fa) →
   ∃ fd:TF,(∀ (s:Qe) (u:Value),Xb s fd ⟨[u],[]⟩ [(x,u)]) ∧
    ∀ base:Rv,(K w.params).In base->base.Ns QG mg->cI l.prog w (K w.params) mg base (CX w) k fa fd [x] (sp w))
  (hsp:∀ (w:Q3) (H:Hp) (a:Addr) (ns:List Int),ns.length<=n->Only H->SqL (K w.params) H a (ns.map V.int)->sp w [.ref a] H (fun v _=>v = .bl true) fun _ _ _=>False)
  (hCX:∀ (w:Q3) (H:Hp) (s:Qe) (e:Value) (s':Qe),CX w [] H s (fun _ _ _=>False) e s'->False) :
  PySem.W.WalkO q loose XP YP l.row.toRowW d [] (fun f vs=>PySem.call f vs):=by
 refine Att.xm hn hdf fun w s₀ s₁ mg mb fa o pm cd doc a vs ns G Y ho hd hcd hmg hobj hints hlen hg=>?_
 have KX:=hY w _ Y
 obtain⟨fd,hb,hF⟩:=F w mg fa _ KX G.T.g hmg
 exact Fw KX G.T.g G.T.b G.T.builtins G.T.nolimit hg hobj hints (QL hlen hn2) hr hF hb (fun H hO hS=>hsp w H a ns hlen hO hS) fun H e s'=>hCX w H s₁ e s'
end L2
namespace L2
open PySem PySem.Spec PyProof.Rows
def inClass (s:Stmt) (j:Nat):Stmt:=match s with
 | .ClassDef _ _ _ body _ _ _ _ _ _ _=>body.getD j (.Pass ⟨0,0,0,0⟩)
 | _=>.Pass ⟨0,0,0,0⟩
def dW (s:Stmt):Arguments:=match s with
 | .FunctionDef _ a _ _ _ _ _ _ _ _=>a
 | _=>{ posonlyargs:=[],args:=[],vararg:=none,kwonlyargs:=[],kw_defaults:=[],kwarg:=none,defaults:=[] }
def dG (s:Stmt):List Stmt:=match s with
 | .FunctionDef _ _ b _ _ _ _ _ _ _=>b
 | _=>[]
def aD (s:Stmt):TX:=match s with
 | .FunctionDef _ _ _ _ _ _ sc _ _ _=>sc
 | _=>{ kind:=.function,names:=[],isGenerator:=false,isCoroutine:=false }
abbrev CX0:CXT:=fun _ _ _ _ _ _=>False
abbrev E0:XK:=fun _ _ _=>False
theorem Ax {X:Cx}:Passes CX0 X E0:=fun _ _ _ _ _ _ _ h=>h.elim
structure Fun (K:Qo) (x qual:Q4) (st:Stmt) (f:Addr) (fd:TF):Prop where
 ex:∃ (oc:Value) (od:Option Addr) (kV doc pm:Value) (an:Option Addr) (cdv ct:Value) (osl:Array (Option Value)),
  fd=UW x qual (dW st) (dG st) (aD st) .none kV doc pm an cdv ct/\K.lookup f=some ⟨oc,od,.func fd,osl⟩/\V1 K cdv qual=true
 kp:Tn K (.ref f)=true
section
variable {P:QK} {w:Q3} {K:Qo} {mg:Q4->Option Value} {base:Rv}
theorem Fun.ok {x qual:Q4} {st:Stmt} {f:Addr} {fd:TF} {N ps:List Q4} {k:Nat} {sp:Sp} (F:Fun K x qual st f fd) (S:aO N ps (aD st)) (len:∀ vs H Q E,sp vs H Q E->vs.length=ps.length)
  (hbody:∀ (cdv:Value) (A:Q5) (outer:List XM) (s:Qe) (H:Hp) (vs:List V) (Q:VK) (E:XK),jM k (A.deeper (Xk qual (aD st) s.heap.objs.size f cdv))->sp vs H Q E →
   ∃ t,PSs (KR CX0 P w K mg base N qual (aD st) f cdv A outer s H E).nox (dG st) t/\t { nx:=fun _ H'=>Q .non H',rt:=Q } (start N vs) H):cI P w K mg base CX0 (k+1) f fd ps sp:=by
 obtain⟨oc,od,kV,doc,pm,an,cdv,ct,osl,rfl,lk,hcd⟩:=F.ex
 refine Nt lk hcd S len fun A outer s H vs Q E hr hsp=>?_
 obtain⟨t,h,q⟩:=hbody cdv A outer s H vs Q E hr hsp
 exact⟨t,h.nox,q⟩
theorem Fun.binds {x qual:Q4} {st:Stmt} {f:Addr} {fd:TF} {ps:List Q4} (F:Fun K x qual st f fd)
  (h:∀ (kV doc pm:Value) (an:Option Addr) (cdv ct:Value) (us:List Value),us.length=ps.length->WR (UW x qual (dW st) (dG st) (aD st) .none kV doc pm an cdv ct) ⟨us,[]⟩=pure (ps.zip us)):Binds K fd ps []:=by
 obtain⟨oc,od,kV,doc,pm,an,cdv,ct,osl,rfl,lk,hcd⟩:=F.ex
 exact .all (h kV doc pm an cdv ct)
theorem yl {x qual:Q4} {st:Stmt} {f:Addr} {oc:Value} {od an:Option Addr} {osl:Array (Option Value)} {kV doc pm cdv ct:Value} (l:K.lookup f=some ⟨oc,od,.func (UW x qual (dW st) (dG st) (aD st) .none kV doc pm an cdv ct),osl⟩)
  (c:V1 K cdv qual=true) (k:Tn K (.ref f)=true):Fun K x qual st f (UW x qual (dW st) (dG st) (aD st) .none kV doc pm an cdv ct):=⟨⟨oc,od,kV,doc,pm,an,cdv,ct,osl,rfl,l,c⟩,k⟩
end
theorem aM {n:Nat} (h:n<=1000):n < sizeLine:=Vg h (by decide)
section
variable {X:Cx}
theorem pv (i:Nat) {x:Q4} {pos:V5} (hN:X.N[i]? = some x:=by rfl) (hv:Vis X.env.scope x:=by first | exact Qw rfl | exact Wm (Qw rfl) | exact Wm (Wm rfl)) (hd:(x == ("__debug__" : Q4))=false:=by decide)
  (hcd:(x == ("__classdict__" : Q4))=false:=by decide):PE X (.Name x pos) (An i):=Mw hN hv hd hcd
end
theorem cV {A B:Prop} (h:B):if false=true then A else B:=by
 rw[if_neg Qk]
 exact h
theorem gm {A B:Prop} (h:A):if true=true then A else B:=by
 rw[if_pos rfl]
 exact h
theorem pL {c A B:Prop} [Decidable c] (h1:c->A) (h2:¬ c->B):if c then A else B:=by
 by_cases h:c
 ·rw[if_pos h]
  exact h1 h
 ·rw[if_neg h]
  exact h2 h
def aU (H H':Hp):Prop:=∀ b o,H b=some o->H' b=some o
theorem aU.refl (H:Hp):aU H H:=fun _ _ h=>h
theorem aU.trans {H H1 H2:Hp} (a:aU H H1) (b:aU H1 H2):aU H H2:=fun c o h=>b c o (a c o h)
theorem aU.free {H H':Hp} (e:aU H H') {l:Addr} (h:H' l=Option.none):H l=Option.none:=by
 cases q:H l with
 | none=>rfl
 | some o =>
  rw[e l o q] at h
  cases h
theorem aU.seq {K:Qo} {H H':Hp} {a:Addr} {xs:List V} (e:aU H H') (h:SqL K H a xs):SqL K H' a xs:=by
 rcases h with (h | ⟨o,h⟩) | h
 ·exact .inl (.inl (e _ _ h))
 ·exact .inl (.inr ⟨o,e _ _ h⟩)
 ·exact .inr h
end L2
set_option maxHeartbeats 4000000
namespace L2
open PySem PySem.Spec PyProof.Rows
theorem wD {env:XM}:∀ {names:List (Q4 × V2)} {x:Q4},names.lookup x=some .free →
  (names.map fun (n,k)=>if (k == Sh && env.scope.kind == .function && env.kindOf n == some .cell) then (n,Vt) else (n,k)).lookup x=some .cell ∨
  (names.map fun (n,k)=>if (k == Sh && env.scope.kind == .function && env.kindOf n == some .cell) then (n,Vt) else (n,k)).lookup x=some .free
 | [],_,h=>by simp at h
 | (n,k)::r,x,h=>by
  have ih:=@wD env r x
  rw[RZ]
  cases hx:x == n with
  | true =>
   rw[Q9,hx] at h
   cases h
   by_cases hc:(Sh == Sh && env.scope.kind == .function && env.kindOf n == some .cell)=true
   ·refine .inl ?_
    dsimp only
    rw[if_pos hc,Q9,hx]
   ·refine .inr ?_
    dsimp only
    rw[if_neg hc,Q9,hx]
  | false =>
   rw[Q9,hx] at h
   dsimp only
   by_cases hc:(k == Sh && env.scope.kind == .function && env.kindOf n == some .cell)=true
   ·rw[if_pos hc,Q9,hx]; exact ih h
   ·rw[if_neg hc,Q9,hx]; exact ih h
theorem oF {env:XM}:∀ {names:List (Q4 × V2)} {x:Q4} {k':V2},
  (names.map fun (n,k)=>if (k == Sh && env.scope.kind == .function && env.kindOf n == some .cell) then (n,Vt) else (n,k)).lookup x=some k'->names.lookup x=some k'∨names.lookup x=some .free
 | [],_,_,h=>by simp at h
 | (n,k)::r,x,k',h=>by
  have ih:=@oF env r x k'
  rw[RZ] at h
  dsimp only at h
  cases hx:x == n with
  | true =>
   rw[Q9,hx]
   by_cases hc:(k == Sh && env.scope.kind == .function && env.kindOf n == some .cell)=true
   ·have hk:k = .free:=by
     rw[Rn,Rn] at hc
     exact eq_of_beq hc.1.1
    exact .inr (by rw[hk])
   ·rw[if_neg hc,Q9,hx] at h
    exact .inl h
  | false =>
   rw[Q9,hx]
   by_cases hc:(k == Sh && env.scope.kind == .function && env.kindOf n == some .cell)=true
   ·rw[if_pos hc,Q9,hx] at h; exact ih h
   ·rw[if_neg hc,Q9,hx] at h; exact ih h
theorem vK {env:XM}:∀ (names:List (Q4 × V2)) (acc:List (Q4 × Addr)),(∀ y∈names,y.2 = .free->∃ c,env.cells.lookup y.1=some c)->(∀ n c,acc.lookup n=some c->env.cells.lookup n=some c) →
  ∃ cl,(forIn names acc (fun (x:Q4 × V2) (r:List (Q4 × Addr))=>(match x with | (name,kind)=>if (kind == Sh)=true then (do let c ← cellOf env name; pure (Ve ((name,c)::r))) else pure (Ve r):Sem (ForInStep (List (Q4 × Addr))))))=pure cl ∧
   (∀ n c,cl.lookup n=some c->env.cells.lookup n=some c)/\(∀ n c,acc.lookup n=some c->∃ c',cl.lookup n=some c')/\∀ y∈names,y.2 = .free->∃ c,cl.lookup y.1=some c
 | [],acc,_,h=>⟨acc,by rw[W6],h,fun _ c e=>⟨c,e⟩,fun y hy=>by simp at hy⟩
 | (n,k)::r,acc,hf,h=>by
  rw[Yl]
  dsimp only
  by_cases hk:(k == Sh)=true
  ·rw[if_pos hk]
   have hk':k = .free:=eq_of_beq hk
   obtain⟨c,hc⟩:=hf (n,k) Qi hk'
   have hc:env.cells.lookup n=some c:=hc
   have ec:cellOf env n=pure c:=by unfold cellOf; rw[hc]
   have h2:∀ m d,((n,c)::acc).lookup m=some d->env.cells.lookup m=some d:=fun m d e=>by
    rw[Q9] at e
    cases hx:m == n with
    | true=>rw[hx] at e; cases e; rw[eq_of_beq hx]; exact hc
    | false=>rw[hx] at e; exact h m d e
   obtain⟨cl,e1,e2,e3,e4⟩:=vK r ((n,c)::acc) (fun y hy=>hf y (Qm _ hy)) h2
   refine⟨cl,by rw[ec,pure_bind,pure_bind]; exact e1,e2,fun m d e=>?_,fun y hy hyf=>?_⟩
   ·refine (match hx:m == n with | true=>e3 m c (by rw[Q9,hx]) | false=>e3 m d (by rw[Q9,hx]; exact e))
   ·rcases List.mem_cons.mp hy with rfl | hy
    ·exact e3 n c (by rw[Q9,beq_self_eq_true])
    ·exact e4 y hy hyf
  ·rw[if_neg hk]
   obtain⟨cl,e1,e2,e3,e4⟩:=vK r acc (fun y hy=>hf y (Qm _ hy)) h
   refine⟨cl,by rw[pure_bind]; exact e1,e2,e3,fun y hy hyf=>?_⟩
   rcases List.mem_cons.mp hy with rfl | hy
   ·exact absurd (by rw[show k=Sh from hyf]; rfl) hk
   ·exact e4 y hy hyf
theorem qM {scope:TX} {env:XM} (h:∀ y∈scope.names,y.2 = .free->∃ c,env.cells.lookup y.1=some c) :
  ∃ cl,closureFor scope env=pure cl/\(∀ n c,cl.lookup n=some c->env.cells.lookup n=some c)/\∀ y∈scope.names,y.2 = .free->∃ c,cl.lookup y.1=some c:=by
 obtain⟨cl,e1,e2,_,e4⟩:=vK scope.names [] h (fun _ _ e=>by simp at e)
 refine⟨cl,?_,e2,e4⟩
 unfold closureFor
 first
  | exact e1
  | (rw[← bind_pure (x:=pure cl),← e1]; rfl)
  | (simp only[bind_pure]; exact e1)
def bF (X:Cx) (scope:TX) (cl:List (Q4 × Addr)) (C:Addr) (N:List Q4) (s:Qe) (H:Hp) (fp:List Addr):Cx :=
 {X with N:=N,s₀:=s,H₀:=H,env:=VV scope cl C X.env,outer:=X.stack,ex:=fp,fn:=fun _=>false,pn:=[],xe:=fun _ _=>False }
structure nq (X:Cx) (scope:TX) (F:List Q4) (cap:List Nat):Prop where
 kind:scope.kind = .function
 cell:∀ y∈scope.names,y.2≠.cell
 nms:∀ y∈scope.names,y.2 = .local->scope.names.lookup y.1=some .local
 fr:∀ y∈scope.names,y.2 = .free->X.env.kindOf y.1=some .cell∨X.env.kindOf y.1=some .free
 len:cap.length=F.length
 at':∀ (k:Nat) (x:Q4),F[k]? = some x->∃ i,cap[k]? = some i/\X.N[i]? = some x/\scope.names.lookup x=some .free
def PTs (X:Cx) (ifs:List Expr) (t:TT):Prop :=
 ∀ (pins:List (Addr × Tz)) (s:Qe) (σ:St) (H:Hp) (Q:Bool->Hp->Prop),Inv X pins σ H s->t σ H Q →
  Qp (Qy X.prog X.w) X.A (forIn ifs true fun c r=>if r=true then do let ok ← isTrue c X.env (S6 c X.env); pure (Ve ok) else pure (Ve r)) (TP X pins σ Q) X.xe s
def Hn:TT:=fun _ H Q=>Q true H
theorem bR {X:Cx}:PTs X [] Hn:=fun _ _ _ H _ I h=>wpAny_tests_nil ⟨H,I,h⟩
theorem lA {X:Cx} {c:Expr} {t:TT} (hc:PT X c t):PTs X [c] t:=fun pins s σ H Q I h=>wpAny_tests_one (hc pins s σ H Q I h)
theorem qy {prog:QK} {w:Q3} {A:Q5} {R:WW->Qe->Prop} {s:Qe} {elt target iter:Expr} {ifs:List Expr} {scope:TX} {pos:V5} {it acc:Value} {env:XM} (I:Nat->Qe->Prop)
  (turn:∀ n s,I n s->Qp (Qy prog w) A (Tt it) (fun r s₁=>match r with
   | none=>R (.ok .next) s₁
   | some v=>Qp (Qy prog w) A (Tv target it v) (fun _ s₀=>Qp (Qy prog w) A (Wj target env v) (fun _ s₂ =>
     Qp (Qy prog w) A (forIn ifs true fun c r=>if r=true then do let ok ← isTrue c env (S6 c env); pure (Ve ok) else pure (Ve r)) (fun ok s₃ =>
      if ok=true then Qp (Qy prog w) A (S6 elt env) (fun x s₄=>Qp (Qy prog w) A (call (.builtin "list.append") [acc,x]) (fun _ s₅=>∃ m,m < n/\I m s₅) (fun _ _=>False) s₄) (fun _ _=>False) s₃
      else ∃ m,m < n/\I m s₃) (fun _ _=>False) s₂) (fun _ _=>False) s₀) (fun _ _=>False) s₁) (fun _ _=>False) s)
  (n:Nat) (h:I n s):R5 (Qy prog w) A (.compLoop (.ListComp elt [⟨target,iter,ifs,0⟩] scope pos) 0 it acc env) R s:=by
 have no:∀ {E:Value->Qe->Prop} (x:Value) (s':Qe),(fun (_:Value) (_:Qe)=>False) x s'->E x s':=fun _ _ z=>z.elim
 refine codeAny_loop rfl I (fun n s hI=>?_) n h
 refine (show Qp (Qy prog w) A ((compTurn (.ListComp elt [⟨target,iter,ifs,0⟩] scope pos) 0 it acc env).onRaise (fun x=>do noteFrame x env; Ye x)) _ _ s from wpAny_noted ?_)
 rw[compTurn_list]
 refine Qa (Uo (Qa (RM (turn n s hI) (fun r s₁ h₁=>?_) no)))
 cases r with
 | none=>exact Qh h₁
 | some v =>
  refine Qa (RM h₁ (fun _ s₀ h₀=>Qa (RM h₀ (fun _ s₂ h₂=>Qa (RM h₂ (fun ok s₃ h₃=>?_) no)) no)) no)
  cases ok with
  | false=>exact Qh ⟨rfl,h₃⟩
  | true=>exact Qa (Qa (RM h₃ (fun x s₄ h₄=>Qa (RM h₄ (fun _ s₅ h₅=>Qh (Qh ⟨rfl,h₅⟩)) no)) no))
def gU (D:Addr) (σ0:St) (J:It) (g:TG) (tt:TT) (te:TE) (H1:Hp) (Q:Hp->Prop):Prop :=
 ∃ W:Nat->Nat->List V->St->Hp->Prop,(∃ m,W 0 m [] σ0 (upd H1 D (.lst []))) ∧
  ∀ i m ys σ' H',W i m ys σ' H'->H' D=some (.lst ys)/\((J.stop i H'/\Q H')∨(J.go i H'/\∃ N:List V->St->Hp->Prop,(∀ zs σ2 H2,N zs σ2 H2->∃ m',m' < m/\W (i+1) m' zs σ2 H2) ∧
   ∀ x H2,J.yld i H' x H2->g x σ' H2 fun σ3 H3=>tt σ3 H3 fun b H4=>if b=true then te σ3 H4 fun y H5=>H5 D=some (.lst ys)/\ys.length < sizeLine/\N (ys++[y]) σ3 (upd H5 D (.lst (ys++[y]))) else N ys σ3 H4))
def Cp (n:Nat) (cap:List Nat) (σ:St):St:=QM n none++cap.map fun i=>(σ[i]?).join
def Nf (n:Nat) (cap:List Nat) (wi:TI) (g:TG) (tt:TT) (te:TE):TE:=fun σ H Q=>wi σ H fun J H1=>∀ D,H1 D=none->gU D (Cp n cap σ) J g tt te H1 fun H2=>Q (.ref D) H2
section
variable {X:Cx} {elt tg iter:Expr} {ifs:List Expr} {scope:TX} {pos:V5} {L F:List Q4} {cap:List Nat} {wi:TI} {g:TG} {tt:TT} {te:TE}
theorem m7 {pins:List (Addr × Tz)} {σ:St} {H:Hp} {s:Qe} (I:Inv X pins σ H s) {b:Addr} (h1:b≠X.env.locals) (h2:b ∉ X.fs):b ∉ frs X.stack:=fun z=>(List.mem_cons.mp (I.Dp b z)).elim h1 h2
theorem qx {cl:List (Q4 × Addr)} {pins:List (Addr × Tz)} {σ:St} {H:Hp} {s:Qe} {fp:List Addr} {h₁:Rv} {tk:Nat} (ok:nq X scope F cap) (I:Inv X pins σ H s) (hfp:∀ b∈fp,pG X pins H b/\b < s.heap.objs.size)
  (sub:∀ n c,cl.lookup n=some c->X.env.cells.lookup n=some c) (all:∀ y∈scope.names,y.2 = .free->∃ c,cl.lookup y.1=some c)
  (ns:h₁.Ns s.heap.objs.size fun _=>none) (kp:∀ b o,s.heap.get? b=some o->h₁.get? b=some o) :
  Inv (bF X scope cl s.heap.objs.size (L++F) s H fp) [] (Cp L.length cap σ) H { s with heap:=h₁,toks:=tk }:=by
 have frk:∀ x,scope.names.lookup x=some .free->X.env.kindOf x=some .cell∨X.env.kindOf x=some .free:=fun x e=>ok.fr (x,.free) (Rj e) rfl
 have okX:(bF X scope cl s.heap.objs.size (L++F) s H fp).Ok:=by
  refine⟨I.ok.mod,ok.kind,I.ok.glob,I.ok.blt,Ql _,fun x y c e1 e2=>I.ok.inj x y c (sub x c e1) (sub y c e2),fun x hx=>?_,fun x c hx _=>?_,I.ok.hd,I.ok.frames,.inl rfl,fun b hb=>?_,I.bs,QL I.ok.bsz I.sz,fun b o e hb=>?_,fun b hb=>?_,I.stack,I.wG⟩
  ·have e:scope.names.lookup x=some .free:=by
    rcases hx with hx | hx
    ·rcases oF (env:=X.env) (show _=some Vt from hx) with e | e
     ·exact absurd rfl (ok.cell _ (Rj e))
     ·exact e
    ·rcases oF (env:=X.env) (show _=some Sh from hx) with e | e <;> exact e
   exact all (x,.free) (Rj e) rfl
  ·exact absurd (show false=true from hx) Qk
  ·exact⟨QJ (hfp b hb).2,fun x c e=>(hfp b hb).1.2.2.2.2.1 x c (sub x c e)⟩
  ·obtain⟨_,_,_,f3,_⟩:=(hfp b hb).1
   rcases f3 with z | z
   ·exact I.ok.noex b o e z
   ·exact absurd (Qs (Qt e) (QL I.ok.bsz z)) (RG _)
  ·obtain⟨_,f1,f2,_⟩:=(hfp b hb).1
   exact m7 I f1 f2
 refine⟨okX,rfl,I.bare,Un.kept kp,⟨_,ns,fun i x v e1 e2 e3=>?_⟩,fun x c e=>?_,I.hok.fresh (Ql _),fun x c e=>I.freeC x c (sub x c e),fun p hp=>absurd (show p∈([]:List (Addr × Tz)) from hp) (by simp),I.hok.kept kp,?_⟩
 ·have e1:(L++F)[i]? = some x:=e1
  have e2:(QM L.length none++cap.map fun i=>(σ[i]?).join)[i]? = some (some v):=e2
  have hL:¬ i < L.length:=fun hi=>by
   rw[U4 (by simpa using hi),Vh] at e2
   split at e2 <;> cases e2
  have hi:L.length<=i:=XX hL
  rw[SX hi] at e1
  rw[SX (by simpa using hi),Rt,QH] at e2
  obtain⟨j,hj,hN,hk⟩:=ok.at' _ _ e1
  rw[hj] at e2
  have e4:(σ[j]?).join=some v:=by simpa using e2
  have e5:σ[j]? = some (some v):=by
   cases q:σ[j]? with
   | none=>rw[q] at e4; cases e4
   | some a=>rw[q] at e4; exact congrArg some e4
  obtain⟨m,hn,hl⟩:=I.loc
  have kd:=frk x hk
  obtain⟨u,r,lk⟩:=hl j x v hN e5 (kd.elim (fun z=>.inr (.inl z)) fun z=>.inr (.inr z))
  obtain⟨c,hc,hcell⟩:∃ c,X.env.cells.lookup x=some c/\s.heap.IsCell c (some u):=by
   rcases lk with⟨z,_⟩ | ⟨_,c,z1,z2⟩
   ·rcases kd with y | y <;> (rw[y] at z; cases z)
   ·exact⟨c,z1,z2⟩
  obtain⟨c',hc'⟩:=all (x,.free) (Rj hk) rfl
  have ec:c'=c:=by
   have:=sub x c' hc'
   rw[hc] at this
   exact (QZ this).symm
  subst ec
  obtain⟨o,ho,hd⟩:=hcell
  exact⟨u,r,.inr ⟨(wD (env:=X.env) hk),c',hc',o,kp _ _ ho,hd⟩⟩
 ·obtain⟨v,o,ho,hd⟩:=I.cell x c (sub x c e)
  exact⟨v,o,kp _ _ ho,hd⟩
 ·show (QM L.length (none:Option V)++cap.map fun i=>(σ[i]?).join).length=(L++F).length
  rw[Qx,Qx,Rt,Qc,ok.len]
theorem yC {cl:List (Q4 × Addr)} {pins:List (Addr × Tz)} {σ:St} {s2:Qe} {H2:Hp} {it:Addr} {fp:List Addr} {tn:Nat->Rv->Prop} {J:It} {use:Option (Value->Sem Unit)} {QQ:Value->Qe->Prop} {Z:Hp->Prop} {E:Value->Qe->Prop}
  (hc:X.calm=true) (ok:nq X scope F cap)
  (sub:∀ n c,cl.lookup n=some c->X.env.cells.lookup n=some c) (all:∀ y∈scope.names,y.2 = .free->∃ c,cl.lookup y.1=some c)
  (hg:∀ cl C s H fp,PG (bF X scope cl C (L++F) s H fp) tg g) (ht:∀ cl C s H fp,PTs (bF X scope cl C (L++F) s H fp) ifs tt) (he:∀ cl C s H fp,PE (bF X scope cl C (L++F) s H fp) elt te)
  (I2:Inv X pins σ H2 s2) (T:Turn X.prog X.w X.K tg J fp it tn) (st2:tn 0 s2.heap) (f2:∀ b∈fp,pG X pins H2 b)
  (q2:gU s2.heap.objs.size (Cp L.length cap σ) J g tt te H2 Z)
  (fin:∀ (C:Addr) (s':Qe) (H':Hp),Z H'->Inv X pins σ H' s'->(∃ m,s'.heap.Ns C m)->H' C=none->C≠X.env.locals->X.s₀.heap.objs.size<=C->(∀ x c,X.env.cells.lookup x=some c->c≠C)->(∀ p∈X.pn++pins,p.1≠C) →
   U9 (Qy X.prog X.w) X.A E use QQ (.ref s2.heap.objs.size) C (.ok .next) s') :
  Qp (Qy X.prog X.w) X.A (Yp []) (fun acc s₃=>Qp (Qy X.prog X.w) X.A (VR scope X.env.globals cl [] X.env.qual none .none (some X.env)) (fun cenv s₄ =>
   R5 (Qy X.prog X.w) X.A (.compStart (.ListComp elt [⟨tg,iter,ifs,0⟩] scope pos) 0 (.ref it) acc { cenv with scope:=relabel scope X.env }) (U9 (Qy X.prog X.w) X.A E use QQ acc cenv.locals) s₄) E s₃) E s2:=by
 have hD:H2 s2.heap.objs.size=none:=I2.fresh
 refine QV (wpAny_newFunctionEnv ok.cell (by intro y hy; simp at hy) (fun h₁ hns₁ hsb₁=>?_) ok.kind)
 dsimp only at hns₁ hsb₁ ⊢
 have I3:Inv X pins σ (upd H2 s2.heap.objs.size (.lst [])) { s2 with heap:=s2.heap.push { cls:=.type "list",data:=.seq ([]:List Value).toArray } }:=I2.Nk (t':=s2.toks) (ys:=[]) (its:=[]) .nil (QW _)
 have blt:∀ b∈fp,b < s2.heap.objs.size:=fun b hb=>let ⟨_,e,_⟩:=T.obj 0 _ st2 b hb; Qt e
 have szC:(s2.heap.push { cls:=.type "list",data:=.seq ([]:List Value).toArray }).objs.size=s2.heap.objs.size+1:=Rf _ _
 generalize hs3:({ s2 with heap:=s2.heap.push { cls:=.type "list",data:=.seq ([]:List Value).toArray } }:Qe)=s3 at I3
 have es3:s3.heap=s2.heap.push { cls:=.type "list",data:=.seq ([]:List Value).toArray }:=by rw[← hs3]
 have eos:s3.os=s2.os:=by rw[← hs3]
 have fok:∀ b∈fp,pG X pins (upd H2 s2.heap.objs.size (.lst [])) b/\b < s3.heap.objs.size:=fun b hb=>by
  obtain⟨f0,fr⟩:=f2 b hb
  refine⟨⟨by rw[bx (QJ (blt b hb))]; exact f0,fr⟩,?_⟩
  rw[es3,szC]
  exact RQ (blt b hb)
 have hkp:∀ b o,s3.heap.get? b=some o->h₁.get? b=some o:=fun b o e=>by
  have e':b < s3.heap.objs.size:=Qt e
  rw[es3] at e e'
  exact (hsb₁.2 b (QJ e')).trans (Qd _ e)
 have hns:h₁.Ns s3.heap.objs.size fun _=>none:=by
  rw[es3]
  exact hns₁
 have I4:∀ tk,Inv (bF X scope cl s3.heap.objs.size (L++F) s3 (upd H2 s2.heap.objs.size (.lst [])) fp) [] (Cp L.length cap σ) (upd H2 s2.heap.objs.size (.lst [])) { s3 with heap:=h₁,toks:=tk }:=fun tk =>
  qx (L:=L) ok I3 fok sub all hns hkp
 have stat:∀ {H':Hp},(∀ b∈fp,H' b=none)->∀ b∈fp,pG (bF X scope cl s3.heap.objs.size (L++F) s3 (upd H2 s2.heap.objs.size (.lst [])) fp) [] H' b:=fun {H'} hn b hb=>by
  obtain⟨⟨_,g1,g2,g3,g4,g5⟩,g6⟩:=fok b hb
  exact⟨hn b hb,QJ g6,m7 I3 g1 g2,.inl hb,fun x c e=>g4 x c (sub x c e),fun p hp=>absurd (show p∈([]:List (Addr × Tz)) from hp) (by simp)⟩
 have loop:∀ tk,R5 (Qy X.prog X.w) X.A (.compLoop (.ListComp elt [⟨tg,iter,ifs,0⟩] scope pos) 0 (.ref it) (.ref s2.heap.objs.size) (VV scope cl s3.heap.objs.size X.env))
   (U9 (Qy X.prog X.w) X.A E use QQ (.ref s2.heap.objs.size) s3.heap.objs.size) { s3 with heap:=h₁,toks:=tk }:=fun tk=>by
  obtain⟨W,⟨m0,w0⟩,turn⟩:=q2
  have st3:tn 0 h₁:=T.keep 0 _ _ st2 fun b hb o e=>hkp b o (by rw[es3]; exact Qd _ e)
  refine qy (fun n s'=>∃ i ys σ' H',Inv (bF X scope cl s3.heap.objs.size (L++F) s3 (upd H2 s2.heap.objs.size (.lst [])) fp) [] σ' H' s'/\tn i s'.heap/\(∀ b∈fp,H' b=none)/\W i n ys σ' H') ?_ m0
   ⟨0,[],_,_,I4 tk,st3,fun b hb=>(fok b hb).1.1,w0⟩
  rintro n s5 ⟨i,ys,σ5,H5,I5,st5,fr5,w5⟩
  obtain⟨hDl,alt⟩:=turn i n ys σ5 H5 w5
  rcases alt with⟨stop,qz⟩ | ⟨go,N,hN,step⟩
  ·refine thn (T.done (bF X scope cl s3.heap.objs.size (L++F) s3 (upd H2 s2.heap.objs.size (.lst [])) fp) rfl rfl rfl hc i [] s5 σ5 H5 _ I5 (stat fr5) st5 stop) fun r s6 ⟨hr,I6⟩=>?_
   subst hr
   have un:Un (frs X.stack) fp H2 H5 s2.heap s6.heap:=by
    have u1:Un (frs X.stack) fp H2 (upd H2 s2.heap.objs.size (.lst [])) s2.heap s3.heap:=by
     rw[es3]
     exact Un.laid (fun _ _ q=>Qd _ q) (Ql _) hD
    exact u1.trans I6.base
   have J1:Inv X pins σ H5 s6:=I2.call' (I6.os.trans eos) un I6.hok I6.bare fun b hb=>by
    obtain⟨_,g1,_,g3,g4,g5⟩:=f2 b hb
    exact⟨g3,g1,g4,g5⟩
   have hC:s2.heap.objs.size<=s3.heap.objs.size:=by rw[es3,szC]; exact S5 _
   obtain⟨m,hm,_⟩:=I6.loc
   refine fin s3.heap.objs.size s6 H5 qz J1 ⟨m,hm⟩ I6.free (Sv (Qs I2.lt hC)) (QL I2.sz hC) (fun x c e z=>?_) (fun p hp z=>?_)
   ·obtain⟨v,q⟩:=I2.cell x c e
    exact absurd (Qs q.lt (by rw[z]; exact hC)) (RG _)
   ·exact absurd (Qs (Qt (I2.pin p hp).1) (by rw[z]; exact hC)) (RG _)
  ·refine thn (T.item (bF X scope cl s3.heap.objs.size (L++F) s3 (upd H2 s2.heap.objs.size (.lst [])) fp) rfl rfl rfl hc i [] s5 σ5 H5 _ I5 (stat fr5) st5 go) fun r s6 ⟨u,hr,h6⟩=>?_
   subst hr
   refine thn h6 fun _ s7 ⟨x,H7,I7,r7,y7,st7,fr7⟩=>?_
   have I7':=I7.pinned (stat fr7) (T.obj _ _ st7)
   refine thn (hg _ _ _ _ _ _ s7 σ5 H7 x u _ I7' r7 (step x H7 y7)) fun _ s8 ⟨σ8,H8,I8,q8⟩=>?_
   have again:∀ {σ9:St} {H9:Hp} {s9:Qe} {zs:List V},Inv (bF X scope cl s3.heap.objs.size (L++F) s3 (upd H2 s2.heap.objs.size (.lst [])) fp) ([]++jO fp s7.heap) σ9 H9 s9->N zs σ9 H9 →
     ∃ m,m < n/\∃ i ys σ' H',Inv (bF X scope cl s3.heap.objs.size (L++F) s3 (upd H2 s2.heap.objs.size (.lst [])) fp) [] σ' H' s9/\tn i s9.heap/\(∀ b∈fp,H' b=none)/\W i m ys σ' H':=fun {σ9 H9 s9 zs} I9 n9=>by
    obtain⟨m',hm,w9⟩:=hN zs σ9 H9 n9
    refine⟨m',hm,i+1,zs,σ9,H9,I9.gj,T.keep _ _ _ st7 fun b hb o e=>(I9.pin (b,o) (QB _ (QB _ (cN hb e)))).1,fun b hb=>?_,w9⟩
    obtain⟨o,e,d⟩:=T.obj _ _ st7 b hb
    exact (I9.pin (b,o) (QB _ (QB _ (cN hb e)))).2.1
   refine thn (ht _ _ _ _ _ _ s8 σ8 H8 _ I8 q8) fun okb s9 ⟨H9,I9,q9⟩=>?_
   cases okb with
   | false =>
    rw[if_neg Qk] at q9 ⊢
    exact again I9 q9
   | true =>
    rw[if_pos rfl] at q9 ⊢
    refine thn (he _ _ _ _ _ _ s9 σ8 H9 _ I9 q9) fun y s10 ⟨yv,H10,I10,r10,e10,z10,n10⟩=>?_
    refine thn (cM _ s10 σ8 H10 (.ref s2.heap.objs.size) [yv] (.ref s2.heap.objs.size) [y] (fun _ H'=>N (ys++[yv]) σ8 H') I10 rfl (.cons r10 .nil) ⟨_,ys,yv,rfl,rfl,e10,z10,n10⟩) fun _ s11 ⟨_,H11,I11,_,n11⟩=>?_
    exact again I11 n11
 have eC:(s2.heap.push { cls:=.type "list",data:=.seq ([]:List Value).toArray }).objs.size=s3.heap.objs.size:=by rw[es3]
 have goal:∀ tk,R5 (Qy X.prog X.w) X.A (.compStart (.ListComp elt [⟨tg,iter,ifs,0⟩] scope pos) 0 (.ref it) (.ref s2.heap.objs.size) (VV scope cl s3.heap.objs.size X.env))
   (U9 (Qy X.prog X.w) X.A E use QQ (.ref s2.heap.objs.size) s3.heap.objs.size) { s3 with heap:=h₁,toks:=tk }:=fun tk =>
  Wi (loop tk) (T.self _ 0 _ _ _ (T.keep 0 _ _ st2 fun b hb o e=>hkp b o (by rw[es3]; exact Qd _ e)) (loop tk))
 have g0:=goal (s2.toks+([]:List (Q4 × Value)).length)
 subst hs3
 exact g0
theorem bK (hc:X.calm=true) (ok:nq X scope F cap) (hi:PI X tg iter wi)
  (hg:∀ cl C s H fp,PG (bF X scope cl C (L++F) s H fp) tg g) (ht:∀ cl C s H fp,PTs (bF X scope cl C (L++F) s H fp) ifs tt) (he:∀ cl C s H fp,PE (bF X scope cl C (L++F) s H fp) elt te)
  (hs:∀ x,SN iter X.env x=pure x:=by intro _; rfl):PE X (.ListComp elt [⟨tg,iter,ifs,0⟩] scope pos) (Nf L.length cap wi g tt te):=by
 intro pins s σ H Q I h
 obtain⟨cl,e1,e2,e3⟩:=qM (scope:=scope) (env:=X.env) (fun y hy hf=>I.ok.has _ (ok.fr y hy hf))
 rw[eval_ListComp]
 refine U8 (use:=none) rfl hs e1 ok.kind ok.nms (thn (hi pins s σ H _ I h) fun v s1 h1=>thn h1 fun itv s2 h2=>?_)
 obtain⟨it,fp,tn,J,H2,e,I2,T,st2,f2,q2⟩:=h2
 subst e
 refine yC (Z:=fun H'=>Q (.ref s2.heap.objs.size) H') hc ok e2 e3 hg ht he I2 T st2 f2 (q2 _ I2.fresh) fun C s' H' z J m hCf hCl hCs hCc hCp=>?_
 ·obtain⟨m,hm⟩:=m
  exact⟨m,hm,fun h' hs'=>⟨.ref _,H',J.turned (t':=s'.toks) (fun b o hb e=>(hs'.2 b hb).trans e) hCf hCl (.inr hCs) hCc hCp,rfl,z⟩⟩
def Ly (n:Nat) (cap:List Nat) (wi:TI) (g:TG) (tt:TT) (te:TE) (j:Nat):TS:=fun D σ H=>wi σ H fun J H1=>∀ d,H1 d=none->gU d (Cp n cap σ) J g tt te H1 fun H2=>D.nx (σ.set j (some (.ref d))) H2
theorem wk {j:Nat} {y:Q4} {py spos:V5} (hN:X.N.Nodup) (hj:X.N[j]? = some y) (hy:Loc X.env.scope y) (hc:X.calm=true) (ok:nq X scope F cap) (hi:PI X tg iter wi)
  (hg:∀ cl C s H fp,PG (bF X scope cl C (L++F) s H fp) tg g) (ht:∀ cl C s H fp,PTs (bF X scope cl C (L++F) s H fp) ifs tt) (he:∀ cl C s H fp,PE (bF X scope cl C (L++F) s H fp) elt te)
  (hsw:swapsWith (.ListComp elt [⟨tg,iter,ifs,0⟩] scope pos) (some (.Name y py)) spos.line X.env=pure true:=by rfl)
  (hs:∀ x,SN iter X.env x=pure x:=by intro _; rfl) (hf:X.fn y=true∨X.env.scope.names.lookup y=some .local:=by first | exact .inl rfl | exact .inr rfl | assumption) :
  PS X (.Assign [.Name y py] (.ListComp elt [⟨tg,iter,ifs,0⟩] scope pos) spos) (Ly L.length cap wi g tt te j):=by
 intro pins s σ H D I h
 obtain⟨cl,e1,e2,e3⟩:=qM (scope:=scope) (env:=X.env) (fun y hy hf=>I.ok.has _ (ok.fr y hy hf))
 rw[exec_Assign_Name_used _ _ _ _ hsw]
 refine Qa (Uo (Qa ?_))
 show Qp (Qy X.prog X.w) X.A (do let _ ← comprehension (.ListComp elt [⟨tg,iter,ifs,0⟩] scope pos) scope X.env _ (Yp []) false (S6 iter X.env) (some (Wj (.Name y py) X.env))) _ _ s
 refine Qa (RM (U8 (use:=some (Wj (.Name y py) X.env)) (Q:=fun _ s'=>SP X pins D .next s') rfl hs e1 ok.kind ok.nms
  (thn (hi pins s σ H _ I h) fun v s1 h1=>thn h1 fun itv s2 h2=>?_)) (fun _ s' hq=>Qh (Qh hq)) fun _ _ e=>e)
 obtain⟨it,fp,tn,J,H2,e,I2,T,st2,f2,q2⟩:=h2
 subst e
 refine yC (Z:=fun H'=>D.nx (σ.set j (some (.ref s2.heap.objs.size))) H') hc ok e2 e3 hg ht he I2 T st2 f2 (q2 _ I2.fresh) fun C s' H' z J m hCf hCl hCs hCc hCp=>?_
 obtain⟨m,hm⟩:=m
 refine wpAny_assign_Name (ug J hN hj hy (v:=.ref s2.heap.objs.size) rfl (fun s5 I5 hs5=>?_) hf)
 obtain⟨a,sb,ha⟩:=hs5
 have hne:C≠a:=by
  rcases ha with rfl | ha
  ·exact hCl
  ·exact Uh (hCc y a ha)
 exact⟨m,hm.sameBut sb hne,fun h' hs'=>⟨_,H',I5.turned (t':=s5.toks) (fun b o hb e=>(hs'.2 b hb).trans e) hCf hCl (.inr hCs) hCc hCp,z⟩⟩
end
end L2
namespace L2
open PySem PySem.Spec PyProof.Rows
structure Df (P:QK) (w:Q3) (K:Qo) (mg:Q4->Option Value) (base:Rv) (x:Q4) (k:Nat) (ps:List Q4) (sp:Sp):Prop where
 ex:∃ (f:Addr) (fd:TF),cI P w K mg base CX0 k f fd ps sp/\mg x=some (.ref f)/\Tn K (.ref f)=true/\Binds K fd ps []
section
variable {X:Cx} {k j:Nat} {x:Q4} {ps:List Q4} {sp:Sp} {p pos:V5} {e:Expr} {es:List Expr} {t:TA}
theorem bc (D:Df X.prog X.w X.K X.mg X.base x k ps sp) (hr:jM j X.A) (ha:PA X (e::es) t) (hk:k<=j:=by first | decide | exact Ql _ | lia) (hg:Gl X x:=by rfl)
  (hdb:(x == ("__debug__" : Q4))=false:=by decide) (he:QS (e::es) X.env=(false,S6 e X.env)::QS es X.env:=by rfl) (hpl:(TQ pos (QS es X.env)).any (·.1)=false:=by rfl) :
  PE X (.Call (.Name x p) (e::es) [] pos) (JN sp [] E0 t):=by
 obtain⟨f,fd,F,hm,hkp,hb⟩:=D.ex
 exact Ju F (hr.mono hk) hg hm hkp hb .nil Ax ha hdb he hpl
theorem mO {i:Int} {tk:Tok} (hm:X.mg x=some (.int i tk)) (hg:Gl X x:=by rfl) (hd:(x == ("__debug__" : Q4))=false:=by decide):PE X (.Name x pos) (tC (.int i)):=J3 hg hm ⟨_,rfl⟩ hd
theorem ik {T:String} (hm:X.mg x=none) (hv:Rb x=some (.type T)) (hg:Gl X x:=by rfl) (hn:x≠"__name__":=by decide) (hd:(x == ("__debug__" : Q4))=false:=by decide):PE X (.Name x pos) (tC (.ty T)):=JH hg hm hv rfl hn hd
inductive M8 (K:QF) (xs:List V) (H:Hp) (Q:VK):Prop where
 | mk (x:V) (T:String) (t:Value) (b:Bool) (z0:xs=[x,.ty T]) (z1:Ai K H x t) (z2:Uw K t (.type T)=some b) (z3:Q (.bl b) H):M8 K xs H Q
def sO (K:QF):List V->Hp->VK->Prop:=fun xs H Q=>M8 K xs H Q
theorem cH:gh X (.builtin "isinstance") (sO X.K):=by
 intro pins s σ H xs us Q I r h
 obtain⟨x,T,t,b,rfl,ty,e,q⟩:=h
 obtain⟨u,v,rfl,ru,rv⟩:=vals2 r
 cases (show v=TV T from rv)
 exact Ea I ru ty e fun tk=>⟨.bl b,H,I.tok tk,rfl,q⟩
def iV (K:QF):List V->Hp->VK->Prop:=fun xs H Q=>∃ (p:Addr) (ys:List V),xs=[.ref p]/\(SqL K H p ys∨SqT K H p ys)/\Q (.int ys.length) H
theorem aX:gh X (.builtin "len") (iV X.K):=uo
def qU (K:QF):List V->Hp->VK->Prop:=fun xs H Q=>∃ (p:Addr) (ys:List V),xs=[.ref p]/\(SqL K H p ys∨SqT K H p ys)/\∀ l,H l=none->Q (.ref l) (upd H l (.lst ys))
theorem lL:gh X (.type "list") (qU X.K):=uz
def fD (K:QF):List V->Hp->VK->Prop:=fun xs H Q=>∃ (p:Addr) (ys:List V),xs=[.ref p]/\((SqL K H p ys/\∀ l,H l=none->Q (.ref l) (upd H l (.tup ys)))∨(SqT K H p ys/\Q (.ref p) H))
theorem bL:gh X (.type "tuple") (fD X.K):=rQ
theorem je:∀ bs:List Bool,(Rk bs.length).all (fun i=>bs.getD i true)=bs.all fun b=>b
 | []=>rfl
 | b::r=>by
  have ih:=je r
  rw[Qu,Wq,Vu,XH,Vu,← ih]
  rfl
inductive HQ (K:QF) (xs:List V) (H:Hp) (Q:VK):Prop where
 | mk (p:Addr) (bs:List Bool) (z0:xs=[.ref p]) (z1:SqL K H p (bs.map V.bl)) (z2:Q (.bl (bs.all fun b=>b)) H):HQ K xs H Q
def Ds (K:QF):List V->Hp->VK->Prop:=fun xs H Q=>HQ K xs H Q
theorem jY (hc:X.calm=true):gh X (.builtin "all") (Ds X.K):=by
 intro pins s σ H xs us Q I r h
 obtain⟨p,bs,rfl,hq,q⟩:=h
 obtain⟨u,rfl,ru⟩:=vals1 r
 cases ru
 obtain⟨its,rv,pl,hz⟩:=I.list hq
 have hlen:bs.length=its.length:=by simpa using rv.length
 refine call_all_walk (Us pl.isList ?_)
 have I1:Inv X pins σ H { s with heap:=s.heap.push { cls:=.type "list_iterator",data:=.fields #[.ref p,.int 0 0] } }:=I.kept (t':=s.toks) fun b o e=>Qd _ e
 have hne:p≠s.heap.objs.size:=by
  obtain⟨o,ho,_⟩:=pl.isList
  exact QJ (Qt ho)
 refine⟨s.heap.objs.size,_,_,_,_,_,fun i=>bs.getD i true,rfl,Xl (A:=X.A.in1) (I.ok.hd hc) s.heap.objs.size p hne its.toArray,⟨⟨_,Qn _ rfl,rfl,rfl⟩,?_⟩,?_,fun h' tk hk=>?_⟩
 ·obtain⟨o,ho,hr⟩:=pl.isList
  exact⟨o,Qd _ ho,hr⟩
 ·intro i v s' Q' E' hP hQ
  have hP:its[i]? = some v:=by simpa using hP
  have hi:i < bs.length:=by
   rw[hlen]
   exact (List.getElem?_eq_some_iff.mp hP).1
  obtain⟨u',hu',ru'⟩:=rv.get (i:=i) (x:=V.bl bs[i]) (by rw[QH,Qg hi]; rfl)
  rw[hP] at hu'
  cases hu'
  cases (show v=Wk bs[i] from ru')
  refine SJ ?_
  have eg:bs.getD i true=bs[i]:=by rw[Qf,Qg hi]; rfl
  have hQ':Q' (bs.getD i true) s':=hQ
  rw[eg] at hQ'
  exact hQ'
 ·have f:=I.Ii (b:=s.heap.objs.size) (H':=H) (Ql _) I.fresh
  have eall:(Rk its.toArray.size).all (fun i=>bs.getD i true)=bs.all fun b=>b:=by
   have el:its.toArray.size=bs.length:=by rw[Qz,hlen]
   rw[el]
   exact je bs
  rw[eall]
  exact⟨.bl _,H,I1.turned (t':=tk) (it:=s.heap.objs.size) (fun b o hb e=>hk b o (by simpa using hb) e) f.1 f.2.1 f.2.2.2.1 f.2.2.2.2.1 f.2.2.2.2.2,rfl,q⟩
end
end L2
namespace L2
open PySem PySem.Spec PyProof.Rows
def BR (osc:TX) (oN:List Q4) (sc:TX) (F:List Q4) (cap:List Nat):Bool :=
 decide (sc.kind = .function) && sc.names.all (fun y=>!decide (y.2 = .cell)) && sc.names.all (fun y=>!decide (y.2 = .local) || decide (sc.names.lookup y.1=some .local)) &&
 sc.names.all (fun y=>!decide (y.2 = .free) || decide (osc.names.lookup y.1=some .cell) || decide (osc.names.lookup y.1=some .free)) && decide (cap.length=F.length) &&
 (Rk F.length).all fun k=>(decide (F[k]? = none) || decide ((cap[k]?.bind fun i=>oN[i]?)=F[k]?)) && decide ((F[k]?.bind fun x=>sc.names.lookup x)=some .free)
theorem bD {X:Cx} {osc sc:TX} {oN F:List Q4} {cap:List Nat} (ho:X.env.scope=osc) (hN:X.N=oN) (h:BR osc oN sc F cap=true):nq X sc F cap:=by
 unfold BR at h
 simp only[Rn] at h
 obtain⟨⟨⟨⟨⟨h1,h2⟩,h3⟩,h4⟩,h5⟩,h6⟩:=h
 refine⟨of_decide_eq_true h1,fun y hy e=>?_,fun y hy e=>?_,fun y hy e=>?_,of_decide_eq_true h5,fun k x e=>?_⟩
 ·have:=List.all_eq_true.mp h2 y hy
  rw[e] at this
  exact absurd this (by decide)
 ·have:=List.all_eq_true.mp h3 y hy
  rw[decide_eq_true e] at this
  exact of_decide_eq_true (by simpa using this)
 ·have:=List.all_eq_true.mp h4 y hy
  rw[decide_eq_true e] at this
  have z:decide (osc.names.lookup y.1=some .cell)=true∨decide (osc.names.lookup y.1=some .free)=true:=by
   rw[Bool.not_true,Xj,Vf] at this
   exact this
  show X.env.scope.names.lookup y.1=_∨X.env.scope.names.lookup y.1=_
  rw[ho]
  exact z.elim (fun q=>.inl (of_decide_eq_true q)) fun q=>.inr (of_decide_eq_true q)
 ·have hk:k < F.length:=(List.getElem?_eq_some_iff.mp e).1
  have q:=List.all_eq_true.mp h6 k (List.mem_range.mpr hk)
  rw[e,Rn] at q
  obtain⟨q1,q2⟩:=q
  have q1:(cap[k]?.bind fun i=>oN[i]?)=some x:=by
   rw[Vf] at q1
   rcases q1 with z | z
   ·exact absurd (of_decide_eq_true z) (by simp)
   ·exact of_decide_eq_true z
  have q2:sc.names.lookup x=some .free:=of_decide_eq_true q2
  cases hc:cap[k]? with
  | none=>rw[hc] at q1; cases q1
  | some i =>
   rw[hc] at q1
   exact⟨i,rfl,by rw[hN]; exact q1,q2⟩
theorem bw {X:Cx} {scope:TX} {cl:List (Q4 × Addr)} {C:Addr} {N:List Q4} {s:Qe} {H:Hp} {fp:List Addr} (h:N.Nodup):(bF X scope cl C N s H fp).N.Nodup:=h
section
variable {K:QF} {a D:Addr} {xs:List V} {g:TG} {tt:TT} {te:TE} {H1:Hp} {Q:Hp->Prop} {σ0:St}
theorem cL (Pv:Nat->List V->St->Hp->Prop) (h0:Pv 0 [] σ0 (upd H1 D (.lst []))) (hl:∀ i ys σ H,i<=xs.length->Pv i ys σ H->SqT K H a xs/\H D=some (.lst ys))
  (hs:∀ i ys x σ H,xs[i]? = some x->Pv i ys σ H->g x σ H fun σ3 H3=>tt σ3 H3 fun b H4=>if b=true then te σ3 H4 fun y H5=>H5 D=some (.lst ys)/\ys.length < sizeLine/\Pv (i+1) (ys++[y]) σ3 (upd H5 D (.lst (ys++[y]))) else Pv (i+1) ys σ3 H4)
  (hd:∀ ys σ H,Pv xs.length ys σ H->Q H):gU D σ0 (Itt K a) g tt te H1 Q:=by
 refine⟨fun i m ys σ H=>m=xs.length - i/\i<=xs.length/\Pv i ys σ H,⟨xs.length,by simp,QW _,h0⟩,?_⟩
 rintro i m ys σ H ⟨rfl,hi,p⟩
 obtain⟨q,qD⟩:=hl i ys σ H hi p
 refine⟨qD,?_⟩
 by_cases hlt:i < xs.length
 ·refine .inr ⟨⟨xs,xs[i],q,by simp [hlt]⟩,Pv (i+1),fun zs σ' H' p'=>⟨xs.length - (i+1),by lia,rfl,hlt,p'⟩,fun x H' y=>?_⟩
  obtain⟨e,y⟩:=y
  subst e
  exact hs i ys x σ _ (y xs q) p
 ·have e:i=xs.length:=by lia
  subst e
  exact .inl ⟨⟨xs,q,Ql _⟩,hd ys σ H p⟩
theorem eN (Pv:Nat->List V->St->Hp->Prop) (h0:Pv 0 [] σ0 (upd H1 D (.lst []))) (hl:∀ i ys σ H,i<=xs.length->Pv i ys σ H->SqL K H a xs/\H D=some (.lst ys))
  (hs:∀ i ys x σ H,xs[i]? = some x->Pv i ys σ H->g x σ H fun σ3 H3=>tt σ3 H3 fun b H4=>if b=true then te σ3 H4 fun y H5=>H5 D=some (.lst ys)/\ys.length < sizeLine/\Pv (i+1) (ys++[y]) σ3 (upd H5 D (.lst (ys++[y]))) else Pv (i+1) ys σ3 H4)
  (hd:∀ ys σ H,Pv xs.length ys σ H->Q H):gU D σ0 (Itl K a) g tt te H1 Q:=by
 refine⟨fun i m ys σ H=>m=xs.length - i/\i<=xs.length/\Pv i ys σ H,⟨xs.length,by simp,QW _,h0⟩,?_⟩
 rintro i m ys σ H ⟨rfl,hi,p⟩
 obtain⟨q,qD⟩:=hl i ys σ H hi p
 refine⟨qD,?_⟩
 by_cases hlt:i < xs.length
 ·refine .inr ⟨⟨xs,xs[i],q,by simp [hlt]⟩,Pv (i+1),fun zs σ' H' p'=>⟨xs.length - (i+1),by lia,rfl,hlt,p'⟩,fun x H' y=>?_⟩
  obtain⟨e,y⟩:=y
  subst e
  exact hs i ys x σ _ (y xs q) p
 ·have e:i=xs.length:=by lia
  subst e
  exact .inl ⟨⟨xs,q,Ql _⟩,hd ys σ H p⟩
theorem cT {lo:Int} {n:Nat} (Pv:Nat->List V->St->Hp->Prop) (h0:Pv 0 [] σ0 (upd H1 D (.lst []))) (hl:∀ i ys σ H,i<=n->Pv i ys σ H->H D=some (.lst ys))
  (hs:∀ i ys σ H,i < n->Pv i ys σ H->g (.int (lo+i)) σ H fun σ3 H3=>tt σ3 H3 fun b H4=>if b=true then te σ3 H4 fun y H5=>H5 D=some (.lst ys)/\ys.length < sizeLine/\Pv (i+1) (ys++[y]) σ3 (upd H5 D (.lst (ys++[y]))) else Pv (i+1) ys σ3 H4)
  (hd:∀ ys σ H,Pv n ys σ H->Q H):gU D σ0 (Itr lo n) g tt te H1 Q:=by
 refine⟨fun i m ys σ H=>m=n - i/\i<=n/\Pv i ys σ H,⟨n,by simp,QW _,h0⟩,?_⟩
 rintro i m ys σ H ⟨rfl,hi,p⟩
 refine⟨hl i ys σ H hi p,?_⟩
 by_cases hlt:i < n
 ·refine .inr ⟨hlt,Pv (i+1),fun zs σ' H' p'=>⟨n - (i+1),by lia,rfl,hlt,p'⟩,fun x H' y=>?_⟩
  obtain⟨e,y⟩:=y
  subst e y
  exact hs i ys σ _ hlt p
 ·have e:i=n:=by lia
  subst e
  exact .inl ⟨Ql _,hd ys σ H p⟩
end
structure Bt (mg:Q4->Option Value):Prop where
 len_:mg "len" = none
 range_:mg "range" = none
 all_:mg "all" = none
 isinstance_:mg "isinstance" = none
 int_:mg "int" = none
 bool_:mg "bool" = none
 str_:mg "str" = none
 list_:mg "list" = none
 tuple_:mg "tuple" = none
 abs_:mg "abs" = none
 max_:mg "max" = none
 min_:mg "min" = none
 sum_:mg "sum" = none
 sorted_:mg "sorted" = none
 zip_:mg "zip" = none
 reversed_:mg "reversed" = none
 divmod_:mg "divmod" = none
 set_:mg "set" = none
 any_:mg "any" = none
 enumerate_:mg "enumerate" = none
theorem bV:Rb "len" = some (.builtin "len"):=PySem.boot_len
theorem zg:Rb "all" = some (.builtin "all"):=by decide+kernel
theorem bj:Rb "isinstance" = some (.builtin "isinstance"):=by decide+kernel
theorem xK:Rb "abs" = some (.builtin "abs"):=by decide+kernel
theorem ql:Rb "max" = some (.builtin "max"):=by decide+kernel
theorem MN:Rb "min" = some (.builtin "min"):=by decide+kernel
theorem Ec:Rb "sum" = some (.builtin "sum"):=by decide+kernel
theorem vm:Rb "int" = some (.type "int"):=by decide+kernel
theorem vO:Rb "bool" = some (.type "bool"):=by decide+kernel
theorem Hu:Rb "str" = some (.type "str"):=by decide+kernel
theorem nP:Rb "list" = some (.type "list"):=by decide+kernel
theorem bQ:Rb "tuple" = some (.type "tuple"):=by decide+kernel
theorem dJ (K:QF) (T:String):Uw K (.type T) (.type T)=some true:=by
 unfold PySem.W.kitOne
 rw[if_pos (beq_self_eq_true _)]
theorem jw (K:QF):Uw K (.type "int") (.type "bool")=some false:=by kernel_rfl
theorem nM (K:QF):Uw K (.type "bool") (.type "int")=some true:=by kernel_rfl
theorem zW (K:QF):Uw K (.type "int") (.type "str")=some false:=by kernel_rfl
theorem vU (K:QF):Uw K (.type "bool") (.type "str")=some false:=by kernel_rfl
theorem tW (K:QF):Uw K (.type "tuple") (.type "str")=some false:=by kernel_rfl
theorem v9 (K:QF):Uw K (.type "list") (.type "str")=some false:=by kernel_rfl
theorem uA (K:QF):Uw K (.type "tuple") (.type "int")=some false:=by kernel_rfl
theorem wu (K:QF):Uw K (.type "list") (.type "int")=some false:=by kernel_rfl
theorem jZ (K:QF):Uw K (.type "tuple") (.type "list")=some false:=by kernel_rfl
theorem jU (K:QF):Uw K (.type "list") (.type "tuple")=some false:=by kernel_rfl
theorem Aa (K:QF):Uw K (.type "str") (.type "int")=some false:=by kernel_rfl
end L2
namespace L2
open PySem PySem.Spec PyProof.Rows
inductive Dm where
 | non | bl (b:Bool) | int (i:Int) | str (x:Q4) | tup (ds:List Dm) | lst (ds:List Dm)
mutual
def Dm.dep:Dm->Nat
 | .tup ds=>vC ds+1
 | .lst ds=>vC ds+1
 | _=>0
def vC:List Dm->Nat
 | []=>0
 | d::r=>max d.dep (vC r)
end
mutual
inductive Rep (H:Hp):V->Dm->Prop where
 | non:Rep H .non .non
 | bl (b:Bool):Rep H (.bl b) (.bl b)
 | int (i:Int):Rep H (.int i) (.int i)
 | str (x:Q4):Rep H (.str x) (.str x)
 | tup {a:Addr} {xs:List V} {ds:List Dm}:H a=some (.tup xs)->xs.length<=100000->sJ H xs ds->Rep H (.ref a) (.tup ds)
 | lst {a:Addr} {xs:List V} {ds:List Dm}:H a=some (.lst xs)->xs.length<=100000->sJ H xs ds->Rep H (.ref a) (.lst ds)
inductive sJ (H:Hp):List V->List Dm->Prop where
 | nil:sJ H [] []
 | cons {v:V} {d:Dm} {vs:List V} {ds:List Dm}:Rep H v d->sJ H vs ds->sJ H (v::vs) (d::ds)
end
mutual
theorem Rep.mono {H H':Hp} (e:aU H H'):∀ {v:V} {d:Dm},Rep H v d->Rep H' v d
 | _,_,.non=>.non
 | _,_,.bl b=>.bl b
 | _,_,.int i=>.int i
 | _,_,.str x=>.str x
 | _,_,.tup h l r=>.tup (e _ _ h) l (sJ.mono e r)
 | _,_,.lst h l r=>.lst (e _ _ h) l (sJ.mono e r)
theorem sJ.mono {H H':Hp} (e:aU H H'):∀ {vs:List V} {ds:List Dm},sJ H vs ds->sJ H' vs ds
 | _,_,.nil=>.nil
 | _,_,.cons h r=>.cons (Rep.mono e h) (sJ.mono e r)
end
theorem sJ.length {H:Hp}:∀ {vs:List V} {ds:List Dm},sJ H vs ds->vs.length=ds.length
 | _,_,.nil=>rfl
 | _,_,.cons _ r=>by rw[Qu,Qu,sJ.length r]
theorem sJ.get {H:Hp}:∀ {vs:List V} {ds:List Dm} {i:Nat},sJ H vs ds->i < vs.length->∃ v d,vs[i]? = some v/\ds[i]? = some d/\Rep H v d
 | _,_,_,.nil,h=>absurd h (Um _)
 | _,_,0,.cons h _,_=>⟨_,_,rfl,rfl,h⟩
 | _,_,i+1,.cons _ r,h=>by
  obtain⟨v,d,e1,e2,e3⟩:=sJ.get (i:=i) r (Wo h)
  exact⟨v,d,by simpa using e1,by simpa using e2,e3⟩
theorem qZ:∀ {ds:List Dm} {i:Nat} {d:Dm},ds[i]? = some d->d.dep<=vC ds
 | [],_,_,h=>by simp at h
 | d::r,0,_,h=>by
  cases (show some d=some _ from h)
  rw[vC]
  exact Nat.le_max_left _ _
 | d::r,i+1,_,h=>by
  rw[vC]
  exact QL (qZ (i:=i) (ds:=r) (by simpa using h)) (Nat.le_max_right _ _)
theorem uf {H:Hp}:∀ ns:List Int,sJ H (ns.map V.int) (ns.map Dm.int)
 | []=>.nil
 | n::r=>.cons (.int n) (uf r)
section
variable {X:Cx}
inductive Lq (K:QF) (x:V) (y:V) (H:Hp) (Q:VK):Prop where
 | mk (a b:Addr) (xs:List V) (z0:x = .ref a) (z1:y = .ref b) (z2:SqL K H a xs) (z3:SqL K H b []) (z4:Q (.bl xs.isEmpty) H):Lq K x y H Q
def Ox (K:QF):R2:=fun x y H Q=>Lq K x y H Q
theorem LQ (hu:X.A.units < cLine):OpR X (Tj .Eq) (Ox X.K):=by
 intro pins s σ H x y v u Q I rx ry h
 obtain⟨a,b,xs,rfl,rfl,ha,hb,q⟩:=h
 cases rx
 cases ry
 obtain⟨its,r1,p1,_⟩:=I.list ha
 obtain⟨its2,r2,p2,_⟩:=I.list hb
 cases r2
 cases r1 with
 | nil=>exact SeqAt.eq_listAt (e:=fun _=>true) p1.isList p2.isList rfl hu (fun j h1 _=>absurd h1 (by simp)) ⟨.bl true,H,I,rfl,q⟩
 | cons r t=>exact SeqAt.eq_list_lengthsAt p1.isList p2.isList (by simp) hu ⟨.bl false,H,I,rfl,q⟩
inductive La (K:QF) (x:V) (y:V) (H:Hp) (Q:VK):Prop where
 | mk (a b:Addr) (xs:List V) (z0:x = .ref a) (z1:y = .ref b) (z2:SqL K H a xs) (z3:SqL K H b []) (z4:Q (.bl (!xs.isEmpty)) H):La K x y H Q
def Oz (K:QF):R2:=fun x y H Q=>La K x y H Q
theorem M7 (hu:X.A.units < cLine):OpR X (Tj .NotEq) (Oz X.K):=by
 intro pins s σ H x y v u Q I rx ry h
 obtain⟨a,b,xs,rfl,rfl,ha,hb,q⟩:=h
 cases rx
 cases ry
 obtain⟨its,r1,p1,_⟩:=I.list ha
 obtain⟨its2,r2,p2,_⟩:=I.list hb
 cases r2
 cases r1 with
 | nil=>exact SeqAt.RcNeAt.lists (e:=fun _=>true) p1.isList p2.isList rfl hu (fun j h1 _=>absurd h1 (by simp)) X.prog X.w X.xe _ ⟨.bl false,H,I,rfl,q⟩
 | cons r t=>exact SeqAt.RcNeAt.lists_lengths p1.isList p2.isList (by simp) hu X.prog X.w X.xe _ ⟨.bl true,H,I,rfl,q⟩
end
end L2
namespace L2
open PySem PySem.Spec PyProof.Rows
section
variable {prog:QK} {w:Q3} {A:Q5} {E:Value->Qe->Prop} {s:Qe}
theorem Bc {it t:Addr} {i:Nat} {its:Array Value} {x:Value} {Q:Value->Qe->Prop} (j:s.heap.IsTupleIter it t i) (ht:s.heap.IsTuple t its) (hx:its[i]? = some x)
  (k:∀ h',h'.IsTupleIter it t (i+1)->S9 it s.heap h'->Q x { s with heap:=h' }):Qp (Qy prog w) A (RT (.ref it)) Q E s:=by
 obtain⟨o,e1,c1,d1⟩:=id j; obtain⟨o2,e2,_,n2,d2⟩:=ht; unfold RT
 refine Qa (Rx (name:=Tf "__next__") j.typeIs UJ (Rm UJ j.typeIs Yq ?_ (Yn _)))
 show Qp _ _ (field (.ref it) 0 >>= _) _ _ s; refine Qa (RJ e1 d1 (x:=.ref t) rfl ?_)
 show Qp _ _ (if (Rh t == R8)=true then _ else _) _ _ s; rw[if_neg (show ¬ ((Rh t == R8)=true) from Qk)]
 show Qp _ _ (field (.ref it) 1 >>= _) _ _ s; refine Qa (RJ e1 d1 (x:=.int i 0) rfl ?_)
 show Qp _ _ (Wf (.ref t) >>= _) _ _ s; refine Qa (R6 e2 d2 ?_); simp only[Q8,hx]
 refine Qa (SM e1 d1 (by simp) (Qh ⟨x,rfl,Qh (k _ ?_ (Ry ..))⟩))
 exact⟨_,Q7 _ e1 (Obj.isFreed_of_fields (Obj.data_mapFields d1 _)),(Obj.cls_mapFields ..).trans c1,by rw[Obj.data_mapFields d1]; simp [Sd]⟩
theorem Mt {it t:Addr} {i:Nat} {its:Array Value} {Q:Value->Qe->Prop} (hh:A.handled=none) (j:s.heap.IsTupleIter it t i) (ht:s.heap.IsTuple t its) (hx:its[i]? = none)
  (k:∀ h' e,Heap.ExtBut it s.heap h'->(∃ o,h'.get? e=some o/\o.cls = .type "StopIteration")->E (.ref e) { s with heap:=h' }):Qp (Qy prog w) A (RT (.ref it)) Q E s:=by
 obtain⟨o,e1,c1,d1⟩:=id j; obtain⟨o2,e2,_,n2,d2⟩:=ht; unfold RT
 refine Qa (Rx (name:=Tf "__next__") j.typeIs UJ (Rm UJ j.typeIs Yq ?_ (Yn _)))
 show Qp _ _ (field (.ref it) 0 >>= _) _ _ s; refine Qa (RJ e1 d1 (x:=.ref t) rfl ?_)
 show Qp _ _ (if (Rh t == R8)=true then _ else _) _ _ s; rw[if_neg (show ¬ ((Rh t == R8)=true) from Qk)]
 show Qp _ _ (field (.ref it) 1 >>= _) _ _ s; refine Qa (RJ e1 d1 (x:=.int i 0) rfl ?_)
 show Qp _ _ (Wf (.ref t) >>= _) _ _ s; refine Qa (R6 e2 d2 ?_); simp only[Q8,hx]
 refine Qa (Uv (Qa (SM e1 d1 (by simp) ?_))); show Qp _ _ (XR (.type "StopIteration") [] >>= _) _ _ _
 refine Qa ?_; simp only[XR,newTuple]; refine Qa (QV ?_ (by size_fits))
 refine Qa (m:=T7 _ _) (Tc (a:=R8) (by first | rfl | (simp only[T7]; rfl)) ?_); refine QV ?_ (by size_fits)
 simp only[raiseNew]; refine Qa (Xg ?_); first | rw[show A.in1.handled=none from hh] | rw[hh]
 refine Qa (Qh (X7 ?_)); exact k _ _ (((Ry ..).extBut.push _).push _) ⟨_,Qn _ rfl,rfl⟩
structure Zap (z p q i1 i2 l1 l2:Addr):Prop where
 pz:p≠z
 qz:q≠z
 az:i1≠z
 bz:i2≠z
 pq:p≠q
 pa:p≠i1
 pb:p≠i2
 qa:q≠i1
 qb:q≠i2
 ab:i1≠i2
 xz:l1≠z
 xq:l1≠q
 xa:l1≠i1
 xb:l1≠i2
 yz:l2≠z
 yq:l2≠q
 ya:l2≠i1
 yb:l2≠i2
theorem CW {h h':Rv} {a t:Addr} {its:Array Value} (ht:h.IsTuple t its) (sb:S9 a h h') (ne:t≠a):h'.IsTuple t its:=by
 obtain⟨o,e,r⟩:=ht
 exact⟨o,(sb.2 t ne).trans e,r⟩
theorem nA {h h':Rv} {a it t:Addr} {i:Nat} (ht:h.IsTupleIter it t i) (sb:S9 a h h') (ne:it≠a):h'.IsTupleIter it t i:=by
 obtain⟨o,e,r⟩:=ht
 exact⟨o,(sb.2 it ne).trans e,r⟩
abbrev zA (h:Rv) (t:Addr):Rv:=h.push { cls:=.type "tuple_iterator",data:=.fields #[.ref t,.int 0 0] }
end
theorem Inv.qR {X:Cx} {pins:List (Addr × Tz)} {σ:St} {H:Hp} {s:Qe} {h':Rv} {t':Nat} {ch:List Addr} (I:Inv X pins σ H s) (k:∀ b o,b ∉ ch->s.heap.get? b=some o->h'.get? b=some o) (hf:∀ b∈ch,pG X pins H b) :
  Inv X pins σ H { s with heap:=h',toks:=t' }:=by
 have nit:∀ b u,H b=some u->b ∉ ch:=fun b u e z=>by
  have:=(hf b z).1
  rw[this] at e; cases e
 refine I.step (g':=s.gens) (d':=s.drawn) (ch:=ch) (fun b hb=>let ⟨_,f1,_,f3,f4,f5⟩:=hf b hb; ⟨f3,f1,f4,f5⟩) (fun b o _ _ hc e _=>k b o hc e) (fun b o _ _ hc e _=>⟨o.slots,k b o hc e⟩) (fun _ _ _ _ n=>n)
  (fun b o hc e=>⟨o,k b o hc e⟩) (fun _ _ e=>e) (fun _ _ _ e=>e) (fun b ps e=>⟨#[],by rw[e]; simp⟩) (fun m hm=>?_) (fun b u e=>?_) I.bare
 ·obtain⟨o,es,ep,ho,r⟩:=hm
  exact⟨o,es,ep,k _ o (fun z=>(hf _ z).2.1 rfl) ho,r⟩
 ·refine (I.hok b u e).stay (fun c v hc q=>k c v ?_ q) (fun _ q=>q) fun _ _ q=>q
  rcases hc with z | z
  ·rw[z]; exact nit b u e
  ·exact nit c _ z
theorem JV {n c d:Nat} (hc:c < n) (hd:d < n):Zap (n+4) (n+2) (n+3) n (n+1) c d:=by
 constructor <;> (refine (fun (h:¬ @Eq Nat _ _)=>h) ?_) <;> lia
end L2
namespace L2
open PySem PySem.Spec PyProof.Rows
theorem nj:∀ ns ms:List Int,((Rk (min ns.length ms.length)).all (fun j=>ns.getD j 0 == ms.getD j 0) && ns.length == ms.length)=decide (ns=ms)
 | [],[]=>rfl
 | [],m::ms=>by rw[decide_eq_false (by simp)]; rfl
 | n::ns,[]=>by rw[decide_eq_false (by simp)]; rfl
 | n::ns,m::ms=>by
  have ih:=nj ns ms
  have e:min (n::ns).length (m::ms).length=min ns.length ms.length+1:=by rw[Qu,Qu]; lia
  have el:((n::ns).length == (m::ms).length)=(ns.length == ms.length):=by simp
  have e3:decide (n::ns=m::ms)=(n == m && decide (ns=ms)):=by
   by_cases h1:n=m
   ·subst h1
    by_cases h2:ns=ms
    ·subst h2; simp
    ·simp [h2]
   ·simp [h1]
  rw[e,Wq,Vu,XH,el,e3,← ih,Bool.and_assoc]
  rfl
theorem fL {X:Cx} {pos:V5} {K:QF} {es:List Expr} {k:Nat} {t:TGs} (n:Nat) (hK:X.K=K) (hc:X.calm=true) (h:PGs X es t)
  (hn:(Vp es X.env).length=n:=by rfl) (hst:(Vp es X.env).findIdx? (·.1)=none:=by rfl):PG X (.Tuple es k pos) (Oi K n t):=by
 subst hK
 exact M6 hc h hn hst
section
variable {X:Cx}
inductive Ie (K:QF) (x:V) (y:V) (H:Hp) (Q:VK):Prop where
 | mk (a b:Addr) (ns ms:List Int) (z0:x = .ref a) (z1:y = .ref b) (z2:SqT K H a (ns.map V.int)) (z3:SqT K H b (ms.map V.int)) (z4:Q (.bl (decide (ns=ms))) H):Ie K x y H Q
def J9 (K:QF):R2:=fun x y H Q=>Ie K x y H Q
theorem ints_get {ns:List Int} {its:List Value} (i:Rz its ns) {j:Nat} (h:j < its.length):∃ t,its[j] = .int (ns.getD j 0) t:=by
 induction i generalizing j with
 | nil=>exact absurd h (Um _)
 | cons n t r ih =>
  cases j with
  | zero=>exact⟨t,rfl⟩
  | succ j =>
   obtain⟨u,e⟩:=ih (j:=j) (Wo h)
   exact⟨u,by simpa using e⟩
theorem Dd (hu:X.A.units < cLine):OpR X (Tj .Eq) (J9 X.K):=by
 intro pins s σ H x y v u Q I rx ry h
 obtain⟨a,b,ns,ms,rfl,rfl,ha,hb,q⟩:=h
 cases rx
 cases ry
 obtain⟨its,r1,p1,_⟩:=I.tuple ha
 obtain⟨its2,r2,p2,_⟩:=I.tuple hb
 have i1:Rz its ns:=intsAre_of r1
 have i2:Rz its2 ms:=intsAre_of r2
 have l1:=i1.length
 have l2:=i2.length
 refine SeqAt.eq_tupleAt (e:=fun j=>ns.getD j 0 == ms.getD j 0) (show s.heap.IsTuple a its.toArray from p1) (show s.heap.IsTuple b its2.toArray from p2) hu (fun j h1 h2=>?_) ?_
 ·obtain⟨t,e1⟩:=ints_get i1 (j:=j) (by simpa using h1)
  obtain⟨t',e2⟩:=ints_get i2 (j:=j) (by simpa using h2)
  rw[Vy,Vy,e1,e2]
  exact Xm _ _ _ _
 ·refine⟨.bl _,H,I,?_,q⟩
  have e:=nj ns ms
  have s1:its.toArray.size=ns.length:=by rw[Qz]; exact l1
  have s2:its2.toArray.size=ms.length:=by rw[Qz]; exact l2
  rw[s1,s2,e]
  rfl
inductive DW (K:QF) (x:V) (y:V) (H:Hp) (Q:VK):Prop where
 | mk (a b:Addr) (xs ys:List V) (z0:x = .ref a) (z1:y = .ref b) (z2:SqT K H a xs) (z3:SqT K H b ys) (z4:xs.length+ys.length<=sizeLine) (z5:(xs=[]->Q (.ref b) H)) (z6:(xs≠[]->ys=[]->Q (.ref a) H)) (z7:(xs≠[]->ys≠[]->∀ p,H p=none->Q (.ref p) (upd H p (.tup (xs++ys))))):DW K x y H Q
def iC (K:QF):R2:=fun x y H Q=>DW K x y H Q
theorem jd:OpR X (Vj .Add) (iC X.K):=by
 intro pins s σ H x y v u Q I rx ry h
 obtain⟨a,b,xs,ys,rfl,rfl,ha,hb,hz,q0,q1,q2⟩:=h
 by_cases hx:xs=[]
 ·subst hx
  cases rx
  cases ry
  obtain⟨its,r1,p1,_⟩:=I.tuple ha
  obtain⟨its2,r2,p2,_⟩:=I.tuple hb
  cases r1
  obtain⟨⟨c1,d1,dt1,sl1⟩,ho,hc,n,hd⟩:=id p1
  obtain⟨⟨c2,d2,dt2,sl2⟩,ho2,hc2,n2,hd2⟩:=id p2
  simp only at hc hd hc2 hd2
  subst hc hd hc2 hd2
  exact concat_meets ⟨_,ho,rfl⟩ ⟨_,ho2,rfl⟩ XQ seq_tuple_add Wl Wg (Wb _ _) (tuple_addW0 a b _ _ n n2 d1 d2 sl1 sl2 rfl) ⟨ho,ho2,⟨.ref b,H,I,rfl,q0 rfl⟩⟩
 ·exact Kz pins s σ H _ _ v u Q I rx ry ⟨a,b,xs,ys,rfl,rfl,ha,hb,hx,hz,q1 hx,q2 hx⟩
end
end L2
namespace L2
open PySem PySem.Spec PyProof.Rows
theorem ji:∀ bs:List Bool,(Rk bs.length).any (fun i=>bs.getD i false)=bs.any fun b=>b
 | []=>rfl
 | b::r=>by
  have ih:=ji r
  rw[Qu,Wq,We,List.any_map,We,← ih]
  rfl
section
variable {X:Cx}
inductive Ib (K:QF) (xs:List V) (H:Hp) (Q:VK):Prop where
 | mk (p:Addr) (ns:List Int) (z0:xs=[.ref p]) (z1:SqL K H p (ns.map V.int)) (z2:Q (.int ns.sum) H):Ib K xs H Q
def FN (K:QF):List V->Hp->VK->Prop:=fun xs H Q=>Ib K xs H Q
theorem nQ (hc:X.calm=true):gh X (.builtin "sum") (FN X.K):=by
 intro pins s σ H xs us Q I r h
 obtain⟨p,ns,rfl,hq,q⟩:=h
 obtain⟨u,rfl,ru⟩:=vals1 r
 cases ru
 obtain⟨its,rv,pl,hz⟩:=I.list hq
 have hi:Rz its ns:=intsAre_of rv
 obtain⟨zs,hx⟩:=hi.allInts.items
 have hl':s.heap.IsList p (intItems zs):=hx▸pl.isList
 refine sum_intListG (I.ok.hd hc) hl' fun h' tk t' hk=>?_
 have e1:ns=zs.toList.map (·.1):=by
  rw[← nums_intItems,← hx]
  exact (show numsOf its.toArray.toList=ns from hi.numsOf).symm
 have e2:preSum (numAt zs) zs.size=ns.sum:=by
  rw[preSum_eq,List.take_of_length_le (by simp),e1]
 rw[e2]
 exact⟨.int _,H,I.kept (t':=tk) hk,⟨_,rfl⟩,q⟩
inductive HH (K:QF) (xs:List V) (H:Hp) (Q:VK):Prop where
 | mk (p:Addr) (bs:List Bool) (z0:xs=[.ref p]) (z1:SqL K H p (bs.map V.bl)) (z2:Q (.bl (bs.any fun b=>b)) H):HH K xs H Q
def Ng (K:QF):List V->Hp->VK->Prop:=fun xs H Q=>HH K xs H Q
theorem Ci (hc:X.calm=true):gh X (.builtin "any") (Ng X.K):=by
 intro pins s σ H xs us Q I r h
 obtain⟨p,bs,rfl,hq,q⟩:=h
 obtain⟨u,rfl,ru⟩:=vals1 r
 cases ru
 obtain⟨its,rv,pl,hz⟩:=I.list hq
 have hlen:bs.length=its.length:=by simpa using rv.length
 refine call_any_walk (Us pl.isList ?_)
 have I1:Inv X pins σ H { s with heap:=s.heap.push { cls:=.type "list_iterator",data:=.fields #[.ref p,.int 0 0] } }:=I.kept (t':=s.toks) fun b o e=>Qd _ e
 have hne:p≠s.heap.objs.size:=by
  obtain⟨o,ho,_⟩:=pl.isList
  exact QJ (Qt ho)
 refine⟨s.heap.objs.size,_,_,_,_,_,fun i=>bs.getD i false,rfl,Xl (A:=X.A.in1) (I.ok.hd hc) s.heap.objs.size p hne its.toArray,⟨⟨_,Qn _ rfl,rfl,rfl⟩,?_⟩,?_,fun h' tk hk=>?_⟩
 ·obtain⟨o,ho,hr⟩:=pl.isList
  exact⟨o,Qd _ ho,hr⟩
 ·intro i v s' Q' E' hP hQ
  have hP:its[i]? = some v:=by simpa using hP
  have hi:i < bs.length:=by
   rw[hlen]
   exact (List.getElem?_eq_some_iff.mp hP).1
  obtain⟨u',hu',ru'⟩:=rv.get (i:=i) (x:=V.bl bs[i]) (by rw[QH,Qg hi]; rfl)
  rw[hP] at hu'
  cases hu'
  cases (show v=Wk bs[i] from ru')
  refine SJ ?_
  have eg:bs.getD i false=bs[i]:=by rw[Qf,Qg hi]; rfl
  have hQ':Q' (bs.getD i false) s':=hQ
  rw[eg] at hQ'
  exact hQ'
 ·have f:=I.Ii (b:=s.heap.objs.size) (H':=H) (Ql _) I.fresh
  have eany:(Rk its.toArray.size).any (fun i=>bs.getD i false)=bs.any fun b=>b:=by
   have el:its.toArray.size=bs.length:=by rw[Qz,hlen]
   rw[el]
   exact ji bs
  rw[eany]
  exact⟨.bl _,H,I1.turned (t':=tk) (it:=s.heap.objs.size) (fun b o hb e=>hk b o (by simpa using hb) e) f.1 f.2.1 f.2.2.2.1 f.2.2.2.2.1 f.2.2.2.2.2,rfl,q⟩
end
theorem Le:Rb "any" = some (.builtin "any"):=by decide+kernel
end L2
namespace L2
open PySem PySem.Spec PyProof.Rows
def Mv:List V->Hp->VK->Prop:=fun xs H Q=>(∃ i,xs=[.int i]/\Q (.int i) H)∨∃ k,xs=[.bl k]/\Q (.int (if k then 1 else 0)) H
end L2
namespace L2
open PySem
def Ris (xs:Array Nat):Prop:=xs.toList.Pairwise (· < ·)
theorem yE {xs:Array Nat} (h:Ris xs) {i j x y:Nat} (hij:i < j) (hi:xs[i]? = some x) (hj:xs[j]? = some y):x < y:=by
 rw[← R4] at hi hj
 obtain⟨li,ei⟩:=List.getElem?_eq_some_iff.mp hi
 obtain⟨lj,ej⟩:=List.getElem?_eq_some_iff.mp hj
 have:=List.pairwise_iff_getElem.mp h i j li lj hij
 rw[ei,ej] at this
 exact this
theorem qX {xs:Array Nat} (h:Ris xs) (j:Nat):∀ (fuel lo hi:Nat),hi - lo<=fuel->lo<=hi->hi<=xs.size->(∀ i x,i < lo->xs[i]? = some x->x < j)->(∀ i x,hi<=i->xs[i]? = some x->j<=x) →
  Vk xs j fuel lo hi<=xs.size/\(∀ i x,i < Vk xs j fuel lo hi->xs[i]? = some x->x < j)/\(∀ i x,Vk xs j fuel lo hi<=i->xs[i]? = some x->j<=x)
 | 0,lo,hi,hf,hl,hs,h1,h2=>by
  rw[Vk]
  have e:lo=hi:=by lia
  subst e
  exact⟨hs,h1,h2⟩
 | fuel+1,lo,hi,hf,hl,hs,h1,h2=>by
  rw[Vk]
  by_cases hlt:lo < hi
  ·rw[if_pos hlt]
   dsimp only
   have hm1:lo<=(lo+hi) / 2:=by lia
   have hm2:(lo+hi) / 2 < hi:=by lia
   have hms:(lo+hi) / 2 < xs.size:=by lia
   generalize (lo+hi) / 2=m at *
   have eg:xs[m]? = some xs[m]:=QD hms
   have ed:xs.getD m j=xs[m]:=by rw[Th,eg]; rfl
   rw[ed]
   by_cases hc:xs[m] < j
   ·rw[if_pos hc]
    refine qX h j fuel (m+1) hi (by lia) (by lia) hs (fun i x hi' e=>?_) h2
    by_cases hm:i=m
    ·subst hm
     rw[eg] at e
     cases e
     exact hc
    ·exact VM (yE h (show i < m by lia) e eg) hc
   ·rw[if_neg hc]
    refine qX h j fuel lo m (by lia) hm1 (by lia) h1 (fun i x hi' e=>?_)
    by_cases hm:i=m
    ·subst hm
     rw[eg] at e
     cases e
     lia
    ·have:=yE h (show m < i by lia) eg e
     lia
  ·rw[if_neg hlt]
   have e:lo=hi:=by lia
   subst e
   exact⟨hs,h1,h2⟩
theorem rY {xs:Array Nat} (h:Ris xs) (j:Nat):RX xs j<=xs.size/\(∀ i x,i < RX xs j->xs[i]? = some x->x < j)/\(∀ i x,RX xs j<=i->xs[i]? = some x->j<=x):=by
 unfold RX
 refine qX h j xs.size 0 xs.size (by lia) (QW _) (Ql _) (fun i x hi=>absurd hi (Um _)) fun i x hi e=>?_
 rw[Uk hi] at e
 cases e
theorem below_at {xs:Array Nat} (h:Ris xs) {i x:Nat} (e:xs[i]? = some x):RX xs (x+1)=i+1:=by
 obtain⟨h1,h2,h3⟩:=rY h (x+1)
 have hi:i < xs.size:=(Array.getElem?_eq_some_iff.mp e).1
 generalize RX xs (x+1)=p at *
 rcases Nat.lt_trichotomy p (i+1) with hp | hp | hp
 ·have:=h3 i x (by lia) e
  lia
 ·exact hp
 ·have hs:i+1 < xs.size:=by lia
  have:=yE h (R7 i) e (QD hs)
  have:=h2 (i+1) _ hp (QD hs)
  lia
theorem zP {xs:Array Nat} (h:Ris xs):RX xs 0=0:=by
 obtain⟨h1,h2,h3⟩:=rY h 0
 generalize RX xs 0=p at *
 rcases Nat.eq_zero_or_pos p with hp | hp
 ·exact hp
 ·have hs:0 < xs.size:=by lia
  have:=h2 0 _ hp (QD hs)
  lia
theorem J6 {xs:Array Nat} (h:Ris xs) {j:Nat} (hj:xs[RX xs j]?≠some j):Ris (SetTable.insertAt xs (RX xs j) j):=by
 obtain⟨h1,h2,h3⟩:=rY h j
 unfold Ris
 rw[SetTable.toList_insertAt]
 generalize hp:RX xs j=p at *
 have hh:xs.toList.Pairwise (· < ·):=h
 have hlt:∀ x∈xs.toList.take p,x < j:=fun x hx=>by
  obtain⟨i,hi,e⟩:=VG hx
  rw[Qv] at hi
  rw[List.getElem_take] at e
  exact h2 i x (by lia) (by rw[← R4,Qg (by lia),e])
 have hgt:∀ x∈xs.toList.drop p,j < x:=fun x hx=>by
  obtain⟨i,hi,e⟩:=VG hx
  rw[U3] at hi
  rw[List.getElem_drop] at e
  have ex:xs[p+i]? = some x:=by rw[← R4,Qg (by lia),e]
  have:=h3 (p+i) x (by lia) ex
  rcases Wn j x with q | q
  ·exact q
  ·have ejx:x=j:=by lia
   subst ejx
   by_cases hi0:i=0
   ·subst hi0
    exact absurd ex hj
   ·have hps:p < xs.size:=by
     have:=(Array.getElem?_eq_some_iff.mp ex).1
     lia
    have:=yE h (show p < p+i by lia) (QD hps) ex
    have:=h3 p _ (Ql _) (QD hps)
    lia
 rw[WY]
 refine⟨hh.sublist (List.take_sublist _ _),List.pairwise_cons.mpr ⟨hgt,hh.sublist (List.drop_sublist _ _)⟩,fun a ha b hb=>?_⟩
 rcases List.mem_cons.mp hb with rfl | hb
 ·exact hlt a ha
 ·exact VM (hlt a ha) (hgt b hb)
def oM (t:Uy) (j:Nat):Prop:=t.place[RX t.place j]?≠some j
theorem qi {t:Uy} {j:Nat} (h:t.slot j = .empty∨t.slot j = .dummy):oM t j:=by
 intro e
 unfold SetTable.slot at h
 dsimp only at h
 rw[e,if_pos (by exact beq_self_eq_true _)] at h
 rcases h with h | h <;> cases h
theorem kY {t:Uy} {f:Nat->Int} {h:Int}:∀ (fuel:Nat) (p:SetTable.Probe) {j:Nat} {d:Option Nat},(∀ x,p.dummy=some x->oM t x)->Xz t f h fuel p=some (.empty j d)->oM t j/\∀ x,d=some x->oM t x
 | 0,_,_,_,_,e=>by rw[Xz] at e; cases e
 | fuel+1,p,j,d,hd,e=>by
  rw[Xz] at e
  have adv:∀ q:SetTable.Probe,(t.advance q).dummy=q.dummy:=fun q=>by
   unfold SetTable.advance
   split <;> rfl
  cases hs:t.slot p.j with
  | empty =>
   rw[hs] at e
   cases e
   exact⟨qi (.inl hs),hd⟩
  | dummy =>
   rw[hs] at e
   dsimp only at e
   refine kY fuel _ (fun x hx=>?_) e
   rw[adv] at hx
   cases hx
   exact qi (.inr hs)
  | live i =>
   rw[hs] at e
   dsimp only at e
   by_cases hc:(f i == h)=true
   ·rw[if_pos hc] at e
    cases e
   ·rw[if_neg hc] at e
    exact kY fuel _ (fun x hx=>by rw[adv] at hx; exact hd x hx) e
theorem wJ {t:Uy} {h:Int} {j:Nat} {b:Bool} (e:t.freeSlot h=some (j,b)):oM t j:=by
 unfold SetTable.freeSlot SetTable.probe at e
 split at e
 ·rename_i j' d hp
  obtain⟨h1,h2⟩:=kY _ _ (fun x hx=>by cases hx) hp
  cases e
  cases d with
  | none=>exact h1
  | some x=>exact h2 x rfl
 ·cases e
structure TOk (b:Bool) (t:Uy):Prop where
 led:t.led=b
 ris:t.plain=true->Ris t.place
theorem Bu (b:Bool):TOk b (.fresh 0 0 b):=⟨rfl,fun _=>XJ⟩
theorem gC {b:Bool} {t:Uy} (h:TOk b t) (n:Nat):TOk b (t.standIn n):=⟨h.led,fun z=>by cases z⟩
theorem zE {b:Bool} {t:Uy} (h:TOk b t) (es:Array (Int × Value)) (k:Int) (x:Value):TOk b (layNew t es k x).2.1:=by
 unfold layNew
 split
 ·rename_i slot wd e
  dsimp only
  unfold SetTable.orStandIn
  have ht:TOk b (t.put slot).1:=⟨h.led,fun z=>J6 (h.ris z) (wJ e)⟩
  split
  ·exact ht
  ·exact gC ht _
 ·exact gC h _
theorem Gm (owner:Array (Option Nat)):∀ l:List Nat,l.Pairwise (· < ·)->((l.filterMap fun j=>(owner.getD j none).map (j,·)).map (·.1)).Pairwise (· < ·):=fun l hl=>by
 have hs:List.Sublist ((l.filterMap fun j=>(owner.getD j none).map (j,·)).map (·.1)) l:=by
  induction l with
  | nil=>exact List.Sublist.slnil
  | cons a r ih =>
   have ih:=ih (List.pairwise_cons.mp hl).2
   rw[VH]
   cases e:owner.getD a none with
   | none=>exact ih.cons _
   | some k=>exact ih.cons₂ _
 exact hl.sublist hs
theorem uF {b:Bool} {t:Uy} (h:TOk b t) (es:Array (Int × Value)) (m:Nat):TOk b (Xu t es m).2.1:=by
 unfold Xu
 split
 ·rename_i t' order e
  dsimp only
  split
  ·unfold SetTable.relaid SetTable.laid at e
   cases ho:SetTable.layClean (SetTable.sizeAbove m - 1) (es.map (·.1)) with
   | none=>rw[ho] at e; cases e
   | some owner =>
    rw[ho] at e
    cases e
    exact⟨h.led,fun _=>Gm owner _ List.pairwise_lt_range⟩
  ·exact gC h _
 ·exact gC h _
end L2
namespace L2
open PySem PySem.Spec PyProof.Rows
section
variable {P:QK} {w:Q3} {A:Q5} {E:Value->Qe->Prop} {s:Qe}
def lK (P:QK) (w:Q3) (b:Bool) (h:Rv) (a:Addr) (ks:List Int):Prop :=
 ∃ o es ep t,h.get? a=some o/\o.ExactSet/\o.data = .set es ep t/\ElemsOf (UT P w) es.toList/\t.fits es.size=true/\TOk b t/\∃ ns,Rz (es.toList.map (·.2)) ns/\ns.Perm ks
theorem eV {l l':List Value} (p:l.Perm l'):∀ {ns:List Int},Rz l ns->∃ ms,Rz l' ms/\ms.Perm ns:=by
 induction p with
 | nil=>intro ns h; exact⟨ns,h,.refl _⟩
 | cons x p ih =>
  intro ns h
  cases h with
  | cons n t r =>
   obtain⟨ms,h1,h2⟩:=ih r
   exact⟨n::ms,.cons n t h1,h2.cons n⟩
 | swap x y l =>
  intro ns h
  cases h with
  | cons n t r =>
   cases r with
   | cons m u r=>exact⟨m::n::_,.cons m u (.cons n t r),.swap _ _ _⟩
 | trans p q ih1 ih2 =>
  intro ns h
  obtain⟨ms,h1,h2⟩:=ih1 h
  obtain⟨ks,h3,h4⟩:=ih2 h1
  exact⟨ks,h3,h4.trans h2⟩
theorem mj {k:Int} {t:Tok}:∀ {l:List Value} {ns:List Int},Rz l ns->Rz (l++[.int k t]) (ns++[k])
 | _,_,.nil=>.cons k t .nil
 | _,_,.cons n u r=>.cons n u (mj r)
theorem oW {k:Int}:∀ {l:List Value} {ns:List Int},Rz l ns->(k∈ns ↔ ∃ v∈l,(UT P w).is k v=true)
 | _,_,.nil=>by simp
 | _,_,.cons n t r=>by
  have ih:=oW (k:=k) r
  have e:(UT P w).is k (.int n t)=decide (k=n):=KeyKind.is_eq_decide (intKind_is _ _ _ _) k
  rw[Sq,ih]
  constructor
  ·rintro (h | ⟨v,hv,q⟩)
   ·exact⟨_,Qi,by rw[e]; exact decide_eq_true h⟩
   ·exact⟨v,Qm _ hv,q⟩
  ·rintro⟨v,hv,q⟩
   rcases List.mem_cons.mp hv with rfl | hv
   ·rw[e] at q
    exact .inl (of_decide_eq_true q)
   ·exact .inr ⟨v,hv,q⟩
theorem mF {b:Bool} {h:Rv} {a:Addr} {o:Tz} {es es':Array (Int × Value)} {ep:Nat} {t t':Uy} {ks:List Int} (ho:h.get? a=some o) (hx:o.ExactSet) (hd:o.data = .set es ep t)
  (hel:ElemsOf (UT P w) es'.toList) (hf:t'.fits es'.size=true) (tk:TOk b t') (hn:∃ ns,Rz (es'.toList.map (·.2)) ns/\ns.Perm ks) :
  (h.update a (Xo es' t')).get? a=some { o with data:=.set es' (ep+1) t' }/\lK P w b (h.update a (Xo es' t')) a ks:=by
 have g:(h.update a (Xo es' t')).get? a=some { o with data:=.set es' (ep+1) t' }:=by
  have q:=Q7 (Xo es' t') ho (by rw[putSet_of es' t' hd]; rfl)
  rwa [putSet_of es' t' hd] at q
 exact⟨g,_,es',ep+1,t',g,hx,rfl,hel,hf,tk,hn⟩
theorem Kr {b:Bool} {a:Addr} {ks:List Int} {k:Int} {t0:Tok} {Q:Bool->Qe->Prop} (hS:lK P w b s.heap a ks) (hroom:ks.length+1 < scanBound)
  (h:∀ h' r,S9 a s.heap h'->lK P w b h' a (step_dedup ks k)->Q r { s with heap:=h' }):Qp (Qy P w) A (setAddHashed a (.int k t0) ((UT P w).hash k)) Q E s:=by
 obtain⟨o,es,ep,t,ho,hx,hd,hel,hf,tk,ns,hi,hp⟩:=hS
 have key:(UT P w).is k (.int k t0)=true:=intKind_is _ _ _ _
 have hlen:es.size=ks.length:=by
  rw[← hp.length_eq,← hi.length,Qc,Ra]
 have hb:es.size < scanBound:=by lia
 have hm:=oW (P:=P) (w:=w) (k:=k) hi
 unfold setAddHashed setAddHashedIn
 refine R9 (Qa (Ur ho hd hf ?_))
 dsimp only
 rw[byScan_of rfl hb hel]
 simp only[↓reduceIte]
 unfold setAddByScan
 refine Qa (Qa (Uv (Qa (wpAny_setScan_of key ho hd hf hel ?_))))
 cases hr:es.toList.findIdx? (fun e=>(UT P w).is k e.2) with
 | some j =>
  dsimp only
  obtain⟨hj,q,_⟩:=List.findIdx?_eq_some_iff_getElem.mp hr
  have hk:k∈ks:=hp.mem_iff.mp (hm.mpr ⟨es.toList[j].2,List.mem_map.mpr ⟨_,S8 hj,rfl⟩,q⟩)
  have es0:step_dedup ks k=ks:=by
   unfold step_dedup
   have hany:(ks.any fun x=>x == k)=true:=List.any_eq_true.mpr ⟨k,hk,beq_self_eq_true k⟩
   rw[if_pos hany]
  have q':=h s.heap false (Heap.SameBut.refl a s.heap) (by rw[es0]; exact⟨o,es,ep,t,ho,hx,hd,hel,hf,tk,ns,hi,hp⟩)
  exact Qh (Qh q')
 | none =>
  dsimp only
  have hk:k ∉ ks:=fun z=>by
   obtain⟨v,hv,q⟩:=hm.mp (hp.mem_iff.mpr z)
   obtain⟨e,he,rfl⟩:=List.mem_map.mp hv
   rw[List.findIdx?_eq_none_iff.mp hr e he] at q
   cases q
  have es0:step_dedup ks k=ks++[k]:=by
   unfold step_dedup
   rw[if_neg]
   intro z
   obtain⟨x,hx',e⟩:=List.any_eq_true.mp z
   exact hk (by rw[← eq_of_beq e]; exact hx')
  rw[es0] at h
  have pm:=layNew_perm t es ((UT P w).hash k) (.int k t0)
  have ft:=layNew_fits t es ((UT P w).hash k) (.int k t0)
  have tk1:=zE tk es ((UT P w).hash k) (.int k t0)
  generalize layNew t es ((UT P w).hash k) (.int k t0)=L at pm ft tk1 ⊢
  obtain⟨es1,t1,wd,gv⟩:=L
  dsimp only at pm ft tk1 ⊢
  rw[Array.toList_push] at pm
  have hel1:ElemsOf (UT P w) es1.toList:=(hel.push key rfl).perm pm
  have hn1:∃ ns,Rz (es1.toList.map (·.2)) ns/\ns.Perm (ks++[k]):=by
   have i1:Rz ((es.toList++[((UT P w).hash k,T8 k t0)]).map (·.2)) (ns++[k]):=by
    rw[Qj]
    exact mj hi
   obtain⟨ms,h1,h2⟩:=eV (pm.symm.map (·.2)) i1
   exact⟨ms,h1,h2.trans (hp.append (.refl _))⟩
  have hs1:es1.size<=sizeLine:=by
   have:es1.size=es.size+1:=by rw[← Ra,pm.length_eq,Qx,Ra]; rfl
   exact fits_of_scanBound (by lia)
  have gw:∀ (b:Bool) {s₁:Qe} {Q':Unit->Qe->Prop},Q' () s₁->Qp (Qy P w) A (match b with | true=>rule "set.scan.the-table-gave-way" | false=>pure ()) Q' E s₁:=fun b s₁ Q' hq=>by
   cases b
   ·exact Qh hq
   ·exact Uv hq
  have tail:∀ (g:Bool->Sem Unit) (R:Option Bool->Qe->Prop) (t2:Uy),(∀ (b:Bool) (s₁:Qe) (Q':Unit->Qe->Prop),Q' () s₁->Qp (Qy P w) A (g b) Q' E s₁)->t2.fits es1.size=true->TOk b t2 →
    (∀ h',S9 a s.heap h'->lK P w b h' a (ks++[k])->R (some true) { s with heap:=h' })->Qp (Qy P w) A (do
    storeSet a es1 t2
    if (!wd && t2.tooFull)=true then do
      g (Xu t2 es1 (Ux es1.size)).2.2
      storeSet a (Xu t2 es1 (Ux es1.size)).1 (Xu t2 es1 (Ux es1.size)).2.1
      pure (some true)
     else pure (some true)) R E s:=fun g R t2 hg f2 k2 hR=>by
   refine Qa (wpAny_storeSet_of ho hd ?_ hs1)
   obtain⟨ho1,hS1⟩:=mF (P:=P) (w:=w) ho hx hd hel1 f2 k2 hn1
   have sb1:=Ry s.heap a (Xo es1 t2)
   split
   ·have pr:=relayAll_perm t2 es1 (Ux es1.size)
    have fr:=relayAll_fits t2 es1 (Ux es1.size)
    have tr:=uF k2 es1 (Ux es1.size)
    generalize Xu t2 es1 (Ux es1.size)=R at pr fr tr ⊢
    obtain⟨es2,t3,g2⟩:=R
    dsimp only at pr fr tr ⊢
    have hn2:∃ ns,Rz (es2.toList.map (·.2)) ns/\ns.Perm (ks++[k]):=by
     obtain⟨ns1,i1,p1⟩:=hn1
     obtain⟨ms,h1,h2⟩:=eV (pr.symm.map (·.2)) i1
     exact⟨ms,h1,h2.trans p1⟩
    have hs2:es2.size<=sizeLine:=by
     have:es2.size=es1.size:=by rw[← Ra,pr.length_eq,Ra]
     lia
    refine Qa (hg _ _ _ (Qa (wpAny_storeSet_of ho1 rfl ?_ hs2)))
    obtain⟨_,hS2⟩:=mF (P:=P) (w:=w) ho1 hx rfl (hel1.perm pr) fr tr hn2
    exact Qh (hR _ (sb1.trans (Ry _ a _)) hS2)
   ·exact Qh (hR _ sb1 hS1)
  refine Qa (gw _ ?_)
  split
  ·refine Qa ?_
   rw[hashByValue_scannable 8 rfl]
   refine Qh (tail _ _ _ (fun b s₁ Q' hq=>gw b hq) ?_ ?_ fun h' sb hS=>Qh (h h' true sb hS))
   ·exact ft
   ·exact tk1
  ·exact Qa (Qh (tail _ _ _ (fun b s₁ Q' hq=>gw b hq) ft tk1 fun h' sb hS=>Qh (h h' true sb hS)))
end
end L2
namespace L2
open PySem PySem.Spec PyProof.Rows
theorem j7 {P:QK} {w:Q3} {b:Bool} {h h':Rv} {a:Addr} {ks:List Int} (hk:∀ o,h.get? a=some o->h'.get? a=some o) (hS:lK P w b h a ks):lK P w b h' a ks:=by
 obtain⟨o,es,ep,t,ho,r⟩:=hS
 exact⟨o,es,ep,t,hk o ho,r⟩
section
variable {P:QK} {w:Q3} {A:Q5} {R:WW->Qe->Prop} {I:Addr} {fp wr:List Addr} {G:Array GenState->Array GenState->Prop} {n:Nat} {Pv:Nat->Value->Prop} {St:Nat->Qe->Prop} {b:Bool}
theorem Gp (W:WalksS P w A.in1 I fp wr G n Pv St) (S:Addr) (hS:S ∉ fp) (val:Nat->Int) (hv:∀ i v,Pv i v->∃ t,v = .int (val i) t) (hb:n+1 < scanBound) :
  ∀ (k i:Nat) (s:Qe),n - i=k->i<=n->St i s->lK P w b s.heap S (firstMet val i)->(∀ s',Moved (S::wr) G s s'->lK P w b s'.heap S (firstMet val n)->R (.ok (.ret .none)) s') →
   R5 (Qy P w) A (.builtin "set.update.loop" ⟨[.ref S,.ref I],[]⟩) R s:=by
 have nw:S ∉ wr:=fun z=>hS (W.sub _ z)
 have sub:∀ x∈wr,x∈S::wr:=fun x hx=>Qm _ hx
 intro k
 induction k with
 | zero =>
  intro i s hk hi st hs hR
  obtain rfl:i=n:=by lia
  refine Ss F.entry_set_update_loop ?_
  rw[Sx Wh _]
  refine (show Qp _ A.in1 (Tt (.ref I) >>= _) _ _ s from Qa (W.done s _ _ st fun s' hm=>?_))
  exact (show Qp _ A.in1 (ret R8) _ _ s' from Qh (hR s' (hm.mono sub) (j7 (fun o e=>hm.heap S o nw e) hs)))
 | succ k ih =>
  intro i s hk hi st hs hR
  have lt:i < n:=by lia
  refine Ss F.entry_set_update_loop ?_
  rw[Sx Wh _]
  refine (show Qp _ A.in1 (Tt (.ref I) >>= _) _ _ s from Qa (W.item i s _ _ lt st fun v s' hP st' hm=>?_))
  obtain⟨t,rfl⟩:=hv i v hP
  have hs':=j7 (h':=s'.heap) (fun o e=>hm.heap S o nw e) hs
  have room:(firstMet val i).length+1 < scanBound:=by
   have:=firstMet_length_le val i
   lia
  refine (show Qp _ A.in1 (VL [T8 (val i) t] (setAdd S (.int (val i) t)) >>= _) _ _ s' from Qa (R9 ?_))
  unfold setAdd
  refine R9 (Qa ((UT P w).pyHash (k:=val i) (intKind_is _ _ _ _) ?_))
  refine Kr (s:={ s' with toks:=s'.toks+1 }) hs' room fun h' r sb hn=>?_
  rw[← firstMet_succ] at hn
  refine Qh ⟨TJ Wh _,ih (i+1) _ (by lia) lt (W.frame _ s' _ _ st' (S5 _) fun x hx o e=>?_) hn fun s'' hm'' hs''=>?_⟩
  ·rw[sb.2 x (fun z:x=S=>hS (by rw[← z]; exact hx))]
   exact e
  ·refine hR s'' (Moved.trans W.gtrans ((hm.mono sub).then_heap (S5 _) fun x o hx e=>?_) hm'') hs''
   rw[sb.2 x (fun z:x=S=>hx (by rw[z]; exact Qi))]
   exact e
end
end L2
namespace L2
open PySem PySem.Spec PyProof.Rows
section
variable {P:QK} {w:Q3} {A:Q5} {E:Value->Qe->Prop} {s:Qe}
def Gx (w:Q3):Bool:=!w.params.followText "set-order"
def newS (w:Q3):Tz:={ cls:=.type "set",dict:=none,data:=.set #[] 0 (.fresh 0 0 (Gx w)) }
theorem Jq (a:Value) {Q₁:Value->Qe->Prop} (h:Q₁ (.ref s.heap.objs.size) { s with heap:=s.heap.push (newS w) }) :
  R5 (Qy P w) A (.call (.builtin "set.__new__") ⟨[.type "set",a],[]⟩) (wants Q₁ E) s:=by
 refine Yg (show Qp _ A.in1 (do checkBuiltinCall "set.__new__" ⟨[.type "set",a],[]⟩; again (.builtin "set.__new__" ⟨[.type "set",a],[]⟩)) _ _ s from ?_)
 refine Qa (Tc (PySem.F.newCall_set_1 a) (Qh ⟨TJ PySem.F.plain_set_new _,Ss PySem.F.entry_set_new ?_⟩))
 rw[Sx PySem.F.plain_set_new _]
 unfold Uu.«set.__new__» Builtin.Frozenset.newClass; have hsub:=sub_set_self; obtain⟨hp,g,d,tk,os⟩:=s
 dsimp only
 wp_walk
 refine T5 (Qh ?_)
 dsimp only
 simp only[newObj]; refine Qa (wpAny_alloc (Qh ?_))
 exact Qh h
end
end L2
namespace L2
open PySem PySem.Spec PyProof.Rows
section
variable {P:QK} {w:Q3} {A:Q5} {E:Value->Qe->Prop} {s:Qe}
set_option maxRecDepth 100000 in
set_option maxHeartbeats 3200000 in
theorem wM {l:Addr} {items:Array Value} {ns:List Int} {Q:Value->Qe->Prop} (hh:A.handled=none) (hl:s.heap.IsList l items) (hi:Rz items.toList ns) (hb:items.size+1 < scanBound)
  (h:∀ (h':Rv) (tk:Nat),lK P w (Gx w) h' s.heap.objs.size (firstMet (fun i=>ns.getD i 0) items.size)->(∀ b o,b < s.heap.objs.size->s.heap.get? b=some o->h'.get? b=some o)->Q (.ref s.heap.objs.size) { s with heap:=h',toks:=tk }) :
  Qp (Qy P w) A (call (.type "set") [.ref l]) Q E s:=by
 obtain⟨c,tl,hmro⟩:=PySem.F.called_set.mro
 have hmade:=PySem.F.called_set.made
 have hsub:=PySem.F.called_set.sub
 refine wpAny_call (Yg (show Qp _ _ (callAny (.type "set") _) _ _ _ from Qh ⟨Code.quiet_builtin _ (by decide+kernel),Ss PySem.F.entry_type_call ?_⟩))
 rw[Around.under_plain (weight_type_call_type "set" [.ref l] []) rfl]
 have h1:=PySem.F.called_set.notType
 have h2:=PySem.F.called_set.canCreate
 have hct:=PySem.F.typeCall_set_1 (.ref l)
 repeat (any_goals (first | assumption | wp_step))
 refine Vi (Jq (.ref l) (E:=E) (Q₁:=fun obj s₁=>obj = .ref s.heap.objs.size/\s₁={ s with heap:=s.heap.push (newS w) }) ⟨rfl,rfl⟩) fun r s₁ hr=>?_
 cases r with
 | error e=>exact hr
 | ok fl =>
  cases fl with
  | ret obj =>
   obtain⟨rfl,rfl⟩:=hr
   have gS:(s.heap.push (newS w)).get? s.heap.objs.size=some (newS w):=Qn _ rfl
   have hT:Shared.TypeIs { s with heap:=s.heap.push (newS w) } (.ref s.heap.objs.size) "set":=⟨_,gS,rfl⟩
   have hli:=PySem.F.called_set.init.lookup
   have hbi:=PySem.F.called_set.init.bind (.ref s.heap.objs.size)
   repeat (any_goals (first | assumption | wp_step))
   refine Vi (codeAny_call_builtin (R:=wants (fun r s₂=>r = .none/\∃ h' tk,s₂={ s with heap:=h',toks:=tk }/\lK P w (Gx w) h' s.heap.objs.size (firstMet (fun i=>ns.getD i 0) items.size) ∧
     (∀ b o,b < s.heap.objs.size->s.heap.get? b=some o->h'.get? b=some o)) E) PySem.F.called_set.init.plain PySem.F.entry_set_init (check_set_init_1 hT ?_)) fun r₂ s₂ hr₂=>?_
   ·obtain⟨ol,hol,hcl,nl,hdl⟩:=hl
    obtain⟨ocls,odict,odata,oslots⟩:=ol
    simp only at hcl hdl
    subst hcl hdl
    have hol':(s.heap.push (newS w)).get? l=some { cls:=.type "list",dict:=odict,data:=.seq items nl,slots:=oslots }:=Qd _ hol
    have hsls:=PySem.F.sub_list_set
    have hslf:=PySem.F.sub_list_frozenset
    have hne:(TV "list" == TV "dict")=false:=by decide
    have hl1:(s.heap.push (newS w)).IsList l items:=⟨_,hol',rfl,nl,rfl⟩
    have gS':(s.heap.push (newS w)).get? s.heap.objs.size=some { cls:=.type "set",dict:=none,data:=.set #[] 0 (.fresh 0 0 (Gx w)) }:=gS
    unfold Uu.«set.__init__» noKeywords Builtin.Frozenset.updateFrom; generalize hPI:WM=PI
    wp_walk
    subst hPI
    refine Us hl1 (Qa (wpAny_runValue ?_))
    have hlS:l < s.heap.objs.size:=Qt hol
    have hh3:A.in1.in1.in1.handled=none:=by simp [hh]
    have hneI:l≠(s.heap.push (newS w)).objs.size:=by
     rw[Rf]
     exact QJ (RQ hlS)
    have hSf:s.heap.objs.size ∉ [(s.heap.push (newS w)).objs.size,l]:=by
     rw[Rf,Sq,Uj]
     rintro (z | z)
     ·exact absurd z (QJ (R7 _))
     ·exact absurd z (Sv hlS)
    refine Gp (b:=Gx w) ((Xl hh3 _ l hneI items).toS) s.heap.objs.size hSf (fun i=>ns.getD i 0) (fun i v hv=>IntsAre.int_at hi i v (by rw[R4]; exact hv)) hb (items.size - 0) 0 _ (by lia) (QW _)
     ⟨⟨_,Qn _ rfl,rfl,rfl⟩,(hl1.push _)⟩ ?hS0 ?hR
    case hS0=>exact⟨newS w,#[],0,_,Qd _ gS,⟨rfl,rfl,rfl⟩,rfl,(fun e he=>by simp at he),rfl,Bu _,[],.nil,.refl _⟩
    case hR =>
     intro s' hm hS'
     obtain⟨h',g',d',tk',os'⟩:=s'
     obtain rfl:g'=s.gens:=hm.gens
     obtain rfl:d'=s.drawn:=hm.drawn
     obtain rfl:os'=s.os:=hm.os
     refine (show Qp _ _ _ _ _ _ from Qh (show Qp _ _ (ret R8) _ _ _ from Qh ⟨rfl,h',tk',rfl,hS',fun b o hb e=>?_⟩))
     refine hm.heap b o ?_ (Qd _ (Qd _ e))
     rw[Sq,Uj,Rf]
     rintro (z | z)
     ·exact absurd z (QJ hb)
     ·exact absurd z (QJ (RQ hb))
   ·cases r₂ with
    | error e=>exact hr₂
    | ok fl₂ =>
     cases fl₂ with
     | ret r =>
      obtain⟨rfl,h',tk,rfl,hS',hk'⟩:=hr₂
      repeat (any_goals (first | assumption | wp_step))
      exact h h' tk hS' hk'
     | _=>exact hr₂.elim
  | _=>exact hr.elim
end
end L2
namespace L2
open PySem PySem.Spec PyProof.Rows
theorem uX:Manifest.owners.lookup (String.ofList ['r','o','t','a','r','e','t','i','_','t','e','s'].reverse)=some Manifest.sig_set_iterator:=by kernel_rfl
theorem bG:Slot "set_iterator" "__next__" "set_iterator.__next__" :=
 .of (owner:="set_iterator") (n:="__next__") (by rw[Vc,Tr]; kernel_rfl) (by decide+kernel) (by decide+kernel) (by decide+kernel) (by first | exact .inl (by decide+kernel) | exact .inr (by decide+kernel)) (by rw[T6]; kernel_rfl)
theorem dR:entryFor table "set_iterator.__next__" = some Uu.«set_iterator.__next__»:=entryFor_of_tree (by kernel_rfl)
theorem eE (a:Value):Wa "set_iterator.__next__" ⟨[a],[]⟩:=by
 unfold Wa
 rw[Xh (id:="set_iterator.__next__") (n:=['_','_','t','x','e','n','_','_']) (o:=['r','o','t','a','r','e','t','i','_','t','e','s']) (by kernel_rfl) uX]
 kernel_rfl
theorem iQ:Slot "set_iterator" "__iter__" "set_iterator.__iter__" :=
 .of (owner:="set_iterator") (n:="__iter__") (by rw[Vc,Tr]; kernel_rfl) (by decide+kernel) (by decide+kernel) (by decide+kernel) (by first | exact .inl (by decide+kernel) | exact .inr (by decide+kernel)) (by rw[T6]; kernel_rfl)
theorem mK:entryFor table "set_iterator.__iter__" = some Uu.«dict_keyiterator.__iter__»:=entryFor_alias (id':="dict_keyiterator.__iter__") (by kernel_rfl) rfl (by decide+kernel) (by kernel_rfl)
theorem oE (a:Value):Wa "set_iterator.__iter__" ⟨[a],[]⟩:=by
 unfold Wa
 rw[Xh (id:="set_iterator.__iter__") (n:=['_','_','r','e','t','i','_','_']) (o:=['r','o','t','a','r','e','t','i','_','t','e','s']) (by kernel_rfl) uX]
 kernel_rfl
theorem nY:entryFor table "set.__iter__" = some Uu.«frozenset.__iter__»:=entryFor_alias (id':="frozenset.__iter__") (by kernel_rfl) rfl (by decide+kernel) (by kernel_rfl)
theorem j9 {α:Type}:∀ (l:List α) (j:Nat) (h:j < l.length),(l[j]::l.eraseIdx j).Perm l
 | a::r,0,_=>.refl _
 | a::r,j+1,h=>by
  have ih:=j9 r j (Wo h)
  rw[List.getElem_cons_succ,List.eraseIdx_cons_succ]
  exact (List.Perm.swap _ _ _).trans (ih.cons a)
theorem uO {α:Type} (nx:Nat->Nat):∀ (fuel k:Nat) (left:List α) (out:Array α),left.length<=fuel->(pickOrder.go nx fuel k left out).toList.Perm (out.toList++left)
 | 0,k,left,out,h=>by
  rw[pickOrder.go]
  have e:left=[]:=Vz (by lia)
  subst e
  rw[RL]
 | fuel+1,k,left,out,h=>by
  rw[pickOrder.go]
  cases hl:left with
  | nil =>
   simp
  | cons a r =>
   have hlen:nx k % (a::r).length < (a::r).length:=Nat.mod_lt _ (by simp)
   rw[Qg hlen]
   dsimp only
   generalize nx k % (a::r).length=j at hlen ⊢
   have ih:=uO nx fuel (k+1) ((a::r).eraseIdx j) (out.push (a::r)[j]) (by rw[List.length_eraseIdx_of_lt hlen,← hl]; lia)
   refine ih.trans ?_
   rw[Array.toList_push,V9]
   refine List.Perm.append (.refl _) ?_
   show ((a::r)[j]::(a::r).eraseIdx j).Perm (a::r)
   exact j9 _ j hlen
theorem nG {α:Type} (nx:Nat->Nat) (xs:Array α):(Vo nx xs).toList.Perm xs.toList:=by
 unfold Vo
 have:=uO nx xs.size 0 xs.toList #[] (by rw[Ra]; exact Ql _)
 simpa using this
section
variable {P:QK} {w:Q3} {A:Q5} {E:Value->Qe->Prop} {s:Qe}
theorem uJ {α:Type} {Q:List α->Qe->Prop}:∀ (n:Nat) (xs:List α) (s:Qe),xs.length=n->(∀ ys d,ys.Perm xs->Q ys { s with drawn:=d })->Qp (Qy P w) A (drawOrder n xs) Q E s
 | 0,xs,s,h,hq=>by
  rw[drawOrder]
  have e:xs=[]:=Vz h
  subst e
  exact Qh (hq [] s.drawn (.refl _))
 | n+1,[],s,h,hq=>by cases h
 | n+1,x::xs,s,h,hq=>by
  rw[drawOrder]
  ·refine Qa (fun Γ p hΓ=>?_)
   show Sem.wp _ _ (.choose .order (x::xs).length .pure) _ _ _ _
   rw[Sem.wp_choose]
   refine⟨by simp,?_⟩
   rw[Sem.wp_pure]
   generalize (Qy P w).w.draws .order (s.drawn.get .order)=z
   have hlen:z % (x::xs).length < (x::xs).length:=Nat.mod_lt _ (by simp)
   generalize z % (x::xs).length=j at hlen ⊢
   show Qp _ _ _ _ _ _
   rw[Qg hlen]
   dsimp only
   refine Qa (uJ n ((x::xs).eraseIdx j) _ (by rw[List.length_eraseIdx_of_lt hlen]; rw[Qu] at h ⊢; lia) fun ys d p=>Qh ?_)
   exact hq _ d ((p.cons _).trans (j9 _ j hlen))
  ·simp
end
end L2
namespace L2
open PySem PySem.Spec PyProof.Rows
def SIt (h:Rv) (I S:Addr) (f:Value) (i n ep:Nat):Prop:=h.get? I=some { cls:=.type "set_iterator",dict:=none,data:=.fields #[f,.int i 0,.ref S,.int n 0,.int ep 0],slots:=#[] }
section
variable {P:QK} {w:Q3} {A:Q5} {E:Value->Qe->Prop} {s:Qe} {I S:Addr} {o:Tz} {es:Array (Int × Value)} {ep:Nat} {t:Uy}
theorem rM {sl:Int} {tk:Tok} {i:Nat} {Q:Option Value->Qe->Prop} {r:Option (Value × Nat)} (hh:A.handled=none) (hI:SIt s.heap I S (.int sl tk) i es.size ep) (hS:s.heap.get? S=some o) (hd:o.data = .set es ep t) (hf:t.fits es.size=true)
  (hn:∀ (A:Q5) (E:Value->Qe->Prop) (Q:Option (Value × Nat)->Qe->Prop),Q r s->Qp (Qy P w) A (Yo S sl.toNat i ep) Q E s)
  (hs:∀ x j h',r=some (x,j)->SIt h' I S (.int (j:Nat) 0) (i+1) es.size ep->S9 I s.heap h'->Q (some x) { s with heap:=h' }) (he:∀ h',r=none->Heap.ExtBut I s.heap h'->Q none { s with heap:=h' }):Qp (Qy P w) A (Tt (.ref I)) Q E s:=by
 have hT:s.TypeIs (.ref I) "set_iterator":=⟨_,hI,rfl⟩
 unfold Tt
 refine Qa (Up (Rx (name:=Tf "__next__") hT bG (Rm bG hT dR ?_ (eE _))))
 refine (show Qp _ _ (fieldsOf (.ref I) >>= _) _ _ s from Qa (wpAny_fieldsOf hI rfl ?_))
 refine (show Qp _ _ (setEntries S >>= _) _ _ s from Qa (VF hS hd hf ?_))
 rw[if_neg (by simp)]
 refine (show Qp _ _ (Yo S sl.toNat (i:Int).toNat (ep:Int).toNat >>= _) _ _ s from Qa ?_)
 rw[Q8,Q8]
 refine hn _ _ _ ?_
 cases hr:r with
 | some xj =>
  obtain⟨x,j⟩:=xj
  dsimp only
  refine Qa (SM hI rfl (by simp) ?_)
  have g1:=Q7 (Vs (·.setIfInBounds 0 (Sd (j:Int)))) hI rfl
  refine Qa (SM g1 rfl (by simp) ?_)
  have g2:=Q7 (Vs (·.setIfInBounds 1 (Sd ((i:Int)+1)))) g1 rfl
  refine Qh ⟨x,rfl,Qh (hs x j _ hr ?_ ((Ry ..).trans (Ry ..)))⟩
  exact g2
 | none =>
  dsimp only
  refine Qa (SM hI rfl (by simp) ?_)
  refine (show Qp _ _ (XR (.type "StopIteration") [] >>= _) _ _ _ from Qa ?_)
  simp only[XR,newTuple]
  refine Qa (QV ?_ (by size_fits))
  refine Qa (m:=T7 _ _) (Tc (a:=R8) (by first | rfl | (simp only[T7]; rfl)) (QV ?_ (by size_fits)))
  simp only[raiseNew]
  refine Qa (Xg ?_)
  first | rw[show A.in1.handled=none from hh] | rw[hh]
  refine Qa (Qh (X7 ?_))
  refine Qa (UL (T:="StopIteration") (b:=true) ⟨_,Qn _ rfl,rfl⟩ WQ (Qh ?_))
  exact he _ hr (((Ry ..).extBut.push _).push _)
end
end L2
namespace L2
open PySem PySem.Spec PyProof.Rows
section
variable {P:QK} {w:Q3} {A:Q5} {E:Value->Qe->Prop} {s:Qe} {I S:Addr} {o:Tz} {es:Array (Int × Value)} {ep:Nat} {t:Uy}
theorem tR {sl i:Nat} {Q:Option (Value × Nat)->Qe->Prop} (hb:w.params.followText "set-order" = true) (hS:s.heap.get? S=some o) (hd:o.data = .set es ep t) (hf:t.fits es.size=true)
  (h:Q (((Vo (w.params.setOrder S ep) es)[i]?).map fun e=>(e.2,sl)) s):Qp (Qy P w) A (Yo S sl i ep) Q E s:=by
 unfold Yo
 refine Qa (Ur hS hd hf ?_)
 dsimp only
 unfold setsByText
 refine Qa (Qa (T5 (Qh ?_)))
 rw[if_pos (show (Qy P w).w.params.followText "set-order" = true from hb),if_neg (by simp)]
 unfold setWalk
 refine Qa (Qa (Ur hS hd hf ?_))
 dsimp only
 unfold setsByText
 refine Qa (Qa (T5 (Qh ?_)))
 rw[if_pos (show (Qy P w).w.params.followText "set-order" = true from hb)]
 exact Qa (T5 (Qh (Qh h)))
theorem qe {sl i:Nat} {Q:Option (Value × Nat)->Qe->Prop} (hb:w.params.followText "set-order" = false) (hS:s.heap.get? S=some o) (hd:o.data = .set es ep t) (hf:t.fits es.size=true) (hl:t.led=true)
  (hp:t.plain=true∨es.size<=1) (hi:RX t.place sl=i)
  (h:Q (match es[i]?,t.place[i]? with | some (_,x),some j=>some (x,j+1) | _,_=>none) s):Qp (Qy P w) A (Yo S sl i ep) Q E s:=by
 unfold Yo
 refine Qa (Ur hS hd hf ?_)
 dsimp only
 unfold setsByText
 refine Qa (Qa (T5 (Qh ?_)))
 rw[if_neg (show ¬ (Qy P w).w.params.followText "set-order" = true by rw[show (Qy P w).w.params.followText "set-order" = false from hb]; exact Qk)]
 have hdr:(!t.plain && decide (es.size > 1))=false:=by
  rcases hp with q | q
  ·rw[q]
   rfl
  ·rw[decide_eq_false (by lia),Bool.and_false]
 refine Wu (show decide ((!t.plain && decide (es.size > 1))=true)=false from decide_eq_false (by rw[hdr]; exact Qk)) ?_
 refine Qa (show Qp _ _ (if (!t.led && !es.isEmpty)=true then unsupported "set:maker-not-led" else pure ()) _ _ _ from ?_)
 rw[hl]
 refine Wu (decide_eq_false (by simp)) (Qh (Qh ?_))
 rw[hi]
 exact h
theorem qL {f:Value} {i n:Nat} {Q:Value->Qe->Prop} (hI:SIt s.heap I S f i n ep) (h:Q (.ref I) s):Qp (Qy P w) A (WM (.ref I)) Q E s:=by
 have hT:s.TypeIs (.ref I) "set_iterator":=⟨_,hI,rfl⟩
 refine Xr hT iQ (Rm iQ hT mK (show Qp _ _ (ret (.ref I)) _ _ s from ?_) (oE _))
 exact Qh ⟨_,rfl,"set_iterator",_,hT,bG.lookup,h⟩
theorem Dj (hh:A.handled=none) (hne:S≠I) (hb:w.params.followText "set-order" = true) (hd:o.data = .set es ep t) (hf:t.fits es.size=true) :
  Walks P w A I [I,S] [I] es.size (fun i v=>((Vo (w.params.setOrder S ep) es).toList.map (·.2))[i]? = some v) (fun i h=>(∃ (sl:Nat) (tk:Tok),SIt h I S (.int (sl:Int) tk) i es.size ep)/\h.get? S=some o) where
 sub:=fun b hb=>by simp at hb; simp [hb]
 frame:=fun i h h' st hk=>by
  obtain⟨⟨sl,tk,hI⟩,hS⟩:=st
  exact⟨⟨sl,tk,hk I (by simp) _ hI⟩,hk S (by simp) _ hS⟩
 item:=fun i s Q E hi st hQ=>by
  obtain⟨⟨sl,tk,hI⟩,hS⟩:=st
  have pl:(Vo (w.params.setOrder S ep) es).size=es.size:=by
   have:=(nG (w.params.setOrder S ep) es).length_eq
   simpa using this
  have hx:(Vo (w.params.setOrder S ep) es)[i]? = some ((Vo (w.params.setOrder S ep) es)[i]'(by lia)):=QD _
  generalize (Vo (w.params.setOrder S ep) es)[i]'(by lia)=x at hx
  refine rM (r:=some (x.2,sl)) hh hI hS hd hf (fun A E Q q=>?_) (fun v j h' hr hI' sb=>?_) (fun h' hr _=>by cases hr)
  ·refine tR hb hS hd hf ?_
   rw[Q8,hx]
   exact q
  ·cases hr
   refine hQ _ h' s.toks ?_ ⟨⟨sl,0,hI'⟩,sb.2 S hne▸hS⟩ fun b o' hb' e=>?_
   ·rw[QH,R4,hx]
    rfl
   ·rw[sb.2 b (fun z=>hb' (by rw[z]; exact List.mem_singleton.mpr rfl))]
    exact e
 done:=fun s Q E st hQ=>by
  obtain⟨⟨sl,tk,hI⟩,hS⟩:=st
  have pl:(Vo (w.params.setOrder S ep) es).size=es.size:=by
   have:=(nG (w.params.setOrder S ep) es).length_eq
   simpa using this
  refine rM (r:=none) hh hI hS hd hf (fun A E Q q=>?_) (fun v j h' hr=>by cases hr) (fun h' _ hx=>?_)
  ·refine tR hb hS hd hf ?_
   rw[Uk (by lia)]
   exact q
  ·exact hQ h' s.toks fun b o' hb' e=>hx b o' (fun z=>hb' (by rw[z]; exact List.mem_singleton.mpr rfl)) e
 self:=fun i s Q E st hQ=>by
  obtain⟨⟨sl,tk,hI⟩,_⟩:=st
  exact qL hI hQ
def slotAt (pl:Array Nat):Nat->Nat
 | 0=>0
 | i+1=>pl.getD i 0+1
theorem lZ {pl:Array Nat} (h:Ris pl):∀ {i:Nat},i<=pl.size->RX pl (slotAt pl i)=i
 | 0,_=>zP h
 | i+1,hi=>by
  have e:pl[i]? = some (pl.getD i 0):=by
   rw[QD (by lia),Th,QD (by lia)]
   rfl
  exact below_at h e
theorem zR (hh:A.handled=none) (hne:S≠I) (hb:w.params.followText "set-order" = false) (hd:o.data = .set es ep t) (hf:t.fits es.size=true) (hl:t.led=true) (hp:t.plain=true∨es.size<=1) (hr:Ris t.place) :
  Walks P w A I [I,S] [I] es.size (fun i v=>(es.toList.map (·.2))[i]? = some v) (fun i h=>(∃ tk:Tok,SIt h I S (.int (slotAt t.place i:Nat) tk) i es.size ep)/\h.get? S=some o) where
 sub:=fun b hb=>by simp at hb; simp [hb]
 frame:=fun i h h' st hk=>by
  obtain⟨⟨tk,hI⟩,hS⟩:=st
  exact⟨⟨tk,hk I (by simp) _ hI⟩,hk S (by simp) _ hS⟩
 item:=fun i s Q E hi st hQ=>by
  obtain⟨⟨tk,hI⟩,hS⟩:=st
  have ps:t.place.size=es.size:=by
   simp only[SetTable.fits,Rn,beq_iff_eq] at hf
   exact hf.1
  have hx:es[i]? = some es[i]:=QD hi
  have hj:t.place[i]? = some (t.place.getD i 0):=by
   rw[QD (by lia),Th,QD (by lia)]
   rfl
  generalize es[i]=x at hx
  obtain⟨k,v⟩:=x
  refine rM (r:=some (v,t.place.getD i 0+1)) hh hI hS hd hf (fun A E Q q=>?_) (fun u j h' hr hI' sb=>?_) (fun h' hr _=>by cases hr)
  ·refine qe hb hS hd hf hl hp (i:=i) (by rw[Q8]; exact lZ hr (by lia)) ?_
   rw[hx,hj]
   exact q
  ·cases hr
   refine hQ _ h' s.toks ?_ ⟨⟨0,hI'⟩,sb.2 S hne▸hS⟩ fun b o' hb' e=>?_
   ·rw[QH,R4,hx]
    rfl
   ·rw[sb.2 b (fun z=>hb' (by rw[z]; exact List.mem_singleton.mpr rfl))]
    exact e
 done:=fun s Q E st hQ=>by
  obtain⟨⟨tk,hI⟩,hS⟩:=st
  have ps:t.place.size=es.size:=by
   simp only[SetTable.fits,Rn,beq_iff_eq] at hf
   exact hf.1
  refine rM (r:=none) hh hI hS hd hf (fun A E Q q=>?_) (fun v j h' hr=>by cases hr) (fun h' _ hx=>?_)
  ·refine qe hb hS hd hf hl hp (i:=es.size) (by rw[Q8]; exact lZ hr (by lia)) ?_
   rw[Uk (Ql _)]
   exact q
  ·exact hQ h' s.toks fun b o' hb' e=>hx b o' (fun z=>hb' (by rw[z]; exact List.mem_singleton.mpr rfl)) e
 self:=fun i s Q E st hQ=>by
  obtain⟨⟨tk,hI⟩,_⟩:=st
  exact qL hI hQ
end
end L2
namespace L2
open PySem PySem.Spec PyProof.Rows
section
variable {P:QK} {w:Q3} {A:Q5} {E:Value->Qe->Prop} {s:Qe} {I S T:Addr} {o:Tz} {es:Array (Int × Value)} {ep:Nat} {t:Uy}
def c7 (pl:List Nat):List Value:=pl.map fun j:Nat=>Sd (j:Int)
theorem zO {pl:List Nat} (hh:A.handled=none) (hne:S≠I) (hnt:T≠I) (hd:o.data = .set es ep t) (hf:t.fits es.size=true) (hp:pl.Perm (Rk es.size)) :
  Walks P w A I [I,S,T] [I] es.size (fun i v=>(pl.map fun j=>(es.getD j (0,.none)).2)[i]? = some v) (fun i h=>SIt h I S (.ref T) i es.size ep/\h.get? S=some o/\h.IsTuple T (c7 pl).toArray) where
 sub:=fun b hb=>by simp at hb; simp [hb]
 frame:=fun i h h' st hk=>by
  obtain⟨hI,hS,o',ho',r⟩:=st
  exact⟨hk I (by simp) _ hI,hk S (by simp) _ hS,o',hk T (by simp) _ ho',r⟩
 item:=fun i s Q E hi st hQ=>by
  obtain⟨hI,hS,hT⟩:=st
  have lp:pl.length=es.size:=by rw[hp.length_eq,Ro]
  have hT0:s.TypeIs (.ref I) "set_iterator":=⟨_,hI,rfl⟩
  obtain⟨j,hj⟩:∃ j,pl[i]? = some j:=⟨pl[i],Qg (by lia)⟩
  have hj2:j < es.size:=List.mem_range.mp (hp.mem_iff.mp (QC hj))
  have hx:es[j]? = some (es.getD j (0,.none)):=by
   rw[QD hj2,Th,QD hj2]
   rfl
  obtain⟨ot,hot,hct,nt,hdt⟩:=id hT
  unfold Tt
  refine Qa (Up (Rx (name:=Tf "__next__") hT0 bG (Rm bG hT0 dR ?_ (eE _))))
  refine (show Qp _ _ (fieldsOf (.ref I) >>= _) _ _ s from Qa (wpAny_fieldsOf hI rfl ?_))
  refine (show Qp _ _ (setEntries S >>= _) _ _ s from Qa (VF hS hd hf ?_))
  rw[if_neg (by simp)]
  refine (show Qp _ _ (Wf (.ref T) >>= _) _ _ s from Qa (R6 hot hdt ?_))
  have hpl:(c7 pl).toArray[(i:Int).toNat]? = some (.int (j:Int) 0):=by
   rw[Q8,WD]
   show (pl.map fun j:Nat=>Sd (j:Int))[i]? = _
   rw[QH,hj]
   rfl
  dsimp only
  rw[hpl]
  dsimp only
  refine Qa (show Qp _ _ (setNextDrawn S (j:Int).toNat (ep:Int).toNat) _ _ _ from ?_)
  unfold setNextDrawn
  refine Qa (Ur hS hd hf ?_)
  dsimp only
  rw[Q8,Q8,if_neg (by simp),hx]
  refine Qh (Qa (SM hI rfl (by simp) ?_))
  have g1:=Q7 (Vs (·.setIfInBounds 1 (Sd ((i:Int)+1)))) hI rfl
  refine Qh ⟨_,rfl,Qh (hQ _ _ s.toks ?_ ⟨g1,?_,?_⟩ fun b o' hb' e=>?_)⟩
  ·rw[QH,hj]
   rfl
  ·rw[Q0 _ _ (Uh hne)]
   exact hS
  ·exact⟨ot,by rw[Q0 _ _ (Uh hnt)]; exact hot,hct,nt,hdt⟩
  ·rw[Q0 _ _ (fun z:I=b=>hb' (by rw[z]; exact List.mem_singleton.mpr rfl))]
   exact e
 done:=fun s Q E st hQ=>by
  obtain⟨hI,hS,hT⟩:=st
  have lp:pl.length=es.size:=by rw[hp.length_eq,Ro]
  have hT0:s.TypeIs (.ref I) "set_iterator":=⟨_,hI,rfl⟩
  obtain⟨ot,hot,hct,nt,hdt⟩:=id hT
  unfold Tt
  refine Qa (Up (Rx (name:=Tf "__next__") hT0 bG (Rm bG hT0 dR ?_ (eE _))))
  refine (show Qp _ _ (fieldsOf (.ref I) >>= _) _ _ s from Qa (wpAny_fieldsOf hI rfl ?_))
  refine (show Qp _ _ (setEntries S >>= _) _ _ s from Qa (VF hS hd hf ?_))
  rw[if_neg (by simp)]
  refine (show Qp _ _ (Wf (.ref T) >>= _) _ _ s from Qa (R6 hot hdt ?_))
  have hpl:(c7 pl).toArray[(es.size:Int).toNat]? = none:=by
   rw[Q8,WD]
   show (pl.map fun j:Nat=>Sd (j:Int))[es.size]? = _
   rw[QH,Ru (by lia)]
   rfl
  dsimp only
  rw[hpl]
  dsimp only
  refine Qa (SM hI rfl (by simp) ?_)
  have g1:=Q7 (Vs (·.setIfInBounds 0 (Sd 0))) hI rfl
  refine Qa (SM g1 rfl (by simp) ?_)
  refine (show Qp _ _ (XR (.type "StopIteration") [] >>= _) _ _ _ from Qa ?_)
  simp only[XR,newTuple]
  refine Qa (QV ?_ (by size_fits))
  refine Qa (m:=T7 _ _) (Tc (a:=R8) (by first | rfl | (simp only[T7]; rfl)) (QV ?_ (by size_fits)))
  simp only[raiseNew]
  refine Qa (Xg ?_)
  first | rw[show A.in1.handled=none from hh] | rw[hh]
  refine Qa (Qh (X7 ?_))
  refine Qa (UL (T:="StopIteration") (b:=true) ⟨_,Qn _ rfl,rfl⟩ WQ (Qh ?_))
  refine hQ _ s.toks fun b o' hb' e=>?_
  have hbI:b≠I:=fun z=>hb' (by rw[z]; exact List.mem_singleton.mpr rfl)
  exact ((((Ry ..).trans (Ry ..)).extBut.push _).push _) b o' hbI e
 self:=fun i s Q E st hQ=>qL st.1 hQ
end
end L2
namespace L2
open PySem PySem.Spec PyProof.Rows
section
variable {P:QK} {w:Q3} {A:Q5} {E:Value->Qe->Prop} {s:Qe} {S:Addr}
theorem Fj {Q:Bool->Qe->Prop} (hT:s.TypeIs (.ref S) "set") (h:Q false s):Qp (Qy P w) A (Ys (.ref S)) Q E s:=by
 unfold Ys; refine Qa (Wt hT PySem.F.slot_set_len.lookup ?_)
 generalize hid:("set.__len__" : String)=id0
 wp_delta
 rw[show splitId id0=some ("set","__len__") from by subst hid; decide+kernel]
 subst hid
 refine Qa (UL (T:="set") (b:=true) hT (by rw[T6]; kernel_rfl) ?_)
 refine Yd (fun z=>absurd z (by decide)) (fun _=>Yd (fun _=>?_) (fun z=>absurd (by decide+kernel) z))
 exact Qa (Xq hT (Qh h))
theorem Hj {b:Bool} {ks:List Int} {Q:Value->Qe->Prop} (hh:A.handled=none) (hb:b=Gx w) (hS:lK P w b s.heap S ks) (hz:ks.length<=sizeLine)
  (h:∀ (I:Addr) (fp:List Addr) (n:Nat) (vs:List Value) (ns:List Int) (St:Nat->Rv->Prop) (s':Qe),Walks P w A I fp [I] n (fun i v=>vs[i]? = some v) St->St 0 s'.heap->Rz vs ns->ns.Perm ks->vs.length=n->(∀ x∈fp,x=S∨s.heap.objs.size<=x)->s.heap.objs.size<=I →
   s'.os=s.os->s'.gens=s.gens->(∀ b o,s.heap.get? b=some o->s'.heap.get? b=some o)->Q (.ref I) s'):Qp (Qy P w) A (WM (.ref S)) Q E s:=by
 obtain⟨o,es,ep,t,ho,hx,hd,hel,hf,tk,ns,hi,hp⟩:=hS
 have hT:s.TypeIs (.ref S) "set":=⟨o,ho,hx.1⟩
 have hlt:S < s.heap.objs.size:=Qt ho
 refine Xr hT PySem.F.slot_set_iter (Rm PySem.F.slot_set_iter hT nY ?_ (PySem.F.args_set_iter_1 _))
 refine (show Qp _ _ (Builtin.Frozenset.sizeOf S >>= _) _ _ s from ?_)
 unfold Builtin.Frozenset.sizeOf
 refine Qa (Qa (VF ho hd hf (Qh ?_)))
 unfold setDrawn setsByText
 refine Qa (Qa (Ur ho hd hf ?_))
 dsimp only
 refine Qa (Qa (T5 (Qh (Qh ?_))))
 have hps:t.place.size=es.size:=by
  simp only[SetTable.fits,Rn,beq_iff_eq] at hf
  exact hf.1
 have hlen:(es.toList.map (·.2)).length=es.size:=by rw[Qc,Ra]
 have hez:es.size<=sizeLine:=by
  have h1:=hi.length
  have h2:=hp.length_eq
  lia
 have start:∀ (vs:List Value) (ns':List Int) (St:Nat->Rv->Prop),Walks P w A s.heap.objs.size [s.heap.objs.size,S] [s.heap.objs.size] es.size (fun i v=>vs[i]? = some v) St->(∀ h,SIt h s.heap.objs.size S (.int (0:Nat) 0) 0 es.size ep->h.get? S=some o->St 0 h) →
   Rz vs ns'->ns'.Perm ks->vs.length=es.size->Qp (Qy P w) A.in1 (do
    let first ← pure (Sd 0)
    let e ← setEpoch S
    let r ← newFields "set_iterator" [first,Sd 0,Rh S,Sd (es.size:Int),Sd (e:Int)]
    ret r) (fun fin s'=>∃ v,fin=Fin.done (Flow.ret v)/\∃ T' r,s'.TypeIs v T'/\typeLookup (TV T') (Tf "__next__")=pure (some r)/\Q v s') E s:=fun vs ns' St W hst hi' hp' hl'=>by
  refine Qa (Qh (Qa (wpAny_setEpoch_of ho hd hf (Qa (QV (Qh ?_))))))
  have g:(s.heap.push { cls:=.type "set_iterator",data:=.fields [Sd 0,Sd 0,Rh S,Sd (es.size:Int),Sd (ep:Int)].toArray }).get? s.heap.objs.size=some { cls:=.type "set_iterator",data:=.fields [Sd 0,Sd 0,Rh S,Sd (es.size:Int),Sd (ep:Int)].toArray }:=Qn _ rfl
  refine⟨_,rfl,"set_iterator",_,⟨_,g,rfl⟩,bG.lookup,?_⟩
  refine h s.heap.objs.size [s.heap.objs.size,S] es.size vs ns' St _ W (hst _ g (Qd _ ho)) hi' hp' hl' (fun x hx'=>?_) (Ql _) rfl rfl fun b' o' e=>Qd _ e
  rcases List.mem_cons.mp hx' with rfl | hx'
  ·exact .inr (Ql _)
  ·exact .inl (List.mem_singleton.mp hx')
 have hne:S≠s.heap.objs.size:=QJ hlt
 cases hB:w.params.followText "set-order" with
 | true =>
  refine Wu (decide_eq_false (show ¬ (!w.params.followText "set-order" && (!t.plain && decide (es.size > 1)))=true by rw[hB]; exact Qk)) ?_
  have pp:=nG (w.params.setOrder S ep) es
  obtain⟨ms,h1,h2⟩:=eV (pp.symm.map (·.2)) hi
  exact start _ ms _ (Dj hh hne hB hd hf) (fun h' q1 q2=>⟨⟨0,0,q1⟩,q2⟩) h1 (h2.trans hp) (by rw[Qc,pp.length_eq,Ra])
 | false =>
  have hled:t.led=true:=by
   rw[tk.led,hb]
   unfold Gx
   rw[hB]
   rfl
  cases hD:(!t.plain && decide (es.size > 1)) with
  | false =>
   refine Wu (decide_eq_false (show ¬ (!w.params.followText "set-order" && (!t.plain && decide (es.size > 1)))=true by rw[hD,Bool.and_false]; exact Qk)) ?_
   have hpl:t.plain=true∨es.size<=1:=by
    rw[Bool.and_eq_false_iff] at hD
    rcases hD with q | q
    ·exact .inl (by simpa using q)
    ·exact .inr (by have:=of_decide_eq_false q; lia)
   have hris:Ris t.place:=by
    rcases hpl with q | q
    ·exact tk.ris q
    ·unfold Ris
     have hl1:t.place.toList.length<=1:=by rw[Ra]; lia
     generalize t.place.toList=l at hl1
     match l,hl1 with
     | [],_=>exact XJ
     | [x],_=>exact List.pairwise_singleton _ _
   exact start _ ns _ (zR hh hne hB hd hf hled hpl hris) (fun h' q1 q2=>⟨⟨0,q1⟩,q2⟩) hi hp hlen
  | true =>
   refine wpAny_ite_true (decide_eq_true (show (!w.params.followText "set-order" && (!t.plain && decide (es.size > 1)))=true by rw[hD,hB]; rfl)) ?_
   refine Qa (uJ es.size (Rk es.size) s Ro fun pl d pp=>?_)
   simp only[newTuple]
   have lp:pl.length=es.size:=by rw[pp.length_eq,Ro]
   refine Qa (QV ?_ (show (c7 pl).toArray.size<=sizeLine by unfold c7; rw[Qz,Qc]; lia))
   have sz1:(s.heap.push { cls:=.type "tuple",data:=.seq (c7 pl).toArray }).objs.size=s.heap.objs.size+1:=Rf _ _
   have gT:(s.heap.push { cls:=.type "tuple",data:=.seq (c7 pl).toArray }).get? s.heap.objs.size=some { cls:=.type "tuple",data:=.seq (c7 pl).toArray }:=Qn _ rfl
   have ho1:(s.heap.push { cls:=.type "tuple",data:=.seq (c7 pl).toArray }).get? S=some o:=Qd _ ho
   refine Qa (wpAny_setEpoch_of (o:=o) (es:=es) (t:=t) ho1 hd hf (Qa (QV (Qh ?_))))
   have g:((s.heap.push { cls:=.type "tuple",data:=.seq (c7 pl).toArray }).push { cls:=.type "set_iterator",data:=.fields [Rh s.heap.objs.size,Sd 0,Rh S,Sd (es.size:Int),Sd (ep:Int)].toArray }).get? (s.heap.push { cls:=.type "tuple",data:=.seq (c7 pl).toArray }).objs.size=some { cls:=.type "set_iterator",data:=.fields [Rh s.heap.objs.size,Sd 0,Rh S,Sd (es.size:Int),Sd (ep:Int)].toArray }:=Qn _ rfl
   refine⟨_,rfl,"set_iterator",_,⟨_,g,rfl⟩,bG.lookup,?_⟩
   have hne1:S≠(s.heap.push { cls:=.type "tuple",data:=.seq (c7 pl).toArray }).objs.size:=by
    rw[sz1]
    exact QJ (RQ hlt)
   have hne2:s.heap.objs.size≠(s.heap.push { cls:=.type "tuple",data:=.seq (c7 pl).toArray }).objs.size:=by
    rw[sz1]
    exact QJ (R7 _)
   have hv:(pl.map fun j=>(es.getD j (0,.none)).2).Perm (es.toList.map (·.2)):=by
    refine (pp.map _).trans ?_
    have e:(Rk es.size).map (fun j=>(es.getD j (0,R8)).2)=es.toList.map (·.2):=by
     apply List.ext_getElem?
     intro i
     have ea:es.toList[i]? = es[i]?:=R4
     rw[QH,QH,ea]
     by_cases hi':i < es.size
     ·rw[T4 hi',QD hi']
      simp [Th,QD hi']
     ·have er:(Rk es.size)[i]? = none:=Ru (by rw[Ro]; lia)
      rw[er,Uk (by lia)]
      rfl
    rw[e]
   have le1:s.heap.objs.size<=(s.heap.push { cls:=.type "tuple",data:=.seq (c7 pl).toArray }).objs.size:=by
    rw[sz1]
    exact S5 _
   obtain⟨ms,h1,h2⟩:=eV hv.symm hi
   refine h _ [(s.heap.push { cls:=.type "tuple",data:=.seq (c7 pl).toArray }).objs.size,S,s.heap.objs.size] es.size _ ms _ _ (zO (T:=s.heap.objs.size) hh hne1 hne2 hd hf pp) ⟨g,Qd _ ho1,_,Qd _ gT,rfl,0,rfl⟩ h1 (h2.trans hp) (by rw[Qc]; exact lp) (fun x hx'=>?_) le1 rfl rfl fun b' o' e=>Qd _ (Qd _ e)
   rcases List.mem_cons.mp hx' with rfl | hx'
   ·exact .inr le1
   ·rcases List.mem_cons.mp hx' with rfl | hx'
    ·exact .inl rfl
    ·exact .inr (by rw[List.mem_singleton.mp hx']; exact Ql _)
theorem vL {ks:List Int} {Q:List Value->Qe->Prop} (hh:A.handled=none) (hS:lK P w (Gx w) s.heap S ks) (hz:ks.length<=sizeLine)
  (h:∀ (vs:List Value) (ns:List Int) (s':Qe),Rz vs ns->ns.Perm ks->s.heap.objs.size<=s'.heap.objs.size->s'.os=s.os->s'.gens=s.gens->(∀ b o,s.heap.get? b=some o->s'.heap.get? b=some o)->Q vs s'):Qp (Qy P w) A (collect (.ref S)) Q E s:=by
 obtain⟨o,es,ep,t,ho,hx,_⟩:=id hS
 have hlt:S < s.heap.objs.size:=Qt ho
 have hSl:s.heap.objs.size≠S:=Sv hlt
 unfold collect
 refine Qa (wpAny_runValue (Ss PySem.F.entry_proto_collect ?_))
 rw[Sx PySem.F.plain_proto_collect _]
 refine (show Qp _ A.in1 (Yp [] >>= fun l=>again (.builtin "list.__iadd__" ⟨[l,.ref S],[]⟩)) _ _ s from Qa (QV ?_))
 refine Qh ⟨TJ PySem.F.plain_list_iadd _,Ss PySem.F.entry_list_iadd ?_⟩
 rw[Sx PySem.F.plain_list_iadd _]
 generalize hN:s.heap.push { cls:=.type "list",data:=.seq ([]:List Value).toArray }=h1
 have gL:h1.get? s.heap.objs.size=some { cls:=.type "list",data:=.seq ([]:List Value).toArray }:=by rw[← hN]; exact Qn _ rfl
 have k1:∀ b o,s.heap.get? b=some o->h1.get? b=some o:=fun b o e=>by rw[← hN]; exact Qd _ e
 have sz1:h1.objs.size=s.heap.objs.size+1:=by rw[← hN]; exact Rf _ _
 have hT:Shared.TypeIs { s with heap:=h1 } (.ref S) "set":=⟨o,k1 _ _ ho,hx.1⟩
 refine (show Qp _ A.in1 (Ut (.ref s.heap.objs.size) (.ref S) (.ref s.heap.objs.size)) _ _ { s with heap:=h1 } from ?_)
 unfold Ut; refine Qa (Xq hT ?_)
 have q1:Builtin.List.listSameRef (.ref s.heap.objs.size) (.ref S)=false:=by simp [Builtin.List.listSameRef,hSl]
 have q2:(TV "set" == TV "list")=false:=by decide
 have q3:(TV "set" == TV "tuple")=false:=by decide
 simp only[q1,q2,q3,Bool.or_false,Bool.false_eq_true,if_false]
 refine Qa (Hj (s:={ s with heap:=h1 }) hh rfl (j7 (fun o e=>k1 S o e) hS) hz fun I fp n vs ns St s2 W st hi hp hl hfp hI os2 gs2 k2=>?_)
 have gL2:=k2 _ _ gL
 have hTs:s2.TypeIs (.ref S) "set":=⟨o,k2 _ _ (k1 _ _ ho),hx.1⟩
 have hLf:s.heap.objs.size ∉ fp:=fun z=>by
  rcases hfp _ z with q | q
  ·exact hSl q
  ·have q':h1.objs.size<=s.heap.objs.size:=q
   rw[sz1] at q'
   exact absurd q' (Nat.not_succ_le_self _)
 have hz':n<=sizeLine:=by
  have e1:=hi.length
  have e2:=hp.length_eq
  lia
 have key:∀ (R:WW->Qe->Prop),(∀ (s':Qe) (c':Nat),s'.heap.get? s.heap.objs.size=some { cls:=.type "list",dict:=none,data:=.seq vs.toArray c',slots:=#[] }->s'.os=s.os->s'.gens=s.gens->(∀ b o,s.heap.get? b=some o->s'.heap.get? b=some o)->R (.ok (.ret (.ref s.heap.objs.size))) s') →
   ∀ (h':Rv) (c tk:Nat),St 0 h'->(∀ b o,b≠s.heap.objs.size->s2.heap.get? b=some o->h'.get? b=some o)->h'.get? s.heap.objs.size=some { cls:=.type "list",data:=.seq #[] c } →
   R5 (Qy P w) A (.builtin "list.extend.loop" ⟨[.ref s.heap.objs.size,.ref I,.ref s.heap.objs.size],[]⟩) R { s2 with heap:=h',toks:=tk }:=fun R hR h' c tk st' kp gl=>by
  refine codeAny_extend_loopS W.toS hz' s.heap.objs.size hLf _ n 0 _ #[] c rfl (QW _) st' gl (ItemsOf.nil _) fun s' acc' c' hm gL' hacc=>?_
  have eacc:acc'=vs.toArray:=by
   apply Array.ext_getElem?
   intro j
   have ev:vs.toArray[j]? = vs[j]?:=WD
   rw[ev]
   by_cases hj:j < acc'.size
   ·have e:=hacc.2 j acc'[j] (QD hj)
    rw[QD hj]
    exact e.symm
   ·rw[Uk (by lia),Ru (by have:=hacc.1; lia)]
  rw[eacc] at gL'
  refine hR s' c' gL' (hm.os.trans os2) (hm.gens.trans gs2) fun b o' e=>?_
  have hbl:b < s.heap.objs.size:=Qt e
  refine hm.heap b o' ?_ (kp b o' (QJ hbl) (k2 _ _ (k1 _ _ e)))
  rw[Sq,Uj]
  rintro (z | z)
  ·exact absurd z (QJ hbl)
  ·have q:h1.objs.size<=I:=hI
   rw[sz1,← z] at q
   exact absurd (Qs hbl (Nat.le_of_succ_le q)) (RG _)
 refine Qa (R9 (Fj hTs ?_))
 have fin:∀ (s':Qe) (c':Nat),s'.heap.get? s.heap.objs.size=some { cls:=.type "list",dict:=none,data:=.seq vs.toArray c',slots:=#[] }->s'.os=s.os->s'.gens=s.gens->(∀ b o,s.heap.get? b=some o->s'.heap.get? b=some o) →
   Qp (Qy P w) A (load s.heap.objs.size >>= fun o=>match o.data with | .seq xs _=>pure xs.toList | _=>unsupported "internal:collect") Q E s':=fun s' c' g e1 e2 e3=>Qa (wpAny_load g (Qh (h vs ns s' hi hp (Tg (Qt g)) e1 e2 e3)))
 refine Yd (fun _=>?_) (fun _=>Qh ⟨TJ PySem.F.plain_extend_loop _,key _ (fun s' c' g e1 e2 e3=>fin s' c' g e1 e2 e3) s2.heap _ s2.toks st (fun b o _ e=>e) gL2⟩)
 refine Qa (Uv (Qa (show Qp _ _ (updateSeq s.heap.objs.size (·.push .none) >>= fun _=>updateSeq s.heap.objs.size (·.pop)) _ _ _ from ?_)))
 refine Qa (VB gL2 rfl ?_)
 have g3:=Q7 (Ug (·.push R8)) gL2 rfl
 refine VB (hz:=by seq_fits) g3 rfl ?_
 have g4:=Q7 (Ug (·.pop)) g3 rfl
 have oth:∀ b o',b≠s.heap.objs.size->s2.heap.get? b=some o'->((s2.heap.update s.heap.objs.size (Ug (·.push R8))).update s.heap.objs.size (Ug (·.pop))).get? b=some o':=fun b o' hb e=>by
  rw[Q0 _ _ (Uh hb),Q0 _ _ (Uh hb)]
  exact e
 exact Qh ⟨TJ PySem.F.plain_extend_loop _,key _ (fun s' c' g e1 e2 e3=>fin s' c' g e1 e2 e3) _ _ s2.toks (W.frame 0 _ _ st fun b hb o' e=>oth b o' (fun z=>hLf (by rw[← z]; exact hb)) e) oth g4⟩
end
end L2
namespace L2
open PySem PySem.Spec PyProof.Rows
section
variable {P:QK} {w:Q3} {A:Q5} {E:Value->Qe->Prop} {s:Qe} {S:Addr}
theorem Al {ks:List Int} {Q:Value->Qe->Prop} (hh:A.handled=none) (hS:lK P w (Gx w) s.heap S ks) (h64:ks.length < 64)
  (h:∀ (l:Addr) (vs:List Value) (ns:List Int) (c:Nat) (s':Qe),Rz vs ns->ns.Perm ks->ns.Pairwise (·<=·)->s'.heap.get? l=some { cls:=.type "list",data:=.seq vs.toArray c }->s.heap.objs.size<=l->s'.os=s.os->s'.gens=s.gens →
   (∀ b o,s.heap.get? b=some o->s'.heap.get? b=some o)->Q (.ref l) s'):Qp (Qy P w) A (call (.builtin "sorted") [.ref S]) Q E s:=by
 refine Calls.call_function_entry kind_sorted plain_sorted entry_sorted (args_sorted1 _) ?_
 unfold Uu.«sorted»; refine Qa (m:=checkCount "sorted" 1 1 _) (Qh ?_)
 refine Qa (vL hh hS (Tg (Qs h64 (by decide))) fun vs ns s1 hi hp hsz os1 gs1 k1=>?_)
 have hl:vs.length < 64:=by
  have e1:=hi.length
  have e2:=hp.length_eq
  lia
 refine Qa (wpAny_newList ?_)
 have g1:(s1.heap.push (WL "list" vs.toArray 0)).get? s1.heap.objs.size=some (WL "list" vs.toArray 0):=Qn _ rfl
 refine Qa (R9 (Rm slot_list_sort ⟨_,g1,rfl⟩ entry_list_sort (list_sort_tree g1 hi hl fun out ns' a1 a2 a3=>⟨_,rfl,?_⟩) (args_list_sort _)))
 obtain⟨c,hc⟩:=sortedHeap_at (out:=out) g1
 refine Qh ⟨_,rfl,h s1.heap.objs.size out.toList ns' c _ a1 (a2.trans hp) a3 ?_ hsz os1 gs1 fun b o e=>?_⟩
 ·exact hc
 ·have e1:=k1 b o e
  have lt:=Qt e1
  rw[sortedHeap_old (QJ lt) (by rw[Rf]; exact RQ lt)]
  exact Qd _ e1
end
end L2
namespace L2
open PySem PySem.Spec PyProof.Rows
def ddI (ns:List Int):List Int:=firstMet (fun i=>ns.getD i 0) ns.length
theorem Inv.Kq {X:Cx} {pins:List (Addr × Tz)} {σ:St} {H:Hp} {s s':Qe} {l:Addr} {ys:List V} {its:List Value} {c:Nat} (I:Inv X pins σ H s) (ho:s'.os=s.os) (hg:s'.gens=s.gens) (k:∀ b u,s.heap.get? b=some u->s'.heap.get? b=some u)
  (hl:s.heap.objs.size<=l) (hv:Vals ys its) (hz:ys.length<=sizeLine) (g:s'.heap.get? l=some { cls:=.type "list",data:=.seq its.toArray c }):Inv X pins σ (upd H l (.lst ys)) s':=by
 have J:=I.laid (t':=s.toks) (o:=.lst ys) k hl ⟨hz,its,c,hv,g⟩
 exact⟨J.ok,ho.trans I.os,by rw[hg]; exact I.bare,J.base,J.loc,J.cell,J.free,J.freeC,J.pin,J.hok,J.len⟩
def tSS (K:QF) (te:TA):TE:=fun σ H Q=>te σ H fun xs H1=>∃ (a:Addr) (ns:List Int),xs=[.ref a]/\SqL K H1 a (ns.map V.int)/\ns.length<=4000/\(ddI ns).length < 64/\∀ ms:List Int,ms.Perm (ddI ns)->ms.Pairwise (·<=·)->∀ l,H1 l=none->Q (.ref l) (upd H1 l (.lst (ms.map V.int)))
theorem lV {X:Cx} {e:Expr} {te:TA} {p1 p2 q1 q2:V5} (hc:X.calm=true) (hg1:Gl X "sorted") (hm1:X.mg "sorted" = none) (hg2:Gl X "set") (hm2:X.mg "set" = none) (ha:PA X [e] te)
  (hb1:Rb "sorted" = some (.builtin "sorted"):=by decide+kernel) (hb2:Rb "set" = some (.type "set"):=by decide+kernel)
  (he1:QS [.Call (.Name "set" p2) [e] [] q2] X.env=(false,S6 (.Call (.Name "set" p2) [e] [] q2) X.env)::QS [] X.env:=by rfl) (hp1:(TQ q1 (QS [] X.env)).any (·.1)=false:=by rfl)
  (he2:QS [e] X.env=(false,S6 e X.env)::QS [] X.env:=by rfl) (hp2:(TQ q2 (QS [] X.env)).any (·.1)=false:=by rfl) :
  PE X (.Call (.Name "sorted" p1) [.Call (.Name "set" p2) [e] [] q2] [] q1) (tSS X.K te):=by
 intro pins s σ H Q I h
 refine S7 (jh I hg1 hm1 hb1 ?_ (by decide) (by decide))
 refine XS ?_ he1 hp1
 rw[he1]
 refine (show Qp _ _ (spliced ((false,S6 (.Call (.Name "set" p2) [e] [] q2) X.env)::TQ q1 (QS [] X.env))) _ _ s from Calls.spliced_cons ?_)
 refine S7 (jh I hg2 hm2 hb2 ?_ (by decide) (by decide))
 refine Sy (thn (ha q2 pins s σ H _ I h) fun us s1 ⟨vs,H1,I1,r1,q⟩=>?_) he2 hp2
 obtain⟨a,ns,rfl,hq,hl,h64,hQ⟩:=q
 obtain⟨u,rfl,ru⟩:=vals1 r1
 cases ru
 obtain⟨its,rv,pl,_⟩:=I1.list hq
 have hi:Rz its ns:=intsAre_of rv
 have hsz:its.toArray.size=ns.length:=by rw[Qz]; exact hi.length
 refine wM (I1.ok.hd hc) pl.isList hi (by rw[hsz]; exact Vg (Nat.succ_le_succ hl) (by decide)) fun h' tk hS hk=>?_
 rw[hsz] at hS
 have I2:Inv X pins σ H1 { s1 with heap:=h',toks:=tk }:=I1.kept (t':=tk) fun b o e=>hk b o (Qt e) e
 refine (show Qp _ _ (spliced []) _ _ _ from Calls.spliced_nil ?_)
 refine Al (I1.ok.hd hc) hS h64 fun l vs ms c s3 hi3 hp3 hw3 g3 hl3 os3 gs3 k3=>?_
 have hml:(ms.map V.int).length<=sizeLine:=by
  rw[Qc,hp3.length_eq]
  exact Tg (Qs h64 (by decide))
 exact⟨.ref l,_,I2.Kq os3 gs3 k3 hl3 (iy hi3) hml g3,rfl,hQ ms hp3 hw3 l (I2.hok.fresh hl3)⟩
end L2
namespace L2
open PySem PySem.Spec PyProof.Rows
section
variable {X:Cx} {pins:List (Addr × Tz)} {s:Qe} {σ:St} {H:Hp}
end
end L2
namespace L2
open PySem PySem.Spec PyProof.Rows
section
variable {X:Cx} {k:Nat}
end
end L2
namespace L2
open PySem PySem.Spec PyProof.Rows
section
variable {X:Cx} {k:Nat}
end
end L2
namespace L2
open PySem PySem.Spec PyProof.Rows
def mxD (d:Int):List Int->Int
 | []=>d
 | a::r=>r.foldl max a
theorem dM:∀ (r:List Int) (a:Int),a<=r.foldl max a/\∀ b∈r,b<=r.foldl max a
 | [],a=>⟨RB _,by simp⟩
 | c::r,a=>by
  obtain⟨h1,h2⟩:=dM r (max a c)
  rw[Ri]
  refine⟨by lia,fun b hb=>?_⟩
  rcases List.mem_cons.mp hb with rfl | hb
  ·lia
  ·exact h2 b hb
theorem sI {n:Int}:∀ {l:List Value} {ns:List Int} {j:Nat},Rz l ns->ns[j]? = some n->∃ t,l[j]? = some (.int n t)
 | _,_,j,.nil,h=>by simp at h
 | _,_,0,.cons _ _ _,h=>by
  cases (show some _=some n from h)
  exact⟨_,rfl⟩
 | _,_,j+1,.cons _ _ r,h=>by
  obtain⟨t,e⟩:=sI (j:=j) r (by simpa using h)
  exact⟨t,by simpa using e⟩
def dkw (dk:Option (Int × Tok)):List (Q4 × Value):=dk.toList.map fun d=>(("default" : Q4),T8 d.1 d.2)
section
variable {prog:QK} {w:Q3} {A:Q5} {R:WW->Qe->Prop} {E:Value->Qe->Prop} {s:Qe}
theorem Eh {it l S:Addr} {items:Array Value} {ns:List Int} (hh:A.handled=none) (hi:Rz items.toList ns) (hne:l≠it) (hS1:S≠it) (hS2:S≠l) (kw:List (Q4 × Value)) :
  ∀ (k j:Nat) (s:Qe) (b:Int) (t:Tok) (c:Nat),ns.length - j=k->j<=ns.length->s.heap.IsListIter it l j->s.heap.IsList l items →
   s.heap.get? S=some { cls:=.type "list",dict:=none,data:=.seq #[.int b t,.int b t] c,slots:=#[] } →
   (∀ t' h' tk,(∀ a o,a≠it->a≠S->s.heap.get? a=some o->h'.get? a=some o)->R (.ok (.ret (.int ((ns.drop j).foldl max b) t'))) { s with heap:=h',toks:=tk }) →
   R5 (Qy prog w) A (.builtin "max.loop" ⟨[.ref it,.none,.ref S],kw⟩) R s:=by
 have W:=Xl (prog:=prog) (w:=w) (A:=A.in1) hh it l hne items
 have hname:(toString "max"++toString ".loop" : String) = "max.loop":=by decide
 have hsz:items.size=ns.length:=by rw[← Ra]; exact hi.length
 intro k
 induction k with
 | zero =>
  intro j s b t c hk hj h1 h2 hS hR
  refine Ss X6 ?_; rw[Sx Ud _]
  show Qp _ A.in1 (Wf (.ref S) >>= _) _ _ s; refine Qa (R6 hS rfl ?_)
  have ej:j=items.size:=by lia
  show Qp _ A.in1 (tryCatch (Tt (.ref it)) _ >>= _) _ _ s; refine Qa (VP (W.done s _ _ (by rw[← ej]; exact⟨h1,h2⟩) fun h' tk hm=>?_))
  have hS':=hm S _ (by simpa using hS1) hS
  show Qp _ A.in1 (updateSeq S (fun _=>#[]) >>= _) _ _ _; refine Qa (VB hS' rfl (Qa (Vv (Qh ?_))))
  rw[List.drop_of_length_le (by lia)] at hR
  exact hR t _ tk fun a o ha hb e=>(Q0 _ _ (Uh hb)).trans (hm a o (by simpa using ha) e)
 | succ k ih =>
  intro j s b t c hk hj h1 h2 hS hR
  refine Ss X6 ?_; rw[Sx Ud _]
  show Qp _ A.in1 (Wf (.ref S) >>= _) _ _ s; refine Qa (R6 hS rfl ?_)
  have hlt:j < ns.length:=by lia
  obtain⟨u,hu⟩:=sI hi (Qg hlt)
  have ed:ns.drop j=ns[j]::ns.drop (j+1):=Tu hlt
  show Qp _ A.in1 (tryCatch (Tt (.ref it)) _ >>= _) _ _ s; refine Qa (VP (W.item j s _ _ (by lia) ⟨h1,h2⟩ fun v h' tk hP st hm=>?_))
  obtain⟨g1,g2⟩:=st
  have ev:v = .int ns[j] u:=by
   have e:items[j]? = some v:=hP
   rw[← R4,hu] at e
   exact (QZ e).symm
  subst ev
  have hS':=hm S _ (by simpa using hS1) hS
  show Qp _ A.in1 (tryCatch (VL [T8 ns[j] u,T8 ns[j] u] (richCompare .Gt (.int ns[j] u) (.int b t) >>= _)) _ >>= _) _ _ _
  refine Qa (VP (R9 (Qa ((CmpOf.ints_gt (P:=fun i v=>∃ t,v = .int (if i=0 then ns[j] else b) t) (fun i=>if i=0 then ns[j] else b) (fun _ _ h=>h)) 0 1 _ _ _ _ _ ⟨u,rfl⟩ ⟨t,rfl⟩ ?_))))
  refine Qa (R9 (SJ (Qa (Vv (Qh ?_)))))
  show Qp _ A.in1 (if decide (ns[j] > b)=true then _ else _) _ _ _
  by_cases hb:ns[j] > b
  ·rw[if_pos (decide_eq_true hb)]
   refine Qa (VB hS' rfl (Qa (Vv ?_)))
   rw[hname]
   refine Qh ⟨TJ Ud _,ih (j+1) _ ns[j] u _ (by lia) hlt ?_ ?_ (Q7 _ hS' rfl) fun t' h2 tk2 k2=>?_⟩
   ·exact g1.at fun o e=>(Q0 _ _ hS1).trans e
   ·exact g2.at fun o e=>(Q0 _ _ hS2).trans e
   ·have q:=hR t' h2 tk2 fun a o ha hb e=>k2 a o ha hb ((Q0 _ _ (Uh hb)).trans (hm a o (by simpa using ha) e))
    rw[ed,Ri,show max b ns[j]=ns[j] by lia] at q
    exact q
  ·rw[if_neg (by simpa using hb)]
   refine Qa (Vv ?_)
   rw[hname]
   refine Qh ⟨TJ Ud _,ih (j+1) _ b t c (by lia) hlt g1 g2 hS' fun t' h2 tk2 k2=>?_⟩
   have q:=hR t' h2 tk2 fun a o ha hb e=>k2 a o ha hb (hm a o (by simpa using ha) e)
   rw[ed,Ri,show max b ns[j]=b by lia] at q
   exact q
theorem zu {it l S:Addr} {items:Array Value} {ns:List Int} {c:Nat} (hh:A.handled=none) (hi:Rz items.toList ns) (hne:l≠it) (hS1:S≠it) (hS2:S≠l) (dk:Option (Int × Tok)) (hd:ns=[]->dk≠none)
  (h1:s.heap.IsListIter it l 0) (h2:s.heap.IsList l items) (hS:s.heap.get? S=some { cls:=.type "list",dict:=none,data:=.seq #[] c,slots:=#[] })
  (hR:∀ t' h' tk,(∀ a o,a≠it->a≠S->s.heap.get? a=some o->h'.get? a=some o)->R (.ok (.ret (.int (mxD ((dk.map (·.1)).getD 0) ns) t'))) { s with heap:=h',toks:=tk }) :
  R5 (Qy prog w) A (.builtin "max.loop" ⟨[.ref it,.none,.ref S],dkw dk⟩) R s:=by
 have W:=Xl (prog:=prog) (w:=w) (A:=A.in1) hh it l hne items
 have hname:(toString "max"++toString ".loop" : String) = "max.loop":=by decide
 have hsz:items.size=ns.length:=by rw[← Ra]; exact hi.length
 refine Ss X6 ?_; rw[Sx Ud _]
 show Qp _ A.in1 (Wf (.ref S) >>= _) _ _ s; refine Qa (R6 hS rfl ?_)
 show Qp _ A.in1 (tryCatch (Tt (.ref it)) _ >>= _) _ _ s
 cases ns with
 | nil =>
  have e0:items.size=0:=hsz
  refine Qa (VP (W.done s _ _ (by rw[e0]; exact⟨h1,h2⟩) fun h' tk hm=>?_))
  cases dk with
  | none=>exact absurd rfl (hd rfl)
  | some d =>
   refine Qa (Uv ?_)
   exact Qh (hR d.2 h' tk fun a o ha hb e=>hm a o (by simpa using ha) e)
 | cons n r =>
  obtain⟨u,hu⟩:=sI (n:=n) (j:=0) hi rfl
  refine Qa (VP (W.item 0 s _ _ (by rw[hsz]; exact Nat.succ_pos _) ⟨h1,h2⟩ fun v h' tk hP st hm=>?_))
  obtain⟨g1,g2⟩:=st
  have ev:v = .int n u:=by
   have e:items[0]? = some v:=hP
   rw[← R4,hu] at e
   exact (QZ e).symm
  subst ev
  have hS':=hm S _ (by simpa using hS1) hS
  show Qp _ A.in1 (updateSeq S (fun _=>#[T8 n u,T8 n u]) >>= _) _ _ _
  refine Qa (VB hS' rfl ?_)
  rw[hname]
  refine Qh ⟨TJ Ud _,Eh hh hi hne hS1 hS2 _ _ 1 _ n u _ rfl (Nat.succ_le_succ (QW _)) ?_ ?_ (Q7 _ hS' rfl) fun t' h2 tk2 k2=>?_⟩
  ·exact g1.at fun o e=>(Q0 _ _ hS1).trans e
  ·exact g2.at fun o e=>(Q0 _ _ hS2).trans e
  ·exact hR t' h2 tk2 fun a o ha hb e=>k2 a o ha hb ((Q0 _ _ (Uh hb)).trans (hm a o (by simpa using ha) e))
theorem Bl (a v:Value):Wa "max" ⟨[a],[("default",v)]⟩:=by unfold Wa; kernel_rfl
theorem Cj (v:Value):VN "max" ["key","default"] 0 ⟨[],[("default",v)]⟩=pure [none,some v]:=by kernel_rfl
theorem HJ {l:Addr} {items:Array Value} {ns:List Int} {Q:Value->Qe->Prop} (hh:A.handled=none) (hl:s.heap.IsList l items) (hi:Rz items.toList ns) (dk:Option (Int × Tok)) (hd:ns=[]->dk≠none)
  (h:∀ t h' tk,(∀ a o,s.heap.get? a=some o->h'.get? a=some o)->Q (.int (mxD ((dk.map (·.1)).getD 0) ns) t) { s with heap:=h',toks:=tk }) :
  Qp (Qy prog w) A (call (.builtin "max") [.ref l] (dkw dk)) Q E s:=by
 have ha:Wa "max" ⟨[.ref l],dkw dk⟩:=by
  cases dk with
  | none=>exact F.args_max1 _
  | some d=>exact Bl _ _
 have hb:VN "max" ["key","default"] 0 ⟨[],dkw dk⟩=pure [none,dk.map fun d=>.int d.1 d.2]:=by
  cases dk with
  | none=>rfl
  | some d=>exact Cj _
 have hname:(toString "max"++toString ".loop" : String) = "max.loop":=by decide
 refine wpAny_call (codeAny_call_builtin F.plain_max F.entry_max ?_)
 have main:Qp (Qy prog w) A.in1 (Uu.«max» ⟨[.ref l],dkw dk⟩) (fun fin s'=>match fin with
   | .done f=>(match (Except.ok f:WW) with | .ok (.ret v)=>Q v s' | .ok _=>False | .error e=>E e s')
   | .again c'=>c'.quiet=true/\R5 (Qy prog w) A c' (fun r s'=>match r with | .ok (.ret v)=>Q v s' | .ok _=>False | .error e=>E e s') s') E s:=by
  show Qp _ A.in1 (VN "max" ["key","default"] 0 ⟨[],dkw dk⟩ >>= _) _ _ s
  refine Qa (Tc hb (Qa (Qh ?_)))
  refine Qa (Us hl (Qa (QV ?_)))
  have lt:l < s.heap.objs.size:=by obtain⟨o,e,_⟩:=hl; exact Qt e
  have hs1:(s.heap.push { cls:=.type "list_iterator",data:=.fields #[.ref l,.int 0 0] }).objs.size=s.heap.objs.size+1:=Rf ..
  rw[hname]
  have ek:(dk.map fun d=>T8 d.1 d.2).toList.map (fun d=>(("default" : Q4),d))=dkw dk:=by cases dk <;> rfl
  refine Qh ⟨TJ Ud _,?_⟩
  show R5 _ A (.builtin "max.loop" ⟨[.ref s.heap.objs.size,.none,_],(dk.map fun d=>T8 d.1 d.2).toList.map (fun d=>(("default" : Q4),d))⟩) _ _
  rw[ek]
  refine zu hh hi (QJ lt) (by rw[hs1]; exact Sv (R7 _)) (by rw[hs1]; exact Sv (RQ lt)) dk hd
   ⟨_,Qd _ (Qn _ rfl),rfl,rfl⟩ ((hl.push _).push _) (Qn _ rfl) fun t h' tk k=>?_
  exact h t h' tk fun a o e=>k a o (QJ (Qt e)) (by rw[hs1]; exact QJ (RQ (Qt e))) (Qd _ (Qd _ e))
 simp only[checkBuiltinCall,F.kind_max]
 cases hsig:Manifest.signature? "max" with
 | none=>exact Qh main
 | some sig =>
  have ha':Bind.checkArgs "max" sig ⟨[.ref l],dkw dk⟩=pure ():=by simpa only [Wa,hsig] using ha
  simp only[ha']
  exact Qh main
end
section
variable {X:Cx}
inductive Bv (K:QF) (xs:List V) (H:Hp) (Q:VK):Prop where
 | mk (p:Addr) (ns:List Int) (z0:xs=[.ref p]) (z1:SqL K H p (ns.map V.int)) (z2:ns.length < 64) (z3:∀ ms:List Int,ms.Perm ns->ms.Pairwise (·<=·)->∀ l,H l=none->Q (.ref l) (upd H l (.lst (ms.map V.int)))):Bv K xs H Q
def Il (K:QF):List V->Hp->VK->Prop:=fun xs H Q=>Bv K xs H Q
theorem Ad:gh X (.builtin "sorted") (Il X.K):=by
 intro pins s σ H xs us Q I r h
 obtain⟨p,ns,rfl,hq,h64,q⟩:=h
 obtain⟨u,rfl,ru⟩:=vals1 r
 cases ru
 obtain⟨its,rv,pl,hz⟩:=I.list hq
 have hi:Rz its ns:=intsAre_of rv
 refine sorted_ints pl.isList hi (by have:=hi.length; lia) fun out ns' a1 a2 a3=>?_
 obtain⟨e,he⟩:=sortedAll_at s.heap its out
 have hml:(ns'.map V.int).length<=sizeLine:=by
  rw[Qc,a2.length_eq]
  exact Tg (Qs h64 (by decide))
 exact⟨.ref _,_,I.Kq rfl rfl (fun _ _=>sortedAll_old) (S5 _) (iy a1) hml he,rfl,q ns' a2 a3 _ (I.hok.fresh (S5 _))⟩
inductive Ih (K:QF) (xs:List V) (H:Hp) (Q:VK):Prop where
 | mk (p:Addr) (ns:List Int) (z0:xs=[.ref p]) (z1:SqL K H p (ns.map V.int)) (z2:ns≠[]) (z3:Q (.int (mxD 0 ns)) H):Ih K xs H Q
def BL (K:QF):List V->Hp->VK->Prop:=fun xs H Q=>Ih K xs H Q
theorem j4 (hc:X.calm=true):gh X (.builtin "max") (BL X.K):=by
 intro pins s σ H xs us Q I r h
 obtain⟨p,ns,rfl,hq,hne,q⟩:=h
 obtain⟨u,rfl,ru⟩:=vals1 r
 cases ru
 obtain⟨its,rv,pl,hz⟩:=I.list hq
 exact HJ (I.ok.hd hc) pl.isList (show Rz its.toArray.toList ns from intsAre_of rv) none (fun e=>absurd e hne) fun t h' tk k=>⟨.int _,H,I.kept (t':=tk) k,⟨_,rfl⟩,q⟩
def Oa (K:QF) (d:Int) (te:TA):TE:=fun σ H Q=>te σ H fun xs H1=>∃ (p:Addr) (ns:List Int),xs=[.ref p]/\SqL K H1 p (ns.map V.int)/\Q (.int (mxD d ns)) H1
theorem Bf {e:Expr} {te:TA} {d:Int} {j} {p pos kp cp:V5} (hc:X.calm=true) (hg:Gl X "max") (hm:X.mg "max" = none) (ha:PA X [e] te)
  (hb:Rb "max" = some (.builtin "max"):=by decide+kernel)
  (he:TQ pos (QS [e] X.env)=(false,S6 e X.env)::TQ pos (QS [] X.env):=by rfl) (hp:(TQ pos (QS [e] X.env)).any (·.1)=false:=by rfl) :
  PE X (.Call (.Name "max" p) [e] [⟨some "default",.Constant (.int d) j cp,kp⟩] pos) (Oa X.K d te):=by
 intro pins s σ H Q I h
 refine S7 (jh I hg hm hb ?_ (by decide) (by decide))
 refine callWith_kw (thn (ha pos pins s σ H _ I h) fun us s1 ⟨vs,H1,I1,r1,q⟩=>?_) he hp
 obtain⟨a,ns,rfl,hq,q⟩:=q
 obtain⟨u,rfl,ru⟩:=vals1 r1
 cases ru
 refine kws_cons (wpAny_Constant_int (kws_nil ?_))
 have I2:Inv X pins σ H1 { s1 with toks:=s1.toks+1 }:=I1.tok _
 obtain⟨its,rv,pl,hz⟩:=I2.list hq
 exact HJ (I.ok.hd hc) pl.isList (show Rz its.toArray.toList ns from intsAre_of rv) (some (d,_)) (fun _ z=>nomatch z) fun t h' tk k=>⟨.int _,H1,I2.kept (t':=tk) k,⟨_,rfl⟩,q⟩
end
end L2
namespace L2
open PySem PySem.Spec PyProof.Rows
theorem El:Manifest.owners.lookup (String.ofList ['d','e','s','r','e','v','e','r'].reverse)=some Manifest.sig_reversed:=by kernel_rfl
theorem dq:Slot "reversed" "__next__" "reversed.__next__" :=
 .of (owner:="reversed") (n:="__next__") (by rw[Vc,Tr]; kernel_rfl) (by decide+kernel) (by decide+kernel) (by decide+kernel) (by first | exact .inl (by decide+kernel) | exact .inr (by decide+kernel)) (by rw[T6]; kernel_rfl)
theorem sy:Slot "reversed" "__init__" "object.__init__" :=
 .of (owner:="object") (n:="__init__") (by rw[Vc,Tr]; kernel_rfl) (by decide+kernel) (by decide+kernel) (by decide+kernel) (by first | exact .inl (by decide+kernel) | exact .inr (by decide+kernel)) (by rw[T6]; kernel_rfl)
theorem jf:entryFor table "reversed.__next__" = some Uu.«reversed.__next__»:=entryFor_of_tree (by kernel_rfl)
theorem j6 (a:Value):Wa "reversed.__next__" ⟨[a],[]⟩:=by
 unfold Wa
 rw[Xh (id:="reversed.__next__") (n:=['_','_','t','x','e','n','_','_']) (o:=['d','e','s','r','e','v','e','r']) (by kernel_rfl) El]
 kernel_rfl
theorem jV:Slot "reversed" "__iter__" "reversed.__iter__" :=
 .of (owner:="reversed") (n:="__iter__") (by rw[Vc,Tr]; kernel_rfl) (by decide+kernel) (by decide+kernel) (by decide+kernel) (by first | exact .inl (by decide+kernel) | exact .inr (by decide+kernel)) (by rw[T6]; kernel_rfl)
theorem pC:entryFor table "reversed.__iter__" = some Uu.«dict_keyiterator.__iter__»:=entryFor_alias (id':="dict_keyiterator.__iter__") (by kernel_rfl) rfl (by decide+kernel) (by kernel_rfl)
theorem qY (a:Value):Wa "reversed.__iter__" ⟨[a],[]⟩:=by
 unfold Wa
 rw[Xh (id:="reversed.__iter__") (n:=['_','_','r','e','t','i','_','_']) (o:=['d','e','s','r','e','v','e','r']) (by kernel_rfl) El]
 kernel_rfl
theorem zH:TypeCalled "reversed" "reversed.__new__" "object.__init__" :=
 ⟨by decide+kernel,by decide+kernel,⟨_,_,F.mro_reversed⟩,F.made_reversed,by decide+kernel,by rw[T6]; kernel_rfl,sy⟩
theorem tu:typeLookup (.type "tuple") "__reversed__" = pure none:=by rw[Vc,Tr]; kernel_rfl
theorem vg:isSubtype (.type "tuple") (.type "dict")=pure false:=by rw[T6]; kernel_rfl
def RIt (h:Rv) (I t:Addr) (i:Int):Prop:=h.get? I=some { cls:=.type "reversed",dict:=none,data:=.fields #[.ref t,.int i 0],slots:=#[] }
theorem G5 (a:Value):Yr "reversed" ⟨[.type "reversed",a],[]⟩=pure (.type "reversed",[a]):=by
 unfold Yr
 simp only[isType,F.sub_reversed_self,pure_bind,Bool.not_true,Bool.false_eq_true,if_false]
theorem Gg (t:Addr) (items:Array Value) (hf:(items.size:Int) < 2 ^ 63) :
  Meets (Uu.«reversed.__new__» ⟨[.type "reversed",.ref t],[]⟩) (fun _ R s=>IsTup s.heap t items/\R (.ok (.ret (.ref s.heap.objs.size))) { s with heap:=s.heap.push { cls:=.type "reversed",data:=.fields #[.ref t,.int ((items.size:Int) - 1) 0] },toks:=s.toks+1+1 }) :=
 .of_wp fun prog w A R s h=>by
  obtain⟨ht,h⟩:=h
  unfold Uu.«reversed.__new__»
  refine Qa (Tc (G5 _) ?_)
  try dsimp only
  refine Qa (Tc (a:=()) (by first | rfl | kernel_rfl) (Qa (Tc (a:=()) (by first | rfl | kernel_rfl) ?_)))
  try dsimp only
  refine Qa (Wt ht.typeIs tu ?_)
  try dsimp only
  refine (show Qp _ _ ((isInstance (.ref t) (.type "dict") >>= _) >>= _) _ _ s from Qa (Qa (UL ht.typeIs vg ?_)))
  rw[if_neg Qk]
  refine Qa (Wt ht.typeIs slot_tuple_getitem.lookup ?_)
  dsimp only
  rw[if_pos (by decide+kernel)]
  refine Qh ?_
  rw[if_neg (by simp)]
  refine Qa (len_tuple ht hf ?_)
  refine Qa (Tc (a:=some ((items.size:Nat):Int)) rfl ?_)
  dsimp only
  refine Qa ?_
  refine (show Qp _ _ (newObj (.type "reversed") (.fields #[.ref t,Sd ((items.size:Int) - 1)])) _ _ _ from QV ?_)
  exact Qh ⟨_,rfl,h⟩
section
variable {prog:QK} {w:Q3} {A:Q5} {E:Value->Qe->Prop} {s:Qe}
theorem Ej {t:Addr} {items:Array Value} {Q:Value->Qe->Prop} (ht:IsTup s.heap t items) (hf:(items.size:Int) < 2 ^ 63)
  (h:Q (.ref s.heap.objs.size) { s with heap:=s.heap.push { cls:=.type "reversed",data:=.fields #[.ref t,.int ((items.size:Int) - 1) 0] },toks:=s.toks+1+1 }):Qp (Qy prog w) A (call (.type "reversed") [.ref t]) Q E s:=by
 refine callType_new zH (by decide) (F.typeCall_reversed_1 _) (F.newCall_reversed_1 _) (fun obj=>F.args_object_init_2 obj _) F.entry_reversed_new (Gg t items hf) ⟨ht,?_⟩
 exact⟨⟨_,Qn _ rfl,rfl⟩,h⟩
theorem GR {it t:Addr} {i:Nat} {items:Array Value} {x:Value} {Q:Option Value->Qe->Prop} (hit:RIt s.heap it t (i:Int)) (ht:IsTup s.heap t items) (hi:(i:Int) < 2 ^ 63) (hx:items[i]? = some x)
  (hQ:∀ h',RIt h' it t ((i:Int) - 1)->S9 it s.heap h'->Q (some x) { s with heap:=h',toks:=s.toks+1 }):Qp (Qy prog w) A (Tt (.ref it)) Q E s:=by
 have hT:s.TypeIs (.ref it) "reversed":=⟨_,hit,rfl⟩
 unfold Tt
 refine Qa (Up (Rx (name:=Tf "__next__") hT dq (Rm dq hT jf ?_ (j6 _))))
 unfold Uu.«reversed.__next__»
 refine Qa (Tc (a:=(Rh it,[])) rfl ?_)
 dsimp only
 refine Qa (RJ hit rfl (x:=.ref t) rfl (Qa (RJ hit rfl (x:=.int (i:Int) 0) rfl ?_)))
 dsimp only
 rw[if_neg (by lia)]
 refine Qa (Wt ht.typeIs slot_tuple_getitem.lookup ?_)
 rw[if_neg (by simp)]
 refine Qa (wpAny_mkInt ?_)
 have hsz:i < items.size:=(Array.getElem?_eq_some_iff.mp hx).1
 have hk:seqIndex? (i:Int) items.size=some i:=by
  have e0:¬ ((i:Int) < 0):=by lia
  unfold seqIndex?
  simp only[if_neg e0]
  simp [hsz]
 refine Qa (Up (getItem_tuple (s:={ s with toks:=s.toks+1 }) (show IsTup s.heap t items from ht) (by lia) hi hk hx ?_))
 dsimp only
 refine Qa (RJ (s:={ s with toks:=s.toks+1 }) hit rfl (x:=.int (i:Int) 0) rfl ?_)
 dsimp only
 refine Qa (SM (s:={ s with toks:=s.toks+1 }) hit rfl (by simp) ?_)
 refine Qh ⟨x,rfl,Qh (hQ _ ?_ (Ry ..))⟩
 exact Q7 (Vs (·.setIfInBounds 1 (Sd ((i:Int) - 1)))) hit rfl
theorem Kv {it t:Addr} {Q:Option Value->Qe->Prop} (hh:A.handled=none) (hit:RIt s.heap it t (-1)) (hQ:∀ h',Heap.ExtBut it s.heap h'->Q none { s with heap:=h' }):Qp (Qy prog w) A (Tt (.ref it)) Q E s:=by
 have hT:s.TypeIs (.ref it) "reversed":=⟨_,hit,rfl⟩
 unfold Tt
 refine Qa (Up (Rx (name:=Tf "__next__") hT dq (Rm dq hT jf ?_ (j6 _))))
 unfold Uu.«reversed.__next__»
 refine Qa (Tc (a:=(Rh it,[])) rfl ?_)
 dsimp only
 refine Qa (RJ hit rfl (x:=.ref t) rfl (Qa (RJ hit rfl (x:=.int (-1) 0) rfl ?_)))
 dsimp only
 rw[if_pos (by decide)]
 refine Qa (Uv ?_)
 refine Qa ?_
 refine (show Qp _ _ (setField (.ref it) 1 (Sd (-1)) >>= _) _ _ s from Qa (SM hit rfl (by simp) ?_))
 have g1:=Q7 (Vs (·.setIfInBounds 1 (Sd (-1)))) hit rfl
 refine SM g1 rfl (by simp) ?_
 refine Qa ?_
 refine (show Qp _ _ (XR (.type "StopIteration") [] >>= _) _ _ _ from Qa ?_)
 simp only[XR,newTuple]
 refine Qa (QV ?_ (by size_fits))
 refine Qa (m:=T7 _ _) (Tc (a:=R8) (by first | rfl | (simp only[T7]; rfl)) (QV ?_ (by size_fits)))
 simp only[raiseNew]
 refine Qa (Xg ?_)
 first | rw[show A.in1.handled=none from hh] | rw[hh]
 refine Qa (Qh (X7 ?_))
 refine Qa (UL (T:="StopIteration") (b:=true) ⟨_,Qn _ rfl,rfl⟩ WQ (Qh ?_))
 exact hQ _ ((((Ry ..).trans (Ry ..)).extBut.push _).push _)
theorem yK {it t:Addr} {i:Int} {Q:Value->Qe->Prop} (hI:RIt s.heap it t i) (h:Q (.ref it) s):Qp (Qy prog w) A (WM (.ref it)) Q E s:=by
 have hT:s.TypeIs (.ref it) "reversed":=⟨_,hI,rfl⟩
 refine Xr hT jV (Rm jV hT pC (show Qp _ _ (ret (.ref it)) _ _ s from ?_) (qY _))
 exact Qh ⟨_,rfl,"reversed",_,hT,dq.lookup,h⟩
end
def Itv (K:QF) (a:Addr) (n:Nat):It :=
 ⟨fun i H=>i < n/\∃ xs x,SqT K H a xs/\xs.length=n/\xs[n - 1 - i]? = some x,fun i H x H'=>H'=H/\∀ xs,SqT K H a xs->xs[n - 1 - i]? = some x,fun i _=>i=n⟩
theorem FZ {P:QK} {w:Q3} {K:QF} {tg:Expr} (a it:Addr) (n:Nat) (hn:(n:Int) < 2 ^ 63):Turn P w K tg (Itv K a n) [it] it (fun i h=>RIt h it a ((n:Int) - 1 - (i:Int))) where
 mem:=by simp
 obj:=fun i h st b hb=>by
  have e:b=it:=by simpa using hb
  subst e
  exact⟨_,st,fun v z=>by cases (show Data.fields _=Data.cell v from z)⟩
 keep:=fun i h h' st k=>k it (by simp) _ st
 item:=by
  intro X hP hw hK hc i pins s σ H E I hf st hg
  subst hP hw hK
  obtain⟨hin,xs,x,hq,hlen,hx⟩:=hg
  obtain⟨its,rv,p,hz⟩:=I.tuple hq
  obtain⟨u,hu,ru⟩:=rv.get hx
  obtain⟨f0,f1,f2,f3,f4,f5⟩:=hf it (by simp)
  have e:(n:Int) - 1 - (i:Int)=((n - 1 - i:Nat):Int):=by lia
  have st':RIt s.heap it a ((n - 1 - i:Nat):Int):=by rw[← e]; exact st
  refine GR st' p (by lia) (x:=u) (by simpa using hu) fun h' st2 sb=>?_
  have e2:((n - 1 - i:Nat):Int) - 1=(n:Int) - 1 - ((i+1:Nat):Int):=by lia
  rw[e2] at st2
  have I1:Inv X pins σ H { s with heap:=h',toks:=s.toks+1 }:=I.turned (t':=s.toks+1) (fun b o hb e=>(sb.2 b hb).trans e) f0 f1 f3 f4 f5
  exact⟨u,rfl,Gj (s:={ s with heap:=h',toks:=s.toks+1 }) st2 rfl rfl (by decide) ⟨x,H,I1,ru,⟨rfl,fun ys hy=>by rw[I.oJ hy hq]; exact hx⟩,st2,fun b hb=>(hf b hb).1⟩⟩
 done:=by
  intro X hP hw hK hc i pins s σ H E I hf st hg
  subst hP hw hK
  cases (show i=n from hg)
  obtain⟨f0,f1,f2,f3,f4,f5⟩:=hf it (by simp)
  have st':RIt s.heap it a (-1):=by
   have e:(n:Int) - 1 - (n:Int) = -1:=by lia
   rw[← e]; exact st
  exact Kv (I.ok.hd hc) st' fun h' eb=>⟨rfl,I.turned (t':=s.toks) (fun b o hb e=>eb b o hb e) f0 f1 f3 f4 f5⟩
 self:=fun _ _ _ _ _ st h=>yK st h
def PX (K:QF) (ta:TA):TI:=fun σ H R=>ta σ H fun vs H1=>∃ a xs,vs=[.ref a]/\SqT K H1 a xs/\R (Itv K a xs.length) H1
theorem Ml {X:Cx} {tg:Expr} {a:Expr} {ta:TA} {p pos:V5} (hg:Gl X "reversed") (hm:X.mg "reversed" = none) (ha:PA X [a] ta) (hs:QS [a] X.env=[(false,S6 a X.env)]:=by rfl) :
  PI X tg (.Call (.Name "reversed" p) [a] [] pos) (PX X.K ta):=by
 intro pins s σ H R I h
 refine Call_ (jh I hg hm boot_reversed (Sy (thn (ha pos pins s σ H _ I h) fun us s1 ⟨vs,H1,I1,r1,q1⟩=>?_) hs rfl))
 obtain⟨c,xs,e,hx,q⟩:=q1
 subst e
 obtain⟨u1,rfl,ru1⟩:=vals1 r1
 cases ru1
 obtain⟨its,rv,tp,hz⟩:=I1.tuple hx
 have hl:=rv.length
 have hn:=qw
 have hsz:((its.toArray.size:Nat):Int) < 2 ^ 63:=by rw[Qz,← hl]; lia
 refine Ej tp hsz ?_
 have g:RIt (s1.heap.push { cls:=.type "reversed",data:=.fields #[.ref c,.int ((its.toArray.size:Int) - 1) 0] }) s1.heap.objs.size c ((xs.length:Int) - 1 - ((0:Nat):Int)):=by
  have e:((xs.length:Int) - 1 - ((0:Nat):Int))=(its.toArray.size:Int) - 1:=by rw[Qz,← hl]; lia
  rw[e]
  exact Qn _ rfl
 refine yK g ⟨s1.heap.objs.size,[s1.heap.objs.size],_,_,H1,rfl,I1.kept (t':=s1.toks+1+1) fun b o e=>Qd _ e,FZ c _ xs.length (by lia),g,fun b hb=>?_,q⟩
 have e:b=s1.heap.objs.size:=by simpa using hb
 subst e
 exact I1.Ii (Ql _) (I1.hok.fresh (Ql _))
theorem JG {K:QF} {a:Addr} {xs:List V} {g:TG} {tb:TS} {D:Ends} {σ:St} {H:Hp} (Pv:Nat->St->Hp->Prop) (h0:Pv 0 σ H) (hl:∀ i σ H,i<=xs.length->Pv i σ H->SqT K H a xs)
  (hs:∀ i x σ H,i < xs.length->xs[xs.length - 1 - i]? = some x->Pv i σ H->g x σ H fun σ2 H2=>tb { D with nx:=Pv (i+1),ct:=Pv (i+1),bk:=D.nx } σ2 H2) (hd:∀ σ H,Pv xs.length σ H->D.nx σ H) :
  ∃ W:Nat->Nat->St->Hp->Prop,(∃ m,W 0 m σ H)/\∀ i m σ H,W i m σ H →
   ((Itv K a xs.length).stop i H/\D.nx σ H)∨((Itv K a xs.length).go i H/\∃ N:St->Hp->Prop,(∀ σ' H',N σ' H'->∃ m',m' < m/\W (i+1) m' σ' H')/\∀ x H',(Itv K a xs.length).yld i H x H'->g x σ H' fun σ2 H2=>tb { D with nx:=N,ct:=N,bk:=D.nx } σ2 H2):=by
 refine⟨fun i m σ H=>m=xs.length - i/\i<=xs.length/\Pv i σ H,⟨xs.length,by simp,QW _,h0⟩,?_⟩
 rintro i m σ H ⟨rfl,hi,p⟩
 have q1:=hl i σ H hi p
 by_cases hlt:i < xs.length
 ·refine .inr ⟨⟨hlt,xs,xs[xs.length - 1 - i],q1,rfl,Qg (by lia)⟩,Pv (i+1),fun σ' H' p'=>⟨xs.length - (i+1),by lia,rfl,hlt,p'⟩,fun v H' y=>?_⟩
  obtain⟨rfl,hx⟩:=y
  exact hs i v σ _ hlt (hx xs q1) p
 ·have e:i=xs.length:=by lia
  subst e
  exact .inl ⟨rfl,hd σ H p⟩
end L2
namespace L2
open PySem PySem.Spec PyProof.Rows
section
variable {prog:QK} {w:Q3} {A:Q5} {E:Value->Qe->Prop} {s:Qe}
theorem pM {h h':Rv} {a t:Addr} {its:Array Value} (ht:h.IsList t its) (sb:S9 a h h') (ne:t≠a):h'.IsList t its:=by
 obtain⟨o,e,r⟩:=ht
 exact⟨o,(sb.2 t ne).trans e,r⟩
theorem iH {h h':Rv} {a it t:Addr} {i:Nat} (ht:h.IsListIter it t i) (sb:S9 a h h') (ne:it≠a):h'.IsListIter it t i:=by
 obtain⟨o,e,r⟩:=ht
 exact⟨o,(sb.2 it ne).trans e,r⟩
theorem Km {z p q i1 i2 l1 l2:Addr} {k:Nat} {xs ys:Array Value} {x y a b:Value} {Q:Option Value->Qe->Prop} (D:Zap z p q i1 i2 l1 l2)
  (hz:Wx s.heap z p q .none) (hp:U7 s.heap p (.ref i1) (.ref i2)) (hq:U7 s.heap q a b) (j1:s.heap.IsTupleIter i1 l1 k) (j2:s.heap.IsListIter i2 l2 k) (t1:s.heap.IsTuple l1 xs) (t2:s.heap.IsList l2 ys)
  (hx:xs[k]? = some x) (hy:ys[k]? = some y)
  (hQ:∀ h',Wx h' z p q (Sd s.heap.objs.size)->U7 h' q x y->h'.IsTupleIter i1 l1 (k+1)->h'.IsListIter i2 l2 (k+1)->U7 h' s.heap.objs.size x y->h'.objs.size=s.heap.objs.size+1 →
   (∀ c o,c≠z->c≠q->c≠i1->c≠i2->s.heap.get? c=some o->h'.get? c=some o)->Q (some (.ref s.heap.objs.size)) { s with heap:=h' }):Qp (Qy prog w) A (Tt (.ref z)) Q E s:=by
 have hT:s.TypeIs (.ref z) "zip":=⟨_,hz,rfl⟩; unfold Tt
 refine Qa (Up (Rx (name:=Tf "__next__") hT Wy (Rm Wy hT F.entry_zip_next ?_ (F.args_zip_next_1 _))))
 show Qp _ _ (field (.ref z) 2 >>= _) _ _ _; refine Qa (RJ hz rfl (x:=.bool false) rfl ?_)
 show Qp _ _ (field (.ref z) 3 >>= _) _ _ _; refine Qa (RJ hz rfl (x:=.ref p) rfl ?_); refine Qa (R6 hp rfl ?_)
 show Qp _ _ (Ti (.ref z) >>= _) _ _ _; refine Qa ?_; unfold Ti
 refine Qa (RJ hz rfl (x:=.none) rfl (Qh ?_)); simp only[if_true]; refine Qa (Uv ?_); refine Qa (RJ hz rfl (x:=.ref q) rfl ?_)
 refine Qa (Ue hz (by simp) fun h1 z1 b1=>?_); replace z1:Wx h1 z p q .ellipsis:=z1
 refine Qa ?_; simp only[List.zipIdx_cons,List.zipIdx_nil,Yl,W6]; refine Qa (Qa (Xf ?_))
 show Qp _ _ (RT (.ref i1) >>= _) _ _ _; refine Qa (Bc (nA j1 b1 D.az) (CW t1 b1 D.xz) hx fun h2 u1 b2=>Qh ?_)
 have q2:U7 h2 q a b:=(b2.2 _ D.qa).trans ((b1.2 _ D.qz).trans hq); refine Qa (R6 q2 rfl ?_); refine Qa (WK q2 fun h3 q3 b3=>?_)
 replace q3:U7 h3 q x b:=q3; refine Qa (Vv (Qh ?_)); refine Qa (Qa (Xf ?_))
 show Qp _ _ (RT (.ref i2) >>= _) _ _ _
 refine Qa (wpAny_nextOf_list_item (iH (iH (iH j2 b1 D.bz) b2 D.ab.symm) b3 D.qb.symm) (pM (pM (pM t2 b1 D.yz) b2 D.ya) b3 D.yq) hy fun h4 u2 b4=>Qh ?_)
 have q4:U7 h4 q x b:=(b4.2 _ D.qb).trans q3; refine Qa (R6 q4 rfl ?_); refine Qa (WK q4 fun h5 q5 b5=>?_)
 replace q5:U7 h5 q x y:=q5; refine Qa (Vv (Qh (Qh ?_))); refine Qa (R6 q5 rfl ?_); refine Qa (wpAny_newTuple ?_)
 have sz:h5.objs.size=s.heap.objs.size:=by rw[b5.1,b4.1,b3.1,b2.1,b1.1]
 have z5:Wx h5 z p q .ellipsis:=(b5.2 _ D.qz.symm).trans ((b4.2 _ D.bz.symm).trans ((b3.2 _ D.qz.symm).trans ((b2.2 _ D.az.symm).trans z1)))
 have kp:∀ c o,c≠z->c≠q->c≠i1->c≠i2->s.heap.get? c=some o->h5.get? c=some o:=fun c o c1 c2 c3 c4 e=>(b5.2 c c2).trans ((b4.2 c c4).trans ((b3.2 c c2).trans ((b2.2 c c3).trans ((b1.2 c c1).trans e))))
 have u15:h5.IsTupleIter i1 l1 (k+1):=nA (nA (nA u1 b3 D.qa.symm) b4 D.ab) b5 D.qa.symm
 have u25:h5.IsListIter i2 l2 (k+1):=iH u2 b5 D.qb.symm
 have zl:z < h5.objs.size:=Qt z5
 show Qp _ _ (Xe (.ref z) (.ref h5.objs.size) >>= _) _ _ _; refine Qa ?_; unfold Xe
 have z6:Wx (h5.push { cls:=.type "tuple",data:=.seq #[x,y] }) z p q .ellipsis:=Qd _ z5
 refine Qa (Ue z6 (by simp) fun h7 z7 b7=>?_); replace z7:Wx h7 z p q (Sd h5.objs.size):=z7
 refine Ue z7 (by simp) fun h8 z8 b8=>?_; replace z8:Wx h8 z p q (Sd h5.objs.size):=z8
 have up:∀ c o,c≠z->h5.get? c=some o->h8.get? c=some o:=fun c o c1 e=>(b8.2 c c1).trans ((b7.2 c c1).trans (Qd _ e))
 have t8:U7 h8 h5.objs.size x y:=(b8.2 _ (Sv zl)).trans ((b7.2 _ (Sv zl)).trans (Qn _ rfl))
 have s8:h8.objs.size=h5.objs.size+1:=by rw[b8.1,b7.1,Rf]
 rw[sz] at z8 t8 s8; refine Qh ⟨_,rfl,?_⟩
 show Qp _ _ _ _ _ _
 rw[sz]
 exact Qh (hQ h8 z8 (up _ _ D.qz q5) (by obtain⟨o,e,r⟩:=u15; exact⟨o,up _ o D.az e,r⟩) (by obtain⟨o,e,r⟩:=u25; exact⟨o,up _ o D.bz e,r⟩) t8 s8 fun c o c1 c2 c3 c4 e=>up c o c1 (kp c o c1 c2 c3 c4 e))
theorem Kl {z p q i1 i2 l1 l2:Addr} {k:Nat} {xs ys:Array Value} {a b:Value} {Q:Fin->Qe->Prop} (hh:A.handled=none) (D:Zap z p q i1 i2 l1 l2)
  (hz:Wx s.heap z p q .none) (hp:U7 s.heap p (.ref i1) (.ref i2)) (hq:U7 s.heap q a b) (j1:s.heap.IsTupleIter i1 l1 k) (j2:s.heap.IsListIter i2 l2 k) (t1:s.heap.IsTuple l1 xs) (t2:s.heap.IsList l2 ys)
  (hend:xs[k]? = none∨ys[k]? = none) (hE:∀ h' e,(∀ c o,c≠z->c≠q->c≠i1->c≠i2->s.heap.get? c=some o->h'.get? c=some o)->(∃ o,h'.get? e=some o/\o.cls = .type "StopIteration")->E (.ref e) { s with heap:=h' }) :
  Qp (Qy prog w) A (Uu.«zip.__next__» ⟨[.ref z],[]⟩) Q E s:=by
 show Qp _ _ (field (.ref z) 2 >>= _) _ _ _; refine Qa (RJ hz rfl (x:=.bool false) rfl ?_)
 show Qp _ _ (field (.ref z) 3 >>= _) _ _ _; refine Qa (RJ hz rfl (x:=.ref p) rfl ?_); refine Qa (R6 hp rfl ?_)
 show Qp _ _ (Ti (.ref z) >>= _) _ _ _; refine Qa ?_; unfold Ti
 refine Qa (RJ hz rfl (x:=.none) rfl (Qh ?_)); simp only[if_true]; refine Qa (Uv ?_); refine Qa (RJ hz rfl (x:=.ref q) rfl ?_)
 refine Qa (Ue hz (by simp) fun h1 z1 b1=>?_); replace z1:Wx h1 z p q .ellipsis:=z1
 refine Qa ?_; simp only[List.zipIdx_cons,List.zipIdx_nil,Yl,W6]; refine Qa (Qa (Xf ?_))
 show Qp _ _ (RT (.ref i1) >>= _) _ _ _
 cases hx:xs[k]? with
 | none =>
  refine Qa (Mt hh (nA j1 b1 D.az) (CW t1 b1 D.xz) hx fun h2 e b2 he=>?_)
  obtain⟨oe,ho,hc⟩:=he
  have z2:Wx h2 z p q .ellipsis:=b2 _ _ D.az.symm z1
  have ez:e≠z:=fun u=>by subst u; rw[z2] at ho; cases ho; simp at hc
  exact Ue z2 (by simp) fun h3 _ b3=>hE h3 e (fun c o c1 _ c3 _ u=>(b3.2 c c1).trans (b2 _ _ c3 ((b1.2 c c1).trans u))) ⟨oe,(b3.2 e ez).trans ho,hc⟩
 | some x =>
  have hy:ys[k]? = none:=hend.elim (fun u=>by rw[hx] at u; cases u) id
  refine Qa (Bc (nA j1 b1 D.az) (CW t1 b1 D.xz) hx fun h2 u1 b2=>Qh ?_)
  have q2:U7 h2 q a b:=(b2.2 _ D.qa).trans ((b1.2 _ D.qz).trans hq); refine Qa (R6 q2 rfl ?_); refine Qa (WK q2 fun h3 q3 b3=>?_)
  refine Qa (Vv (Qh ?_)); refine Qa (Qa (Xf ?_)); show Qp _ _ (RT (.ref i2) >>= _) _ _ _
  refine Qa (wpAny_nextOf_list_end hh (iH (iH (iH j2 b1 D.bz) b2 D.ab.symm) b3 D.qb.symm) (pM (pM (pM t2 b1 D.yz) b2 D.ya) b3 D.yq) hy fun h4 e b4 he=>?_)
  obtain⟨oe,ho,hc⟩:=he
  have z4:Wx h4 z p q .ellipsis:=b4 _ _ D.bz.symm ((b3.2 _ D.qz.symm).trans ((b2.2 _ D.az.symm).trans z1))
  have ez:e≠z:=fun u=>by subst u; rw[z4] at ho; cases ho; simp at hc
  exact Ue z4 (by simp) fun h5 _ b5=>hE h5 e (fun c o c1 c2 c3 c4 u=>(b5.2 c c1).trans (b4 _ _ c4 ((b3.2 c c2).trans ((b2.2 c c3).trans ((b1.2 c c1).trans u))))) ⟨oe,(b5.2 e ez).trans ho,hc⟩
theorem Nh {z p q i1 i2 l1 l2:Addr} {k:Nat} {xs ys:Array Value} {a b:Value} {Q:Option Value->Qe->Prop} (hh:A.handled=none) (D:Zap z p q i1 i2 l1 l2)
  (hz:Wx s.heap z p q .none) (hp:U7 s.heap p (.ref i1) (.ref i2)) (hq:U7 s.heap q a b) (j1:s.heap.IsTupleIter i1 l1 k) (j2:s.heap.IsListIter i2 l2 k) (t1:s.heap.IsTuple l1 xs) (t2:s.heap.IsList l2 ys)
  (hend:xs[k]? = none∨ys[k]? = none) (hQ:∀ h',(∀ c o,c≠z->c≠q->c≠i1->c≠i2->s.heap.get? c=some o->h'.get? c=some o)->Q none { s with heap:=h' }):Qp (Qy prog w) A (Tt (.ref z)) Q E s:=by
 have hT:s.TypeIs (.ref z) "zip":=⟨_,hz,rfl⟩; unfold Tt
 refine Qa (Up (Rx (name:=Tf "__next__") hT Wy (Rm Wy hT F.entry_zip_next (Kl hh D hz hp hq j1 j2 t1 t2 hend fun h' e kp he=>?_) (F.args_zip_next_1 _))))
 obtain⟨o,ho,hc⟩:=he
 exact Qa (UL (T:="StopIteration") (b:=true) ⟨o,ho,hc⟩ WQ (Qh (hQ _ kp)))
abbrev uB (h:Rv) (t:Addr):Rv:=h.push { cls:=.type "list_iterator",data:=.fields #[.ref t,.int 0 0] }
abbrev uC (h:Rv) (t u:Addr):Rv:=(uB (zA h t) u).push { cls:=.type "tuple",data:=.seq #[.ref h.objs.size,.ref (zA h t).objs.size] }
abbrev uD (h:Rv) (t u:Addr):Rv:=(uC h t u).push { cls:=.type "tuple",data:=.seq #[.none,.none] }
abbrev uE (h:Rv) (t u:Addr):Rv:=(uD h t u).push { cls:=.type "zip",data:=.fields #[.none,.bool false,.bool false,.ref (uB (zA h t) u).objs.size,.ref (uC h t u).objs.size] }
theorem KZ (l1 l2:Addr) (xs ys:Array Value) :
  Meets (Uu.«zip.__new__» ⟨[.type "zip",.ref l1,.ref l2],[]⟩) (fun _ R s=>s.heap.IsTuple l1 xs/\s.heap.IsList l2 ys/\R (.ok (.ret (.ref (uD s.heap l1 l2).objs.size))) { s with heap:=uE s.heap l1 l2 }) :=
 .of_wp fun prog w A R s h=>by
  obtain⟨hp,g,d,tk,os⟩:=s; obtain⟨a1,a2,h⟩:=h; have hsub:=sub_zip
  have T1:Heap.IsTuple (Shared.heap ⟨hp,g,d,tk,os⟩) l1 xs:=a1
  have T2:Heap.IsList (Shared.heap ⟨hp.push { cls:=.type "tuple_iterator",data:=.fields #[.ref l1,.int 0 0] },g,d,tk,os⟩) l2 ys:=by
   obtain⟨o,e,r⟩:=a2
   exact⟨o,Qd _ e,r⟩
  wp_walk using wpAny_pyIter_tuple T1,Us T2
  exact⟨_,rfl,h⟩
theorem Jy {l1 l2:Addr} {xs ys:Array Value} {Q:Value->Qe->Prop} (t1:s.heap.IsTuple l1 xs) (t2:s.heap.IsList l2 ys)
  (h:∀ h',Wx h' (s.heap.objs.size+4) (s.heap.objs.size+2) (s.heap.objs.size+3) .none->U7 h' (s.heap.objs.size+2) (.ref s.heap.objs.size) (.ref (s.heap.objs.size+1))->U7 h' (s.heap.objs.size+3) .none .none →
   h'.IsTupleIter s.heap.objs.size l1 0->h'.IsListIter (s.heap.objs.size+1) l2 0->(∀ c o,s.heap.get? c=some o->h'.get? c=some o)->Q (.ref (s.heap.objs.size+4)) { s with heap:=h' }) :
  Qp (Qy prog w) A (call (.type "zip") [.ref l1,.ref l2]) Q E s:=by
 refine callType_new F.called_zip (by decide) (F.typeCall_zip_2 _ _) (F.newCall_zip_2 _ _) (fun obj=>F.args_object_init_3 obj _ _) F.entry_zip_new (KZ l1 l2 xs ys) ⟨t1,t2,?_⟩
 have y1:(zA s.heap l1).objs.size=s.heap.objs.size+1:=Rf ..
 have y2:(uB (zA s.heap l1) l2).objs.size=s.heap.objs.size+2:=by rw[Rf,y1]
 have y3:(uC s.heap l1 l2).objs.size=s.heap.objs.size+3:=by rw[Rf,y2]
 have y4:(uD s.heap l1 l2).objs.size=s.heap.objs.size+4:=by rw[Rf,y3]
 have w5:(uE s.heap l1 l2).get? (uD s.heap l1 l2).objs.size=some _:=Qn _ rfl
 have w4:(uE s.heap l1 l2).get? (uC s.heap l1 l2).objs.size=some _:=Qd _ (Qn _ rfl)
 have w3:(uE s.heap l1 l2).get? (uB (zA s.heap l1) l2).objs.size=some _:=Qd _ (Qd _ (Qn _ rfl))
 have w2:(uE s.heap l1 l2).get? (zA s.heap l1).objs.size=some _:=Qd _ (Qd _ (Qd _ (Qn _ rfl)))
 have w1:(uE s.heap l1 l2).get? s.heap.objs.size=some _:=Qd _ (Qd _ (Qd _ (Qd _ (Qn _ rfl))))
 show _/\_
 rw[y2,y3,y4] at w5; rw[y1,y2] at w3; rw[y3] at w4; rw[y1] at w2; rw[y4]
 exact⟨⟨_,w5,rfl⟩,h _ w5 w3 w4 ⟨_,w1,rfl,rfl⟩ ⟨_,w2,rfl,rfl⟩ fun c o u=>Qd _ (Qd _ (Qd _ (Qd _ (Qd _ u))))⟩
end
def Itu (K : QF) (a b : Addr) : It :=
  ⟨fun i H => ∃ xs ys x y, SqT K H a xs ∧ SqL K H b ys ∧ xs[i]? = some x ∧ ys[i]? = some y,
   fun i H v H' => ∃ p x y, H p = none ∧ v = .ref p ∧ (∀ xs, SqT K H a xs → xs[i]? = some x) ∧ (∀ ys, SqL K H b ys → ys[i]? = some y) ∧ H' = upd H p (.tup [x, y]),
   fun i H => ∃ xs ys, SqT K H a xs ∧ SqL K H b ys ∧ (xs.length ≤ i ∨ ys.length ≤ i)⟩
def tnU (z p q i1 i2 a b:Addr) (i:Nat) (h:Rv):Prop:=Wx h z p q .none/\U7 h p (.ref i1) (.ref i2)/\(∃ u v,U7 h q u v)/\h.IsTupleIter i1 a i/\h.IsListIter i2 b i
theorem Fq {P:QK} {w:Q3} {K:QF} {elts:List Expr} {x1} {pos:V5} {z p q i1 i2 a b:Addr} (D:Zap z p q i1 i2 a b) :
  Turn P w K (.Tuple elts x1 pos) (Itu K a b) [z,p,q,i1,i2] z (tnU z p q i1 i2 a b) where
 mem:=by simp
 obj:=fun i h st c hc=>by
  obtain⟨hz,hp,⟨u,v,hq⟩,⟨o1,e1,_,d1⟩,⟨o2,e2,_,d2⟩⟩:=st
  simp only[Sq,U0,or_false] at hc
  rcases hc with rfl | rfl | rfl | rfl | rfl
  ·exact⟨_,hz,fun v z=>by cases z⟩
  ·exact⟨_,hp,fun v z=>by cases z⟩
  ·exact⟨_,hq,fun v z=>by cases z⟩
  ·exact⟨_,e1,fun v z=>by rw[d1] at z; cases z⟩
  ·exact⟨_,e2,fun v z=>by rw[d2] at z; cases z⟩
 keep:=fun i h h' st k=>by
  obtain⟨hz,hp,⟨u,v,hq⟩,⟨o1,e1,r1⟩,⟨o2,e2,r2⟩⟩:=st
  exact⟨k z (by simp) _ hz,k p (by simp) _ hp,⟨u,v,k q (by simp) _ hq⟩,⟨o1,k i1 (by simp) _ e1,r1⟩,⟨o2,k i2 (by simp) _ e2,r2⟩⟩
 item:=by
  intro X hP hw hK hc i pins s σ H E I hf st hg
  subst hP hw hK
  obtain⟨xs,ys,x,y,hx,hy,ex,ey⟩:=hg
  obtain⟨hz,hp,⟨u,v,hq⟩,j1,j2⟩:=st
  obtain⟨its,rv,tp,_⟩:=I.tuple hx
  obtain⟨its2,rv2,tp2,_⟩:=I.list hy
  obtain⟨xu,hxu,rx⟩:=rv.get ex
  obtain⟨yu,hyu,ry⟩:=rv2.get ey
  refine Km D hz hp hq j1 j2 (show s.heap.IsTuple a its.toArray from tp) (show s.heap.IsList b its2.toArray from tp2.isList) (x:=xu) (y:=yu) (by simpa using hxu) (by simpa using hyu) fun h' z' q' u1 u2 t' _ kp=>⟨_,rfl,?_⟩
  refine wpAny_letOwnedTupleGo_zip z' fun h2 z2 b2=>?_
  have lt:∀ {c o},s.heap.get? c=some o->c < s.heap.objs.size:=fun e=>Qt e
  have zne:s.heap.objs.size≠z:=Sv (lt hz)
  have hfr:H s.heap.objs.size=none:=I.fresh
  have I1:Inv X pins σ (upd H s.heap.objs.size (.tup [x,y])) { s with heap:=s.heap.push { cls:=.type "tuple",data:=.seq #[xu,yu] } } :=
   I.laid (t':=s.toks) (fun _ _ e=>Qd _ e) (Ql _) ⟨by show 2<=sizeLine; decide,[xu,yu],.cons rx (.cons ry .nil),⟨_,Qn _ rfl,rfl,_,rfl⟩⟩
  have blt:∀ c∈[z,p,q,i1,i2],c < s.heap.objs.size:=fun c hc=>by
   obtain⟨_,e1,_⟩:=j1
   obtain⟨_,e2,_⟩:=j2
   simp only[Sq,U0,or_false] at hc
   rcases hc with rfl | rfl | rfl | rfl | rfl
   ·exact lt hz
   ·exact lt hp
   ·exact lt hq
   ·exact lt e1
   ·exact lt e2
  have ff:∀ c∈[z,p,q,i1,i2],pG X pins (upd H s.heap.objs.size (.tup [x,y])) c:=fun c hc=>by
   obtain⟨f0,fr⟩:=hf c hc
   exact⟨by rw[bx (QJ (blt c hc))]; exact f0,fr⟩
  have kk:∀ c o,c ∉ [z,q,i1,i2]->(s.heap.push { cls:=.type "tuple",data:=.seq #[xu,yu] }).get? c=some o->h2.get? c=some o:=fun c o hc e=>by
   have c1:c≠z:=fun h=>hc (by simp [h])
   refine (b2.2 c c1).trans ?_
   rcases Heap.get?_push_cases e with⟨ec,eo⟩ | e'
   ·subst ec
    subst eo
    exact t'
   ·exact kp c o c1 (fun h=>hc (by simp [h])) (fun h=>hc (by simp [h])) (fun h=>hc (by simp [h])) e'
  have I2:Inv X pins σ (upd H s.heap.objs.size (.tup [x,y])) { s with heap:=h2 } :=
   Inv.qR (s:={ s with heap:=s.heap.push { cls:=.type "tuple",data:=.seq #[xu,yu] } }) (h':=h2) (t':=s.toks) (ch:=[z,q,i1,i2]) I1 kk fun c hc=>ff c (by
    simp only[Sq] at hc ⊢
    rcases hc with h | h | h | h
    ·exact .inl h
    ·exact .inr (.inr (.inl h))
    ·exact .inr (.inr (.inr (.inl h)))
    ·exact .inr (.inr (.inr (.inr h))))
  refine⟨.ref s.heap.objs.size,_,I2,rfl,⟨_,x,y,hfr,rfl,fun zs hzs=>?_,fun zs hzs=>?_,rfl⟩,⟨z2,(b2.2 _ D.pz).trans (kp _ _ D.pz D.pq D.pa D.pb hp),⟨_,_,(b2.2 _ D.qz).trans q'⟩,nA u1 b2 D.az,iH u2 b2 D.bz⟩,fun c hc=>(ff c hc).1⟩
  ·rw[I.oJ hzs hx]; exact ex
  ·rw[I.su hzs hy]; exact ey
 done:=by
  intro X hP hw hK hc i pins s σ H E I hf st hg
  subst hP hw hK
  obtain⟨xs,ys,hx,hy,hend⟩:=hg
  obtain⟨hz,hp,⟨u,v,hq⟩,j1,j2⟩:=st
  obtain⟨its,rv,tp,_⟩:=I.tuple hx
  obtain⟨its2,rv2,tp2,_⟩:=I.list hy
  have l1:=rv.length
  have l2:=rv2.length
  refine Nh (I.ok.hd hc) D hz hp hq j1 j2 (show s.heap.IsTuple a its.toArray from tp) (show s.heap.IsList b its2.toArray from tp2.isList) (hend.imp (fun h=>by simp; lia) fun h=>by simp; lia) fun h' kp=>⟨rfl,?_⟩
  exact I.qR (t':=s.toks) (ch:=[z,q,i1,i2]) (fun c o hc e=>kp c o (fun h=>hc (by simp [h])) (fun h=>hc (by simp [h])) (fun h=>hc (by simp [h])) (fun h=>hc (by simp [h])) e)
   fun c hc=>hf c (by simp only[Sq] at hc ⊢; rcases hc with h | h | h | h; exact .inl h; exact .inr (.inr (.inl h)); exact .inr (.inr (.inr (.inl h))); exact .inr (.inr (.inr (.inr h))))
 self:=fun _ _ _ _ _ st h=>wpAny_pyIter_zip st.1 h
def Pn (K:QF) (ta:TA):TI:=fun σ H R=>ta σ H fun vs H1=>∃ a b xs ys,vs=[.ref a,.ref b]/\SqT K H1 a xs/\SqL K H1 b ys/\R (Itu K a b) H1
theorem Iu {X:Cx} {elts:List Expr} {x1} {tpos:V5} {a b:Expr} {ta:TA} {p pos:V5} (hg:Gl X "zip") (hm:X.mg "zip" = none) (ha:PA X [a,b] ta) (hs:QS [a,b] X.env=[(false,S6 a X.env),(false,S6 b X.env)]:=by rfl) (hs2:QS [b] X.env=[(false,S6 b X.env)]:=by rfl) :
  PI X (.Tuple elts x1 tpos) (.Call (.Name "zip" p) [a,b] [] pos) (Pn X.K ta):=by
 intro pins s σ H R I h
 refine Call_ (jh I hg hm boot_zip (Sy (thn (ha pos pins s σ H _ I h) fun us s1 ⟨vs,H1,I1,r1,q1⟩=>?_) (by rw[hs,hs2]) (by rw[hs2]; rfl)))
 obtain⟨c,d,xs,ys,e,hx,hy,q⟩:=q1
 subst e
 obtain⟨u1,u2,rfl,ru1,ru2⟩:=vals2 r1
 cases ru1
 cases ru2
 obtain⟨its,_,tp,_⟩:=I1.tuple hx
 obtain⟨its2,_,tp2,_⟩:=I1.list hy
 refine Jy (show s1.heap.IsTuple c its.toArray from tp) (show s1.heap.IsList d its2.toArray from tp2.isList) fun h' z' p' q' j1 j2 kp=>?_
 have lc:c < s1.heap.objs.size:=by obtain⟨o,e,_⟩:=tp; exact Qt e
 have ld:d < s1.heap.objs.size:=by obtain⟨o,e,_⟩:=tp2.isList; exact Qt e
 have D:Zap (s1.heap.objs.size+4) (s1.heap.objs.size+2) (s1.heap.objs.size+3) s1.heap.objs.size (s1.heap.objs.size+1) c d:=JV lc ld
 refine wpAny_pyIter_zip z' ⟨_,_,_,_,H1,rfl,I1.kept (t':=s1.toks) kp,Fq D,⟨z',p',⟨_,_,q'⟩,j1,j2⟩,fun e he=>?_,q⟩
 have hle:s1.heap.objs.size<=e:=by
  simp only[Sq,U0,or_false] at he
  rcases he with rfl | rfl | rfl | rfl | rfl <;> lia
 exact I1.Ii hle (I1.hok.fresh hle)
theorem yW {K:QF} {a b D:Addr} {xs ys:List V} {g:TG} {tt:TT} {te:TE} {H1:Hp} {Q:Hp->Prop} {σ0:St} (hlen:xs.length=ys.length) (Pv:Nat->List V->St->Hp->Prop) (h0:Pv 0 [] σ0 (upd H1 D (.lst [])))
  (hl:∀ i zs σ H,i<=xs.length->Pv i zs σ H->SqT K H a xs/\SqL K H b ys/\H D=some (.lst zs))
  (hs:∀ i zs x y p σ H,xs[i]? = some x->ys[i]? = some y->H p=none->Pv i zs σ H->g (.ref p) σ (upd H p (.tup [x,y])) fun σ3 H3=>tt σ3 H3 fun c H4=>if c=true then te σ3 H4 fun v H5=>H5 D=some (.lst zs)/\zs.length < sizeLine/\Pv (i+1) (zs++[v]) σ3 (upd H5 D (.lst (zs++[v]))) else Pv (i+1) zs σ3 H4)
  (hd:∀ zs σ H,Pv xs.length zs σ H->Q H):gU D σ0 (Itu K a b) g tt te H1 Q:=by
 refine⟨fun i m zs σ H=>m=xs.length - i/\i<=xs.length/\Pv i zs σ H,⟨xs.length,by simp,QW _,h0⟩,?_⟩
 rintro i m zs σ H ⟨rfl,hi,p⟩
 obtain⟨q1,q2,qD⟩:=hl i zs σ H hi p
 refine⟨qD,?_⟩
 by_cases hlt:i < xs.length
 ·have hlt2:i < ys.length:=by lia
  refine .inr ⟨⟨xs,ys,xs[i],ys[i],q1,q2,by simp [hlt],by simp [hlt2]⟩,Pv (i+1),fun zs' σ' H' p'=>⟨xs.length - (i+1),by lia,rfl,hlt,p'⟩,fun v H' y=>?_⟩
  obtain⟨pp,x,y,hp,rfl,hx,hy,rfl⟩:=y
  exact hs i zs x y pp σ _ (hx xs q1) (hy ys q2) hp p
 ·have e:i=xs.length:=by lia
  subst e
  exact .inl ⟨⟨xs,ys,q1,q2,.inl (Ql _)⟩,hd zs σ H p⟩
end L2
namespace L2
open PySem PySem.Spec PyProof.Rows
def Itn (K : QF) (a : Addr) : It :=
  ⟨fun i H => ∃ xs x, SqL K H a xs ∧ xs[i]? = some x,
   fun i H v H' => ∃ p x, H p = none ∧ v = .ref p ∧ (∀ xs, SqL K H a xs → xs[i]? = some x) ∧ H' = upd H p (.tup [.int (i : Int), x]),
   fun i H => ∃ xs, SqL K H a xs ∧ xs.length ≤ i⟩
def tnN (e it a:Addr) (i:Nat) (h:Rv):Prop:=(∃ old,IsEnum h e it (i:Int) old)/\h.IsListIter it a i
theorem DY {P:QK} {w:Q3} {K:QF} {elts:List Expr} {x1} {pos:V5} {e it a:Addr} (hne:e≠it) :
  Turn P w K (.Tuple elts x1 pos) (Itn K a) [e,it] e (tnN e it a) where
 mem:=by simp
 obj:=fun i h st c hc=>by
  obtain⟨⟨old,he⟩,⟨o,ho,_,d⟩⟩:=st
  simp only[Sq,U0,or_false] at hc
  rcases hc with rfl | rfl
  ·exact⟨_,he,fun v z=>by cases z⟩
  ·exact⟨_,ho,fun v z=>by rw[d] at z; cases z⟩
 keep:=fun i h h' st k=>by
  obtain⟨⟨old,he⟩,j⟩:=st
  exact⟨⟨old,k e (by simp) _ he⟩,j.at fun o q=>k it (by simp) o q⟩
 item:=by
  intro X hP hw hK hc i pins s σ H E I hf st hg
  subst hP hw hK
  obtain⟨xs,x,hx,ex⟩:=hg
  obtain⟨⟨old,he⟩,j⟩:=st
  obtain⟨its,rv,pl,_⟩:=I.list hx
  obtain⟨xu,hxu,rx⟩:=rv.get ex
  refine wpAny_pyNext_enum_item he j pl.isList (x:=xu) (by simpa using hxu) hne fun h' e1 j1 t1 z1 kp=>⟨_,rfl,?_⟩
  refine wpAny_letOwnedTupleGo_enum e1 fun h2 e2 b2=>?_
  have el:e < s.heap.objs.size:=Qt he
  have il:it < s.heap.objs.size:=by obtain⟨o,q,_⟩:=j; exact Qt q
  have I1:Inv X pins σ (upd H s.heap.objs.size (.tup [.int (i:Int),x])) { s with heap:=s.heap.push { cls:=.type "tuple",data:=.seq #[.int i s.toks,xu] },toks:=s.toks+1 } :=
   I.laid (t':=s.toks+1) (fun _ _ q=>Qd _ q) (Ql _) ⟨by show 2<=sizeLine; decide,[.int i s.toks,xu],.cons ⟨_,rfl⟩ (.cons rx .nil),⟨_,Qn _ rfl,rfl,_,rfl⟩⟩
  have ff:∀ c∈[e,it],pG X pins (upd H s.heap.objs.size (.tup [.int (i:Int),x])) c:=fun c hc=>by
   obtain⟨f0,fr⟩:=hf c hc
   have cl:c < s.heap.objs.size:=by
    simp only[Sq,U0,or_false] at hc
    rcases hc with rfl | rfl
    ·exact el
    ·exact il
   exact⟨by rw[bx (QJ cl)]; exact f0,fr⟩
  have kk:∀ c o,c ∉ [e,it]->(s.heap.push { cls:=.type "tuple",data:=.seq #[.int i s.toks,xu] }).get? c=some o->h2.get? c=some o:=fun c o hc q=>by
   have c1:c≠e:=fun h=>hc (by simp [h])
   have c2:c≠it:=fun h=>hc (by simp [h])
   refine (b2.2 c c1).trans ?_
   rcases Heap.get?_push_cases q with⟨ec,eo⟩ | q'
   ·subst ec
    subst eo
    exact t1
   ·exact kp c o c1 c2 q'
  have I2:Inv X pins σ (upd H s.heap.objs.size (.tup [.int (i:Int),x])) { s with heap:=h2,toks:=s.toks+1 } :=
   Inv.qR (s:={ s with heap:=s.heap.push { cls:=.type "tuple",data:=.seq #[.int i s.toks,xu] },toks:=s.toks+1 }) (h':=h2) (t':=s.toks+1) (ch:=[e,it]) I1 kk ff
  refine⟨.ref s.heap.objs.size,_,I2,rfl,⟨_,x,I.fresh,rfl,fun zs hzs=>?_,rfl⟩,⟨⟨_,e2⟩,j1.at fun o q=>(b2.2 it (Uh hne)).trans q⟩,fun c hc=>(ff c hc).1⟩
  rw[I.su hzs hx]; exact ex
 done:=by
  intro X hP hw hK hc i pins s σ H E I hf st hg
  subst hP hw hK
  obtain⟨xs,hx,hend⟩:=hg
  obtain⟨⟨old,he⟩,j⟩:=st
  obtain⟨its,rv,pl,_⟩:=I.list hx
  have l1:=rv.length
  refine wpAny_pyNext_enum_end (I.ok.hd hc) he j pl.isList (by simp; lia) fun h' eb=>⟨rfl,?_⟩
  exact I.qR (t':=s.toks) (ch:=[e,it]) (fun c o hc q=>eb c o (fun h=>hc (by simp [h])) q) hf
 self:=fun _ _ _ _ _ st h=>by
  obtain⟨⟨old,he⟩,_⟩:=st
  exact wpAny_pyIter_enum he h
def N7 (K:QF) (ta:TA):TI:=fun σ H R=>ta σ H fun vs H1=>∃ a xs,vs=[.ref a]/\H1 a=some (.lst xs)/\R (Itn K a) H1
theorem Kw {X:Cx} {elts:List Expr} {x1} {tpos:V5} {a:Expr} {ta:TA} {p pos:V5} (hg:Gl X "enumerate") (hm:X.mg "enumerate" = none) (ha:PA X [a] ta) (hs:QS [a] X.env=[(false,S6 a X.env)]:=by rfl) :
  PI X (.Tuple elts x1 tpos) (.Call (.Name "enumerate" p) [a] [] pos) (N7 X.K ta):=by
 intro pins s σ H R I h
 refine Call_ (jh I hg hm boot_enumerate (Sy (thn (ha pos pins s σ H _ I h) fun us s1 ⟨vs,H1,I1,r1,q1⟩=>?_) hs rfl))
 obtain⟨c,xs,e,hx,q⟩:=q1
 subst e
 obtain⟨u1,rfl,ru1⟩:=vals1 r1
 cases ru1
 obtain⟨z,its,n,rv,ho⟩:=I1.hok c _ hx
 refine call_enumerate_1 ho fun h' e1 j1 _ kp=>?_
 have en:s1.heap.objs.size+1≠s1.heap.objs.size:=Sv (R7 _)
 refine wpAny_pyIter_enum e1 ⟨_,_,_,_,H1,rfl,I1.kept (t':=s1.toks) kp,DY (a:=c) en,⟨⟨_,e1⟩,j1⟩,fun b hb=>?_,q⟩
 have hle:s1.heap.objs.size<=b:=by
  simp only[Sq,U0,or_false] at hb
  rcases hb with rfl | rfl
  ·exact S5 _
  ·exact Ql _
 exact I1.Ii hle (I1.hok.fresh hle)
theorem Fg {K:QF} {a:Addr} {xs:List V} {g:TG} {tb:TS} {D:Ends} {σ:St} {H:Hp} (Pv:Nat->St->Hp->Prop) (h0:Pv 0 σ H) (hl:∀ i σ H,i<=xs.length->Pv i σ H->SqL K H a xs)
  (hs:∀ i x p σ H,xs[i]? = some x->H p=none->Pv i σ H->g (.ref p) σ (upd H p (.tup [.int (i:Int),x])) fun σ2 H2=>tb { D with nx:=Pv (i+1),ct:=Pv (i+1),bk:=D.nx } σ2 H2) (hd:∀ σ H,Pv xs.length σ H->D.nx σ H) :
  ∃ W:Nat->Nat->St->Hp->Prop,(∃ m,W 0 m σ H)/\∀ i m σ H,W i m σ H →
   ((Itn K a).stop i H/\D.nx σ H)∨((Itn K a).go i H/\∃ N:St->Hp->Prop,(∀ σ' H',N σ' H'->∃ m',m' < m/\W (i+1) m' σ' H')/\∀ x H',(Itn K a).yld i H x H'->g x σ H' fun σ2 H2=>tb { D with nx:=N,ct:=N,bk:=D.nx } σ2 H2):=by
 refine⟨fun i m σ H=>m=xs.length - i/\i<=xs.length/\Pv i σ H,⟨xs.length,by simp,QW _,h0⟩,?_⟩
 rintro i m σ H ⟨rfl,hi,p⟩
 have q1:=hl i σ H hi p
 by_cases hlt:i < xs.length
 ·refine .inr ⟨⟨xs,xs[i],q1,by simp [hlt]⟩,Pv (i+1),fun σ' H' p'=>⟨xs.length - (i+1),by lia,rfl,hlt,p'⟩,fun v H' y=>?_⟩
  obtain⟨pp,x,hp,rfl,hx,rfl⟩:=y
  exact hs i x pp σ _ (hx xs q1) hp p
 ·have e:i=xs.length:=by lia
  subst e
  exact .inl ⟨⟨xs,q1,Ql _⟩,hd σ H p⟩
end L2
namespace L2
open PySem PySem.Spec PyProof.Rows
section
variable {X:Cx} {k:Nat}
inductive Im (K:QF) (x:V) (y:V) (H:Hp) (Q:VK):Prop where
 | mk (a b:Addr) (ns ms:List Int) (z0:x = .ref a) (z1:y = .ref b) (z2:SqT K H a (ns.map V.int)) (z3:SqT K H b (ms.map V.int)) (z4:Q (.bl (!decide (ns=ms))) H):Im K x y H Q
def Mg (K:QF):R2:=fun x y H Q=>Im K x y H Q
theorem JC (hu:X.A.units < cLine):OpR X (Tj .NotEq) (Mg X.K):=by
 intro pins s σ H x y v u Q I rx ry h
 obtain⟨a,b,ns,ms,rfl,rfl,ha,hb,q⟩:=h
 cases rx
 cases ry
 obtain⟨its,r1,p1,_⟩:=I.tuple ha
 obtain⟨its2,r2,p2,_⟩:=I.tuple hb
 have i1:Rz its ns:=intsAre_of r1
 have i2:Rz its2 ms:=intsAre_of r2
 have l1:=i1.length
 have l2:=i2.length
 have r:=SeqAt.RcNeAt.tuples (e:=fun j=>ns.getD j 0 == ms.getD j 0) (show s.heap.IsTuple a its.toArray from p1) (show s.heap.IsTuple b its2.toArray from p2) hu fun j h1 h2=>by
  obtain⟨t,e1⟩:=ints_get i1 (j:=j) (by simpa using h1)
  obtain⟨t',e2⟩:=ints_get i2 (j:=j) (by simpa using h2)
  rw[Vy,Vy,e1,e2]
  exact Xm _ _ _ _
 have e:=nj ns ms
 have s1:its.toArray.size=ns.length:=by rw[Qz]; exact l1
 have s2:its2.toArray.size=ms.length:=by rw[Qz]; exact l2
 rw[s1,s2,e] at r
 exact r X.prog X.w X.xe _ ⟨.bl _,H,I,rfl,q⟩
end
end L2
namespace L2
open PySem PySem.Spec PyProof.Rows
theorem sH {X:Cx} {tg l:Expr} {tl:TE} (K:QF) (hK:X.K=K) (hl:PE X l tl):PI X tg l (Jz K tl):=by
 subst hK
 exact dN hl
theorem KC {X:Cx} {tg l:Expr} {tl:TE} (K:QF) (hK:X.K=K) (hl:PE X l tl):PI X tg l (Om K tl):=by
 subst hK
 exact dj hl
end L2
namespace L2
open PySem PySem.Spec PyProof.Rows
section
variable {prog:QK} {w:Q3} {A:Q5} {E:Value->Qe->Prop} {s:Qe}
end
end L2
namespace L2
open PySem PySem.Spec PyProof.Rows
end L2
namespace L2
open PySem PySem.Spec PyProof.Rows
section
variable {X:Cx}
end
end L2
namespace L2
open PySem PySem.Spec PyProof.Rows
end L2
namespace L2
open PySem PySem.Spec PyProof.Rows
section
variable {X:Cx}
end
end L2
namespace L2
open PySem PySem.Spec PyProof.Rows
theorem wy (elt t0 i0 t1 i1:Expr) (scope:TX) (pos:V5) (it acc:Value) (env:XM) :
  compTurn (.ListComp elt [⟨t0,i0,[],0⟩,⟨t1,i1,[],0⟩] scope pos) 0 it acc env=(do
   VJ i0.pos
   match ← Tt it with
   | none=>pure (.done .next)
   | some v =>
    Tv t0 it v
    Wj t0 env v
    let x ← S6 i1 env
    VJ i1.pos
    let x ← SN i1 env x
    let _ ← runOwn (.compStart (.ListComp elt [⟨t0,i0,[],0⟩,⟨t1,i1,[],0⟩] scope pos) 1 (← VL [x] (WM x)) acc env) env
    again (.compLoop (.ListComp elt [⟨t0,i0,[],0⟩,⟨t1,i1,[],0⟩] scope pos) 0 it acc env)):=by rfl
theorem wU (elt t0 i0 t1 i1:Expr) (scope:TX) (pos:V5) (it acc:Value) (env:XM) :
  compTurn (.ListComp elt [⟨t0,i0,[],0⟩,⟨t1,i1,[],0⟩] scope pos) 1 it acc env=(VJ i1.pos >>= fun _=>Tt it >>= fun r=>match r with
   | none=>pure (.done .next)
   | some v=>Tv t1 it v >>= fun _=>Wj t1 env v >>= fun _ =>
    (S6 elt env >>= fun x=>call (.builtin "list.append") [acc,x] >>= fun _=>pure ()) >>= fun _ =>
     again (.compLoop (.ListComp elt [⟨t0,i0,[],0⟩,⟨t1,i1,[],0⟩] scope pos) 1 it acc env)):=by rfl
section
variable {prog:QK} {w:Q3} {A:Q5} {R:WW->Qe->Prop} {s:Qe} {elt t0 i0 t1 i1:Expr} {scope:TX} {pos:V5} {it acc:Value} {env:XM}
theorem vp (h0:R5 (Qy prog w) A (.compLoop (.ListComp elt [⟨t0,i0,[],0⟩,⟨t1,i1,[],0⟩] scope pos) 1 it acc env) R s)
  (h:Qp (Qy prog w) A (WM it) (fun it' s'=>R5 (Qy prog w) A (.compLoop (.ListComp elt [⟨t0,i0,[],0⟩,⟨t1,i1,[],0⟩] scope pos) 1 it' acc env) R s') (notedBy (Qy prog w) A env fun x s'=>R (.error x) s') s) :
  R5 (Qy prog w) A (.compStart (.ListComp elt [⟨t0,i0,[],0⟩,⟨t1,i1,[],0⟩] scope pos) 1 it acc env) R s:=by
 refine Yg ?_
 show Qp _ _ ((compStart (.ListComp elt [⟨t0,i0,[],0⟩,⟨t1,i1,[],0⟩] scope pos) 1 it acc env).onRaise (fun x=>do noteFrame x env; VJ theWindowsPlace)) _ _ s
 refine wpAny_notedAt ?_
 unfold compStart
 show Qp _ _ (ask >>= _) _ _ s
 refine Qa (T5 (wpAny_ite ?_))
 split
 ·first
   | exact Qa (Qh (Qh (And.intro rfl h0)))
   | exact Qh (And.intro rfl h0)
 ·first
   | exact Qa (Uv (Qa (Uo (Qa (RM h (fun it' s' h'=>Qh (And.intro rfl h')) fun _ _ x=>x)))))
   | (refine Qa (Uv ?_); show Qp _ _ (VJ i1.pos >>= _) _ _ s; exact Qa (Uo (Qa (RM h (fun it' s' h'=>Qh (And.intro rfl h')) fun _ _ x=>x))))
abbrev noX:Value->Qe->Prop:=fun _ _=>False
theorem fM {E:Value->Qe->Prop} (x:Value) (s':Qe) (z:noX x s'):E x s':=z.elim
theorem vh (hs1:∀ x,SN i1 env x=pure x) (I:Nat->Qe->Prop)
  (turn:∀ n s,I n s->Qp (Qy prog w) A (Tt it) (fun r s₁=>match r with
   | none=>R (.ok .next) s₁
   | some v=>Qp (Qy prog w) A (Tv t0 it v) (fun _ s₀=>Qp (Qy prog w) A (Wj t0 env v) (fun _ s₂=>Qp (Qy prog w) A (S6 i1 env) (fun x s₃=>Qp (Qy prog w) A (WM x) (fun it1 s₄ =>
     R5 (Qy prog w) A (.compStart (.ListComp elt [⟨t0,i0,[],0⟩,⟨t1,i1,[],0⟩] scope pos) 1 it1 acc env) (fun r s'=>match r with | .ok _=>∃ m,m < n/\I m s' | .error _=>False) s₄) noX s₃) noX s₂) noX s₀) noX s₁) noX s)
  (n:Nat) (h:I n s):R5 (Qy prog w) A (.compLoop (.ListComp elt [⟨t0,i0,[],0⟩,⟨t1,i1,[],0⟩] scope pos) 0 it acc env) R s:=by
 refine codeAny_loop rfl I (fun n s hI=>?_) n h
 refine (show Qp (Qy prog w) A ((compTurn (.ListComp elt [⟨t0,i0,[],0⟩,⟨t1,i1,[],0⟩] scope pos) 0 it acc env).onRaise (fun x=>do noteFrame x env; Ye x)) _ _ s from wpAny_noted ?_)
 rw[wy]
 refine Qa (Uo (Qa (RM (turn n s hI) (fun r s₁ h₁=>?_) fM)))
 cases r with
 | none=>exact Qh h₁
 | some v =>
  refine Qa (RM h₁ (fun _ s₀ h₀=>Qa (RM h₀ (fun _ s₂ h₂=>Qa (RM h₂ (fun x s₃ h₃=>Qa (Uo (Qa (Tc (hs1 x) (Qa (R9 (RM h₃ (fun it1 s₄ h₄=>?_) fM))))))) fM)) fM)) fM)
  refine Qa (wpAny_runOwn (Vi h₄ fun r s' hr=>?_))
  cases r with
  | ok f=>exact Qh ⟨rfl,hr⟩
  | error e=>exact hr.elim
theorem uW (I:Nat->Qe->Prop)
  (turn:∀ n s,I n s->Qp (Qy prog w) A (Tt it) (fun r s₁=>match r with
   | none=>R (.ok .next) s₁
   | some v=>Qp (Qy prog w) A (Tv t1 it v) (fun _ s₀=>Qp (Qy prog w) A (Wj t1 env v) (fun _ s₂=>Qp (Qy prog w) A (S6 elt env) (fun x s₄=>Qp (Qy prog w) A (call (.builtin "list.append") [acc,x]) (fun _ s₅=>∃ m,m < n/\I m s₅) noX s₄) noX s₂) noX s₀) noX s₁) noX s)
  (n:Nat) (h:I n s):R5 (Qy prog w) A (.compLoop (.ListComp elt [⟨t0,i0,[],0⟩,⟨t1,i1,[],0⟩] scope pos) 1 it acc env) R s:=by
 refine codeAny_loop rfl I (fun n s hI=>?_) n h
 refine (show Qp (Qy prog w) A ((compTurn (.ListComp elt [⟨t0,i0,[],0⟩,⟨t1,i1,[],0⟩] scope pos) 1 it acc env).onRaise (fun x=>do noteFrame x env; Ye x)) _ _ s from wpAny_noted ?_)
 rw[wU]
 refine Qa (Uo (Qa (RM (turn n s hI) (fun r s₁ h₁=>?_) fM)))
 cases r with
 | none=>exact Qh h₁
 | some v =>
  refine Qa (RM h₁ (fun _ s₀ h₀=>Qa (RM h₀ (fun _ s₂ h₂=>Qa (Qa (RM h₂ (fun x s₄ h₄=>Qa (RM h₄ (fun _ s₅ h₅=>Qh (Qh ⟨rfl,h₅⟩)) fM)) fM))) fM)) fM)
end
def mX (D:Addr) (σ0:St) (J:It) (g:TG) (wi1:TI) (g1:TG) (te:TE) (H1:Hp) (Q:Hp->Prop):Prop :=
 ∃ W:Nat->Nat->List V->St->Hp->Prop,(∃ m,W 0 m [] σ0 (upd H1 D (.lst []))) ∧
  ∀ i m ys σ' H',W i m ys σ' H'->((J.stop i H'/\Q H')∨(J.go i H'/\∃ N:List V->St->Hp->Prop,(∀ zs σ2 H2,N zs σ2 H2->∃ m',m' < m/\W (i+1) m' zs σ2 H2) ∧
   ∀ x H2,J.yld i H' x H2->g x σ' H2 fun σ3 H3=>wi1 σ3 H3 fun J1 H4 =>
    ∃ Y:Nat->Nat->List V->St->Hp->Prop,(∃ m,Y 0 m ys σ3 H4) ∧
     ∀ j m zs σ5 H5,Y j m zs σ5 H5->((J1.stop j H5/\N zs σ5 H5)∨(J1.go j H5/\∃ M:List V->St->Hp->Prop,(∀ zs σ6 H6,M zs σ6 H6->∃ m',m' < m/\Y (j+1) m' zs σ6 H6) ∧
      ∀ y H6,J1.yld j H5 y H6->g1 y σ5 H6 fun σ7 H7=>te σ7 H7 fun v H8=>H8 D=some (.lst zs)/\zs.length < sizeLine/\M (zs++[v]) σ7 (upd H8 D (.lst (zs++[v])))))))
def Lw (n:Nat) (cap:List Nat) (wi:TI) (g:TG) (wi1:TI) (g1:TG) (te:TE):TE:=fun σ H Q=>wi σ H fun J H1=>∀ D,H1 D=none->mX D (Cp n cap σ) J g wi1 g1 te H1 fun H2=>Q (.ref D) H2
section
variable {X:Cx} {elt t0 i0 t1 i1:Expr} {scope:TX} {pos:V5} {L F:List Q4} {cap:List Nat} {wi wi1:TI} {g g1:TG} {te:TE}
theorem Ca {cl:List (Q4 × Addr)} {pins:List (Addr × Tz)} {σ:St} {s2:Qe} {H2:Hp} {it:Addr} {fp:List Addr} {tn:Nat->Rv->Prop} {J:It} {use:Option (Value->Sem Unit)} {QQ:Value->Qe->Prop} {Z:Hp->Prop} {E:Value->Qe->Prop}
  (hc:X.calm=true) (ok:nq X scope F cap)
  (sub:∀ n c,cl.lookup n=some c->X.env.cells.lookup n=some c) (all:∀ y∈scope.names,y.2 = .free->∃ c,cl.lookup y.1=some c)
  (hg:∀ cl C s H fp,PG (bF X scope cl C (L++F) s H fp) t0 g) (hi1:∀ cl C s H fp,PI (bF X scope cl C (L++F) s H fp) t1 i1 wi1) (hg1:∀ cl C s H fp,PG (bF X scope cl C (L++F) s H fp) t1 g1) (he:∀ cl C s H fp,PE (bF X scope cl C (L++F) s H fp) elt te)
  (hs1:∀ (env:XM) x,SN i1 env x=pure x)
  (I2:Inv X pins σ H2 s2) (T:Turn X.prog X.w X.K t0 J fp it tn) (st2:tn 0 s2.heap) (f2:∀ b∈fp,pG X pins H2 b)
  (q2:mX s2.heap.objs.size (Cp L.length cap σ) J g wi1 g1 te H2 Z)
  (fin:∀ (C:Addr) (s':Qe) (H':Hp),Z H'->Inv X pins σ H' s'->(∃ m,s'.heap.Ns C m)->H' C=none->C≠X.env.locals->X.s₀.heap.objs.size<=C->(∀ x c,X.env.cells.lookup x=some c->c≠C)->(∀ p∈X.pn++pins,p.1≠C) →
   U9 (Qy X.prog X.w) X.A E use QQ (.ref s2.heap.objs.size) C (.ok .next) s') :
  Qp (Qy X.prog X.w) X.A (Yp []) (fun acc s₃=>Qp (Qy X.prog X.w) X.A (VR scope X.env.globals cl [] X.env.qual none .none (some X.env)) (fun cenv s₄ =>
   R5 (Qy X.prog X.w) X.A (.compStart (.ListComp elt [⟨t0,i0,[],0⟩,⟨t1,i1,[],0⟩] scope pos) 0 (.ref it) acc { cenv with scope:=relabel scope X.env }) (U9 (Qy X.prog X.w) X.A E use QQ acc cenv.locals) s₄) E s₃) E s2:=by
 have hD:H2 s2.heap.objs.size=none:=I2.fresh
 refine QV (wpAny_newFunctionEnv ok.cell (by intro y hy; simp at hy) (fun h₁ hns₁ hsb₁=>?_) ok.kind)
 dsimp only at hns₁ hsb₁ ⊢
 have I3:Inv X pins σ (upd H2 s2.heap.objs.size (.lst [])) { s2 with heap:=s2.heap.push { cls:=.type "list",data:=.seq ([]:List Value).toArray } }:=I2.Nk (t':=s2.toks) (ys:=[]) (its:=[]) .nil (QW _)
 have blt:∀ b∈fp,b < s2.heap.objs.size:=fun b hb=>let ⟨_,e,_⟩:=T.obj 0 _ st2 b hb; Qt e
 have szC:(s2.heap.push { cls:=.type "list",data:=.seq ([]:List Value).toArray }).objs.size=s2.heap.objs.size+1:=Rf _ _
 generalize hs3:({ s2 with heap:=s2.heap.push { cls:=.type "list",data:=.seq ([]:List Value).toArray } }:Qe)=s3 at I3
 have es3:s3.heap=s2.heap.push { cls:=.type "list",data:=.seq ([]:List Value).toArray }:=by rw[← hs3]
 have eos:s3.os=s2.os:=by rw[← hs3]
 have fok:∀ b∈fp,pG X pins (upd H2 s2.heap.objs.size (.lst [])) b/\b < s3.heap.objs.size:=fun b hb=>by
  obtain⟨f0,fr⟩:=f2 b hb
  refine⟨⟨by rw[bx (QJ (blt b hb))]; exact f0,fr⟩,?_⟩
  rw[es3,szC]
  exact RQ (blt b hb)
 have hkp:∀ b o,s3.heap.get? b=some o->h₁.get? b=some o:=fun b o e=>by
  have e':b < s3.heap.objs.size:=Qt e
  rw[es3] at e e'
  exact (hsb₁.2 b (QJ e')).trans (Qd _ e)
 have hns:h₁.Ns s3.heap.objs.size fun _=>none:=by
  rw[es3]
  exact hns₁
 have I4:∀ tk,Inv (bF X scope cl s3.heap.objs.size (L++F) s3 (upd H2 s2.heap.objs.size (.lst [])) fp) [] (Cp L.length cap σ) (upd H2 s2.heap.objs.size (.lst [])) { s3 with heap:=h₁,toks:=tk }:=fun tk =>
  qx (L:=L) ok I3 fok sub all hns hkp
 have stat:∀ {H':Hp},(∀ b∈fp,H' b=none)->∀ b∈fp,pG (bF X scope cl s3.heap.objs.size (L++F) s3 (upd H2 s2.heap.objs.size (.lst [])) fp) [] H' b:=fun {H'} hn b hb=>by
  obtain⟨⟨_,g1,g2,g3,g4,g5⟩,g6⟩:=fok b hb
  exact⟨hn b hb,QJ g6,m7 I3 g1 g2,.inl hb,fun x c e=>g4 x c (sub x c e),fun p hp=>absurd (show p∈([]:List (Addr × Tz)) from hp) (by simp)⟩
 have loop:∀ tk,R5 (Qy X.prog X.w) X.A (.compLoop (.ListComp elt [⟨t0,i0,[],0⟩,⟨t1,i1,[],0⟩] scope pos) 0 (.ref it) (.ref s2.heap.objs.size) (VV scope cl s3.heap.objs.size X.env))
   (U9 (Qy X.prog X.w) X.A E use QQ (.ref s2.heap.objs.size) s3.heap.objs.size) { s3 with heap:=h₁,toks:=tk }:=fun tk=>by
  obtain⟨W,⟨m0,w0⟩,turn⟩:=q2
  have st3:tn 0 h₁:=T.keep 0 _ _ st2 fun b hb o e=>hkp b o (by rw[es3]; exact Qd _ e)
  refine vh (hs1 _) (fun n s'=>∃ i ys σ' H',Inv (bF X scope cl s3.heap.objs.size (L++F) s3 (upd H2 s2.heap.objs.size (.lst [])) fp) [] σ' H' s'/\tn i s'.heap/\(∀ b∈fp,H' b=none)/\W i n ys σ' H') ?_ m0
   ⟨0,[],_,_,I4 tk,st3,fun b hb=>(fok b hb).1.1,w0⟩
  rintro n s5 ⟨i,ys,σ5,H5,I5,st5,fr5,w5⟩
  rcases turn i n ys σ5 H5 w5 with⟨stop,qz⟩ | ⟨go,N,hN,step⟩
  ·refine thn (T.done (bF X scope cl s3.heap.objs.size (L++F) s3 (upd H2 s2.heap.objs.size (.lst [])) fp) rfl rfl rfl hc i [] s5 σ5 H5 _ I5 (stat fr5) st5 stop) fun r s6 ⟨hr,I6⟩=>?_
   subst hr
   have un:Un (frs X.stack) fp H2 H5 s2.heap s6.heap:=by
    have u1:Un (frs X.stack) fp H2 (upd H2 s2.heap.objs.size (.lst [])) s2.heap s3.heap:=by
     rw[es3]
     exact Un.laid (fun _ _ q=>Qd _ q) (Ql _) hD
    exact u1.trans I6.base
   have J1:Inv X pins σ H5 s6:=I2.call' (I6.os.trans eos) un I6.hok I6.bare fun b hb=>by
    obtain⟨_,g1,_,g3,g4,g5⟩:=f2 b hb
    exact⟨g3,g1,g4,g5⟩
   have hC:s2.heap.objs.size<=s3.heap.objs.size:=by rw[es3,szC]; exact S5 _
   obtain⟨m,hm,_⟩:=I6.loc
   refine fin s3.heap.objs.size s6 H5 qz J1 ⟨m,hm⟩ I6.free (Sv (Qs I2.lt hC)) (QL I2.sz hC) (fun x c e z=>?_) (fun p hp z=>?_)
   ·obtain⟨v,q⟩:=I2.cell x c e
    exact absurd (Qs q.lt (by rw[z]; exact hC)) (RG _)
   ·exact absurd (Qs (Qt (I2.pin p hp).1) (by rw[z]; exact hC)) (RG _)
  ·refine thn (T.item (bF X scope cl s3.heap.objs.size (L++F) s3 (upd H2 s2.heap.objs.size (.lst [])) fp) rfl rfl rfl hc i [] s5 σ5 H5 _ I5 (stat fr5) st5 go) fun r s6 ⟨u,hr,h6⟩=>?_
   subst hr
   refine thn h6 fun _ s7 ⟨x,H7,I7,r7,y7,st7,fr7⟩=>?_
   have I7':=I7.pinned (stat fr7) (T.obj _ _ st7)
   refine thn (hg _ _ _ _ _ _ s7 σ5 H7 x u _ I7' r7 (step x H7 y7)) fun _ s8 ⟨σ8,H8,I8,q8⟩=>?_
   have again:∀ {σ9:St} {H9:Hp} {s9:Qe} {zs:List V},Inv (bF X scope cl s3.heap.objs.size (L++F) s3 (upd H2 s2.heap.objs.size (.lst [])) fp) ([]++jO fp s7.heap) σ9 H9 s9->N zs σ9 H9 →
     ∃ m,m < n/\∃ i ys σ' H',Inv (bF X scope cl s3.heap.objs.size (L++F) s3 (upd H2 s2.heap.objs.size (.lst [])) fp) [] σ' H' s9/\tn i s9.heap/\(∀ b∈fp,H' b=none)/\W i m ys σ' H':=fun {σ9 H9 s9 zs} I9 n9=>by
    obtain⟨m',hm,w9⟩:=hN zs σ9 H9 n9
    refine⟨m',hm,i+1,zs,σ9,H9,I9.gj,T.keep _ _ _ st7 fun b hb o e=>(I9.pin (b,o) (QB _ (QB _ (cN hb e)))).1,fun b hb=>?_,w9⟩
    obtain⟨o,e,d⟩:=T.obj _ _ st7 b hb
    exact (I9.pin (b,o) (QB _ (QB _ (cN hb e)))).2.1
   refine thn (hi1 _ _ _ _ _ _ s8 σ8 H8 _ I8 q8) fun v1 s9 h9=>thn h9 fun itv s10 h10=>?_
   obtain⟨it1,fp1,tn1,J1,H10,e,I10,T1,st10,f10,Y,⟨m1,y0⟩,turn1⟩:=h10
   subst e
   have stat1:∀ {H':Hp},(∀ b∈fp1,H' b=none)->∀ b∈fp1,pG (bF X scope cl s3.heap.objs.size (L++F) s3 (upd H2 s2.heap.objs.size (.lst [])) fp) ([]++jO fp s7.heap) H' b:=fun hn b hb=>⟨hn b hb,(f10 b hb).2⟩
   have loop1:R5 (Qy X.prog X.w) X.A (.compLoop (.ListComp elt [⟨t0,i0,[],0⟩,⟨t1,i1,[],0⟩] scope pos) 1 (.ref it1) (.ref s2.heap.objs.size) (VV scope cl s3.heap.objs.size X.env))
     (fun r s'=>match r with | .ok _=>∃ m,m < n/\∃ i ys σ' H',Inv (bF X scope cl s3.heap.objs.size (L++F) s3 (upd H2 s2.heap.objs.size (.lst [])) fp) [] σ' H' s'/\tn i s'.heap/\(∀ b∈fp,H' b=none)/\W i m ys σ' H' | .error _=>False) s10:=by
    refine uW (fun k s'=>∃ j zs σ' H',Inv (bF X scope cl s3.heap.objs.size (L++F) s3 (upd H2 s2.heap.objs.size (.lst [])) fp) ([]++jO fp s7.heap) σ' H' s'/\tn1 j s'.heap/\(∀ b∈fp1,H' b=none)/\Y j k zs σ' H') ?_ m1
     ⟨0,ys,_,_,I10,st10,fun b hb=>(f10 b hb).1,y0⟩
    rintro k s11 ⟨j,zs,σ11,H11,I11,st11,fr11,w11⟩
    rcases turn1 j k zs σ11 H11 w11 with⟨stop1,n1⟩ | ⟨go1,M,hM,step1⟩
    ·refine thn (T1.done (bF X scope cl s3.heap.objs.size (L++F) s3 (upd H2 s2.heap.objs.size (.lst [])) fp) rfl rfl rfl hc j _ s11 σ11 H11 _ I11 (stat1 fr11) st11 stop1) fun r s12 ⟨hr,I12⟩=>?_
     subst hr
     exact again I12 n1
    ·refine thn (T1.item (bF X scope cl s3.heap.objs.size (L++F) s3 (upd H2 s2.heap.objs.size (.lst [])) fp) rfl rfl rfl hc j _ s11 σ11 H11 _ I11 (stat1 fr11) st11 go1) fun r s12 ⟨u1,hr,h12⟩=>?_
     subst hr
     refine thn h12 fun _ s13 ⟨x1,H13,I13,r13,y13,st13,fr13⟩=>?_
     have I13':=I13.pinned (stat1 fr13) (T1.obj _ _ st13)
     refine thn (hg1 _ _ _ _ _ _ s13 σ11 H13 x1 u1 _ I13' r13 (step1 x1 H13 y13)) fun _ s14 ⟨σ14,H14,I14,q14⟩=>?_
     refine thn (he _ _ _ _ _ _ s14 σ14 H14 _ I14 q14) fun y s15 ⟨yv,H15,I15,r15,e15,z15,n15⟩=>?_
     refine thn (cM _ s15 σ14 H15 (.ref s2.heap.objs.size) [yv] (.ref s2.heap.objs.size) [y] (fun _ H'=>M (zs++[yv]) σ14 H') I15 rfl (.cons r15 .nil) ⟨_,zs,yv,rfl,rfl,e15,z15,n15⟩) fun _ s16 ⟨_,H16,I16,_,n16⟩=>?_
     obtain⟨m',hm,w16⟩:=hM _ _ _ n16
     refine⟨m',hm,j+1,_,σ14,H16,I16.gj,T1.keep _ _ _ st13 fun b hb o e=>(I16.pin (b,o) (QB _ (QB _ (cN hb e)))).1,fun b hb=>?_,w16⟩
     obtain⟨o,e,d⟩:=T1.obj _ _ st13 b hb
     exact (I16.pin (b,o) (QB _ (QB _ (cN hb e)))).2.1
   exact vp loop1 (T1.self _ 0 _ _ _ st10 loop1)
 have eC:(s2.heap.push { cls:=.type "list",data:=.seq ([]:List Value).toArray }).objs.size=s3.heap.objs.size:=by rw[es3]
 have goal:∀ tk,R5 (Qy X.prog X.w) X.A (.compStart (.ListComp elt [⟨t0,i0,[],0⟩,⟨t1,i1,[],0⟩] scope pos) 0 (.ref it) (.ref s2.heap.objs.size) (VV scope cl s3.heap.objs.size X.env))
   (U9 (Qy X.prog X.w) X.A E use QQ (.ref s2.heap.objs.size) s3.heap.objs.size) { s3 with heap:=h₁,toks:=tk }:=fun tk =>
  Wi (loop tk) (T.self _ 0 _ _ _ (T.keep 0 _ _ st2 fun b hb o e=>hkp b o (by rw[es3]; exact Qd _ e)) (loop tk))
 have g0:=goal (s2.toks+([]:List (Q4 × Value)).length)
 subst hs3
 exact g0
theorem G7 (hc:X.calm=true) (ok:nq X scope F cap) (hi:PI X t0 i0 wi)
  (hg:∀ cl C s H fp,PG (bF X scope cl C (L++F) s H fp) t0 g) (hi1:∀ cl C s H fp,PI (bF X scope cl C (L++F) s H fp) t1 i1 wi1) (hg1:∀ cl C s H fp,PG (bF X scope cl C (L++F) s H fp) t1 g1) (he:∀ cl C s H fp,PE (bF X scope cl C (L++F) s H fp) elt te)
  (hs:∀ x,SN i0 X.env x=pure x:=by intro _; rfl) (hs1:∀ (env:XM) x,SN i1 env x=pure x:=by intro _ _; rfl):PE X (.ListComp elt [⟨t0,i0,[],0⟩,⟨t1,i1,[],0⟩] scope pos) (Lw L.length cap wi g wi1 g1 te):=by
 intro pins s σ H Q I h
 obtain⟨cl,e1,e2,e3⟩:=qM (scope:=scope) (env:=X.env) (fun y hy hf=>I.ok.has _ (ok.fr y hy hf))
 rw[eval_ListComp]
 refine U8 (use:=none) rfl hs e1 ok.kind ok.nms (thn (hi pins s σ H _ I h) fun v s1 h1=>thn h1 fun itv s2 h2=>?_)
 obtain⟨it,fp,tn,J,H2,e,I2,T,st2,f2,q2⟩:=h2
 subst e
 refine Ca (Z:=fun H'=>Q (.ref s2.heap.objs.size) H') hc ok e2 e3 hg hi1 hg1 he hs1 I2 T st2 f2 (q2 _ I2.fresh) fun C s' H' z J m hCf hCl hCs hCc hCp=>?_
 obtain⟨m,hm⟩:=m
 exact⟨m,hm,fun h' hs'=>⟨.ref _,H',J.turned (t':=s'.toks) (fun b o hb e=>(hs'.2 b hb).trans e) hCf hCl (.inr hCs) hCc hCp,rfl,z⟩⟩
end
end L2
namespace L2
open PySem PySem.Spec PyProof.Rows
section
variable {X:Cx}
end
end L2
namespace L2
open PySem PySem.Spec PyProof.Rows
def In2 (D:Addr) (J1:It) (g1:TG) (te:TE) (N:List V->St->Hp->Prop) (ys:List V) (σ3:St) (H4:Hp):Prop :=
 ∃ Y:Nat->Nat->List V->St->Hp->Prop,(∃ m,Y 0 m ys σ3 H4) ∧
  ∀ j m zs σ5 H5,Y j m zs σ5 H5->((J1.stop j H5/\N zs σ5 H5)∨(J1.go j H5/\∃ M:List V->St->Hp->Prop,(∀ zs σ6 H6,M zs σ6 H6->∃ m',m' < m/\Y (j+1) m' zs σ6 H6) ∧
   ∀ y H6,J1.yld j H5 y H6->g1 y σ5 H6 fun σ7 H7=>te σ7 H7 fun v H8=>H8 D=some (.lst zs)/\zs.length < sizeLine/\M (zs++[v]) σ7 (upd H8 D (.lst (zs++[v])))))
theorem Ck {K:QF} {a D:Addr} {xs:List V} {g:TG} {wi1:TI} {g1:TG} {te:TE} {H1:Hp} {Q:Hp->Prop} {σ0:St} (Pv:Nat->List V->St->Hp->Prop) (h0:Pv 0 [] σ0 (upd H1 D (.lst [])))
  (hl:∀ i ys σ H,i<=xs.length->Pv i ys σ H->SqT K H a xs)
  (hs:∀ i ys x σ H,xs[i]? = some x->Pv i ys σ H->g x σ H fun σ3 H3=>wi1 σ3 H3 fun J1 H4=>In2 D J1 g1 te (Pv (i+1)) ys σ3 H4)
  (hd:∀ ys σ H,Pv xs.length ys σ H->Q H):mX D σ0 (Itt K a) g wi1 g1 te H1 Q:=by
 refine⟨fun i m ys σ H=>m=xs.length - i/\i<=xs.length/\Pv i ys σ H,⟨xs.length,by simp,QW _,h0⟩,?_⟩
 rintro i m ys σ H ⟨rfl,hi,p⟩
 have q:=hl i ys σ H hi p
 by_cases hlt:i < xs.length
 ·refine .inr ⟨⟨xs,xs[i],q,by simp [hlt]⟩,Pv (i+1),fun zs σ' H' p'=>⟨xs.length - (i+1),by lia,rfl,hlt,p'⟩,fun x H' y=>?_⟩
  obtain⟨e,y⟩:=y
  subst e
  exact hs i ys x σ _ (y xs q) p
 ·have e:i=xs.length:=by lia
  subst e
  exact .inl ⟨⟨xs,q,Ql _⟩,hd ys σ H p⟩
theorem Gv {K:QF} {b D:Addr} {ws:List V} {g1:TG} {te:TE} {N:List V->St->Hp->Prop} {ys:List V} {σ3:St} {H4:Hp} (Pw:Nat->List V->St->Hp->Prop) (h0:Pw 0 ys σ3 H4)
  (hl:∀ j zs σ H,j<=ws.length->Pw j zs σ H->SqL K H b ws)
  (hs:∀ j zs y σ H,ws[j]? = some y->Pw j zs σ H->g1 y σ H fun σ7 H7=>te σ7 H7 fun v H8=>H8 D=some (.lst zs)/\zs.length < sizeLine/\Pw (j+1) (zs++[v]) σ7 (upd H8 D (.lst (zs++[v]))))
  (hd:∀ zs σ H,Pw ws.length zs σ H->N zs σ H):In2 D (Itl K b) g1 te N ys σ3 H4:=by
 refine⟨fun j m zs σ H=>m=ws.length - j/\j<=ws.length/\Pw j zs σ H,⟨ws.length,by simp,QW _,h0⟩,?_⟩
 rintro j m zs σ H ⟨rfl,hj,p⟩
 have q:=hl j zs σ H hj p
 by_cases hlt:j < ws.length
 ·refine .inr ⟨⟨ws,ws[j],q,by simp [hlt]⟩,Pw (j+1),fun zs' σ' H' p'=>⟨ws.length - (j+1),by lia,rfl,hlt,p'⟩,fun y H' z=>?_⟩
  obtain⟨e,z⟩:=z
  subst e
  exact hs j zs y σ _ (z ws q) p
 ·have e:j=ws.length:=by lia
  subst e
  exact .inl ⟨⟨ws,q,Ql _⟩,hd zs σ H p⟩
end L2
namespace L2
open PySem PySem.Spec PyProof.Rows
section
variable {prog:QK} {w:Q3} {A:Q5} {E:Value->Qe->Prop} {s:Qe}
end
section
variable {X:Cx}
end
end L2
namespace L2
open PySem PySem.Spec PyProof.Rows
section
variable {X:Cx} {elt t0 i0 t1 i1:Expr} {scope:TX} {pos:V5} {L F:List Q4} {cap:List Nat} {wi wi1:TI} {g g1:TG} {te:TE}
end
end L2
namespace L2
open PySem PySem.Spec PyProof.Rows
section
variable {X:Cx} {tg:Expr}
end
end L2
namespace L2
open PySem PySem.Spec PyProof.Rows
def cX (X:Cx) (scope:TX) (cl:List (Q4 × Addr)) (C:Addr) (x0:Q4) (N:List Q4) (s:Qe) (H:Hp) (fp:List Addr):Cx :=
 {X with N:=N,s₀:=s,H₀:=H,env:=VV scope ((x0,C+1)::cl) C X.env,outer:=X.stack,ex:=fp,fn:=fun y=>y == x0,pn:=[],xe:=fun _ _=>False }
structure qT (X:Cx) (scope:TX) (x0:Q4) (F:List Q4) (cap:List Nat):Prop where
 kind:scope.kind = .function
 cf:∀ (n:Nat) (acc:List (Q4 × Addr)),W8 n scope.names acc=(x0,n)::acc
 pc:∀ h:Rv,pushCells h scope.names=h.push { cls:=.type "cell",data:=.cell none }
 own:∀ x,scope.names.lookup x=some .cell->x=x0
 own0:scope.names.lookup x0=some .cell
 nms:∀ y∈scope.names,y.2 = .local->scope.names.lookup y.1=some .local
 fr:∀ y∈scope.names,y.2 = .free->X.env.kindOf y.1=some .cell∨X.env.kindOf y.1=some .free
 len:cap.length=F.length
 at':∀ (k:Nat) (x:Q4),F[k]? = some x->∃ i,cap[k]? = some i/\X.N[i]? = some x/\scope.names.lookup x=some .free
theorem lkK {x0 x:Q4} {c0 c:Addr} {cl:List (Q4 × Addr)} (h:((x0,c0)::cl).lookup x=some c):(x=x0/\c=c0)∨(x≠x0/\cl.lookup x=some c):=by
 by_cases e:x=x0
 ·subst e
  rw[List.lookup_cons_self] at h
  exact .inl ⟨rfl,(QZ h).symm⟩
 ·refine .inr ⟨e,?_⟩
  rw[Q9] at h
  have:(x == x0)=false:=beq_eq_false_iff_ne.mpr e
  rw[this] at h
  exact h
theorem Ef {x0 x:Q4} {c0 c:Addr} {cl:List (Q4 × Addr)} (e:x≠x0) (h:cl.lookup x=some c):((x0,c0)::cl).lookup x=some c:=by
 rw[Q9]
 have:(x == x0)=false:=beq_eq_false_iff_ne.mpr e
 rw[this]
 exact h
theorem J7 {M:Model} {A:Q5} {E:Value->Qe->Prop} {s:Qe} {scope:TX} {globals:Addr} {cl:List (Q4 × Addr)} {qual:Q4} {outer:XM} {Q:XM->Qe->Prop}
  (hQ:Q (newEnv scope s.heap.objs.size globals (W8 (s.heap.objs.size+1) scope.names cl) qual none .none (some outer) builtinsNs) { s with heap:=pushCells (s.heap.push { cls:=.type "dict",data:=.dict #[] }) scope.names }) :
  Qp M A (VR scope globals cl [] qual none .none (some outer)) Q E s:=by
 simp only[VR,Option.isSome_some,if_true]
 refine Qa (wpAny_alloc ?_)
 refine Qa (wpAny_layCells _ (fun name kind cells=>by cases hkc:kind == Vt <;> simp [hkc]) _ _ _ _ ?_)
 rw[show ({ s with heap:=s.heap.push { cls:=.type "dict",data:=.dict #[] } }:Qe).heap.objs.size=s.heap.objs.size+1 from Rf ..]
 refine Qa ?_
 rw[W6]
 exact Qh (Qh hQ)
section
variable {X:Cx} {elt tg iter:Expr} {ifs:List Expr} {scope:TX} {pos:V5} {x0:Q4} {L F:List Q4} {cap:List Nat} {wi:TI} {g:TG} {tt:TT} {te:TE}
theorem vJ {cl:List (Q4 × Addr)} {pins:List (Addr × Tz)} {σ:St} {H:Hp} {s:Qe} {fp:List Addr} {h₁:Rv} {tk:Nat} (ok:qT X scope x0 F cap) (I:Inv X pins σ H s) (hfp:∀ b∈fp,pG X pins H b/\b < s.heap.objs.size)
  (sub:∀ n c,cl.lookup n=some c->X.env.cells.lookup n=some c) (all:∀ y∈scope.names,y.2 = .free->∃ c,cl.lookup y.1=some c)
  (ns:h₁.Ns s.heap.objs.size fun _=>none) (kp:∀ b o,s.heap.get? b=some o->h₁.get? b=some o) (nc:h₁.IsCell (s.heap.objs.size+1) none) :
  Inv (cX X scope cl s.heap.objs.size x0 (L++F) s H fp) [] (Cp L.length cap σ) H { s with heap:=h₁,toks:=tk }:=by
 have frk:∀ x,scope.names.lookup x=some .free->X.env.kindOf x=some .cell∨X.env.kindOf x=some .free:=fun x e=>ok.fr (x,.free) (Rj e) rfl
 have old:∀ x c,cl.lookup x=some c->c < s.heap.objs.size:=fun x c e=>let ⟨_,q⟩:=I.cell x c (sub x c e); q.lt
 have okX:(cX X scope cl s.heap.objs.size x0 (L++F) s H fp).Ok:=by
  refine⟨I.ok.mod,ok.kind,I.ok.glob,I.ok.blt,Ql _,fun x y c e1 e2=>?_,fun x hx=>?_,fun x c hx e=>?_,I.ok.hd,I.ok.frames,.inl rfl,fun b hb=>⟨QJ (hfp b hb).2,fun x c e=>?_⟩,I.bs,QL I.ok.bsz I.sz,fun b o e hb=>?_,fun b hb=>?_,I.stack,I.wG⟩
  ·rcases lkK e1 with⟨f1,f2⟩ | ⟨f1,f2⟩ <;> rcases lkK e2 with⟨f3,f4⟩ | ⟨f3,f4⟩
   ·rw[f1,f3]
   ·have:=old _ _ f4
    rw[f2] at this
    exact absurd (VM (R7 _) this) (RG _)
   ·have:=old _ _ f2
    rw[f4] at this
    exact absurd (VM (R7 _) this) (RG _)
   ·exact I.ok.inj x y c (sub x c f2) (sub y c f4)
  ·by_cases hx0:x=x0
   ·exact⟨s.heap.objs.size+1,by rw[hx0]; exact List.lookup_cons_self⟩
   ·have e:scope.names.lookup x=some .free:=by
     rcases hx with hx | hx
     ·rcases oF (env:=X.env) (show _=some Vt from hx) with e | e
      ·exact absurd (ok.own _ e) hx0
      ·exact e
     ·rcases oF (env:=X.env) (show _=some Sh from hx) with e | e <;> exact e
    obtain⟨c,hc⟩:=all (x,.free) (Rj e) rfl
    exact⟨c,Ef hx0 hc⟩
  ·have hx:(x == x0)=true:=hx
   rcases lkK e with⟨_,f2⟩ | ⟨f1,_⟩
   ·rw[f2]
    exact S5 _
   ·exact absurd (eq_of_beq hx) f1
  ·rcases lkK e with⟨_,f2⟩ | ⟨_,f2⟩
   ·rw[f2]
    exact Sv (RQ (hfp b hb).2)
   ·exact (hfp b hb).1.2.2.2.2.1 x c (sub x c f2)
  ·obtain⟨_,_,_,f3,_⟩:=(hfp b hb).1
   rcases f3 with z | z
   ·exact I.ok.noex b o e z
   ·exact absurd (Qs (Qt e) (QL I.ok.bsz z)) (RG _)
  ·obtain⟨_,f1,f2,_⟩:=(hfp b hb).1
   exact m7 I f1 f2
 refine⟨okX,rfl,I.bare,Un.kept kp,⟨_,ns,fun i x v e1 e2 e3=>?_⟩,fun x c e=>?_,I.hok.fresh (Ql _),fun x c e=>?_,fun p hp=>absurd (show p∈([]:List (Addr × Tz)) from hp) (by simp),I.hok.kept kp,?_⟩
 ·have e1:(L++F)[i]? = some x:=e1
  have e2:(QM L.length none++cap.map fun i=>(σ[i]?).join)[i]? = some (some v):=e2
  have hL:¬ i < L.length:=fun hi=>by
   rw[U4 (by simpa using hi),Vh] at e2
   split at e2 <;> cases e2
  have hi:L.length<=i:=XX hL
  rw[SX hi] at e1
  rw[SX (by simpa using hi),Rt,QH] at e2
  obtain⟨j,hj,hN,hk⟩:=ok.at' _ _ e1
  rw[hj] at e2
  have e4:(σ[j]?).join=some v:=by simpa using e2
  have e5:σ[j]? = some (some v):=by
   cases q:σ[j]? with
   | none=>rw[q] at e4; cases e4
   | some a=>rw[q] at e4; exact congrArg some e4
  obtain⟨m,hn,hl⟩:=I.loc
  have kd:=frk x hk
  have hx0:x≠x0:=fun z=>by rw[z,ok.own0] at hk; cases hk
  obtain⟨u,r,lk⟩:=hl j x v hN e5 (kd.elim (fun z=>.inr (.inl z)) fun z=>.inr (.inr z))
  obtain⟨c,hc,hcell⟩:∃ c,X.env.cells.lookup x=some c/\s.heap.IsCell c (some u):=by
   rcases lk with⟨z,_⟩ | ⟨_,c,z1,z2⟩
   ·rcases kd with y | y <;> (rw[y] at z; cases z)
   ·exact⟨c,z1,z2⟩
  obtain⟨c',hc'⟩:=all (x,.free) (Rj hk) rfl
  have ec:c'=c:=by
   have:=sub x c' hc'
   rw[hc] at this
   exact (QZ this).symm
  subst ec
  obtain⟨o,ho,hd⟩:=hcell
  exact⟨u,r,.inr ⟨(wD (env:=X.env) hk),c',Ef hx0 hc',o,kp _ _ ho,hd⟩⟩
 ·rcases lkK e with⟨_,f2⟩ | ⟨_,f2⟩
  ·rw[f2]
   exact⟨none,nc⟩
  ·obtain⟨v,o,ho,hd⟩:=I.cell x c (sub x c f2)
   exact⟨v,o,kp _ _ ho,hd⟩
 ·rcases lkK e with⟨_,f2⟩ | ⟨_,f2⟩
  ·rw[f2]
   exact I.hok.fresh (S5 _)
  ·exact I.freeC x c (sub x c f2)
 ·show (QM L.length (none:Option V)++cap.map fun i=>(σ[i]?).join).length=(L++F).length
  rw[Qx,Qx,Rt,Qc,ok.len]
theorem Cr {cl:List (Q4 × Addr)} {pins:List (Addr × Tz)} {σ:St} {s2:Qe} {H2:Hp} {it:Addr} {fp:List Addr} {tn:Nat->Rv->Prop} {J:It} {use:Option (Value->Sem Unit)} {QQ:Value->Qe->Prop} {Z:Hp->Prop} {E:Value->Qe->Prop}
  (hc:X.calm=true) (ok:qT X scope x0 F cap)
  (sub:∀ n c,cl.lookup n=some c->X.env.cells.lookup n=some c) (all:∀ y∈scope.names,y.2 = .free->∃ c,cl.lookup y.1=some c)
  (hg:∀ cl C s H fp,PG (cX X scope cl C x0 (L++F) s H fp) tg g) (ht:∀ cl C s H fp,PTs (cX X scope cl C x0 (L++F) s H fp) ifs tt) (he:∀ cl C s H fp,PE (cX X scope cl C x0 (L++F) s H fp) elt te)
  (I2:Inv X pins σ H2 s2) (T:Turn X.prog X.w X.K tg J fp it tn) (st2:tn 0 s2.heap) (f2:∀ b∈fp,pG X pins H2 b)
  (q2:gU s2.heap.objs.size (Cp L.length cap σ) J g tt te H2 Z)
  (fin:∀ (C:Addr) (s':Qe) (H':Hp),Z H'->Inv X pins σ H' s'->(∃ m,s'.heap.Ns C m)->H' C=none->C≠X.env.locals->X.s₀.heap.objs.size<=C->(∀ x c,X.env.cells.lookup x=some c->c≠C)->(∀ p∈X.pn++pins,p.1≠C) →
   U9 (Qy X.prog X.w) X.A E use QQ (.ref s2.heap.objs.size) C (.ok .next) s') :
  Qp (Qy X.prog X.w) X.A (Yp []) (fun acc s₃=>Qp (Qy X.prog X.w) X.A (VR scope X.env.globals cl [] X.env.qual none .none (some X.env)) (fun cenv s₄ =>
   R5 (Qy X.prog X.w) X.A (.compStart (.ListComp elt [⟨tg,iter,ifs,0⟩] scope pos) 0 (.ref it) acc { cenv with scope:=relabel scope X.env }) (U9 (Qy X.prog X.w) X.A E use QQ acc cenv.locals) s₄) E s₃) E s2:=by
 have hD:H2 s2.heap.objs.size=none:=I2.fresh
 refine QV (J7 ?_)
 rw[ok.cf,ok.pc]
 have I3:Inv X pins σ (upd H2 s2.heap.objs.size (.lst [])) { s2 with heap:=s2.heap.push { cls:=.type "list",data:=.seq ([]:List Value).toArray } }:=I2.Nk (t':=s2.toks) (ys:=[]) (its:=[]) .nil (QW _)
 have blt:∀ b∈fp,b < s2.heap.objs.size:=fun b hb=>let ⟨_,e,_⟩:=T.obj 0 _ st2 b hb; Qt e
 have szC:(s2.heap.push { cls:=.type "list",data:=.seq ([]:List Value).toArray }).objs.size=s2.heap.objs.size+1:=Rf _ _
 generalize hs3:({ s2 with heap:=s2.heap.push { cls:=.type "list",data:=.seq ([]:List Value).toArray } }:Qe)=s3 at I3
 have es3:s3.heap=s2.heap.push { cls:=.type "list",data:=.seq ([]:List Value).toArray }:=by rw[← hs3]
 have eos:s3.os=s2.os:=by rw[← hs3]
 have fok:∀ b∈fp,pG X pins (upd H2 s2.heap.objs.size (.lst [])) b/\b < s3.heap.objs.size:=fun b hb=>by
  obtain⟨f0,fr⟩:=f2 b hb
  refine⟨⟨by rw[bx (QJ (blt b hb))]; exact f0,fr⟩,?_⟩
  rw[es3,szC]
  exact RQ (blt b hb)
 obtain⟨h₁,eh₁⟩:∃ h₁:Rv,h₁=(s3.heap.push { cls:=.type "dict",data:=.dict #[] }).push { cls:=.type "cell",data:=.cell none }:=⟨_,rfl⟩
 have hkp:∀ b o,s3.heap.get? b=some o->h₁.get? b=some o:=fun b o e=>by
  rw[eh₁]
  exact Qd _ (Qd _ e)
 have hns:h₁.Ns s3.heap.objs.size fun _=>none:=by
  rw[eh₁]
  exact (Heap.Ns.new s3.heap (.type "dict")).keeps fun b o e=>Qd _ e
 have hnc:h₁.IsCell (s3.heap.objs.size+1) none:=by
  rw[eh₁,← Rf s3.heap { cls:=.type "dict",data:=.dict #[] }]
  exact⟨_,Qn _ rfl,rfl⟩
 have I4:∀ tk,Inv (cX X scope cl s3.heap.objs.size x0 (L++F) s3 (upd H2 s2.heap.objs.size (.lst [])) fp) [] (Cp L.length cap σ) (upd H2 s2.heap.objs.size (.lst [])) { s3 with heap:=h₁,toks:=tk }:=fun tk =>
  vJ (L:=L) ok I3 fok sub all hns hkp hnc
 have stat:∀ {H':Hp},(∀ b∈fp,H' b=none)->∀ b∈fp,pG (cX X scope cl s3.heap.objs.size x0 (L++F) s3 (upd H2 s2.heap.objs.size (.lst [])) fp) [] H' b:=fun {H'} hn b hb=>by
  obtain⟨⟨_,g1,g2,g3,g4,g5⟩,g6⟩:=fok b hb
  exact⟨hn b hb,QJ g6,m7 I3 g1 g2,.inl hb,fun x c e=>(lkK e).elim (fun z=>by rw[z.2]; exact Sv (RQ g6)) (fun z=>g4 x c (sub x c z.2)),fun p hp=>absurd (show p∈([]:List (Addr × Tz)) from hp) (by simp)⟩
 have loop:∀ tk,R5 (Qy X.prog X.w) X.A (.compLoop (.ListComp elt [⟨tg,iter,ifs,0⟩] scope pos) 0 (.ref it) (.ref s2.heap.objs.size) (VV scope ((x0,s3.heap.objs.size+1)::cl) s3.heap.objs.size X.env))
   (U9 (Qy X.prog X.w) X.A E use QQ (.ref s2.heap.objs.size) s3.heap.objs.size) { s3 with heap:=h₁,toks:=tk }:=fun tk=>by
  obtain⟨W,⟨m0,w0⟩,turn⟩:=q2
  have st3:tn 0 h₁:=T.keep 0 _ _ st2 fun b hb o e=>hkp b o (by rw[es3]; exact Qd _ e)
  refine qy (fun n s'=>∃ i ys σ' H',Inv (cX X scope cl s3.heap.objs.size x0 (L++F) s3 (upd H2 s2.heap.objs.size (.lst [])) fp) [] σ' H' s'/\tn i s'.heap/\(∀ b∈fp,H' b=none)/\W i n ys σ' H') ?_ m0
   ⟨0,[],_,_,I4 tk,st3,fun b hb=>(fok b hb).1.1,w0⟩
  rintro n s5 ⟨i,ys,σ5,H5,I5,st5,fr5,w5⟩
  obtain⟨hDl,alt⟩:=turn i n ys σ5 H5 w5
  rcases alt with⟨stop,qz⟩ | ⟨go,N,hN,step⟩
  ·refine thn (T.done (cX X scope cl s3.heap.objs.size x0 (L++F) s3 (upd H2 s2.heap.objs.size (.lst [])) fp) rfl rfl rfl hc i [] s5 σ5 H5 _ I5 (stat fr5) st5 stop) fun r s6 ⟨hr,I6⟩=>?_
   subst hr
   have un:Un (frs X.stack) fp H2 H5 s2.heap s6.heap:=by
    have u1:Un (frs X.stack) fp H2 (upd H2 s2.heap.objs.size (.lst [])) s2.heap s3.heap:=by
     rw[es3]
     exact Un.laid (fun _ _ q=>Qd _ q) (Ql _) hD
    exact u1.trans I6.base
   have J1:Inv X pins σ H5 s6:=I2.call' (I6.os.trans eos) un I6.hok I6.bare fun b hb=>by
    obtain⟨_,g1,_,g3,g4,g5⟩:=f2 b hb
    exact⟨g3,g1,g4,g5⟩
   have hC:s2.heap.objs.size<=s3.heap.objs.size:=by rw[es3,szC]; exact S5 _
   obtain⟨m,hm,_⟩:=I6.loc
   refine fin s3.heap.objs.size s6 H5 qz J1 ⟨m,hm⟩ I6.free (Sv (Qs I2.lt hC)) (QL I2.sz hC) (fun x c e z=>?_) (fun p hp z=>?_)
   ·obtain⟨v,q⟩:=I2.cell x c e
    exact absurd (Qs q.lt (by rw[z]; exact hC)) (RG _)
   ·exact absurd (Qs (Qt (I2.pin p hp).1) (by rw[z]; exact hC)) (RG _)
  ·refine thn (T.item (cX X scope cl s3.heap.objs.size x0 (L++F) s3 (upd H2 s2.heap.objs.size (.lst [])) fp) rfl rfl rfl hc i [] s5 σ5 H5 _ I5 (stat fr5) st5 go) fun r s6 ⟨u,hr,h6⟩=>?_
   subst hr
   refine thn h6 fun _ s7 ⟨x,H7,I7,r7,y7,st7,fr7⟩=>?_
   have I7':=I7.pinned (stat fr7) (T.obj _ _ st7)
   refine thn (hg _ _ _ _ _ _ s7 σ5 H7 x u _ I7' r7 (step x H7 y7)) fun _ s8 ⟨σ8,H8,I8,q8⟩=>?_
   have again:∀ {σ9:St} {H9:Hp} {s9:Qe} {zs:List V},Inv (cX X scope cl s3.heap.objs.size x0 (L++F) s3 (upd H2 s2.heap.objs.size (.lst [])) fp) ([]++jO fp s7.heap) σ9 H9 s9->N zs σ9 H9 →
     ∃ m,m < n/\∃ i ys σ' H',Inv (cX X scope cl s3.heap.objs.size x0 (L++F) s3 (upd H2 s2.heap.objs.size (.lst [])) fp) [] σ' H' s9/\tn i s9.heap/\(∀ b∈fp,H' b=none)/\W i m ys σ' H':=fun {σ9 H9 s9 zs} I9 n9=>by
    obtain⟨m',hm,w9⟩:=hN zs σ9 H9 n9
    refine⟨m',hm,i+1,zs,σ9,H9,I9.gj,T.keep _ _ _ st7 fun b hb o e=>(I9.pin (b,o) (QB _ (QB _ (cN hb e)))).1,fun b hb=>?_,w9⟩
    obtain⟨o,e,d⟩:=T.obj _ _ st7 b hb
    exact (I9.pin (b,o) (QB _ (QB _ (cN hb e)))).2.1
   refine thn (ht _ _ _ _ _ _ s8 σ8 H8 _ I8 q8) fun okb s9 ⟨H9,I9,q9⟩=>?_
   cases okb with
   | false =>
    rw[if_neg Qk] at q9 ⊢
    exact again I9 q9
   | true =>
    rw[if_pos rfl] at q9 ⊢
    refine thn (he _ _ _ _ _ _ s9 σ8 H9 _ I9 q9) fun y s10 ⟨yv,H10,I10,r10,e10,z10,n10⟩=>?_
    refine thn (cM _ s10 σ8 H10 (.ref s2.heap.objs.size) [yv] (.ref s2.heap.objs.size) [y] (fun _ H'=>N (ys++[yv]) σ8 H') I10 rfl (.cons r10 .nil) ⟨_,ys,yv,rfl,rfl,e10,z10,n10⟩) fun _ s11 ⟨_,H11,I11,_,n11⟩=>?_
    exact again I11 n11
 have eC:(s2.heap.push { cls:=.type "list",data:=.seq ([]:List Value).toArray }).objs.size=s3.heap.objs.size:=by rw[es3]
 have goal:∀ tk,R5 (Qy X.prog X.w) X.A (.compStart (.ListComp elt [⟨tg,iter,ifs,0⟩] scope pos) 0 (.ref it) (.ref s2.heap.objs.size) (VV scope ((x0,s3.heap.objs.size+1)::cl) s3.heap.objs.size X.env))
   (U9 (Qy X.prog X.w) X.A E use QQ (.ref s2.heap.objs.size) s3.heap.objs.size) { s3 with heap:=h₁,toks:=tk }:=fun tk =>
  Wi (loop tk) (T.self _ 0 _ _ _ (T.keep 0 _ _ st2 fun b hb o e=>hkp b o (by rw[es3]; exact Qd _ e)) (loop tk))
 have g0:=goal s2.toks
 subst hs3
 rw[eh₁] at g0
 exact g0
theorem Ge (hc:X.calm=true) (ok:qT X scope x0 F cap) (hi:PI X tg iter wi)
  (hg:∀ cl C s H fp,PG (cX X scope cl C x0 (L++F) s H fp) tg g) (ht:∀ cl C s H fp,PTs (cX X scope cl C x0 (L++F) s H fp) ifs tt) (he:∀ cl C s H fp,PE (cX X scope cl C x0 (L++F) s H fp) elt te)
  (hs:∀ x,SN iter X.env x=pure x:=by intro _; rfl):PE X (.ListComp elt [⟨tg,iter,ifs,0⟩] scope pos) (Nf L.length cap wi g tt te):=by
 intro pins s σ H Q I h
 obtain⟨cl,e1,e2,e3⟩:=qM (scope:=scope) (env:=X.env) (fun y hy hf=>I.ok.has _ (ok.fr y hy hf))
 rw[eval_ListComp]
 refine U8 (use:=none) rfl hs e1 ok.kind ok.nms (thn (hi pins s σ H _ I h) fun v s1 h1=>thn h1 fun itv s2 h2=>?_)
 obtain⟨it,fp,tn,J,H2,e,I2,T,st2,f2,q2⟩:=h2
 subst e
 refine Cr (Z:=fun H'=>Q (.ref s2.heap.objs.size) H') hc ok e2 e3 hg ht he I2 T st2 f2 (q2 _ I2.fresh) fun C s' H' z J m hCf hCl hCs hCc hCp=>?_
 ·obtain⟨m,hm⟩:=m
  exact⟨m,hm,fun h' hs'=>⟨.ref _,H',J.turned (t':=s'.toks) (fun b o hb e=>(hs'.2 b hb).trans e) hCf hCl (.inr hCs) hCc hCp,rfl,z⟩⟩
end
end L2
namespace L2
open PySem PySem.Spec PyProof.Rows
def yP (osc:TX) (oN:List Q4) (sc:TX) (x0:Q4) (F:List Q4) (cap:List Nat):Bool :=
 decide (sc.kind = .function) && sc.names.all (fun y=>!decide (y.2 = .cell) || decide (y.1=x0)) && decide (sc.names.lookup x0=some .cell) && sc.names.all (fun y=>!decide (y.2 = .local) || decide (sc.names.lookup y.1=some .local)) &&
 sc.names.all (fun y=>!decide (y.2 = .free) || decide (osc.names.lookup y.1=some .cell) || decide (osc.names.lookup y.1=some .free)) && decide (cap.length=F.length) &&
 (Rk F.length).all fun k=>(decide (F[k]? = none) || decide ((cap[k]?.bind fun i=>oN[i]?)=F[k]?)) && decide ((F[k]?.bind fun x=>sc.names.lookup x)=some .free)
theorem Gn {X:Cx} {osc sc:TX} {x0:Q4} {oN F:List Q4} {cap:List Nat} (ho:X.env.scope=osc) (hN:X.N=oN) (h:yP osc oN sc x0 F cap=true)
  (cf:∀ (n:Nat) (acc:List (Q4 × Addr)),W8 n sc.names acc=(x0,n)::acc) (pc:∀ h:Rv,pushCells h sc.names=h.push { cls:=.type "cell",data:=.cell none }):qT X sc x0 F cap:=by
 unfold yP at h
 simp only[Rn] at h
 obtain⟨⟨⟨⟨⟨⟨h1,h2⟩,h0⟩,h3⟩,h4⟩,h5⟩,h6⟩:=h
 refine⟨of_decide_eq_true h1,cf,pc,fun x e=>?_,of_decide_eq_true h0,fun y hy e=>?_,fun y hy e=>?_,of_decide_eq_true h5,fun k x e=>?_⟩
 ·have:=List.all_eq_true.mp h2 _ (Rj e)
  exact of_decide_eq_true (by simpa using this)
 ·have:=List.all_eq_true.mp h3 y hy
  rw[decide_eq_true e] at this
  exact of_decide_eq_true (by simpa using this)
 ·have:=List.all_eq_true.mp h4 y hy
  rw[decide_eq_true e] at this
  have z:decide (osc.names.lookup y.1=some .cell)=true∨decide (osc.names.lookup y.1=some .free)=true:=by
   rw[Bool.not_true,Xj,Vf] at this
   exact this
  show X.env.scope.names.lookup y.1=_∨X.env.scope.names.lookup y.1=_
  rw[ho]
  exact z.elim (fun q=>.inl (of_decide_eq_true q)) fun q=>.inr (of_decide_eq_true q)
 ·have hk:k < F.length:=(List.getElem?_eq_some_iff.mp e).1
  have q:=List.all_eq_true.mp h6 k (List.mem_range.mpr hk)
  rw[e,Rn] at q
  obtain⟨q1,q2⟩:=q
  have q1:(cap[k]?.bind fun i=>oN[i]?)=some x:=by
   rw[Vf] at q1
   rcases q1 with z | z
   ·exact absurd (of_decide_eq_true z) (by simp)
   ·exact of_decide_eq_true z
  have q2:sc.names.lookup x=some .free:=of_decide_eq_true q2
  cases hc:cap[k]? with
  | none=>rw[hc] at q1; cases q1
  | some i =>
   rw[hc] at q1
   exact⟨i,rfl,by rw[hN]; exact q1,q2⟩
theorem GK {X:Cx} {scope:TX} {cl:List (Q4 × Addr)} {C:Addr} {x0:Q4} {N:List Q4} {s:Qe} {H:Hp} {fp:List Addr} (h:N.Nodup):(cX X scope cl C x0 N s H fp).N.Nodup:=h
end L2
namespace L2
open PySem PySem.Spec PyProof.Rows
section
variable {X:Cx}
end
end L2
namespace L2
open PySem PySem.Spec PyProof.Rows
section
variable {X:Cx}
end
end L2
namespace L2
open PySem PySem.Spec PyProof.Rows
section
variable {prog:QK} {w:Q3} {A:Q5} {R:WW->Qe->Prop} {E:Value->Qe->Prop} {s:Qe}
end
section
variable {X:Cx} {k:Nat}
end
end L2
namespace L2
open PySem PySem.Spec PyProof.Rows PySem.W
section
variable {prog:QK} {w:Q3} {A:Q5} {E:Value->Qe->Prop} {κ:Xy} {it:Array Keyed} {s:Qe}
end
section
variable {X:Cx}
end
end L2
namespace L2
open PySem PySem.Spec PyProof.Rows
section
variable {X:Cx} {k:Nat}
end
end L2
namespace L2
open PySem PySem.Spec PyProof.Rows
end L2
namespace L2
open PySem PySem.Spec PyProof.Rows
section
variable {prog:QK} {w:Q3} {A:Q5} {R:WW->Qe->Prop} {E:Value->Qe->Prop} {s:Qe}
end
section
variable {X:Cx}
end
end L2
namespace L2
open PySem PySem.W PyProof.Rows
def im (it:Array Keyed) (l:List Nat):Array Keyed:=(l.map (kas_item it)).toArray
section
variable (prog:QK) (w:Q3) (A:Q5) (E:Value->Qe->Prop) (κ:Xy) (it:Array Keyed) (s:Qe)
end
section
variable {prog:QK} {w:Q3} {A:Q5} {E:Value->Qe->Prop} {κ:Xy} {it:Array Keyed} {s:Qe}
end
section
variable (o:Nat->Nat->Bool) (N:Nat)
end
section
variable {prog:QK} {w:Q3} {A:Q5} {E:Value->Qe->Prop} {κ:Xy} {it:Array Keyed} {s:Qe} {o:Nat->Nat->Bool} {N:Nat}
end
section
variable {prog:QK} {w:Q3} {A:Q5} {E:Value->Qe->Prop} {κ:Xy} {it:Array Keyed} {s:Qe} {o:Nat->Nat->Bool} {N:Nat}
end
section
variable {prog:QK} {w:Q3} {A:Q5} {E:Value->Qe->Prop} {κ:Xy} {it:Array Keyed} {s:Qe} {o:Nat->Nat->Bool} {N:Nat}
end
end L2
namespace L2
open PySem PySem.Spec PyProof.Rows PySem.W PySem.SeqAt
open AutoSeq1 (wpAny_loadPart')
open MeetsSeq MeetsSeq2 MeetsSeq3
section
variable {prog:QK} {w:Q3} {A:Q5} {E:Value->Qe->Prop} {s:Qe}
end
section
variable {X:Cx} {k:Nat}
end
end L2
namespace L2
open PySem PySem.Spec PyProof.Rows
section
variable {prog:QK} {w:Q3} {A:Q5} {E:Value->Qe->Prop} {s:Qe}
end
end L2
namespace L2
open PySem PySem.Spec PyProof.Rows
section
variable {X:Cx}
end
end L2
namespace L2
open PySem PySem.Spec PyProof.Rows PySem.W
section
variable {n:Nat} {o:Nat->Nat->Bool} {cmp:Nat->Nat->(Bool->Qe->Prop)->Qe->Prop} {s:Qe}
variable (tr:∀ i j k,i < n->j < n->k < n->o i j=true->o j k=true->o i k=true) (tot:∀ i j,i < n->j < n->i≠j->o i j=false->o j i=true)
variable (hc:∀ i j,i < n->j < n->∀ C:Bool->Qe->Prop,C (o i j) s->cmp i j C s)
include tr in
include tr in
include tr tot hc in
include tr tot hc in
include tr tot hc in
include tr tot hc in
include tr tot hc in
include tr tot hc in
include tr tot hc in
end
end L2
namespace L2
open PySem PySem.Spec PyProof.Rows PySem.W PySem.SeqAt
open AutoSeq1 (wpAny_loadPart')
open MeetsSeq MeetsSeq2 MeetsSeq3
section
variable {prog:QK} {w:Q3} {A:Q5} {E:Value->Qe->Prop} {s:Qe}
end
end L2
namespace L2
open PySem PySem.Spec PyProof.Rows PySem.W
section
variable {prog:QK} {w:Q3} {A:Q5} {E:Value->Qe->Prop} {s:Qe}
end
end L2
namespace L2
open PySem PySem.Spec PyProof.Rows PySem.W
section
variable {prog:QK} {w:Q3} {A:Q5} {E:Value->Qe->Prop} {s:Qe}
end
section
variable {X:Cx} {k:Nat}
end
end L2
namespace L2
open PySem PySem.Spec PyProof.Rows
inductive HasDef (K:Qo) (x:Q4) (st:Stmt) (f:Addr):Prop where
 | mk {od an:Option Addr} {sl:Array (Option Value)} {oc kV dc pm cd ct:Value} (a:PySem.W.nsIn K QG x=some (some (.ref f))) (l:K.lookup f=some ⟨oc,od,.func (UW x x (dW st) (dG st) (aD st) .none kV dc pm an cd ct),sl⟩) (c:V1 K cd x=true) (k:Tn K (.ref f)=true):HasDef K x st f
section
variable {P:QK} {w:Q3} {K:QF} {mg:Q4->Option Value} {base h:Rv} {x:Q4} {st:Stmt} {f:Addr} {ps:List Q4} {sp:Sp} {k:Nat}
theorem HasDef.name (q:HasDef K x st f) (X:K.In h) (G:h.Ns QG mg):mg x=some (.ref f):=by
 obtain⟨a,l,c,k⟩:=q
 exact PySem.W.mg_of X G a
theorem HasDef.df (q:HasDef K x st f) (X:K.In h) (G:h.Ns QG mg) (hb:∀ fd,Fun K x x st f fd->Binds K fd ps []) (ok:∀ fd,Fun K x x st f fd->cI P w K mg base CX0 k f fd ps sp):Df P w K mg base x k ps sp:=by
 obtain⟨a,l,c,k⟩:=q
 have F:=yl l c k
 exact⟨⟨_,_,ok _ F,PySem.W.mg_of X G a,k,hb _ F⟩⟩
theorem HasDef.law {y:Q4} (q:HasDef K x st f) (hb:∀ (kV dc pm:Value) (an:Option Addr) (cd ct:Value) (s:Qe) (v:Value),Xb s (W.fnOf x x (dW st) (dG st) (aD st) .none kV dc pm an cd ct) ⟨[v],[]⟩ [(y,v)]):∃ fd,Fun K x x st f fd/\∀ (s:Qe) (v:Value),Xb s fd ⟨[v],[]⟩ [(y,v)]:=by
 obtain⟨a,l,c,k⟩:=q
 exact⟨_,yl l c k,hb _ _ _ _ _ _⟩
theorem Og {α:Type}:∀ {us:List α},us.length=1->∃ x0,us=[x0]
 | [x0],_=>⟨x0,rfl⟩
theorem Nm {α:Type}:∀ {us:List α},us.length=2->∃ x0 x1,us=[x0,x1]
 | [x0,x1],_=>⟨x0,x1,rfl⟩
theorem O4 {α:Type}:∀ {us:List α},us.length=3->∃ x0 x1 x2,us=[x0,x1,x2]
 | [x0,x1,x2],_=>⟨x0,x1,x2,rfl⟩
theorem O9 {α:Type}:∀ {us:List α},us.length=4->∃ x0 x1 x2 x3,us=[x0,x1,x2,x3]
 | [x0,x1,x2,x3],_=>⟨x0,x1,x2,x3,rfl⟩
theorem Oo {α:Type}:∀ {us:List α},us.length=5->∃ x0 x1 x2 x3 x4,us=[x0,x1,x2,x3,x4]
 | [x0,x1,x2,x3,x4],_=>⟨x0,x1,x2,x3,x4,rfl⟩
theorem bind1 {a0:Q4} (h:∀ (kV doc pm:Value) (an:Option Addr) (cdv ct x0:Value),WR (W.fnOf x x (dW st) (dG st) (aD st) .none kV doc pm an cdv ct) ⟨[x0],[]⟩=pure [(a0,x0)]):∀ fd,Fun K x x st f fd->Binds K fd [a0] []:=fun _ F=>F.binds fun kV doc pm an cdv ct us hl=>by
 obtain⟨x0,rfl⟩:=Og hl
 exact h kV doc pm an cdv ct x0
theorem cC {a0 a1:Q4} (h:∀ (kV doc pm:Value) (an:Option Addr) (cdv ct x0 x1:Value),WR (W.fnOf x x (dW st) (dG st) (aD st) .none kV doc pm an cdv ct) ⟨[x0,x1],[]⟩=pure [(a0,x0),(a1,x1)]):∀ fd,Fun K x x st f fd->Binds K fd [a0,a1] []:=fun _ F=>F.binds fun kV doc pm an cdv ct us hl=>by
 obtain⟨x0,x1,rfl⟩:=Nm hl
 exact h kV doc pm an cdv ct x0 x1
theorem ir {a0 a1 a2:Q4} (h:∀ (kV doc pm:Value) (an:Option Addr) (cdv ct x0 x1 x2:Value),WR (W.fnOf x x (dW st) (dG st) (aD st) .none kV doc pm an cdv ct) ⟨[x0,x1,x2],[]⟩=pure [(a0,x0),(a1,x1),(a2,x2)]):∀ fd,Fun K x x st f fd->Binds K fd [a0,a1,a2] []:=fun _ F=>F.binds fun kV doc pm an cdv ct us hl=>by
 obtain⟨x0,x1,x2,rfl⟩:=O4 hl
 exact h kV doc pm an cdv ct x0 x1 x2
theorem zq {a0 a1 a2 a3:Q4} (h:∀ (kV doc pm:Value) (an:Option Addr) (cdv ct x0 x1 x2 x3:Value),WR (W.fnOf x x (dW st) (dG st) (aD st) .none kV doc pm an cdv ct) ⟨[x0,x1,x2,x3],[]⟩=pure [(a0,x0),(a1,x1),(a2,x2),(a3,x3)]):∀ fd,Fun K x x st f fd->Binds K fd [a0,a1,a2,a3] []:=fun _ F=>F.binds fun kV doc pm an cdv ct us hl=>by
 obtain⟨x0,x1,x2,x3,rfl⟩:=O9 hl
 exact h kV doc pm an cdv ct x0 x1 x2 x3
theorem Mm {a0 a1 a2 a3 a4:Q4} (h:∀ (kV doc pm:Value) (an:Option Addr) (cdv ct x0 x1 x2 x3 x4:Value),WR (W.fnOf x x (dW st) (dG st) (aD st) .none kV doc pm an cdv ct) ⟨[x0,x1,x2,x3,x4],[]⟩=pure [(a0,x0),(a1,x1),(a2,x2),(a3,x3),(a4,x4)]):∀ fd,Fun K x x st f fd->Binds K fd [a0,a1,a2,a3,a4] []:=fun _ F=>F.binds fun kV doc pm an cdv ct us hl=>by
 obtain⟨x0,x1,x2,x3,x4,rfl⟩:=Oo hl
 exact h kV doc pm an cdv ct x0 x1 x2 x3 x4
end
end L2
namespace L2
open PySem PySem.Spec PyProof.Rows
structure Dm2 (P:QK) (w:Q3) (K:Qo) (mg:Q4->Option Value) (base:Rv) (C:Addr) (m:Q4) (k:Nat) (ps:List Q4) (sp:Sp):Prop where
 ex:∃ (f:Addr) (fd:TF),cI P w K mg base CX0 k f fd ps sp/\Cls K C/\Meth K C m f/\Binds K fd ps []
structure Dk2 (P:QK) (w:Q3) (K:Qo) (mg:Q4->Option Value) (base:Rv) (x:Q4) (C:Addr) (k:Nat) (ps:List Q4) (sp:Sp):Prop where
 ex:∃ (f:Addr) (fd:TF),cI P w K mg base CX0 k f fd ps sp/\Mk K C f/\mg x=some (.ref C)/\Binds K fd ps []
section
variable {X:Cx} {k j:Nat} {x m:Q4} {C:Addr} {ps:List Q4} {sp:Sp} {p pos apos:V5} {o e:Expr} {es:List Expr} {to:TE} {t:TA} {f:Q4}
theorem tM {pl:Sem Bool} (D:Dm2 X.prog X.w X.K X.mg X.base C m k ps sp) (hr:jM j X.A) (ho:PE X o to) (ha:PA X (e::es) t) (hk:k<=j:=by first | decide | exact Ql _ | lia)
  (hst:QS (e::es) X.env=(false,S6 e X.env)::QS es X.env:=by rfl) (hpl:(TQ pos (QS es X.env)).any (·.1)=false:=by rfl)
  (ht:S6 (.Call (.Attribute o m apos) (e::es) [] pos) X.env=(do
   let ov ← S6 o X.env
   VJ apos.atName
   let (f,first) ← VL [ov] (W7 ov m pl)
   callWith pos f first (TQ pos (QS (e::es) X.env)) (backToKw pos (WN [] X.env))):=by rfl) :
  PE X (.Call (.Attribute o m apos) (e::es) [] pos) (Gz C m sp [] E0 to t):=by
 obtain⟨f,fd,F,c,hm,hb⟩:=D.ex
 exact KJ ho c hm F (hr.mono hk) hb .nil Ax ha hst hpl ht
theorem Ln {pl:Sem Bool} (D:Dm2 X.prog X.w X.K X.mg X.base C m k ps sp) (hr:jM j X.A) (ho:PE X o to) (hk:k<=j:=by first | decide | exact Ql _ | lia)
  (ht:S6 (.Call (.Attribute o m apos) [] [] pos) X.env=(do
   let ov ← S6 o X.env
   VJ apos.atName
   let (f,first) ← VL [ov] (W7 ov m pl)
   callWith pos f first (TQ pos (QS [] X.env)) (backToKw pos (WN [] X.env))):=by rfl) :
  PE X (.Call (.Attribute o m apos) [] [] pos) (Gz C m sp [] E0 to Fo):=by
 obtain⟨f,fd,F,c,hm,hb⟩:=D.ex
 exact G9 ho c hm F (hr.mono hk) hb .nil Ax ht
theorem Cq (D:Dk2 X.prog X.w X.K X.mg X.base x C k ps sp) (hr:jM j X.A) (ha:PA X (e::es) t) (hk:k+1<=j:=by first | decide | exact Ql _ | lia) (hg:Gl X x:=by rfl)
  (hdb:(x == ("__debug__" : Q4))=false:=by decide) (he:QS (e::es) X.env=(false,S6 e X.env)::QS es X.env:=by rfl) (hpl:(TQ pos (QS es X.env)).any (·.1)=false:=by rfl) :
  PE X (.Call (.Name x p) (e::es) [] pos) (Ga C sp [] E0 t):=by
 obtain⟨f,fd,F,M,hm,hb⟩:=D.ex
 exact JF M F (hr.mono hk) hg hm hb .nil Ax ha hdb he hpl
theorem K4 (D:Dk2 X.prog X.w X.K X.mg X.base x C k ps sp) (hr:jM j X.A) (hk:k+1<=j:=by first | decide | exact Ql _ | lia) (hg:Gl X x:=by rfl)
  (hdb:(x == ("__debug__" : Q4))=false:=by decide):PE X (.Call (.Name x p) [] [] pos) (Ga C sp [] E0 Fo):=by
 obtain⟨f,fd,F,M,hm,hb⟩:=D.ex
 exact Hs M F (hr.mono hk) hg hm hb .nil Ax hdb
theorem bh (K:QF) (hK:X.K=K) (he:PE X e to) (hb:Xi e f X.env (S6 e X.env)=S6 e X.env:=by rfl):PE X (.Attribute e f pos) (Ow K to f):=by
 subst hK
 exact Lb he hb
end
end L2
namespace L2
open PySem PySem.Spec PyProof.Rows
section
variable {prog:QK} {w:Q3} {A:Q5} {E:Value->Qe->Prop} {s:Qe}
theorem Ft {t:Addr} {zs:List Value} {R:List Value->Qe->Prop} (ht:s.heap.IsTuple t zs.toArray) (hz:zs.length<=sizeLine)
  (k:R zs { s with heap:=(s.heap.push (WL "list" #[] 0)).update s.heap.objs.size (Ug (·++zs.toArray)) }):Qp (Qy prog w) A (collect (.ref t)) R E s:=by
 obtain⟨o,ho,hc,m,hd⟩:=id ht
 have old:(s.heap.push (WL "list" #[] 0)).get? t=some o:=Qd _ ho
 have new:(s.heap.push (WL "list" #[] 0)).get? s.heap.objs.size=some (WL "list" #[] 0):=Qn _ rfl
 unfold collect
 apply Qa
 apply wpAny_runValue
 apply Ss entry_proto_collect'
 apply Qa (m:=Yp [])
 refine wpAny_newList ?_
 apply Qh
 refine⟨Code.quiet_builtin _ (by decide+kernel),?_⟩
 apply Ss entry_list_iadd'
 show Qp _ _ (Ut _ _ _) _ _ _
 unfold Ut
 apply Qa
 refine Xq (T:="tuple") ⟨o,old,hc⟩ ?_
 rw[if_pos (by rw[show (TV "tuple" == TV "tuple")=true from rfl]; simp)]
 apply Qa
 apply listItems_at old hd
 apply Qa
 apply listItems_at (xs:=#[]) (n:=0) new rfl
 rw[if_neg (by simp)]
 apply Qa
 refine listUpdate_at (xs:=#[]) (n:=0) new rfl ?_ (QW _) ?_
 ·apply Qh
  apply Qa (m:=load s.heap.objs.size)
  apply wpAny_load (get?_update_seq new _)
  show Qp _ _ (pure ((#[]:Array Value)++zs.toArray).toList) R E _
  have e:((#[]:Array Value)++zs.toArray).toList=zs:=by simp
  rw[e]
  exact Qh k
 ·have e:((#[]:Array Value)++zs.toArray).size=zs.length:=by simp
  show ((#[]:Array Value)++zs.toArray).size<=sizeLine+1
  rw[e]
  exact Nat.le_succ_of_le hz
theorem zV {t:Addr} {zs:List Value} {ns:List Int} {R:Value->Qe->Prop} (ht:s.heap.IsTuple t zs.toArray) (hi:Rz zs ns) (h64:zs.length < 64)
  (k:∀ (out:Array Value) (ms:List Int),Rz out.toList ms->ms.Perm ns->ms.Pairwise (·<=·)->R (.ref (s.heap.objs.size+1)) { s with heap:=sortedAll s.heap zs out }):Qp (Qy prog w) A (call (.builtin "sorted") [.ref t]) R E s:=by
 apply Calls.call_function_entry kind_sorted plain_sorted entry_sorted (args_sorted1 _)
 unfold Uu.«sorted»
 apply Qa (m:=checkCount "sorted" 1 1 _)
 apply Qh
 apply Qa
 apply Ft ht (Tg (VM h64 (by decide)))
 apply Qa
 refine wpAny_newList ?_ (hsz:=Tg (VM h64 (by decide)))
 generalize eg:(s.heap.push (WL "list" #[] 0)).update s.heap.objs.size (Ug (·++zs.toArray))=g
 have hg:g.objs.size=s.heap.objs.size+1:=by rw[← eg,Heap.size_update,size_push']
 have top:(g.push (WL "list" zs.toArray 0)).get? (s.heap.objs.size+1)=some (WL "list" zs.toArray 0):=by
  rw[← hg]
  exact Qn _ rfl
 show Qp _ _ _ _ _ { s with heap:=g.push (WL "list" zs.toArray 0) }
 rw[hg]
 apply Qa
 apply R9
 refine Rm slot_list_sort ⟨_,top,rfl⟩ entry_list_sort ?_ (args_list_sort _)
 ·refine list_sort_tree top hi h64 fun out ms a1 a2 a3=>⟨_,rfl,?_⟩
  have:=k out ms a1 a2 a3
  unfold sortedAll at this
  rw[eg] at this
  exact Qh ⟨_,rfl,this⟩
end
section
variable {X:Cx}
inductive BW (K:QF) (xs:List V) (H:Hp) (Q:VK):Prop where
 | mk (p:Addr) (ns:List Int) (z0:xs=[.ref p]) (z1:SqT K H p (ns.map V.int)) (z2:ns.length < 64) (z3:∀ ms:List Int,ms.Perm ns->ms.Pairwise (·<=·)->∀ l,H l=none->Q (.ref l) (upd H l (.lst (ms.map V.int)))):BW K xs H Q
def HB (K:QF):List V->Hp->VK->Prop:=fun xs H Q=>BW K xs H Q
theorem zY:gh X (.builtin "sorted") (HB X.K):=by
 intro pins s σ H xs us Q I r h
 obtain⟨p,ns,rfl,hq,h64,q⟩:=h
 obtain⟨u,rfl,ru⟩:=vals1 r
 cases ru
 obtain⟨its,rv,pl,hz⟩:=I.tuple hq
 have hi:Rz its ns:=intsAre_of rv
 refine zV pl hi (by have:=hi.length; lia) fun out ns' a1 a2 a3=>?_
 obtain⟨e,he⟩:=sortedAll_at s.heap its out
 have hml:(ns'.map V.int).length<=sizeLine:=by
  rw[Qc,a2.length_eq]
  exact Tg (Qs h64 (by decide))
 exact⟨.ref _,_,I.Kq rfl rfl (fun _ _=>sortedAll_old) (S5 _) (iy a1) hml he,rfl,q ns' a2 a3 _ (I.hok.fresh (S5 _))⟩
end
end L2
namespace L2
open PySem PySem.Spec PyProof.Rows
inductive jj (K:Qo) (x:Q4) (C:Addr):Prop where
 | mk (a:PySem.W.nsIn K QG x=some (some (.ref C))) (pg:Vq K C Str.empty=true) (hd:V4 K C=true) (po:XC K C=true) (sa:Sg K (.ref C) "__setattr__" = some (some (.builtin "object.__setattr__"))) (ms:Yi K C=true) (kp:Tn K (.ref C)=true):jj K x C
inductive dh (K:Qo) (C:Addr) (m q:Q4) (st:Stmt) (f:Addr):Prop where
 | mk {od an:Option Addr} {sl:Array (Option Value)} {oc kV dc pm cd ct:Value} (a:Sg K (.ref C) m=some (some (.ref f))) (fn:XF K (.ref f)=true) (l:K.lookup f=some ⟨oc,od,.func (UW m q (dW st) (dG st) (aD st) .none kV dc pm an cd ct),sl⟩) (c:V1 K cd q=true) (k:Tn K (.ref f)=true):dh K C m q st f
section
variable {P:QK} {w:Q3} {K:QF} {mg:Q4->Option Value} {base h:Rv} {x m q:Q4} {st:Stmt} {C f:Addr} {ps:List Q4} {sp:Sp} {k:Nat}
theorem jj.cl (c:jj K x C):Cls K C:=by
 obtain⟨_,pg,hd,po,sa,_,_⟩:=c
 exact⟨pg,hd,po,sa⟩
theorem dh.dm (o:dh K C m q st f) (c:jj K x C) (hb:∀ fd,Fun K m q st f fd->Binds K fd ps []) (ok:∀ fd,Fun K m q st f fd->cI P w K mg base CX0 k f fd ps sp):Dm2 P w K mg base C m k ps sp:=by
 obtain⟨a,fn,l,cd,k⟩:=o
 have F:=yl l cd k
 exact⟨⟨_,_,ok _ F,c.cl,⟨a,fn,k⟩,hb _ F⟩⟩
theorem dh.dk (o:dh K C "__init__" q st f) (c:jj K x C) (X:K.In h) (G:h.Ns QG mg) (hb:∀ fd,Fun K "__init__" q st f fd->Binds K fd ps []) (ok:∀ fd,Fun K "__init__" q st f fd->cI P w K mg base CX0 k f fd ps sp):Dk2 P w K mg base x C k ps sp:=by
 obtain⟨a,fn,l,cd,k⟩:=o
 obtain⟨n,_,_,_,_,ms,kp⟩:=c
 have F:=yl l cd k
 exact⟨⟨_,_,ok _ F,⟨ms,a,fn,kp⟩,PySem.W.mg_of X G n,hb _ F⟩⟩
end
end L2
namespace My
open PySem L2
variable {P:QK} {w:Q3} {K:QF} {mg:Q4->Option Value} {base:Rv} {f:Addr} {fd:TF}
def top (i:Nat):Stmt:=PySem.Challenge.pw_loveboon_k57_whole_gifts_stay_when_folk.main.body.getD i (.Pass ⟨0,0,0,0⟩)
theorem aB {H:Hp} {p:Addr} (h:H p=none) (o:HO):aU H (upd H p o):=fun b u q=>by rw[bx (dD q h)]; exact q
theorem aW {H H':Hp} {p:Addr} (s:aU H H') (h:H p=none) (o:HO):aU H (upd H' p o):=fun b u q=>by rw[bx (dD q h)]; exact s b u q
theorem d8 {K:QF} {H H':Hp} {a:Addr} {xs:List V} (e:aU H H') (h:SqT K H a xs):SqT K H' a xs:=by
 rcases h with (h | ⟨o,h⟩) | h
 ·exact .inl (.inl (e _ _ h))
 ·exact .inl (.inr ⟨o,e _ _ h⟩)
 ·exact .inr h
theorem Dl {H:Hp} {p:Addr} {o o':HO}:upd (upd H p o) p o'=upd H p o':=by
 funext b
 unfold upd
 by_cases e:b=p
 ·rw[if_pos e,if_pos e]
 ·rw[if_neg e,if_neg e,if_neg e]
theorem small {n:Nat} (h:n<=1000):n<=sizeLine:=Tg (aM h)
theorem int_at {ns:List Int} {i:Nat} {x:V} (h:(ns.map V.int)[i]? = some x):∃ n,ns[i]? = some n/\x = .int n:=by
 rw[QH] at h
 cases e:ns[i]? with
 | none=>rw[e] at h; cases h
 | some n=>rw[e] at h; exact⟨n,rfl,(QZ h).symm⟩
theorem qH {α β:Type} (f:α->β) {xs:List α} {i:Nat} {x:α} (h:xs[i]? = some x):(xs.take i).map f++[f x]=(xs.take (i+1)).map f:=by
 rw[QR,h,Qj]
 rfl
theorem gW {ns:List Int} {i:Nat} (h:i < ns.length):atI (ns.map V.int) (i:Int)=some (.int ns[i]):=gK (by rw[QH,Qg h]; rfl)
theorem gT {i:Nat} {x:V} {σ:St} {H:Hp} {A B:St->Hp->Prop} (h:A (σ.set i (some x)) H):vM i x σ H (fun σ3 H3=>Hn σ3 H3 (fun b H4=>if b=true then A σ3 H4 else B σ3 H4)):=by
 show if true=true then A (σ.set i (some x)) H else B (σ.set i (some x)) H
 rw[if_pos rfl]
 exact h
theorem aP {H H1:Hp} {p:Addr} {o:HO} (e:upd H p o=H1) (h:H p=none):aU H H1/\H1 p=some o:=by
 subst e
 exact⟨aB h _,ao⟩
theorem aC {xs:List V} {k:Nat} {v:V} (h:xs[k]? = some v):atI xs (k:Int)=some v:=gK h
theorem dg {ns:List Int} {k:Nat} {n:Int} (h:ns[k]? = some n):(ns.map V.int)[k]? = some (.int n):=by rw[QH,h]; rfl
theorem JB {n:Nat} {z:Int} (h:0 < n):ixN n (z % (n:Int))=some (z % (n:Int)).toNat:=by
 have h1:0<=z % (n:Int):=Q6 _ (by lia)
 have h2:z % (n:Int) < (n:Int):=QT _ (by lia)
 unfold ixN
 rw[if_pos h1,if_pos h2]
theorem tT {σ:St} {H:Hp} {A B:Hp->Prop} (h:A H):Hn σ H (fun b H4=>if b=true then A H4 else B H4):=by
 show if true=true then A H else B H
 rw[if_pos rfl]
 exact h
theorem uK:∀ ns:List Int,vC (ns.map Dm.int)=0
 | []=>by simp [vC]
 | n::r=>by simp [vC,Dm.dep,uK r]
theorem mU {H:Hp} {a:Addr} {ns:List Int} (h:H a=some (.tup (ns.map V.int))) (l:ns.length<=1000):Rep H (.ref a) (.tup (ns.map Dm.int)):=.tup h (by rw[Qc]; lia) (uf ns)
theorem CJ (ns:List Int):(Dm.tup (ns.map Dm.int)).dep=1:=by rw[Dm.dep,uK]
def vN (i:Nat):V:=.int (i:Int)
theorem ie (c:List Nat):c.map vN=(c.map fun i:Nat=>(i:Int)).map V.int:=by rw[Wr]; rfl
theorem qP {c:List Nat} {j:Nat} {x:V} (h:(c.map vN)[j]? = some x):∃ i,c[j]? = some i/\x=vN i:=by
 rw[QH] at h
 cases e:c[j]? with
 | none=>rw[e] at h; cases h
 | some i=>rw[e] at h; exact⟨i,rfl,(QZ h).symm⟩
theorem cG {H:Hp} {D:Addr} {zs zs':List V} (h:H D=some (.lst zs)):∀ a xs,H a=some (HO.tup xs)->upd H D (.lst zs') a=some (HO.tup xs):=fun a xs q=>by
 rw[bx (fun z=>by rw[z,h] at q; cases q)]
 exact q
theorem Jc {α:Type} {xs:List α} {v:α} (h:xs[xs.length - 1]? = some v):atI xs (-1)=some v:=by
 have hl:xs.length - 1 < xs.length:=(List.getElem?_eq_some_iff.mp h).1
 have hne:xs≠[]:=fun z=>by rw[z] at hl; exact absurd hl (RG _)
 have e:xs=xs.dropLast++[v]:=by
  rw[← List.getLast?_eq_getElem?,Yb hne] at h
  rw[← QZ h]
  exact (Ym hne).symm
 rw[e]
 exact Fy _ _
abbrev jF:Stmt:=top 61
theorem cF:aO ["_law_cell_here","_law_parts","_law_one","_law_two","_law_six","_law_found","_law_part"] ["_law_cell_here","_law_parts"] (aD jF):=⟨rfl,rfl,rfl,by decide+kernel,rfl,by decide+kernel,by decide+kernel⟩
def rE (c:Int):Int:=(c * 48271+11) % 2147483647
def Hm (c:Int):Int:=(rE c * rE c+40692 * rE c+c) % 2147483399
def N8 (c:Int):Int:=(Hm c * 16807+rE c) % 1000000007
def kZ (c:Int):Int:=if decide ((if c < 0 then -c else c) < 10 ^ (18:Int).toNat)=true then Hm c+2147483399 * (N8 c+1000000007 * rE c) else (if c < 0 then -c else c) - 10 ^ (18:Int).toNat
def vD:Int->List Int->List Int
 | _,[]=>[]
 | c,p::ps=>c % p::vD (c / p) ps
def divC:Int->List Int->Int
 | c,[]=>c
 | c,p::ps=>divC (c / p) ps
theorem nO (p:Int):∀ (ps:List Int) (c:Int),vD c (ps++[p])=vD c ps++[divC c ps % p]
 | [],_=>rfl
 | q::ps,c=>by
  show c % q::vD (c / q) (ps++[p])=c % q::(vD (c / q) ps++[divC (c / q) ps % p])
  rw[nO p ps]
theorem j0 (p:Int):∀ (ps:List Int) (c:Int),divC c (ps++[p])=divC c ps / p
 | [],_=>rfl
 | q::ps,c=>j0 p ps (c / q)
theorem jz:∀ (ps:List Int) (c:Int),(vD c ps).length=ps.length
 | [],_=>rfl
 | _::ps,_=>congrArg Nat.succ (jz ps _)
theorem cB:∀ {ps:List Int} {c:Int} {i:Nat} {p:Int},(∀ q∈ps,0 < q)->ps[i]? = some p->∃ v,(vD c ps)[i]? = some v/\0<=v/\v < p
 | [],_,_,_,_,h=>by simp at h
 | q::ps,c,0,p,hp,h=>by
  cases (show some q=some p from h)
  exact⟨c % q,rfl,Q6 _ (by have:=hp q Qi; lia),QT _ (hp q Qi)⟩
 | q::ps,c,i+1,p,hp,h=>by
  obtain⟨v,e,r⟩:=cB (ps:=ps) (c:=c / q) (i:=i) (fun z hz=>hp z (Qm _ hz)) (by simpa using h)
  exact⟨v,by simpa [vD] using e,r⟩
def Mh (c:Int) (ps:List Int):List Int:=vD (kZ c) ps
theorem JQ (c:Int):0<=rE c/\rE c < 2147483647:=⟨Q6 _ (by decide),QT _ (by decide)⟩
theorem JX (c:Int):0<=Hm c/\Hm c < 2147483399:=⟨Q6 _ (by decide),QT _ (by decide)⟩
inductive xX (K:QF) (vs:List V) (H:Hp) (Q:VK):Prop where
 | mk (c:Int) (p:Addr) (ps:List Int) (z0:vs=[.int c,.ref p]) (z1:SqL K H p (ps.map V.int)) (z2:(∀ q∈ps,0 < q/\q < 1073741824)) (z3:ps.length<=1000) (z4:∀ r,H r=none->Q (.ref r) (upd H r (.lst ((Mh c ps).map V.int)))):xX K vs H Q
def nC (K:QF):Sp:=fun vs H Q _=>xX K vs H Q
theorem vB (F:Fun K "_law_draws" "_law_draws" jF f fd) (B:Bt mg) :
  cI P w K mg base CX0 1 f fd ["_law_cell_here","_law_parts"] (nC K):=by
 refine F.ok cF (fun vs H Q E h=>?_) (fun cdv A outer s H vs Q E hr h=>?_)
 ·obtain⟨c,p,ps,rfl,_⟩:=h
  rfl
 ·obtain⟨c,p,ps,rfl,hS,hp,hl,q⟩:=h
  refine⟨_,(aq (bA (aH wI (aF m5 rfl B.abs_ xK (aa (pv 0) aj)) (aV pW au au) (aL _)) (aq (bf (i:=2) cF.nd rfl (Qw rfl) (aV cR (aV bI (aV fW (pv 0) au) au) au))
 (aq (bf (i:=3) cF.nd rfl (Qw rfl) (aV cR (aV bI (aV bI (aV fW (pv 2) (pv 2)) (aV fW au (pv 2))) (pv 0)) au))
 (aq (bf (i:=4) cF.nd rfl (Qw rfl) (aV cR (aV bI (aV fW (pv 3) au) (pv 2)) au))
 (aA (bf (i:=0) cF.nd rfl (Qw rfl) (aV bI (pv 3) (aV fW au (aV bI (pv 4) (aV fW au (pv 2)))))))))) (aA (bf (i:=0) cF.nd rfl (Qw rfl) (aV iD (aF m5 rfl B.abs_ xK (aa (pv 0) aj)) (aV pW au au)))))
 (aq (bf (i:=5) cF.nd rfl (Qw rfl) (bZ aj))
 (aq (cY QX rfl (dN (pv 1)) (aJ (i:=6) cF.nd rfl (Qw rfl)) (aq (bT (qJ RN RD RC cM (pv 5) (aa (aV cR (pv 0) (pv 6)) aj)))
 (aA (bf (i:=0) cF.nd rfl (Qw rfl) (aV wB (pv 0) (pv 6))))))
 (aA (aG (pv 5)))))),?_⟩
  have b1:=JQ c
  have b2:=JX c
  refine⟨_,rfl,_,rfl,_,_,rfl,rfl,⟨by decide,by decide,by decide⟩,_,_,rfl,rfl,_,rfl,?_⟩
  refine pL (fun h=>?_) (fun h=>?_)
  ·refine⟨_,rfl,_,_,rfl,rfl,.inr ⟨by decide,by decide⟩,_,_,rfl,rfl,_,_,rfl,rfl,(by show (0:Int) < 2147483647; decide),?_⟩
   refine⟨_,rfl,_,rfl,_,_,rfl,rfl,.inl (show -(2 ^ 64) < rE c/\rE c < 2 ^ 64 from ⟨by lia,by lia⟩),_,rfl,_,_,rfl,rfl,.inl ⟨by decide,by decide⟩,_,_,rfl,rfl,_,rfl,_,_,rfl,rfl,_,_,rfl,rfl,(by show (0:Int) < 2147483399; decide),?_⟩
   refine⟨_,rfl,_,_,rfl,rfl,.inr ⟨by decide,by decide⟩,_,rfl,_,_,rfl,rfl,_,_,rfl,rfl,(by show (0:Int) < 1000000007; decide),?_⟩
   refine⟨_,rfl,_,rfl,_,rfl,_,_,rfl,rfl,.inl ⟨by decide,by decide⟩,_,_,rfl,rfl,_,_,rfl,rfl,.inl ⟨by decide,by decide⟩,_,_,rfl,rfl,?_⟩
   refine⟨small (QW _),fun r hr0=>?_⟩
   refine⟨_,rfl,p,rfl,⟨_,(aB hr0 _).seq hS⟩,gF (K:=K) (a:=p) (xs:=ps.map V.int) (fun i σ H2=>∃ (z:Int) (o t u v:Option V),z=divC (kZ c) (ps.take i)/\σ=[some (.int z),some (.ref p),o,t,u,some (.ref r),v] ∧
    H2=upd H r (.lst ((vD (kZ c) (ps.take i)).map V.int))) ⟨_,_,_,_,_,(if_pos h).symm,rfl,rfl⟩ ?_ ?_ ?_⟩
   ·rintro i σ H2 hi ⟨z,o,t,u,v,_,_,e⟩
    subst e
    exact (aB hr0 _).seq hS
   ·rintro i x σ H2 hx ⟨z,o,t,u,v,ez,rfl,rfl⟩
    obtain⟨d,hd,rfl⟩:=int_at hx
    obtain⟨h1,h2⟩:=hp d (QC hd)
    have et:ps.take (i+1)=ps.take i++[d]:=by rw[QR,hd]; rfl
    refine⟨_,rfl,.inl ⟨rfl,_,SqL.of ao⟩,_,rfl,_,rfl,_,_,rfl,rfl,h1,r,_,_,rfl,rfl,ao,?_,_,rfl,_,rfl,_,_,rfl,rfl,⟨h1,h2⟩,_,_,_,_,_,?_,rfl,?_⟩
    ·rw[Qc,jz,Qv]
     exact aM (by lia)
    ·rw[et,j0,ez]
    ·rw[Dl,et,nO,Qj,ez]
     rfl
   ·rintro σ H2 ⟨z,o,t,u,v,_,rfl,rfl⟩
    refine⟨_,rfl,?_⟩
    have q':=q r hr0
    rw[Qc,Qq]
    exact q'
  ·refine⟨_,rfl,_,rfl,_,_,rfl,rfl,⟨by decide,by decide,by decide⟩,_,_,rfl,rfl,?_⟩
   refine⟨small (QW _),fun r hr0=>?_⟩
   refine⟨_,rfl,p,rfl,⟨_,(aB hr0 _).seq hS⟩,gF (K:=K) (a:=p) (xs:=ps.map V.int) (fun i σ H2=>∃ (z:Int) (o t u v:Option V),z=divC (kZ c) (ps.take i)/\σ=[some (.int z),some (.ref p),o,t,u,some (.ref r),v] ∧
    H2=upd H r (.lst ((vD (kZ c) (ps.take i)).map V.int))) ⟨_,_,_,_,_,(if_neg h).symm,rfl,rfl⟩ ?_ ?_ ?_⟩
   ·rintro i σ H2 hi ⟨z,o,t,u,v,_,_,e⟩
    subst e
    exact (aB hr0 _).seq hS
   ·rintro i x σ H2 hx ⟨z,o,t,u,v,ez,rfl,rfl⟩
    obtain⟨d,hd,rfl⟩:=int_at hx
    obtain⟨h1,h2⟩:=hp d (QC hd)
    have et:ps.take (i+1)=ps.take i++[d]:=by rw[QR,hd]; rfl
    refine⟨_,rfl,.inl ⟨rfl,_,SqL.of ao⟩,_,rfl,_,rfl,_,_,rfl,rfl,h1,r,_,_,rfl,rfl,ao,?_,_,rfl,_,rfl,_,_,rfl,rfl,⟨h1,h2⟩,_,_,_,_,_,?_,rfl,?_⟩
    ·rw[Qc,jz,Qv]
     exact aM (by lia)
    ·rw[et,j0,ez]
    ·rw[Dl,et,nO,Qj,ez]
     rfl
   ·rintro σ H2 ⟨z,o,t,u,v,_,rfl,rfl⟩
    refine⟨_,rfl,?_⟩
    have q':=q r hr0
    rw[Qc,Qq]
    exact q'
abbrev lH:Stmt:=top 60
theorem v7:aO ["_law_script","_law_k"] ["_law_script","_law_k"] (aD lH):=⟨rfl,rfl,rfl,by decide+kernel,rfl,by decide+kernel,by decide+kernel⟩
inductive Cv (K:QF) (vs:List V) (H:Hp) (Q:VK):Prop where
 | mk (a:Addr) (ns:List Int) (k:Nat) (z0:vs=[.ref a,.int (k:Int)]) (z1:SqL K H a (ns.map V.int)) (z2:Q (.int (ns.getD k 0)) H):Cv K vs H Q
def Ez (K:QF):Sp:=fun vs H Q _=>Cv K vs H Q
theorem xf (F:Fun K "_law_cell" "_law_cell" lH f fd) (B:Bt mg) :
  cI P w K mg base CX0 1 f fd ["_law_script","_law_k"] (Ez K):=by
 refine F.ok v7 (fun vs H Q E h=>?_) (fun cdv A outer s H vs Q E hr h=>?_)
 ·obtain⟨a,ns,k,rfl,_⟩:=h
  rfl
 ·obtain⟨a,ns,k,rfl,hS,q⟩:=h
  refine⟨_,(aq (bA (aH wI (pv 1) (aF (r:=iV K) aX rfl B.len_ bV (aa (pv 0) aj)) (aL _)) (aA (aG (aQ (r:=dX K) aZ (pv 0) (pv 1) (fun _ _=>rfl)))) aN)
 (aA (aG au))),?_⟩
  refine⟨_,rfl,_,rfl,a,_,rfl,.inl hS,_,_,rfl,rfl,_,rfl,?_⟩
  have el:(((ns.map V.int).length:Nat):Int)=(ns.length:Int):=by rw[Qc]
  rw[el]
  refine pL (fun c=>?_) (fun c=>?_)
  ·have c':(k:Int) < (ns.length:Int):=of_decide_eq_true c
   have hk:k < ns.length:=by lia
   refine⟨_,rfl,_,rfl,a,_,_,_,rfl,rfl,hS,gW hk,?_⟩
   rw[Qf,Qg hk] at q
   exact q
  ·have c':¬ (k:Int) < (ns.length:Int):=fun z=>c (decide_eq_true z)
   have hk:ns.length<=k:=by lia
   rw[Qf,Ru hk] at q
   exact q
abbrev lF:Stmt:=top 74
theorem w6:aO ["_law_found","_law_due"] ["_law_found","_law_due"] (aD lF):=⟨rfl,rfl,rfl,by decide+kernel,rfl,by decide+kernel,by decide+kernel⟩
inductive Cw (n:Nat) (vs:List V) (H:Hp) (Q:VK):Prop where
 | mk (x y:V) (d:Dm) (z0:vs=[x,y]) (z1:Rep H x d) (z2:Rep H y d) (z3:d.dep < n) (z4:∀ H',aU H H'->Q (.bl true) H'):Cw n vs H Q
def pP (n:Nat):Sp:=fun vs H Q _=>Cw n vs H Q
theorem Ny {x:V}:decide (x=x)=true:=decide_eq_true rfl
theorem yw (n:Nat):(QM n true).all (fun b=>b)=true:=by
 induction n with
 | zero=>rfl
 | succ n ih=>rw[List.replicate_succ,Vu,ih]; rfl
theorem zf (n:Nat):(QM n true).map V.bl=QM n (V.bl true):=List.map_replicate
theorem gn {n:Nat} (F:Fun K "_law_same" "_law_same" lF f fd) (B:Bt mg)
  (D_law_same:Df P w K mg base "_law_same" n ["_law_found","_law_due"] (pP n)):cI P w K mg base CX0 (n+1) f fd ["_law_found","_law_due"] (pP (n+1)):=by
 refine F.ok w6 (fun vs H Q E h=>?_) (fun cdv A outer s H vs Q E hr h=>?_)
 ·obtain⟨x,y,d,rfl,_⟩:=h
  rfl
 ·obtain⟨x,y,d,rfl,rx,ry,hd,q⟩:=h
  refine⟨_,(aq (bA (MF (Ia (pv 1))) (aA (aG (MJ (Ia (pv 0))))) aN)
 (aq (bA (cZ (aF (r:=sO K) cH rfl B.isinstance_ bj (aa (pv 1) (aa (ik B.str_ Hu) aj)))) (aA (aG (dZ (aF (r:=sO K) cH rfl B.isinstance_ bj (aa (pv 0) (aa (ik B.str_ Hu) aj))) (iB (cu cz (pv 0) (pv 1) (aL _)))))) aN)
 (aq (bA (cZ (aF (r:=sO K) cH rfl B.isinstance_ bj (aa (pv 1) (aa (ik B.int_ vm) aj)))) (aA (aG (dZ (aF (r:=sO K) cH rfl B.isinstance_ bj (aa (pv 0) (aa (ik B.int_ vm) aj))) (dZ (cu cz (aF (r:=sO K) cH rfl B.isinstance_ bj (aa (pv 0) (aa (ik B.bool_ vO) aj))) (aF (r:=sO K) cH rfl B.isinstance_ bj (aa (pv 1) (aa (ik B.bool_ vO) aj))) (aL _)) (iB (cu cz (pv 0) (pv 1) (aL _))))))) aN)
 (aq (bA (PW.pt (lR (aH zj (aF (r:=sO K) cH rfl B.isinstance_ bj (aa (pv 1) (aa (ik B.list_ nP) aj))) (aF (r:=sO K) cH rfl B.isinstance_ bj (aa (pv 0) (aa (ik B.list_ nP) aj))) (aL _)) (gY (aH zj (aF (r:=sO K) cH rfl B.isinstance_ bj (aa (pv 1) (aa (ik B.tuple_ bQ) aj))) (aF (r:=sO K) cH rfl B.isinstance_ bj (aa (pv 0) (aa (ik B.tuple_ bQ) aj))) (aL _))))) (aA (aG fV)) aN)
 (aA (aG (dZ (cu cz (aF (r:=iV K) aX rfl B.len_ bV (aa (pv 0) aj)) (aF (r:=iV K) aX rfl B.len_ bV (aa (pv 1) aj)) (aL _)) (iB (aF (r:=Ds K) (jY rfl) rfl B.all_ zg (aa (bK (L:=["_law_k"]) (F:=["_law_found","_law_due"]) (cap:=[0,1]) rfl (bD rfl rfl (by kernel_rfl)) (bU rfl B.range_ (aa (aF (r:=iV K) aX rfl B.len_ bV (aa (pv 1) aj)) aj)) (fun _ _ _ _ _=>(aJ (i:=0) (bw (by decide+kernel)) rfl (Qw rfl))) (fun _ _ _ _ _=>bR) (fun _ _ _ _ _=>(bc D_law_same hr (aa (aQ (r:=rIx K) Ik (pv 1) (pv 0) (fun _ _=>rfl)) (aa (aQ (r:=rIx K) Ik (pv 2) (pv 0) (fun _ _=>rfl)) aj))))) aj)))))))))),?_⟩
  cases rx with
  | non =>
   cases ry
   refine⟨_,rfl,_,rfl,gm ?_⟩
   exact⟨_,rfl,q H (aU.refl H)⟩
  | bl b =>
   cases ry
   refine⟨_,rfl,_,rfl,cV ?_⟩
   refine⟨_,rfl,_,_,_,_,rfl,.bl b,vU _,_,rfl,cV ?_⟩
   refine⟨_,rfl,_,_,_,_,rfl,.bl b,nM _,_,rfl,gm ?_⟩
   refine⟨_,rfl,_,_,_,_,rfl,.bl b,nM _,_,rfl,gm ?_⟩
   refine⟨_,rfl,_,_,_,_,rfl,.bl b,dJ _ _,_,rfl,_,_,_,_,rfl,.bl b,dJ _ _,rfl,_,rfl,gm ?_⟩
   refine⟨_,rfl,_,rfl,rfl,?_⟩
   have q':=q H (aU.refl H)
   rw[← Ny (x:=V.bl b)] at q'
   exact q'
  | int i =>
   cases ry
   refine⟨_,rfl,_,rfl,cV ?_⟩
   refine⟨_,rfl,_,_,_,_,rfl,.int i,zW _,_,rfl,cV ?_⟩
   refine⟨_,rfl,_,_,_,_,rfl,.int i,dJ _ _,_,rfl,gm ?_⟩
   refine⟨_,rfl,_,_,_,_,rfl,.int i,dJ _ _,_,rfl,gm ?_⟩
   refine⟨_,rfl,_,_,_,_,rfl,.int i,jw _,_,rfl,_,_,_,_,rfl,.int i,jw _,rfl,_,rfl,gm ?_⟩
   refine⟨_,rfl,_,rfl,rfl,?_⟩
   have q':=q H (aU.refl H)
   rw[← Ny (x:=V.int i)] at q'
   exact q'
  | str z =>
   cases ry
   refine⟨_,rfl,_,rfl,cV ?_⟩
   refine⟨_,rfl,_,_,_,_,rfl,.str z,dJ _ _,_,rfl,gm ?_⟩
   refine⟨_,rfl,_,_,_,_,rfl,.str z,dJ _ _,_,rfl,gm ?_⟩
   refine⟨_,rfl,_,rfl,rfl,?_⟩
   have q':=q H (aU.refl H)
   rw[← Ny (x:=V.str z)] at q'
   exact q'
  | @tup a xs ds ha la ra =>
   cases ry with
   | @tup b ys _ hb lb rb =>
    have ex:=ra.length
    have ey:=rb.length
    have hdl:vC ds < n:=by
     have hd':vC ds+1 < n+1:=by rw[Dm.dep] at hd; exact hd
     lia
    refine⟨_,rfl,_,rfl,cV ?_⟩
    refine⟨_,rfl,_,_,_,_,rfl,.tup hb,tW _,_,rfl,cV ?_⟩
    refine⟨_,rfl,_,_,_,_,rfl,.tup hb,uA _,_,rfl,cV ?_⟩
    refine⟨_,rfl,_,_,_,_,rfl,.tup hb,jZ _,_,rfl,_,_,_,_,rfl,.tup ha,jZ _,rfl,_,rfl,cV ?_⟩
    refine⟨_,rfl,_,_,_,_,rfl,.tup hb,dJ _ _,_,rfl,_,_,_,_,rfl,.tup ha,dJ _ _,rfl,_,rfl,cV ?_⟩
    refine⟨_,rfl,a,_,rfl,.inr (SqT.of ha),_,rfl,b,_,rfl,.inr (SqT.of hb),rfl,_,rfl,?_⟩
    have ec:decide (V.int (xs.length:Int)=V.int (ys.length:Int))=true:=decide_eq_true (by rw[ex,ey])
    rw[ec]
    refine gm ?_
    refine⟨_,rfl,b,_,rfl,.inr (SqT.of hb),_,rfl,by lia,by lia,fun D hD=>cT (lo:=0) (n:=ys.length) (fun i zs σ' H2=>(∃ v,σ'=[v,some (.ref a),some (.ref b)])/\zs=QM i (V.bl true)/\aU H H2/\H2 D=some (.lst zs))
     ⟨⟨_,rfl⟩,rfl,aB hD _,ao⟩ (fun i zs σ' H2 _ h=>h.2.2.2) ?_ ?_⟩
    ·rintro i zs σ' H2 hi ⟨⟨v,rfl⟩,rfl,sm,hDl⟩
     obtain⟨v1,d1,e1,e2,r1⟩:=ra.get (i:=i) (by lia)
     obtain⟨v2,d2,e3,e4,r2⟩:=rb.get (i:=i) hi
     rw[e2] at e4
     cases e4
     have at1:atI xs (0+(i:Int))=some v1:=by rw[RV]; exact gK e1
     have at2:atI ys (0+(i:Int))=some v2:=by rw[RV]; exact gK e3
     refine gT ?_
     refine⟨_,rfl,_,rfl,.inr (.inl ⟨a,xs,_,v1,rfl,rfl,SqT.of (sm _ _ ha),at1,_,rfl,_,rfl,.inr (.inl ⟨b,ys,_,v2,rfl,rfl,SqT.of (sm _ _ hb),at2,v1,v2,d1,rfl,r1.mono sm,r2.mono sm,?_,fun H3 s3=>⟨s3 _ _ hDl,?_,⟨_,rfl⟩,?_,aW (sm.trans s3) hD _,ao⟩⟩)⟩)⟩
     ·exact Vg (qZ e2) hdl
     ·rw[Rt]
      exact Qs (show i < 100000 by lia) (by decide)
     ·rw[Uz]
    ·rintro zs σ' H2 ⟨_,rfl,sm,hDl⟩
     refine⟨D,QM ys.length true,rfl,SqL.of (by rw[hDl,zf]),?_⟩
     rw[yw]
     exact q _ sm
  | @lst a xs ds ha la ra =>
   cases ry with
   | @lst b ys _ hb lb rb =>
    have ex:=ra.length
    have ey:=rb.length
    have hdl:vC ds < n:=by
     have hd':vC ds+1 < n+1:=by rw[Dm.dep] at hd; exact hd
     lia
    refine⟨_,rfl,_,rfl,cV ?_⟩
    refine⟨_,rfl,_,_,_,_,rfl,.lst hb,v9 _,_,rfl,cV ?_⟩
    refine⟨_,rfl,_,_,_,_,rfl,.lst hb,wu _,_,rfl,cV ?_⟩
    refine⟨_,rfl,_,_,_,_,rfl,.lst hb,dJ _ _,_,rfl,_,_,_,_,rfl,.lst ha,dJ _ _,rfl,_,rfl,cV ?_⟩
    refine⟨_,rfl,_,_,_,_,rfl,.lst hb,jU _,_,rfl,_,_,_,_,rfl,.lst ha,jU _,rfl,_,rfl,cV ?_⟩
    refine⟨_,rfl,a,_,rfl,.inl (SqL.of ha),_,rfl,b,_,rfl,.inl (SqL.of hb),rfl,_,rfl,?_⟩
    have ec:decide (V.int (xs.length:Int)=V.int (ys.length:Int))=true:=decide_eq_true (by rw[ex,ey])
    rw[ec]
    refine gm ?_
    refine⟨_,rfl,b,_,rfl,.inl (SqL.of hb),_,rfl,by lia,by lia,fun D hD=>cT (lo:=0) (n:=ys.length) (fun i zs σ' H2=>(∃ v,σ'=[v,some (.ref a),some (.ref b)])/\zs=QM i (V.bl true)/\aU H H2/\H2 D=some (.lst zs))
     ⟨⟨_,rfl⟩,rfl,aB hD _,ao⟩ (fun i zs σ' H2 _ h=>h.2.2.2) ?_ ?_⟩
    ·rintro i zs σ' H2 hi ⟨⟨v,rfl⟩,rfl,sm,hDl⟩
     obtain⟨v1,d1,e1,e2,r1⟩:=ra.get (i:=i) (by lia)
     obtain⟨v2,d2,e3,e4,r2⟩:=rb.get (i:=i) hi
     rw[e2] at e4
     cases e4
     have at1:atI xs (0+(i:Int))=some v1:=by rw[RV]; exact gK e1
     have at2:atI ys (0+(i:Int))=some v2:=by rw[RV]; exact gK e3
     refine gT ?_
     refine⟨_,rfl,_,rfl,.inl ( ⟨a,xs,_,v1,rfl,rfl,SqL.of (sm _ _ ha),at1,_,rfl,_,rfl,.inl ( ⟨b,ys,_,v2,rfl,rfl,SqL.of (sm _ _ hb),at2,v1,v2,d1,rfl,r1.mono sm,r2.mono sm,?_,fun H3 s3=>⟨s3 _ _ hDl,?_,⟨_,rfl⟩,?_,aW (sm.trans s3) hD _,ao⟩⟩)⟩)⟩
     ·exact Vg (qZ e2) hdl
     ·rw[Rt]
      exact Qs (show i < 100000 by lia) (by decide)
     ·rw[Uz]
    ·rintro zs σ' H2 ⟨_,rfl,sm,hDl⟩
     refine⟨D,QM ys.length true,rfl,SqL.of (by rw[hDl,zf]),?_⟩
     rw[yw]
     exact q _ sm
theorem same_none:cI P w K mg base CX0 0 f fd ["_law_found","_law_due"] (pP 0):=by
 have no:∀ vs H Q E,¬ pP 0 vs H Q E:=fun vs H Q E h=>by
  obtain⟨x,y,d,_,_,_,h1,_⟩:=h
  lia
 exact⟨fun vs H Q E h=>absurd h (no vs H Q E),fun A outer s H args us vs Q E _ _ _ _ h=>absurd h (no vs H Q E)⟩
abbrev jE:Stmt:=top 62
theorem fC:aO ["_law_cell_here","_law_k","_law_rest","_law_turn"] ["_law_cell_here","_law_k"] (aD jE):=⟨rfl,rfl,rfl,by decide+kernel,rfl,by decide+kernel,by decide+kernel⟩
def Ke (c:Int) (k:Nat):Int:=if decide ((if c < 0 then -c else c) < 10 ^ (18:Int).toNat)=true then (c * 48271+7919 * (k:Int)+13) % 2147483647 else 10 ^ (18:Int).toNat+divC ((if c < 0 then -c else c) - 10 ^ (18:Int).toNat) (QM (k+1) (10 ^ (9:Int).toNat))
inductive yD (vs:List V) (H:Hp) (Q:VK):Prop where
 | mk (c:Int) (k:Nat) (z0:vs=[.int c,.int (k:Int)]) (z1:k<=1000) (z2:Q (.int (Ke c k)) H):yD  vs H Q
def qQ:Sp:=fun vs H Q _=>yD  vs H Q
theorem uh (F:Fun K "_law_under" "_law_under" jE f fd) (B:Bt mg) :
  cI P w K mg base CX0 1 f fd ["_law_cell_here","_law_k"] qQ:=by
 refine F.ok fC (fun vs H Q E h=>?_) (fun cdv A outer s H vs Q E hr h=>?_)
 ·obtain⟨c,k,rfl,_⟩:=h
  rfl
 ·obtain⟨c,k,rfl,hk,q⟩:=h
  refine⟨_,(aq (bA (aH wI (aF m5 rfl B.abs_ xK (aa (pv 0) aj)) (aV pW au au) (aL _)) (aA (aG (aV cR (aV bI (aV bI (aV fW (pv 0) au) (aV fW au (pv 1))) au) au))) aN)
 (aq (bf (i:=2) fC.nd rfl (Qw rfl) (aV iD (aF m5 rfl B.abs_ xK (aa (pv 0) aj)) (aV pW au au)))
 (aq (cY QX rfl (bU rfl B.range_ (aa (aV bI (pv 1) au) aj)) (aJ (i:=3) fC.nd rfl (Qw rfl)) (aA (bf (i:=2) fC.nd rfl (Qw rfl) (aV wB (pv 2) (aV pW au au)))))
 (aA (aG (aV bI (aV pW au au) (pv 2))))))),?_⟩
  refine⟨_,rfl,_,rfl,_,_,rfl,rfl,⟨by decide,by decide,by decide⟩,_,_,rfl,rfl,_,rfl,?_⟩
  refine pL (fun h=>?_) (fun h=>?_)
  ·refine⟨_,rfl,_,_,rfl,rfl,.inr ⟨by decide,by decide⟩,_,rfl,_,_,rfl,rfl,.inl ⟨by decide,by decide⟩,_,_,rfl,rfl,_,_,rfl,rfl,_,_,rfl,rfl,(by show (0:Int) < 2147483647; decide),?_⟩
   unfold Ke at q
   rw[if_pos h] at q
   exact q
  ·unfold Ke at q
   rw[if_neg h] at q
   refine⟨_,rfl,_,rfl,_,_,rfl,rfl,⟨by decide,by decide,by decide⟩,_,_,rfl,rfl,?_⟩
   have ek:((k:Int)+1).toNat=k+1:=by lia
   refine⟨_,rfl,_,_,rfl,rfl,_,rfl,by lia,by lia,dI (lo:=0) (n:=((k:Int)+1).toNat) (fun i σ H2=>(∃ t:Option V,σ=[some (.int c),some (.int (k:Int)),some (.int (divC ((if c < 0 then -c else c) - 10 ^ (18:Int).toNat) (QM i (10 ^ (9:Int).toNat)))),t])/\H2=H) ⟨⟨_,rfl⟩,rfl⟩ ?_ ?_⟩
   ·rintro i σ H2 hi ⟨⟨t,rfl⟩,rfl⟩
    refine⟨_,rfl,_,_,rfl,rfl,⟨by decide,by decide,by decide⟩,_,_,rfl,rfl,⟨by show (0:Int) < 10 ^ 9; decide,by show (10 ^ 9:Int) < 1073741824; decide⟩,⟨some (.int (0+(i:Int))),?_⟩,rfl⟩
    rw[Uz,j0]
    rfl
   ·rintro σ H2 ⟨⟨t,rfl⟩,rfl⟩
    refine⟨_,_,rfl,rfl,⟨by decide,by decide,by decide⟩,_,rfl,_,_,rfl,rfl,?_⟩
    rw[ek]
    exact q
abbrev jt:Stmt:=top 63
theorem eZ:aO ["_law_number","_law_n","_law_found","_law_one"] ["_law_number","_law_n"] (aD jt):=⟨rfl,rfl,rfl,by decide+kernel,rfl,by decide+kernel,by decide+kernel⟩
inductive xH (vs:List V) (H:Hp) (Q:VK):Prop where
 | mk (m:Int) (n:Nat) (z0:vs=[.int m,.int (n:Int)]) (z1:n<=100) (z2:∀ (c:List Nat) (r:Addr) (H':Hp),(∀ i∈c,i < n)->c.Pairwise (· < ·)->c.length<=n->aU H H'->H r=none->H' r=some (.tup (c.map vN))->Q (.ref r) H'):xH  vs H Q
def wR:Sp:=fun vs H Q _=>xH  vs H Q
theorem sZ (F:Fun K "_law_crowd" "_law_crowd" jt f fd) (B:Bt mg) :
  cI P w K mg base CX0 1 f fd ["_law_number","_law_n"] wR:=by
 refine F.ok eZ (fun vs H Q E h=>?_) (fun cdv A outer s H vs Q E hr h=>?_)
 ·obtain⟨m,n,rfl,_⟩:=h
  rfl
 ·obtain⟨m,n,rfl,hn,q⟩:=h
  refine⟨_,(aq (bf (i:=2) eZ.nd rfl (Qw rfl) (bZ aj))
 (aq (cY QX rfl (bU rfl B.range_ (aa (pv 1) aj)) (aJ (i:=3) eZ.nd rfl (Qw rfl)) (aq (bA (aH cz (aV cR (pv 0) au) au (aL _)) (aA (bT (qJ RN RD RC cM (pv 2) (aa (pv 3) aj)))) aN)
 (aA (bf (i:=0) eZ.nd rfl (Qw rfl) (aV wB (pv 0) au)))))
 (aA (aG (bJ (r:=fD K) bL rfl B.tuple_ bQ (aa (pv 2) aj)))))),?_⟩
  refine⟨small (by show 0<=1000; decide),fun r hr0=>?_⟩
  have en:((n:Int)).toNat=n:=Q8 n
  refine⟨_,rfl,_,rfl,by lia,by lia,dI (lo:=0) (n:=((n:Int)).toNat) (fun i σ H2=>∃ (z:Int) (t:Option V) (c:List Nat),σ=[some (.int z),some (.int (n:Int)),some (.ref r),t]/\H2=upd H r (.lst (c.map vN))/\(∀ j∈c,j < i)/\c.Pairwise (· < ·)/\c.length<=i)
   ⟨_,_,[],rfl,rfl,by simp,by simp,Ql _⟩ ?_ ?_⟩
  ·rintro i σ H2 hi ⟨z,t,c,rfl,rfl,hc,hp,hl⟩
   refine⟨_,rfl,_,_,rfl,rfl,(by show (0:Int) < 2; decide),rfl,_,rfl,?_⟩
   refine pL (fun _=>?_) (fun _=>?_)
   ·refine⟨_,rfl,.inl ⟨rfl,_,SqL.of ao⟩,_,rfl,r,_,_,rfl,rfl,ao,?_,_,rfl,_,_,rfl,rfl,⟨by decide,by decide⟩,_,_,c++[i],rfl,?_,?_,?_,?_⟩
    ·rw[Qc]
     exact aM (by lia)
    ·rw[Dl,Qj,RV]
     rfl
    ·intro j hj
     rcases List.mem_append.mp hj with h | h
     ·have:=hc j h
      lia
     ·have:=List.mem_singleton.mp h
      lia
    ·rw[WY]
     refine⟨hp,by simp,fun a ha b hb=>?_⟩
     rw[List.mem_singleton.mp hb]
     exact hc a ha
    ·rw[Qx]
     show c.length+1<=i+1
     lia
   ·refine⟨_,rfl,_,_,rfl,rfl,⟨by decide,by decide⟩,_,_,c,rfl,rfl,fun j hj=>RQ (hc j hj),hp,by lia⟩
  ·rintro σ H2 ⟨z,t,c,rfl,rfl,hc,hp,hl⟩
   refine⟨_,rfl,r,_,rfl,.inl ⟨SqL.of ao,fun l hl'=>?_⟩⟩
   rw[en] at hc hl
   exact q c l _ hc hp hl ((aB hr0 _).trans (aB hl' _)) ((aB hr0 _).free hl') ao
inductive Tm where
 | free | never | gives (i:Nat) (k:Int) | sum (c:List Nat) (k:Int) | crowd (c:List Nat) (k m:Int) | all (ts:List Tm) | any (ts:List Tm)
mutual
def Tm.dep:Tm->Nat
 | .all ts=>tdL ts+1
 | .any ts=>tdL ts+1
 | _=>1
def tdL:List Tm->Nat
 | []=>0
 | t::r=>max t.dep (tdL r)
end
mutual
def hF (g:List Int):Tm->Bool
 | .free=>true
 | .never=>false
 | .gives i k=>decide (k<=g.getD i 0)
 | .sum c k=>decide (k<=(c.map fun i=>g.getD i 0).sum)
 | .crowd c k m=>decide (m<=((c.filter fun i=>decide (k<=g.getD i 0)).length:Int))
 | .all ts=>o8 g ts
 | .any ts=>o9 g ts
def o8 (g:List Int):List Tm->Bool
 | []=>true
 | t::r=>hF g t && o8 g r
def o9 (g:List Int):List Tm->Bool
 | []=>false
 | t::r=>hF g t || o9 g r
end
mutual
inductive gZ (n:Nat) (H:Hp):V->Tm->Prop where
 | free {a:Addr}:H a=some (.tup [.str "free"])->gZ n H (.ref a) .free
 | never {a:Addr}:H a=some (.tup [.str "never"])->gZ n H (.ref a) .never
 | gives {a:Addr} {i:Nat} {k:Int}:H a=some (.tup [.str "gives",vN i,.int k])->i < n->1<=k->k<=9->gZ n H (.ref a) (.gives i k)
 | sum {a b:Addr} {c:List Nat} {k:Int}:H a=some (.tup [.str "sum",.ref b,.int k])->H b=some (.tup (c.map vN))->(∀ i∈c,i < n)->c.Pairwise (· < ·)->c.length<=20->2<=c.length->1<=k->k<=99->gZ n H (.ref a) (.sum c k)
 | crowd {a b:Addr} {c:List Nat} {k m:Int}:H a=some (.tup [.str "crowd",.ref b,.int k,.int m])->H b=some (.tup (c.map vN))->(∀ i∈c,i < n)->c.Pairwise (· < ·)->c.length<=20->1<=c.length->1<=k->k<=9->1<=m->m<=12->gZ n H (.ref a) (.crowd c k m)
 | all {a b:Addr} {vs:List V} {ts:List Tm}:H a=some (.tup [.str "all",.ref b])->H b=some (.tup vs)->2<=vs.length->vs.length<=6->cO n H vs ts->gZ n H (.ref a) (.all ts)
 | any {a b:Addr} {vs:List V} {ts:List Tm}:H a=some (.tup [.str "any",.ref b])->H b=some (.tup vs)->2<=vs.length->vs.length<=6->cO n H vs ts->gZ n H (.ref a) (.any ts)
inductive cO (n:Nat) (H:Hp):List V->List Tm->Prop where
 | nil:cO n H [] []
 | cons {v:V} {t:Tm} {vs:List V} {ts:List Tm}:gZ n H v t->cO n H vs ts->cO n H (v::vs) (t::ts)
end
mutual
theorem gZ.bu {n:Nat} {H H':Hp} (e:∀ a xs,H a=some (HO.tup xs)->H' a=some (HO.tup xs)):∀ {v:V} {t:Tm},gZ n H v t->gZ n H' v t
 | _,_,.free h=>.free (e _ _ h)
 | _,_,.never h=>.never (e _ _ h)
 | _,_,.gives h a b c=>.gives (e _ _ h) a b c
 | _,_,.sum h h2 a b c d f g=>.sum (e _ _ h) (e _ _ h2) a b c d f g
 | _,_,.crowd h h2 a b c d f g i j=>.crowd (e _ _ h) (e _ _ h2) a b c d f g i j
 | _,_,.all h h2 a b r=>.all (e _ _ h) (e _ _ h2) a b (cO.bu e r)
 | _,_,.any h h2 a b r=>.any (e _ _ h) (e _ _ h2) a b (cO.bu e r)
theorem cO.bu {n:Nat} {H H':Hp} (e:∀ a xs,H a=some (HO.tup xs)->H' a=some (HO.tup xs)):∀ {vs:List V} {ts:List Tm},cO n H vs ts->cO n H' vs ts
 | _,_,.nil=>.nil
 | _,_,.cons h r=>.cons (gZ.bu e h) (cO.bu e r)
end
theorem gZ.mono {n:Nat} {H H':Hp} (e:aU H H') {v:V} {t:Tm} (h:gZ n H v t):gZ n H' v t:=h.bu fun a xs q=>e a _ q
theorem cO.mono {n:Nat} {H H':Hp} (e:aU H H') {vs:List V} {ts:List Tm} (h:cO n H vs ts):cO n H' vs ts:=h.bu fun a xs q=>e a _ q
theorem cO.length {n:Nat} {H:Hp}:∀ {vs:List V} {ts:List Tm},cO n H vs ts->vs.length=ts.length
 | _,_,.nil=>rfl
 | _,_,.cons _ r=>by rw[Qu,Qu,cO.length r]
theorem cO.get {n:Nat} {H:Hp}:∀ {vs:List V} {ts:List Tm} {i:Nat} {v:V},cO n H vs ts->vs[i]? = some v->∃ t,ts[i]? = some t/\gZ n H v t
 | _,_,_,_,.nil,h=>by simp at h
 | _,_,0,_,.cons h _,e=>by
  cases (show some _=some _ from e)
  exact⟨_,rfl,h⟩
 | _,_,i+1,_,.cons _ r,e=>by
  obtain⟨t,e1,e2⟩:=cO.get (i:=i) r (by simpa using e)
  exact⟨t,by simpa using e1,e2⟩
theorem cO.snoc {n:Nat} {H:Hp}:∀ {vs:List V} {ts:List Tm} {v:V} {t:Tm},cO n H vs ts->gZ n H v t->cO n H (vs++[v]) (ts++[t])
 | _,_,_,_,.nil,h=>.cons h .nil
 | _,_,_,_,.cons a r,h=>.cons a (cO.snoc r h)
theorem iR:∀ {ts:List Tm} {i:Nat} {t:Tm},ts[i]? = some t->t.dep<=tdL ts
 | [],_,_,h=>by simp at h
 | d::r,0,_,h=>by
  cases (show some d=some _ from h)
  rw[tdL]
  exact Nat.le_max_left _ _
 | d::r,i+1,_,h=>by
  rw[tdL]
  exact QL (iR (i:=i) (ts:=r) (by simpa using h)) (Nat.le_max_right _ _)
theorem za {m:Nat} {t:Tm} (h:t.dep<=m):∀ {ts:List Tm},tdL ts<=m->tdL (ts++[t])<=m
 | [],_=>by simp only[List.nil_append,tdL]; lia
 | d::r,h2=>by
  rw[tdL] at h2
  rw[X3,tdL]
  have:=za (m:=m) h (ts:=r) (by lia)
  lia
theorem Tm.lB:∀ t:Tm,1<=t.dep
 | .free | .never | .gives .. | .sum .. | .crowd ..=>Ql 1
 | .all ts=>by rw[Tm.dep]; lia
 | .any ts=>by rw[Tm.dep]; lia
theorem um:∀ {g:List Int} {ts:List Tm} {i:Nat} {t:Tm},ts[i]? = some t->o8 g (ts.take (i+1))=(o8 g (ts.take i) && hF g t)
 | _,[],_,_,h=>by simp at h
 | g,d::r,0,t,h=>by
  cases (show some d=some _ from h)
  rw[TY,o8,Rp,Rp,o8,Bool.and_true,Vb]
 | g,d::r,i+1,t,h=>by
  rw[TY,o8,um (i:=i) (ts:=r) (by simpa using h),TY,o8,Bool.and_assoc]
theorem uG:∀ {g:List Int} {ts:List Tm} {i:Nat} {t:Tm},ts[i]? = some t->o9 g (ts.take (i+1))=(o9 g (ts.take i) || hF g t)
 | _,[],_,_,h=>by simp at h
 | g,d::r,0,t,h=>by
  cases (show some d=some _ from h)
  rw[TY,o9,Rp,Rp,o9,Bool.or_false,Xj]
 | g,d::r,i+1,t,h=>by
  rw[TY,o9,uG (i:=i) (ts:=r) (by simpa using h),TY,o9,Bool.or_assoc]
theorem qm:∀ {g:List Int} {ts:List Tm} {i:Nat} {t:Tm},ts[i]? = some t->hF g t=false->o8 g ts=false
 | _,[],_,_,h,_=>by simp at h
 | g,d::r,0,t,h,e=>by
  cases (show some d=some _ from h)
  rw[o8,e,Vn]
 | g,d::r,i+1,t,h,e=>by rw[o8,qm (i:=i) (ts:=r) (by simpa using h) e,Bool.and_false]
theorem vz:∀ {g:List Int} {ts:List Tm} {i:Nat} {t:Tm},ts[i]? = some t->hF g t=true->o9 g ts=true
 | _,[],_,_,h,_=>by simp at h
 | g,d::r,0,t,h,e=>by
  cases (show some d=some _ from h)
  rw[o9,e,Bool.true_or]
 | g,d::r,i+1,t,h,e=>by rw[o9,vz (i:=i) (ts:=r) (by simpa using h) e,Bool.or_true]
def LeG (g g':List Int):Prop:=∀ i,g.getD i 0<=g'.getD i 0
theorem qj (f f':Nat->Int) (h:∀ i,f i<=f' i):∀ c:List Nat,(c.map f).sum<=(c.map f').sum
 | []=>RB _
 | i::c=>by
  have:=qj f f' h c
  have:=h i
  simp only[RZ,Wc]
  lia
theorem filter_le (f f':Nat->Bool) (h:∀ i,f i=true->f' i=true):∀ c:List Nat,(c.filter f).length<=(c.filter f').length
 | []=>Ql _
 | i::c=>by
  have ih:=filter_le f f' h c
  rw[Vr,Vr]
  by_cases e:f i=true
  ·rw[if_pos e,if_pos (h i e),Qu,Qu]
   lia
  ·rw[if_neg e]
   split
   ·rw[Qu]
    lia
   ·exact ih
mutual
theorem xx {g g':List Int} (l:LeG g g'):∀ t:Tm,hF g t=true->hF g' t=true
 | .free,_=>by rw[hF]
 | .never,h=>by rw[hF] at h; cases h
 | .gives i k,h=>by
  rw[hF] at h ⊢
  have:=of_decide_eq_true h
  have:=l i
  exact decide_eq_true (by lia)
 | .sum c k,h=>by
  rw[hF] at h ⊢
  have:=of_decide_eq_true h
  have:=qj _ _ l c
  exact decide_eq_true (by lia)
 | .crowd c k m,h=>by
  rw[hF] at h ⊢
  have:=of_decide_eq_true h
  have:=filter_le (fun i=>decide (k<=g.getD i 0)) (fun i=>decide (k<=g'.getD i 0)) (fun i e=>decide_eq_true (Vm (of_decide_eq_true e) (l i))) c
  exact decide_eq_true (by lia)
 | .all ts,h=>by
  rw[hF] at h ⊢
  exact vd l ts h
 | .any ts,h=>by
  rw[hF] at h ⊢
  exact tY l ts h
theorem vd {g g':List Int} (l:LeG g g'):∀ ts:List Tm,o8 g ts=true->o8 g' ts=true
 | [],_=>by rw[o8]
 | t::r,h=>by
  rw[o8,Rn] at h
  rw[o8,xx l t h.1,vd l r h.2]
  rfl
theorem tY {g g':List Int} (l:LeG g g'):∀ ts:List Tm,o9 g ts=true->o9 g' ts=true
 | [],h=>by rw[o9] at h; cases h
 | t::r,h=>by
  rw[o9,Vf] at h
  rw[o9]
  rcases h with h | h
  ·rw[xx l t h,Bool.true_or]
  ·rw[tY l r h,Bool.or_true]
end
theorem cg {c A B:Prop} [Decidable c] (hc:¬ c) (h:B):if decide c=true then A else B:=by
 rw[decide_eq_false hc]
 exact cV h
theorem jW {c A B:Prop} [Decidable c] (hc:c) (h:A):if decide c=true then A else B:=by
 rw[decide_eq_true hc]
 exact gm h
theorem aK {a b:Q4} (h:a≠b):¬ V.str a=V.str b:=fun z=>h (by cases z; rfl)
theorem atD {g:List Int} {i:Nat} (h:i < g.length):atI (g.map V.int) (i:Int)=some (.int (g.getD i 0)):=by
 rw[gW h,Qf,Qg h]
 rfl
abbrev lG:Stmt:=top 23
abbrev jk:Stmt:=top 24
abbrev vX:Stmt:=top 25
theorem ni:aO ["parts","giving","part"] ["parts","giving"] (aD lG):=⟨rfl,rfl,rfl,by decide+kernel,rfl,by decide+kernel,by decide+kernel⟩
theorem mD:aO ["parts","giving","part"] ["parts","giving"] (aD jk):=⟨rfl,rfl,rfl,by decide+kernel,rfl,by decide+kernel,by decide+kernel⟩
theorem xN:aO ["term","giving","kind"] ["term","giving"] (aD vX):=⟨rfl,rfl,rfl,by decide+kernel,rfl,by decide+kernel,by decide+kernel⟩
inductive yF (K:QF) (d:Nat) (vs:List V) (H:Hp) (Q:VK):Prop where
 | mk (v:V) (g:Addr) (n:Nat) (t:Tm) (ns:List Int) (z0:vs=[v,.ref g]) (z1:gZ n H v t) (z2:t.dep<=d) (z3:SqT K H g (ns.map V.int)) (z4:n<=ns.length) (z5:∀ H',aU H H'->Q (.bl (hF ns t)) H'):yF K d vs H Q
def dH (K:QF) (d:Nat):Sp:=fun vs H Q _=>yF K d vs H Q
inductive DX (K:QF) (d:Nat) (vs:List V) (H:Hp) (Q:VK):Prop where
 | mk (b g:Addr) (n:Nat) (us:List V) (ts:List Tm) (ns:List Int) (z0:vs=[.ref b,.ref g]) (z1:H b=some (.tup us)) (z2:cO n H us ts) (z3:tdL ts<=d) (z4:SqT K H g (ns.map V.int)) (z5:n<=ns.length) (z6:∀ H',aU H H'->Q (.bl (o8 ns ts)) H'):DX K d vs H Q
def Jb (K:QF) (d:Nat):Sp:=fun vs H Q _=>DX K d vs H Q
inductive Eg (K:QF) (d:Nat) (vs:List V) (H:Hp) (Q:VK):Prop where
 | mk (b g:Addr) (n:Nat) (us:List V) (ts:List Tm) (ns:List Int) (z0:vs=[.ref b,.ref g]) (z1:H b=some (.tup us)) (z2:cO n H us ts) (z3:tdL ts<=d) (z4:SqT K H g (ns.map V.int)) (z5:n<=ns.length) (z6:∀ H',aU H H'->Q (.bl (o9 ns ts)) H'):Eg K d vs H Q
def HY (K:QF) (d:Nat):Sp:=fun vs H Q _=>Eg K d vs H Q
theorem zr:cI P w K mg base CX0 0 f fd ["term","giving"] (dH K 0):=by
 have no:∀ vs H Q E,¬ dH K 0 vs H Q E:=fun vs H Q E h=>by
  obtain⟨v,g,n,t,ns,_,_,h1,_⟩:=h
  have:=t.lB
  lia
 exact⟨fun vs H Q E h=>absurd h (no vs H Q E),fun A outer s H args us vs Q E _ _ _ _ h=>absurd h (no vs H Q E)⟩
theorem gf {d k:Nat} (F:Fun K "all_hold" "all_hold" lG f fd) (B:Bt mg)
  (D_holds:Df P w K mg base "holds" k ["term","giving"] (dH K d)):cI P w K mg base CX0 (k+1) f fd ["parts","giving"] (Jb K d):=by
 refine F.ok ni (fun vs H Q E h=>?_) (fun cdv A outer s H vs Q E hr h=>?_)
 ·obtain⟨b,g,n,us,ts,ns,rfl,_⟩:=h
  rfl
 ·obtain⟨b,g,n,us,ts,ns,rfl,hb,rp,hd,hg,hn,q⟩:=h
  refine⟨_,(aq (cY QX rfl (dj (pv 0)) (aJ (i:=2) ni.nd rfl (Qw rfl)) (aA (bA (dY (cZ (bc D_holds hr (aa (pv 2) (aa (pv 1) aj))))) (aA (aG fV)) aN)))
 (aA (aG fV))),?_⟩
  have el:=rp.length
  refine⟨_,rfl,b,rfl,⟨_,SqT.of hb⟩,oR (K:=K) (a:=b) (xs:=us) (fun i σ H2=>(∃ u,σ=[some (.ref b),some (.ref g),u])/\aU H H2/\o8 ns (ts.take i)=true) ⟨⟨_,rfl⟩,aU.refl H,by rw[Rp,o8]⟩ (fun i σ H2 _ h=>d8 h.2.1 (SqT.of hb)) ?_ ?_⟩
  ·rintro i x σ H2 hx ⟨⟨u,rfl⟩,sm,ab⟩
   obtain⟨t,ht,rt⟩:=rp.get hx
   refine⟨_,rfl,_,rfl,x,g,n,t,ns,rfl,rt.mono sm,QL (iR ht) hd,d8 sm hg,hn,fun H3 s3=>⟨_,rfl,?_⟩⟩
   cases e:hF ns t with
   | false =>
    have q':=q H3 (sm.trans s3)
    rw[qm ht e] at q'
    exact gm q'
   | true=>exact cV ⟨⟨_,rfl⟩,sm.trans s3,by rw[um ht,ab,e]; rfl⟩
  ·rintro σ H2 ⟨⟨u,rfl⟩,sm,ab⟩
   have q':=q H2 sm
   rw[el,Qq] at ab
   rw[ab] at q'
   exact q'
theorem fj {d k:Nat} (F:Fun K "any_holds" "any_holds" jk f fd) (B:Bt mg)
  (D_holds:Df P w K mg base "holds" k ["term","giving"] (dH K d)):cI P w K mg base CX0 (k+1) f fd ["parts","giving"] (HY K d):=by
 refine F.ok mD (fun vs H Q E h=>?_) (fun cdv A outer s H vs Q E hr h=>?_)
 ·obtain⟨b,g,n,us,ts,ns,rfl,_⟩:=h
  rfl
 ·obtain⟨b,g,n,us,ts,ns,rfl,hb,rp,hd,hg,hn,q⟩:=h
  refine⟨_,(aq (cY QX rfl (dj (pv 0)) (aJ (i:=2) mD.nd rfl (Qw rfl)) (aA (bA (cZ (bc D_holds hr (aa (pv 2) (aa (pv 1) aj)))) (aA (aG fV)) aN)))
 (aA (aG fV))),?_⟩
  have el:=rp.length
  refine⟨_,rfl,b,rfl,⟨_,SqT.of hb⟩,oR (K:=K) (a:=b) (xs:=us) (fun i σ H2=>(∃ u,σ=[some (.ref b),some (.ref g),u])/\aU H H2/\o9 ns (ts.take i)=false) ⟨⟨_,rfl⟩,aU.refl H,by rw[Rp,o9]⟩ (fun i σ H2 _ h=>d8 h.2.1 (SqT.of hb)) ?_ ?_⟩
  ·rintro i x σ H2 hx ⟨⟨u,rfl⟩,sm,ab⟩
   obtain⟨t,ht,rt⟩:=rp.get hx
   refine⟨_,rfl,_,rfl,x,g,n,t,ns,rfl,rt.mono sm,QL (iR ht) hd,d8 sm hg,hn,fun H3 s3=>⟨_,rfl,?_⟩⟩
   cases e:hF ns t with
   | true =>
    have q':=q H3 (sm.trans s3)
    rw[vz ht e] at q'
    exact gm q'
   | false=>exact cV ⟨⟨_,rfl⟩,sm.trans s3,by rw[uG ht,ab,e]; rfl⟩
  ·rintro σ H2 ⟨⟨u,rfl⟩,sm,ab⟩
   have q':=q H2 sm
   rw[el,Qq] at ab
   rw[ab] at q'
   exact q'
theorem mV {d k:Nat} (F:Fun K "holds" "holds" vX f fd) (B:Bt mg)
  (D_all_hold:Df P w K mg base "all_hold" k ["parts","giving"] (Jb K d)) (D_any_holds:Df P w K mg base "any_holds" k ["parts","giving"] (HY K d)):cI P w K mg base CX0 (k+1) f fd ["term","giving"] (dH K (d+1)):=by
 refine F.ok xN (fun vs H Q E h=>?_) (fun cdv A outer s H vs Q E hr h=>?_)
 ·obtain⟨v,g,n,t,ns,rfl,_⟩:=h
  rfl
 ·obtain⟨v,g,n,t,ns,rfl,rt,hd,hg,hn,q⟩:=h
  refine⟨_,(aq (bf (i:=2) xN.nd rfl (Qw rfl) (aQ (r:=cW K) aY (pv 0) au (fun _ _=>rfl)))
 (aq (bA (aH cz (pv 2) bB (aL _)) (aA (aG (cu mL (aQ (r:=cW K) aY (pv 1) (aQ (r:=cW K) aY (pv 0) au (fun _ _=>rfl)) (fun _ _=>rfl)) (aQ (r:=cW K) aY (pv 0) au (fun _ _=>rfl)) (aL _)))) aN)
 (aq (bA (aH cz (pv 2) bB (aL _)) (aA (aG (cu mL (aF (r:=FN K) (nQ rfl) rfl B.sum_ Ec (aa (bK (L:=["one"]) (F:=["giving"]) (cap:=[1]) rfl (bD rfl rfl (by kernel_rfl)) (dj (aQ (r:=cW K) aY (pv 0) au (fun _ _=>rfl))) (fun _ _ _ _ _=>(aJ (i:=0) (bw (by decide+kernel)) rfl (Qw rfl))) (fun _ _ _ _ _=>bR) (fun _ _ _ _ _=>(aQ (r:=cW K) aY (pv 1) (pv 0) (fun _ _=>rfl)))) aj)) (aQ (r:=cW K) aY (pv 0) au (fun _ _=>rfl)) (aL _)))) aN)
 (aq (bA (aH cz (pv 2) bB (aL _)) (aA (aG (cu mL (aF (r:=iV K) aX rfl B.len_ bV (aa (bK (L:=["one"]) (F:=["giving","term"]) (cap:=[1,0]) rfl (bD rfl rfl (by kernel_rfl)) (dj (aQ (r:=cW K) aY (pv 0) au (fun _ _=>rfl))) (fun _ _ _ _ _=>(aJ (i:=0) (bw (by decide+kernel)) rfl (Qw rfl))) (fun _ _ _ _ _=>(lA (aH mL (aQ (r:=cW K) aY (pv 1) (pv 0) (fun _ _=>rfl)) (aQ (r:=cW K) aY (pv 2) au (fun _ _=>rfl)) (aL _)))) (fun _ _ _ _ _=>(pv 0))) aj)) (aQ (r:=cW K) aY (pv 0) au (fun _ _=>rfl)) (aL _)))) aN)
 (aq (bA (aH cz (pv 2) bB (aL _)) (aA (aG (bc D_all_hold hr (aa (aQ (r:=cW K) aY (pv 0) au (fun _ _=>rfl)) (aa (pv 1) aj))))) aN)
 (aq (bA (aH cz (pv 2) bB (aL _)) (aA (aG (bc D_any_holds hr (aa (aQ (r:=cW K) aY (pv 0) au (fun _ _=>rfl)) (aa (pv 1) aj))))) aN)
 (aA (aG (cu cz (pv 2) bB (aL _)))))))))),?_⟩
  cases rt with
  | @free a ha =>
   refine⟨_,rfl,a,_,_,_,rfl,rfl,SqT.of ha,aC (k:=0) rfl,?_⟩
   refine⟨_,rfl,rfl,_,rfl,cg (aK (by decide)) ?_⟩
   refine⟨_,rfl,rfl,_,rfl,cg (aK (by decide)) ?_⟩
   refine⟨_,rfl,rfl,_,rfl,cg (aK (by decide)) ?_⟩
   refine⟨_,rfl,rfl,_,rfl,cg (aK (by decide)) ?_⟩
   refine⟨_,rfl,rfl,_,rfl,cg (aK (by decide)) ?_⟩
   refine⟨_,rfl,rfl,?_⟩
   have q':=q H (aU.refl H)
   rw[hF] at q'
   rw[decide_eq_true rfl]
   exact q'
  | @never a ha =>
   refine⟨_,rfl,a,_,_,_,rfl,rfl,SqT.of ha,aC (k:=0) rfl,?_⟩
   refine⟨_,rfl,rfl,_,rfl,cg (aK (by decide)) ?_⟩
   refine⟨_,rfl,rfl,_,rfl,cg (aK (by decide)) ?_⟩
   refine⟨_,rfl,rfl,_,rfl,cg (aK (by decide)) ?_⟩
   refine⟨_,rfl,rfl,_,rfl,cg (aK (by decide)) ?_⟩
   refine⟨_,rfl,rfl,_,rfl,cg (aK (by decide)) ?_⟩
   refine⟨_,rfl,rfl,?_⟩
   have q':=q H (aU.refl H)
   rw[hF] at q'
   rw[decide_eq_false (aK (by decide))]
   exact q'
  | @gives a i k ha hi _ _ =>
   refine⟨_,rfl,a,_,_,_,rfl,rfl,SqT.of ha,aC (k:=0) rfl,?_⟩
   refine⟨_,rfl,rfl,_,rfl,jW rfl ?_⟩
   refine⟨_,rfl,_,rfl,a,_,_,_,rfl,rfl,SqT.of ha,aC (k:=1) rfl,g,_,_,_,rfl,rfl,hg,atD (by lia),_,rfl,a,_,_,_,rfl,rfl,SqT.of ha,aC (k:=2) rfl,_,_,rfl,rfl,?_⟩
   have q':=q H (aU.refl H)
   rw[hF] at q'
   exact q'
  | @sum a b c k ha hb hc _ hl _ _ _ =>
   refine⟨_,rfl,a,_,_,_,rfl,rfl,SqT.of ha,aC (k:=0) rfl,?_⟩
   refine⟨_,rfl,rfl,_,rfl,cg (aK (by decide)) ?_⟩
   refine⟨_,rfl,rfl,_,rfl,jW rfl ?_⟩
   refine⟨_,rfl,a,_,_,_,rfl,rfl,SqT.of ha,aC (k:=1) rfl,b,rfl,⟨_,SqT.of hb⟩,fun D hD=>cL (K:=K) (a:=b) (xs:=c.map vN) (fun i zs σ' H2=>(∃ u,σ'=[u,some (.ref g)])/\zs=((c.take i).map fun i=>ns.getD i 0).map V.int/\aU H H2/\H2 D=some (.lst zs))
    ⟨⟨_,rfl⟩,rfl,aB hD _,ao⟩ (fun i zs σ' H2 _ h=>⟨d8 h.2.2.1 (SqT.of hb),h.2.2.2⟩) ?_ ?_⟩
   ·rintro j zs x σ' H2 hx ⟨⟨u,rfl⟩,e1,sm,hDl⟩
    obtain⟨i,hi,rfl⟩:=qP hx
    have hin:i < n:=hc i (QC hi)
    refine gT ?_
    refine⟨_,rfl,_,rfl,g,_,_,_,rfl,rfl,d8 sm hg,atD (by lia),hDl,?_,⟨_,rfl⟩,?_,aW sm hD _,ao⟩
    ·rw[e1,Qc,Qc,Qv]
     exact aM (by lia)
    ·rw[e1,QR,hi,Qj,Qj]
     rfl
   ·rintro zs σ' H2 ⟨⟨u,rfl⟩,e1,sm,hDl⟩
    rw[Qc,Qq] at e1
    refine⟨D,_,rfl,SqL.of (by rw[hDl,e1]),_,rfl,a,_,_,_,rfl,rfl,SqT.of (sm _ _ ha),aC (k:=2) rfl,_,_,rfl,rfl,?_⟩
    have q':=q H2 sm
    rw[hF] at q'
    exact q'
  | @crowd a b c k m ha hb hc _ hl _ _ _ _ _ =>
   refine⟨_,rfl,a,_,_,_,rfl,rfl,SqT.of ha,aC (k:=0) rfl,?_⟩
   refine⟨_,rfl,rfl,_,rfl,cg (aK (by decide)) ?_⟩
   refine⟨_,rfl,rfl,_,rfl,cg (aK (by decide)) ?_⟩
   refine⟨_,rfl,rfl,_,rfl,jW rfl ?_⟩
   refine⟨_,rfl,a,_,_,_,rfl,rfl,SqT.of ha,aC (k:=1) rfl,b,rfl,⟨_,SqT.of hb⟩,fun D hD=>cL (K:=K) (a:=b) (xs:=c.map vN) (fun i zs σ' H2=>(∃ u,σ'=[u,some (.ref g),some (.ref a)])/\zs=((c.take i).filter fun i=>decide (k<=ns.getD i 0)).map vN/\aU H H2/\H2 D=some (.lst zs))
    ⟨⟨_,rfl⟩,rfl,aB hD _,ao⟩ (fun i zs σ' H2 _ h=>⟨d8 h.2.2.1 (SqT.of hb),h.2.2.2⟩) ?_ ?_⟩
   ·rintro j zs x σ' H2 hx ⟨⟨u,rfl⟩,e1,sm,hDl⟩
    obtain⟨i,hi,rfl⟩:=qP hx
    have hin:i < n:=hc i (QC hi)
    have et:c.take (j+1)=c.take j++[i]:=by rw[QR,hi]; rfl
    refine⟨_,rfl,_,rfl,g,_,_,_,rfl,rfl,d8 sm hg,atD (by lia),_,rfl,a,_,_,_,rfl,rfl,SqT.of (sm _ _ ha),aC (k:=2) rfl,_,_,rfl,rfl,_,rfl,?_⟩
    refine pL (fun cc=>?_) (fun cc=>?_)
    ·refine⟨_,rfl,hDl,?_,⟨_,rfl⟩,?_,aW sm hD _,ao⟩
     ·rw[e1,Qc]
      have:=RK (fun i=>decide (k<=ns.getD i 0)) (c.take j)
      rw[Qv] at this
      exact aM (by lia)
     ·rw[e1,et,Tp,Qj,Vr,if_pos cc]
      rfl
    ·refine⟨⟨_,rfl⟩,?_,sm,hDl⟩
     rw[e1,et,Tp,Vr,if_neg cc]
     simp
   ·rintro zs σ' H2 ⟨⟨u,rfl⟩,e1,sm,hDl⟩
    rw[Qc,Qq] at e1
    refine⟨D,_,rfl,.inl (SqL.of (by rw[hDl,e1])),_,rfl,a,_,_,_,rfl,rfl,SqT.of (sm _ _ ha),aC (k:=3) rfl,_,_,rfl,rfl,?_⟩
    have q':=q H2 sm
    rw[hF] at q'
    rw[Qc]
    exact q'
  | @all a b us ts ha hb _ _ rl =>
   refine⟨_,rfl,a,_,_,_,rfl,rfl,SqT.of ha,aC (k:=0) rfl,?_⟩
   refine⟨_,rfl,rfl,_,rfl,cg (aK (by decide)) ?_⟩
   refine⟨_,rfl,rfl,_,rfl,cg (aK (by decide)) ?_⟩
   refine⟨_,rfl,rfl,_,rfl,cg (aK (by decide)) ?_⟩
   refine⟨_,rfl,rfl,_,rfl,jW rfl ?_⟩
   refine⟨_,rfl,a,_,_,_,rfl,rfl,SqT.of ha,aC (k:=1) rfl,_,rfl,b,g,n,us,ts,ns,rfl,hb,rl,?_,hg,hn,fun H' s'=>?_⟩
   ·rw[Tm.dep] at hd
    lia
   ·have q':=q H' s'
    rw[hF] at q'
    exact q'
  | @any a b us ts ha hb _ _ rl =>
   refine⟨_,rfl,a,_,_,_,rfl,rfl,SqT.of ha,aC (k:=0) rfl,?_⟩
   refine⟨_,rfl,rfl,_,rfl,cg (aK (by decide)) ?_⟩
   refine⟨_,rfl,rfl,_,rfl,cg (aK (by decide)) ?_⟩
   refine⟨_,rfl,rfl,_,rfl,cg (aK (by decide)) ?_⟩
   refine⟨_,rfl,rfl,_,rfl,cg (aK (by decide)) ?_⟩
   refine⟨_,rfl,rfl,_,rfl,jW rfl ?_⟩
   refine⟨_,rfl,a,_,_,_,rfl,rfl,SqT.of ha,aC (k:=1) rfl,_,rfl,b,g,n,us,ts,ns,rfl,hb,rl,?_,hg,hn,fun H' s'=>?_⟩
   ·rw[Tm.dep] at hd
    lia
   ·have q':=q H' s'
    rw[hF] at q'
    exact q'
theorem lU {t u:TS} {D:Ends} {σ:St} {H:Hp} (P:St->Hp->Prop) (h2:∀ σ H,P σ H->u D σ H) (h1:∀ N:St->Hp->Prop,(∀ σ H,P σ H->N σ H)->t { D with nx:=N } σ H):G6 t u D σ H:=h1 (u D) h2
theorem rA {A B:TT} {t u:TS} {D:Ends} {σ:St} {H:Hp} (b1 b2:Bool) (R:Hp->Prop) (hA:∀ Q:Bool->Hp->Prop,(∀ H1,R H1->Q b1 H1)->A σ H Q) (hB:∀ H1,R H1->∀ Q:Bool->Hp->Prop,Q b2 H1->B σ H1 Q)
  (ht:∀ H1,R H1->b1=true->b2=true->t D σ H1) (hu:∀ H1,R H1->(b1=true->b2=false)->u D σ H1):Fz (Oq A B) t u D σ H:=by
 refine hA _ fun H1 r1=>?_
 show if b1=true then B σ H1 (fun b H2=>if b=true then t D σ H2 else u D σ H2) else (if false=true then t D σ H1 else u D σ H1)
 cases b1 with
 | false=>exact cV (cV (hu H1 r1 fun z=>by cases z))
 | true =>
  refine gm (hB H1 r1 _ ?_)
  cases b2 with
  | false=>exact cV (hu H1 r1 fun _=>rfl)
  | true=>exact gm (ht H1 r1 rfl rfl)
theorem gN {i:Nat} {x:V} {σ:St} {H:Hp} {P:St->Hp->Prop} (h:P (σ.set i (some x)) H):vM i x σ H P:=h
abbrev kj:Stmt:=top 64
theorem eQ:aO ["_law_cell_here","_law_n","_law_deep","_law_most","_law_drawn","_law_parts","_law_crowd_here"] ["_law_cell_here","_law_n","_law_deep","_law_most"] (aD kj):=⟨rfl,rfl,rfl,by decide+kernel,rfl,by decide+kernel,by decide+kernel⟩
inductive Ep (d:Nat) (vs:List V) (H:Hp) (Q:VK):Prop where
 | mk (c:Int) (n:Nat) (deep most:Int) (z0:vs=[.int c,.int (n:Int),.int deep,.int most]) (z1:1<=n) (z2:n<=12) (z3:1<=deep) (z4:deep<=(d:Int)) (z5:1<=most) (z6:most<=9) (z7:∀ (v:V) (t:Tm) (H':Hp),aU H H'->gZ n H' v t->(t.dep:Int)<=deep->Q v H'):Ep d vs H Q
def pO (d:Nat):Sp:=fun vs H Q _=>Ep d vs H Q
theorem term_none:cI P w K mg base CX0 1 f fd ["_law_cell_here","_law_n","_law_deep","_law_most"] (pO 0):=by
 have no:∀ vs H Q E,¬ pO 0 vs H Q E:=fun vs H Q E h=>by
  obtain⟨c,n,deep,most,_,_,_,h1,h2,_⟩:=h
  lia
 exact⟨fun vs H Q E h=>absurd h (no vs H Q E),fun A outer s H args us vs Q E _ _ _ _ h=>absurd h (no vs H Q E)⟩
theorem jC {d:Nat} (F:Fun K "_law_term" "_law_term" kj f fd) (B:Bt mg)
  (D_law_draws:Df P w K mg base "_law_draws" 1 ["_law_cell_here","_law_parts"] (nC K)) (D_law_under:Df P w K mg base "_law_under" 1 ["_law_cell_here","_law_k"] qQ) (D_law_crowd:Df P w K mg base "_law_crowd" 1 ["_law_number","_law_n"] wR)
  (D_law_term:Df P w K mg base "_law_term" (d+1) ["_law_cell_here","_law_n","_law_deep","_law_most"] (pO d)):cI P w K mg base CX0 (d+2) f fd ["_law_cell_here","_law_n","_law_deep","_law_most"] (pO (d+1)):=by
 refine F.ok eQ (fun vs H Q E h=>?_) (fun cdv A outer s H vs Q E hr h=>?_)
 ·obtain⟨c,n,deep,most,rfl,_⟩:=h
  rfl
 ·obtain⟨c,n,deep,most,rfl,n1,n12,de1,ded,m1,m9,q⟩:=h
  refine⟨_,(aq (bf (i:=4) eQ.nd rfl (Qw rfl) (bc D_law_draws hr (aa (pv 0) (aa (bZ (aa au (aa au (aa au (aa au (aa au aj)))))) aj))))
 (aq (bA (PW.pt (ou (aH wI (aQ (r:=dX K) aZ (pv 4) au (fun _ _=>rfl)) au (aL _)) (kW (aH rm (pv 2) au (aL _))))) (aq (wk (L:=["_law_k"]) (F:=["_law_n","_law_most","_law_cell_here","_law_deep"]) (cap:=[1,3,0,2]) (j:=5) eQ.nd rfl (Qw rfl) rfl (bD rfl rfl (by kernel_rfl)) (bU rfl B.range_ (aa (aV bI au (aV cR (aQ (r:=dX K) aZ (pv 4) au (fun _ _=>rfl)) au)) aj)) (fun _ _ _ _ _=>(aJ (i:=0) (bw (by decide+kernel)) rfl (Qw rfl))) (fun _ _ _ _ _=>bR) (fun _ _ _ _ _=>(bc D_law_term hr (aa (bc D_law_under hr (aa (pv 3) (aa (pv 0) aj))) (aa (pv 1) (aa (aV iD (pv 4) au) (aa (pv 2) aj)))))))
 (aA (aG (cA (aa (aQ (r:=dX K) aZ (bZ (aa bB (aa bB aj))) (aQ (r:=dX K) aZ (pv 4) au (fun _ _=>rfl)) (fun _ _=>rfl)) (aa (bJ (r:=fD K) bL rfl B.tuple_ bQ (aa (pv 5) aj)) aj)))))) aN)
 (aq (bf (i:=6) eQ.nd rfl (Qw rfl) (bc D_law_crowd hr (aa (aQ (r:=dX K) aZ (pv 4) au (fun _ _=>rfl)) (aa (pv 1) aj))))
 (aq (bA (aH (r:=J9 K) (Dd hr.uU) (pv 6) (cA aj) (aL _)) (aA (bf (i:=6) eQ.nd rfl (Qw rfl) (cA (aa (aV cR (aQ (r:=dX K) aZ (pv 4) au (fun _ _=>rfl)) (pv 1)) aj)))) aN)
 (aq (bA (PW.pt (ou (aH (r:=rIn K false) iG (aQ (r:=dX K) aZ (pv 4) au (fun _ _=>rfl)) (cA (aa au (aa au aj))) rfl) (kW (aH rm (aF (r:=iV K) aX rfl B.len_ bV (aa (pv 6) aj)) au (aL _))))) (aA (aG (cA (aa bB (aa (pv 6) (aa (aV bI au (aV cR (aV bI (aV fW au (aQ (r:=dX K) aZ (pv 4) au (fun _ _=>rfl))) (aQ (r:=dX K) aZ (pv 4) au (fun _ _=>rfl))) (aF (Em rfl) rfl B.min_ MN (aa au (aa (aV fW (pv 3) (aF (r:=iV K) aX rfl B.len_ bV (aa (pv 6) aj))) aj))))) aj)))))) aN)
 (aq (bA (aH cz (aQ (r:=dX K) aZ (pv 4) au (fun _ _=>rfl)) au (aL _)) (aA (aG (cA (aa bB (aa (pv 6) (aa (aV bI au (aV cR (aQ (r:=dX K) aZ (pv 4) au (fun _ _=>rfl)) (pv 3))) (aa (aV bI au (aV cR (aQ (r:=dX K) aZ (pv 4) au (fun _ _=>rfl)) (aF (r:=iV K) aX rfl B.len_ bV (aa (pv 6) aj)))) aj))))))) aN)
 (aq (bA (aH cz (aQ (r:=dX K) aZ (pv 4) au (fun _ _=>rfl)) au (aL _)) (aA (aG (cA (aa (aQ (r:=dX K) aZ (bZ (aa bB (aa bB (aa bB aj)))) (aV cR (aQ (r:=dX K) aZ (pv 4) au (fun _ _=>rfl)) au) (fun _ _=>rfl)) aj)))) aN)
 (aA (aG (cA (aa bB (aa (aV cR (aQ (r:=dX K) aZ (pv 4) au (fun _ _=>rfl)) (pv 1)) (aa (aV bI au (aV cR (aQ (r:=dX K) aZ (pv 4) au (fun _ _=>rfl)) (pv 3))) aj))))))))))))),?_⟩
  refine⟨_,rfl,small (by show 5<=1000; decide),fun p1 h1=>?_⟩
  generalize eH1:upd H p1 _=H1
  obtain⟨g1,e1⟩:=aP eH1 h1
  refine⟨c,p1,[9,12,9,4096,12],rfl,SqL.of e1,by decide,by decide,fun p2 h2=>?_⟩
  generalize eH2:upd H1 p2 _=H2
  obtain⟨g2,e2⟩:=aP eH2 h2
  have hps:∀ q∈([9,12,9,4096,12]:List Int),0 < q:=by decide
  obtain⟨d0,k0,b0⟩:=cB (c:=kZ c) (i:=0) hps rfl
  obtain⟨d1,k1,b1⟩:=cB (c:=kZ c) (i:=1) hps rfl
  obtain⟨d2,k2,b2⟩:=cB (c:=kZ c) (i:=2) hps rfl
  obtain⟨d3,k3,b3⟩:=cB (c:=kZ c) (i:=3) hps rfl
  obtain⟨d4,k4,b4⟩:=cB (c:=kZ c) (i:=4) hps rfl
  have a0:=aC (dg k0)
  have a1:=aC (dg k1)
  have a2:=aC (dg k2)
  have a3:=aC (dg k3)
  have a4:=aC (dg k4)
  change _=some (HO.lst ((vD (kZ c) [9,12,9,4096,12]).map V.int)) at e2
  generalize vD (kZ c) [9,12,9,4096,12]=ds at *
  have gH:aU H H2:=g1.trans g2
  refine gN ?_
  dsimp only
  show G6 (Fz _ _ _) _ _ _ _
  refine lU (fun σ H3=>σ=[some (.int c),some (.int (n:Int)),some (.int deep),some (.int most),some (.ref p2),none,none]/\H2=H3) ?rest (fun _ R=>?_)
  case rest =>
   rintro σ H3 ⟨rfl,rfl⟩
   refine⟨_,rfl,p2,_,_,_,rfl,rfl,SqL.of e2,a3,_,rfl,d3,n,rfl,by lia,fun cs r3 H3 hc hp hl s3 f3 e3=>?_⟩
   refine gN ?_
   dsimp only
   show G6 (Fz _ _ _) _ _ _ _
   refine lU (fun σ H5=>∃ (rc:Addr) (cs:List Nat),σ=[some (.int c),some (.int (n:Int)),some (.int deep),some (.int most),some (.ref p2),none,some (.ref rc)]/\aU H2 H5/\H5 rc=some (.tup (cs.map vN))/\(∀ i∈cs,i < n)/\cs.Pairwise (· < ·)/\cs.length<=n/\1<=cs.length) ?rest2 (fun _ R=>?_)
   case rest2 =>
    rintro σ H5 ⟨rc,cs,rfl,s5,e5,hc,hp,hl,h1l⟩
    have e2':=s5 _ _ e2
    have lenr:((cs.map vN).length:Int)=(cs.length:Int):=by rw[Qc]
    show G6 (Fz _ _ _) _ _ _ _
    refine lU (fun σ H6=>σ=[some (.int c),some (.int (n:Int)),some (.int deep),some (.int most),some (.ref p2),none,some (.ref rc)]/\aU H5 H6) ?rest3 (fun _ R=>?_)
    case rest3 =>
     rintro σ H6 ⟨rfl,s6⟩
     have e2':=s6 _ _ e2'
     have e5:=s6 _ _ e5
     have s56:aU H H6:=gH.trans (s5.trans s6)
     refine⟨_,rfl,p2,_,_,_,rfl,rfl,SqL.of e2',a0,rfl,_,rfl,?_⟩
     refine pL (fun _=>?_) (fun _=>?_)
     ·refine⟨_,rfl,_,rfl,p2,_,_,_,rfl,rfl,SqL.of e2',a2,_,rfl,_,_,rfl,rfl,(by show (0:Int) < most; lia),_,_,rfl,rfl,?_⟩
      refine⟨_,rfl,p2,_,_,_,rfl,rfl,SqL.of e2',a4,_,rfl,rc,_,rfl,.inr (SqT.of e5),_,_,rfl,rfl,?_,_,_,rfl,rfl,small (by show 4<=1000; decide),fun p7 h7=>?_⟩
      ·rw[lenr]
       lia
      ·have u1:0<=d2 % most:=Q6 _ (by lia)
       have u2:d2 % most < most:=QT _ (by lia)
       have u3:0<=d4 % ((cs.map vN).length:Int):=Q6 _ (by rw[lenr]; lia)
       have u4:d4 % ((cs.map vN).length:Int) < (cs.length:Int):=by
        have:=QT d4 (b:=((cs.map vN).length:Int)) (by rw[lenr]; lia)
        rw[lenr] at this ⊢
        exact this
       refine q (.ref p7) (.crowd cs (1+d2 % most) (1+d4 % ((cs.map vN).length:Int))) _ (s56.trans (aB h7 _)) (.crowd ao (aB h7 _ _ _ e5) hc hp (by lia) h1l (by lia) (by lia) (by lia) (by lia)) ?_
       exact de1
     ·refine⟨_,rfl,p2,_,_,_,rfl,rfl,SqL.of e2',a0,rfl,_,rfl,?_⟩
      refine pL (fun _=>?_) (fun _=>?_)
      ·refine⟨small (by show 3<=1000; decide),fun p7 h7=>?_⟩
       generalize eH7:upd H6 p7 _=H7
       obtain⟨g7,e7⟩:=aP eH7 h7
       have u1:0<=d1 % 3:=Q6 _ (by lia)
       have u2:d1 % 3 < 3:=QT _ (by lia)
       have fin:∀ p8 (x:Q4),H7 p8=none->(x = "free"∨x = "never")->Q (.ref p8) (upd H7 p8 (.tup [.str x])):=fun p8 x h8 hx=>by
        rcases hx with rfl | rfl
        ·refine q (.ref p8) .free _ (s56.trans (g7.trans (aB h8 _))) (.free ao) ?_
         exact de1
        ·refine q (.ref p8) .never _ (s56.trans (g7.trans (aB h8 _))) (.never ao) ?_
         exact de1
       refine⟨_,rfl,p2,_,_,_,rfl,rfl,SqL.of (g7 _ _ e2'),a1,_,_,rfl,rfl,(by show (0:Int) < 3; decide),?_⟩
       rcases (show d1 % 3=0∨d1 % 3=1∨d1 % 3=2 by lia) with z | z | z
       ·exact⟨p7,_,_,_,rfl,rfl,SqL.of e7,by rw[z]; rfl,small (by show 1<=1000; decide),fun p8 h8=>fin p8 _ h8 (.inl rfl)⟩
       ·exact⟨p7,_,_,_,rfl,rfl,SqL.of e7,by rw[z]; rfl,small (by show 1<=1000; decide),fun p8 h8=>fin p8 _ h8 (.inl rfl)⟩
       ·exact⟨p7,_,_,_,rfl,rfl,SqL.of e7,by rw[z]; rfl,small (by show 1<=1000; decide),fun p8 h8=>fin p8 _ h8 (.inr rfl)⟩
      ·have u1:0<=d1 % (n:Int):=Q6 _ (by lia)
       have u2:d1 % (n:Int) < (n:Int):=QT _ (by lia)
       have u3:0<=d2 % most:=Q6 _ (by lia)
       have u4:d2 % most < most:=QT _ (by lia)
       refine⟨_,rfl,p2,_,_,_,rfl,rfl,SqL.of e2',a1,_,rfl,_,_,rfl,rfl,(by show (0:Int) < (n:Int); lia),?_⟩
       refine⟨_,rfl,p2,_,_,_,rfl,rfl,SqL.of e2',a2,_,rfl,_,_,rfl,rfl,(by show (0:Int) < most; lia),_,_,rfl,rfl,small (by show 3<=1000; decide),fun p7 h7=>?_⟩
       obtain⟨i,hi⟩:=Uc u1
       rw[hi] at u2
       refine q (.ref p7) (.gives i (1+d2 % most)) _ (s56.trans (aB h7 _)) (.gives (ao.trans (by show some (HO.tup [V.str "gives",V.int (d1 % (n:Int)),V.int (1+d2 % most)])=some (HO.tup [V.str "gives",V.int (i:Int),V.int (1+d2 % most)]); rw[hi])) (by lia) (by lia) (by lia)) ?_
       exact de1
    ·refine rA (inV (.int d0) [.int 3,.int 4]) (decide (1 < (cs.length:Int))) (fun H6=>aU H5 H6) (fun Q' hQ=>?_) (fun H6 s6 Q' hQ=>?_) (fun H6 s6 _ hl2=>?_) (fun H6 s6 _=>R _ _ ⟨rfl,s6⟩)
     ·refine⟨_,rfl,p2,_,_,_,rfl,rfl,SqL.of e2',a0,small (by show 2<=1000; decide),fun p6 h6=>⟨p6,_,rfl,.inr (SqT.of ao),rfl,rfl,_,rfl,hQ _ (aB h6 _)⟩⟩
     ·refine⟨_,rfl,rc,_,rfl,.inr (SqT.of (s6 _ _ e5)),_,_,rfl,rfl,_,rfl,?_⟩
      rw[lenr]
      exact hQ
     ·have e2':=s6 _ _ e2'
      have e5:=s6 _ _ e5
      have s56:aU H H6:=gH.trans (s5.trans s6)
      have hl3:(1:Int) < (cs.length:Int):=of_decide_eq_true hl2
      refine⟨_,rfl,_,rfl,p2,_,_,_,rfl,rfl,SqL.of e2',a1,_,_,rfl,rfl,.inl ⟨by decide,by decide⟩,_,rfl,p2,_,_,_,rfl,rfl,SqL.of e2',a2,_,_,rfl,rfl,?_⟩
      refine⟨_,rfl,_,rfl,rc,_,rfl,.inr (SqT.of e5),_,_,rfl,rfl,.inl ⟨by lia,by lia⟩,_,_,rfl,?_⟩
      have pz:0 < most * ((cs.map vN).length:Int):=by
       rw[lenr]
       exact Int.mul_pos (by lia) (by lia)
      generalize hz:(if most * ((cs.map vN).length:Int) < 99 then most * ((cs.map vN).length:Int) else 99)=z
      have z1:0 < z:=by
       rw[← hz]
       split <;> lia
      have z2:z<=99:=by
       rw[← hz]
       split <;> lia
      have u3:0<=(9 * d1+d2) % z:=Q6 _ (by lia)
      have u4:(9 * d1+d2) % z < z:=QT _ z1
      refine⟨_,_,rfl,rfl,z1,_,_,rfl,rfl,small (by show 3<=1000; decide),fun p7 h7=>?_⟩
      refine q (.ref p7) (.sum cs (1+(9 * d1+d2) % z)) _ (s56.trans (aB h7 _)) (.sum ao (aB h7 _ _ _ e5) hc hp (by lia) (by lia) (by lia) (by lia)) ?_
      exact de1
   ·refine⟨_,rfl,small (by show 0<=1000; decide),fun p4 h4=>?_⟩
    have e3':SqT K H3 r3 ((cs.map fun i:Nat=>(i:Int)).map V.int):=by rw[← ie]; exact SqT.of e3
    have g4:aU H3 (upd H3 p4 (.tup [])):=aB h4 _
    refine⟨r3,p4,cs.map (fun i:Nat=>(i:Int)),[],rfl,rfl,d8 g4 e3',SqT.of ao,_,rfl,?_⟩
    refine pL (fun ce=>?_) (fun ce=>?_)
    ·have u1:0<=d4 % (n:Int):=Q6 _ (by lia)
     have u2:d4 % (n:Int) < (n:Int):=QT _ (by lia)
     refine⟨_,rfl,p2,_,_,_,rfl,rfl,SqL.of (g4 _ _ (s3 _ _ e2)),a4,_,rfl,_,_,rfl,rfl,(by show (0:Int) < (n:Int); lia),small (by show 1<=1000; decide),fun p5 h5=>?_⟩
     obtain⟨i,hi⟩:=Uc u1
     rw[hi] at u2
     refine R _ _ ⟨p5,[i],rfl,s3.trans (g4.trans (aB h5 _)),ao.trans (by show some (HO.tup [V.int (d4 % (n:Int))])=some (HO.tup [V.int (i:Int)]); rw[hi]),?_,by simp,n1,Ql _⟩
     intro j hj
     rw[Uj] at hj
     lia
    ·refine R _ _ ⟨r3,cs,rfl,s3.trans g4,g4 _ _ e3,hc,hp,hl,?_⟩
     cases cs with
     | nil=>exact absurd (decide_eq_true rfl) ce
     | cons x xs=>rw[Qu]; lia
  ·refine rA (decide (d0 < 2)) (decide (1 < deep)) (fun H3=>H2=H3) (fun Q' hQ=>?_) (fun H3 e Q' hQ=>?_) (fun H3 e c1 c2=>?_) (fun H3 e _=>R _ _ ⟨rfl,e⟩)
   ·exact⟨_,rfl,p2,_,_,_,rfl,rfl,SqL.of e2,a0,_,_,rfl,rfl,_,rfl,hQ _ rfl⟩
   ·exact⟨_,rfl,_,_,rfl,rfl,_,rfl,hQ⟩
   ·subst e
    have c1:d0 < 2:=of_decide_eq_true c1
    have c2:1 < deep:=of_decide_eq_true c2
    have u1:0<=d4 % 5:=Q6 _ (by lia)
    have u2:d4 % 5 < 5:=QT _ (by lia)
    refine⟨_,rfl,p2,_,_,_,rfl,rfl,SqL.of e2,a4,_,_,rfl,rfl,(by show (0:Int) < 5; decide),_,_,rfl,rfl,_,rfl,by lia,by lia,fun D hD=>cT (lo:=0) (n:=(2+d4 % 5).toNat)
     (fun i zs σ' H5=>(∃ u,σ'=[u,some (.int (n:Int)),some (.int most),some (.int c),some (.int deep)])/\aU H2 H5/\H5 D=some (.lst zs)/\zs.length=i/\∃ ts,cO n H5 zs ts/\(tdL ts:Int)<=deep - 1)
     ⟨⟨_,rfl⟩,aB hD _,ao,rfl,[],.nil,by rw[tdL]; lia⟩ (fun i zs σ' H5 _ h=>h.2.2.1) ?_ ?_⟩
    ·rintro i zs σ' H5 hi ⟨⟨u,rfl⟩,s5,eD,lz,ts,rt,td⟩
     refine gT ?_
     refine⟨_,rfl,_,rfl,c,i,by rw[RV]; rfl,by lia,_,rfl,_,rfl,_,_,rfl,rfl,_,rfl,Ke c i,n,deep - 1,most,rfl,n1,n12,by lia,by lia,m1,m9,fun v t H6 s6 r6 d6=>?_⟩
     refine⟨s6 _ _ eD,?_,⟨_,rfl⟩,aW (s5.trans s6) hD _,ao,?_,ts++[t],?_,?_⟩
     ·exact aM (by lia)
     ·rw[Qx,lz]
      rfl
     ·have s7:=cG (zs':=zs++[v]) (s6 _ _ eD)
      exact ((rt.mono s6).bu s7).snoc (r6.bu s7)
     ·have:=za (m:=(deep - 1).toNat) (t:=t) (by lia) (ts:=ts) (by lia)
      lia
    ·rintro zs σ' H5 ⟨⟨u,rfl⟩,s5,eD,lz,ts,rt,td⟩
     refine⟨small (by show 2<=1000; decide),fun p6 h6=>?_⟩
     generalize eH6:upd H5 p6 _=H6
     obtain⟨g6,e6⟩:=aP eH6 h6
     refine⟨_,rfl,p2,_,_,_,rfl,rfl,SqL.of (g6 _ _ (s5 _ _ e2)),a0,?_⟩
     rcases (show d0=0∨d0=1 by lia) with z | z
     ·subst z
      refine⟨p6,_,_,_,rfl,rfl,SqL.of e6,rfl,_,rfl,D,_,rfl,.inl ⟨SqL.of (g6 _ _ eD),fun p7 h7=>?_⟩⟩
      generalize eH7:upd H6 p7 _=H7
      obtain⟨g7,e7⟩:=aP eH7 h7
      refine⟨small (by show 2<=1000; decide),fun p8 h8=>?_⟩
      refine q (.ref p8) (.all ts) _ (gH.trans (s5.trans (g6.trans (g7.trans (aB h8 _))))) (.all ao (aB h8 _ _ _ e7) (by lia) (by lia) (rt.mono (g6.trans (g7.trans (aB h8 _))))) ?_
      rw[Tm.dep]
      lia
     ·subst z
      refine⟨p6,_,_,_,rfl,rfl,SqL.of e6,rfl,_,rfl,D,_,rfl,.inl ⟨SqL.of (g6 _ _ eD),fun p7 h7=>?_⟩⟩
      generalize eH7:upd H6 p7 _=H7
      obtain⟨g7,e7⟩:=aP eH7 h7
      refine⟨small (by show 2<=1000; decide),fun p8 h8=>?_⟩
      refine q (.ref p8) (.any ts) _ (gH.trans (s5.trans (g6.trans (g7.trans (aB h8 _))))) (.any ao (aB h8 _ _ _ e7) (by lia) (by lia) (rt.mono (g6.trans (g7.trans (aB h8 _))))) ?_
      rw[Tm.dep]
      lia
abbrev jo:Stmt:=top 69
theorem uY:aO ["_law_term_here","_law_giving"] ["_law_term_here","_law_giving"] (aD jo):=⟨rfl,rfl,rfl,by decide+kernel,rfl,by decide+kernel,by decide+kernel⟩
theorem BX (g:List Int):∀ ts:List Tm,(ts.map (hF g)).all (fun b=>b)=o8 g ts
 | []=>by rw[o8]; rfl
 | t::r=>by rw[o8,← BX g r]; rfl
theorem Bh (g:List Int):∀ ts:List Tm,(ts.map (hF g)).any (fun b=>b)=o9 g ts
 | []=>by rw[o9]; rfl
 | t::r=>by rw[o9,← Bh g r]; rfl
theorem yS (f:Nat->Bool):∀ c:List Nat,(c.map fun i=>if f i=true then (1:Int) else 0).sum=((c.filter f).length:Int)
 | []=>rfl
 | i::c=>by
  have ih:=yS f c
  rw[RZ,Wc,ih,Vr]
  split
  ·rw[Qu]
   lia
  ·lia
theorem v8:cI P w K mg base CX0 0 f fd ["_law_term_here","_law_giving"] (dH K 0):=by
 have no:∀ vs H Q E,¬ dH K 0 vs H Q E:=fun vs H Q E h=>by
  obtain⟨v,g,n,t,ns,_,_,h1,_⟩:=h
  have:=t.lB
  lia
 exact⟨fun vs H Q E h=>absurd h (no vs H Q E),fun A outer s H args us vs Q E _ _ _ _ h=>absurd h (no vs H Q E)⟩
theorem eY {d:Nat} (F:Fun K "_law_holds" "_law_holds" jo f fd) (B:Bt mg)
  (D_law_holds:Df P w K mg base "_law_holds" d ["_law_term_here","_law_giving"] (dH K d)):cI P w K mg base CX0 (d+1) f fd ["_law_term_here","_law_giving"] (dH K (d+1)):=by
 refine F.ok uY (fun vs H Q E h=>?_) (fun cdv A outer s H vs Q E hr h=>?_)
 ·obtain⟨v,g,n,t,ns,rfl,_⟩:=h
  rfl
 ·obtain⟨v,g,n,t,ns,rfl,rt,hd,hg,hn,q⟩:=h
  refine⟨_,(aq (bA (aH cz (aQ (r:=cW K) aY (pv 0) au (fun _ _=>rfl)) bB (aL _)) (aA (aG (cu mL (aQ (r:=cW K) aY (pv 1) (aQ (r:=cW K) aY (pv 0) au (fun _ _=>rfl)) (fun _ _=>rfl)) (aQ (r:=cW K) aY (pv 0) au (fun _ _=>rfl)) (aL _)))) aN)
 (aq (bA (aH cz (aQ (r:=cW K) aY (pv 0) au (fun _ _=>rfl)) bB (aL _)) (aA (aG (cu mL (aF (r:=FN K) (nQ rfl) rfl B.sum_ Ec (aa (bK (L:=["_law_one"]) (F:=["_law_giving"]) (cap:=[1]) rfl (bD rfl rfl (by kernel_rfl)) (dj (aQ (r:=cW K) aY (pv 0) au (fun _ _=>rfl))) (fun _ _ _ _ _=>(aJ (i:=0) (bw (by decide+kernel)) rfl (Qw rfl))) (fun _ _ _ _ _=>bR) (fun _ _ _ _ _=>(aQ (r:=cW K) aY (pv 1) (pv 0) (fun _ _=>rfl)))) aj)) (aQ (r:=cW K) aY (pv 0) au (fun _ _=>rfl)) (aL _)))) aN)
 (aq (bA (aH cz (aQ (r:=cW K) aY (pv 0) au (fun _ _=>rfl)) bB (aL _)) (aA (aG (cu mL (aF (r:=FN K) (nQ rfl) rfl B.sum_ Ec (aa (bK (L:=["_law_one"]) (F:=["_law_giving","_law_term_here"]) (cap:=[1,0]) rfl (bD rfl rfl (by kernel_rfl)) (dj (aQ (r:=cW K) aY (pv 0) au (fun _ _=>rfl))) (fun _ _ _ _ _=>(aJ (i:=0) (bw (by decide+kernel)) rfl (Qw rfl))) (fun _ _ _ _ _=>bR) (fun _ _ _ _ _=>(bJ (r:=Mv) uy rfl B.int_ vm (aa (cu mL (aQ (r:=cW K) aY (pv 1) (pv 0) (fun _ _=>rfl)) (aQ (r:=cW K) aY (pv 2) au (fun _ _=>rfl)) (aL _)) aj)))) aj)) (aQ (r:=cW K) aY (pv 0) au (fun _ _=>rfl)) (aL _)))) aN)
 (aq (bA (aH cz (aQ (r:=cW K) aY (pv 0) au (fun _ _=>rfl)) bB (aL _)) (aA (aG (aF (r:=Ds K) (jY rfl) rfl B.all_ zg (aa (bK (L:=["_law_part"]) (F:=["_law_giving"]) (cap:=[1]) rfl (bD rfl rfl (by kernel_rfl)) (dj (aQ (r:=cW K) aY (pv 0) au (fun _ _=>rfl))) (fun _ _ _ _ _=>(aJ (i:=0) (bw (by decide+kernel)) rfl (Qw rfl))) (fun _ _ _ _ _=>bR) (fun _ _ _ _ _=>(bc D_law_holds hr (aa (pv 0) (aa (pv 1) aj))))) aj)))) aN)
 (aA (aG (Nu (cu cz (aQ (r:=cW K) aY (pv 0) au (fun _ _=>rfl)) bB (aL _)) (iB (dZ (cu cz (aQ (r:=cW K) aY (pv 0) au (fun _ _=>rfl)) bB (aL _)) (iB (aF (r:=Ng K) (Ci rfl) rfl B.any_ Le (aa (bK (L:=["_law_part"]) (F:=["_law_giving"]) (cap:=[1]) rfl (bD rfl rfl (by kernel_rfl)) (dj (aQ (r:=cW K) aY (pv 0) au (fun _ _=>rfl))) (fun _ _ _ _ _=>(aJ (i:=0) (bw (by decide+kernel)) rfl (Qw rfl))) (fun _ _ _ _ _=>bR) (fun _ _ _ _ _=>(bc D_law_holds hr (aa (pv 0) (aa (pv 1) aj))))) aj)))))))))))),?_⟩
  have parts:∀ (D:Addr),H D=none->∀ (b:Addr) (us:List V) (ts:List Tm) (Z:Hp->Prop) (te:TE),us.length<=6->H b=some (.tup us)->cO n H us ts->tdL ts<=d →
    (∀ (x:V) (t:Tm) (σ':St) (H2:Hp) (R:V->Hp->Prop),gZ n H2 x t->aU H H2->t.dep<=d->σ'=[some x,some (.ref g)]->(∀ H3,aU H2 H3->R (.bl (hF ns t)) H3)->te σ' H2 R) →
    (∀ H2:Hp,aU H H2->H2 D=some (.lst ((ts.map (hF ns)).map V.bl))->Z H2)->gU D [none,some (.ref g)] (Itt K b) (vM 0) Hn te H Z:=fun D hD b us ts Z te lu hb rl td hte hQ=>by
   have el:=rl.length
   refine cL (K:=K) (a:=b) (xs:=us) (fun i zs σ' H2=>(∃ u,σ'=[u,some (.ref g)])/\zs=((ts.take i).map (hF ns)).map V.bl/\aU H H2/\H2 D=some (.lst zs))
    ⟨⟨_,rfl⟩,rfl,aB hD _,ao⟩ (fun i zs σ' H2 _ h=>⟨d8 h.2.2.1 (SqT.of hb),h.2.2.2⟩) ?_ ?_
   ·rintro j zs x σ' H2 hx ⟨⟨u,rfl⟩,e1,sm,hDl⟩
    obtain⟨t,ht,rt⟩:=rl.get hx
    have hj:j < us.length:=(List.getElem?_eq_some_iff.mp hx).1
    refine gT ?_
    refine hte x t _ H2 _ (rt.mono sm) sm (QL (iR ht) td) rfl fun H3 s3=>⟨s3 _ _ hDl,?_,⟨_,rfl⟩,?_,aW (sm.trans s3) hD _,ao⟩
    ·rw[e1,Qc,Qc,Qv]
     exact aM (by lia)
    ·rw[e1,QR,ht,Qj,Qj]
     rfl
   ·rintro zs σ' H2 ⟨⟨u,rfl⟩,e1,sm,hDl⟩
    rw[el,Qq] at e1
    exact hQ H2 sm (by rw[hDl,e1])
  cases rt with
  | @free a ha =>
   refine⟨_,rfl,a,_,_,_,rfl,rfl,SqT.of ha,aC (k:=0) rfl,rfl,_,rfl,cg (aK (by decide)) ?_⟩
   refine⟨_,rfl,a,_,_,_,rfl,rfl,SqT.of ha,aC (k:=0) rfl,rfl,_,rfl,cg (aK (by decide)) ?_⟩
   refine⟨_,rfl,a,_,_,_,rfl,rfl,SqT.of ha,aC (k:=0) rfl,rfl,_,rfl,cg (aK (by decide)) ?_⟩
   refine⟨_,rfl,a,_,_,_,rfl,rfl,SqT.of ha,aC (k:=0) rfl,rfl,_,rfl,cg (aK (by decide)) ?_⟩
   refine⟨_,rfl,a,_,_,_,rfl,rfl,SqT.of ha,aC (k:=0) rfl,rfl,_,rfl,jW rfl ?_⟩
   have q':=q H (aU.refl H)
   rw[hF] at q'
   exact q'
  | @never a ha =>
   refine⟨_,rfl,a,_,_,_,rfl,rfl,SqT.of ha,aC (k:=0) rfl,rfl,_,rfl,cg (aK (by decide)) ?_⟩
   refine⟨_,rfl,a,_,_,_,rfl,rfl,SqT.of ha,aC (k:=0) rfl,rfl,_,rfl,cg (aK (by decide)) ?_⟩
   refine⟨_,rfl,a,_,_,_,rfl,rfl,SqT.of ha,aC (k:=0) rfl,rfl,_,rfl,cg (aK (by decide)) ?_⟩
   refine⟨_,rfl,a,_,_,_,rfl,rfl,SqT.of ha,aC (k:=0) rfl,rfl,_,rfl,cg (aK (by decide)) ?_⟩
   refine⟨_,rfl,a,_,_,_,rfl,rfl,SqT.of ha,aC (k:=0) rfl,rfl,_,rfl,cg (aK (by decide)) ?_⟩
   refine⟨_,rfl,a,_,_,_,rfl,rfl,SqT.of ha,aC (k:=0) rfl,rfl,_,rfl,cg (aK (by decide)) ?_⟩
   have q':=q H (aU.refl H)
   rw[hF] at q'
   exact q'
  | @gives a i k ha hi _ _ =>
   refine⟨_,rfl,a,_,_,_,rfl,rfl,SqT.of ha,aC (k:=0) rfl,rfl,_,rfl,jW rfl ?_⟩
   refine⟨_,rfl,_,rfl,a,_,_,_,rfl,rfl,SqT.of ha,aC (k:=1) rfl,g,_,_,_,rfl,rfl,hg,atD (by lia),_,rfl,a,_,_,_,rfl,rfl,SqT.of ha,aC (k:=2) rfl,_,_,rfl,rfl,?_⟩
   have q':=q H (aU.refl H)
   rw[hF] at q'
   exact q'
  | @sum a b c k ha hb hc _ hl _ _ _ =>
   refine⟨_,rfl,a,_,_,_,rfl,rfl,SqT.of ha,aC (k:=0) rfl,rfl,_,rfl,cg (aK (by decide)) ?_⟩
   refine⟨_,rfl,a,_,_,_,rfl,rfl,SqT.of ha,aC (k:=0) rfl,rfl,_,rfl,jW rfl ?_⟩
   refine⟨_,rfl,a,_,_,_,rfl,rfl,SqT.of ha,aC (k:=1) rfl,b,rfl,⟨_,SqT.of hb⟩,fun D hD=>cL (K:=K) (a:=b) (xs:=c.map vN) (fun i zs σ' H2=>(∃ u,σ'=[u,some (.ref g)])/\zs=((c.take i).map fun i=>ns.getD i 0).map V.int/\aU H H2/\H2 D=some (.lst zs))
    ⟨⟨_,rfl⟩,rfl,aB hD _,ao⟩ (fun i zs σ' H2 _ h=>⟨d8 h.2.2.1 (SqT.of hb),h.2.2.2⟩) ?_ ?_⟩
   ·rintro j zs x σ' H2 hx ⟨⟨u,rfl⟩,e1,sm,hDl⟩
    obtain⟨i,hi,rfl⟩:=qP hx
    have hin:i < n:=hc i (QC hi)
    refine gT ?_
    refine⟨_,rfl,_,rfl,g,_,_,_,rfl,rfl,d8 sm hg,atD (by lia),hDl,?_,⟨_,rfl⟩,?_,aW sm hD _,ao⟩
    ·rw[e1,Qc,Qc,Qv]
     exact aM (by lia)
    ·rw[e1,QR,hi,Qj,Qj]
     rfl
   ·rintro zs σ' H2 ⟨⟨u,rfl⟩,e1,sm,hDl⟩
    rw[Qc,Qq] at e1
    refine⟨D,_,rfl,SqL.of (by rw[hDl,e1]),_,rfl,a,_,_,_,rfl,rfl,SqT.of (sm _ _ ha),aC (k:=2) rfl,_,_,rfl,rfl,?_⟩
    have q':=q H2 sm
    rw[hF] at q'
    exact q'
  | @crowd a b c k m ha hb hc _ hl _ _ _ _ _ =>
   refine⟨_,rfl,a,_,_,_,rfl,rfl,SqT.of ha,aC (k:=0) rfl,rfl,_,rfl,cg (aK (by decide)) ?_⟩
   refine⟨_,rfl,a,_,_,_,rfl,rfl,SqT.of ha,aC (k:=0) rfl,rfl,_,rfl,cg (aK (by decide)) ?_⟩
   refine⟨_,rfl,a,_,_,_,rfl,rfl,SqT.of ha,aC (k:=0) rfl,rfl,_,rfl,jW rfl ?_⟩
   refine⟨_,rfl,a,_,_,_,rfl,rfl,SqT.of ha,aC (k:=1) rfl,b,rfl,⟨_,SqT.of hb⟩,fun D hD=>cL (K:=K) (a:=b) (xs:=c.map vN) (fun i zs σ' H2=>(∃ u,σ'=[u,some (.ref g),some (.ref a)])/\zs=((c.take i).map fun i=>if decide (k<=ns.getD i 0)=true then (1:Int) else 0).map V.int/\aU H H2/\H2 D=some (.lst zs))
    ⟨⟨_,rfl⟩,rfl,aB hD _,ao⟩ (fun i zs σ' H2 _ h=>⟨d8 h.2.2.1 (SqT.of hb),h.2.2.2⟩) ?_ ?_⟩
   ·rintro j zs x σ' H2 hx ⟨⟨u,rfl⟩,e1,sm,hDl⟩
    obtain⟨i,hi,rfl⟩:=qP hx
    have hin:i < n:=hc i (QC hi)
    refine gT ?_
    refine⟨_,rfl,_,rfl,g,_,_,_,rfl,rfl,d8 sm hg,atD (by lia),_,rfl,a,_,_,_,rfl,rfl,SqT.of (sm _ _ ha),aC (k:=2) rfl,_,_,rfl,rfl,.inr ⟨_,rfl,hDl,?_,⟨_,rfl⟩,?_,aW sm hD _,ao⟩⟩
    ·rw[e1,Qc,Qc,Qv]
     exact aM (by lia)
    ·rw[e1,QR,hi,Qj,Qj]
     rfl
   ·rintro zs σ' H2 ⟨⟨u,rfl⟩,e1,sm,hDl⟩
    rw[Qc,Qq] at e1
    refine⟨D,_,rfl,SqL.of (by rw[hDl,e1]),_,rfl,a,_,_,_,rfl,rfl,SqT.of (sm _ _ ha),aC (k:=3) rfl,_,_,rfl,rfl,?_⟩
    have q':=q H2 sm
    rw[hF] at q'
    rw[yS]
    exact q'
  | @all a b us ts ha hb _ lu rl =>
   refine⟨_,rfl,a,_,_,_,rfl,rfl,SqT.of ha,aC (k:=0) rfl,rfl,_,rfl,cg (aK (by decide)) ?_⟩
   refine⟨_,rfl,a,_,_,_,rfl,rfl,SqT.of ha,aC (k:=0) rfl,rfl,_,rfl,cg (aK (by decide)) ?_⟩
   refine⟨_,rfl,a,_,_,_,rfl,rfl,SqT.of ha,aC (k:=0) rfl,rfl,_,rfl,cg (aK (by decide)) ?_⟩
   refine⟨_,rfl,a,_,_,_,rfl,rfl,SqT.of ha,aC (k:=0) rfl,rfl,_,rfl,jW rfl ?_⟩
   refine⟨_,rfl,a,_,_,_,rfl,rfl,SqT.of ha,aC (k:=1) rfl,b,rfl,⟨_,SqT.of hb⟩,fun D hD=>parts D hD b us ts _ _ lu hb rl (by rw[Tm.dep] at hd; lia) (fun x t σ' H2 R rt sm dt eσ hR=>?_) fun H2 sm hDl=>?_⟩
   ·subst eσ
    exact⟨_,rfl,_,rfl,x,g,n,t,ns,rfl,rt,dt,d8 sm hg,hn,hR⟩
   ·refine⟨D,_,rfl,SqL.of hDl,?_⟩
    rw[BX]
    have q':=q H2 sm
    rw[hF] at q'
    exact q'
  | @any a b us ts ha hb _ lu rl =>
   refine⟨_,rfl,a,_,_,_,rfl,rfl,SqT.of ha,aC (k:=0) rfl,rfl,_,rfl,cg (aK (by decide)) ?_⟩
   refine⟨_,rfl,a,_,_,_,rfl,rfl,SqT.of ha,aC (k:=0) rfl,rfl,_,rfl,cg (aK (by decide)) ?_⟩
   refine⟨_,rfl,a,_,_,_,rfl,rfl,SqT.of ha,aC (k:=0) rfl,rfl,_,rfl,cg (aK (by decide)) ?_⟩
   refine⟨_,rfl,a,_,_,_,rfl,rfl,SqT.of ha,aC (k:=0) rfl,rfl,_,rfl,cg (aK (by decide)) ?_⟩
   refine⟨_,rfl,a,_,_,_,rfl,rfl,SqT.of ha,aC (k:=0) rfl,rfl,_,rfl,cg (aK (by decide)) ?_⟩
   refine⟨_,rfl,a,_,_,_,rfl,rfl,SqT.of ha,aC (k:=0) rfl,rfl,_,rfl,jW rfl ?_⟩
   refine⟨_,rfl,a,_,_,_,rfl,rfl,SqT.of ha,aC (k:=1) rfl,b,rfl,⟨_,SqT.of hb⟩,fun D hD=>parts D hD b us ts _ _ lu hb rl (by rw[Tm.dep] at hd; lia) (fun x t σ' H2 R rt sm dt eσ hR=>?_) fun H2 sm hDl=>?_⟩
   ·subst eσ
    exact⟨_,rfl,_,rfl,x,g,n,t,ns,rfl,rt,dt,d8 sm hg,hn,hR⟩
   ·refine⟨D,_,rfl,SqL.of hDl,?_⟩
    rw[Bh]
    have q':=q H2 sm
    rw[hF] at q'
    exact q'
theorem Jm {e:Expr} {es:List Expr} {env:XM} (h:∀ x p,e≠.Starred x p):QS (e::es) env=(false,S6 e env)::QS es env:=by
 rw[QS]
 intro x p z
 exact h x p z
theorem f9 {X:Cx} {e:Expr} {es:List Expr} {te:TE} {t:TA} (ha:PE X e te) (hr:PA X es t) (h:∀ x p,e≠.Starred x p:=by intro x p z; cases z):PA X (e::es) (Gd te t):=aa ha hr (Jm h)
theorem yt (ns:List Int) (lo hi:Option Int):∃ ks:List Int,wY (ns.map V.int) lo hi=ks.map V.int/\ks.length<=ns.length:=by
 unfold wY
 generalize HT.sIx _ _ lo=x
 generalize HT.sIx _ _ hi=y
 refine⟨(ns.drop x).take (y - x),by rw[List.map_take,List.map_drop],?_⟩
 rw[Qv,U3]
 lia
theorem rn:∀ (ns acc:List Int),acc.Nodup->(ns.foldl RP acc).Nodup
 | [],acc,h=>h
 | n::r,acc,h=>by
  rw[Ri]
  refine rn r _ ?_
  unfold RP
  split
  ·exact h
  ·rename_i z
   rw[V7]
   refine⟨h,by simp,fun a ha b hb e=>?_⟩
   rw[Uj] at hb
   subst hb
   subst e
   exact z (List.any_eq_true.mpr ⟨a,ha,beq_self_eq_true a⟩)
theorem Az:∀ (ns acc:List Int),(ns.foldl RP acc).length<=acc.length+ns.length
 | [],acc=>by simp
 | n::r,acc=>by
  rw[Ri]
  refine QL (Az r _) ?_
  unfold RP
  split
  ·rw[Qu]; lia
  ·simp only[Qx,Qu,List.length_nil]; lia
theorem vq (ns:List Int):ddI ns=ns.foldl RP []:=by
 unfold ddI PyProof.Rows.firstMet
 congr 1
 apply List.ext_getElem?
 intro i
 rw[QH]
 by_cases h:i < ns.length
 ·rw[T4 h,Qg h]
  simp [Qf,Qg h]
 ·have e1:(Rk ns.length)[i]? = none:=Ru (by rw[Ro]; lia)
  rw[e1,Ru (by lia)]
  rfl
theorem qg:∀ {a b:List Int},a.Perm b->a.Pairwise (·<=·)->b.Pairwise (·<=·)->a=b
 | [],b,p,_,_=>(List.Perm.nil_eq p)
 | x::a,[],p,_,_=>absurd p.length_eq (by simp)
 | x::a,y::b,p,ha,hb=>by
  rw[Sw] at ha hb
  have h1:x<=y:=by
   rcases List.mem_cons.mp (p.mem_iff.mpr Qi) with h | h
   ·lia
   ·exact ha.1 y h
  have h2:y<=x:=by
   rcases List.mem_cons.mp (p.mem_iff.mp Qi) with h | h
   ·lia
   ·exact hb.1 x h
  have e:x=y:=by lia
  subst e
  rw[qg (List.Perm.cons_inv p) ha.2 hb.2]
abbrev Pl:=List (Int × Tm)
inductive dB (n:Nat) (H:Hp):List V->Pl->Prop where
 | nil:dB n H [] []
 | cons {r:Addr} {k:Int} {v:V} {t:Tm} {vs:List V} {ps:Pl}:H r=some (.tup [.int k,v])->gZ n H v t->dB n H vs ps->dB n H (.ref r::vs) ((k,t)::ps)
theorem dB.bu {n:Nat} {H H':Hp} (e:∀ a xs,H a=some (HO.tup xs)->H' a=some (HO.tup xs)):∀ {vs:List V} {ps:Pl},dB n H vs ps->dB n H' vs ps
 | _,_,.nil=>.nil
 | _,_,.cons h t r=>.cons (e _ _ h) (t.bu e) (dB.bu e r)
theorem dB.length {n:Nat} {H:Hp}:∀ {vs:List V} {ps:Pl},dB n H vs ps->vs.length=ps.length
 | _,_,.nil=>rfl
 | _,_,.cons _ _ r=>by rw[Qu,Qu,dB.length r]
theorem dB.get {n:Nat} {H:Hp}:∀ {vs:List V} {ps:Pl} {i:Nat} {v:V},dB n H vs ps->vs[i]? = some v->∃ r k u t,v = .ref r/\H r=some (.tup [.int k,u])/\gZ n H u t/\ps[i]? = some (k,t)
 | _,_,_,_,.nil,h=>by simp at h
 | _,_,0,_,.cons h t _,e=>by
  cases (show some _=some _ from e)
  exact⟨_,_,_,_,rfl,h,t,rfl⟩
 | _,_,i+1,_,.cons _ _ r,e=>by
  obtain⟨a,k,u,t,h1,h2,h3,h4⟩:=dB.get (i:=i) r (by simpa using e)
  exact⟨a,k,u,t,h1,h2,h3,by simpa using h4⟩
theorem dB.snoc {n:Nat} {H:Hp} {r:Addr} {k:Int} {v:V} {t:Tm} (h:H r=some (.tup [.int k,v])) (ht:gZ n H v t):∀ {vs:List V} {ps:Pl},dB n H vs ps->dB n H (vs++[.ref r]) (ps++[(k,t)])
 | _,_,.nil=>.cons h ht .nil
 | _,_,.cons a b c=>.cons a b (dB.snoc h ht c)
def okP (p:Pl):Prop:=p≠[]/\p.length<=9/\(p.map (·.1)).Pairwise (· < ·)/\∀ x∈p,1<=x.1/\x.1<=9/\x.2.dep<=4
def pD (n:Nat) (H:Hp) (a:Addr) (p:Pl):Prop:=okP p/\∃ vs,H a=some (.tup vs)/\dB n H vs p
theorem pD.bu {n:Nat} {H H':Hp} {a:Addr} {p:Pl} (e:∀ a xs,H a=some (HO.tup xs)->H' a=some (HO.tup xs)) (h:pD n H a p):pD n H' a p:=by
 obtain⟨ok,vs,h1,h2⟩:=h
 exact⟨ok,vs,e _ _ h1,h2.bu e⟩
theorem pD.mono {n:Nat} {H H':Hp} {a:Addr} {p:Pl} (e:aU H H') (h:pD n H a p):pD n H' a p:=h.bu fun a xs q=>e a _ q
inductive dF (n:Nat) (H:Hp):List Addr->List Pl->Prop where
 | nil:dF n H [] []
 | cons {a:Addr} {p:Pl} {as:List Addr} {ps:List Pl}:pD n H a p->dF n H as ps->dF n H (a::as) (p::ps)
theorem dF.bu {n:Nat} {H H':Hp} (e:∀ a xs,H a=some (HO.tup xs)->H' a=some (HO.tup xs)):∀ {as:List Addr} {ps:List Pl},dF n H as ps->dF n H' as ps
 | _,_,.nil=>.nil
 | _,_,.cons h r=>.cons (h.bu e) (dF.bu e r)
theorem dF.length {n:Nat} {H:Hp}:∀ {as:List Addr} {ps:List Pl},dF n H as ps->as.length=ps.length
 | _,_,.nil=>rfl
 | _,_,.cons _ r=>by rw[Qu,Qu,dF.length r]
theorem dF.get {n:Nat} {H:Hp}:∀ {as:List Addr} {ps:List Pl} {i:Nat} {a:Addr},dF n H as ps->as[i]? = some a->∃ p,ps[i]? = some p/\pD n H a p
 | _,_,_,_,.nil,h=>by simp at h
 | _,_,0,_,.cons h _,e=>by
  cases (show some _=some _ from e)
  exact⟨_,rfl,h⟩
 | _,_,i+1,_,.cons _ r,e=>by
  obtain⟨p,h1,h2⟩:=dF.get (i:=i) r (by simpa using e)
  exact⟨p,by simpa using h1,h2⟩
theorem dF.snoc {n:Nat} {H:Hp} {a:Addr} {p:Pl} (h:pD n H a p):∀ {as:List Addr} {ps:List Pl},dF n H as ps->dF n H (as++[a]) (ps++[p])
 | _,_,.nil=>.cons h .nil
 | _,_,.cons x r=>.cons x (dF.snoc h r)
inductive bO (n:Nat) (H:Hp):List V->List (List Pl)->Prop where
 | nil:bO n H [] []
 | cons {c:Addr} {as:List Addr} {ps:List Pl} {us:List V} {bs:List (List Pl)}:H c=some (.lst (as.map V.ref))->as.length<=100->dF n H as ps->bO n H us bs->bO n H (.ref c::us) (ps::bs)
theorem bO.mono {n:Nat} {H H':Hp} (e:aU H H'):∀ {us:List V} {bs:List (List Pl)},bO n H us bs->bO n H' us bs
 | _,_,.nil=>.nil
 | _,_,.cons h l p r=>.cons (e _ _ h) l (p.bu fun a xs q=>e a _ q) (bO.mono e r)
theorem bO.length {n:Nat} {H:Hp}:∀ {us:List V} {bs:List (List Pl)},bO n H us bs->us.length=bs.length
 | _,_,.nil=>rfl
 | _,_,.cons _ _ _ r=>by rw[Qu,Qu,bO.length r]
theorem bO.get {n:Nat} {H:Hp}:∀ {us:List V} {bs:List (List Pl)} {i:Nat} {u:V},bO n H us bs->us[i]? = some u->∃ c as ps,u = .ref c/\bs[i]? = some ps/\H c=some (.lst (as.map V.ref))/\as.length<=100/\dF n H as ps
 | _,_,_,_,.nil,h=>by simp at h
 | _,_,0,_,.cons h l p _,e=>by
  cases (show some _=some _ from e)
  exact⟨_,_,_,rfl,rfl,h,l,p⟩
 | _,_,i+1,_,.cons _ _ _ r,e=>by
  obtain⟨c,as,ps,h1,h2,h3⟩:=bO.get (i:=i) r (by simpa using e)
  exact⟨c,as,ps,h1,by simpa using h2,h3⟩
theorem bO.snoc {n:Nat} {H:Hp} {c:Addr} {as:List Addr} {ps:List Pl} (h:H c=some (.lst (as.map V.ref))) (hl:as.length<=100) (hp:dF n H as ps):∀ {us:List V} {bs:List (List Pl)},bO n H us bs->bO n H (us++[.ref c]) (bs++[ps])
 | _,_,.nil=>.cons h hl hp .nil
 | _,_,.cons x y z r=>.cons x y z (bO.snoc h hl hp r)
def ym (n:Nat) (H:Hp) (b:Addr) (bk:List (List Pl)):Prop:=∃ us,H b=some (.lst us)/\bO n H us bk/\bk.length<=12
theorem ym.mono {n:Nat} {H H':Hp} {b:Addr} {bk:List (List Pl)} (e:aU H H') (h:ym n H b bk):ym n H' b bk:=by
 obtain⟨us,h1,h2,h3⟩:=h
 exact⟨us,e _ _ h1,h2.mono e,h3⟩
def owS (g:List Int) (f:Int) (x:Int × Tm):Int:=if hF g x.2=true then x.1 else f
def owF (g:List Int) (p:Pl):Int:=p.foldl (owS g) 0
theorem yZ {g:List Int} {p:Pl} {i:Nat} {x:Int × Tm} (h:p[i]? = some x):owF g (p.take (i+1))=if hF g x.2=true then x.1 else owF g (p.take i):=by
 unfold owF
 rw[QR,h]
 show ((p.take i)++[x]).foldl (owS g) 0=_
 rw[V8]
 rfl
def lsF (p:Pl):Int:=mxD 0 (p.map (·.1))
theorem mz:∀ (l:List Int) (a x:Int),(∀ y∈l,y<=x)->a<=x->(l++[x]).foldl max a=x
 | [],a,x,_,h=>by show max a x=x; lia
 | y::l,a,x,hl,h=>by
  rw[X3,Ri]
  exact mz l (max a y) x (fun z hz=>hl z (Qm _ hz)) (by have:=hl y Qi; lia)
theorem vW {l:List Int} {x:Int} (h:(l++[x]).Pairwise (· < ·)):∀ y∈l,y<=x:=fun y hy=>by
 rw[WY] at h
 have:=h.2.2 y hy x Qi
 lia
theorem Gb {q:Pl} {x:Int × Tm} (h:((q++[x]).map (·.1)).Pairwise (· < ·)):lsF (q++[x])=x.1:=by
 rw[Qj] at h
 have hl:=vW (l:=q.map (·.1)) (x:=x.1) h
 unfold lsF
 rw[Qj]
 cases q with
 | nil=>rfl
 | cons y q =>
  show ((q.map (·.1))++[x.1]).foldl max y.1=x.1
  exact mz _ _ _ (fun z hz=>hl z (Qm _ hz)) (hl y.1 Qi)
theorem jR:∀ (l:List Int) (a b:Int),l.foldl max (max a b)=max a (l.foldl max b)
 | [],a,b=>rfl
 | y::l,a,b=>by
  rw[Ri,Ri,show max (max a b) y=max a (max b y) by lia]
  exact jR l a (max b y)
def duF (g:List Int) (f:Int) (ps:List Pl):Int:=(ps.map (owF g)).foldl max f
theorem yo (g:List Int) {f:Int} (hf:0<=f) (ps:List Pl):duF g f ps=max f (duF g 0 ps):=by
 unfold duF
 rw[← jR,show max f 0=f by lia]
def dz (g:List Int) (fl:List Int) (bk:List (List Pl)):List Int:=Ui (duF g) fl bk
def rfS (f:Int) (ps:List Pl):Int:=(ps.map lsF).foldl max f
def rfF (fl:List Int) (bk:List (List Pl)):List Int:=Ui rfS fl bk
theorem rP {α β γ:Type} (f:α->β->γ) {xs:List α} {ys:List β} {i:Nat} {x:α} {y:β} (h1:xs[i]? = some x) (h2:ys[i]? = some y):Ui f (xs.take (i+1)) (ys.take (i+1))=Ui f (xs.take i) (ys.take i)++[f x y]:=by
 have l1:i < xs.length:=(List.getElem?_eq_some_iff.mp h1).1
 have l2:i < ys.length:=(List.getElem?_eq_some_iff.mp h2).1
 rw[QR,QR,h1,h2]
 show Ui f (xs.take i++[x]) (ys.take i++[y])=_
 rw[List.zipWith_append (by rw[Qv,Qv]; lia)]
 rfl
theorem xV {as:List Addr} {i:Nat} {x:V} (h:(as.map V.ref)[i]? = some x):∃ a,as[i]? = some a/\x = .ref a:=by
 rw[QH] at h
 cases e:as[i]? with
 | none=>rw[e] at h; cases h
 | some a=>rw[e] at h; exact⟨a,rfl,(QZ h).symm⟩
theorem take_snoc {α β:Type} (f:α->β) {xs:List α} {i:Nat} {x:α} (h:xs[i]? = some x):(xs.take (i+1)).map f=(xs.take i).map f++[f x]:=(qH f h).symm
abbrev DP:Stmt:=top 32
theorem xG:aO ["pledge","giving","step","term"] ["pledge","giving"] (aD DP):=⟨rfl,rfl,rfl,by decide+kernel,rfl,by decide+kernel,by decide+kernel⟩
inductive Cm (K:QF) (vs:List V) (H:Hp) (Q:VK):Prop where
 | mk (a g:Addr) (n:Nat) (p:Pl) (ns:List Int) (z0:vs=[.ref a,.ref g]) (z1:pD n H a p) (z2:SqT K H g (ns.map V.int)) (z3:n<=ns.length) (z4:∀ H',aU H H'->Q (.int (owF ns p)) H'):Cm K vs H Q
def uI (K:QF):Sp:=fun vs H Q _=>Cm K vs H Q
theorem JW {k:Nat} (F:Fun K "owes" "owes" DP f fd) (B:Bt mg)
  (D_holds:Df P w K mg base "holds" k ["term","giving"] (dH K 4)):cI P w K mg base CX0 (k+1) f fd ["pledge","giving"] (uI K):=by
 refine F.ok xG (fun vs H Q E h=>?_) (fun cdv A outer s H vs Q E hr h=>?_)
 ·obtain⟨a,g,n,p,ns,rfl,_⟩:=h
  rfl
 ·obtain⟨a,g,n,p,ns,rfl,⟨ok,vs,ha,rp⟩,hg,hn,q⟩:=h
  refine⟨_,(aq (cY QX rfl (Ml rfl B.reversed_ (aa (pv 0) aj)) (fL (K:=K) 2 rfl rfl (bH (aJ (i:=2) xG.nd rfl (Qw rfl)) (bH (aJ (i:=3) xG.nd rfl (Qw rfl)) fO))) (aA (bA (cZ (bc D_holds hr (aa (pv 3) (aa (pv 1) aj)))) (aA (aG (pv 2))) aN)))
 (aA (aG au))),?_⟩
  have el:=rp.length
  refine⟨_,rfl,a,vs,rfl,SqT.of ha,JG (K:=K) (a:=a) (xs:=vs) (fun i σ H2=>(∃ u v,σ=[some (.ref a),some (.ref g),u,v])/\aU H H2/\owF ns p=owF ns (p.take (p.length - i)))
   ⟨⟨_,_,rfl⟩,aU.refl H,by rw[Nat.sub_zero,Qq]⟩ (fun i σ H2 _ h=>SqT.of (h.2.1 _ _ ha)) ?_ ?_⟩
  ·rintro i x σ H2 hi hx ⟨⟨u,v,rfl⟩,sm,ow⟩
   obtain⟨r,k0,y,t,rfl,hr0,rt,hp⟩:=rp.get hx
   have hm:=QC hp
   have e1:p.length - i=vs.length - 1 - i+1:=by lia
   have e2:p.length - (i+1)=vs.length - 1 - i:=by lia
   rw[e1,yZ hp] at ow
   refine⟨r,_,rfl,SqT.of (sm _ _ hr0),rfl,_,_,rfl,_,_,rfl,rfl,?_⟩
   refine⟨_,rfl,_,rfl,y,g,n,t,ns,rfl,rt.mono sm,(ok.2.2.2 _ hm).2.2,d8 sm hg,hn,fun H3 s3=>⟨_,rfl,?_⟩⟩
   cases e:hF ns t with
   | true =>
    refine gm ⟨_,rfl,?_⟩
    rw[if_pos e] at ow
    have q':=q H3 (sm.trans s3)
    rw[ow] at q'
    exact q'
   | false =>
    refine cV ⟨⟨_,_,rfl⟩,sm.trans s3,?_⟩
    rw[if_neg (by rw[e]; exact Qk)] at ow
    rw[e2]
    exact ow
  ·rintro σ H2 ⟨⟨u,v,rfl⟩,sm,ow⟩
   rw[el,Nat.sub_self,Rp] at ow
   have q':=q H2 sm
   rw[ow] at q'
   exact q'
abbrev jD:Stmt:=top 33
theorem t7:aO ["pledge"] ["pledge"] (aD jD):=⟨rfl,rfl,rfl,by decide+kernel,rfl,by decide+kernel,by decide+kernel⟩
inductive Ba (vs:List V) (H:Hp) (Q:VK):Prop where
 | mk (a:Addr) (n:Nat) (p:Pl) (z0:vs=[.ref a]) (z1:pD n H a p) (z2:∀ H',aU H H'->Q (.int (lsF p)) H'):Ba  vs H Q
def Iv:Sp:=fun vs H Q _=>Ba  vs H Q
theorem t6 (F:Fun K "last_step" "last_step" jD f fd) (B:Bt mg) :
  cI P w K mg base CX0 1 f fd ["pledge"] Iv:=by
 refine F.ok t7 (fun vs H Q E h=>?_) (fun cdv A outer s H vs Q E hr h=>?_)
 ·obtain⟨a,n,p,rfl,_⟩:=h
  rfl
 ·obtain⟨a,n,p,rfl,⟨ok,vs,ha,rp⟩,q⟩:=h
  refine⟨_,(aA (aG (Bf rfl rfl B.max_ (aa (bK (L:=["step","term"]) (F:=[]) (cap:=[]) rfl (bD rfl rfl (by kernel_rfl)) (dj (pv 0)) (fun _ _ _ _ _=>(fL (K:=K) 2 rfl rfl (bH (aJ (i:=0) (bw (by decide+kernel)) rfl (Qw rfl)) (bH (aJ (i:=1) (bw (by decide+kernel)) rfl (Qw rfl)) fO)))) (fun _ _ _ _ _=>bR) (fun _ _ _ _ _=>(pv 0))) aj)))),?_⟩
  have el:=rp.length
  have l9:=ok.2.1
  refine⟨_,rfl,a,rfl,⟨_,SqT.of ha⟩,fun D hD=>cL (K:=K) (a:=a) (xs:=vs) (fun i zs σ' H2=>(∃ u v,σ'=[u,v])/\zs=((p.take i).map (·.1)).map V.int/\aU H H2/\H2 D=some (.lst zs))
   ⟨⟨_,_,rfl⟩,rfl,aB hD _,ao⟩ (fun i zs σ' H2 _ h=>⟨SqT.of (h.2.2.1 _ _ ha),h.2.2.2⟩) ?_ ?_⟩
  ·rintro j zs x σ' H2 hx ⟨⟨u,v,rfl⟩,e1,sm,hDl⟩
   obtain⟨r,k0,y,t,rfl,hr0,rt,hp⟩:=rp.get hx
   refine⟨r,_,rfl,SqT.of (sm _ _ hr0),rfl,_,_,rfl,_,_,rfl,rfl,?_⟩
   refine tT ?_
   refine⟨_,rfl,hDl,?_,⟨_,_,rfl⟩,?_,aW sm hD _,ao⟩
   ·rw[e1,Qc,Qc,Qv]
    exact aM (by lia)
   ·rw[e1,take_snoc (·.1) hp,Qj]
    rfl
  ·rintro zs σ' H2 ⟨_,e1,sm,hDl⟩
   rw[el,Qq] at e1
   refine⟨D,p.map (·.1),rfl,SqL.of (by rw[hDl,e1]),?_⟩
   exact q H2 sm
abbrev gB:Stmt:=top 43
theorem ph:aO ["book","floor","giving"] ["book","floor","giving"] (aD gB):=⟨rfl,rfl,rfl,by decide+kernel,rfl,by decide+kernel,by decide+kernel⟩
inductive HN (K:QF) (vs:List V) (H:Hp) (Q:VK):Prop where
 | mk (b f g:Addr) (n:Nat) (bk:List (List Pl)) (fl ns:List Int) (z0:vs=[.ref b,.ref f,.ref g]) (z1:ym n H b bk) (z2:SqT K H f (fl.map V.int)) (z3:SqT K H g (ns.map V.int)) (z4:fl.length=bk.length) (z5:n<=ns.length) (z6:(∀ x∈fl,0<=x)) (z7:∀ (r:Addr) (H':Hp),aU H H'->H' r=some (.tup ((dz ns fl bk).map V.int))->Q (.ref r) H'):HN K vs H Q
def K6 (K:QF):Sp:=fun vs H Q _=>HN K vs H Q
theorem pA {k:Nat} (F:Fun K "what_is_due" "what_is_due" gB f fd) (B:Bt mg)
  (D_owes:Df P w K mg base "owes" k ["pledge","giving"] (uI K)):cI P w K mg base CX0 (k+1) f fd ["book","floor","giving"] (K6 K):=by
 refine F.ok ph (fun vs H Q E h=>?_) (fun cdv A outer s H vs Q E hr h=>?_)
 ·obtain⟨b,f,g,n,bk,fl,ns,rfl,_⟩:=h
  rfl
 ·obtain⟨b,f,g,n,bk,fl,ns,rfl,⟨us,hb,rb,l12⟩,hf,hg,hl,hn,h0,q⟩:=h
  refine⟨_,(aA (aG (bJ (r:=fD K) bL rfl B.tuple_ bQ (aa (bK (L:=["step","pledges"]) (F:=["giving"]) (cap:=[2]) rfl (bD rfl rfl (by kernel_rfl)) (Iu rfl B.zip_ (aa (pv 1) (aa (pv 0) aj))) (fun _ _ _ _ _=>(fL (K:=K) 2 rfl rfl (bH (aJ (i:=0) (bw (by decide+kernel)) rfl (Qw rfl)) (bH (aJ (i:=1) (bw (by decide+kernel)) rfl (Qw rfl)) fO)))) (fun _ _ _ _ _=>bR) (fun _ _ _ _ _=>(aF (r:=BL K) (j4 rfl) rfl B.max_ ql (aa (aV vy (bZ (aa (pv 0) aj)) (bK (L:=["pledge"]) (F:=["giving"]) (cap:=[2]) rfl (bD rfl rfl (by kernel_rfl)) (sH K rfl (pv 1)) (fun _ _ _ _ _=>(aJ (i:=0) (bw (by decide+kernel)) rfl (Qw rfl))) (fun _ _ _ _ _=>bR) (fun _ _ _ _ _=>(bc D_owes hr (aa (pv 0) (aa (pv 1) aj)))))) aj)))) aj)))),?_⟩
  have el:=rb.length
  refine⟨_,rfl,_,rfl,f,b,_,_,rfl,hf,SqL.of hb,fun D hD=>yW (K:=K) (a:=f) (b:=b) (xs:=fl.map V.int) (ys:=us) (by rw[Qc]; lia)
   (fun i zs σ H2=>(∃ u v,σ=[u,v,some (.ref g)])/\zs=(Ui (duF ns) (fl.take i) (bk.take i)).map V.int/\aU H H2/\H2 D=some (.lst zs)) ⟨⟨_,_,rfl⟩,rfl,aB hD _,ao⟩ (fun i zs σ H2 _ h=>⟨d8 h.2.2.1 hf,SqL.of (h.2.2.1 _ _ hb),h.2.2.2⟩) ?_ ?_⟩
  ·rintro i zs x y p σ H2 hx hy hp ⟨⟨u,v,rfl⟩,e1,sm,hDl⟩
   obtain⟨m,hm,rfl⟩:=int_at hx
   obtain⟨c,as,ps,rfl,hps,hc,l100,rps⟩:=rb.get hy
   have ell:=rps.length
   generalize eH3:upd H2 p _=H3
   obtain⟨g3,e3⟩:=aP eH3 hp
   refine⟨p,_,rfl,SqT.of e3,rfl,_,_,rfl,_,_,rfl,rfl,?_⟩
   refine tT ?_
   refine⟨_,rfl,small (by show 1<=1000; decide),fun p4 h4=>?_⟩
   generalize eH4:upd H3 p4 _=H4
   obtain⟨g4,e4⟩:=aP eH4 h4
   have s4:aU H H4:=sm.trans (g3.trans g4)
   refine⟨_,rfl,c,rfl,⟨_,SqL.of (s4 _ _ hc)⟩,fun D2 hD2=>eN (K:=K) (a:=c) (xs:=as.map V.ref) (fun j ws σ' H5=>(∃ u,σ'=[u,some (.ref g)])/\ws=((ps.take j).map (owF ns)).map V.int/\aU H4 H5/\H5 D2=some (.lst ws))
    ⟨⟨_,rfl⟩,rfl,aB hD2 _,ao⟩ (fun j ws σ' H5 _ h=>⟨SqL.of (h.2.2.1 _ _ (s4 _ _ hc)),h.2.2.2⟩) ?_ ?_⟩
   ·rintro j ws x σ' H5 hx ⟨⟨u,rfl⟩,e5,s5,hD5⟩
    obtain⟨a,ha,rfl⟩:=xV hx
    obtain⟨pl,hpl,rpl⟩:=rps.get ha
    refine gT ?_
    refine⟨_,rfl,_,rfl,a,g,n,pl,ns,rfl,rpl.mono (s4.trans s5),d8 (s4.trans s5) hg,hn,fun H6 s6=>?_⟩
    refine⟨s6 _ _ hD5,?_,⟨_,rfl⟩,?_,aW (s5.trans s6) hD2 _,ao⟩
    ·rw[e5,Qc,Qc,Qv]
     exact aM (by lia)
    ·rw[e5,take_snoc (owF ns) hpl,Qj]
     rfl
   ·rintro ws σ' H5 ⟨_,e5,s5,hD5⟩
    rw[Qc,ell,Qq] at e5
    subst e5
    refine⟨p4,D2,_,_,rfl,rfl,s5 _ _ e4,hD5,small ?_,fun p6 h6=>?_⟩
    ·rw[Qc,Qc]
     show 1+ps.length<=1000
     lia
    generalize eH6:upd H5 p6 _=H6
    obtain⟨g6,e6⟩:=aP eH6 h6
    have sall:aU H2 H6:=g3.trans (g4.trans (s5.trans g6))
    refine⟨p6,m::ps.map (owF ns),rfl,SqL.of e6,by simp,sall _ _ hDl,?_,⟨_,_,rfl⟩,?_,aW (sm.trans sall) hD _,ao⟩
    ·rw[e1,Qc,U6,Qv]
     exact aM (by lia)
    ·rw[e1,rP (duF ns) hm hps,Qj]
     rfl
  ·rintro zs σ H2 ⟨_,e1,sm,hDl⟩
   refine⟨D,_,rfl,.inl ⟨SqL.of hDl,fun l hl'=>?_⟩⟩
   refine q l _ (sm.trans (aB hl' _)) ?_
   rw[ao,e1,Qc,Qq,hl,Qq]
   rfl
theorem vV {g fl:List Int} {bk:List (List Pl)} (h:fl.length=bk.length):(dz g fl bk).length=bk.length:=by
 unfold dz
 rw[U6]
 lia
abbrev DR:Stmt:=top 44
theorem J8:aO ["book","floor"] ["book","floor"] (aD DR):=⟨rfl,rfl,rfl,by decide+kernel,rfl,by decide+kernel,by decide+kernel⟩
inductive Bb (K:QF) (vs:List V) (H:Hp) (Q:VK):Prop where
 | mk (b f:Addr) (n:Nat) (bk:List (List Pl)) (fl:List Int) (z0:vs=[.ref b,.ref f]) (z1:ym n H b bk) (z2:SqT K H f (fl.map V.int)) (z3:fl.length=bk.length) (z4:∀ (r:Addr) (H':Hp),aU H H'->H' r=some (.tup ((rfF fl bk).map V.int))->Q (.ref r) H'):Bb K vs H Q
def yd (K:QF):Sp:=fun vs H Q _=>Bb K vs H Q
theorem J4 (F:Fun K "roof" "roof" DR f fd) (B:Bt mg)
  (D_last_step:Df P w K mg base "last_step" 1 ["pledge"] Iv):cI P w K mg base CX0 2 f fd ["book","floor"] (yd K):=by
 refine F.ok J8 (fun vs H Q E h=>?_) (fun cdv A outer s H vs Q E hr h=>?_)
 ·obtain⟨b,f,n,bk,fl,rfl,_⟩:=h
  rfl
 ·obtain⟨b,f,n,bk,fl,rfl,⟨us,hb,rb,l12⟩,hf,hl,q⟩:=h
  refine⟨_,(aA (aG (bJ (r:=fD K) bL rfl B.tuple_ bQ (aa (bK (L:=["step","pledges"]) (F:=[]) (cap:=[]) rfl (bD rfl rfl (by kernel_rfl)) (Iu rfl B.zip_ (aa (pv 1) (aa (pv 0) aj))) (fun _ _ _ _ _=>(fL (K:=K) 2 rfl rfl (bH (aJ (i:=0) (bw (by decide+kernel)) rfl (Qw rfl)) (bH (aJ (i:=1) (bw (by decide+kernel)) rfl (Qw rfl)) fO)))) (fun _ _ _ _ _=>bR) (fun _ _ _ _ _=>(aF (r:=BL K) (j4 rfl) rfl B.max_ ql (aa (aV vy (bZ (aa (pv 0) aj)) (bK (L:=["pledge"]) (F:=[]) (cap:=[]) rfl (bD rfl rfl (by kernel_rfl)) (sH K rfl (pv 1)) (fun _ _ _ _ _=>(aJ (i:=0) (bw (by decide+kernel)) rfl (Qw rfl))) (fun _ _ _ _ _=>bR) (fun _ _ _ _ _=>(bc D_last_step hr (aa (pv 0) aj))))) aj)))) aj)))),?_⟩
  have el:=rb.length
  refine⟨_,rfl,_,rfl,f,b,_,_,rfl,hf,SqL.of hb,fun D hD=>yW (K:=K) (a:=f) (b:=b) (xs:=fl.map V.int) (ys:=us) (by rw[Qc]; lia)
   (fun i zs σ H2=>(∃ u v,σ=[u,v])/\zs=(Ui rfS (fl.take i) (bk.take i)).map V.int/\aU H H2/\H2 D=some (.lst zs)) ⟨⟨_,_,rfl⟩,rfl,aB hD _,ao⟩ (fun i zs σ H2 _ h=>⟨d8 h.2.2.1 hf,SqL.of (h.2.2.1 _ _ hb),h.2.2.2⟩) ?_ ?_⟩
  ·rintro i zs x y p σ H2 hx hy hp ⟨⟨u,v,rfl⟩,e1,sm,hDl⟩
   obtain⟨m,hm,rfl⟩:=int_at hx
   obtain⟨c,as,ps,rfl,hps,hc,l100,rps⟩:=rb.get hy
   have ell:=rps.length
   generalize eH3:upd H2 p _=H3
   obtain⟨g3,e3⟩:=aP eH3 hp
   refine⟨p,_,rfl,SqT.of e3,rfl,_,_,rfl,_,_,rfl,rfl,?_⟩
   refine tT ?_
   refine⟨_,rfl,small (by show 1<=1000; decide),fun p4 h4=>?_⟩
   generalize eH4:upd H3 p4 _=H4
   obtain⟨g4,e4⟩:=aP eH4 h4
   have s4:aU H H4:=sm.trans (g3.trans g4)
   refine⟨_,rfl,c,rfl,⟨_,SqL.of (s4 _ _ hc)⟩,fun D2 hD2=>eN (K:=K) (a:=c) (xs:=as.map V.ref) (fun j ws σ' H5=>(∃ u,σ'=[u])/\ws=((ps.take j).map lsF).map V.int/\aU H4 H5/\H5 D2=some (.lst ws))
    ⟨⟨_,rfl⟩,rfl,aB hD2 _,ao⟩ (fun j ws σ' H5 _ h=>⟨SqL.of (h.2.2.1 _ _ (s4 _ _ hc)),h.2.2.2⟩) ?_ ?_⟩
   ·rintro j ws x σ' H5 hx ⟨⟨u,rfl⟩,e5,s5,hD5⟩
    obtain⟨a,ha,rfl⟩:=xV hx
    obtain⟨pl,hpl,rpl⟩:=rps.get ha
    refine gT ?_
    refine⟨_,rfl,a,n,pl,rfl,rpl.mono (s4.trans s5),fun H6 s6=>?_⟩
    refine⟨s6 _ _ hD5,?_,⟨_,rfl⟩,?_,aW (s5.trans s6) hD2 _,ao⟩
    ·rw[e5,Qc,Qc,Qv]
     exact aM (by lia)
    ·rw[e5,take_snoc lsF hpl,Qj]
     rfl
   ·rintro ws σ' H5 ⟨_,e5,s5,hD5⟩
    rw[Qc,ell,Qq] at e5
    subst e5
    refine⟨p4,D2,_,_,rfl,rfl,s5 _ _ e4,hD5,small ?_,fun p6 h6=>?_⟩
    ·rw[Qc,Qc]
     show 1+ps.length<=1000
     lia
    generalize eH6:upd H5 p6 _=H6
    obtain⟨g6,e6⟩:=aP eH6 h6
    have sall:aU H2 H6:=g3.trans (g4.trans (s5.trans g6))
    refine⟨p6,m::ps.map lsF,rfl,SqL.of e6,by simp,sall _ _ hDl,?_,⟨_,_,rfl⟩,?_,aW (sm.trans sall) hD _,ao⟩
    ·rw[e1,Qc,U6,Qv]
     exact aM (by lia)
    ·rw[e1,rP rfS hm hps,Qj]
     rfl
  ·rintro zs σ H2 ⟨_,e1,sm,hDl⟩
   refine⟨D,_,rfl,.inl ⟨SqL.of hDl,fun l hl'=>?_⟩⟩
   refine q l _ (sm.trans (aB hl' _)) ?_
   rw[ao,e1,Qc,Qq,hl,Qq]
   rfl
abbrev kJ:Stmt:=top 70
theorem eF:aO ["_law_pledge_here","_law_giving","_law_found","_law_step","_law_term_here"] ["_law_pledge_here","_law_giving"] (aD kJ):=⟨rfl,rfl,rfl,by decide+kernel,rfl,by decide+kernel,by decide+kernel⟩
theorem wN {k:Nat} (F:Fun K "_law_owes" "_law_owes" kJ f fd) (B:Bt mg)
  (D_law_holds:Df P w K mg base "_law_holds" k ["_law_term_here","_law_giving"] (dH K 4)):cI P w K mg base CX0 (k+1) f fd ["_law_pledge_here","_law_giving"] (uI K):=by
 refine F.ok eF (fun vs H Q E h=>?_) (fun cdv A outer s H vs Q E hr h=>?_)
 ·obtain⟨a,g,n,p,ns,rfl,_⟩:=h
  rfl
 ·obtain⟨a,g,n,p,ns,rfl,⟨ok,vs,ha,rp⟩,hg,hn,q⟩:=h
  refine⟨_,(aq (bf (i:=2) eF.nd rfl (Qw rfl) au)
 (aq (cY QX rfl (dj (pv 0)) (fL (K:=K) 2 rfl rfl (bH (aJ (i:=3) eF.nd rfl (Qw rfl)) (bH (aJ (i:=4) eF.nd rfl (Qw rfl)) fO))) (aA (bA (cZ (bc D_law_holds hr (aa (pv 4) (aa (pv 1) aj)))) (aA (bf (i:=2) eF.nd rfl (Qw rfl) (pv 3))) aN)))
 (aA (aG (pv 2))))),?_⟩
  have el:=rp.length
  refine⟨_,rfl,a,rfl,⟨_,SqT.of ha⟩,oR (K:=K) (a:=a) (xs:=vs) (fun i σ H2=>(∃ u v,σ=[some (.ref a),some (.ref g),some (.int (owF ns (p.take i))),u,v])/\aU H H2)
   ⟨⟨_,_,rfl⟩,aU.refl H⟩ (fun i σ H2 _ h=>SqT.of (h.2 _ _ ha)) ?_ ?_⟩
  ·rintro i x σ H2 hx ⟨⟨u,v,rfl⟩,sm⟩
   obtain⟨r,k0,y,t,rfl,hr0,rt,hp⟩:=rp.get hx
   have hm:=QC hp
   have ow:=yZ (g:=ns) hp
   refine⟨r,_,rfl,SqT.of (sm _ _ hr0),rfl,_,_,rfl,_,_,rfl,rfl,?_⟩
   refine⟨_,rfl,_,rfl,y,g,n,t,ns,rfl,rt.mono sm,(ok.2.2.2 _ hm).2.2,d8 sm hg,hn,fun H3 s3=>⟨_,rfl,?_⟩⟩
   cases e:hF ns t with
   | true =>
    rw[if_pos e] at ow
    refine gm ⟨_,rfl,⟨some (.int k0),some y,?_⟩,sm.trans s3⟩
    rw[ow]
    rfl
   | false =>
    rw[if_neg (by rw[e]; exact Qk)] at ow
    refine cV ⟨⟨some (.int k0),some y,?_⟩,sm.trans s3⟩
    rw[ow]
    rfl
  ·rintro σ H2 ⟨⟨u,v,rfl⟩,sm⟩
   have q':=q H2 sm
   refine⟨_,rfl,?_⟩
   rw[el,Qq]
   exact q'
abbrev kE:Stmt:=top 71
theorem vP:aO ["_law_some","_law_giving"] ["_law_some","_law_giving"] (aD kE):=⟨rfl,rfl,rfl,by decide+kernel,rfl,by decide+kernel,by decide+kernel⟩
inductive DG (K:QF) (vs:List V) (H:Hp) (Q:VK):Prop where
 | mk (c g:Addr) (n:Nat) (as:List Addr) (ps:List Pl) (ns:List Int) (z0:vs=[.ref c,.ref g]) (z1:H c=some (.lst (as.map V.ref))) (z2:as.length<=100) (z3:dF n H as ps) (z4:SqT K H g (ns.map V.int)) (z5:n<=ns.length) (z6:∀ H',aU H H'->Q (.int (duF ns 0 ps)) H'):DG K vs H Q
def Ig (K:QF):Sp:=fun vs H Q _=>DG K vs H Q
theorem wK {k:Nat} (F:Fun K "_law_owed" "_law_owed" kE f fd) (B:Bt mg)
  (D_law_owes:Df P w K mg base "_law_owes" k ["_law_pledge_here","_law_giving"] (uI K)):cI P w K mg base CX0 (k+1) f fd ["_law_some","_law_giving"] (Ig K):=by
 refine F.ok vP (fun vs H Q E h=>?_) (fun cdv A outer s H vs Q E hr h=>?_)
 ·obtain⟨c,g,n,as,ps,ns,rfl,_⟩:=h
  rfl
 ·obtain⟨c,g,n,as,ps,ns,rfl,hc,l100,rps,hg,hn,q⟩:=h
  refine⟨_,(aA (aG (aF (r:=BL K) (j4 rfl) rfl B.max_ ql (aa (aV vy (bZ (aa au aj)) (bK (L:=["_law_pledge_here"]) (F:=["_law_giving"]) (cap:=[1]) rfl (bD rfl rfl (by kernel_rfl)) (dN (pv 0)) (fun _ _ _ _ _=>(aJ (i:=0) (bw (by decide+kernel)) rfl (Qw rfl))) (fun _ _ _ _ _=>bR) (fun _ _ _ _ _=>(bc D_law_owes hr (aa (pv 0) (aa (pv 1) aj)))))) aj)))),?_⟩
  have ell:=rps.length
  refine⟨small (by show 1<=1000; decide),fun p4 h4=>?_⟩
  generalize eH4:upd H p4 _=H4
  obtain⟨g4,e4⟩:=aP eH4 h4
  refine⟨_,rfl,c,rfl,⟨_,SqL.of (g4 _ _ hc)⟩,fun D2 hD2=>eN (K:=K) (a:=c) (xs:=as.map V.ref) (fun j ws σ' H5=>(∃ u,σ'=[u,some (.ref g)])/\ws=((ps.take j).map (owF ns)).map V.int/\aU H4 H5/\H5 D2=some (.lst ws))
   ⟨⟨_,rfl⟩,rfl,aB hD2 _,ao⟩ (fun j ws σ' H5 _ h=>⟨SqL.of (h.2.2.1 _ _ (g4 _ _ hc)),h.2.2.2⟩) ?_ ?_⟩
  ·rintro j ws x σ' H5 hx ⟨⟨u,rfl⟩,e5,s5,hD5⟩
   obtain⟨a,ha,rfl⟩:=xV hx
   obtain⟨pl,hpl,rpl⟩:=rps.get ha
   refine gT ?_
   refine⟨_,rfl,_,rfl,a,g,n,pl,ns,rfl,rpl.mono (g4.trans s5),d8 (g4.trans s5) hg,hn,fun H6 s6=>?_⟩
   refine⟨s6 _ _ hD5,?_,⟨_,rfl⟩,?_,aW (s5.trans s6) hD2 _,ao⟩
   ·rw[e5,Qc,Qc,Qv]
    exact aM (by lia)
   ·rw[e5,take_snoc (owF ns) hpl,Qj]
    rfl
  ·rintro ws σ' H5 ⟨_,e5,s5,hD5⟩
   rw[Qc,ell,Qq] at e5
   subst e5
   refine⟨p4,D2,_,_,rfl,rfl,s5 _ _ e4,hD5,small ?_,fun p6 h6=>?_⟩
   ·rw[Qc,Qc]
    show 1+ps.length<=1000
    lia
   generalize eH6:upd H5 p6 _=H6
   obtain⟨g6,e6⟩:=aP eH6 h6
   refine⟨p6,0::ps.map (owF ns),rfl,SqL.of e6,by simp,?_⟩
   exact q H6 (g4.trans (s5.trans g6))
theorem Ku {p:Pl} {x:Int × Tm} (ok:okP p) (h:p[p.length - 1]? = some x):lsF p=x.1:=by
 have hne:=ok.1
 have e:p=p.dropLast++[x]:=by
  rw[← List.getLast?_eq_getElem?,Yb hne] at h
  rw[← QZ h]
  exact (Ym hne).symm
 have hp:=ok.2.2.1
 rw[e] at hp ⊢
 exact Gb hp
abbrev lD:Stmt:=top 73
theorem jr:aO ["_law_book_here","_law_floor","_law_found","_law_at"] ["_law_book_here","_law_floor"] (aD lD):=⟨rfl,rfl,rfl,by decide+kernel,rfl,by decide+kernel,by decide+kernel⟩
theorem xF (F:Fun K "_law_roof" "_law_roof" lD f fd) (B:Bt mg) :
  cI P w K mg base CX0 1 f fd ["_law_book_here","_law_floor"] (yd K):=by
 refine F.ok jr (fun vs H Q E h=>?_) (fun cdv A outer s H vs Q E hr h=>?_)
 ·obtain⟨b,f,n,bk,fl,rfl,_⟩:=h
  rfl
 ·obtain⟨b,f,n,bk,fl,rfl,⟨us,hb,rb,l12⟩,hf,hl,q⟩:=h
  refine⟨_,(aq (bf (i:=2) jr.nd rfl (Qw rfl) (bZ aj))
 (aq (cY QX rfl (bU rfl B.range_ (aa (aF (r:=iV K) aX rfl B.len_ bV (aa (pv 0) aj)) aj)) (aJ (i:=3) jr.nd rfl (Qw rfl)) (aA (bT (qJ RN RD RC cM (pv 2) (aa (aF (r:=BL K) (j4 rfl) rfl B.max_ ql (aa (aV vy (bZ (aa (aQ (r:=cW K) aY (pv 1) (pv 3) (fun _ _=>rfl)) aj)) (bK (L:=["_law_pledge_here"]) (F:=[]) (cap:=[]) rfl (bD rfl rfl (by kernel_rfl)) (dN (aQ (r:=dX K) aZ (pv 0) (pv 3) (fun _ _=>rfl))) (fun _ _ _ _ _=>(aJ (i:=0) (bw (by decide+kernel)) rfl (Qw rfl))) (fun _ _ _ _ _=>bR) (fun _ _ _ _ _=>(aQ (r:=cW K) aY (aQ (r:=cW K) aY (pv 0) (GC xJ au) (fun _ _=>rfl)) au (fun _ _=>rfl))))) aj)) aj)))))
 (aA (aG (bJ (r:=fD K) bL rfl B.tuple_ bQ (aa (pv 2) aj)))))),?_⟩
  have el:=rb.length
  refine⟨small (QW _),fun r hr0=>?_⟩
  generalize eH1:upd H r _=H1
  obtain⟨g1,e1⟩:=aP eH1 hr0
  refine⟨_,rfl,b,_,rfl,.inl (SqL.of (g1 _ _ hb)),_,rfl,by lia,by lia,dI (lo:=0) (n:=us.length) (fun i σ H2=>(∃ u,σ=[some (.ref b),some (.ref f),some (.ref r),u])/\aU H H2/\H2 r=some (.lst ((Ui rfS (fl.take i) (bk.take i)).map V.int)))
   ⟨⟨_,rfl⟩,g1,e1⟩ ?_ ?_⟩
  ·rintro i σ H2 hi ⟨⟨u,rfl⟩,sm,hr2⟩
   have jn:i < fl.length:=by lia
   have at1:atI (fl.map V.int) (0+(i:Int))=some (.int fl[i]):=by rw[RV]; exact gW jn
   have hy:us[i]? = some us[i]:=Qg hi
   obtain⟨c,as,ps,ec,hps,hc,l100,rps⟩:=rb.get hy
   have ell:=rps.length
   have at2:atI us (0+(i:Int))=some (.ref c):=by rw[RV,← ec]; exact gK hy
   refine⟨_,rfl,.inl ⟨rfl,_,SqL.of hr2⟩,_,rfl,_,rfl,f,_,_,_,rfl,rfl,d8 sm hf,at1,small (by show 1<=1000; decide),fun p4 h4=>?_⟩
   generalize eH4:upd H2 p4 _=H4
   obtain⟨g4,e4⟩:=aP eH4 h4
   have s4:aU H H4:=sm.trans g4
   refine⟨_,rfl,_,rfl,b,_,_,_,rfl,rfl,SqL.of (s4 _ _ hb),at2,c,rfl,⟨_,SqL.of (s4 _ _ hc)⟩,fun D2 hD2=>eN (K:=K) (a:=c) (xs:=as.map V.ref) (fun j ws σ' H5=>(∃ u,σ'=[u])/\ws=((ps.take j).map lsF).map V.int/\aU H4 H5/\H5 D2=some (.lst ws))
    ⟨⟨_,rfl⟩,rfl,aB hD2 _,ao⟩ (fun j ws σ' H5 _ h=>⟨SqL.of (h.2.2.1 _ _ (s4 _ _ hc)),h.2.2.2⟩) ?_ ?_⟩
   ·rintro j ws x σ' H5 hx ⟨⟨u,rfl⟩,e5,s5,hD5⟩
    obtain⟨a,ha,rfl⟩:=xV hx
    obtain⟨pl,hpl,ok,vs,hav,rv⟩:=rps.get ha
    have lv:=rv.length
    have lne:0 < pl.length:=List.length_pos_iff.mpr ok.1
    have hlast:vs[vs.length - 1]? = some (vs[vs.length - 1]'(by lia)):=Qg (by lia)
    obtain⟨r0,k0,y,t,er,hr0',rt,hp⟩:=rv.get hlast
    rw[er] at hlast
    rw[lv] at hp
    have s45:=s4.trans s5
    refine gT ?_
    refine⟨_,rfl,_,rfl,a,_,_,_,rfl,rfl,SqT.of (s45 _ _ hav),Jc hlast,r0,_,_,_,rfl,rfl,SqT.of (s45 _ _ hr0'),aC (k:=0) rfl,hD5,?_,⟨_,rfl⟩,?_,aW s5 hD2 _,ao⟩
    ·rw[e5,Qc,Qc,Qv]
     exact aM (by lia)
    ·rw[e5,take_snoc lsF hpl,Qj,Ku ok hp]
     rfl
   ·rintro ws σ' H5 ⟨_,e5,s5,hD5⟩
    rw[Qc,ell,Qq] at e5
    subst e5
    refine⟨p4,D2,_,_,rfl,rfl,s5 _ _ e4,hD5,small ?_,fun p6 h6=>?_⟩
    ·rw[Qc,Qc]
     show 1+ps.length<=1000
     lia
    generalize eH6:upd H5 p6 _=H6
    obtain⟨g6,e6⟩:=aP eH6 h6
    have sall:aU H2 H6:=g4.trans (s5.trans g6)
    refine⟨p6,fl[i]::ps.map lsF,rfl,SqL.of e6,by simp,r,_,_,rfl,rfl,sall _ _ hr2,?_,⟨_,rfl⟩,aW (sm.trans sall) hr0 _,?_⟩
    ·rw[Qc,U6,Qv]
     exact aM (by lia)
    ·rw[ao,rP rfS (Qg jn) hps,Qj]
     rfl
  ·rintro σ H2 ⟨⟨u,rfl⟩,sm,hr2⟩
   refine⟨_,rfl,r,_,rfl,.inl ⟨SqL.of hr2,fun l hl'=>?_⟩⟩
   refine q l _ (sm.trans (aB hl' _)) ?_
   rw[ao,el,Qq,← hl,Qq]
   rfl
def itF (f:List Int->List Int) (x:List Int):Nat->List Int
 | 0=>x
 | k+1=>f (itF f x k)
def Stops (f:List Int->List Int) (x:List Int) (m:Nat):Prop:=f (itF f x m)=itF f x m/\∀ j < m,f (itF f x j)≠itF f x j
def mJ (f:List Int->List Int) (x:List Int) (m:Nat):List (List Int):=(Rk (m+1)).map (itF f x)
theorem lW (f:List Int->List Int) (x:List Int) (m:Nat):(mJ f x m).length=m+1:=by
 unfold mJ
 rw[Qc,Ro]
theorem zX (f:List Int->List Int) (x:List Int) (m:Nat):mJ f x (m+1)=mJ f x m++[itF f x (m+1)]:=by
 unfold mJ
 rw[Ww,Qj]
 rfl
theorem Ao (f:List Int->List Int) (x:List Int) (m:Nat):(mJ f x m)[(mJ f x m).length - 1]? = some (itF f x m):=by
 rw[lW,Nat.add_sub_cancel]
 unfold mJ
 rw[QH,T4 (R7 m)]
 rfl
theorem mW {f:List Int->List Int} {x:List Int} (φ:List Int->Int) (N:Nat) (b0:∀ k,0<=φ (itF f x k)) (bN:∀ k,φ (itF f x k)<=(N:Int)) (up:∀ k,f (itF f x k)≠itF f x k->φ (itF f x k) < φ (itF f x (k+1))):∃ m,m<=N/\Stops f x m:=by
 have key:∀ k,(∃ m,m < k/\Stops f x m)∨((∀ j < k,f (itF f x j)≠itF f x j)/\(k:Int)<=φ (itF f x k)):=by
  intro k
  induction k with
  | zero=>exact .inr ⟨fun j h=>absurd h (Um _),by simpa using b0 0⟩
  | succ k ih =>
   rcases ih with⟨m,h1,h2⟩ | ⟨h1,h2⟩
   ·exact .inl ⟨m,by lia,h2⟩
   ·by_cases e:f (itF f x k)=itF f x k
    ·exact .inl ⟨k,R7 k,e,h1⟩
    ·refine .inr ⟨fun j hj=>?_,by have:=up k e; lia⟩
     rcases Wn j k with z | z
     ·exact h1 j z
     ·have:j=k:=by lia
      subst this
      exact e
 rcases key (N+1) with⟨m,h1,h2⟩ | ⟨_,h2⟩
 ·exact⟨m,by lia,h2⟩
 ·have:=bN (N+1)
  lia
theorem Dz {g g':List Int} (hl:g.length=g'.length) (h:∀ i,i < g.length->g.getD i 0<=g'.getD i 0):LeG g g':=fun i=>by
 by_cases hi:i < g.length
 ·exact h i hi
 ·rw[Qf,Ru (by lia),Qf,Ru (by lia)]
  exact RB _
theorem zU {g:List Int} {p:Pl} (h:∀ x∈p,0<=x.1):0<=owF g p:=by
 have key:∀ (p:Pl) (f:Int),0<=f->(∀ x∈p,0<=x.1)->0<=p.foldl (owS g) f:=by
  intro p
  induction p with
  | nil=>intro f hf _; exact hf
  | cons x r ih =>
   intro f hf hx
   rw[Ri]
   refine ih _ ?_ fun y hy=>hx y (Qm _ hy)
   unfold owS
   split
   ·exact hx x Qi
   ·exact hf
 exact key p 0 (RB _) h
theorem HR {g:List Int} {p:Pl} {b:Int} (h0:0<=b) (h:∀ x∈p,x.1<=b):owF g p<=b:=by
 have key:∀ (p:Pl) (f:Int),f<=b->(∀ x∈p,x.1<=b)->p.foldl (owS g) f<=b:=by
  intro p
  induction p with
  | nil=>intro f hf _; exact hf
  | cons x r ih =>
   intro f hf hx
   rw[Ri]
   refine ih _ ?_ fun y hy=>hx y (Qm _ hy)
   unfold owS
   split
   ·exact hx x Qi
   ·exact hf
 exact key p 0 h0 h
theorem Gh {g g':List Int} (l:LeG g g') {p:Pl} (ok:okP p):owF g p<=owF g' p:=by
 have key:∀ (p:Pl) (f f':Int),f<=f'->(∀ x∈p,f' < x.1)->(p.map (·.1)).Pairwise (· < ·)->p.foldl (owS g) f<=p.foldl (owS g') f':=by
  intro p
  induction p with
  | nil=>intro f f' hf _ _; exact hf
  | cons x r ih =>
   intro f f' hf hx hp
   rw[RZ,Sw] at hp
   rw[Ri,Ri]
   have hr:∀ y∈r,x.1 < y.1:=fun y hy=>hp.1 y.1 (List.mem_map.mpr ⟨y,hy,rfl⟩)
   have hx0:=hx x Qi
   have hfr:∀ y∈r,f' < y.1:=fun y hy=>by have:=hr y hy; lia
   unfold owS
   by_cases c:hF g x.2=true
   ·rw[if_pos c,if_pos (xx l _ c)]
    exact ih _ _ (RB _) hr hp.2
   ·rw[if_neg c]
    by_cases c':hF g' x.2=true
    ·rw[if_pos c']
     exact ih _ _ (by lia) hr hp.2
    ·rw[if_neg c']
     exact ih _ _ hf hfr hp.2
 exact key p 0 0 (RB _) (fun x hx=>by have:=(ok.2.2.2 x hx).1; lia) ok.2.2.1
theorem fu {b:Int}:∀ (l:List Int) (a:Int),a<=b->(∀ x∈l,x<=b)->l.foldl max a<=b
 | [],a,h,_=>h
 | y::l,a,h,hl=>by
  rw[Ri]
  exact fu l _ (by have:=hl y Qi; lia) fun x hx=>hl x (Qm _ hx)
theorem fH {α:Type} (u v:α->Int):∀ (l:List α) (a b:Int),a<=b->(∀ x∈l,u x<=v x)->(l.map u).foldl max a<=(l.map v).foldl max b
 | [],a,b,h,_=>h
 | y::l,a,b,h,hl=>by
  rw[RZ,RZ,Ri,Ri]
  exact fH u v l _ _ (by have:=hl y Qi; lia) fun x hx=>hl x (Qm _ hx)
def okB (bk:List (List Pl)):Prop:=∀ ps∈bk,∀ p∈ps,okP p
theorem yg {g g':List Int} (l:LeG g g') {ps:List Pl} (ok:∀ p∈ps,okP p) {f f':Int} (h:f<=f'):duF g f ps<=duF g' f' ps:=fH _ _ ps f f' h fun p hp=>Gh l (ok p hp)
theorem Ja (g:List Int) (f:Int) (ps:List Pl):f<=duF g f ps:=(dM _ f).1
theorem Ji (g:List Int) {f:Int} (h:f<=9) {ps:List Pl} (ok:∀ p∈ps,okP p):duF g f ps<=9:=by
 refine fu _ f h fun x hx=>?_
 obtain⟨p,hp,rfl⟩:=List.mem_map.mp hx
 exact HR (by decide) fun y hy=>((ok p hp).2.2.2 y hy).2.1
theorem Jf {p:Pl} {x:Int × Tm} (h:x∈p):x.1<=lsF p:=by
 unfold lsF
 cases p with
 | nil=>cases h
 | cons y r =>
  show x.1<=(r.map (·.1)).foldl max y.1
  obtain⟨h1,h2⟩:=dM (r.map (·.1)) y.1
  rcases List.mem_cons.mp h with rfl | h
  ·exact h1
  ·exact h2 x.1 (List.mem_map.mpr ⟨x,h,rfl⟩)
theorem JK {g:List Int} {p:Pl} (ok:okP p):owF g p<=lsF p:=by
 have hne:=ok.1
 refine HR ?_ fun x hx=>Jf hx
 cases p with
 | nil=>exact absurd rfl hne
 | cons y r =>
  have:=Jf (p:=y::r) (x:=y) Qi
  have:=(ok.2.2.2 y Qi).1
  lia
theorem Jw (g:List Int) (f:Int) {ps:List Pl} (ok:∀ p∈ps,okP p):duF g f ps<=rfS f ps:=fH _ _ ps f f (RB _) fun p hp=>JK (ok p hp)
theorem J2 {p:Pl} (ok:okP p):lsF p<=9:=by
 cases p with
 | nil=>exact absurd rfl ok.1
 | cons y r =>
  show (r.map (·.1)).foldl max y.1<=9
  refine fu _ _ (ok.2.2.2 y Qi).2.1 fun x hx=>?_
  obtain⟨z,hz,rfl⟩:=List.mem_map.mp hx
  exact (ok.2.2.2 z (Qm _ hz)).2.1
theorem JZ {f:Int} (h:f<=9) {ps:List Pl} (ok:∀ p∈ps,okP p):rfS f ps<=9:=by
 refine fu _ f h fun x hx=>?_
 obtain⟨p,hp,rfl⟩:=List.mem_map.mp hx
 exact J2 (ok p hp)
theorem Lg (f:Int) (ps:List Pl):f<=rfS f ps:=(dM _ f).1
theorem d7 {α:Type} (f:Int->α->Int) {xs:List Int} {ys:List α} {i:Nat} (h1:i < xs.length) (h2:i < ys.length):(Ui f xs ys).getD i 0=f (xs.getD i 0) ys[i]:=by
 rw[Qf,List.getElem?_zipWith,Qg h1,Qg h2,Qf,Qg h1]
 rfl
theorem eG:∀ {g g':List Int},g.length=g'.length->(∀ i,i < g.length->g.getD i 0<=g'.getD i 0)->g.sum<=g'.sum/\(g.sum=g'.sum->g=g')
 | [],[],_,_=>⟨RB _,fun _=>rfl⟩
 | a::g,b::g',hl,h=>by
  have h0:a<=b:=h 0 (Nat.succ_pos _)
  obtain⟨h1,h2⟩:=eG (g:=g) (g':=g') (by simpa using hl) fun i hi=>by
   have:=h (i+1) (by rw[Qu]; lia)
   simpa using this
  rw[Wc,Wc]
  refine⟨by lia,fun e=>?_⟩
  have e1:a=b:=by lia
  have e2:g.sum=g'.sum:=by lia
  rw[e1,h2 e2]
theorem sum_bound {g:List Int} (h:∀ x∈g,0<=x/\x<=9):0<=g.sum/\g.sum<=9 * (g.length:Int):=by
 induction g with
 | nil=>exact⟨RB _,by simp⟩
 | cons a g ih =>
  have:=h a Qi
  have:=ih fun x hx=>h x (Qm _ hx)
  rw[Wc,Qu]
  lia
def okG (n:Nat) (g:List Int):Prop:=g.length=n/\∀ x∈g,0<=x/\x<=9
theorem gG {n:Nat} {g:List Int} (h:okG n g) {i:Nat} (hi:i < n):0<=g.getD i 0/\g.getD i 0<=9:=by
 have hi':i < g.length:=by rw[h.1]; exact hi
 rw[Qf,Qg hi']
 exact h.2 _ (S8 hi')
theorem Bj {n:Nat} {g:List Int} (hl:g.length=n) (h:∀ i,i < n->0<=g.getD i 0/\g.getD i 0<=9):okG n g:=by
 refine⟨hl,fun x hx=>?_⟩
 obtain⟨i,hi,e⟩:=VG hx
 have:=h i (by lia)
 rw[Qf,Qg hi,e] at this
 exact this
section
variable {n:Nat} {fl:List Int} {bk:List (List Pl)}
theorem jm (hb:bk.length=n) (ok:okB bk) (hf:okG n fl) (g:List Int):okG n (dz g fl bk):=by
 refine Bj (by rw[vV (by rw[hf.1,hb])]; exact hb) fun i hi=>?_
 have h1:i < fl.length:=by rw[hf.1]; exact hi
 have h2:i < bk.length:=by lia
 unfold dz
 rw[d7 (duF g) h1 h2]
 have:=gG hf hi
 have:=Ja g (fl.getD i 0) bk[i]
 have:=Ji g (f:=fl.getD i 0) (by lia) (ok bk[i] (S8 h2))
 lia
theorem eX (hb:bk.length=n) (ok:okB bk) (hf:okG n fl) {g g':List Int} (l:LeG g g'):LeG (dz g fl bk) (dz g' fl bk):=by
 have l1:=(jm hb ok hf g).1
 have l2:=(jm hb ok hf g').1
 refine Dz (by lia) fun i hi=>?_
 have h1:i < fl.length:=by rw[hf.1]; lia
 have h2:i < bk.length:=by lia
 unfold dz
 rw[d7 (duF g) h1 h2,d7 (duF g') h1 h2]
 exact yg l (ok bk[i] (S8 h2)) (RB _)
theorem iz (hb:bk.length=n) (ok:okB bk) (hf:okG n fl) (g:List Int):LeG fl (dz g fl bk):=by
 have l1:=(jm hb ok hf g).1
 refine Dz (by rw[hf.1]; lia) fun i hi=>?_
 have h2:i < bk.length:=by rw[hf.1] at hi; lia
 unfold dz
 rw[d7 (duF g) hi h2]
 exact Ja _ _ _
theorem jN (hb:bk.length=n) (ok:okB bk) (hf:okG n fl):okG n (rfF fl bk):=by
 have hl:(rfF fl bk).length=n:=by
  unfold rfF
  rw[U6,hf.1,hb,Nat.min_self]
 refine Bj hl fun i hi=>?_
 have h1:i < fl.length:=by rw[hf.1]; exact hi
 have h2:i < bk.length:=by lia
 unfold rfF
 rw[d7 rfS h1 h2]
 have:=gG hf hi
 have:=Lg (fl.getD i 0) bk[i]
 have:=JZ (f:=fl.getD i 0) (by lia) (ok bk[i] (S8 h2))
 lia
theorem mY (hb:bk.length=n) (ok:okB bk) (hf:okG n fl) (g:List Int):LeG (dz g fl bk) (rfF fl bk):=by
 have l1:=(jm hb ok hf g).1
 have l2:=(jN hb ok hf).1
 refine Dz (by lia) fun i hi=>?_
 have h1:i < fl.length:=by rw[hf.1]; lia
 have h2:i < bk.length:=by lia
 unfold dz rfF
 rw[d7 (duF g) h1 h2,d7 rfS h1 h2]
 exact Jw g _ (ok bk[i] (S8 h2))
theorem fZ (hb:bk.length=n) (ok:okB bk) (hf:okG n fl) {x:List Int} (hx:okG n x):∀ k,okG n (itF (fun g=>dz g fl bk) x k)
 | 0=>hx
 | k+1=>jm hb ok hf _
theorem Lz (hb:bk.length=n) (ok:okB bk) (hf:okG n fl) {x:List Int} (h:LeG x (dz x fl bk)):∀ k,LeG (itF (fun g=>dz g fl bk) x k) (itF (fun g=>dz g fl bk) x (k+1))
 | 0=>h
 | k+1=>eX hb ok hf (Lz hb ok hf h k)
theorem Cz (hb:bk.length=n) (ok:okB bk) (hf:okG n fl) {x:List Int} (h:LeG (dz x fl bk) x):∀ k,LeG (itF (fun g=>dz g fl bk) x (k+1)) (itF (fun g=>dz g fl bk) x k)
 | 0=>h
 | k+1=>eX hb ok hf (Cz hb ok hf h k)
theorem Gq (hb:bk.length=n) (ok:okB bk) (hf:okG n fl) {x:List Int} (hx:okG n x) (h:LeG x (dz x fl bk)):∃ m,m<=9 * n/\Stops (fun g=>dz g fl bk) x m:=by
 refine mW Te (9 * n) (fun k=>(sum_bound (fZ hb ok hf hx k).2).1) (fun k=>?_) (fun k ne=>?_)
 ·have:=(sum_bound (fZ hb ok hf hx k).2).2
  rw[(fZ hb ok hf hx k).1] at this
  lia
 ·obtain⟨h1,h2⟩:=eG ((fZ hb ok hf hx k).1.trans (fZ hb ok hf hx (k+1)).1.symm) fun i _=>Lz hb ok hf h k i
  have:Te (itF (fun g=>dz g fl bk) x k)≠Te (itF (fun g=>dz g fl bk) x (k+1)):=fun e=>ne (h2 e).symm
  lia
theorem zz (hb:bk.length=n) (ok:okB bk) (hf:okG n fl) {x:List Int} (hx:okG n x) (h:LeG (dz x fl bk) x):∃ m,m<=9 * n/\Stops (fun g=>dz g fl bk) x m:=by
 refine mW (fun g=>9 * (n:Int) - g.sum) (9 * n) (fun k=>?_) (fun k=>?_) (fun k ne=>?_)
 ·have:=(sum_bound (fZ hb ok hf hx k).2).2
  rw[(fZ hb ok hf hx k).1] at this
  show 0<=9 * (n:Int) - Te _
  lia
 ·have:=(sum_bound (fZ hb ok hf hx k).2).1
  show 9 * (n:Int) - Te _<=_
  lia
 ·obtain⟨h1,h2⟩:=eG ((fZ hb ok hf hx (k+1)).1.trans (fZ hb ok hf hx k).1.symm) fun i _=>Cz hb ok hf h k i
  have:Te (itF (fun g=>dz g fl bk) x (k+1))≠Te (itF (fun g=>dz g fl bk) x k):=fun e=>ne (h2 e)
  show 9 * (n:Int) - Te _ < 9 * (n:Int) - Te _
  lia
end
inductive mR (H:Hp):List V->List (List Int)->Prop where
 | nil:mR H [] []
 | cons {a:Addr} {g:List Int} {us:List V} {gs:List (List Int)}:H a=some (.tup (g.map V.int))->g.length<=1000->mR H us gs->mR H (.ref a::us) (g::gs)
theorem mR.bu {H H':Hp} (e:∀ a xs,H a=some (HO.tup xs)->H' a=some (HO.tup xs)):∀ {us:List V} {gs:List (List Int)},mR H us gs->mR H' us gs
 | _,_,.nil=>.nil
 | _,_,.cons h l r=>.cons (e _ _ h) l (mR.bu e r)
theorem mR.mono {H H':Hp} (e:aU H H') {us:List V} {gs:List (List Int)} (h:mR H us gs):mR H' us gs:=h.bu fun a xs q=>e a _ q
theorem mR.length {H:Hp}:∀ {us:List V} {gs:List (List Int)},mR H us gs->us.length=gs.length
 | _,_,.nil=>rfl
 | _,_,.cons _ _ r=>by rw[Qu,Qu,mR.length r]
theorem mR.get {H:Hp}:∀ {us:List V} {gs:List (List Int)} {i:Nat} {g:List Int},mR H us gs->gs[i]? = some g->∃ a,us[i]? = some (.ref a)/\H a=some (.tup (g.map V.int))
 | _,_,_,_,.nil,h=>by simp at h
 | _,_,0,_,.cons h _ _,e=>by
  cases (show some _=some _ from e)
  exact⟨_,rfl,h⟩
 | _,_,i+1,_,.cons _ _ r,e=>by
  obtain⟨a,h1,h2⟩:=mR.get (i:=i) r (by simpa using e)
  exact⟨a,by simpa using h1,h2⟩
theorem mR.snoc {H:Hp} {a:Addr} {g:List Int} (h:H a=some (.tup (g.map V.int))) (hl:g.length<=1000):∀ {us:List V} {gs:List (List Int)},mR H us gs->mR H (us++[.ref a]) (gs++[g])
 | _,_,.nil=>.cons h hl .nil
 | _,_,.cons x y r=>.cons x y (mR.snoc h hl r)
def gD (g:List Int):Dm:=.tup (g.map Dm.int)
theorem bO.okB {n:Nat} {H:Hp}:∀ {us:List V} {bk:List (List Pl)},bO n H us bk->okB bk
 | _,_,.nil=>fun ps h=>by cases h
 | _,_,.cons _ _ p r=>fun ps h q hq=>by
  rcases List.mem_cons.mp h with rfl | h
  ·obtain⟨i,hi,e⟩:=VG hq
   have hlen:=p.length
   obtain⟨q',e1,e2⟩:=p.get (i:=i) (Qg (by lia))
   rw[Qg hi,e] at e1
   cases e1
   exact e2.1
  ·exact bO.okB r ps h q hq
theorem ym.okB {n:Nat} {H:Hp} {b:Addr} {bk:List (List Pl)} (h:ym n H b bk):okB bk:=by
 obtain⟨us,_,h2,_⟩:=h
 exact h2.okB
abbrev Fd (fl:List Int) (bk:List (List Pl)):List Int->List Int:=fun g=>dz g fl bk
abbrev nH:Stmt:=top 45
theorem jc:aO ["book","floor","giving","row","due"] ["book","floor","giving"] (aD nH):=⟨rfl,rfl,rfl,by decide+kernel,rfl,by decide+kernel,by decide+kernel⟩
inductive pR (K:QF) (vs:List V) (H:Hp) (Q:VK):Prop where
 | mk (b f g:Addr) (n:Nat) (bk:List (List Pl)) (fl x:List Int) (m:Nat) (z0:vs=[.ref b,.ref f,.ref g]) (z1:ym n H b bk) (z2:bk.length=n) (z3:H f=some (.tup (fl.map V.int))) (z4:okG n fl) (z5:H g=some (.tup (x.map V.int))) (z6:okG n x) (z7:m<=9 * n) (z8:Stops (Fd fl bk) x m) (z9:∀ (r:Addr) (us:List V) (H':Hp),aU H H'->H r=none->H' r=some (.lst us)->mR H' us (mJ (Fd fl bk) x m)->Q (.ref r) H'):pR K vs H Q
def oG (K:QF):Sp:=fun vs H Q _=>pR K vs H Q
theorem qW {H:Hp} {us:List V} {F:List Int->List Int} {x:List Int} {j:Nat} (h:mR H us (mJ F x j)):∃ a,atI us (-1)=some (.ref a)/\H a=some (.tup ((itF F x j).map V.int)):=by
 have hl:=h.length
 obtain⟨a,h1,h2⟩:=h.get (Ao F x j)
 rw[← hl] at h1
 exact⟨a,Jc h1,h2⟩
def DK (H:Hp) (r:Addr):Nat:=match H r with
 | some (.lst us)=>us.length
 | _=>0
theorem yO {H:Hp} {r:Addr} {us:List V} (h:H r=some (.lst us)):DK H r=us.length:=by unfold DK; rw[h]
theorem zB {k:Nat} (F:Fun K "settled" "settled" nH f fd) (B:Bt mg)
  (D_what_is_due:Df P w K mg base "what_is_due" k ["book","floor","giving"] (K6 K)):cI P w K mg base CX0 (k+1) f fd ["book","floor","giving"] (oG K):=by
 refine F.ok jc (fun vs H Q E h=>?_) (fun cdv A outer s H vs Q E hr h=>?_)
 ·obtain⟨b,f,g,n,bk,fl,x,m,rfl,_⟩:=h
  rfl
 ·obtain⟨b,f,g,n,bk,fl,x,m,rfl,hb,lb,hf,of,hg,ox,hm,st,q⟩:=h
  refine⟨_,(aq (bf (i:=3) jc.nd rfl (Qw rfl) (bZ (aa (pv 2) aj)))
 (aq (bf (i:=4) jc.nd rfl (Qw rfl) (bc D_what_is_due hr (aa (pv 0) (aa (pv 1) (aa (pv 2) aj)))))
 (aq (Fl QX (aH (r:=Mg K) (JC hr.uU) (pv 4) (aQ (r:=dX K) aZ (pv 3) (GC xJ au) (fun _ _=>rfl)) (aL _)) (aq (bT (qJ RN RD RC cM (pv 3) (aa (pv 4) aj)))
 (aA (bf (i:=4) jc.nd rfl (Qw rfl) (bc D_what_is_due hr (aa (pv 0) (aa (pv 1) (aa (pv 4) aj))))))))
 (aA (aG (pv 3)))))),?_⟩
  have okb:=hb.okB
  have b12:n<=12:=by obtain⟨_,_,_,h⟩:=hb; lia
  have og:∀ j,okG n (itF (Fd fl bk) x j):=fZ lb okb of ox
  have f0:∀ y∈fl,0<=y:=fun y hy=>(of.2 y hy).1
  have hlb:fl.length=bk.length:=by rw[of.1,lb]
  refine⟨_,rfl,small (by show 1<=1000; decide),fun r hr0=>?_⟩
  generalize eH1:upd H r _=H1
  obtain⟨g1,e1⟩:=aP eH1 hr0
  refine⟨_,rfl,_,rfl,_,rfl,b,f,g,n,bk,fl,x,rfl,hb.mono g1,SqT.of (g1 _ _ hf),SqT.of (g1 _ _ hg),hlb,by rw[ox.1]; lia,f0,fun r1 H2 s2 er1=>?_⟩
  refine gN ?_
  refine Ho (fun σ H3=>∃ (j:Nat) (us:List V) (d:Addr),j<=m/\σ=[some (.ref b),some (.ref f),some (.ref g),some (.ref r),some (.ref d)]/\aU H H3/\H3 r=some (.lst us)/\mR H3 us (mJ (Fd fl bk) x j)/\H3 d=some (.tup ((itF (Fd fl bk) x (j+1)).map V.int)))
   (fun _ H3=>m+2 - DK H3 r) ⟨0,[.ref g],r1,QW _,rfl,g1.trans s2,s2 _ _ e1,.cons (s2 _ _ (g1 _ _ hg)) (by rw[(og 0).1]; lia) .nil,er1⟩ ?_ ?_
  ·rintro σ H3 ⟨j,us,d,hj,rfl,s3,er,gr,ed⟩
   obtain⟨a,ha,ea⟩:=qW gr
   have lu:=gr.length
   rw[lW] at lu
   refine⟨_,rfl,_,rfl,_,rfl,r,_,_,_,rfl,rfl,SqL.of er,ha,d,a,_,_,rfl,rfl,SqT.of ed,SqT.of ea,_,rfl,?_⟩
   by_cases e:itF (Fd fl bk) x (j+1)=itF (Fd fl bk) x j
   ·rw[decide_eq_true e]
    refine cV ?_
    have ej:j=m:=by
     rcases Wn j m with z | z
     ·exact absurd e (st.2 j z)
     ·lia
    subst ej
    exact⟨_,rfl,q r us H3 s3 hr0 er gr⟩
   ·rw[decide_eq_false e]
    refine gm ?_
    have hjm:j < m:=by
     rcases Wn j m with z | z
     ·exact z
     ·have:j=m:=by lia
      subst this
      exact absurd st.1 e
    refine⟨_,rfl,.inl ⟨rfl,_,SqL.of er⟩,_,rfl,r,_,_,rfl,rfl,er,aM (by lia),?_⟩
    have tk:=cG (zs':=us++[.ref d]) er
    have s4:aU H (upd H3 r (.lst (us++[.ref d]))):=aW s3 hr0 _
    refine⟨_,rfl,_,rfl,_,rfl,b,f,d,n,bk,fl,_,rfl,hb.mono s4,SqT.of (s4 _ _ hf),SqT.of (tk _ _ ed),hlb,by rw[(og (j+1)).1]; lia,f0,fun r5 H5 s5 er5=>?_⟩
    have er':H5 r=some (.lst (us++[.ref d])):=s5 _ _ ao
    refine⟨⟨j+1,us++[.ref d],r5,hjm,rfl,s4.trans s5,er',?_,er5⟩,?_⟩
    ·rw[zX]
     exact ((gr.bu tk).snoc (tk _ _ ed) (by rw[(og (j+1)).1]; lia)).mono s5
    ·show m+2 - DK H5 r < m+2 - DK H3 r
     rw[yO er',yO er,Qx]
     show m+2 - (us.length+1) < m+2 - us.length
     lia
  ·rintro σ H3 Q1 Q2 hQ ⟨v1,h1,v2,h2,i0,h3,p,xs,i,z,h4,h5,h6,h7,a1,a2,ns,ms,h8,h9,h10,h11,c,h12,qq⟩
   exact⟨v1,h1,v2,h2,i0,h3,p,xs,i,z,h4,h5,h6,h7,a1,a2,ns,ms,h8,h9,h10,h11,c,h12,hQ _ _ qq⟩
def rZ (st:List Int->List (List Pl)->List Int):Sp:=fun vs H Q _=>∃ (b f:Addr) (n:Nat) (bk:List (List Pl)) (fl:List Int),vs=[.ref b,.ref f]/\ym n H b bk/\bk.length=n/\H f=some (.tup (fl.map V.int))/\okG n fl ∧
 ∀ (m:Nat) (r:Addr) (us:List V) (H':Hp),m<=9 * n->Stops (Fd fl bk) (st fl bk) m->aU H H'->H r=none->H' r=some (.lst us)->mR H' us (mJ (Fd fl bk) (st fl bk) m)->Q (.ref r) H'
def Fp (st:List Int->List (List Pl)->List Int):Sp:=fun vs H Q _=>∃ (b f:Addr) (n:Nat) (bk:List (List Pl)) (fl:List Int),vs=[.ref b,.ref f]/\ym n H b bk/\bk.length=n/\H f=some (.tup (fl.map V.int))/\okG n fl ∧
 ∀ (m:Nat) (a:Addr) (H':Hp),m<=9 * n->Stops (Fd fl bk) (st fl bk) m->aU H H'->H' a=some (.tup ((itF (Fd fl bk) (st fl bk) m).map V.int))->Q (.ref a) H'
abbrev Nq:List Int->List (List Pl)->List Int:=fun fl _=>fl
theorem Ah {n:Nat} {fl:List Int} {bk:List (List Pl)} (hb:bk.length=n) (ok:okB bk) (hf:okG n fl):∃ m,m<=9 * n/\Stops (Fd fl bk) fl m:=Gq hb ok hf hf (iz hb ok hf fl)
theorem Ag {n:Nat} {fl:List Int} {bk:List (List Pl)} (hb:bk.length=n) (ok:okB bk) (hf:okG n fl):∃ m,m<=9 * n/\Stops (Fd fl bk) (rfF fl bk) m:=zz hb ok hf (jN hb ok hf) (mY hb ok hf _)
abbrev Cg:Stmt:=top 46
abbrev wQ:Stmt:=top 48
theorem JM:aO ["book","floor"] ["book","floor"] (aD Cg):=⟨rfl,rfl,rfl,by decide+kernel,rfl,by decide+kernel,by decide+kernel⟩
theorem GJ:aO ["book","floor"] ["book","floor"] (aD wQ):=⟨rfl,rfl,rfl,by decide+kernel,rfl,by decide+kernel,by decide+kernel⟩
theorem JL {k:Nat} (F:Fun K "rise" "rise" Cg f fd) (B:Bt mg)
  (D_settled:Df P w K mg base "settled" k ["book","floor","giving"] (oG K)):cI P w K mg base CX0 (k+1) f fd ["book","floor"] (rZ Nq):=by
 refine F.ok JM (fun vs H Q E h=>?_) (fun cdv A outer s H vs Q E hr h=>?_)
 ·obtain⟨b,f,n,bk,fl,rfl,_⟩:=h
  rfl
 ·obtain⟨b,f,n,bk,fl,rfl,hb,lb,hf,of,q⟩:=h
  refine⟨_,(aA (aG (bc D_settled hr (aa (pv 0) (aa (pv 1) (aa (pv 1) aj)))))),?_⟩
  obtain⟨m,hm,st⟩:=Ah lb hb.okB of
  exact⟨_,rfl,_,rfl,_,rfl,b,f,f,n,bk,fl,fl,m,rfl,hb,lb,hf,of,hf,of,hm,st,fun r us H' s1 fr er gr=>q m r us H' hm st s1 fr er gr⟩
theorem Gk {k:Nat} (F:Fun K "least" "least" wQ f fd) (B:Bt mg)
  (D_rise:Df P w K mg base "rise" k ["book","floor"] (rZ Nq)):cI P w K mg base CX0 (k+1) f fd ["book","floor"] (Fp Nq):=by
 refine F.ok GJ (fun vs H Q E h=>?_) (fun cdv A outer s H vs Q E hr h=>?_)
 ·obtain⟨b,f,n,bk,fl,rfl,_⟩:=h
  rfl
 ·obtain⟨b,f,n,bk,fl,rfl,hb,lb,hf,of,q⟩:=h
  refine⟨_,(aA (aG (aQ (r:=dX K) aZ (bc D_rise hr (aa (pv 0) (aa (pv 1) aj))) (GC xJ au) (fun _ _=>rfl)))),?_⟩
  refine⟨_,rfl,_,rfl,b,f,n,bk,fl,rfl,hb,lb,hf,of,fun m r us H' hm st s1 fr er gr=>?_⟩
  obtain⟨a,ha,ea⟩:=qW gr
  exact⟨_,rfl,r,_,_,_,rfl,rfl,SqL.of er,ha,q m a H' hm st s1 ea⟩
abbrev CV:Stmt:=top 47
abbrev lC:Stmt:=top 49
theorem JS:aO ["book","floor"] ["book","floor"] (aD CV):=⟨rfl,rfl,rfl,by decide+kernel,rfl,by decide+kernel,by decide+kernel⟩
theorem wz:aO ["book","floor"] ["book","floor"] (aD lC):=⟨rfl,rfl,rfl,by decide+kernel,rfl,by decide+kernel,by decide+kernel⟩
theorem Jx {k:Nat} (hk:2<=k) (F:Fun K "fall" "fall" CV f fd) (B:Bt mg)
  (D_settled:Df P w K mg base "settled" k ["book","floor","giving"] (oG K)) (D_roof:Df P w K mg base "roof" 2 ["book","floor"] (yd K)):cI P w K mg base CX0 (k+1) f fd ["book","floor"] (rZ rfF):=by
 refine F.ok JS (fun vs H Q E h=>?_) (fun cdv A outer s H vs Q E hr h=>?_)
 ·obtain⟨b,f,n,bk,fl,rfl,_⟩:=h
  rfl
 ·obtain⟨b,f,n,bk,fl,rfl,hb,lb,hf,of,q⟩:=h
  refine⟨_,(aA (aG (bc D_settled hr (aa (pv 0) (aa (pv 1) (aa (bc D_roof hr (aa (pv 0) (aa (pv 1) aj))) aj)))))),?_⟩
  obtain⟨m,hm,st⟩:=Ag lb hb.okB of
  exact⟨_,rfl,_,rfl,_,rfl,_,rfl,b,f,n,bk,fl,rfl,hb,SqT.of hf,by rw[of.1,lb],fun r1 H1 s1 e1=>⟨b,f,r1,n,bk,fl,rfF fl bk,m,rfl,hb.mono s1,lb,s1 _ _ hf,of,e1,jN lb hb.okB of,hm,st,fun r us H' s2 fr er gr=>q m r us H' hm st (s1.trans s2) (s1.free fr) er gr⟩⟩
theorem wW {k:Nat} (F:Fun K "greatest" "greatest" lC f fd) (B:Bt mg)
  (D_fall:Df P w K mg base "fall" k ["book","floor"] (rZ rfF)):cI P w K mg base CX0 (k+1) f fd ["book","floor"] (Fp rfF):=by
 refine F.ok wz (fun vs H Q E h=>?_) (fun cdv A outer s H vs Q E hr h=>?_)
 ·obtain⟨b,f,n,bk,fl,rfl,_⟩:=h
  rfl
 ·obtain⟨b,f,n,bk,fl,rfl,hb,lb,hf,of,q⟩:=h
  refine⟨_,(aA (aG (aQ (r:=dX K) aZ (bc D_fall hr (aa (pv 0) (aa (pv 1) aj))) (GC xJ au) (fun _ _=>rfl)))),?_⟩
  refine⟨_,rfl,_,rfl,b,f,n,bk,fl,rfl,hb,lb,hf,of,fun m r us H' hm st s1 fr er gr=>?_⟩
  obtain⟨a,ha,ea⟩:=qW gr
  exact⟨_,rfl,r,_,_,_,rfl,rfl,SqL.of er,ha,q m a H' hm st s1 ea⟩
theorem LeG.trans {a b c:List Int} (h:LeG a b) (k:LeG b c):LeG a c:=fun i=>Vm (h i) (k i)
section
variable {n:Nat} {fl:List Int} {bk:List (List Pl)}
theorem tZ (hb:bk.length=n) (ok:okB bk) (hf:okG n fl) {g:List Int} (h:LeG (dz g fl bk) g):∀ k,LeG (itF (Fd fl bk) fl k) g
 | 0=>(iz hb ok hf g).trans h
 | k+1=>(eX hb ok hf (tZ hb ok hf h k)).trans h
theorem sY (hb:bk.length=n) (ok:okB bk) (hf:okG n fl) {g:List Int} (h:LeG g (dz g fl bk)):∀ k,LeG g (itF (Fd fl bk) (rfF fl bk) k)
 | 0=>h.trans (mY hb ok hf g)
 | k+1=>h.trans (eX hb ok hf (sY hb ok hf h k))
end
theorem Ou {K:QF} {a b:Addr} {xs ys:List V} {H:Hp} {Q:V->Hp->Prop} (ha:H a=some (.tup xs)) (hb:H b=some (.tup ys)) (hz:xs.length+ys.length<=1000) (h:∀ p H',aU H H'->H' p=some (.tup (xs++ys))->Q (.ref p) H'):iC K (.ref a) (.ref b) H Q :=
 ⟨a,b,xs,ys,rfl,rfl,SqT.of ha,SqT.of hb,small hz,fun e=>h b H (aU.refl H) (by rw[e,List.nil_append]; exact hb),fun _ e=>h a H (aU.refl H) (by rw[e,RL]; exact ha),fun _ _ p hp=>h p _ (aB hp _) ao⟩
theorem O6 {xs:List V} {k:Nat} (h:k<=xs.length):wY xs none (some (k:Int))=xs.take k:=by
 unfold wY
 rw[HT.yL,HT.rB,List.drop_zero,Nat.sub_zero,Nat.min_eq_left h]
theorem NZ {xs:List V} {k:Nat} (h:k<=xs.length):wY xs (some (k:Int)) none=xs.drop k:=by
 unfold wY
 rw[HT.yL,HT.rB,Nat.min_eq_left h,List.take_of_length_le (by rw[U3]; lia)]
section
variable {K:QF} {σ:St} {H:Hp} {Q:V->Hp->Prop} {i j:Nat} {a:Addr} {k:Nat} {xs:List V}
theorem slT (hi:σ[i]? = some (some (.ref a))) (hj:σ[j]? = some (some (.int (k:Int)))) (ha:H a=some (.tup xs)) (hk:k < xs.length) (h:∀ p H',aU H H'->H' p=some (.tup (xs.take k))->Q (.ref p) H'):tSl (Ip K) (An i) nF (Ce (An j)) σ H Q:=by
 refine⟨_,hi,_,hj,_,rfl,a,xs,rfl,SqT.of ha,?_,fun p hp=>?_⟩
 ·rintro⟨_,z⟩
  have z':HT.sIx xs.length xs.length (some (k:Int))=xs.length:=z
  rw[HT.rB] at z'
  lia
 ·refine h p _ (aB hp _) ?_
  rw[ao,O6 (by lia)]
theorem slD (hi:σ[i]? = some (some (.ref a))) (hj:σ[j]? = some (some (.int (k:Int)))) (ha:H a=some (.tup xs)) (hk:k < xs.length) (h:∀ p H',aU H H'->H' p=some (.tup (xs.drop (k+1)))->Q (.ref p) H') :
  tSl (Ip K) (An i) (Ce (tOp (rI0 fun i j=>.int (i+j)) (An j) (tC (.int 1)))) nF σ H Q:=by
 refine⟨_,hi,_,hj,_,_,rfl,rfl,_,rfl,a,xs,rfl,SqT.of ha,?_,fun p hp=>?_⟩
 ·rintro⟨z,_⟩
  have z':HT.sIx xs.length 0 (some ((k:Int)+1))=0:=z
  rw[show (k:Int)+1=((k+1:Nat):Int) by lia,HT.rB] at z'
  lia
 ·refine h p _ (aB hp _) ?_
  rw[ao,show wY xs (some ((k:Int)+1)) none=xs.drop (k+1) by rw[show (k:Int)+1=((k+1:Nat):Int) by lia]; exact NZ (by lia)]
theorem PK {l:Nat} {v:V} (hi:σ[i]? = some (some (.ref a))) (hj:σ[j]? = some (some (.int (k:Int)))) (hv:σ[l]? = some (some v)) (ha:H a=some (.tup xs)) (hk:k < xs.length) (hl:xs.length<=40) (h:∀ p H',aU H H'->H' p=some (.tup (xs.set k v))->Q (.ref p) H') :
  tOp (iC K) (tOp (iC K) (tSl (Ip K) (An i) nF (Ce (An j))) (O1 (Gd (An l) Fo))) (tSl (Ip K) (An i) (Ce (tOp (rI0 fun i j=>.int (i+j)) (An j) (tC (.int 1)))) nF) σ H Q:=by
 refine slT hi hj ha hk fun p1 H1 s1 e1=>?_
 refine⟨_,hv,small (by show 1<=1000; decide),fun p2 h2=>?_⟩
 generalize eH3:upd H1 p2 _=H3
 obtain⟨g3,e3⟩:=aP eH3 h2
 refine Ou (g3 _ _ e1) e3 (by rw[Qv]; show min k xs.length+1<=1000; lia) fun p4 H4 s4 e4=>?_
 have s14:aU H H4:=s1.trans (g3.trans s4)
 refine slD hi hj (s14 _ _ ha) hk fun p5 H5 s5 e5=>?_
 refine Ou (s5 _ _ e4) e5 (by rw[Qx,Qv,U3]; show min k xs.length+1+(xs.length - (k+1))<=1000; lia) fun p6 H6 s6 e6=>?_
 refine h p6 H6 (s14.trans (s5.trans s6)) ?_
 rw[e6,Xp,if_pos hk,V9]
 rfl
end
section
variable {n:Nat} {fl:List Int} {bk:List (List Pl)}
def stp (fl:List Int) (bk:List (List Pl)) (g:List Int) (i:Nat):List Int:=g.set i (duF g (fl.getD i 0) (bk.getD i []))
def swp (fl:List Int) (bk:List (List Pl)) (od:List Nat) (g:List Int):List Int:=od.foldl (stp fl bk) g
theorem Mf {i:Nat} (h:i < bk.length):bk.getD i []=bk[i]:=by rw[Qf,Qg h]; rfl
theorem lY (hb:bk.length=n) (hf:okG n fl) {g:List Int} (hg:okG n g) {i:Nat} (hi:i < n) (j:Nat):(stp fl bk g i).getD j 0=if j=i then (dz g fl bk).getD i 0 else g.getD j 0:=by
 unfold stp
 have h1:i < fl.length:=by rw[hf.1]; exact hi
 have h2:i < bk.length:=by lia
 by_cases e:j=i
 ·subst e
  rw[if_pos rfl,Qf,Vl (by rw[hg.1]; exact hi),Mf h2]
  unfold dz
  rw[d7 (duF g) h1 h2]
  rfl
 ·rw[if_neg e,Qf,UG (fun z=>e z.symm),Qf]
theorem HS (hb:bk.length=n) (ok:okB bk) (hf:okG n fl) {g:List Int} (hg:okG n g) {i:Nat} (hi:i < n):okG n (stp fl bk g i):=by
 refine Bj (by unfold stp; rw[Vd]; exact hg.1) fun j hj=>?_
 rw[lY hb hf hg hi]
 split
 ·exact gG (jm hb ok hf g) hi
 ·exact gG hg hj
theorem Lf (hb:bk.length=n) (ok:okB bk) (hf:okG n fl) {g:List Int} (hg:okG n g) (k:LeG g (dz g fl bk)) {i:Nat} (hi:i < n) :
  LeG g (stp fl bk g i)/\LeG (stp fl bk g i) (dz (stp fl bk g i) fl bk)/\∀ w,LeG g w->LeG (dz w fl bk) w->LeG (stp fl bk g i) w:=by
 have up:LeG g (stp fl bk g i):=fun j=>by
  rw[lY hb hf hg hi]
  split
  ·rename_i e; subst e; exact k j
  ·exact RB _
 refine⟨up,fun j=>?_,fun w h1 h2 j=>?_⟩
 ·have m:=eX hb ok hf up j
  rw[lY hb hf hg hi]
  split
  ·rename_i e; subst e; exact m
  ·exact Vm (k j) m
 ·rw[lY hb hf hg hi]
  split
  ·rename_i e
   subst e
   exact Vm (eX hb ok hf h1 j) (h2 j)
  ·exact h1 j
theorem FP (hb:bk.length=n) (ok:okB bk) (hf:okG n fl) {g:List Int} (hg:okG n g) (k:LeG (dz g fl bk) g) {i:Nat} (hi:i < n) :
  LeG (stp fl bk g i) g/\LeG (dz (stp fl bk g i) fl bk) (stp fl bk g i)/\∀ w,LeG w g->LeG w (dz w fl bk)->LeG w (stp fl bk g i):=by
 have dn:LeG (stp fl bk g i) g:=fun j=>by
  rw[lY hb hf hg hi]
  split
  ·rename_i e; subst e; exact k j
  ·exact RB _
 refine⟨dn,fun j=>?_,fun w h1 h2 j=>?_⟩
 ·have m:=eX hb ok hf dn j
  rw[lY hb hf hg hi]
  split
  ·rename_i e; subst e; exact m
  ·exact Vm m (k j)
 ·rw[lY hb hf hg hi]
  split
  ·rename_i e
   subst e
   exact Vm (h2 j) (eX hb ok hf h1 j)
  ·exact h1 j
theorem jb {g g':List Int} (hl:g.length=g'.length) (h:LeG g g') (h':LeG g' g):g=g':=by
 have e1:=eG hl fun i _=>h i
 have e2:=eG hl.symm fun i _=>h' i
 exact e1.2 (by lia)
def Goes (fl:List Int) (bk:List (List Pl)) (up:Bool) (g g':List Int):Prop:=if up=true then LeG g g'/\LeG g' (dz g' fl bk)/\∀ w,LeG g w->LeG (dz w fl bk) w->LeG g' w else LeG g' g/\LeG (dz g' fl bk) g'/\∀ w,LeG w g->LeG w (dz w fl bk)->LeG w g'
def Dir (fl:List Int) (bk:List (List Pl)) (up:Bool) (g:List Int):Prop:=if up=true then LeG g (dz g fl bk) else LeG (dz g fl bk) g
theorem iU {up:Bool} {g g':List Int} (h:Goes fl bk up g g'):Dir fl bk up g':=by
 cases up with
 | true=>exact h.2.1
 | false=>exact h.2.1
theorem uN {up:Bool} {g:List Int} (h:Dir fl bk up g):Goes fl bk up g g:=by
 cases up with
 | true=>exact⟨fun i=>RB _,h,fun w h1 _=>h1⟩
 | false=>exact⟨fun i=>RB _,h,fun w h1 _=>h1⟩
theorem pZ {up:Bool} {a b c:List Int} (h:Goes fl bk up a b) (k:Goes fl bk up b c):Goes fl bk up a c:=by
 cases up with
 | true=>exact⟨h.1.trans k.1,k.2.1,fun w h1 h2=>k.2.2 w (h.2.2 w h1 h2) h2⟩
 | false=>exact⟨k.1.trans h.1,k.2.1,fun w h1 h2=>k.2.2 w (h.2.2 w h1 h2) h2⟩
theorem xU (hb:bk.length=n) (ok:okB bk) (hf:okG n fl) {up:Bool} {g:List Int} (hg:okG n g) (k:Dir fl bk up g) {i:Nat} (hi:i < n):Goes fl bk up g (stp fl bk g i):=by
 cases up with
 | true=>exact Lf hb ok hf hg k hi
 | false=>exact FP hb ok hf hg k hi
theorem BZ {up:Bool} {a b c:List Int} (hl:a.length=b.length) (h:Goes fl bk up a b) (k:Goes fl bk up b c) (e:c=a):b=a:=by
 subst e
 cases up with
 | true=>exact (jb hl h.1 k.1).symm
 | false=>exact jb hl.symm h.1 k.1
theorem jP (hb:bk.length=n) (ok:okB bk) (hf:okG n fl) {up:Bool}:∀ (od:List Nat) {g:List Int},(∀ i∈od,i < n)->okG n g->Dir fl bk up g->Goes fl bk up g (swp fl bk od g)/\okG n (swp fl bk od g)
 | [],g,_,hg,k=>⟨uN k,hg⟩
 | i::od,g,ho,hg,k=>by
  have hi:=ho i Qi
  have h1:=xU hb ok hf hg k hi
  have h2:=HS hb ok hf hg hi
  obtain⟨h3,h4⟩:=jP hb ok hf od (fun j hj=>ho j (Qm _ hj)) h2 (iU h1)
  exact⟨pZ h1 h3,h4⟩
theorem Bm (hb:bk.length=n) (ok:okB bk) (hf:okG n fl) {up:Bool}:∀ (od:List Nat) {g:List Int},(∀ i∈od,i < n)->okG n g->Dir fl bk up g->swp fl bk od g=g->∀ i∈od,stp fl bk g i=g
 | [],g,_,_,_,_,i,hi=>by cases hi
 | j::od,g,ho,hg,k,e,i,hi=>by
  have hj:=ho j Qi
  have h1:=xU hb ok hf hg k hj
  have h2:=HS hb ok hf hg hj
  have ho':∀ i∈od,i < n:=fun i hi=>ho i (Qm _ hi)
  have h3:=(jP hb ok hf od ho' h2 (iU h1)).1
  have ej:stp fl bk g j=g:=BZ (by rw[hg.1,h2.1]) h1 h3 e
  rcases List.mem_cons.mp hi with rfl | hi
  ·exact ej
  ·have e':swp fl bk od (stp fl bk g j)=g:=e
   rw[ej] at e'
   exact Bm hb ok hf od ho' hg k e' i hi
theorem Jk (hb:bk.length=n) (ok:okB bk) (hf:okG n fl) {up:Bool} {od:List Nat} (ho:∀ i∈od,i < n) (all:∀ i < n,i∈od) {g:List Int} (hg:okG n g) (k:Dir fl bk up g) (e:swp fl bk od g=g):dz g fl bk=g:=by
 have hd:=jm hb ok hf g
 have key:∀ i,(dz g fl bk).getD i 0=g.getD i 0:=fun i=>by
  by_cases hi:i < n
  ·have:=Bm hb ok hf od ho hg k e i (all i hi)
   have h:=lY hb hf hg hi i
   rw[this,if_pos rfl] at h
   exact h.symm
  ·rw[Qf,Ru (by rw[hd.1]; lia),Qf,Ru (by rw[hg.1]; lia)]
 exact jb (by rw[hd.1,hg.1]) (fun i=>by rw[key]; exact RB _) fun i=>by rw[key]; exact RB _
def Lim (n:Nat) (fl:List Int) (bk:List (List Pl)) (up:Bool) (x z:List Int):Prop:=okG n z/\dz z fl bk=z/\Goes fl bk up x z
theorem Bp (hb:bk.length=n) (ok:okB bk) (hf:okG n fl) {up:Bool} {od:List Nat} (ho:∀ i∈od,i < n) {x:List Int} (hx:okG n x) (k:Dir fl bk up x):∀ m,okG n (itF (swp fl bk od) x m)/\Goes fl bk up x (itF (swp fl bk od) x m)
 | 0=>⟨hx,uN k⟩
 | m+1=>by
  obtain⟨h1,h2⟩:=Bp hb ok hf ho hx k m
  obtain⟨h3,h4⟩:=jP hb ok hf od ho h1 (iU h2)
  exact⟨h4,pZ h2 h3⟩
theorem Dw (hb:bk.length=n) (ok:okB bk) (hf:okG n fl) {up:Bool} {od:List Nat} (ho:∀ i∈od,i < n) {x:List Int} (hx:okG n x) (k:Dir fl bk up x):∃ m,m<=9 * n/\Stops (swp fl bk od) x m:=by
 have io:=Bp hb ok hf ho hx k
 have st:∀ k,Goes fl bk up (itF (swp fl bk od) x k) (itF (swp fl bk od) x (k+1)):=fun k=>(jP hb ok hf od ho (io k).1 (iU (io k).2)).1
 cases up with
 | true =>
  refine mW Te (9 * n) (fun k=>(sum_bound (io k).1.2).1) (fun k=>?_) (fun k ne=>?_)
  ·have:=(sum_bound (io k).1.2).2
   rw[(io k).1.1] at this
   lia
  ·obtain⟨h1,h2⟩:=eG ((io k).1.1.trans (io (k+1)).1.1.symm) fun i _=>(st k).1 i
   have:Te (itF (swp fl bk od) x k)≠Te (itF (swp fl bk od) x (k+1)):=fun e=>ne (h2 e).symm
   lia
 | false =>
  refine mW (fun g=>9 * (n:Int) - g.sum) (9 * n) (fun k=>?_) (fun k=>?_) (fun k ne=>?_)
  ·have:=(sum_bound (io k).1.2).2
   rw[(io k).1.1] at this
   show 0<=9 * (n:Int) - Te _
   lia
  ·have:=(sum_bound (io k).1.2).1
   show 9 * (n:Int) - Te _<=_
   lia
  ·obtain⟨h1,h2⟩:=eG ((io (k+1)).1.1.trans (io k).1.1.symm) fun i _=>(st k).1 i
   have:Te (itF (swp fl bk od) x (k+1))≠Te (itF (swp fl bk od) x k):=fun e=>ne (h2 e)
   show 9 * (n:Int) - Te _ < 9 * (n:Int) - Te _
   lia
end
section
variable {n:Nat} {fl fl':List Int} {bk:List (List Pl)}
theorem JD (hb:bk.length=n) (hf:okG n fl) (g:List Int) {i:Nat} (hi:i < n):(dz g fl bk).getD i 0=max (fl.getD i 0) (duF g 0 (bk.getD i [])):=by
 have h1:i < fl.length:=by rw[hf.1]; exact hi
 have h2:i < bk.length:=by lia
 unfold dz
 rw[d7 (duF g) h1 h2,Mf h2]
 exact yo g (gG hf hi).1 _
theorem xT {g:List Int} {i:Nat} (h:g.length<=i):g.getD i 0=0:=by rw[Qf,Ru h]; rfl
end
abbrev du:Stmt:=top 72
theorem bC:aO ["_law_book_here","_law_floor","_law_giving","_law_here","_law_turn","_law_ahead","_law_one","_law_step"] ["_law_book_here","_law_floor","_law_giving"] (aD du):=⟨rfl,rfl,rfl,by decide+kernel,rfl,by decide+kernel,by decide+kernel⟩
inductive xZ (vs:List V) (H:Hp) (Q:VK):Prop where
 | mk (b f g:Addr) (n:Nat) (bk:List (List Pl)) (fl x:List Int) (up:Bool) (z0:vs=[.ref b,.ref f,.ref g]) (z1:ym n H b bk) (z2:bk.length=n) (z3:H f=some (.tup (fl.map V.int))) (z4:okG n fl) (z5:H g=some (.tup (x.map V.int))) (z6:okG n x) (z7:Dir fl bk up x) (z8:∀ (r:Addr) (z:List Int) (H':Hp),aU H H'->H' r=some (.tup (z.map V.int))->Lim n fl bk up x z->Q (.ref r) H'):xZ  vs H Q
def Bx:Sp:=fun vs H Q _=>xZ  vs H Q
theorem jl {k:Nat} (F:Fun K "_law_step_by_step" "_law_step_by_step" du f fd) (B:Bt mg)
  (D_law_owed:Df P w K mg base "_law_owed" k ["_law_some","_law_giving"] (Ig K)):cI P w K mg base CX0 (k+1) f fd ["_law_book_here","_law_floor","_law_giving"] Bx:=by
 refine F.ok bC (fun vs H Q E h=>?_) (fun cdv A outer s H vs Q E hr h=>?_)
 ·obtain⟨b,f,g,n,bk,fl,x,up,rfl,_⟩:=h
  rfl
 ·obtain⟨b,f,g,n,bk,fl,x,up,rfl,hB,lb,hf,of,hg,ox,dir,q⟩:=h
  refine⟨_,(aq (bf (i:=3) bC.nd rfl (Qw rfl) (pv 2))
 (aq (cY QX rfl (bU rfl B.range_ (aa (aV bI (aV fW au (aF (r:=iV K) aX rfl B.len_ bV (aa (pv 0) aj))) au) aj)) (aJ (i:=4) bC.nd rfl (Qw rfl)) (aq (bf (i:=5) bC.nd rfl (Qw rfl) (pv 3))
 (aq (cY QX rfl (bU rfl B.range_ (aa (aF (r:=iV K) aX rfl B.len_ bV (aa (pv 0) aj)) aj)) (aJ (i:=6) bC.nd rfl (Qw rfl)) (aq (bf (i:=7) bC.nd rfl (Qw rfl) (aF (tV rfl) rfl B.max_ ql (aa (aQ (r:=cW K) aY (pv 1) (pv 6) (fun _ _=>rfl)) (aa (bc D_law_owed hr (aa (aQ (r:=dX K) aZ (pv 0) (pv 6) (fun _ _=>rfl)) (aa (pv 3) aj))) aj))))
 (aA (bf (i:=3) bC.nd rfl (Qw rfl) (aV (r:=iC K) jd (aV (r:=iC K) jd (jQ (r:=Ip K) BK (pv 3) o6 (nT (pv 6))) (cA (aa (pv 7) aj))) (jQ (r:=Ip K) BK (pv 3) (nT (aV bI (pv 6) au)) o6))))))
 (aA (bA (aH (r:=J9 K) (Dd hr.uU) (pv 3) (pv 5) (aL _)) (aA (aG (pv 3))) aN)))))
 (aA (aG (pv 3))))),?_⟩
  have okb:=hB.okB
  obtain⟨us0,hb,rb,l12⟩:=id hB
  have lu0:=rb.length
  let od:List Nat:=(Rk n).map fun i=>i
  have ho:∀ i∈od,i < n:=fun i hi=>by
   obtain⟨j,hj,rfl⟩:=List.mem_map.mp hi
   have:=List.mem_range.mp hj
   lia
  have hall:∀ i < n,i∈od:=fun i hi=>List.mem_map.mpr ⟨i,List.mem_range.mpr (by lia),by lia⟩
  have hod:∀ i < n,od[i]? = some i:=fun i hi=>by
   show ((Rk n).map _)[i]? = _
   rw[QH,T4 hi]
   rfl
  have lod:od.length=n:=by show ((Rk n).map _).length=n; rw[Qc,Ro]
  obtain⟨m,hm,st⟩:=Dw lb okb of ho ox dir
  have io:=Bp lb okb of ho ox dir
  clear_value od
  refine⟨_,rfl,_,rfl,b,_,rfl,.inl (SqL.of hb),_,_,rfl,rfl,.inl ⟨by decide,by decide⟩,_,_,rfl,rfl,_,rfl,by lia,by lia,dI (lo:=0) (n:=(9 * (us0.length:Int)+1).toNat) (fun t σ H3=>∃ (hh:Addr) (u0 u1 u2 u3:Option V),σ=[some (.ref b),some (.ref f),some (.ref g),some (.ref hh),u0,u1,u2,u3]/\aU H H3/\H3 hh=some (.tup ((itF (swp fl bk od) x t).map V.int))/\t<=m)
   ⟨g,_,_,_,_,rfl,aU.refl _,hg,QW _⟩ ?_ ?_⟩
  ·rintro t σ H3 ht ⟨hh,u0,u1,u2,u3,rfl,s3,eh,htm⟩
   refine⟨_,rfl,?_⟩
   refine⟨_,rfl,b,_,rfl,.inl (SqL.of (s3 _ _ hb)),_,rfl,by lia,by lia,dI (lo:=0) (n:=us0.length) (fun i σ H4=>∃ (h2:Addr) (v0 v1:Option V),σ=[some (.ref b),some (.ref f),some (.ref g),some (.ref h2),some (.int (0+(t:Int))),some (.ref hh),v0,v1]/\aU H3 H4/\H4 h2=some (.tup ((swp fl bk (od.take i) (itF (swp fl bk od) x t)).map V.int)))
    ⟨hh,_,_,rfl,aU.refl _,by rw[Rp]; exact eh⟩ ?_ ?_⟩
   ·rintro i σ H4 hi ⟨h2,v0,v1,rfl,s4,e2⟩
    have hin:i < n:=by lia
    have od':∀ j∈od.take i,j < n:=fun j hj=>ho j (List.mem_of_mem_take hj)
    obtain⟨_,og⟩:=jP lb okb of (od.take i) od' (io t).1 (iU (io t).2)
    have enext:swp fl bk (od.take (i+1)) (itF (swp fl bk od) x t)=stp fl bk (swp fl bk (od.take i) (itF (swp fl bk od) x t)) i:=by
     unfold swp
     rw[QR,hod i hin]
     show ((od.take i)++[i]).foldl _ _=_
     rw[V8]
     rfl
    generalize swp fl bk (od.take i) (itF (swp fl bk od) x t)=gs at *
    have hfi:i < fl.length:=by rw[of.1]; exact hin
    have at1:atI (fl.map V.int) (0+(i:Int))=some (.int fl[i]):=by rw[RV]; exact gW hfi
    have hy:us0[i]? = some us0[i]:=Qg hi
    obtain⟨c,as,ps,ec,hps,hc,l100,rps⟩:=rb.get hy
    have at2:atI us0 (0+(i:Int))=some (.ref c):=by rw[RV,← ec]; exact gK hy
    have s34:aU H H4:=s3.trans s4
    have hf0:=(of.2 fl[i] (S8 hfi)).1
    refine⟨_,rfl,_,rfl,f,_,_,_,rfl,rfl,SqT.of (s34 _ _ hf),at1,_,rfl,_,rfl,b,_,_,_,rfl,rfl,SqL.of (s34 _ _ hb),at2,_,rfl,c,h2,n,as,ps,gs,rfl,s34 _ _ hc,l100,rps.bu (fun a xs q=>s34 a _ q),SqT.of e2,by rw[og.1]; lia,fun H5 s5=>?_⟩
    refine⟨_,_,rfl,?_⟩
    have ez:(if duF gs 0 ps > fl[i] then duF gs 0 ps else fl[i])=duF gs fl[i] ps:=by
     rw[yo gs hf0 ps]
     split <;> lia
    rw[ez]
    refine gN ?_
    dsimp only
    refine PK (k:=i) (v:=.int (duF gs fl[i] ps)) rfl (by rw[RV (i:Int)]; rfl) rfl (s5 _ _ e2) (by rw[Qc,og.1]; exact hin) (by rw[Qc,og.1]; lia) fun p6 H6 s6 e6=>?_
    refine⟨p6,_,_,rfl,s4.trans (s5.trans s6),?_⟩
    rw[e6,enext]
    unfold stp
    have eb:bk.getD i []=ps:=by rw[Qf,hps]; rfl
    have ef:fl.getD i 0=fl[i]:=by rw[Qf,Qg hfi]; rfl
    rw[eb,ef,List.map_set]
   ·rintro σ H4 ⟨h2,v0,v1,rfl,s4,e2⟩
    rw[show us0.length=od.length by lia,Qq] at e2
    refine⟨_,rfl,_,rfl,h2,hh,_,_,rfl,rfl,SqT.of e2,SqT.of (s4 _ _ eh),_,rfl,?_⟩
    by_cases e:swp fl bk od (itF (swp fl bk od) x t)=itF (swp fl bk od) x t
    ·rw[decide_eq_true e]
     refine gm ⟨_,rfl,?_⟩
     rw[e] at e2
     exact q h2 _ H4 (s3.trans s4) e2 ⟨(io t).1,Jk lb okb of ho hall (io t).1 (iU (io t).2) e,(io t).2⟩
    ·rw[decide_eq_false e]
     refine cV ⟨h2,_,_,_,_,rfl,s3.trans s4,e2,?_⟩
     rcases Wn t m with z | z
     ·exact z
     ·have:t=m:=by lia
      subst this
      exact absurd st.1 e
  ·rintro σ H3 ⟨hh,u0,u1,u2,u3,rfl,s3,eh,htm⟩
   lia
def J5 (x:Nat):List Nat->List Nat
 | []=>[x]
 | y::r=>if x<=y then x::y::r else y::J5 x r
def vH:List Nat->List Nat
 | []=>[]
 | x::r=>J5 x (vH r)
theorem o5 (x:Nat):∀ l:List Nat,(J5 x l).Perm (x::l)
 | []=>.refl _
 | y::r=>by
  rw[J5]
  split
  ·exact .refl _
  ·exact ((o5 x r).cons y).trans (.swap x y r)
theorem fY:∀ l:List Nat,(vH l).Perm l
 | []=>.refl _
 | x::r=>(o5 x _).trans ((fY r).cons x)
theorem nW (x:Nat):∀ {l:List Nat},l.Pairwise (·<=·)->(J5 x l).Pairwise (·<=·)
 | [],_=>by rw[J5]; simp
 | y::r,h=>by
  rw[J5]
  rw[Sw] at h
  split
  ·rw[Sw,Sw]
   refine⟨fun z hz=>?_,h⟩
   rcases List.mem_cons.mp hz with rfl | hz
   ·assumption
   ·have:=h.1 z hz
    lia
  ·rw[Sw]
   refine⟨fun z hz=>?_,nW x h.2⟩
   rcases List.mem_cons.mp ((o5 x r).mem_iff.mp hz) with rfl | hz
   ·lia
   ·exact h.1 z hz
theorem jq:∀ l:List Nat,(vH l).Pairwise (·<=·)
 | []=>by rw[vH]; simp
 | x::r=>nW x (jq r)
theorem wg {l:List Nat} {ms:List Int} (p:ms.Perm (l.map fun i:Nat=>(i:Int))) (h:ms.Pairwise (·<=·)):ms=(vH l).map fun i:Nat=>(i:Int):=by
 refine qg (p.trans ((fY l).map _).symm) h ?_
 rw[V6]
 exact (jq l).imp fun h=>by lia
mutual
def ren (f:Nat->Nat):Tm->Tm
 | .free=>.free
 | .never=>.never
 | .gives i k=>.gives (f i) k
 | .sum c k=>.sum (vH (c.map f)) k
 | .crowd c k m=>.crowd (vH (c.map f)) k m
 | .all ts=>.all (vG f ts)
 | .any ts=>.any (vG f ts)
def vG (f:Nat->Nat):List Tm->List Tm
 | []=>[]
 | t::r=>ren f t::vG f r
end
theorem j5 (f:Nat->Nat):∀ ts:List Tm,vG f ts=ts.map (ren f)
 | []=>by rw[vG]; rfl
 | t::r=>by rw[vG,j5 f r]; rfl
mutual
theorem BV (f:Nat->Nat):∀ t:Tm,(ren f t).dep=t.dep
 | .free=>by rw[ren]
 | .never=>by rw[ren]
 | .gives i k=>by rw[ren,Tm.dep,Tm.dep] <;> simp
 | .sum c k=>by rw[ren,Tm.dep,Tm.dep] <;> simp
 | .crowd c k m=>by rw[ren,Tm.dep,Tm.dep] <;> simp
 | .all ts=>by rw[ren,Tm.dep,Tm.dep,rO f ts]
 | .any ts=>by rw[ren,Tm.dep,Tm.dep,rO f ts]
theorem rO (f:Nat->Nat):∀ ts:List Tm,tdL (vG f ts)=tdL ts
 | []=>by rw[vG]
 | t::r=>by rw[vG,tdL,tdL,BV f t,rO f r]
end
def j8 (rs:List Nat) (i:Nat):Nat:=rs.getD i 0
theorem xR {rs:List Nat} {i:Nat} (h:i < rs.length):j8 rs i∈rs:=by
 unfold j8
 rw[Qf,Qg h]
 exact S8 h
theorem Gw {rs:List Nat} (nd:rs.Nodup) {i j:Nat} (hi:i < rs.length) (hj:j < rs.length) (hij:i < j):j8 rs i≠j8 rs j:=by
 unfold j8
 rw[Qf,Qg hi,Qf,Qg hj]
 exact List.pairwise_iff_getElem.mp nd i j hi hj hij
theorem uT {rs c:List Nat} {m n:Nat} (nd:rs.Nodup) (hm:m<=rs.length) (hv:∀ x∈rs,x < n) (hc:∀ i∈c,i < m) (hp:c.Pairwise (· < ·)) :
  (∀ i∈vH (c.map (j8 rs)),i < n)/\(vH (c.map (j8 rs))).Pairwise (· < ·)/\(vH (c.map (j8 rs))).length=c.length:=by
 have pm:=fY (c.map (j8 rs))
 refine⟨fun i hi=>?_,?_,by rw[pm.length_eq,Qc]⟩
 ·obtain⟨j,hj,rfl⟩:=List.mem_map.mp (pm.mem_iff.mp hi)
  exact hv _ (xR (Qs (hc j hj) hm))
 ·have nd2:(c.map (j8 rs)).Nodup:=by
   show (c.map (j8 rs)).Pairwise (·≠·)
   rw[V6]
   exact List.Pairwise.imp_of_mem (fun {a b} ha hb h=>Gw nd (Qs (hc a ha) hm) (Qs (hc b hb) hm) h) hp
  have nd3:(vH (c.map (j8 rs))).Nodup:=pm.nodup_iff.mpr nd2
  exact ((jq _).and nd3).imp fun h=>by lia
theorem Dh {rs:List Nat} {i:Nat} (h:i < rs.length):atI (rs.map vN) (i:Int)=some (vN (j8 rs i)):=by
 refine gK ?_
 unfold j8
 rw[QH,Qf,Qg h]
 rfl
theorem Li {b:Bool} {A B:Prop} (h:b=true) (a:A):if b=true then A else B:=by rw[if_pos h]; exact a
theorem pF {b:Bool} {A B:Prop} (h:b=false) (a:B):if b=true then A else B:=by rw[if_neg (by rw[h]; exact Qk)]; exact a
abbrev gk:Stmt:=top 65
theorem pH:aO ["_law_term_here","_law_row"] ["_law_term_here","_law_row"] (aD gk):=⟨rfl,rfl,rfl,by decide+kernel,rfl,by decide+kernel,by decide+kernel⟩
inductive Jh (K:QF) (d:Nat) (vs:List V) (H:Hp) (Q:VK):Prop where
 | mk (v:V) (row:Addr) (m n:Nat) (t:Tm) (rs:List Nat) (z0:vs=[v,.ref row]) (z1:gZ m H v t) (z2:t.dep<=d) (z3:SqL K H row (rs.map vN)) (z4:m<=rs.length) (z5:rs.Nodup) (z6:(∀ x∈rs,x < n)) (z7:∀ (v':V) (H':Hp),aU H H'->gZ n H' v' (ren (j8 rs) t)->Q v' H'):Jh K d vs H Q
def zx (K:QF) (d:Nat):Sp:=fun vs H Q _=>Jh K d vs H Q
theorem GF:cI P w K mg base CX0 0 f fd ["_law_term_here","_law_row"] (zx K 0):=by
 have no:∀ vs H Q E,¬ zx K 0 vs H Q E:=fun vs H Q E h=>by
  obtain⟨v,row,m,n,t,rs,_,_,h1,_⟩:=h
  have:=t.lB
  lia
 exact⟨fun vs H Q E h=>absurd h (no vs H Q E),fun A outer s H args us vs Q E _ _ _ _ h=>absurd h (no vs H Q E)⟩
theorem Cu {K:QF} {H H':Hp} {a:Addr} {xs:List V} (e:aU H H') (h:SqL K H a xs):SqL K H' a xs:=e.seq h
theorem fP {d:Nat} (F:Fun K "_law_renamed" "_law_renamed" gk f fd) (B:Bt mg)
  (D_law_renamed:Df P w K mg base "_law_renamed" d ["_law_term_here","_law_row"] (zx K d)):cI P w K mg base CX0 (d+1) f fd ["_law_term_here","_law_row"] (zx K (d+1)):=by
 refine F.ok pH (fun vs H Q E h=>?_) (fun cdv A outer s H vs Q E hr h=>?_)
 ·obtain⟨v,row,m,n,t,rs,rfl,_⟩:=h
  rfl
 ·obtain⟨v,row,m,n,t,rs,rfl,rt,hd,hR,hm,nd,hv,q⟩:=h
  refine⟨_,(aq (bA (aH cz (aQ (r:=cW K) aY (pv 0) au (fun _ _=>rfl)) bB (aL _)) (aA (aG (cA (aa bB (aa (aQ (r:=dX K) aZ (pv 1) (aQ (r:=cW K) aY (pv 0) au (fun _ _=>rfl)) (fun _ _=>rfl)) (aa (aQ (r:=cW K) aY (pv 0) au (fun _ _=>rfl)) aj)))))) aN)
 (aq (bA (aH (r:=rIn K false) iG (aQ (r:=cW K) aY (pv 0) au (fun _ _=>rfl)) (cA (aa bB (aa bB aj))) rfl) (aA (aG (aV (r:=iC K) jd (cA (aa (aQ (r:=cW K) aY (pv 0) au (fun _ _=>rfl)) (aa (bJ (r:=fD K) bL rfl B.tuple_ bQ (aa (aF (r:=Il K) Ad rfl B.sorted_ (by decide+kernel) (aa (bK (L:=["_law_one"]) (F:=["_law_row"]) (cap:=[1]) rfl (bD rfl rfl (by kernel_rfl)) (dj (aQ (r:=cW K) aY (pv 0) au (fun _ _=>rfl))) (fun _ _ _ _ _=>(aJ (i:=0) (bw (by decide+kernel)) rfl (Qw rfl))) (fun _ _ _ _ _=>bR) (fun _ _ _ _ _=>(aQ (r:=dX K) aZ (pv 1) (pv 0) (fun _ _=>rfl)))) aj)) aj)) aj))) (jQ (r:=Ip K) BK (pv 0) (nT au) o6)))) aN)
 (aq (bA (aH (r:=rIn K false) iG (aQ (r:=cW K) aY (pv 0) au (fun _ _=>rfl)) (cA (aa bB (aa bB aj))) rfl) (aA (aG (cA (aa (aQ (r:=cW K) aY (pv 0) au (fun _ _=>rfl)) (aa (bJ (r:=fD K) bL rfl B.tuple_ bQ (aa (bK (L:=["_law_part"]) (F:=["_law_row"]) (cap:=[1]) rfl (bD rfl rfl (by kernel_rfl)) (dj (aQ (r:=cW K) aY (pv 0) au (fun _ _=>rfl))) (fun _ _ _ _ _=>(aJ (i:=0) (bw (by decide+kernel)) rfl (Qw rfl))) (fun _ _ _ _ _=>bR) (fun _ _ _ _ _=>(bc D_law_renamed hr (aa (pv 0) (aa (pv 1) aj))))) aj)) aj))))) aN)
 (aA (aG (pv 0)))))),?_⟩
  cases rt with
  | @free a ha =>
   refine⟨_,rfl,a,_,_,_,rfl,rfl,SqT.of ha,aC (k:=0) rfl,rfl,_,rfl,cg (aK (by decide)) ?_⟩
   refine⟨_,rfl,a,_,_,_,rfl,rfl,SqT.of ha,aC (k:=0) rfl,small (by show 2<=1000; decide),fun p1 h1=>⟨p1,_,rfl,.inr (SqT.of ao),rfl,rfl,_,rfl,pF (by decide+kernel) ?_⟩⟩
   generalize eH1:upd H p1 _=H1
   obtain⟨g1,_⟩:=aP eH1 h1
   refine⟨_,rfl,a,_,_,_,rfl,rfl,SqT.of (g1 _ _ ha),aC (k:=0) rfl,small (by show 2<=1000; decide),fun p2 h2=>⟨p2,_,rfl,.inr (SqT.of ao),rfl,rfl,_,rfl,pF (by decide+kernel) ?_⟩⟩
   generalize eH2:upd H1 p2 _=H2
   obtain⟨g2,_⟩:=aP eH2 h2
   refine⟨_,rfl,?_⟩
   have q':=q (.ref a) H2 (g1.trans g2) (by rw[ren]; exact .free (g2 _ _ (g1 _ _ ha)))
   exact q'
  | @never a ha =>
   refine⟨_,rfl,a,_,_,_,rfl,rfl,SqT.of ha,aC (k:=0) rfl,rfl,_,rfl,cg (aK (by decide)) ?_⟩
   refine⟨_,rfl,a,_,_,_,rfl,rfl,SqT.of ha,aC (k:=0) rfl,small (by show 2<=1000; decide),fun p1 h1=>⟨p1,_,rfl,.inr (SqT.of ao),rfl,rfl,_,rfl,pF (by decide+kernel) ?_⟩⟩
   generalize eH1:upd H p1 _=H1
   obtain⟨g1,_⟩:=aP eH1 h1
   refine⟨_,rfl,a,_,_,_,rfl,rfl,SqT.of (g1 _ _ ha),aC (k:=0) rfl,small (by show 2<=1000; decide),fun p2 h2=>⟨p2,_,rfl,.inr (SqT.of ao),rfl,rfl,_,rfl,pF (by decide+kernel) ?_⟩⟩
   generalize eH2:upd H1 p2 _=H2
   obtain⟨g2,_⟩:=aP eH2 h2
   refine⟨_,rfl,?_⟩
   have q':=q (.ref a) H2 (g1.trans g2) (by rw[ren]; exact .never (g2 _ _ (g1 _ _ ha)))
   exact q'
  | @gives a i k ha hi k1 k9 =>
   refine⟨_,rfl,a,_,_,_,rfl,rfl,SqT.of ha,aC (k:=0) rfl,rfl,_,rfl,jW rfl ?_⟩
   refine⟨_,rfl,_,rfl,a,_,_,_,rfl,rfl,SqT.of ha,aC (k:=1) rfl,row,_,_,_,rfl,rfl,hR,Dh (by lia),_,rfl,a,_,_,_,rfl,rfl,SqT.of ha,aC (k:=2) rfl,small (by show 3<=1000; decide),fun p1 h1=>?_⟩
   refine q (.ref p1) _ (aB h1 _) ?_
   rw[ren]
   exact .gives ao (hv _ (xR (by lia))) k1 k9
  | @sum a b c k ha hb hc hp l20 l2 k1 k99 =>
   obtain⟨x1,x2,x3⟩:=uT nd hm hv hc hp
   refine⟨_,rfl,a,_,_,_,rfl,rfl,SqT.of ha,aC (k:=0) rfl,rfl,_,rfl,cg (aK (by decide)) ?_⟩
   refine⟨_,rfl,a,_,_,_,rfl,rfl,SqT.of ha,aC (k:=0) rfl,small (by show 2<=1000; decide),fun p1 h1=>⟨p1,_,rfl,.inr (SqT.of ao),rfl,rfl,_,rfl,Li (by decide+kernel) ?_⟩⟩
   generalize eH1:upd H p1 _=H1
   obtain⟨g1,_⟩:=aP eH1 h1
   refine⟨_,rfl,a,_,_,_,rfl,rfl,SqT.of (g1 _ _ ha),aC (k:=0) rfl,?_⟩
   refine⟨_,rfl,a,_,_,_,rfl,rfl,SqT.of (g1 _ _ ha),aC (k:=1) rfl,b,rfl,⟨_,SqT.of (g1 _ _ hb)⟩,fun D hD=>cL (K:=K) (a:=b) (xs:=c.map vN) (fun i zs σ' H2=>(∃ u,σ'=[u,some (.ref row)])/\zs=((c.take i).map (j8 rs)).map vN/\aU H1 H2/\H2 D=some (.lst zs))
    ⟨⟨_,rfl⟩,rfl,aB hD _,ao⟩ (fun i zs σ' H2 _ h=>⟨SqT.of (h.2.2.1 _ _ (g1 _ _ hb)),h.2.2.2⟩) ?_ ?_⟩
   ·rintro j zs x σ' H2 hx ⟨⟨u,rfl⟩,e1,sm,hDl⟩
    obtain⟨i,hi,rfl⟩:=qP hx
    have him:=hc i (QC hi)
    refine gT ?_
    refine⟨_,rfl,_,rfl,row,_,_,_,rfl,rfl,Cu (g1.trans sm) hR,Dh (by lia),hDl,?_,⟨_,rfl⟩,?_,aW sm hD _,ao⟩
    ·rw[e1,Qc,Qc,Qv]
     exact aM (by lia)
    ·rw[e1,take_snoc (j8 rs) hi,Qj]
     rfl
   ·rintro zs σ' H2 ⟨_,e1,sm,hDl⟩
    rw[Qc,Qq] at e1
    refine⟨D,(c.map (j8 rs)).map fun i:Nat=>(i:Int),rfl,SqL.of (by rw[hDl,e1,ie]),by rw[Qc,Qc]; lia,fun ms pm so l hl=>?_⟩
    rw[wg pm so,← ie]
    generalize eH3:upd H2 l _=H3
    obtain⟨g3,e3⟩:=aP eH3 hl
    refine⟨l,_,rfl,.inl ⟨SqL.of e3,fun p4 h4=>?_⟩⟩
    generalize eH4:upd H3 p4 _=H4
    obtain⟨g4,e4⟩:=aP eH4 h4
    refine⟨small (by show 2<=1000; decide),fun p5 h5=>?_⟩
    generalize eH5:upd H4 p5 _=H5
    obtain⟨g5,e5⟩:=aP eH5 h5
    have s5:aU H H5:=g1.trans (sm.trans (g3.trans (g4.trans g5)))
    refine⟨_,rfl,_,rfl,a,_,rfl,SqT.of (s5 _ _ ha),(by show ¬ (HT.sIx 3 0 (some 2)=0/\HT.sIx 3 3 none=3); decide),fun p6 h6=>?_⟩
    have ec:wY [V.str "sum",.ref b,.int k] (some 2) none=[.int k]:=rfl
    rw[ec]
    generalize eH6:upd H5 p6 _=H6
    obtain⟨g6,e6⟩:=aP eH6 h6
    refine⟨p5,p6,_,_,rfl,rfl,SqT.of (g6 _ _ e5),SqT.of e6,small (by show 3<=1000; decide),fun z=>(by cases z),fun _ z=>(by cases z),fun _ _ p7 h7=>?_⟩
    refine q (.ref p7) _ (s5.trans (g6.trans (aB h7 _))) ?_
    rw[ren]
    exact .sum ao (aB h7 _ _ _ (g6 _ _ (g5 _ _ e4))) x1 x2 (by lia) (by lia) k1 k99
  | @crowd a b c k mm ha hb hc hp l20 l1 k1 k9 m1 m12 =>
   obtain⟨x1,x2,x3⟩:=uT nd hm hv hc hp
   refine⟨_,rfl,a,_,_,_,rfl,rfl,SqT.of ha,aC (k:=0) rfl,rfl,_,rfl,cg (aK (by decide)) ?_⟩
   refine⟨_,rfl,a,_,_,_,rfl,rfl,SqT.of ha,aC (k:=0) rfl,small (by show 2<=1000; decide),fun p1 h1=>⟨p1,_,rfl,.inr (SqT.of ao),rfl,rfl,_,rfl,Li (by decide+kernel) ?_⟩⟩
   generalize eH1:upd H p1 _=H1
   obtain⟨g1,_⟩:=aP eH1 h1
   refine⟨_,rfl,a,_,_,_,rfl,rfl,SqT.of (g1 _ _ ha),aC (k:=0) rfl,?_⟩
   refine⟨_,rfl,a,_,_,_,rfl,rfl,SqT.of (g1 _ _ ha),aC (k:=1) rfl,b,rfl,⟨_,SqT.of (g1 _ _ hb)⟩,fun D hD=>cL (K:=K) (a:=b) (xs:=c.map vN) (fun i zs σ' H2=>(∃ u,σ'=[u,some (.ref row)])/\zs=((c.take i).map (j8 rs)).map vN/\aU H1 H2/\H2 D=some (.lst zs))
    ⟨⟨_,rfl⟩,rfl,aB hD _,ao⟩ (fun i zs σ' H2 _ h=>⟨SqT.of (h.2.2.1 _ _ (g1 _ _ hb)),h.2.2.2⟩) ?_ ?_⟩
   ·rintro j zs x σ' H2 hx ⟨⟨u,rfl⟩,e1,sm,hDl⟩
    obtain⟨i,hi,rfl⟩:=qP hx
    have him:=hc i (QC hi)
    refine gT ?_
    refine⟨_,rfl,_,rfl,row,_,_,_,rfl,rfl,Cu (g1.trans sm) hR,Dh (by lia),hDl,?_,⟨_,rfl⟩,?_,aW sm hD _,ao⟩
    ·rw[e1,Qc,Qc,Qv]
     exact aM (by lia)
    ·rw[e1,take_snoc (j8 rs) hi,Qj]
     rfl
   ·rintro zs σ' H2 ⟨_,e1,sm,hDl⟩
    rw[Qc,Qq] at e1
    refine⟨D,(c.map (j8 rs)).map fun i:Nat=>(i:Int),rfl,SqL.of (by rw[hDl,e1,ie]),by rw[Qc,Qc]; lia,fun ms pm so l hl=>?_⟩
    rw[wg pm so,← ie]
    generalize eH3:upd H2 l _=H3
    obtain⟨g3,e3⟩:=aP eH3 hl
    refine⟨l,_,rfl,.inl ⟨SqL.of e3,fun p4 h4=>?_⟩⟩
    generalize eH4:upd H3 p4 _=H4
    obtain⟨g4,e4⟩:=aP eH4 h4
    refine⟨small (by show 2<=1000; decide),fun p5 h5=>?_⟩
    generalize eH5:upd H4 p5 _=H5
    obtain⟨g5,e5⟩:=aP eH5 h5
    have s5:aU H H5:=g1.trans (sm.trans (g3.trans (g4.trans g5)))
    refine⟨_,rfl,_,rfl,a,_,rfl,SqT.of (s5 _ _ ha),(by show ¬ (HT.sIx 4 0 (some 2)=0/\HT.sIx 4 4 none=4); decide),fun p6 h6=>?_⟩
    have ec:wY [V.str "crowd",.ref b,.int k,.int mm] (some 2) none=[.int k,.int mm]:=rfl
    rw[ec]
    generalize eH6:upd H5 p6 _=H6
    obtain⟨g6,e6⟩:=aP eH6 h6
    refine⟨p5,p6,_,_,rfl,rfl,SqT.of (g6 _ _ e5),SqT.of e6,small (by show 4<=1000; decide),fun z=>(by cases z),fun _ z=>(by cases z),fun _ _ p7 h7=>?_⟩
    refine q (.ref p7) _ (s5.trans (g6.trans (aB h7 _))) ?_
    rw[ren]
    exact .crowd ao (aB h7 _ _ _ (g6 _ _ (g5 _ _ e4))) x1 x2 (by lia) (by lia) k1 k9 m1 m12
  | @all a b us ts ha hb l2 l6 rl =>
   have hdl:tdL ts<=d:=by rw[Tm.dep] at hd; lia
   have el:=rl.length
   refine⟨_,rfl,a,_,_,_,rfl,rfl,SqT.of ha,aC (k:=0) rfl,rfl,_,rfl,cg (aK (by decide)) ?_⟩
   refine⟨_,rfl,a,_,_,_,rfl,rfl,SqT.of ha,aC (k:=0) rfl,small (by show 2<=1000; decide),fun p1 h1=>⟨p1,_,rfl,.inr (SqT.of ao),rfl,rfl,_,rfl,pF (by decide+kernel) ?_⟩⟩
   generalize eH1:upd H p1 _=H1
   obtain⟨g1,_⟩:=aP eH1 h1
   refine⟨_,rfl,a,_,_,_,rfl,rfl,SqT.of (g1 _ _ ha),aC (k:=0) rfl,small (by show 2<=1000; decide),fun p2 h2=>⟨p2,_,rfl,.inr (SqT.of ao),rfl,rfl,_,rfl,Li (by decide+kernel) ?_⟩⟩
   generalize eH2:upd H1 p2 _=H2
   obtain⟨g2,_⟩:=aP eH2 h2
   have s2:aU H H2:=g1.trans g2
   refine⟨_,rfl,a,_,_,_,rfl,rfl,SqT.of (s2 _ _ ha),aC (k:=0) rfl,?_⟩
   refine⟨_,rfl,a,_,_,_,rfl,rfl,SqT.of (s2 _ _ ha),aC (k:=1) rfl,b,rfl,⟨_,SqT.of (s2 _ _ hb)⟩,fun D hD=>cL (K:=K) (a:=b) (xs:=us) (fun i zs σ' H3=>(∃ u,σ'=[u,some (.ref row)])/\zs.length=i/\aU H2 H3/\H3 D=some (.lst zs)/\cO n H3 zs (vG (j8 rs) (ts.take i)))
    ⟨⟨_,rfl⟩,rfl,aB hD _,ao,by rw[Rp,vG]; exact .nil⟩ (fun i zs σ' H3 _ h=>⟨SqT.of (h.2.2.1 _ _ (s2 _ _ hb)),h.2.2.2.1⟩) ?_ ?_⟩
   ·rintro j zs x σ' H3 hx ⟨⟨u,rfl⟩,lz,sm,hDl,rz⟩
    obtain⟨t,ht,rt⟩:=rl.get hx
    have hj:=(List.getElem?_eq_some_iff.mp hx).1
    refine gT ?_
    refine⟨_,rfl,_,rfl,x,row,m,n,t,rs,rfl,rt.mono (s2.trans sm),QL (iR ht) hdl,Cu (s2.trans sm) hR,hm,nd,hv,fun v' H4 s4 r4=>?_⟩
    have s7:=cG (zs':=zs++[v']) (s4 _ _ hDl)
    refine⟨s4 _ _ hDl,aM (by lia),⟨_,rfl⟩,by rw[Qx,lz]; rfl,aW (sm.trans s4) hD _,ao,?_⟩
    rw[j5,take_snoc (ren (j8 rs)) ht,← j5]
    exact ((rz.mono s4).bu s7).snoc (r4.bu s7)
   ·rintro zs σ' H3 ⟨_,lz,sm,hDl,rz⟩
    rw[el,Qq] at rz
    refine⟨D,_,rfl,.inl ⟨SqL.of hDl,fun p4 h4=>?_⟩⟩
    generalize eH4:upd H3 p4 _=H4
    obtain⟨g4,e4⟩:=aP eH4 h4
    refine⟨small (by show 2<=1000; decide),fun p5 h5=>?_⟩
    refine q (.ref p5) _ (s2.trans (sm.trans (g4.trans (aB h5 _)))) ?_
    rw[ren]
    exact .all ao (aB h5 _ _ _ e4) (by lia) (by lia) (rz.mono (g4.trans (aB h5 _)))
  | @any a b us ts ha hb l2 l6 rl =>
   have hdl:tdL ts<=d:=by rw[Tm.dep] at hd; lia
   have el:=rl.length
   refine⟨_,rfl,a,_,_,_,rfl,rfl,SqT.of ha,aC (k:=0) rfl,rfl,_,rfl,cg (aK (by decide)) ?_⟩
   refine⟨_,rfl,a,_,_,_,rfl,rfl,SqT.of ha,aC (k:=0) rfl,small (by show 2<=1000; decide),fun p1 h1=>⟨p1,_,rfl,.inr (SqT.of ao),rfl,rfl,_,rfl,pF (by decide+kernel) ?_⟩⟩
   generalize eH1:upd H p1 _=H1
   obtain⟨g1,_⟩:=aP eH1 h1
   refine⟨_,rfl,a,_,_,_,rfl,rfl,SqT.of (g1 _ _ ha),aC (k:=0) rfl,small (by show 2<=1000; decide),fun p2 h2=>⟨p2,_,rfl,.inr (SqT.of ao),rfl,rfl,_,rfl,Li (by decide+kernel) ?_⟩⟩
   generalize eH2:upd H1 p2 _=H2
   obtain⟨g2,_⟩:=aP eH2 h2
   have s2:aU H H2:=g1.trans g2
   refine⟨_,rfl,a,_,_,_,rfl,rfl,SqT.of (s2 _ _ ha),aC (k:=0) rfl,?_⟩
   refine⟨_,rfl,a,_,_,_,rfl,rfl,SqT.of (s2 _ _ ha),aC (k:=1) rfl,b,rfl,⟨_,SqT.of (s2 _ _ hb)⟩,fun D hD=>cL (K:=K) (a:=b) (xs:=us) (fun i zs σ' H3=>(∃ u,σ'=[u,some (.ref row)])/\zs.length=i/\aU H2 H3/\H3 D=some (.lst zs)/\cO n H3 zs (vG (j8 rs) (ts.take i)))
    ⟨⟨_,rfl⟩,rfl,aB hD _,ao,by rw[Rp,vG]; exact .nil⟩ (fun i zs σ' H3 _ h=>⟨SqT.of (h.2.2.1 _ _ (s2 _ _ hb)),h.2.2.2.1⟩) ?_ ?_⟩
   ·rintro j zs x σ' H3 hx ⟨⟨u,rfl⟩,lz,sm,hDl,rz⟩
    obtain⟨t,ht,rt⟩:=rl.get hx
    have hj:=(List.getElem?_eq_some_iff.mp hx).1
    refine gT ?_
    refine⟨_,rfl,_,rfl,x,row,m,n,t,rs,rfl,rt.mono (s2.trans sm),QL (iR ht) hdl,Cu (s2.trans sm) hR,hm,nd,hv,fun v' H4 s4 r4=>?_⟩
    have s7:=cG (zs':=zs++[v']) (s4 _ _ hDl)
    refine⟨s4 _ _ hDl,aM (by lia),⟨_,rfl⟩,by rw[Qx,lz]; rfl,aW (sm.trans s4) hD _,ao,?_⟩
    rw[j5,take_snoc (ren (j8 rs)) ht,← j5]
    exact ((rz.mono s4).bu s7).snoc (r4.bu s7)
   ·rintro zs σ' H3 ⟨_,lz,sm,hDl,rz⟩
    rw[el,Qq] at rz
    refine⟨D,_,rfl,.inl ⟨SqL.of hDl,fun p4 h4=>?_⟩⟩
    generalize eH4:upd H3 p4 _=H4
    obtain⟨g4,e4⟩:=aP eH4 h4
    refine⟨small (by show 2<=1000; decide),fun p5 h5=>?_⟩
    refine q (.ref p5) _ (s2.trans (sm.trans (g4.trans (aB h5 _)))) ?_
    rw[ren]
    exact .any ao (aB h5 _ _ _ e4) (by lia) (by lia) (rz.mono (g4.trans (aB h5 _)))
mutual
def nn (one:Nat):Tm->Bool
 | .free=>true
 | .never=>true
 | .gives i _=>decide (i≠one)
 | .sum c _=>decide (one ∉ c)
 | .crowd c _ _=>decide (one ∉ c)
 | .all ts=>nnL one ts
 | .any ts=>nnL one ts
def nnL (one:Nat):List Tm->Bool
 | []=>true
 | t::r=>nn one t && nnL one r
end
section
variable {one:Nat} {g g':List Int} (ag:∀ j,j≠one->g.getD j 0=g'.getD j 0)
include ag
end
def JT (n:Nat) (bk:List (List Pl)):Prop:=∀ i < n,∀ p∈bk.getD i [],∀ x∈p,nn i x.2=true
mutual
theorem HX {one m:Nat} {H:Hp} {f:Nat->Nat} (hf:∀ j < m,f j≠one):∀ {v:V} {t:Tm},gZ m H v t->nn one (ren f t)=true
 | _,_,.free _=>by simp [ren,nn]
 | _,_,.never _=>by simp [ren,nn]
 | _,_,.gives _ a _ _=>by
  simp only[ren,nn]
  exact decide_eq_true (hf _ a)
 | _,_,.sum _ _ a _ _ _ _ _=>by
  simp only[ren,nn]
  refine decide_eq_true fun z=>?_
  obtain⟨j,hj,e⟩:=List.mem_map.mp ((fY _).mem_iff.mp z)
  exact hf j (a j hj) e
 | _,_,.crowd _ _ a _ _ _ _ _ _ _=>by
  simp only[ren,nn]
  refine decide_eq_true fun z=>?_
  obtain⟨j,hj,e⟩:=List.mem_map.mp ((fY _).mem_iff.mp z)
  exact hf j (a j hj) e
 | _,_,.all _ _ _ _ r=>by
  simp only[ren,nn]
  exact wV hf r
 | _,_,.any _ _ _ _ r=>by
  simp only[ren,nn]
  exact wV hf r
theorem wV {one m:Nat} {H:Hp} {f:Nat->Nat} (hf:∀ j < m,f j≠one):∀ {vs:List V} {ts:List Tm},cO m H vs ts->nnL one (vG f ts)=true
 | _,_,.nil=>by simp [vG,nnL]
 | _,_,.cons h r=>by
  simp only[vG,nnL]
  rw[HX hf h,wV hf r]
  rfl
end
def shN (one k:Nat):Nat:=k+if one<=k then 1 else 0
def shR (one m:Nat):List Nat:=(Rk m).map (shN one)
theorem Ek (one m:Nat):(shR one m).Nodup:=by
 unfold shR
 show ((Rk m).map (shN one)).Pairwise (·≠·)
 rw[V6]
 refine List.pairwise_lt_range.imp fun {a b} h=>?_
 unfold shN
 split <;> split <;> lia
theorem Mq {one m:Nat}:∀ x∈shR one m,x < m+1:=fun x hx=>by
 unfold shR at hx
 obtain⟨k,hk,rfl⟩:=List.mem_map.mp hx
 have:=List.mem_range.mp hk
 unfold shN
 split <;> lia
theorem Mi {one m j:Nat} (hj:j < m):j8 (shR one m) j≠one:=by
 unfold j8 shR
 rw[Qf,QH,T4 hj]
 show shN one j≠one
 unfold shN
 split <;> lia
abbrev lQ:Stmt:=top 66
theorem vI:aO ["_law_cell_here","_law_n","_law_one","_law_deep","_law_most"] ["_law_cell_here","_law_n","_law_one","_law_deep","_law_most"] (aD lQ):=⟨rfl,rfl,rfl,by decide+kernel,rfl,by decide+kernel,by decide+kernel⟩
inductive En (vs:List V) (H:Hp) (Q:VK):Prop where
 | mk (c:Int) (n one:Nat) (deep:Int) (mo:Nat) (z0:vs=[.int c,.int (n:Int),.int (one:Int),.int deep,.int (mo:Int)]) (z1:1<=n) (z2:n<=12) (z3:one < n) (z4:1<=deep) (z5:deep<=3) (z6:1<=mo) (z7:mo<=9) (z8:∀ (v:V) (t:Tm) (H':Hp),aU H H'->gZ n H' v t->t.dep<=3->nn one t=true->Q v H'):En  vs H Q
def Iw:Sp:=fun vs H Q _=>En  vs H Q
theorem vY (F:Fun K "_law_mine" "_law_mine" lQ f fd) (B:Bt mg)
  (D_law_term:Df P w K mg base "_law_term" 4 ["_law_cell_here","_law_n","_law_deep","_law_most"] (pO 3)) (D_law_renamed:Df P w K mg base "_law_renamed" 3 ["_law_term_here","_law_row"] (zx K 3)):cI P w K mg base CX0 5 f fd ["_law_cell_here","_law_n","_law_one","_law_deep","_law_most"] Iw:=by
 refine F.ok vI (fun vs H Q E h=>?_) (fun cdv A outer s H vs Q E hr h=>?_)
 ·obtain⟨c,n,one,deep,mo,rfl,_⟩:=h
  rfl
 ·obtain⟨c,n,one,deep,mo,rfl,n1,n12,hone,de1,de3,m1,m9,q⟩:=h
  refine⟨_,(aq (bA (aH cz (pv 1) au (aL _)) (aA (aG (cA (aa (aQ (r:=dX K) aZ (bZ (aa bB (aa bB (aa bB aj)))) (aV cR (pv 0) au) (fun _ _=>rfl)) aj)))) aN)
 (aA (aG (bc D_law_renamed hr (aa (bc D_law_term hr (aa (pv 0) (aa (aV iD (pv 1) au) (aa (pv 3) (aa (pv 4) aj))))) (aa (bK (L:=["_law_k"]) (F:=["_law_one"]) (cap:=[2]) rfl (bD rfl rfl (by kernel_rfl)) (bU rfl B.range_ (aa (aV iD (pv 1) au) aj)) (fun _ _ _ _ _=>(aJ (i:=0) (bw (by decide+kernel)) rfl (Qw rfl))) (fun _ _ _ _ _=>bR) (fun _ _ _ _ _=>(aV bI (pv 0) (bJ (r:=Mv) uy rfl B.int_ vm (aa (cu mL (pv 0) (pv 1) (aL _)) aj))))) aj)))))),?_⟩
  refine⟨_,rfl,rfl,_,rfl,?_⟩
  refine pL (fun c1=>?_) (fun c1=>?_)
  ·have en:n=1:=by
    have:=of_decide_eq_true c1
    cases n with
    | zero=>lia
    | succ n=>injection this with z; lia
   subst en
   refine⟨small (by show 3<=1000; decide),fun p7 h7=>?_⟩
   generalize eH7:upd H p7 _=H7
   obtain⟨g7,e7⟩:=aP eH7 h7
   have fin:∀ p8 (x:Q4),H7 p8=none->(x = "free"∨x = "never")->Q (.ref p8) (upd H7 p8 (.tup [.str x])):=fun p8 x h8 hx=>by
    rcases hx with rfl | rfl
    ·exact q (.ref p8) .free _ (g7.trans (aB h8 _)) (.free ao) (by decide) (by simp [nn])
    ·exact q (.ref p8) .never _ (g7.trans (aB h8 _)) (.never ao) (by decide) (by simp [nn])
   refine⟨_,rfl,_,_,rfl,rfl,(by show (0:Int) < 3; decide),?_⟩
   have u1:0<=c % 3:=Q6 _ (by lia)
   have u2:c % 3 < 3:=QT _ (by lia)
   rcases (show c % 3=0∨c % 3=1∨c % 3=2 by lia) with z | z | z
   ·exact⟨p7,_,_,_,rfl,rfl,SqL.of e7,by rw[z]; rfl,small (by show 1<=1000; decide),fun p8 h8=>fin p8 _ h8 (.inl rfl)⟩
   ·exact⟨p7,_,_,_,rfl,rfl,SqL.of e7,by rw[z]; rfl,small (by show 1<=1000; decide),fun p8 h8=>fin p8 _ h8 (.inr rfl)⟩
   ·exact⟨p7,_,_,_,rfl,rfl,SqL.of e7,by rw[z]; rfl,small (by show 1<=1000; decide),fun p8 h8=>fin p8 _ h8 (.inl rfl)⟩
  ·have en:n≠1:=fun z=>c1 (decide_eq_true (by rw[z]; rfl))
   obtain⟨m,rfl⟩:∃ m,n=m+1:=⟨n - 1,by lia⟩
   have em:((m+1:Nat):Int) - 1=(m:Int):=by lia
   have et:(((m+1:Nat):Int) - 1).toNat=m:=by lia
   refine⟨_,rfl,_,rfl,_,_,rfl,rfl,_,rfl,_,rfl,c,m,deep,(mo:Int),(by show[V.int c,V.int (((m+1:Nat):Int) - 1),V.int deep,V.int (mo:Int)]=_; rw[em]),by lia,by lia,de1,by lia,by lia,by lia,fun v t H1 s1 rt td=>?_⟩
   refine⟨_,rfl,_,_,rfl,rfl,_,rfl,by lia,by lia,fun D hD=>cT (lo:=0) (n:=(((m+1:Nat):Int) - 1).toNat) (fun i zs σ' H2=>(∃ u,σ'=[u,some (.int (one:Int))])/\zs=((Rk i).map (shN one)).map vN/\aU H1 H2/\H2 D=some (.lst zs))
    ⟨⟨_,rfl⟩,rfl,aB hD _,ao⟩ (fun i zs σ' H2 _ h=>h.2.2.2) ?_ ?_⟩
   ·rintro i zs σ' H2 hi ⟨⟨u,rfl⟩,e1,sm,hDl⟩
    refine gT ?_
    refine⟨_,rfl,_,rfl,_,rfl,_,_,rfl,rfl,.inr ⟨_,rfl,_,_,rfl,rfl,hDl,?_,⟨_,rfl⟩,?_,aW sm hD _,ao⟩⟩
    ·rw[e1,Qc,Qc,Ro]
     exact aM (by lia)
    ·rw[e1,Ww,Qj,Qj]
     congr 1
     show[V.int (0+(i:Int)+_)]=[V.int ((shN one i:Nat):Int)]
     congr 2
     unfold shN
     by_cases hc:one<=i
     ·rw[decide_eq_true (by lia),if_pos hc]
      simp
     ·rw[decide_eq_false (by lia),if_neg hc]
      simp
   ·rintro zs σ' H2 ⟨_,e1,sm,hDl⟩
    rw[et] at e1
    refine⟨v,D,m,m+1,t,shR one m,rfl,rt.mono sm,by lia,SqL.of (by rw[hDl,e1]; rfl),by unfold shR; rw[Qc,Ro]; lia,Ek one m,Mq,fun v' H3 s3 r3=>?_⟩
    exact q v' _ H3 (s1.trans (sm.trans s3)) r3 (by rw[BV]; lia) (HX (fun j hj=>Mi hj) rt)
theorem yp {x:Int}:∀ (ns acc:List Int),x∈ns.foldl RP acc ↔ x∈acc∨x∈ns
 | [],acc=>by simp
 | n::r,acc=>by
  rw[Ri,yp r _]
  unfold RP
  split
  ·rename_i h
   obtain⟨y,hy,ey⟩:=List.any_eq_true.mp h
   have e:=eq_of_beq ey
   constructor
   ·rintro (h | h)
    ·exact .inl h
    ·exact .inr (Qm _ h)
   ·rintro (h | h)
    ·exact .inl h
    ·rcases List.mem_cons.mp h with rfl | h
     ·exact .inl (by rw[← e]; exact hy)
     ·exact .inr h
  ·constructor
   ·rintro (h | h)
    ·rcases List.mem_append.mp h with h | h
     ·exact .inl h
     ·exact .inr (by rw[List.mem_singleton.mp h]; exact Qi)
    ·exact .inr (Qm _ h)
   ·rintro (h | h)
    ·exact .inl (W5 _ h)
    ·rcases List.mem_cons.mp h with rfl | h
     ·exact .inl (QB _ Qi)
     ·exact .inr h
def okS (ms:List Int):Prop:=ms≠[]/\ms.length<=9/\ms.Pairwise (· < ·)/\∀ x∈ms,1<=x/\x<=9
theorem K9 {ns ms:List Int} (p:ms.Perm (ddI ns)) (so:ms.Pairwise (·<=·)) (h0:ns≠[]) (h9:ns.length<=9) (hb:∀ x∈ns,1<=x/\x<=9):okS ms:=by
 rw[vq] at p
 have mem:∀ x,x∈ms ↔ x∈ns:=fun x=>by rw[p.mem_iff,yp]; simp
 refine⟨fun z=>?_,?_,?_,fun x hx=>hb x ((mem x).mp hx)⟩
 ·cases ns with
  | nil=>exact h0 rfl
  | cons a r =>
   have:=(mem a).mpr Qi
   rw[z] at this
   cases this
 ·have:=Az ns []
  rw[p.length_eq]
  simp at this
  lia
 ·have nd:ms.Nodup:=p.nodup_iff.mpr (rn ns [] (by simp))
  exact (so.and nd).imp fun h=>by lia
theorem Mz {ns ms:List Int} (p:ms.Perm (ddI ns)) {x:Int} (h:x∈ms):x∈ns:=by
 rw[vq] at p
 have:=p.mem_iff.mp h
 rw[yp] at this
 simpa using this
theorem Cy {ms:List Int} (h:okS ms) {p:Pl} (e:p.map (·.1)=ms) (hd:∀ x∈p,x.2.dep<=4):okP p:=by
 refine⟨fun z=>?_,?_,by rw[e]; exact h.2.2.1,fun x hx=>?_⟩
 ·subst z
  exact h.1 e.symm
 ·have:=congrArg X8 e
  rw[Qc] at this
  have:=h.2.1
  lia
 ·have hm:x.1∈ms:=by rw[← e]; exact List.mem_map.mpr ⟨x,hx,rfl⟩
  exact⟨(h.2.2.2 _ hm).1,(h.2.2.2 _ hm).2,hd x hx⟩
theorem IK {one n:Nat} {d:Int} (h:one < n) (d0:0<=d) (d1:d < (n:Int) - 1) {j:Nat} (e:((one:Int)+1+d) % (n:Int)=(j:Int)):j≠one:=fun z=>by
 subst z
 by_cases c:(j:Int)+1+d < (n:Int)
 ·rw[Int.emod_eq_of_lt (by lia) c] at e
  lia
 ·rw[← Int.sub_emod_right,Int.emod_eq_of_lt (by lia) (by lia)] at e
  lia
abbrev iJ:Stmt:=top 67
theorem bW:aO ["_law_cell_here","_law_n","_law_one","_law_deep","_law_most","_law_drawn","_law_steps","_law_other_one","_law_found","_law_k","_law_step"] ["_law_cell_here","_law_n","_law_one","_law_deep","_law_most"] (aD iJ):=⟨rfl,rfl,rfl,by decide+kernel,rfl,by decide+kernel,by decide+kernel⟩
inductive sW (vs:List V) (H:Hp) (Q:VK):Prop where
 | mk (c:Int) (n one:Nat) (deep:Int) (mo:Nat) (z0:vs=[.int c,.int (n:Int),.int (one:Int),.int deep,.int (mo:Int)]) (z1:1<=n) (z2:n<=12) (z3:one < n) (z4:1<=deep) (z5:deep<=3) (z6:1<=mo) (z7:mo<=9) (z8:∀ (a:Addr) (p:Pl) (H':Hp),aU H H'->pD n H' a p->(∀ x∈p,x.1<=(mo:Int))->(∀ x∈p,nn one x.2=true)->Q (.ref a) H'):sW  vs H Q
def zb:Sp:=fun vs H Q _=>sW  vs H Q
theorem rH (F:Fun K "_law_pledge" "_law_pledge" iJ f fd) (B:Bt mg)
  (D_law_draws:Df P w K mg base "_law_draws" 1 ["_law_cell_here","_law_parts"] (nC K)) (D_law_under:Df P w K mg base "_law_under" 1 ["_law_cell_here","_law_k"] qQ) (D_law_crowd:Df P w K mg base "_law_crowd" 1 ["_law_number","_law_n"] wR)
  (D_law_mine:Df P w K mg base "_law_mine" 5 ["_law_cell_here","_law_n","_law_one","_law_deep","_law_most"] Iw):cI P w K mg base CX0 6 f fd ["_law_cell_here","_law_n","_law_one","_law_deep","_law_most"] zb:=by
 refine F.ok bW (fun vs H Q E h=>?_) (fun cdv A outer s H vs Q E hr h=>?_)
 ·obtain⟨c,n,one,deep,mo,rfl,_⟩:=h
  rfl
 ·obtain⟨c,n,one,deep,mo,rfl,n1,n12,hone,de1,de3,m1,m9,q⟩:=h
  refine⟨_,(aq (bf (i:=5) bW.nd rfl (Wm rfl) (bc D_law_draws hr (aa (pv 0) (aa (bZ (aa au (aa au (aa au (aa au (aa au (aa au aj))))))) aj))))
 (aq (bf (i:=6) bW.nd rfl (Qw rfl) (lV rfl rfl B.sorted_ rfl B.set_ (aa (bK (L:=["_law_k"]) (F:=["_law_most","_law_drawn"]) (cap:=[4,5]) rfl (bD rfl rfl (by kernel_rfl)) (bU rfl B.range_ (aa (aV bI au (aV cR (aQ (r:=dX K) aZ (pv 5) au (fun _ _=>rfl)) au)) aj)) (fun _ _ _ _ _=>(aJ (i:=0) (bw (by decide+kernel)) rfl (Qw rfl))) (fun _ _ _ _ _=>bR) (fun _ _ _ _ _=>(aV bI au (aV cR (aQ (r:=dX K) aZ (pv 2) (aV bI au (pv 0)) (fun _ _=>rfl)) (pv 1))))) aj)))
 (aq (bA (aH cz (aQ (r:=dX K) aZ (pv 5) au (fun _ _=>rfl)) au (aL _)) (aq (wk (L:=["_law_step"]) (F:=[]) (cap:=[]) (j:=6) bW.nd rfl (Qw rfl) rfl (bD rfl rfl (by kernel_rfl)) (dj (bc D_law_crowd hr (aa (aQ (r:=dX K) aZ (pv 5) au (fun _ _=>rfl)) (aa (pv 4) aj)))) (fun _ _ _ _ _=>(aJ (i:=0) (bw (by decide+kernel)) rfl (Qw rfl))) (fun _ _ _ _ _=>bR) (fun _ _ _ _ _=>(aV bI au (pv 0))))
 (aA (bA (aH (r:=Ox K) (LQ hr.uU) (pv 6) (bZ aj) (aL _)) (aA (bf (i:=6) bW.nd rfl (Qw rfl) (bZ (aa (pv 4) aj)))) aN))) aN)
 (aq (bA (PW.pt (ou (aH cz (aQ (r:=dX K) aZ (pv 5) au (fun _ _=>rfl)) au (aL _)) (kW (aH rm (pv 1) au (aL _))))) (aA (aG (bJ (r:=fD K) bL rfl B.tuple_ bQ (aa (bK (L:=["_law_step"]) (F:=["_law_n","_law_one"]) (cap:=[1,2]) rfl (bD rfl rfl (by kernel_rfl)) (dN (pv 6)) (fun _ _ _ _ _=>(aJ (i:=0) (bw (by decide+kernel)) rfl (Qw rfl))) (fun _ _ _ _ _=>bR) (fun _ _ _ _ _=>(cA (aa (pv 0) (aa (cA (aa bB (aa (aV cR (aV bI (pv 2) au) (pv 1)) (aa (pv 0) aj)))) aj))))) aj)))) aN)
 (aq (bA (PW.pt (ou (aH cz (aQ (r:=dX K) aZ (pv 5) au (fun _ _=>rfl)) au (aL _)) (kW (aH rm (pv 1) au (aL _))))) (aq (bf (i:=7) bW.nd rfl (Wm rfl) (aV cR (aV bI (aV bI (pv 2) au) (aV cR (aQ (r:=dX K) aZ (pv 5) au (fun _ _=>rfl)) (aV iD (pv 1) au))) (pv 1)))
 (aA (aG (bJ (r:=fD K) bL rfl B.tuple_ bQ (aa (bK (L:=["_law_step"]) (F:=["_law_other_one"]) (cap:=[7]) rfl (bD rfl rfl (by kernel_rfl)) (dN (pv 6)) (fun _ _ _ _ _=>(aJ (i:=0) (bw (by decide+kernel)) rfl (Qw rfl))) (fun _ _ _ _ _=>bR) (fun _ _ _ _ _=>(cA (aa (pv 0) (aa (cA (aa bB (aa (pv 1) (aa (aF (tV rfl) rfl B.max_ ql (aa au (aa (aV iD (pv 0) au) aj))) aj)))) aj))))) aj))))) aN)
 (aq (bf (i:=8) bW.nd rfl (Qw rfl) (bZ aj))
 (aq (cY QX rfl (Kw rfl B.enumerate_ (aa (pv 6) aj)) (fL (K:=K) 2 rfl rfl (bH (aJ (i:=9) bW.nd rfl (Qw rfl)) (bH (aJ (i:=10) bW.nd rfl (Qw rfl)) fO))) (aA (bT (qJ RN RD RC cM (pv 8) (aa (cA (aa (pv 10) (aa (bc D_law_mine hr (aa (bc D_law_under hr (aa (pv 0) (aa (pv 9) aj))) (aa (pv 1) (aa (pv 2) (aa (pv 3) (aa (pv 4) aj)))))) aj))) aj)))))
 (aA (aG (bJ (r:=fD K) bL rfl B.tuple_ bQ (aa (pv 8) aj))))))))))),?_⟩
  refine⟨_,rfl,small (by show 6<=1000; decide),fun p1 h1=>?_⟩
  generalize eH1:upd H p1 _=H1
  obtain⟨g1,e1⟩:=aP eH1 h1
  refine⟨c,p1,[7,9,9,9,12,512],rfl,SqL.of e1,by decide,by decide,fun p2 h2=>?_⟩
  generalize eH2:upd H1 p2 _=H2
  obtain⟨g2,e2⟩:=aP eH2 h2
  have hps:∀ q∈([7,9,9,9,12,512]:List Int),0 < q:=by decide
  obtain⟨d0,k0,b0⟩:=cB (c:=kZ c) (i:=0) hps rfl
  obtain⟨d1,k1,b1⟩:=cB (c:=kZ c) (i:=1) hps rfl
  obtain⟨d2,k2,b2⟩:=cB (c:=kZ c) (i:=2) hps rfl
  obtain⟨d3,k3,b3⟩:=cB (c:=kZ c) (i:=3) hps rfl
  obtain⟨d4,k4,b4⟩:=cB (c:=kZ c) (i:=4) hps rfl
  obtain⟨d5,k5,b5⟩:=cB (c:=kZ c) (i:=5) hps rfl
  have a0:=aC (dg k0)
  have a4:=aC (dg k4)
  have a5:=aC (dg k5)
  have kk:∀ k:Nat,k < 3->∃ d,(vD (kZ c) [7,9,9,9,12,512])[1+k]? = some d:=fun k hk=>by
   match k,hk with
   | 0,_=>exact⟨_,k1⟩
   | 1,_=>exact⟨_,k2⟩
   | 2,_=>exact⟨_,k3⟩
  change _=some (HO.lst ((vD (kZ c) [7,9,9,9,12,512]).map V.int)) at e2
  generalize vD (kZ c) [7,9,9,9,12,512]=ds at *
  have gH:aU H H2:=g1.trans g2
  have u1:0<=d0 % 3:=Q6 _ (by lia)
  have u2:d0 % 3 < 3:=QT _ (by lia)
  refine⟨_,rfl,p2,_,_,_,rfl,rfl,SqL.of e2,a0,_,_,rfl,rfl,(by show (0:Int) < 3; decide),_,_,rfl,rfl,_,rfl,by lia,by lia,fun D hD=>cT (lo:=0) (n:=(1+d0 % 3).toNat)
   (fun i zs σ' H3=>(∃ u,σ'=[u,some (.int (mo:Int)),some (.ref p2)])/\aU H2 H3/\H3 D=some (.lst zs)/\∃ ns:List Int,zs=ns.map V.int/\ns.length=i/\∀ x∈ns,1<=x/\x<=(mo:Int))
   ⟨⟨_,rfl⟩,aB hD _,ao,[],rfl,rfl,by simp⟩ (fun i zs σ' H3 _ h=>h.2.2.1) ?_ ?_⟩
  ·rintro i zs σ' H3 hi ⟨⟨u,rfl⟩,s3,eD,ns,e3,ln,hb⟩
   obtain⟨dk,hk⟩:=kk i (by lia)
   have ak:atI (ds.map V.int) (1+(0+(i:Int)))=some (.int dk):=by
    rw[show (1:Int)+(0+(i:Int))=((1+i:Nat):Int) by lia]
    exact aC (dg hk)
   have v1:0<=dk % (mo:Int):=Q6 _ (by lia)
   have v2:dk % (mo:Int) < (mo:Int):=QT _ (by lia)
   refine gT ?_
   refine⟨_,rfl,_,rfl,_,_,rfl,rfl,p2,_,_,_,rfl,rfl,SqL.of (s3 _ _ e2),ak,_,rfl,_,_,rfl,rfl,(by show (0:Int) < (mo:Int); lia),_,_,rfl,rfl,eD,?_,⟨_,rfl⟩,aW s3 hD _,ao,ns++[1+dk % (mo:Int)],?_,?_,?_⟩
   ·rw[e3,Qc]
    exact aM (by lia)
   ·rw[e3,Qj]
    rfl
   ·rw[Qx,ln]
    rfl
   ·intro x hx
    rcases List.mem_append.mp hx with h | h
    ·exact hb x h
    ·rw[List.mem_singleton.mp h]
     lia
  ·rintro zs σ' H3 ⟨_,s3,eD,ns,e3,ln,hb⟩
   have ln3:1<=ns.length/\ns.length<=3:=by lia
   have dl:(ddI ns).length<=ns.length:=by
    have:=Az ns []
    rw[vq]
    simpa using this
   refine⟨D,ns,rfl,SqL.of (by rw[eD,e3]),by lia,by lia,fun ms pm so l hl=>?_⟩
   have okm:okS ms:=K9 pm so (fun z=>by rw[z] at ln3; simp at ln3) (by lia) fun x hx=>⟨(hb x hx).1,by have:=(hb x hx).2; lia⟩
   have okM:∀ x∈ms,x<=(mo:Int):=fun x hx=>(hb x (Mz pm hx)).2
   generalize eH4:upd H3 l _=H4
   obtain⟨g4,e4⟩:=aP eH4 hl
   have s4:aU H2 H4:=s3.trans g4
   refine gN ?_
   dsimp only
   show G6 (Fz _ _ _) _ _ _ _
   refine lU (fun σ H5=>∃ (l:Addr) (ms:List Int),σ=[some (.int c),some (.int (n:Int)),some (.int (one:Int)),some (.int deep),some (.int (mo:Int)),some (.ref p2),some (.ref l),none,none,none,none]/\aU H2 H5/\H5 l=some (.lst (ms.map V.int))/\okS ms/\∀ x∈ms,x<=(mo:Int)) ?rest (fun _ R=>?_)
   case rest =>
    clear e4 hl so pm okm okM eH4 g4 s4 H4 l ms
    rintro σ H5 ⟨l,ms,rfl,s5,e5,okm,okM⟩
    have l9:=okm.2.1
    have e2':=s5 _ _ e2
    have sH5:aU H H5:=gH.trans s5
    show G6 (Fz _ _ _) _ _ _ _
    refine lU (fun σ H6=>σ=[some (.int c),some (.int (n:Int)),some (.int (one:Int)),some (.int deep),some (.int (mo:Int)),some (.ref p2),some (.ref l),none,none,none,none]/\H5=H6) ?rest2 (fun _ R=>?_)
    case rest2 =>
     rintro σ H6 ⟨rfl,rfl⟩
     show G6 (Fz _ _ _) _ _ _ _
     refine lU (fun σ H6=>σ=[some (.int c),some (.int (n:Int)),some (.int (one:Int)),some (.int deep),some (.int (mo:Int)),some (.ref p2),some (.ref l),none,none,none,none]/\H5=H6) ?rest3 (fun _ R=>?_)
     case rest3 =>
      rintro σ H6 ⟨rfl,rfl⟩
      refine⟨small (QW _),fun r hr0=>?_⟩
      generalize eH6:upd H5 r _=H6
      obtain⟨g6,e6⟩:=aP eH6 hr0
      refine⟨_,rfl,l,_,rfl,g6 _ _ e5,Fg (K:=K) (a:=l) (xs:=ms.map V.int) (fun i σ H7=>(∃ u v,σ=[some (.int c),some (.int (n:Int)),some (.int (one:Int)),some (.int deep),some (.int (mo:Int)),some (.ref p2),some (.ref l),none,some (.ref r),u,v])/\aU H5 H7 ∧
       ∃ (vs:List V) (p:Pl),H7 r=some (.lst vs)/\dB n H7 vs p/\p.map (·.1)=ms.take i/\∀ x∈p,x.2.dep<=4/\nn one x.2=true) ⟨⟨_,_,rfl⟩,g6,[],[],e6,.nil,rfl,by simp⟩ (fun i σ H7 _ h=>SqL.of (h.2.1 _ _ e5)) ?_ ?_⟩
      ·rintro i x pp σ H7 hx hpp ⟨⟨u,v,rfl⟩,s7,vs,p,er,rp,ep,hd⟩
       obtain⟨st,hst,rfl⟩:=int_at hx
       have hi:i < ms.length:=(List.getElem?_eq_some_iff.mp hst).1
       generalize eH8:upd H7 pp _=H8
       obtain⟨g8,e8⟩:=aP eH8 hpp
       refine⟨pp,_,rfl,SqT.of e8,rfl,_,_,rfl,_,_,rfl,rfl,?_⟩
       refine⟨_,rfl,.inl ⟨rfl,_,SqL.of (g8 _ _ er)⟩,_,rfl,_,rfl,_,rfl,c,i,rfl,by lia,_,rfl,_,rfl,_,rfl,_,rfl,Ke c i,n,one,deep,mo,rfl,n1,n12,hone,de1,de3,m1,m9,fun v' t H9 s9 rt td tn=>?_⟩
       refine⟨small (by show 2<=1000; decide),fun pa ha=>?_⟩
       generalize eHa:upd H9 pa _=Ha
       obtain⟨ga,ea⟩:=aP eHa ha
       have s8a:aU H7 Ha:=g8.trans (s9.trans ga)
       have lv:=rp.length
       have lp:p.length<=ms.length:=by
        have:=congrArg X8 ep
        rw[Qc,Qv] at this
        lia
       have tk:=cG (zs':=vs++[.ref pa]) (s8a _ _ er)
       refine⟨r,_,_,rfl,rfl,s8a _ _ er,aM (by lia),⟨_,_,rfl⟩,aW (s7.trans s8a) hr0 _,vs++[.ref pa],p++[(st,t)],ao,?_,?_,?_⟩
       ·exact dB.snoc (tk _ _ ea) ((rt.mono ga).bu tk) ((rp.bu fun a xs q=>s8a a _ q).bu tk)
       ·rw[Qj,ep,QR,hst]
        rfl
       ·intro x hx
        rcases List.mem_append.mp hx with h | h
        ·exact hd x h
        ·rw[List.mem_singleton.mp h]
         exact⟨by show t.dep<=4; lia,tn⟩
      ·rintro σ H7 ⟨⟨u,v,rfl⟩,s7,vs,p,er,rp,ep,hd⟩
       rw[Qc,Qq] at ep
       refine⟨_,rfl,r,_,rfl,.inl ⟨SqL.of er,fun pa ha=>?_⟩⟩
       have sn:=aB ha (.tup vs)
       exact q pa p _ (sH5.trans (s7.trans sn)) ⟨Cy okm ep fun x hx=>(hd x hx).1,vs,ao,rp.bu fun a xs q=>sn a _ q⟩ (fun x hx=>okM _ (ep▸Xd hx)) fun x hx=>(hd x hx).2
     ·refine rA (decide (V.int d0=V.int 5)) (decide (1 < (n:Int))) (fun H6=>H5=H6) (fun Q' hQ=>?_) (fun H6 e Q' hQ=>?_) (fun H6 e c1 c2=>?_) (fun H6 e _=>R _ _ ⟨rfl,e⟩)
      ·exact⟨_,rfl,p2,_,_,_,rfl,rfl,SqL.of e2',a0,rfl,_,rfl,hQ _ rfl⟩
      ·subst e
       exact⟨_,rfl,_,_,rfl,rfl,_,rfl,hQ⟩
      ·subst e
       have c2:1 < (n:Int):=of_decide_eq_true c2
       have w1:0<=((one:Int)+1+d4 % ((n:Int) - 1)) % (n:Int):=Q6 _ (by lia)
       have w2:((one:Int)+1+d4 % ((n:Int) - 1)) % (n:Int) < (n:Int):=QT _ (by lia)
       obtain⟨j,hj⟩:=Uc w1
       have hjo:=IK hone (Q6 _ (by lia)) (QT _ (by lia)) hj
       refine⟨_,rfl,_,_,rfl,rfl,_,rfl,p2,_,_,_,rfl,rfl,SqL.of e2',a4,_,rfl,_,_,rfl,rfl,_,_,rfl,rfl,(by show (0:Int) < (n:Int) - 1; lia),_,_,rfl,rfl,_,rfl,_,_,rfl,rfl,(by show (0:Int) < (n:Int); lia),?_⟩
       refine gN ?_
       have es:(fun i j:Int=>V.int (i % j)) ((one:Int)+1+d4 % ((n:Int) - 1)) (n:Int)=V.int (j:Int):=by
        show V.int (((one:Int)+1+d4 % ((n:Int) - 1)) % (n:Int))=_
        rw[hj]
       refine⟨_,rfl,l,rfl,⟨_,SqL.of e5⟩,fun D hD=>eN (K:=K) (a:=l) (xs:=ms.map V.int) (fun i zs σ' H7=>(∃ u,σ'=[u,some (.int (j:Int))])/\aU H5 H7/\H7 D=some (.lst zs) ∧
        dB n H7 zs ((ms.take i).map fun st=>(st,Tm.gives j (if st - 1 > 1 then st - 1 else 1)))) ⟨⟨none,?_⟩,aB hD _,ao,.nil⟩ (fun i zs σ' H7 _ h=>⟨SqL.of (h.2.1 _ _ e5),h.2.2.1⟩) ?_ ?_⟩
       ·rw[← es]
        rfl
       ·rintro i zs x σ' H7 hx ⟨⟨u,rfl⟩,s7,er,rp⟩
        obtain⟨st,hst,rfl⟩:=int_at hx
        have hb:=okm.2.2.2 st (QC hst)
        have lv:=rp.length
        rw[Qc,Qv] at lv
        refine gT ?_
        refine⟨_,rfl,_,rfl,_,rfl,_,_,rfl,rfl,_,_,rfl,small (by show 3<=1000; decide),fun pa ha=>?_⟩
        generalize eHa:upd H7 pa _=Ha
        obtain⟨ga,ea⟩:=aP eHa ha
        refine⟨small (by show 2<=1000; decide),fun pb hb'=>?_⟩
        generalize eHb:upd Ha pb _=Hb
        obtain⟨gb,eb⟩:=aP eHb hb'
        have s7b:aU H7 Hb:=ga.trans gb
        have tk:=cG (zs':=zs++[.ref pb]) (s7b _ _ er)
        refine⟨s7b _ _ er,aM (by lia),⟨_,rfl⟩,aW (s7.trans s7b) hD _,ao,?_⟩
        rw[take_snoc (fun st=>(st,Tm.gives j (if st - 1 > 1 then st - 1 else 1))) hst]
        exact dB.snoc (tk _ _ eb) (.gives (tk _ _ (gb _ _ ea)) (by lia) (by split <;> lia) (by split <;> lia)) ((rp.bu fun a xs q=>s7b a _ q).bu tk)
       ·rintro zs σ' H7 ⟨_,s7,er,rp⟩
        rw[Qc,Qq] at rp
        refine⟨D,_,rfl,.inl ⟨SqL.of er,fun pa ha=>?_⟩⟩
        have sn:=aB ha (.tup zs)
        refine q pa _ _ (sH5.trans (s7.trans sn)) ⟨Cy okm ?_ ?_,zs,ao,rp.bu fun a xs q=>sn a _ q⟩ (fun x hx=>by obtain⟨st,hs,rfl⟩:=List.mem_map.mp hx; exact okM st hs) fun x hx=>by obtain⟨st,_,rfl⟩:=List.mem_map.mp hx; simp only[nn]; exact decide_eq_true hjo
        ·rw[Wr]
         exact List.map_id' ms
        ·intro x hx
         obtain⟨st,_,rfl⟩:=List.mem_map.mp hx
         show (1:Nat)<=4
         decide
    ·refine rA (decide (V.int d0=V.int 6)) (decide (1 < (n:Int))) (fun H6=>H5=H6) (fun Q' hQ=>?_) (fun H6 e Q' hQ=>?_) (fun H6 e c1 c2=>?_) (fun H6 e _=>R _ _ ⟨rfl,e⟩)
     ·exact⟨_,rfl,p2,_,_,_,rfl,rfl,SqL.of e2',a0,rfl,_,rfl,hQ _ rfl⟩
     ·subst e
      exact⟨_,rfl,_,_,rfl,rfl,_,rfl,hQ⟩
     ·subst e
      have w1:0<=((one:Int)+1) % (n:Int):=Q6 _ (by lia)
      have w2:((one:Int)+1) % (n:Int) < (n:Int):=QT _ (by lia)
      obtain⟨j,hj⟩:=Uc w1
      have hjo:=IK (d:=0) hone (by decide) (by have:=of_decide_eq_true c2; lia) (by rw[Int.add_zero]; exact hj)
      refine⟨_,rfl,l,rfl,⟨_,SqL.of e5⟩,fun D hD=>eN (K:=K) (a:=l) (xs:=ms.map V.int) (fun i zs σ' H7=>(∃ u,σ'=[u,some (.int (n:Int)),some (.int (one:Int))])/\aU H5 H7/\H7 D=some (.lst zs) ∧
       dB n H7 zs ((ms.take i).map fun st=>(st,Tm.gives j st))) ⟨⟨_,rfl⟩,aB hD _,ao,.nil⟩ (fun i zs σ' H7 _ h=>⟨SqL.of (h.2.1 _ _ e5),h.2.2.1⟩) ?_ ?_⟩
      ·rintro i zs x σ' H7 hx ⟨⟨u,rfl⟩,s7,er,rp⟩
       obtain⟨st,hst,rfl⟩:=int_at hx
       have hb:=okm.2.2.2 st (QC hst)
       have lv:=rp.length
       rw[Qc,Qv] at lv
       refine gT ?_
       refine⟨_,rfl,_,rfl,_,_,rfl,rfl,_,rfl,_,_,rfl,rfl,(by show (0:Int) < (n:Int); lia),_,rfl,small (by show 3<=1000; decide),fun pa ha=>?_⟩
       generalize eHa:upd H7 pa _=Ha
       obtain⟨ga,ea⟩:=aP eHa ha
       have ea:Ha pa=some (.tup [.str "gives",vN j,.int st]):=by
        rw[ea]
        show some (HO.tup [V.str "gives",V.int (((one:Int)+1) % (n:Int)),V.int st])=some (HO.tup [V.str "gives",V.int (j:Int),V.int st])
        rw[hj]
       refine⟨small (by show 2<=1000; decide),fun pb hb'=>?_⟩
       generalize eHb:upd Ha pb _=Hb
       obtain⟨gb,eb⟩:=aP eHb hb'
       have s7b:aU H7 Hb:=ga.trans gb
       have tk:=cG (zs':=zs++[.ref pb]) (s7b _ _ er)
       refine⟨s7b _ _ er,aM (by lia),⟨_,rfl⟩,aW (s7.trans s7b) hD _,ao,?_⟩
       rw[take_snoc (fun st=>(st,Tm.gives j st)) hst]
       exact dB.snoc (tk _ _ eb) (.gives (tk _ _ (gb _ _ ea)) (by lia) (by lia) (by lia)) ((rp.bu fun a xs q=>s7b a _ q).bu tk)
      ·rintro zs σ' H7 ⟨_,s7,er,rp⟩
       rw[Qc,Qq] at rp
       refine⟨D,_,rfl,.inl ⟨SqL.of er,fun pa ha=>?_⟩⟩
       have sn:=aB ha (.tup zs)
       refine q pa _ _ (sH5.trans (s7.trans sn)) ⟨Cy okm ?_ ?_,zs,ao,rp.bu fun a xs q=>sn a _ q⟩ (fun x hx=>by obtain⟨st,hs,rfl⟩:=List.mem_map.mp hx; exact okM st hs) fun x hx=>by obtain⟨st,_,rfl⟩:=List.mem_map.mp hx; simp only[nn]; exact decide_eq_true hjo
       ·rw[Wr]
        exact List.map_id' ms
       ·intro x hx
        obtain⟨st,_,rfl⟩:=List.mem_map.mp hx
        show (1:Nat)<=4
        decide
   ·refine⟨_,rfl,p2,_,_,_,rfl,rfl,SqL.of (s4 _ _ e2),a0,rfl,_,rfl,?_⟩
    refine pL (fun _=>?_) (fun _=>R _ _ ⟨l,ms,rfl,s4,e4,okm,okM⟩)
    refine⟨_,rfl,p2,_,_,_,rfl,rfl,SqL.of (s4 _ _ e2),a5,_,rfl,d5,mo,rfl,by lia,fun cs r3 H5 hc hp hl5 s5 f5 e5=>?_⟩
    refine⟨r3,rfl,⟨_,SqT.of e5⟩,fun D5 hD5=>cL (K:=K) (a:=r3) (xs:=cs.map vN) (fun i zs σ' H6=>(∃ u,σ'=[u])/\zs=((cs.take i).map fun j:Nat=>(1:Int)+(j:Int)).map V.int/\aU H5 H6/\H6 D5=some (.lst zs))
     ⟨⟨_,rfl⟩,rfl,aB hD5 _,ao⟩ (fun i zs σ' H6 _ h=>⟨SqT.of (h.2.2.1 _ _ e5),h.2.2.2⟩) ?_ ?_⟩
    ·rintro i zs x σ' H6 hx ⟨⟨u,rfl⟩,e6,s6,eD6⟩
     obtain⟨j,hj,rfl⟩:=qP hx
     refine gT ?_
     refine⟨_,rfl,_,_,rfl,rfl,eD6,?_,⟨_,rfl⟩,?_,aW s6 hD5 _,ao⟩
     ·rw[e6,Qc,Qc,Qv]
      exact aM (by lia)
     ·rw[e6,take_snoc (fun j:Nat=>(1:Int)+(j:Int)) hj,Qj]
      rfl
    ·rintro zs σ' H6 ⟨_,e6,s6,eD6⟩
     rw[Qc,Qq] at e6
     rw[e6] at eD6
     have s46:aU H2 H6:=s4.trans (s5.trans s6)
     refine⟨_,rfl,small (by show 0<=1000; decide),fun p7 h7=>?_⟩
     have g7:aU H6 (upd H6 p7 (.lst [])):=aB h7 _
     refine⟨D5,p7,_,rfl,rfl,SqL.of (g7 _ _ eD6),SqL.of ao,_,rfl,?_⟩
     refine pL (fun ce=>?_) (fun ce=>?_)
     ·refine⟨_,rfl,small (by show 1<=1000; decide),fun p8 h8=>?_⟩
      refine R _ _ ⟨p8,[(mo:Int)],rfl,s46.trans (g7.trans (aB h8 _)),ao,⟨by simp,by show 1<=9; decide,by simp,?_⟩,fun x hx=>by rw[List.mem_singleton.mp hx]; exact RB _⟩
      intro x hx
      rw[List.mem_singleton.mp hx]
      lia
     ·refine R _ _ ⟨D5,cs.map fun j:Nat=>(1:Int)+(j:Int),rfl,s46.trans g7,g7 _ _ eD6,⟨?_,?_,?_,?_⟩,fun x hx=>by obtain⟨j,hj,rfl⟩:=List.mem_map.mp hx; have:=hc j hj; lia⟩
      ·intro z
       apply ce
       rw[z]
       rfl
      ·rw[Qc]
       lia
      ·rw[V6]
       exact hp.imp fun h=>by lia
      ·intro x hx
       obtain⟨j,hj,rfl⟩:=List.mem_map.mp hx
       have:=hc j hj
       lia
abbrev km:Stmt:=top 68
theorem eH:aO ["_law_script","_law_start","_law_n","_law_most","_law_book_here","_law_one","_law_cell_here","_law_many"] ["_law_script","_law_start","_law_n","_law_most"] (aD km):=⟨rfl,rfl,rfl,by decide+kernel,rfl,by decide+kernel,by decide+kernel⟩
theorem bO.isl {n:Nat} {H:Hp}:∀ {us:List V} {bs:List (List Pl)},bO n H us bs->∀ u∈us,∃ c ys,u = .ref c/\H c=some (.lst ys)
 | _,_,.cons h _ _ r,u,hu=>by
  rcases List.mem_cons.mp hu with z | z
  ·exact⟨_,_,z,h⟩
  ·exact bO.isl r u z
def okM (mo:Nat) (bk:List (List Pl)):Prop:=∀ ps∈bk,∀ p∈ps,∀ x∈p,x.1<=(mo:Int)
inductive Dc (K:QF) (vs:List V) (H:Hp) (Q:VK):Prop where
 | mk (a:Addr) (ss:List Int) (st n mo:Nat) (z0:vs=[.ref a,.int (st:Int),.int (n:Int),.int (mo:Int)]) (z1:SqL K H a (ss.map V.int)) (z2:st<=100) (z3:1<=n) (z4:n<=12) (z5:1<=mo) (z6:mo<=9) (z7:∀ (b:Addr) (us:List V) (bk:List (List Pl)) (H':Hp),aU H H'->H' b=some (.lst us)->bO n H' us bk->us.Nodup->(∀ u∈us,u≠.ref b)->bk.length=n->JT n bk->(∀ ps∈bk,ps.length<=2)->Q (.ref b) H'):Dc K vs H Q
def IV (K:QF):Sp:=fun vs H Q _=>Dc K vs H Q
theorem wZ (F:Fun K "_law_book" "_law_book" km f fd) (B:Bt mg)
  (D_law_cell:Df P w K mg base "_law_cell" 1 ["_law_script","_law_k"] (Ez K)) (D_law_draws:Df P w K mg base "_law_draws" 1 ["_law_cell_here","_law_parts"] (nC K)) (D_law_under:Df P w K mg base "_law_under" 1 ["_law_cell_here","_law_k"] qQ)
  (D_law_pledge:Df P w K mg base "_law_pledge" 6 ["_law_cell_here","_law_n","_law_one","_law_deep","_law_most"] zb):cI P w K mg base CX0 7 f fd ["_law_script","_law_start","_law_n","_law_most"] (IV K):=by
 refine F.ok eH (fun vs H Q E h=>?_) (fun cdv A outer s H vs Q E hr h=>?_)
 ·obtain⟨a,ss,st,n,mo,rfl,_⟩:=h
  rfl
 ·obtain⟨a,ss,st,n,mo,rfl,hS,hst,n1,n12,m1,m9,q⟩:=h
  refine⟨_,(aq (bf (i:=4) eH.nd rfl (Qw rfl) (bZ aj))
 (aq (cY QX rfl (bU rfl B.range_ (aa (pv 2) aj)) (aJ (i:=5) eH.nd rfl (Wm rfl)) (aq (bf (i:=6) eH.nd rfl (Wm rfl) (aV bI (bc D_law_cell hr (aa (pv 0) (aa (aV bI (pv 1) (pv 5)) aj))) (aV fW au (pv 5))))
 (aq (bf (i:=7) eH.nd rfl (Qw rfl) (aQ (r:=dX K) aZ (bZ (f9 au (f9 au (f9 au (f9 au (f9 au (f9 au (f9 au aj)))))))) (aQ (r:=dX K) aZ (bc D_law_draws hr (aa (aV bI (pv 6) au) (aa (bZ (aa au aj)) aj))) au (fun _ _=>rfl)) (fun _ _=>rfl)))
 (aA (bT (qJ RN RD RC cM (pv 4) (aa (bK (L:=["_law_k"]) (F:=["_law_n","_law_one","_law_most","_law_cell_here"]) (cap:=[2,5,3,6]) rfl (bD rfl rfl (by kernel_rfl)) (bU rfl B.range_ (aa (pv 7) aj)) (fun _ _ _ _ _=>(aJ (i:=0) (bw (by decide+kernel)) rfl (Qw rfl))) (fun _ _ _ _ _=>bR) (fun _ _ _ _ _=>(bc D_law_pledge hr (aa (bc D_law_under hr (aa (pv 4) (aa (aV fW au (pv 0)) aj))) (aa (pv 1) (aa (pv 2) (aa au (aa (pv 3) aj)))))))) aj)))))))
 (aA (aG (pv 4))))),?_⟩
  refine⟨small (QW _),fun r hr0=>?_⟩
  generalize eH1:upd H r _=H1
  obtain⟨g1,e1⟩:=aP eH1 hr0
  have en:((n:Int)).toNat=n:=Q8 n
  refine⟨_,rfl,_,rfl,by lia,by lia,dI (lo:=0) (n:=((n:Int)).toNat) (fun i σ H2=>(∃ u v x,σ=[some (.ref a),some (.int (st:Int)),some (.int (n:Int)),some (.int (mo:Int)),some (.ref r),u,v,x])/\aU H H2/\∃ (us:List V) (bk:List (List Pl)),H2 r=some (.lst us)/\bO n H2 us bk/\us.length=i/\(∀ u∈us,u≠.ref r)/\okM mo bk/\JT i bk/\us.Nodup/\∀ ps∈bk,ps.length<=2)
   ⟨⟨_,_,_,rfl⟩,g1,[],[],e1,.nil,rfl,by simp,fun _ z=>(by cases z),fun j z=>absurd z (Um j),.nil,by simp⟩ ?_ ?_⟩
  ·rintro i σ H2 hi ⟨⟨u,v,x,rfl⟩,sm,us,bk,er,rb,lu,hur,few,hno,ndu,sh2⟩
   have hi12:i < n:=by lia
   have e1':(st:Int)+(0+(i:Int))=((st+i:Nat):Int):=by lia
   refine⟨_,rfl,_,rfl,_,rfl,_,_,rfl,rfl,a,ss,st+i,?_,Cu sm hS,_,rfl,_,_,rfl,rfl,.inl ⟨by decide,by decide⟩,_,_,rfl,rfl,?_⟩
   ·show[V.ref a,V.int ((st:Int)+(0+(i:Int)))]=_
    rw[e1']
   refine gN ?_
   dsimp only
   generalize (ss.getD (st+i) 0+31 * (0+(i:Int)))=c
   refine⟨small (by show 7<=1000; decide),fun p3 h3=>?_⟩
   generalize eH3:upd H2 p3 _=H3
   obtain⟨g3,e3⟩:=aP eH3 h3
   refine⟨_,rfl,_,_,rfl,rfl,small (by show 1<=1000; decide),fun p4 h4=>?_⟩
   generalize eH4:upd H3 p4 _=H4
   obtain⟨g4,e4⟩:=aP eH4 h4
   refine⟨c+5,p4,[7],rfl,SqL.of e4,by decide,by decide,fun p5 h5=>?_⟩
   generalize eH5:upd H4 p5 _=H5
   obtain⟨g5,e5⟩:=aP eH5 h5
   obtain⟨d0,k0,b0⟩:=cB (c:=kZ (c+5)) (i:=0) (ps:=[7]) (by decide) rfl
   have a0:=aC (dg k0)
   obtain⟨many,hmany,hm2⟩:∃ many:Nat,atI ([1,1,2,1,0,1,2].map V.int) d0=some (.int (many:Int))/\many<=2:=by
    rcases (show d0=0∨d0=1∨d0=2∨d0=3∨d0=4∨d0=5∨d0=6 by lia) with z | z | z | z | z | z | z
    ·exact⟨1,by rw[z]; rfl,by decide⟩
    ·exact⟨1,by rw[z]; rfl,by decide⟩
    ·exact⟨2,by rw[z]; rfl,by decide⟩
    ·exact⟨1,by rw[z]; rfl,by decide⟩
    ·exact⟨0,by rw[z]; rfl,by decide⟩
    ·exact⟨1,by rw[z]; rfl,by decide⟩
    ·exact⟨2,by rw[z]; rfl,by decide⟩
   refine⟨p5,_,_,_,rfl,rfl,SqL.of e5,a0,p3,_,_,_,rfl,rfl,SqL.of (g5 _ _ (g4 _ _ e3)),hmany,?_⟩
   have s5:aU H2 H5:=g3.trans (g4.trans g5)
   have emn:((many:Int)).toNat=many:=Q8 many
   refine⟨_,rfl,.inl ⟨rfl,_,SqL.of (s5 _ _ er)⟩,?_⟩
   refine⟨_,rfl,_,rfl,by lia,by lia,fun D hD=>cT (lo:=0) (n:=((many:Int)).toNat) (fun j zs σ' H6=>(∃ u,σ'=[u,some (.int (n:Int)),some (.int (0+(i:Int))),some (.int (mo:Int)),some (.int c)])/\aU H5 H6/\H6 D=some (.lst zs)/\∃ (as:List Addr) (ps:List Pl),zs=as.map V.ref/\as.length=j/\dF n H6 as ps/\(∀ p∈ps,(∀ x∈p,x.1<=(mo:Int))/\∀ x∈p,nn i x.2=true))
    ⟨⟨_,rfl⟩,aB hD _,ao,[],[],rfl,rfl,.nil,fun _ z=>(by cases z)⟩ (fun j zs σ' H6 _ h=>h.2.2.1) ?_ ?_⟩
   ·rintro j zs σ' H6 hj ⟨⟨u,rfl⟩,s6,eD,as,ps,ez,la,rp,pm⟩
    have e7:(7:Int) * (0+(j:Int))=((7 * j:Nat):Int):=by lia
    refine gT ?_
    refine⟨_,rfl,_,rfl,_,_,rfl,rfl,.inl ⟨by decide,by decide⟩,c,7 * j,?_,by lia,_,rfl,_,rfl,_,rfl,Ke c (7 * j),n,i,3,mo,?_,n1,n12,hi12,by decide,by decide,m1,m9,fun pa p H7 s7 rpl rpm rpn=>?_⟩
    ·show[V.int c,V.int (7 * (0+(j:Int)))]=_
     rw[e7]
    ·show[V.int (Ke c (7 * j)),V.int (n:Int),V.int (0+(i:Int)),V.int 3,V.int (mo:Int)]=_
     rw[RV]
    ·have tk:=cG (zs':=zs++[.ref pa]) (s7 _ _ eD)
     refine⟨s7 _ _ eD,?_,⟨_,rfl⟩,aW (s6.trans s7) hD _,ao,as++[pa],ps++[p],?_,?_,?_,fun p' hp=>?_⟩
     ·rw[ez,Qc]
      exact aM (by lia)
     ·rw[ez,Qj]
      rfl
     ·rw[Qx,la]
      rfl
     ·exact dF.snoc (rpl.bu tk) ((rp.bu fun a xs q=>s7 a _ q).bu tk)
     ·rcases List.mem_append.mp hp with h | h
      ·exact pm p' h
      ·rw[List.mem_singleton.mp h]
       exact⟨rpm,rpn⟩
   ·rintro zs σ' H6 ⟨_,s6,eD,as,ps,ez,la,rp,pm⟩
    rw[emn] at la
    rw[ez] at eD
    have s26:aU H2 H6:=s5.trans s6
    have er6:=s26 _ _ er
    have hDr:D≠r:=fun z=>by
     rw[z] at hD
     have:=s5 _ _ er
     rw[this] at hD
     cases hD
    refine⟨r,_,_,rfl,rfl,er6,aM (by lia),⟨_,_,_,rfl⟩,aW (sm.trans s26) hr0 _,us++[.ref D],bk++[ps],ao,?_,?_,?_,?_,?_,?_,?_⟩
    ·have keepL:∀ {vs:List V} {bs:List (List Pl)},(∀ u∈vs,u≠.ref r)->bO n H6 vs bs->bO n (upd H6 r (.lst (us++[.ref D]))) vs bs:=by
      intro vs bs hne hb
      induction hb with
      | nil=>exact .nil
      | cons h l p _ ih =>
       refine .cons ?_ l (p.bu (cG er6)) (ih fun u hu=>hne u (Qm _ hu))
       rw[bx (fun z=>hne _ Qi (by rw[z]))]
       exact h
     have b6:=bO.snoc eD (by lia) rp (rb.mono s26)
     refine keepL (fun u hu=>?_) b6
     rcases List.mem_append.mp hu with h | h
     ·exact hur u h
     ·rw[List.mem_singleton.mp h]
      exact fun z=>hDr (by cases z; rfl)
    ·rw[Qx,lu]
     rfl
    ·intro u hu
     rcases List.mem_append.mp hu with h | h
     ·exact hur u h
     ·rw[List.mem_singleton.mp h]
      exact fun z=>hDr (by cases z; rfl)
    ·intro qs hq
     rcases List.mem_append.mp hq with h | h
     ·exact few qs h
     ·rw[List.mem_singleton.mp h]
      exact fun p hp=>(pm p hp).1
    ·intro j hj p hp
     have lbk:=rb.length
     by_cases e:j < i
     ·refine hno j e p ?_
      rw[Qf] at hp ⊢
      rw[U4 (by lia)] at hp
      exact hp
     ·have ej:j=bk.length:=by lia
      have ei:j=i:=by lia
      rw[Qf,ej,SX (Ql _),Nat.sub_self] at hp
      rw[ei]
      exact (pm p hp).2
    ·refine List.nodup_append.mpr ⟨ndu,by simp,fun u hu v hv=>?_⟩
     rw[List.mem_singleton.mp hv]
     intro z
     obtain⟨c',ys,e,h⟩:=rb.isl u hu
     rw[e] at z
     have:=s5 _ _ h
     rw[show c'=D by cases z; rfl,hD] at this
     cases this
    ·intro qs hq
     rcases List.mem_append.mp hq with h | h
     ·exact sh2 qs h
     ·rw[List.mem_singleton.mp h,← rp.length]
      lia
  ·rintro σ H2 ⟨⟨u,v,x,rfl⟩,sm,us,bk,er,rb,lu,hur,few,hno,ndu,sh2⟩
   rw[en] at lu
   have lb:=rb.length
   exact⟨_,rfl,q r us bk H2 sm er rb ndu hur (by lia) hno sh2⟩
theorem aR {t u:TS} {D:Ends} {σ:St} {H:Hp} (P:St->Hp->Prop) (h2:∀ σ H,P σ H->u D σ H) (h1:∀ N:St->Hp->Prop,(∀ σ H,P σ H->N σ H)->t { D with nx:=N } σ H):G6 t u D σ H:=h1 (u D) h2
mutual
def mnF:Tm->List Nat
 | .free=>[]
 | .never=>[]
 | .gives i _=>[i]
 | .sum c _=>c
 | .crowd c _ _=>c
 | .all ts=>mnL ts
 | .any ts=>mnL ts
def mnL:List Tm->List Nat
 | []=>[]
 | t::r=>mnF t++mnL r
end
theorem lq:∀ (ts us:List Tm),mnL (ts++us)=mnL ts++mnL us
 | [],us=>by rw[mnL]; rfl
 | t::r,us=>by rw[X3,mnL,mnL,lq r us,V9]
theorem xO {ts:List Tm} {i:Nat} {t:Tm} (h:ts[i]? = some t):mnL (ts.take (i+1))=mnL (ts.take i)++mnF t:=by
 rw[QR,h,lq]
 show _++mnL [t]=_
 rw[mnL,mnL,RL]
theorem yj:∀ {c:List Nat} {n:Nat},c.Pairwise (· < ·)->(∀ i∈c,i < n)->c.length<=n:=by
 have key:∀ (c:List Nat) (a n:Nat),c.Pairwise (· < ·)->(∀ i∈c,a<=i/\i < n)->c.length<=n - a:=by
  intro c
  induction c with
  | nil=>intro a n _ _; exact QW _
  | cons x r ih =>
   intro a n hp hb
   rw[Sw] at hp
   have hx:=hb x Qi
   have:=ih (x+1) n hp.2 fun i hi=>⟨hp.1 i hi,(hb i (Qm _ hi)).2⟩
   rw[Qu]
   lia
 intro c n hp hb
 have:=key c 0 n hp fun i hi=>⟨QW _,hb i hi⟩
 lia
mutual
theorem Jg {n:Nat} {H:Hp} (hn:n<=12):∀ (d:Nat) {v:V} {t:Tm},gZ n H v t->t.dep<=d+1->(mnF t).length<=12 * 6 ^ d
 | d,_,_,.free _,_=>by rw[mnF]; exact QW _
 | d,_,_,.never _,_=>by rw[mnF]; exact QW _
 | d,_,_,.gives _ _ _ _,_=>by
  rw[mnF]
  have:0 < 6 ^ d:=Nat.pow_pos (by decide)
  show 1<=_
  lia
 | d,_,_,.sum _ _ hc hp _ _ _ _,_=>by
  rw[mnF]
  have:=yj hp hc
  have:0 < 6 ^ d:=Nat.pow_pos (by decide)
  lia
 | d,_,_,.crowd _ _ hc hp _ _ _ _ _ _,_=>by
  rw[mnF]
  have:=yj hp hc
  have:0 < 6 ^ d:=Nat.pow_pos (by decide)
  lia
 | 0,_,_,.all (vs:=vs) (ts:=ts) _ _ l2 _ rl,hd=>by
  have:=rG rl l2
  rw[Tm.dep] at hd
  lia
 | d+1,_,_,.all (ts:=ts) _ _ _ l6 rl,hd=>by
  rw[mnF]
  rw[Tm.dep] at hd
  have h1:=wL hn d rl (by lia)
  have h2:=rl.length
  have h3:ts.length * (12 * 6 ^ d)<=6 * (12 * 6 ^ d):=Nat.mul_le_mul_right _ (by lia)
  rw[Nat.pow_succ]
  lia
 | 0,_,_,.any (vs:=vs) (ts:=ts) _ _ l2 _ rl,hd=>by
  have:=rG rl l2
  rw[Tm.dep] at hd
  lia
 | d+1,_,_,.any (ts:=ts) _ _ _ l6 rl,hd=>by
  rw[mnF]
  rw[Tm.dep] at hd
  have h1:=wL hn d rl (by lia)
  have h2:=rl.length
  have h3:ts.length * (12 * 6 ^ d)<=6 * (12 * 6 ^ d):=Nat.mul_le_mul_right _ (by lia)
  rw[Nat.pow_succ]
  lia
theorem wL {n:Nat} {H:Hp} (hn:n<=12):∀ (d:Nat) {vs:List V} {ts:List Tm},cO n H vs ts->tdL ts<=d+1->(mnL ts).length<=ts.length * (12 * 6 ^ d)
 | d,_,_,.nil,_=>by rw[mnL]; exact QW _
 | d,_,_,.cons (ts:=ts) h r,hd=>by
  rw[tdL] at hd
  have h1:=Jg hn d h (by lia)
  have h2:=wL hn d r (by lia)
  rw[mnL,Qx,Qu,Nat.add_mul,Nat.one_mul]
  lia
theorem rG {n:Nat} {H:Hp}:∀ {vs:List V} {ts:List Tm},cO n H vs ts->2<=vs.length->1<=tdL ts
 | _,_,.nil,h=>by simp at h
 | _,_,.cons (t:=t) _ _,_=>by
  rw[tdL]
  have:=t.lB
  lia
end
mutual
theorem K3 {n:Nat} {H:Hp}:∀ {v:V} {t:Tm},gZ n H v t->∀ i∈mnF t,i < n
 | _,_,.free _=>fun i hi=>by rw[mnF] at hi; cases hi
 | _,_,.never _=>fun i hi=>by rw[mnF] at hi; cases hi
 | _,_,.gives _ h _ _=>fun i hi=>by rw[mnF] at hi; rw[List.mem_singleton.mp hi]; exact h
 | _,_,.sum _ _ hc _ _ _ _ _=>fun i hi=>by rw[mnF] at hi; exact hc i hi
 | _,_,.crowd _ _ hc _ _ _ _ _ _ _=>fun i hi=>by rw[mnF] at hi; exact hc i hi
 | _,_,.all _ _ _ _ rl=>fun i hi=>by rw[mnF] at hi; exact Di rl i hi
 | _,_,.any _ _ _ _ rl=>fun i hi=>by rw[mnF] at hi; exact Di rl i hi
theorem Di {n:Nat} {H:Hp}:∀ {vs:List V} {ts:List Tm},cO n H vs ts->∀ i∈mnL ts,i < n
 | _,_,.nil=>fun i hi=>by rw[mnL] at hi; cases hi
 | _,_,.cons h r=>fun i hi=>by
  rw[mnL] at hi
  rcases List.mem_append.mp hi with z | z
  ·exact K3 h i z
  ·exact Di r i z
end
theorem O7 {d:Nat} (h:d<=4):12 * 6 ^ (d - 1)<=2592:=by
 have:6 ^ (d - 1)<=6 ^ 3:=Nat.pow_le_pow_right (by decide) (by lia)
 have:(6:Nat) ^ 3=216:=by decide
 lia
theorem xM {n d:Nat} {H:Hp} {v:V} {t:Tm} (hn:n<=12) (h4:d<=4) (r:gZ n H v t) (hd:t.dep<=d):(mnF t).length<=2592:=by
 have:=t.lB
 exact QL (Jg hn (d - 1) r (by lia)) (O7 h4)
theorem K7 {ts:List Tm} (i:Nat):(mnL (ts.take i)).length<=(mnL ts).length:=by
 have:=congrArg X8 (lq (ts.take i) (ts.drop i))
 rw[Wz,Qx] at this
 lia
inductive Dr (d:Nat) (vs:List V) (H:Hp) (Q:VK):Prop where
 | mk (v:V) (n:Nat) (t:Tm) (z0:vs=[v]) (z1:gZ n H v t) (z2:t.dep<=d) (z3:d<=4) (z4:n<=12) (z5:∀ (r:Addr) (H':Hp),aU H H'->H r=none->H' r=some (.lst ((mnF t).map vN))->Q (.ref r) H'):Dr d vs H Q
def nD (d:Nat):Sp:=fun vs H Q _=>Dr d vs H Q
theorem CG {ps:List Q4}:cI P w K mg base CX0 0 f fd ps (nD 0):=by
 have no:∀ vs H Q E,¬ nD 0 vs H Q E:=fun vs H Q E h=>by
  obtain⟨v,n,t,_,_,h1,_⟩:=h
  have:=t.lB
  lia
 exact⟨fun vs H Q E h=>absurd h (no vs H Q E),fun A outer s H args us vs Q E _ _ _ _ h=>absurd h (no vs H Q E)⟩
abbrev kI:Stmt:=top 26
theorem nU:aO ["term","kind"] ["term"] (aD kI):=⟨rfl,rfl,rfl,by decide+kernel,rfl,by decide+kernel,by decide+kernel⟩
theorem gR {d:Nat} (F:Fun K "mentions" "mentions" kI f fd) (B:Bt mg)
  (D_mentions:Df P w K mg base "mentions" d ["term"] (nD d)):cI P w K mg base CX0 (d+1) f fd ["term"] (nD (d+1)):=by
 refine F.ok nU (fun vs H Q E h=>?_) (fun cdv A outer s H vs Q E hr h=>?_)
 ·obtain⟨v,n,t,rfl,_⟩:=h
  rfl
 ·obtain⟨v,n,t,rfl,rt,hd,h4,hn,q⟩:=h
  refine⟨_,(aq (bf (i:=1) nU.nd rfl (Qw rfl) (aQ (r:=cW K) aY (pv 0) au (fun _ _=>rfl)))
 (aq (bA (aH cz (pv 1) bB (aL _)) (aA (aG (bZ (aa (aQ (r:=cW K) aY (pv 0) au (fun _ _=>rfl)) aj)))) aN)
 (aq (bA (PW.pt (lR (aH cz (pv 1) bB (aL _)) (gY (aH cz (pv 1) bB (aL _))))) (aA (aG (bJ (r:=qU K) lL rfl B.list_ nP (aa (aQ (r:=cW K) aY (pv 0) au (fun _ _=>rfl)) aj)))) aN)
 (aq (bA (PW.pt (lR (aH cz (pv 1) bB (aL _)) (gY (aH cz (pv 1) bB (aL _))))) (aA (aG (G7 (L:=["part","one"]) (F:=[]) (cap:=[]) rfl (bD rfl rfl (by kernel_rfl)) (dj (aQ (r:=cW K) aY (pv 0) au (fun _ _=>rfl))) (fun _ _ _ _ _=>(aJ (i:=0) (bw (by decide+kernel)) rfl (Qw rfl))) (fun _ _ _ _ _=>(sH K rfl (bc D_mentions hr (aa (pv 0) aj)))) (fun _ _ _ _ _=>(aJ (i:=1) (bw (by decide+kernel)) rfl (Qw rfl))) (fun _ _ _ _ _=>(pv 1))))) aN)
 (aA (aG (bZ aj))))))),?_⟩
  have small':=xM hn h4 rt hd
  have parts:∀ {b:Addr} {us:List V} {ts:List Tm},H b=some (.tup us)->cO n H us ts->tdL ts<=d->(mnL ts).length<=2592->∀ {σ':St} {D:Addr},H D=none->(∀ H2,aU H H2->H2 D=some (.lst ((mnL ts).map vN))->Q (.ref D) H2) →
    mX D [none,none] (Itt K b) (vM 0) (Jz K (JN (nD d) [] E0 (Gd (An 0) Fo))) (vM 1) (An 1) H (fun H2=>Q (.ref D) H2):=by
   intro b us ts hb rl hdl lm σ' D hD hq
   have el:=rl.length
   refine Ck (K:=K) (a:=b) (xs:=us) (fun i zs σ' H2=>(∃ u v,σ'=[u,v])/\aU H H2/\H2 D=some (.lst zs)/\zs=(mnL (ts.take i)).map vN) ⟨⟨_,_,rfl⟩,aB hD _,ao,by rw[Rp,mnL]; rfl⟩ (fun i zs σ' H2 _ h=>SqT.of (h.2.1 _ _ hb)) ?_ ?_
   ·rintro i zs x σ' H2 hx ⟨⟨u,v,rfl⟩,sm,eD,ez⟩
    obtain⟨t',ht,rt'⟩:=rl.get hx
    refine⟨_,rfl,x,n,t',rfl,rt'.mono sm,QL (iR ht) hdl,by lia,hn,fun r H3 s3 fr er=>?_⟩
    have hrD:r≠D:=fun z=>by rw[z,eD] at fr; cases fr
    refine⟨r,rfl,⟨_,SqL.of er⟩,Gv (K:=K) (b:=r) (ws:=(mnF t').map vN) (fun j ws σ' H4=>(∃ u,σ'=[some x,u])/\aU H H4/\H4 r=some (.lst ((mnF t').map vN))/\H4 D=some (.lst ws)/\ws=(mnL (ts.take i)++(mnF t').take j).map vN)
     ⟨⟨_,rfl⟩,sm.trans s3,er,s3 _ _ eD,by rw[Rp,RL]; exact ez⟩ (fun j ws σ' H4 _ h=>SqL.of h.2.2.1) ?_ ?_⟩
    ·rintro j ws y σ' H4 hy ⟨⟨u,rfl⟩,s4,er4,eD4,ew⟩
     obtain⟨m,hm,rfl⟩:=qP hy
     have hlen:ws.length<=2592:=by
      have h1:=K7 (ts:=ts) (i+1)
      rw[xO ht,Qx] at h1
      rw[ew,Qc,Qx,Qv]
      lia
     refine⟨_,rfl,eD4,Vg hlen (by decide),⟨_,rfl⟩,aW s4 hD _,?_,ao,?_⟩
     ·rw[bx hrD]
      exact er4
     ·rw[ew,QR,hm,← V9]
      show _=List.map vN ((mnL (ts.take i)++(mnF t').take j)++[m])
      rw[Qj (l₁:=mnL (ts.take i)++(mnF t').take j)]
      rfl
    ·rintro ws σ' H4 ⟨⟨u,rfl⟩,s4,er4,eD4,ew⟩
     rw[Qc,Qq,← xO ht] at ew
     exact⟨⟨_,_,rfl⟩,s4,eD4,ew⟩
   ·rintro zs σ' H2 ⟨_,sm,eD,ez⟩
    rw[el,Qq] at ez
    exact hq H2 sm (by rw[eD,ez])
  cases rt with
  | @free a ha =>
   refine⟨_,rfl,a,_,_,_,rfl,rfl,SqT.of ha,aC (k:=0) rfl,?_⟩
   refine⟨_,rfl,rfl,_,rfl,cg (aK (by decide)) ?_⟩
   refine⟨_,rfl,rfl,_,rfl,cg (aK (by decide)) ⟨_,rfl,rfl,_,rfl,cg (aK (by decide)) ?_⟩⟩
   refine⟨_,rfl,rfl,_,rfl,cg (aK (by decide)) ⟨_,rfl,rfl,_,rfl,cg (aK (by decide)) ?_⟩⟩
   exact⟨small (by show 0<=1000; decide),fun r h0=>q r _ (aB h0 _) h0 (by rw[ao,mnF]; rfl)⟩
  | @never a ha =>
   refine⟨_,rfl,a,_,_,_,rfl,rfl,SqT.of ha,aC (k:=0) rfl,?_⟩
   refine⟨_,rfl,rfl,_,rfl,cg (aK (by decide)) ?_⟩
   refine⟨_,rfl,rfl,_,rfl,cg (aK (by decide)) ⟨_,rfl,rfl,_,rfl,cg (aK (by decide)) ?_⟩⟩
   refine⟨_,rfl,rfl,_,rfl,cg (aK (by decide)) ⟨_,rfl,rfl,_,rfl,cg (aK (by decide)) ?_⟩⟩
   exact⟨small (by show 0<=1000; decide),fun r h0=>q r _ (aB h0 _) h0 (by rw[ao,mnF]; rfl)⟩
  | @gives a i k ha hi k1 k9 =>
   refine⟨_,rfl,a,_,_,_,rfl,rfl,SqT.of ha,aC (k:=0) rfl,?_⟩
   refine⟨_,rfl,rfl,_,rfl,jW rfl ?_⟩
   exact⟨_,rfl,a,_,_,_,rfl,rfl,SqT.of ha,aC (k:=1) rfl,small (by show 1<=1000; decide),fun r h0=>q r _ (aB h0 _) h0 (by rw[ao,mnF]; rfl)⟩
  | @sum a b c k ha hb hc hp l20 l2 k1 k99 =>
   refine⟨_,rfl,a,_,_,_,rfl,rfl,SqT.of ha,aC (k:=0) rfl,?_⟩
   refine⟨_,rfl,rfl,_,rfl,cg (aK (by decide)) ?_⟩
   refine⟨_,rfl,rfl,_,rfl,jW rfl (gm ?_)⟩
   exact⟨_,rfl,a,_,_,_,rfl,rfl,SqT.of ha,aC (k:=1) rfl,b,_,rfl,.inr (SqT.of hb),fun r h0=>q r _ (aB h0 _) h0 (by rw[ao,mnF])⟩
  | @crowd a b c k mm ha hb hc hp l20 l1 k1 k9 m1 m12 =>
   refine⟨_,rfl,a,_,_,_,rfl,rfl,SqT.of ha,aC (k:=0) rfl,?_⟩
   refine⟨_,rfl,rfl,_,rfl,cg (aK (by decide)) ?_⟩
   refine⟨_,rfl,rfl,_,rfl,cg (aK (by decide)) ⟨_,rfl,rfl,_,rfl,jW rfl ?_⟩⟩
   exact⟨_,rfl,a,_,_,_,rfl,rfl,SqT.of ha,aC (k:=1) rfl,b,_,rfl,.inr (SqT.of hb),fun r h0=>q r _ (aB h0 _) h0 (by rw[ao,mnF])⟩
  | @all a b us ts ha hb l2 l6 rl =>
   have hdl:tdL ts<=d:=by rw[Tm.dep] at hd; lia
   rw[mnF] at small'
   refine⟨_,rfl,a,_,_,_,rfl,rfl,SqT.of ha,aC (k:=0) rfl,?_⟩
   refine⟨_,rfl,rfl,_,rfl,cg (aK (by decide)) ?_⟩
   refine⟨_,rfl,rfl,_,rfl,cg (aK (by decide)) ⟨_,rfl,rfl,_,rfl,cg (aK (by decide)) ?_⟩⟩
   refine⟨_,rfl,rfl,_,rfl,jW rfl (gm ?_)⟩
   exact⟨_,rfl,a,_,_,_,rfl,rfl,SqT.of ha,aC (k:=1) rfl,b,rfl,⟨_,SqT.of hb⟩,fun D hD=>parts (σ':=[]) hb rl hdl small' hD fun H2 sm eD=>q D H2 sm hD (by rw[eD,mnF])⟩
  | @any a b us ts ha hb l2 l6 rl =>
   have hdl:tdL ts<=d:=by rw[Tm.dep] at hd; lia
   rw[mnF] at small'
   refine⟨_,rfl,a,_,_,_,rfl,rfl,SqT.of ha,aC (k:=0) rfl,?_⟩
   refine⟨_,rfl,rfl,_,rfl,cg (aK (by decide)) ?_⟩
   refine⟨_,rfl,rfl,_,rfl,cg (aK (by decide)) ⟨_,rfl,rfl,_,rfl,cg (aK (by decide)) ?_⟩⟩
   refine⟨_,rfl,rfl,_,rfl,cg (aK (by decide)) ⟨_,rfl,rfl,_,rfl,jW rfl ?_⟩⟩
   exact⟨_,rfl,a,_,_,_,rfl,rfl,SqT.of ha,aC (k:=1) rfl,b,rfl,⟨_,SqT.of hb⟩,fun D hD=>parts (σ':=[]) hb rl hdl small' hD fun H2 sm eD=>q D H2 sm hD (by rw[eD,mnF])⟩
def nmI (c:List Nat) (ms:List Int):Prop:=ms.Perm (ddI (c.map fun i:Nat=>(i:Int)))/\ms.Pairwise (·<=·)
theorem DQ:∀ (ns acc:List Int) (x:Int),x∈ns.foldl RP acc->x∈acc∨x∈ns
 | [],acc,x,h=>.inl h
 | n::r,acc,x,h=>by
  rw[Ri] at h
  rcases DQ r _ x h with z | z
  ·unfold RP at z
   split at z
   ·exact .inl z
   ·rcases List.mem_append.mp z with y | y
    ·exact .inl y
    ·rw[List.mem_singleton.mp y]
     exact .inr Qi
  ·exact .inr (Qm _ z)
theorem uV:∀ (n:Nat) (l:List Int),l.Nodup->(∀ x∈l,0<=x/\x < (n:Int))->l.length<=n
 | 0,l,_,h=>by
  cases l with
  | nil=>exact QW _
  | cons x r =>
   have:=h x Qi
   lia
 | n+1,l,nd,h=>by
  have h1:=uV n (l.erase (n:Int)) (nd.erase _) fun x hx=>by
   have hx':=List.mem_of_mem_erase hx
   have b:=h x hx'
   have ne:x≠(n:Int):=fun z=>by
    rw[z] at hx
    exact (List.Nodup.mem_erase_iff nd).mp hx |>.1 rfl
   lia
  have h2:l.length<=(l.erase (n:Int)).length+1:=by
   rw[List.length_erase]
   split <;> lia
  lia
theorem Mx {c:List Nat} {n:Nat} (h:∀ i∈c,i < n):(ddI (c.map fun i:Nat=>(i:Int))).length<=n:=by
 rw[vq]
 refine uV n _ (rn _ [] List.nodup_nil) fun x hx=>?_
 rcases DQ _ [] x hx with z | z
 ·cases z
 ·obtain⟨i,hi,rfl⟩:=List.mem_map.mp z
  have:=h i hi
  lia
abbrev xg:Stmt:=top 27
theorem GD:aO ["term"] ["term"] (aD xg):=⟨rfl,rfl,rfl,by decide+kernel,rfl,by decide+kernel,by decide+kernel⟩
inductive yf (vs:List V) (H:Hp) (Q:VK):Prop where
 | mk (v:V) (n:Nat) (t:Tm) (z0:vs=[v]) (z1:gZ n H v t) (z2:t.dep<=4) (z3:n<=12) (z4:∀ (r:Addr) (ms:List Int) (H':Hp),aU H H'->H r=none->nmI (mnF t) ms->H' r=some (.lst (ms.map V.int))->Q (.ref r) H'):yf  vs H Q
def CQ:Sp:=fun vs H Q _=>yf  vs H Q
theorem Gr {k:Nat} (F:Fun K "named" "named" xg f fd) (B:Bt mg)
  (D_mentions:Df P w K mg base "mentions" k ["term"] (nD 4)):cI P w K mg base CX0 (k+1) f fd ["term"] CQ:=by
 refine F.ok GD (fun vs H Q E h=>?_) (fun cdv A outer s H vs Q E hr h=>?_)
 ·obtain⟨v,n,t,rfl,_⟩:=h
  rfl
 ·obtain⟨v,n,t,rfl,rt,hd,hn,q⟩:=h
  refine⟨_,(aA (aG (lV rfl rfl B.sorted_ rfl B.set_ (aa (bc D_mentions hr (aa (pv 0) aj)) aj)))),?_⟩
  refine⟨_,rfl,v,n,t,rfl,rt,hd,by decide,hn,fun r H1 s1 fr er=>?_⟩
  have lm:=xM hn (Ql 4) rt hd
  have ld:=Mx (K3 rt)
  refine⟨r,(mnF t).map fun i:Nat=>(i:Int),rfl,SqL.of (by rw[er,ie]),by rw[Qc]; lia,by lia,fun ms pm so l hl=>?_⟩
  exact q l ms _ (s1.trans (aB hl _)) (s1.free hl) ⟨pm,so⟩ ao
abbrev jL:Stmt:=top 13
abbrev lO:Stmt:=top 19
abbrev jH:Stmt:=top 20
abbrev dU:Stmt:=top 21
abbrev oX:Stmt:=top 22
theorem uc:aO ["thing","low","high"] ["thing","low","high"] (aD jL):=⟨rfl,rfl,rfl,by decide+kernel,rfl,by decide+kernel,by decide+kernel⟩
theorem gJ:aO ["many","thing","fewest","lowest_left","one"] ["many","thing","fewest"] (aD lO):=⟨rfl,rfl,rfl,by decide+kernel,rfl,by decide+kernel,by decide+kernel⟩
theorem ux:aO ["many","thing","deep"] ["many","thing","deep"] (aD jH):=⟨rfl,rfl,rfl,by decide+kernel,rfl,by decide+kernel,by decide+kernel⟩
theorem fU:aO ["many","thing","deep","kind"] ["many","thing","deep"] (aD dU):=⟨rfl,rfl,rfl,by decide+kernel,rfl,by decide+kernel,by decide+kernel⟩
theorem zT:aO ["many","term"] ["many","term"] (aD oX):=⟨rfl,rfl,rfl,by decide+kernel,rfl,by decide+kernel,by decide+kernel⟩
def isNum:V->Int->Int->Bool
 | .int i,lo,hi=>decide (lo<=i) && decide (i<=hi)
 | _,_,_=>false
inductive NV:V->Prop where
 | int (i:Int):NV (.int i)
 | str (x:Q4):NV (.str x)
inductive yV (vs:List V) (H:Hp) (Q:VK):Prop where
 | mk (x:V) (lo hi:Int) (z0:vs=[x,.int lo,.int hi]) (z1:NV x) (z2:Q (.bl (isNum x lo hi)) H):yV  vs H Q
def iw:Sp:=fun vs H Q _=>yV  vs H Q
theorem vf (F:Fun K "is_number" "is_number" jL f fd) (B:Bt mg) :
  cI P w K mg base CX0 1 f fd ["thing","low","high"] iw:=by
 refine F.ok uc (fun vs H Q E h=>?_) (fun cdv A outer s H vs Q E hr h=>?_)
 ·obtain⟨x,lo,hi,rfl,_⟩:=h
  rfl
 ·obtain⟨x,lo,hi,rfl,pl,q⟩:=h
  refine⟨_,(aA (aG (dZ (aF (r:=sO K) cH rfl B.isinstance_ bj (aa (pv 0) (aa (ik B.int_ vm) aj))) (dZ (Mp (aF (r:=sO K) cH rfl B.isinstance_ bj (aa (pv 0) (aa (ik B.bool_ vO) aj)))) (dZ (cu Lr (pv 1) (pv 0) (aL _)) (iB (cu Lr (pv 0) (pv 2) (aL _)))))))),?_⟩
  cases pl with
  | int i =>
   refine⟨_,rfl,_,_,_,_,rfl,.int i,dJ _ _,_,rfl,gm ?_⟩
   refine⟨_,rfl,_,_,_,_,rfl,.int i,jw _,_,rfl,_,rfl,gm ?_⟩
   refine⟨_,rfl,_,rfl,_,_,rfl,rfl,_,rfl,?_⟩
   have e:isNum (.int i) lo hi=(decide (lo<=i) && decide (i<=hi)):=rfl
   rw[e] at q
   cases c:decide (lo<=i) with
   | true =>
    rw[c] at q
    exact gm ⟨_,rfl,_,rfl,_,_,rfl,rfl,q⟩
   | false =>
    rw[c] at q
    exact cV q
  | str y=>exact⟨_,rfl,_,_,_,_,rfl,.str y,Aa _,_,rfl,cV q⟩
theorem iI {k lo hi:Int} (h1:lo<=k) (h2:k<=hi):isNum (.int k) lo hi=true:=by
 show (decide (lo<=k) && decide (k<=hi))=true
 rw[decide_eq_true h1,decide_eq_true h2]
 rfl
theorem yN {i m:Nat} {lo:Int} (h:lo<=(i:Int)):isNum (.int (i:Int)) lo ((m:Int) - 1)=decide (i < m):=by
 show (decide (lo<=(i:Int)) && decide ((i:Int)<=(m:Int) - 1))=decide (i < m)
 rw[decide_eq_true h,Vb]
 exact decide_eq_decide.mpr ⟨fun z=>by lia,fun z=>by lia⟩
def ltF (m:Nat) (c:List Nat):Bool:=c.all fun i=>decide (i < m)
theorem Bo (m:Nat) (a b:List Nat):ltF m (a++b)=(ltF m a && ltF m b):=List.all_append
theorem Ed {m:Nat} {c:List Nat}:ltF m c=true ↔ ∀ i∈c,i < m:=by
 unfold ltF
 rw[X4]
 exact⟨fun h i hi=>of_decide_eq_true (h i hi),fun h i hi=>decide_eq_true (h i hi)⟩
theorem Mu {m i:Nat} {c:List Nat} (h:i∈c) (hm:¬ i < m):ltF m c=false:=by
 cases e:ltF m c with
 | false=>rfl
 | true=>exact absurd (Ed.mp e i h) hm
inductive CZ (vs:List V) (H:Hp) (Q:VK):Prop where
 | mk (b:Addr) (c:List Nat) (m:Nat) (few:Int) (z0:vs=[.int (m:Int),.ref b,.int few]) (z1:H b=some (.tup (c.map vN))) (z2:c.Pairwise (· < ·)) (z3:few<=(c.length:Int)) (z4:Q (.bl (ltF m c)) H):CZ  vs H Q
def Hv:Sp:=fun vs H Q _=>CZ  vs H Q
theorem vQ (F:Fun K "is_crowd" "is_crowd" lO f fd) (B:Bt mg)
  (D_is_number:Df P w K mg base "is_number" 1 ["thing","low","high"] iw):cI P w K mg base CX0 2 f fd ["many","thing","fewest"] Hv:=by
 refine F.ok gJ (fun vs H Q E h=>?_) (fun cdv A outer s H vs Q E hr h=>?_)
 ·obtain⟨b,c,m,few,rfl,_⟩:=h
  rfl
 ·obtain⟨b,c,m,few,rfl,hb,hp,hf,q⟩:=h
  refine⟨_,(aq (bA (PW.pt (lR (dY (cZ (aF (r:=sO K) cH rfl B.isinstance_ bj (aa (pv 1) (aa (ik B.tuple_ bQ) aj))))) (gY (aH wI (aF (r:=iV K) aX rfl B.len_ bV (aa (pv 1) aj)) (pv 2) (aL _))))) (aA (aG fV)) aN)
 (aq (bf (i:=3) gJ.nd rfl (Qw rfl) au)
 (aq (cY QX rfl (dj (pv 1)) (aJ (i:=4) gJ.nd rfl (Qw rfl)) (aq (bA (dY (cZ (bc D_is_number hr (aa (pv 4) (aa (pv 3) (aa (aV iD (pv 0) au) aj)))))) (aA (aG fV)) aN)
 (aA (bf (i:=3) gJ.nd rfl (Qw rfl) (aV bI (pv 4) au)))))
 (aA (aG fV))))),?_⟩
  refine⟨_,rfl,_,_,_,_,rfl,.tup hb,dJ _ _,_,rfl,cV ?_⟩
  refine⟨_,rfl,b,_,rfl,.inr (SqT.of hb),_,rfl,_,_,rfl,rfl,_,rfl,?_⟩
  refine cg (by rw[Qc]; lia) ?_
  refine⟨_,rfl,b,rfl,⟨_,SqT.of hb⟩,oR (K:=K) (a:=b) (xs:=c.map vN) (fun i σ H2=>H2=H/\∃ (lo:Int) (u:Option V),σ=[some (.int (m:Int)),some (.ref b),some (.int few),some (.int lo),u]/\(∀ x∈c.drop i,lo<=((x:Nat):Int))/\ltF m (c.take i)=true) ⟨rfl,0,_,rfl,fun x _=>by lia,by rw[Rp]; rfl⟩ (fun i σ H2 _ h2=>by rw[h2.1]; exact SqT.of hb) ?_ ?_⟩
  ·rintro i x σ H2 hx ⟨rfl,lo,u,rfl,hlo,hlt⟩
   obtain⟨y,hy,rfl⟩:=qP hx
   have hi:i < c.length:=(List.getElem?_eq_some_iff.mp hy).1
   have ey:c[i]=y:=(List.getElem?_eq_some_iff.mp hy).2
   have ed:c.drop i=y::c.drop (i+1):=by rw[Tu hi,ey]
   have hl:=hlo y (by rw[ed]; exact Qi)
   refine⟨_,rfl,_,rfl,_,rfl,_,_,rfl,rfl,vN y,lo,(m:Int) - 1,rfl,.int _,_,rfl,?_⟩
   rw[show vN y=V.int (y:Int) from rfl,yN hl]
   by_cases hm:y < m
   ·rw[decide_eq_true hm]
    refine cV ⟨_,rfl,_,_,rfl,rfl,rfl,(y:Int)+1,_,rfl,fun x hx=>?_,?_⟩
    ·have h1:=hp.drop (i:=i)
     rw[ed,Sw] at h1
     have:=h1.1 x hx
     lia
    ·rw[QR,hy,Bo,hlt,Vb]
     show (decide (y < m) && true)=true
     rw[decide_eq_true hm]
     rfl
   ·rw[decide_eq_false hm]
    refine gm ?_
    rw[Mu (QC hy) hm] at q
    exact q
  ·rintro σ H2 ⟨rfl,lo,u,rfl,hlo,hlt⟩
   rw[Qc,Qq] at hlt
   rw[hlt] at q
   exact q
theorem ne0 {n:Nat} (h:n≠0):¬ V.int (n:Int)=V.int 0:=fun z=>h (by injection z with z; lia)
inductive ur (k:Nat) (vs:List V) (H:Hp) (Q:VK):Prop where
 | mk (v:V) (m dp:Nat) (z0:vs=[.int (m:Int),v,.int (dp:Int)]) (z1:1<=dp) (z2:dp<=k) (z3:((∃ (n:Nat) (t:Tm),gZ n H v t/\t.dep<=dp/\∀ H',aU H H'->Q (.bl (ltF m (mnF t))) H')∨(∃ e:Addr,v = .ref e/\H e=some (.tup [])/\Q (.bl false) H))):ur k vs H Q
def iW (k:Nat):Sp:=fun vs H Q _=>ur k vs H Q
inductive yr (k:Nat) (vs:List V) (H:Hp) (Q:VK):Prop where
 | mk (b:Addr) (us:List V) (ts:List Tm) (n m dp:Nat) (z0:vs=[.int (m:Int),.ref b,.int (dp:Int)]) (z1:dp<=k) (z2:H b=some (.tup us)) (z3:2<=us.length) (z4:us.length<=6) (z5:cO n H us ts) (z6:tdL ts<=dp) (z7:1<=dp) (z8:∀ H',aU H H'->Q (.bl (ltF m (mnL ts))) H'):yr k vs H Q
def Fb (k:Nat):Sp:=fun vs H Q _=>yr k vs H Q
theorem Bs (m:Nat):∀ ts:List Tm,(ts.map fun t=>ltF m (mnF t)).all (fun b=>b)=ltF m (mnL ts)
 | []=>by rw[mnL]; rfl
 | t::r=>by
  have ih:=Bs m r
  rw[mnL,Bo,← ih]
  rfl
theorem fG {n k:Nat} {t1 t2:Tok} (F:Fun K "are_parts" "are_parts" jH f fd) (B:Bt mg) (c_FEWEST_PARTS:mg "FEWEST_PARTS" = some (.int 2 t1)) (c_MOST_PARTS:mg "MOST_PARTS" = some (.int 6 t2))
  (hk:1<=k) (D_is_number:Df P w K mg base "is_number" 1 ["thing","low","high"] iw) (D_is_term_within:Df P w K mg base "is_term_within" k ["many","thing","deep"] (iW n)):cI P w K mg base CX0 (k+1) f fd ["many","thing","deep"] (Fb n):=by
 refine F.ok ux (fun vs H Q E h=>?_) (fun cdv A outer s H vs Q E hr h=>?_)
 ·obtain⟨b,us,ts,n0,m,dp,rfl,_⟩:=h
  rfl
 ·obtain⟨b,us,ts,n0,m,dp,rfl,hdp,hb,l2,l6,rl,hd,d1,q⟩:=h
  refine⟨_,(aq (bA (PW.pt (lR (dY (cZ (aF (r:=sO K) cH rfl B.isinstance_ bj (aa (pv 1) (aa (ik B.tuple_ bQ) aj))))) (gY (dY (cZ (bc D_is_number hr (aa (aF (r:=iV K) aX rfl B.len_ bV (aa (pv 1) aj)) (aa (mO c_FEWEST_PARTS) (aa (mO c_MOST_PARTS) aj))))))))) (aA (aG fV)) aN)
 (aA (aG (aF (r:=Ds K) (jY rfl) rfl B.all_ zg (aa (bK (L:=["part"]) (F:=["many","deep"]) (cap:=[0,2]) rfl (bD rfl rfl (by kernel_rfl)) (dj (pv 1)) (fun _ _ _ _ _=>(aJ (i:=0) (bw (by decide+kernel)) rfl (Qw rfl))) (fun _ _ _ _ _=>bR) (fun _ _ _ _ _=>(bc D_is_term_within hr (aa (pv 1) (aa (pv 0) (aa (pv 2) aj)))))) aj))))),?_⟩
  have el:=rl.length
  refine⟨_,rfl,_,_,_,_,rfl,.tup hb,dJ _ _,_,rfl,cV ?_⟩
  refine⟨_,rfl,b,_,rfl,.inr (SqT.of hb),.int (us.length:Int),2,6,rfl,.int _,_,rfl,?_⟩
  rw[iI (by lia) (by lia)]
  refine cV ⟨_,rfl,b,rfl,⟨_,SqT.of hb⟩,fun D hD=>cL (K:=K) (a:=b) (xs:=us) (fun i zs σ' H2=>(∃ u,σ'=[u,some (.int (m:Int)),some (.int (dp:Int))])/\zs=((ts.take i).map fun t=>ltF m (mnF t)).map V.bl/\aU H H2/\H2 D=some (.lst zs))
   ⟨⟨_,rfl⟩,rfl,aB hD _,ao⟩ (fun i zs σ' H2 _ h2=>⟨d8 h2.2.2.1 (SqT.of hb),h2.2.2.2⟩) ?_ ?_⟩
  ·rintro i zs x σ' H2 hx ⟨⟨u,rfl⟩,e1,sm,hDl⟩
   have hi:i < us.length:=(List.getElem?_eq_some_iff.mp hx).1
   obtain⟨t,ht,rt⟩:=rl.get hx
   refine gT ?_
   refine⟨_,rfl,_,rfl,_,rfl,x,m,dp,rfl,d1,hdp,.inl ⟨n0,t,rt.mono sm,QL (iR ht) hd,fun H3 s3=>⟨s3 _ _ hDl,?_,⟨_,rfl⟩,?_,aW (sm.trans s3) hD _,ao⟩⟩⟩
   ·rw[e1,Qc,Qc,Qv]
    exact aM (by lia)
   ·rw[e1,QR,ht,Qj,Qj]
    rfl
  ·rintro zs σ' H2 ⟨_,e1,sm,hDl⟩
   rw[el,Qq] at e1
   refine⟨D,ts.map fun t=>ltF m (mnF t),rfl,SqL.of (by rw[hDl,e1]),?_⟩
   rw[Bs]
   exact q H2 sm
theorem wO:cI P w K mg base CX0 1 f fd ["many","thing","deep"] (iW 0):=by
 have no:∀ vs H Q E,¬ iW 0 vs H Q E:=fun vs H Q E h=>by
  obtain⟨v,m,dp,_,h1,h2,_⟩:=h
  lia
 exact⟨fun vs H Q E h=>absurd h (no vs H Q E),fun A outer s H args us vs Q E _ _ _ _ h=>absurd h (no vs H Q E)⟩
theorem cU {n k:Nat} {t1 t2 t3:Tok} (F:Fun K "is_term_within" "is_term_within" dU f fd) (B:Bt mg)
  (c_MOST_STEP:mg "MOST_STEP" = some (.int 9 t1)) (c_MOST_SUM:mg "MOST_SUM" = some (.int 99 t2)) (c_MOST_FOLK:mg "MOST_FOLK" = some (.int 12 t3)) (hk:2<=k) (D_is_number:Df P w K mg base "is_number" 1 ["thing","low","high"] iw) (D_is_crowd:Df P w K mg base "is_crowd" 2 ["many","thing","fewest"] Hv)
  (D_are_parts:Df P w K mg base "are_parts" k ["many","thing","deep"] (Fb n)):cI P w K mg base CX0 (k+1) f fd ["many","thing","deep"] (iW (n+1)):=by
 refine F.ok fU (fun vs H Q E h=>?_) (fun cdv A outer s H vs Q E hr h=>?_)
 ·obtain⟨v,m,dp,rfl,_⟩:=h
  rfl
 ·obtain⟨v,m,dp,rfl,d1,dk,h⟩:=h
  refine⟨_,(aq (bA (PW.pt (lR (aH wI (pv 2) au (aL _)) (lR (dY (cZ (aF (r:=sO K) cH rfl B.isinstance_ bj (aa (pv 1) (aa (ik B.tuple_ bQ) aj))))) (gY (aH cz (aF (r:=iV K) aX rfl B.len_ bV (aa (pv 1) aj)) au (aL _)))))) (aA (aG fV)) aN)
 (aq (bf (i:=3) fU.nd rfl (Qw rfl) (aQ (r:=cW K) aY (pv 1) au (fun _ _=>rfl)))
 (aq (bA (PW.pt (lR (aH cz (pv 3) bB (aL _)) (gY (aH cz (pv 3) bB (aL _))))) (aA (aG (cu cz (aF (r:=iV K) aX rfl B.len_ bV (aa (pv 1) aj)) au (aL _)))) aN)
 (aq (bA (aH cz (pv 3) bB (aL _)) (aA (aG (dZ (cu cz (aF (r:=iV K) aX rfl B.len_ bV (aa (pv 1) aj)) au (aL _)) (dZ (bc D_is_number hr (aa (aQ (r:=cW K) aY (pv 1) au (fun _ _=>rfl)) (aa au (aa (aV iD (pv 0) au) aj)))) (iB (bc D_is_number hr (aa (aQ (r:=cW K) aY (pv 1) au (fun _ _=>rfl)) (aa au (aa (mO c_MOST_STEP) aj))))))))) aN)
 (aq (bA (aH cz (pv 3) bB (aL _)) (aA (aG (dZ (cu cz (aF (r:=iV K) aX rfl B.len_ bV (aa (pv 1) aj)) au (aL _)) (dZ (bc D_is_crowd hr (aa (pv 0) (aa (aQ (r:=cW K) aY (pv 1) au (fun _ _=>rfl)) (aa au aj)))) (iB (bc D_is_number hr (aa (aQ (r:=cW K) aY (pv 1) au (fun _ _=>rfl)) (aa au (aa (mO c_MOST_SUM) aj))))))))) aN)
 (aq (bA (aH cz (pv 3) bB (aL _)) (aq (bA (PW.pt (lR (aH zj (aF (r:=iV K) aX rfl B.len_ bV (aa (pv 1) aj)) au (aL _)) (gY (dY (cZ (bc D_is_crowd hr (aa (pv 0) (aa (aQ (r:=cW K) aY (pv 1) au (fun _ _=>rfl)) (aa au aj))))))))) (aA (aG fV)) aN)
 (aA (aG (dZ (bc D_is_number hr (aa (aQ (r:=cW K) aY (pv 1) au (fun _ _=>rfl)) (aa au (aa (mO c_MOST_STEP) aj)))) (iB (bc D_is_number hr (aa (aQ (r:=cW K) aY (pv 1) au (fun _ _=>rfl)) (aa au (aa (mO c_MOST_FOLK) aj))))))))) aN)
 (aq (bA (PW.pt (lR (aH cz (pv 3) bB (aL _)) (gY (aH cz (pv 3) bB (aL _))))) (aA (aG (dZ (cu cz (aF (r:=iV K) aX rfl B.len_ bV (aa (pv 1) aj)) au (aL _)) (iB (bc D_are_parts hr (aa (pv 0) (aa (aQ (r:=cW K) aY (pv 1) au (fun _ _=>rfl)) (aa (aV iD (pv 2) au) aj)))))))) aN)
 (aA (aG fV))))))))),?_⟩
  refine⟨_,rfl,_,_,rfl,rfl,_,rfl,cg (by lia) ?_⟩
  rcases h with⟨n0,t,rt,hd,q⟩ | ⟨e,rfl,he,q⟩
  ·have q0:=q H (aU.refl H)
   cases rt with
   | @free a ha =>
    refine⟨_,rfl,_,_,_,_,rfl,.tup ha,dJ _ _,_,rfl,cV ⟨_,rfl,a,_,rfl,.inr (SqT.of ha),rfl,_,rfl,cg (ne0 (T9 _)) ?_⟩⟩
    refine⟨_,rfl,a,_,_,_,rfl,rfl,SqT.of ha,aC (k:=0) rfl,?_⟩
    refine⟨_,rfl,rfl,_,rfl,jW rfl (gm ?_)⟩
    rw[mnF] at q0
    exact⟨_,rfl,a,_,rfl,.inr (SqT.of ha),rfl,q0⟩
   | @never a ha =>
    refine⟨_,rfl,_,_,_,_,rfl,.tup ha,dJ _ _,_,rfl,cV ⟨_,rfl,a,_,rfl,.inr (SqT.of ha),rfl,_,rfl,cg (ne0 (T9 _)) ?_⟩⟩
    refine⟨_,rfl,a,_,_,_,rfl,rfl,SqT.of ha,aC (k:=0) rfl,?_⟩
    refine⟨_,rfl,rfl,_,rfl,cg (aK (by decide)) ⟨_,rfl,rfl,_,rfl,jW rfl ?_⟩⟩
    rw[mnF] at q0
    exact⟨_,rfl,a,_,rfl,.inr (SqT.of ha),rfl,q0⟩
   | @gives a i kk ha hi k1 k9 =>
    refine⟨_,rfl,_,_,_,_,rfl,.tup ha,dJ _ _,_,rfl,cV ⟨_,rfl,a,_,rfl,.inr (SqT.of ha),rfl,_,rfl,cg (ne0 (T9 _)) ?_⟩⟩
    refine⟨_,rfl,a,_,_,_,rfl,rfl,SqT.of ha,aC (k:=0) rfl,?_⟩
    refine⟨_,rfl,rfl,_,rfl,cg (aK (by decide)) ⟨_,rfl,rfl,_,rfl,cg (aK (by decide)) ?_⟩⟩
    refine⟨_,rfl,rfl,_,rfl,jW rfl ?_⟩
    refine⟨_,rfl,a,_,rfl,.inr (SqT.of ha),rfl,_,rfl,jW rfl ?_⟩
    refine⟨_,rfl,a,_,_,_,rfl,rfl,SqT.of ha,aC (k:=1) rfl,_,rfl,_,_,rfl,rfl,vN i,0,(m:Int) - 1,rfl,.int _,_,rfl,?_⟩
    rw[show vN i=V.int (i:Int) from rfl,yN (by lia)]
    rw[mnF] at q0
    have e:ltF m [i]=decide (i < m):=by
     show (decide (i < m) && true)=_
     rw[Bool.and_true]
    rw[e] at q0
    refine pL (fun c=>?_) (fun c=>?_)
    ·rw[c] at q0
     refine⟨_,rfl,a,_,_,_,rfl,rfl,SqT.of ha,aC (k:=2) rfl,.int kk,1,9,rfl,.int _,?_⟩
     rw[iI k1 k9]
     exact q0
    ·rw[Bool.eq_false_iff.mpr c] at q0
     exact q0
   | @sum a b c kk ha hb hc hp l20 l2 k1 k99 =>
    refine⟨_,rfl,_,_,_,_,rfl,.tup ha,dJ _ _,_,rfl,cV ⟨_,rfl,a,_,rfl,.inr (SqT.of ha),rfl,_,rfl,cg (ne0 (T9 _)) ?_⟩⟩
    refine⟨_,rfl,a,_,_,_,rfl,rfl,SqT.of ha,aC (k:=0) rfl,?_⟩
    refine⟨_,rfl,rfl,_,rfl,cg (aK (by decide)) ⟨_,rfl,rfl,_,rfl,cg (aK (by decide)) ?_⟩⟩
    refine⟨_,rfl,rfl,_,rfl,cg (aK (by decide)) ?_⟩
    refine⟨_,rfl,rfl,_,rfl,jW rfl ?_⟩
    refine⟨_,rfl,a,_,rfl,.inr (SqT.of ha),rfl,_,rfl,jW rfl ?_⟩
    refine⟨_,rfl,_,rfl,a,_,_,_,rfl,rfl,SqT.of ha,aC (k:=1) rfl,b,c,m,2,rfl,hb,hp,by lia,_,rfl,?_⟩
    rw[mnF] at q0
    refine pL (fun c=>?_) (fun c=>?_)
    ·rw[c] at q0
     refine⟨_,rfl,a,_,_,_,rfl,rfl,SqT.of ha,aC (k:=2) rfl,.int kk,1,99,rfl,.int _,?_⟩
     rw[iI k1 k99]
     exact q0
    ·rw[Bool.eq_false_iff.mpr c] at q0
     exact q0
   | @crowd a b c kk mm ha hb hc hp l20 l1 k1 k9 m1 m12 =>
    refine⟨_,rfl,_,_,_,_,rfl,.tup ha,dJ _ _,_,rfl,cV ⟨_,rfl,a,_,rfl,.inr (SqT.of ha),rfl,_,rfl,cg (ne0 (T9 _)) ?_⟩⟩
    refine⟨_,rfl,a,_,_,_,rfl,rfl,SqT.of ha,aC (k:=0) rfl,?_⟩
    refine⟨_,rfl,rfl,_,rfl,cg (aK (by decide)) ⟨_,rfl,rfl,_,rfl,cg (aK (by decide)) ?_⟩⟩
    refine⟨_,rfl,rfl,_,rfl,cg (aK (by decide)) ?_⟩
    refine⟨_,rfl,rfl,_,rfl,cg (aK (by decide)) ?_⟩
    refine⟨_,rfl,rfl,_,rfl,jW rfl ?_⟩
    refine⟨_,rfl,a,_,rfl,.inr (SqT.of ha),rfl,_,rfl,pF rfl ?_⟩
    refine⟨_,rfl,_,rfl,a,_,_,_,rfl,rfl,SqT.of ha,aC (k:=1) rfl,b,c,m,1,rfl,hb,hp,by lia,_,rfl,?_⟩
    rw[mnF] at q0
    cases z:ltF m c with
    | false =>
     rw[z] at q0
     exact gm q0
    | true =>
     rw[z] at q0
     refine cV ⟨_,rfl,a,_,_,_,rfl,rfl,SqT.of ha,aC (k:=2) rfl,.int kk,1,9,rfl,.int _,_,rfl,?_⟩
     rw[iI k1 k9]
     refine gm ⟨_,rfl,a,_,_,_,rfl,rfl,SqT.of ha,aC (k:=3) rfl,.int mm,1,12,rfl,.int _,?_⟩
     rw[iI m1 m12]
     exact q0
   | @all a b us ts ha hb l2 l6 rl =>
    have hdl:tdL ts+1<=dp:=by rw[Tm.dep] at hd; exact hd
    have t1:=rG rl l2
    refine⟨_,rfl,_,_,_,_,rfl,.tup ha,dJ _ _,_,rfl,cV ⟨_,rfl,a,_,rfl,.inr (SqT.of ha),rfl,_,rfl,cg (ne0 (T9 _)) ?_⟩⟩
    refine⟨_,rfl,a,_,_,_,rfl,rfl,SqT.of ha,aC (k:=0) rfl,?_⟩
    refine⟨_,rfl,rfl,_,rfl,cg (aK (by decide)) ⟨_,rfl,rfl,_,rfl,cg (aK (by decide)) ?_⟩⟩
    refine⟨_,rfl,rfl,_,rfl,cg (aK (by decide)) ?_⟩
    refine⟨_,rfl,rfl,_,rfl,cg (aK (by decide)) ?_⟩
    refine⟨_,rfl,rfl,_,rfl,cg (aK (by decide)) ?_⟩
    refine⟨_,rfl,rfl,_,rfl,jW rfl (gm ?_)⟩
    refine⟨_,rfl,a,_,rfl,.inr (SqT.of ha),rfl,_,rfl,jW rfl ?_⟩
    refine⟨_,rfl,_,rfl,a,_,_,_,rfl,rfl,SqT.of ha,aC (k:=1) rfl,_,rfl,_,_,rfl,rfl,b,us,ts,n0,m,dp - 1,?_,by lia,hb,l2,l6,rl,by lia,by lia,fun H' s'=>?_⟩
    ·rw[show ((dp - 1:Nat):Int)=(dp:Int) - 1 by lia]
     rfl
    ·have q1:=q H' s'
     rw[mnF] at q1
     exact q1
   | @any a b us ts ha hb l2 l6 rl =>
    have hdl:tdL ts+1<=dp:=by rw[Tm.dep] at hd; exact hd
    have t1:=rG rl l2
    refine⟨_,rfl,_,_,_,_,rfl,.tup ha,dJ _ _,_,rfl,cV ⟨_,rfl,a,_,rfl,.inr (SqT.of ha),rfl,_,rfl,cg (ne0 (T9 _)) ?_⟩⟩
    refine⟨_,rfl,a,_,_,_,rfl,rfl,SqT.of ha,aC (k:=0) rfl,?_⟩
    refine⟨_,rfl,rfl,_,rfl,cg (aK (by decide)) ⟨_,rfl,rfl,_,rfl,cg (aK (by decide)) ?_⟩⟩
    refine⟨_,rfl,rfl,_,rfl,cg (aK (by decide)) ?_⟩
    refine⟨_,rfl,rfl,_,rfl,cg (aK (by decide)) ?_⟩
    refine⟨_,rfl,rfl,_,rfl,cg (aK (by decide)) ?_⟩
    refine⟨_,rfl,rfl,_,rfl,cg (aK (by decide)) ⟨_,rfl,rfl,_,rfl,jW rfl ?_⟩⟩
    refine⟨_,rfl,a,_,rfl,.inr (SqT.of ha),rfl,_,rfl,jW rfl ?_⟩
    refine⟨_,rfl,_,rfl,a,_,_,_,rfl,rfl,SqT.of ha,aC (k:=1) rfl,_,rfl,_,_,rfl,rfl,b,us,ts,n0,m,dp - 1,?_,by lia,hb,l2,l6,rl,by lia,by lia,fun H' s'=>?_⟩
    ·rw[show ((dp - 1:Nat):Int)=(dp:Int) - 1 by lia]
     rfl
    ·have q1:=q H' s'
     rw[mnF] at q1
     exact q1
  ·refine⟨_,rfl,_,_,_,_,rfl,.tup he,dJ _ _,_,rfl,cV ⟨_,rfl,e,_,rfl,.inr (SqT.of he),rfl,_,rfl,jW rfl q⟩⟩
inductive sX (vs:List V) (H:Hp) (Q:VK):Prop where
 | mk (v:V) (m:Nat) (z0:vs=[.int (m:Int),v]) (z1:((∃ (n:Nat) (t:Tm),gZ n H v t/\t.dep<=4/\∀ H',aU H H'->Q (.bl (ltF m (mnF t))) H')∨(∃ e:Addr,v = .ref e/\H e=some (.tup [])/\Q (.bl false) H))):sX  vs H Q
def yR:Sp:=fun vs H Q _=>sX  vs H Q
theorem zG {k:Nat} {t1:Tok} (F:Fun K "is_term" "is_term" oX f fd) (B:Bt mg) (c_MOST_DEPTH:mg "MOST_DEPTH" = some (.int 4 t1))
  (D_is_term_within:Df P w K mg base "is_term_within" k ["many","thing","deep"] (iW 4)):cI P w K mg base CX0 (k+1) f fd ["many","term"] yR:=by
 refine F.ok zT (fun vs H Q E h=>?_) (fun cdv A outer s H vs Q E hr h=>?_)
 ·obtain⟨v,m,rfl,_⟩:=h
  rfl
 ·obtain⟨v,m,rfl,h⟩:=h
  refine⟨_,(aA (aG (bc D_is_term_within hr (aa (pv 0) (aa (pv 1) (aa (mO c_MOST_DEPTH) aj)))))),?_⟩
  exact⟨_,rfl,_,rfl,v,m,4,rfl,by decide,by decide,h⟩
inductive Rg where
 | rung (k:Int) (t:Tm) | bad
inductive jG (n:Nat) (H:Hp):V->Rg->Prop where
 | rung {r:Addr} {k:Int} {v:V} {t:Tm}:H r=some (.tup [.int k,v])->gZ n H v t->t.dep<=4->jG n H (.ref r) (.rung k t)
 | odd {r:Addr} {xs:List V}:H r=some (.tup xs)->xs.length≠2->jG n H (.ref r) .bad
 | text {r:Addr} {x:Q4} {v:V}:H r=some (.tup [.str x,v])->jG n H (.ref r) .bad
 | hollow {r e:Addr} {k:Int}:H r=some (.tup [.int k,.ref e])->H e=some (.tup [])->jG n H (.ref r) .bad
theorem jG.bu {n:Nat} {H H':Hp} {v:V} {g:Rg} (e:∀ a xs,H a=some (HO.tup xs)->H' a=some (HO.tup xs)):jG n H v g->jG n H' v g
 | .rung h t d=>.rung (e _ _ h) (t.bu e) d
 | .odd h l=>.odd (e _ _ h) l
 | .text h=>.text (e _ _ h)
 | .hollow h h2=>.hollow (e _ _ h) (e _ _ h2)
theorem jG.mono {n:Nat} {H H':Hp} {v:V} {g:Rg} (e:aU H H') (h:jG n H v g):jG n H' v g:=h.bu fun a xs q=>e a _ q
inductive jK (n:Nat) (H:Hp):List V->List Rg->Prop where
 | nil:jK n H [] []
 | cons {v:V} {g:Rg} {vs:List V} {gs:List Rg}:jG n H v g->jK n H vs gs->jK n H (v::vs) (g::gs)
theorem jK.bu {n:Nat} {H H':Hp} (e:∀ a xs,H a=some (HO.tup xs)->H' a=some (HO.tup xs)):∀ {vs:List V} {gs:List Rg},jK n H vs gs->jK n H' vs gs
 | _,_,.nil=>.nil
 | _,_,.cons h r=>.cons (h.bu e) (jK.bu e r)
theorem jK.length {n:Nat} {H:Hp}:∀ {vs:List V} {gs:List Rg},jK n H vs gs->vs.length=gs.length
 | _,_,.nil=>rfl
 | _,_,.cons _ r=>by rw[Qu,Qu,jK.length r]
theorem jK.get {n:Nat} {H:Hp}:∀ {vs:List V} {gs:List Rg} {i:Nat} {v:V},jK n H vs gs->vs[i]? = some v->∃ g,gs[i]? = some g/\jG n H v g
 | _,_,_,_,.nil,h=>by simp at h
 | _,_,0,_,.cons h _,e=>by
  cases (show some _=some _ from e)
  exact⟨_,rfl,h⟩
 | _,_,i+1,_,.cons _ r,e=>by
  obtain⟨g,e1,e2⟩:=jK.get (i:=i) r (by simpa using e)
  exact⟨g,by simpa using e1,e2⟩
def rgF (m who:Nat) (lo:Int):Rg->Bool
 | .rung k t=>(decide (lo<=k) && decide (k<=9)) && (ltF m (mnF t) && !decide (who∈mnF t))
 | .bad=>false
def rgK:Rg->Int
 | .rung k _=>k
 | .bad=>0
def plF (m who:Nat):Int->List Rg->Bool
 | _,[]=>true
 | lo,g::r=>rgF m who lo g && plF m who (rgK g+1) r
def Np (m who:Nat) (gs:List Rg):Bool:=(decide (1<=gs.length) && decide (gs.length<=9)) && plF m who 1 gs
theorem zc (x:Int):∀ ns:List Int,inV (.int x) (ns.map V.int)=decide (x∈ns)
 | []=>by rw[decide_eq_false (by simp)]; rfl
 | n::r=>by
  have ih:=zc x r
  show (eqV (.int n) (.int x) || inV (.int x) (r.map V.int))=_
  rw[ih]
  have e:eqV (.int n) (.int x)=(n == x):=rfl
  rw[e,VD]
  simp only[Vf,decide_eq_true_eq,Sq,beq_iff_eq]
  exact⟨fun h=>h.elim (fun z=>.inl z.symm) .inr,fun h=>h.elim (fun z=>.inl z.symm) .inr⟩
theorem Ls {c:List Nat} {ms:List Int} (h:nmI c ms) (x:Nat):(x:Int)∈ms ↔ x∈c:=by
 obtain⟨p,_⟩:=h
 rw[p.mem_iff,vq,yp]
 constructor
 ·rintro (h | h)
  ·cases h
  ·obtain⟨y,hy,e⟩:=List.mem_map.mp h
   have:x=y:=by lia
   rw[this]
   exact hy
 ·exact fun h=>.inr (List.mem_map.mpr ⟨x,h,rfl⟩)
theorem FW (ns:List Int):(ns.map V.int).all pI=true:=by
 rw[XH]
 exact List.all_eq_true.mpr fun _ _=>rfl
abbrev o4:Stmt:=top 30
abbrev jx:Stmt:=top 31
theorem lM:aO ["many","one","thing","lowest_step","step","term"] ["many","one","thing","lowest_step"] (aD o4):=⟨rfl,rfl,rfl,by decide+kernel,rfl,by decide+kernel,by decide+kernel⟩
theorem fc:aO ["many","one","thing","lowest_step","rung"] ["many","one","thing"] (aD jx):=⟨rfl,rfl,rfl,by decide+kernel,rfl,by decide+kernel,by decide+kernel⟩
inductive tH (vs:List V) (H:Hp) (Q:VK):Prop where
 | mk (v:V) (g:Rg) (n m who:Nat) (lo:Int) (z0:vs=[.int (m:Int),.int (who:Int),v,.int lo]) (z1:jG n H v g) (z2:n<=12) (z3:∀ H',aU H H'->Q (.bl (rgF m who lo g)) H'):tH  vs H Q
def xY:Sp:=fun vs H Q _=>tH  vs H Q
theorem ne2 {n:Nat} (h:n≠2):(!decide (V.int (n:Int)=V.int 2))=true:=by
 rw[decide_eq_false fun z=>h (by injection z with z; lia)]
 rfl
theorem zQ {k:Nat} {t1:Tok} (F:Fun K "is_rung" "is_rung" o4 f fd) (B:Bt mg) (c_MOST_STEP:mg "MOST_STEP" = some (.int 9 t1)) (hk:5<=k)
  (D_is_number:Df P w K mg base "is_number" 1 ["thing","low","high"] iw) (D_is_term:Df P w K mg base "is_term" k ["many","term"] yR) (D_named:Df P w K mg base "named" 5 ["term"] CQ):cI P w K mg base CX0 (k+1) f fd ["many","one","thing","lowest_step"] xY:=by
 refine F.ok lM (fun vs H Q E h=>?_) (fun cdv A outer s H vs Q E hr h=>?_)
 ·obtain⟨v,g,n,m,who,lo,rfl,_⟩:=h
  rfl
 ·obtain⟨v,g,n,m,who,lo,rfl,rg,hn,q⟩:=h
  refine⟨_,(aq (bA (PW.pt (lR (dY (cZ (aF (r:=sO K) cH rfl B.isinstance_ bj (aa (pv 2) (aa (ik B.tuple_ bQ) aj))))) (gY (aH zj (aF (r:=iV K) aX rfl B.len_ bV (aa (pv 2) aj)) au (aL _))))) (aA (aG fV)) aN)
 (aq (Bd (pv 2) (fL (K:=K) 2 rfl rfl (bH (aJ (i:=4) lM.nd rfl (Qw rfl)) (bH (aJ (i:=5) lM.nd rfl (Qw rfl)) fO))))
 (aA (aG (dZ (bc D_is_number hr (aa (pv 4) (aa (pv 3) (aa (mO c_MOST_STEP) aj)))) (dZ (bc D_is_term hr (aa (pv 0) (aa (pv 5) aj))) (iB (cu (r:=rIn K true) mq (pv 1) (bc D_named hr (aa (pv 5) aj)) rfl)))))))),?_⟩
  have q0:=q H (aU.refl H)
  cases rg with
  | @rung r kk u t hr0 rt hd =>
   refine⟨_,rfl,_,_,_,_,rfl,.tup hr0,dJ _ _,_,rfl,cV ⟨_,rfl,r,_,rfl,.inr (SqT.of hr0),rfl,_,rfl,pF rfl ?_⟩⟩
   refine⟨_,rfl,r,_,rfl,SqT.of hr0,rfl,_,_,rfl,_,_,rfl,rfl,?_⟩
   refine⟨_,rfl,_,rfl,.int kk,lo,9,rfl,.int _,_,rfl,?_⟩
   have er:rgF m who lo (.rung kk t)=(isNum (.int kk) lo 9 && (ltF m (mnF t) && !decide (who∈mnF t))):=rfl
   rw[er] at q q0
   refine pL (fun c=>?_) (fun c=>?_)
   ·rw[c,Vb] at q
    refine⟨_,rfl,_,rfl,u,m,rfl,.inl ⟨n,t,rt,hd,fun H1 s1=>⟨_,rfl,?_⟩⟩⟩
    refine pL (fun c2=>?_) (fun c2=>?_)
    ·rw[c2,Vb] at q
     refine⟨_,rfl,_,rfl,u,n,t,rfl,rt.mono s1,hd,hn,fun r1 ms H2 s2 f2 nm e2=>?_⟩
     refine⟨r1,_,rfl,.inl (SqL.of e2),rfl,FW ms,?_⟩
     have q':=q H2 (s1.trans s2)
     rw[show (decide (who∈mnF t))=inV (.int (who:Int)) (ms.map V.int) by rw[zc]; exact decide_eq_decide.mpr (Ls nm who).symm] at q'
     exact q'
    ·have q':=q H1 s1
     rw[Bool.eq_false_iff.mpr c2,Vn] at q'
     exact q'
   ·rw[Bool.eq_false_iff.mpr c,Vn] at q0
    exact q0
  | @odd r xs hr0 hl =>
   exact⟨_,rfl,_,_,_,_,rfl,.tup hr0,dJ _ _,_,rfl,cV ⟨_,rfl,r,_,rfl,.inr (SqT.of hr0),rfl,_,rfl,Li (ne2 hl) q0⟩⟩
  | @text r x u hr0 =>
   refine⟨_,rfl,_,_,_,_,rfl,.tup hr0,dJ _ _,_,rfl,cV ⟨_,rfl,r,_,rfl,.inr (SqT.of hr0),rfl,_,rfl,pF rfl ?_⟩⟩
   refine⟨_,rfl,r,_,rfl,SqT.of hr0,rfl,_,_,rfl,_,_,rfl,rfl,?_⟩
   exact⟨_,rfl,_,rfl,.str x,lo,9,rfl,.str _,_,rfl,cV q0⟩
  | @hollow r e kk hr0 he =>
   refine⟨_,rfl,_,_,_,_,rfl,.tup hr0,dJ _ _,_,rfl,cV ⟨_,rfl,r,_,rfl,.inr (SqT.of hr0),rfl,_,rfl,pF rfl ?_⟩⟩
   refine⟨_,rfl,r,_,rfl,SqT.of hr0,rfl,_,_,rfl,_,_,rfl,rfl,?_⟩
   refine⟨_,rfl,_,rfl,.int kk,lo,9,rfl,.int _,_,rfl,?_⟩
   refine pL (fun c=>?_) (fun c=>?_)
   ·exact⟨_,rfl,_,rfl,.ref e,m,rfl,.inr ⟨e,rfl,he,_,rfl,cV q0⟩⟩
   ·exact q0
inductive oY (vs:List V) (H:Hp) (Q:VK):Prop where
 | mk (a:Addr) (us:List V) (gs:List Rg) (n m who:Nat) (z0:vs=[.int (m:Int),.int (who:Int),.ref a]) (z1:H a=some (.tup us)) (z2:jK n H us gs) (z3:n<=12) (z4:us.length<=20) (z5:1<=m) (z6:∀ H',aU H H'->Q (.bl (Np m who gs)) H'):oY  vs H Q
def qp:Sp:=fun vs H Q _=>oY  vs H Q
theorem jG.good {n:Nat} {H:Hp} {v:V} {g:Rg} {m who:Nat} {lo:Int} (h:jG n H v g) (e:rgF m who lo g=true):∃ r kk u t,v = .ref r/\H r=some (.tup [.int kk,u])/\gZ n H u t/\t.dep<=4/\g = .rung kk t:=by
 cases h with
 | rung h1 h2 h3=>exact⟨_,_,_,_,rfl,h1,h2,h3,rfl⟩
 | odd=>cases e
 | text=>cases e
 | hollow=>cases e
theorem uw {k:Nat} {t1:Tok} (F:Fun K "is_pledge" "is_pledge" jx f fd) (B:Bt mg) (c_MOST_RUNGS:mg "MOST_RUNGS" = some (.int 9 t1)) (hk:1<=k)
  (D_is_number:Df P w K mg base "is_number" 1 ["thing","low","high"] iw) (D_is_rung:Df P w K mg base "is_rung" k ["many","one","thing","lowest_step"] xY):cI P w K mg base CX0 (k+1) f fd ["many","one","thing"] qp:=by
 refine F.ok fc (fun vs H Q E h=>?_) (fun cdv A outer s H vs Q E hr h=>?_)
 ·obtain⟨a,us,gs,n,m,who,rfl,_⟩:=h
  rfl
 ·obtain⟨a,us,gs,n,m,who,rfl,ha,rg,hn,l20,hm,q⟩:=h
  refine⟨_,(aq (bA (PW.pt (lR (dY (cZ (aF (r:=sO K) cH rfl B.isinstance_ bj (aa (pv 2) (aa (ik B.tuple_ bQ) aj))))) (gY (dY (cZ (bc D_is_number hr (aa (aF (r:=iV K) aX rfl B.len_ bV (aa (pv 2) aj)) (aa au (aa (mO c_MOST_RUNGS) aj))))))))) (aA (aG fV)) aN)
 (aq (bf (i:=3) fc.nd rfl (Qw rfl) au)
 (aq (cY QX rfl (dj (pv 2)) (aJ (i:=4) fc.nd rfl (Qw rfl)) (aq (bA (dY (cZ (bc D_is_rung hr (aa (pv 0) (aa (pv 1) (aa (pv 4) (aa (pv 3) aj))))))) (aA (aG fV)) aN)
 (aA (bf (i:=3) fc.nd rfl (Qw rfl) (aV bI (aQ (r:=cW K) aY (pv 4) au (fun _ _=>rfl)) au)))))
 (aA (aG fV))))),?_⟩
  have el:=rg.length
  have q0:=q H (aU.refl H)
  refine⟨_,rfl,_,_,_,_,rfl,.tup ha,dJ _ _,_,rfl,cV ⟨_,rfl,a,_,rfl,.inr (SqT.of ha),.int (us.length:Int),1,9,rfl,.int _,_,rfl,?_⟩⟩
  have en:isNum (.int (us.length:Int)) 1 9=(decide (1<=gs.length) && decide (gs.length<=9)):=by
   show (decide ((1:Int)<=(us.length:Int)) && decide ((us.length:Int)<=9))=_
   rw[el]
   congr 1
   ·exact decide_eq_decide.mpr ⟨fun z=>by lia,fun z=>by lia⟩
   ·exact decide_eq_decide.mpr ⟨fun z=>by lia,fun z=>by lia⟩
  rw[en]
  unfold Np at q q0
  cases hc:(decide (1<=gs.length) && decide (gs.length<=9)) with
  | false =>
   rw[hc,Vn] at q0
   exact gm q0
  | true =>
   rw[hc,Vb] at q
   refine cV ⟨_,rfl,a,rfl,⟨_,SqT.of ha⟩,oR (K:=K) (a:=a) (xs:=us) (fun i σ H2=>aU H H2/\∃ (lo:Int) (u:Option V),σ=[some (.int (m:Int)),some (.int (who:Int)),some (.ref a),some (.int lo),u]/\plF m who lo (gs.drop i)=plF m who 1 gs)
    ⟨aU.refl H,1,_,rfl,by rw[List.drop_zero]⟩ (fun i σ H2 _ h=>SqT.of (h.1 _ _ ha)) ?_ ?_⟩
   ·rintro i x σ H2 hx ⟨sm,lo,u,rfl,er⟩
    obtain⟨g,hg,rx⟩:=rg.get hx
    have hi:i < gs.length:=(List.getElem?_eq_some_iff.mp hg).1
    have eg:gs[i]=g:=(List.getElem?_eq_some_iff.mp hg).2
    have ed:gs.drop i=g::gs.drop (i+1):=by rw[Tu hi,eg]
    rw[ed,plF] at er
    refine⟨_,rfl,_,rfl,_,rfl,_,rfl,x,g,n,m,who,lo,rfl,rx.mono sm,hn,fun H3 s3=>⟨_,rfl,?_⟩⟩
    cases e:rgF m who lo g with
    | false =>
     rw[e,Vn] at er
     have q':=q H3 (sm.trans s3)
     rw[← er] at q'
     exact gm q'
    | true =>
     rw[e,Vb] at er
     obtain⟨r,kk,y,t,rfl,h1,_,_,rfl⟩:=rx.good e
     refine cV ⟨_,rfl,r,_,_,_,rfl,rfl,SqT.of (s3 _ _ (sm _ _ h1)),aC (k:=0) rfl,_,_,rfl,rfl,sm.trans s3,kk+1,_,rfl,er⟩
   ·rintro σ H2 ⟨sm,lo,u,rfl,er⟩
    rw[el,List.drop_length,plF] at er
    have q':=q H2 sm
    rw[← er] at q'
    exact q'
abbrev Ent:=Nat × Nat × Pl
inductive di (n:Nat) (H:Hp):List V->List Ent->Prop where
 | nil:di n H [] []
 | cons {e p:Addr} {num one:Nat} {pl:Pl} {us:List V} {es:List Ent}:H e=some (.tup [vN num,vN one,.ref p])->pD n H p pl->di n H us es->di n H (.ref e::us) ((num,one,pl)::es)
theorem di.bu {n:Nat} {H H':Hp} (e:∀ a xs,H a=some (HO.tup xs)->H' a=some (HO.tup xs)):∀ {us:List V} {es:List Ent},di n H us es->di n H' us es
 | _,_,.nil=>.nil
 | _,_,.cons h p r=>.cons (e _ _ h) (p.bu e) (di.bu e r)
theorem di.length {n:Nat} {H:Hp}:∀ {us:List V} {es:List Ent},di n H us es->us.length=es.length
 | _,_,.nil=>rfl
 | _,_,.cons _ _ r=>by rw[Qu,Qu,di.length r]
theorem di.get {n:Nat} {H:Hp}:∀ {us:List V} {es:List Ent} {i:Nat} {u:V},di n H us es->us[i]? = some u->∃ (e p:Addr) (num one:Nat) (pl:Pl),u = .ref e/\es[i]? = some (num,one,pl)/\H e=some (.tup [vN num,vN one,.ref p])/\pD n H p pl
 | _,_,_,_,.nil,h=>by simp at h
 | _,_,0,_,.cons h p _,e=>by
  cases (show some _=some _ from e)
  exact⟨_,_,_,_,_,rfl,rfl,h,p⟩
 | _,_,i+1,_,.cons _ _ r,e=>by
  obtain⟨a,p,x,y,z,h1,h2,h3⟩:=di.get (i:=i) r (by simpa using e)
  exact⟨a,p,x,y,z,h1,by simpa using h2,h3⟩
theorem di.snoc {n:Nat} {H:Hp} {e p:Addr} {num one:Nat} {pl:Pl} (h:H e=some (.tup [vN num,vN one,.ref p])) (hp:pD n H p pl):∀ {us:List V} {es:List Ent},di n H us es->di n H (us++[.ref e]) (es++[(num,one,pl)])
 | _,_,.nil=>.cons h hp .nil
 | _,_,.cons a b r=>.cons a b (di.snoc h hp r)
def Ks (CS:Addr) (H H':Hp):Prop:=(∀ a xs,H a=some (HO.tup xs)->H' a=some (HO.tup xs))/\∀ a dx fs,H a=some (HO.ins CS dx fs)->H' a=some (HO.ins CS dx fs)
theorem ksS {CS:Addr} {H H':Hp} (s:aU H H'):Ks CS H H':=⟨fun a xs h=>s a _ h,fun a dx fs h=>s a _ h⟩
def stF (ga goa sa:Addr) (co:Nat):List (Q4 × V):=[("green",.ref ga),("gone",.ref goa),("standing",.ref sa),("coming",vN co)]
def iK (CS:Addr) (n:Nat) (H:Hp) (a:Addr) (g:List Int) (go:List Nat) (es:List Ent) (co:Nat):Prop :=
 ∃ (dx ga goa sa:Addr) (us:List V),H a=some (.ins CS dx (stF ga goa sa co))/\H ga=some (.tup (g.map V.int))/\H goa=some (.tup (go.map vN))/\H sa=some (.tup us)/\di n H us es
theorem iK.ks {CS:Addr} {n:Nat} {H H':Hp} {a:Addr} {g:List Int} {go:List Nat} {es:List Ent} {co:Nat} (k:Ks CS H H') (h:iK CS n H a g go es co):iK CS n H' a g go es co:=by
 obtain⟨dx,ga,goa,sa,us,h1,h2,h3,h4,h5⟩:=h
 exact⟨dx,ga,goa,sa,us,k.2 _ _ _ h1,k.1 _ _ h2,k.1 _ _ h3,k.1 _ _ h4,h5.bu k.1⟩
def bnF (nw be ah:Addr):List (Q4 × V):=[("now",.ref nw),("behind",.ref be),("ahead",.ref ah)]
def bM (CS CB:Addr) (n:Nat) (H:Hp) (b be:Addr) (d:Nat) (g:List Int) (go:List Nat) (es:List Ent) (co:Nat):Prop :=
 ∃ (dx nw ah:Addr) (xs:List V),H b=some (.ins CB dx (bnF nw be ah))/\H be=some (.lst xs)/\xs.length=d/\iK CS n H nw g go es co
def But (b be:Addr) (H H':Hp):Prop:=∀ a o,a≠b->a≠be->H a=some o->H' a=some o
theorem But.ks {CS CB b be dx:Addr} {fs:List (Q4 × V)} {xs:List V} {H H':Hp} (h:But b be H H') (ne:CB≠CS) (hb:H b=some (.ins CB dx fs)) (hl:H be=some (.lst xs)):Ks CS H H':=by
 refine⟨fun a ys q=>h a _ (fun z=>?_) (fun z=>?_) q,fun a dx' fs' q=>h a _ (fun z=>?_) (fun z=>?_) q⟩
 ·rw[z,hb] at q; cases q
 ·rw[z,hl] at q; cases q
 ·rw[z,hb] at q
  injection q with q
  injection q with q1
  exact ne q1
 ·rw[z,hl] at q; cases q
theorem Ky {b be:Addr} {H H':Hp} (s:aU H H'):But b be H H':=fun a o _ _ q=>s a o q
theorem But.trans {b be:Addr} {H H1 H2:Hp} (h:But b be H H1) (k:But b be H1 H2):But b be H H2:=fun a o x y q=>k a o x y (h a o x y q)
theorem bM.same {CS CB:Addr} {n:Nat} {H H':Hp} {b be:Addr} {d:Nat} {g:List Int} {go:List Nat} {es:List Ent} {co:Nat} (s:aU H H') (h:bM CS CB n H b be d g go es co):bM CS CB n H' b be d g go es co:=by
 obtain⟨dx,nw,ah,xs,h1,h2,h3,h4⟩:=h
 exact⟨dx,nw,ah,xs,s _ _ h1,s _ _ h2,h3,h4.ks (ksS s)⟩
structure xQ (K:QF) (CS:Addr):Prop where
 cl:Cls K CS
 green:fX K CS "green"
 gone:fX K CS "gone"
 standing:fX K CS "standing"
 coming:fX K CS "coming"
structure zK (K:QF) (CB:Addr):Prop where
 cl:Cls K CB
 now:fX K CB "now"
 behind:fX K CB "behind"
 ahead:fX K CB "ahead"
abbrev iu:Stmt:=inClass (top 36) 0
theorem lE:aO ["self","green","gone","standing","coming"] ["self","green","gone","standing","coming"] (aD iu):=⟨rfl,rfl,rfl,by decide+kernel,rfl,by decide+kernel,by decide+kernel⟩
inductive sV (CS:Addr) (vs:List V) (H:Hp) (Q:VK):Prop where
 | mk (x dx:Addr) (g go sd co:V) (z0:vs=[.ref x,g,go,sd,co]) (z1:H x=some (.ins CS dx [])) (z2:Q .non (upd H x (.ins CS dx [("green",g),("gone",go),("standing",sd),("coming",co)]))):sV CS vs H Q
def gq (CS:Addr):Sp:=fun vs H Q _=>sV CS vs H Q
theorem rD {CS:Addr} (F:Fun K "__init__" "Stand.__init__" iu f fd) (S:xQ K CS):cI P w K mg base CX0 1 f fd ["self","green","gone","standing","coming"] (gq CS):=by
 refine F.ok lE (fun vs H Q E h=>?_) (fun cdv A outer s H vs Q E hr h=>?_)
 ·obtain⟨x,dx,g,go,sd,co,rfl,_⟩:=h
  rfl
 ·obtain⟨x,dx,g,go,sd,co,rfl,hx,q⟩:=h
  refine⟨_,(aq (jX (pv 0) (pv 1) rfl)
 (aq (jX (pv 0) (pv 2) rfl)
 (aq (jX (pv 0) (pv 3) rfl)
 (aA (jX (pv 0) (pv 4) rfl))))),?_⟩
  refine⟨_,rfl,_,rfl,x,CS,dx,_,rfl,hx,S.cl,S.green,by show 0 < 1000; decide,?_⟩
  refine⟨_,rfl,_,rfl,x,CS,dx,_,rfl,ao,S.cl,S.gone,by show 1 < 1000; decide,?_⟩
  refine⟨_,rfl,_,rfl,x,CS,dx,_,rfl,ao,S.cl,S.standing,by show 2 < 1000; decide,?_⟩
  refine⟨_,rfl,_,rfl,x,CS,dx,_,rfl,ao,S.cl,S.coming,by show 3 < 1000; decide,?_⟩
  rw[oO,oO,oO]
  exact q
abbrev jy:Stmt:=inClass (top 41) 0
theorem mG:aO ["self"] ["self"] (aD jy):=⟨rfl,rfl,rfl,by decide+kernel,rfl,by decide+kernel,by decide+kernel⟩
inductive yX (CS CB:Addr) (vs:List V) (H:Hp) (Q:VK):Prop where
 | mk (b dx:Addr) (z0:vs=[.ref b]) (z1:H b=some (.ins CB dx [])) (z2:∀ (be:Addr) (H':Hp),H be=none->(∀ a o,a≠b->H a=some o->H' a=some o)->(∀ n,bM CS CB n H' b be 0 [] [] [] 0)->Q .non H'):yX CS CB vs H Q
def Er (CS CB:Addr):Sp:=fun vs H Q _=>yX CS CB vs H Q
theorem uP {CS CB:Addr} (F:Fun K "__init__" "Boon.__init__" jy f fd) (S:zK K CB) (D_Stand:Dk2 P w K mg base "Stand" CS 1 ["self","green","gone","standing","coming"] (gq CS)) :
  cI P w K mg base CX0 3 f fd ["self"] (Er CS CB):=by
 refine F.ok mG (fun vs H Q E h=>?_) (fun cdv A outer s H vs Q E hr h=>?_)
 ·obtain⟨b,dx,rfl,_⟩:=h
  rfl
 ·obtain⟨b,dx,rfl,hb,q⟩:=h
  refine⟨_,(aq (jX (pv 0) (Cq D_Stand hr (aa (cA aj) (aa (cA aj) (aa (cA aj) (aa au aj))))) rfl)
 (aq (jX (pv 0) (bZ aj) rfl)
 (aA (jX (pv 0) (bZ aj) rfl)))),?_⟩
  refine⟨small (by show 0<=1000; decide),fun p1 h1=>?_⟩
  generalize eH1:upd H p1 _=H1
  obtain⟨g1,e1⟩:=aP eH1 h1
  refine⟨small (by show 0<=1000; decide),fun p2 h2=>?_⟩
  generalize eH2:upd H1 p2 _=H2
  obtain⟨g2,e2⟩:=aP eH2 h2
  refine⟨small (by show 0<=1000; decide),fun p3 h3=>?_⟩
  generalize eH3:upd H2 p3 _=H3
  obtain⟨g3,e3⟩:=aP eH3 h3
  have s3:=g1.trans (g2.trans g3)
  intro x dx2 hx hdx hne
  have sA:aU H3 (upd (upd H3 dx2 (.own x)) x (.ins CS dx2 [])):=(aB hdx _).trans (aB (by rw[bx hne.symm]; exact hx) _)
  refine⟨x,dx2,_,_,_,_,rfl,ao,rfl,?_⟩
  rw[oO]
  have sB:aU H3 (upd (upd H3 dx2 (.own x)) x (.ins CS dx2 [("green",.ref p1),("gone",.ref p2),("standing",.ref p3),("coming",.int 0)])):=(aB hdx _).trans (aB (by rw[bx hne.symm]; exact hx) _)
  generalize eH4:upd (upd H3 dx2 (.own x)) x _=H4 at sB
  have e4:H4 x=some (.ins CS dx2 [("green",.ref p1),("gone",.ref p2),("standing",.ref p3),("coming",.int 0)]):=by rw[← eH4]; exact ao
  have s4:=s3.trans sB
  refine⟨_,rfl,b,CB,dx,_,rfl,s4 _ _ hb,S.cl,S.now,by show 0 < 1000; decide,?_⟩
  have k1:∀ a o,a≠b->H4 a=some o->upd H4 b (.ins CB dx (pN "now" (.ref x) [])) a=some o:=fun a o h z=>by rw[bx h]; exact z
  generalize eH5:upd H4 b _=H5 at k1
  have e5:H5 b=some (.ins CB dx [("now",.ref x)]):=by rw[← eH5]; exact ao
  refine⟨small (by show 0<=1000; decide),fun be hbe=>?_⟩
  generalize eH6:upd H5 be _=H6
  obtain⟨g6,e6⟩:=aP eH6 hbe
  refine⟨_,rfl,b,CB,dx,_,rfl,g6 _ _ e5,S.cl,S.behind,by show 1 < 1000; decide,?_⟩
  have bb:be≠b:=fun z=>by rw[z,e5] at hbe; cases hbe
  have k2:∀ a o,a≠b->H6 a=some o->upd H6 b (.ins CB dx (pN "behind" (.ref be) [("now",.ref x)])) a=some o:=fun a o h z=>by rw[bx h]; exact z
  generalize eH7:upd H6 b _=H7 at k2
  have e7:H7 b=some (.ins CB dx [("now",.ref x),("behind",.ref be)]):=by rw[← eH7]; exact ao
  refine⟨small (by show 0<=1000; decide),fun ah hah=>?_⟩
  generalize eH8:upd H7 ah _=H8
  obtain⟨g8,e8⟩:=aP eH8 hah
  refine⟨_,rfl,b,CB,dx,_,rfl,g8 _ _ e7,S.cl,S.ahead,by show 2 < 1000; decide,?_⟩
  have k3:∀ a o,a≠b->H8 a=some o->upd H8 b (.ins CB dx (pN "ahead" (.ref ah) [("now",.ref x),("behind",.ref be)])) a=some o:=fun a o h z=>by rw[bx h]; exact z
  generalize eH9:upd H8 b _=H9 at k3
  have e9:H9 b=some (.ins CB dx (bnF x be ah)):=by rw[← eH9]; exact ao
  have all:∀ a o,a≠b->H4 a=some o->H9 a=some o:=fun a o h z=>k3 a o h (g8 _ _ (k2 a o h (g6 _ _ (k1 a o h z))))
  have tp:∀ (p:Addr) (xs:List V),H4 p=some (HO.tup xs)->H9 p=some (HO.tup xs):=fun p xs z=>all p _ (fun y=>by rw[y,s4 _ _ hb] at z; cases z) z
  have xb:x≠b:=fun z=>by rw[z] at hx; rw[s3 _ _ hb] at hx; cases hx
  refine q be H9 ?_ (fun a o h z=>all a o h (s4 _ _ z)) fun n=>⟨dx,x,ah,[],e9,k3 _ _ bb (g8 _ _ (k2 _ _ bb e6)),rfl,dx2,p1,p2,p3,[],all _ _ xb e4,tp _ _ (sB _ _ (g3 _ _ (g2 _ _ e1))),tp _ _ (sB _ _ (g3 _ _ e2)),tp _ _ (sB _ _ e3),.nil⟩
  cases hq:H be with
  | none=>rfl
  | some o =>
   have:=k1 be o bb (s4 _ _ hq)
   rw[hbe] at this
   cases this
abbrev iM:Stmt:=inClass (top 41) 1
theorem sr:aO ["self","stand"] ["self","stand"] (aD iM):=⟨rfl,rfl,rfl,by decide+kernel,rfl,by decide+kernel,by decide+kernel⟩
inductive Ay (CB:Addr) (vs:List V) (H:Hp) (Q:VK):Prop where
 | mk (b be st dx nw ah:Addr) (xs:List V) (z0:vs=[.ref b,.ref st]) (z1:H b=some (.ins CB dx (bnF nw be ah))) (z2:H be=some (.lst xs)) (z3:xs.length<=900) (z4:∀ (ah':Addr) (H':Hp),H' b=some (.ins CB dx (bnF st be ah'))->H' be=some (.lst (xs++[.ref nw]))->But b be H H'->Q .non H'):Ay CB vs H Q
def uv (CB:Addr):Sp:=fun vs H Q _=>Ay CB vs H Q
theorem qN {CB:Addr} (F:Fun K "go_on" "Boon.go_on" iM f fd) (S:zK K CB):cI P w K mg base CX0 1 f fd ["self","stand"] (uv CB):=by
 refine F.ok sr (fun vs H Q E h=>?_) (fun cdv A outer s H vs Q E hr h=>?_)
 ·obtain⟨b,be,st,dx,nw,ah,xs,rfl,_⟩:=h
  rfl
 ·obtain⟨b,be,st,dx,nw,ah,xs,rfl,hb,hbe,l9,q⟩:=h
  refine⟨_,(aq (bT (qJ RN RD RC cM (bh K rfl (pv 0)) (aa (bh K rfl (pv 0)) aj)))
 (aq (jX (pv 0) (bZ aj) rfl)
 (aA (jX (pv 0) (pv 1) rfl)))),?_⟩
  have bb:be≠b:=fun z=>by rw[z,hb] at hbe; cases hbe
  refine⟨_,rfl,b,CB,dx,_,_,rfl,hb,S.cl,S.behind,rfl,.inl ⟨rfl,_,SqL.of hbe⟩,_,rfl,b,CB,dx,_,_,rfl,hb,S.cl,S.now,rfl,be,_,_,rfl,rfl,hbe,aM (by lia),?_⟩
  have k1:But b be H (upd H be (.lst (xs++[.ref nw]))):=fun a o _ h z=>by rw[bx h]; exact z
  generalize eH1:upd H be _=H1 at k1
  have e1:H1 be=some (.lst (xs++[.ref nw])):=by rw[← eH1]; exact ao
  have e1b:H1 b=some (.ins CB dx (bnF nw be ah)):=by rw[← eH1,bx bb.symm]; exact hb
  refine⟨small (by show 0<=1000; decide),fun a2 h2=>?_⟩
  generalize eH2:upd H1 a2 _=H2
  obtain⟨g2,e2⟩:=aP eH2 h2
  refine⟨_,rfl,b,CB,dx,_,rfl,g2 _ _ e1b,S.cl,S.ahead,by show 3 < 1000; decide,?_⟩
  have k3:∀ a o,a≠b->H2 a=some o->upd H2 b (.ins CB dx (pN "ahead" (.ref a2) (bnF nw be ah))) a=some o:=fun a o h z=>by rw[bx h]; exact z
  generalize eH3:upd H2 b _=H3 at k3
  have e3:H3 b=some (.ins CB dx (bnF nw be a2)):=by rw[← eH3]; exact ao
  refine⟨_,rfl,_,rfl,b,CB,dx,_,rfl,e3,S.cl,S.now,by show 3 < 1000; decide,?_⟩
  refine q a2 _ ao (by rw[bx bb]; exact k3 _ _ bb (g2 _ _ e1)) fun a o h h' z=>?_
  rw[bx h]
  exact k3 _ _ h (g2 _ _ (k1 a o h h' z))
theorem NQ {K:QF} {H:Hp} {a b:Addr} {xs ys:List V} {Q:VK} (ha:H a=some (.tup xs)) (hb:H b=some (.tup ys)) (hl:xs.length+ys.length<=1000) (q:∀ (p:Addr) (H':Hp),aU H H'->H' p=some (.tup (xs++ys))->Q (.ref p) H'):iC K (.ref a) (.ref b) H Q:=by
 refine⟨a,b,xs,ys,rfl,rfl,SqT.of ha,SqT.of hb,small hl,fun e=>?_,fun _ e=>?_,fun _ _ p hp=>q p _ (aB hp _) ao⟩
 ·subst e
  exact q b H (aU.refl _) hb
 ·subst e
  exact q a H (aU.refl _) (by rw[RL]; exact ha)
theorem mQ {CS x dx:Addr} {H:Hp} {g go sd co:V} {Q:VK} {E:XK} (hx:H x=none) (hdx:H dx=none) (hne:dx≠x) (q:∀ H',aU H H'->H' x=some (.ins CS dx [("green",g),("gone",go),("standing",sd),("coming",co)])->Q .non H') :
  gq CS [.ref x,g,go,sd,co] (upd (upd H dx (.own x)) x (.ins CS dx [])) Q E:=by
 refine⟨x,dx,g,go,sd,co,rfl,ao,?_⟩
 rw[oO]
 exact q _ ((aB hdx _).trans (aB (by rw[bx hne.symm]; exact hx) _)) ao
abbrev ju:Stmt:=inClass (top 41) 2
theorem my:aO ["self","now"] ["self"] (aD ju):=⟨rfl,rfl,rfl,by decide+kernel,rfl,by decide+kernel,by decide+kernel⟩
inductive CK (CS CB:Addr) (vs:List V) (H:Hp) (Q:VK):Prop where
 | mk (b be:Addr) (d:Nat) (g:List Int) (go:List Nat) (co:Nat) (z0:vs=[.ref b]) (z1:(∀ n,bM CS CB n H b be d g go [] co)) (z2:g.length < 12) (z3:d<=900) (z4:∀ H',But b be H H'->(∀ n,bM CS CB n H' b be (d+1) (g++[0]) go [] co)->Q (.int (g.length:Int)) H'):CK CS CB vs H Q
def HD (CS CB:Addr):Sp:=fun vs H Q _=>CK CS CB vs H Q
theorem di.any {n m:Nat} {H:Hp} {us:List V} (h:di n H us []):di m H us []:=by
 cases h
 exact .nil
theorem tL {CS CB:Addr} {t1:Tok} (ne:CB≠CS) (F:Fun K "come" "Boon.come" ju f fd) (B:Bt mg) (S:xQ K CS) (T:zK K CB) (c_MOST_FOLK:mg "MOST_FOLK" = some (.int 12 t1))
  (D_Stand:Dk2 P w K mg base "Stand" CS 1 ["self","green","gone","standing","coming"] (gq CS)) (D_Boon_go_on:Dm2 P w K mg base CB "go_on" 1 ["self","stand"] (uv CB)) :
  cI P w K mg base CX0 3 f fd ["self"] (HD CS CB):=by
 refine F.ok my (fun vs H Q E h=>?_) (fun cdv A outer s H vs Q E hr h=>?_)
 ·obtain⟨b,be,d,g,go,co,rfl,_⟩:=h
  rfl
 ·obtain⟨b,be,d,g,go,co,rfl,hB,lg,d9,q⟩:=h
  refine⟨_,(aq (bf (i:=1) my.nd rfl (Qw rfl) (bh K rfl (pv 0)))
 (aq (bA (aH mL (aF (r:=iV K) aX rfl B.len_ bV (aa (bh K rfl (pv 1)) aj)) (mO c_MOST_FOLK) (aL _)) (aA fB) aN)
 (aq (bT (tM D_Boon_go_on hr (pv 0) (aa (Cq D_Stand hr (aa (aV (r:=iC K) jd (bh K rfl (pv 1)) (cA (aa au aj))) (aa (bh K rfl (pv 1)) (aa (bh K rfl (pv 1)) (aa (bh K rfl (pv 1)) aj))))) aj)))
 (aA (aG (aF (r:=iV K) aX rfl B.len_ bV (aa (bh K rfl (pv 1)) aj))))))),?_⟩
  obtain⟨dx,nw,ah,xs,hb,hbe,lx,dx2,ga,goa,sa,us,hn,hga,hgo,hsa,hes⟩:=hB 0
  refine aR (fun σ H1=>σ=[some (.ref b),some (.ref nw)]/\H1=H) ?q0 ?t0
  case t0 =>
   intro N Rc
   exact⟨_,rfl,b,CB,dx,_,_,rfl,hb,T.cl,T.now,rfl,Rc _ _ ⟨rfl,rfl⟩⟩
  case q0 =>
  rintro σ H0 ⟨rfl,rfl⟩
  refine aR (fun σ H1=>σ=[some (.ref b),some (.ref nw)]/\H1=H0) ?q1 ?t1
  case t1 =>
   intro N Rc
   refine⟨_,rfl,nw,CS,dx2,_,_,rfl,hn,S.cl,S.green,rfl,ga,_,rfl,.inr (SqT.of hga),_,_,rfl,rfl,_,rfl,?_⟩
   rw[decide_eq_false (show ¬ ((12:Int)<=(((g.map V.int).length:Nat):Int)) by rw[Qc]; lia)]
   exact cV (Rc _ _ ⟨rfl,rfl⟩)
  case q1 =>
  rintro σ H1 ⟨rfl,rfl⟩
  refine aR (fun σ H2=>σ=[some (.ref b),some (.ref nw)]/\But b be H1 H2/\∀ n,bM CS CB n H2 b be (d+1) (g++[0]) go [] co) ?q2 ?t2
  case t2 =>
   intro N Rc
   refine⟨_,rfl,b,dx,_,rfl,hb,rfl,?_⟩
   refine⟨_,rfl,nw,CS,dx2,_,_,rfl,hn,S.cl,S.green,rfl,small (by show 1<=1000; decide),fun p1 h1=>?_⟩
   generalize eH2:upd H1 p1 _=H2
   obtain⟨g2,e2⟩:=aP eH2 h1
   refine NQ (g2 _ _ hga) e2 (by rw[Qc]; show g.length+1<=1000; lia) fun p H3 s3 e3=>?_
   have s13:=g2.trans s3
   have e3:H3 p=some (.tup ((g++[0]).map V.int)):=by rw[e3,Qj]; rfl
   have hn3:=s13 _ _ hn
   refine⟨_,rfl,nw,CS,dx2,_,_,rfl,hn3,S.cl,S.gone,rfl,_,rfl,nw,CS,dx2,_,_,rfl,hn3,S.cl,S.standing,rfl,_,rfl,nw,CS,dx2,_,_,rfl,hn3,S.cl,S.coming,rfl,fun x dx3 hx hdx hne=>?_⟩
   refine mQ hx hdx hne fun H4 s4 e4=>⟨rfl,?_⟩
   have s14:=s13.trans s4
   refine⟨b,be,x,dx,nw,ah,xs,rfl,s14 _ _ hb,s14 _ _ hbe,by lia,fun ah' H5 e5 e5' bt=>?_⟩
   have k5:=bt.ks ne (s14 _ _ hb) (s14 _ _ hbe)
   refine Rc _ _ ⟨rfl,(Ky s14).trans bt,fun n=>⟨dx,x,ah',_,e5,e5',by rw[Qx,lx]; rfl,iK.ks k5 ⟨dx3,p,goa,sa,us,e4,s4 _ _ e3,s14 _ _ hgo,s14 _ _ hsa,?_⟩⟩⟩
   exact (hes.bu fun a xs q=>s14 a _ q).any
  case q2 =>
  rintro σ H2 ⟨rfl,k2,hB2⟩
  have ks:=k2.ks ne hb hbe
  refine⟨_,rfl,nw,CS,dx2,_,_,rfl,ks.2 _ _ _ hn,S.cl,S.green,rfl,ga,_,rfl,.inr (SqT.of (ks.1 _ _ hga)),?_⟩
  rw[Qc]
  exact q H2 k2 hB2
theorem mZ (x:Nat):∀ c:List Nat,inV (.int (x:Int)) (c.map vN)=decide (x∈c)
 | []=>rfl
 | y::c=>by
  have ih:=mZ x c
  unfold inV at ih ⊢
  rw[RZ,We,ih]
  by_cases e:x=y
  ·subst e
   rw[decide_eq_true Qi]
   simp [vN,eqV]
  ·have:eqV (vN y) (.int (x:Int))=false:=by
    simp [vN,eqV]
    lia
   rw[this,Xj]
   exact decide_eq_decide.mpr (by simp [e])
theorem oA (c:List Nat):(c.map vN).all pI=true:=by
 rw[XH,X4]
 intro x _
 rfl
mutual
theorem Ma {one:Nat}:∀ t:Tm,nn one t=true->one ∉ mnF t
 | .free,_=>by simp [mnF]
 | .never,_=>by simp [mnF]
 | .gives i k,h=>by
  have:=of_decide_eq_true (show decide (i≠one)=true by simpa [nn] using h)
  simp only[mnF]
  exact fun z=>this (List.mem_singleton.mp z).symm
 | .sum c k,h=>by simpa [nn,mnF] using h
 | .crowd c k m,h=>by simpa [nn,mnF] using h
 | .all ts,h=>by
  simp only[mnF]
  exact Du ts (by simpa [nn] using h)
 | .any ts,h=>by
  simp only[mnF]
  exact Du ts (by simpa [nn] using h)
theorem Du {one:Nat}:∀ ts:List Tm,nnL one ts=true->one ∉ mnL ts
 | [],_=>by simp [mnL]
 | t::r,h=>by
  have h':nn one t=true/\nnL one r=true:=by simpa [nnL] using h
  rw[mnL,Yk]
  rintro (z | z)
  ·exact Ma t h'.1 z
  ·exact Du r h'.2 z
end
mutual
theorem K1 {n:Nat} {H:Hp}:∀ {v:V} {t:Tm},gZ n H v t->∀ i∈mnF t,i < n
 | _,_,.free _,i,h=>by simp [mnF] at h
 | _,_,.never _,i,h=>by simp [mnF] at h
 | _,_,.gives _ a _ _,i,h=>by
  simp only[mnF] at h
  rw[List.mem_singleton.mp h]
  exact a
 | _,_,.sum _ _ a _ _ _ _ _,i,h=>by
  simp only[mnF] at h
  exact a i h
 | _,_,.crowd _ _ a _ _ _ _ _ _ _,i,h=>by
  simp only[mnF] at h
  exact a i h
 | _,_,.all _ _ _ _ r,i,h=>by
  simp only[mnF] at h
  exact Br r i h
 | _,_,.any _ _ _ _ r,i,h=>by
  simp only[mnF] at h
  exact Br r i h
theorem Br {n:Nat} {H:Hp}:∀ {vs:List V} {ts:List Tm},cO n H vs ts->∀ i∈mnL ts,i < n
 | _,_,.nil,i,h=>by simp [mnL] at h
 | _,_,.cons t r,i,h=>by
  rw[mnL,Yk] at h
  rcases h with z | z
  ·exact K1 t i z
  ·exact Br r i z
end
theorem M5 {n:Nat} {H:Hp}:∀ {us:List V} {p:Pl},dB n H us p->(∀ x∈p,x.2.dep<=4)->jK n H us (p.map fun x=>Rg.rung x.1 x.2)
 | _,_,.nil,_=>.nil
 | _,_,.cons h t r,d=>.cons (.rung h t (d _ Qi)) (M5 r fun x hx=>d x (Qm _ hx))
theorem Je {n who:Nat} {H:Hp}:∀ {us:List V} {p:Pl} {lo:Int},dB n H us p->(p.map (·.1)).Pairwise (· < ·)->(∀ x∈p,lo<=x.1/\x.1<=9)->(∀ x∈p,nn who x.2=true)->plF n who lo (p.map fun x=>Rg.rung x.1 x.2)=true
 | _,_,_,.nil,_,_,_=>rfl
 | _,_,lo,.cons (k:=k) (t:=t) (ps:=ps) h tr r,pw,hb,hn=>by
  rw[RZ,Sw] at pw
  show (rgF n who lo (.rung k t) && plF n who (k+1) (ps.map fun x=>Rg.rung x.1 x.2))=true
  have h1:=hb (k,t) Qi
  have h2:=Ma t (hn (k,t) Qi)
  rw[Rn]
  refine⟨?_,Je r pw.2 (fun x hx=>⟨?_,(hb x (Qm _ hx)).2⟩) fun x hx=>hn x (Qm _ hx)⟩
  ·show ((decide (lo<=k) && decide (k<=9)) && (ltF n (mnF t) && !decide (who∈mnF t)))=true
   rw[decide_eq_true h1.1,decide_eq_true h1.2,Ed.mpr (K1 tr),decide_eq_false h2]
   rfl
  ·have:=pw.1 x.1 (Xd hx)
   lia
theorem KN {n who:Nat} {H:Hp} {us:List V} {p:Pl} (ok:okP p) (r:dB n H us p) (hn:∀ x∈p,nn who x.2=true):Np n who (p.map fun x=>Rg.rung x.1 x.2)=true:=by
 obtain⟨h1,h2,h3,h4⟩:=ok
 have l:1<=p.length:=by
  cases p with
  | nil=>exact absurd rfl h1
  | cons _ _=>rw[Qu]; lia
 unfold Np
 rw[Qc,decide_eq_true l,decide_eq_true h2,Je r h3 (fun x hx=>⟨(h4 x hx).1,(h4 x hx).2.1⟩) hn]
 rfl
abbrev gO:Stmt:=top 37
abbrev fK:Stmt:=top 39
theorem pK:aO ["stand","one"] ["stand","one"] (aD gO):=⟨rfl,rfl,rfl,by decide+kernel,rfl,by decide+kernel,by decide+kernel⟩
theorem oK:aO ["stand","one","pledge"] ["stand","one","pledge"] (aD fK):=⟨rfl,rfl,rfl,by decide+kernel,rfl,by decide+kernel,by decide+kernel⟩
inductive xP (CS:Addr) (vs:List V) (H:Hp) (Q:VK):Prop where
 | mk (st:Addr) (one n co:Nat) (g:List Int) (go:List Nat) (es:List Ent) (z0:vs=[.ref st,vN one]) (z1:iK CS n H st g go es co) (z2:one < g.length) (z3:one ∉ go) (z4:Q .non H):xP CS vs H Q
def m8 (CS:Addr):Sp:=fun vs H Q _=>xP CS vs H Q
theorem pJ {CS:Addr} (F:Fun K "check_there" "check_there" gO f fd) (B:Bt mg) (S:xQ K CS) (D_is_number:Df P w K mg base "is_number" 1 ["thing","low","high"] iw) :
  cI P w K mg base CX0 2 f fd ["stand","one"] (m8 CS):=by
 refine F.ok pK (fun vs H Q E h=>?_) (fun cdv A outer s H vs Q E hr h=>?_)
 ·obtain⟨st,one,n,co,g,go,es,rfl,_⟩:=h
  rfl
 ·obtain⟨st,one,n,co,g,go,es,rfl,⟨dx,ga,goa,sa,us,hs,hga,hgo,hsa,hes⟩,lo,hg,q⟩:=h
  refine⟨_,(aq (bA (dY (cZ (bc D_is_number hr (aa (pv 1) (aa au (aa (aV iD (aF (r:=iV K) aX rfl B.len_ bV (aa (bh K rfl (pv 0)) aj)) au) aj)))))) (aA fB) aN)
 (aA (bA (aH (r:=rIn K false) iG (pv 1) (bh K rfl (pv 0)) rfl) (aA fB) aN))),?_⟩
  refine aR (fun σ H1=>σ=[some (.ref st),some (vN one)]/\H1=H) ?q1 ?t1
  case t1 =>
   intro N Rc
   refine⟨_,rfl,_,rfl,st,CS,dx,_,_,rfl,hs,S.cl,S.green,rfl,ga,_,rfl,.inr (SqT.of hga),_,_,rfl,rfl,vN one,0,_,rfl,.int _,_,rfl,?_⟩
   rw[show isNum (vN one) 0 ((((g.map V.int).length:Nat):Int) - 1)=true by
    show (decide ((0:Int)<=(one:Int)) && decide ((one:Int)<=(((g.map V.int).length:Nat):Int) - 1))=true
    rw[Qc,decide_eq_true (by lia),decide_eq_true (by lia)]
    rfl]
   exact cV (Rc _ _ ⟨rfl,rfl⟩)
  case q1 =>
  rintro σ H1 ⟨rfl,rfl⟩
  refine⟨_,rfl,_,rfl,st,CS,dx,_,_,rfl,hs,S.cl,S.gone,rfl,goa,_,rfl,.inr (SqT.of hgo),rfl,oA go,_,rfl,?_⟩
  have e:inV (vN one) (go.map vN)=false:=by
   rw[show vN one=V.int (one:Int) from rfl,mZ]
   exact decide_eq_false hg
  rw[if_neg (show ¬ false=true from Qk),e]
  exact cV q
inductive Eu (CS:Addr) (vs:List V) (H:Hp) (Q:VK):Prop where
 | mk (st p:Addr) (one n co:Nat) (g:List Int) (go:List Nat) (es:List Ent) (pl:Pl) (z0:vs=[.ref st,vN one,.ref p]) (z1:iK CS n H st g go es co) (z2:g.length=n) (z3:1<=n) (z4:n<=12) (z5:pD n H p pl) (z6:(∀ x∈pl,nn one x.2=true)) (z7:∀ H',aU H H'->Q .non H'):Eu CS vs H Q
def Jd (CS:Addr):Sp:=fun vs H Q _=>Eu CS vs H Q
theorem oV {CS:Addr} {k:Nat} (F:Fun K "check_pledge" "check_pledge" fK f fd) (B:Bt mg) (S:xQ K CS) (D_is_pledge:Df P w K mg base "is_pledge" k ["many","one","thing"] qp) :
  cI P w K mg base CX0 (k+1) f fd ["stand","one","pledge"] (Jd CS):=by
 refine F.ok oK (fun vs H Q E h=>?_) (fun cdv A outer s H vs Q E hr h=>?_)
 ·obtain⟨st,p,one,n,co,g,go,es,pl,rfl,_⟩:=h
  rfl
 ·obtain⟨st,p,one,n,co,g,go,es,pl,rfl,⟨dx,ga,goa,sa,us,hs,hga,hgo,hsa,hes⟩,lg,n1,n12,⟨okp,vs0,hp,rv⟩,hn,q⟩:=h
  refine⟨_,(aA (bA (dY (cZ (bc D_is_pledge hr (aa (aF (r:=iV K) aX rfl B.len_ bV (aa (bh K rfl (pv 0)) aj)) (aa (pv 1) (aa (pv 2) aj)))))) (aA fB) aN)),?_⟩
  have lv:=rv.length
  have p9:=okp.2.1
  refine⟨_,rfl,st,CS,dx,_,_,rfl,hs,S.cl,S.green,rfl,ga,_,rfl,.inr (SqT.of hga),_,rfl,_,rfl,p,vs0,_,n,n,one,?_,hp,M5 rv fun x hx=>(okp.2.2.2 x hx).2.2,n12,by lia,n1,fun H1 s1=>?_⟩
  ·show[V.int (((g.map V.int).length:Nat):Int),vN one,V.ref p]=_
   rw[Qc,lg]
   rfl
  ·rw[KN okp rv hn]
   exact⟨_,rfl,cV (q H1 s1)⟩
abbrev gQ:Stmt:=inClass (top 41) 4
theorem jg:aO ["self","one","pledge","now"] ["self","one","pledge"] (aD gQ):=⟨rfl,rfl,rfl,by decide+kernel,rfl,by decide+kernel,by decide+kernel⟩
inductive qu (CS CB:Addr) (vs:List V) (H:Hp) (Q:VK):Prop where
 | mk (b be p:Addr) (one n d co:Nat) (g:List Int) (go:List Nat) (es:List Ent) (pl:Pl) (z0:vs=[.ref b,vN one,.ref p]) (z1:bM CS CB n H b be d g go es co) (z2:g.length=n) (z3:n<=12) (z4:one < n) (z5:one ∉ go) (z6:pD n H p pl) (z7:(∀ x∈pl,nn one x.2=true)) (z8:es.length < 40) (z9:d<=900) (z10:∀ H',But b be H H'->bM CS CB n H' b be (d+1) g go (es++[(co,one,pl)]) (co+1)->Q (vN co) H'):qu CS CB vs H Q
def sS (CS CB:Addr):Sp:=fun vs H Q _=>qu CS CB vs H Q
theorem pB {CS CB:Addr} {t1:Tok} {k:Nat} (hk:2<=k) (ne:CB≠CS) (F:Fun K "pledge" "Boon.pledge" gQ f fd) (B:Bt mg) (S:xQ K CS) (T:zK K CB) (c_MOST_PLEDGES:mg "MOST_PLEDGES" = some (.int 40 t1))
  (D_check_there:Df P w K mg base "check_there" 2 ["stand","one"] (m8 CS)) (D_check_pledge:Df P w K mg base "check_pledge" k ["stand","one","pledge"] (Jd CS))
  (D_Stand:Dk2 P w K mg base "Stand" CS 1 ["self","green","gone","standing","coming"] (gq CS)) (D_Boon_go_on:Dm2 P w K mg base CB "go_on" 1 ["self","stand"] (uv CB)) :
  cI P w K mg base CX0 (k+1) f fd ["self","one","pledge"] (sS CS CB):=by
 refine F.ok jg (fun vs H Q E h=>?_) (fun cdv A outer s H vs Q E hr h=>?_)
 ·obtain⟨b,be,p,one,n,d,co,g,go,es,pl,rfl,_⟩:=h
  rfl
 ·obtain⟨b,be,p,one,n,d,co,g,go,es,pl,rfl,⟨dx,nw,ah,xs,hb,hbe,lx,hst⟩,lg,n12,hone,hgo,hp,hn,l40,d9,q⟩:=h
  refine⟨_,(aq (bf (i:=3) jg.nd rfl (Qw rfl) (bh K rfl (pv 0)))
 (aq (bT (bc D_check_there hr (aa (pv 3) (aa (pv 1) aj))))
 (aq (bT (bc D_check_pledge hr (aa (pv 3) (aa (pv 1) (aa (pv 2) aj)))))
 (aq (bA (aH mL (aF (r:=iV K) aX rfl B.len_ bV (aa (bh K rfl (pv 3)) aj)) (mO c_MOST_PLEDGES) (aL _)) (aA fB) aN)
 (aq (bT (tM D_Boon_go_on hr (pv 0) (aa (Cq D_Stand hr (aa (bh K rfl (pv 3)) (aa (bh K rfl (pv 3)) (aa (aV (r:=iC K) jd (bh K rfl (pv 3)) (cA (aa (cA (aa (bh K rfl (pv 3)) (aa (pv 1) (aa (pv 2) aj)))) aj))) (aa (aV bI (bh K rfl (pv 3)) au) aj))))) aj)))
 (aA (aG (bh K rfl (pv 3))))))))),?_⟩
  refine aR (fun σ H1=>σ=[some (.ref b),some (vN one),some (.ref p),some (.ref nw)]/\H1=H) ?q0 ?t0
  case t0 =>
   intro N Rc
   exact⟨_,rfl,b,CB,dx,_,_,rfl,hb,T.cl,T.now,rfl,Rc _ _ ⟨rfl,rfl⟩⟩
  case q0 =>
  rintro σ H0 ⟨rfl,rfl⟩
  refine aR (fun σ H1=>σ=[some (.ref b),some (vN one),some (.ref p),some (.ref nw)]/\H1=H0) ?q1 ?t1
  case t1 =>
   intro N Rc
   exact⟨_,rfl,_,rfl,nw,one,n,co,g,go,es,rfl,hst,by lia,hgo,Rc _ _ ⟨rfl,rfl⟩⟩
  case q1 =>
  rintro σ H1 ⟨rfl,rfl⟩
  refine aR (fun σ H2=>σ=[some (.ref b),some (vN one),some (.ref p),some (.ref nw)]/\aU H1 H2) ?q2 ?t2
  case t2 =>
   intro N Rc
   exact⟨_,rfl,_,rfl,_,rfl,nw,p,one,n,co,g,go,es,pl,rfl,hst,lg,by lia,n12,hp,hn,fun H2 s2=>Rc _ _ ⟨rfl,s2⟩⟩
  case q2 =>
  rintro σ H2 ⟨rfl,s2⟩
  obtain⟨dx2,ga,goa,sa,us,hs,hga,hgoa,hsa,hes⟩:=hst.ks (ksS s2)
  have les:=hes.length
  refine aR (fun σ H3=>σ=[some (.ref b),some (vN one),some (.ref p),some (.ref nw)]/\H3=H2) ?q3 ?t3
  case t3 =>
   intro N Rc
   refine⟨_,rfl,nw,CS,dx2,_,_,rfl,hs,S.cl,S.standing,rfl,sa,_,rfl,.inr (SqT.of hsa),_,_,rfl,rfl,_,rfl,?_⟩
   rw[decide_eq_false (show ¬ ((40:Int)<=((us.length:Nat):Int)) by lia)]
   exact cV (Rc _ _ ⟨rfl,rfl⟩)
  case q3 =>
  rintro σ H3 ⟨rfl,rfl⟩
  have hb3:=s2 _ _ hb
  have hbe3:=s2 _ _ hbe
  refine aR (fun σ H4=>σ=[some (.ref b),some (vN one),some (.ref p),some (.ref nw)]/\But b be H3 H4/\bM CS CB n H4 b be (d+1) g go (es++[(co,one,pl)]) (co+1)) ?q4 ?t4
  case t4 =>
   intro N Rc
   refine⟨_,rfl,b,dx,_,rfl,hb3,rfl,?_⟩
   refine⟨_,rfl,nw,CS,dx2,_,_,rfl,hs,S.cl,S.green,rfl,_,rfl,nw,CS,dx2,_,_,rfl,hs,S.cl,S.gone,rfl,_,rfl,nw,CS,dx2,_,_,rfl,hs,S.cl,S.standing,rfl,?_⟩
   refine⟨_,rfl,nw,CS,dx2,_,_,rfl,hs,S.cl,S.coming,rfl,_,rfl,_,rfl,small (by show 3<=1000; decide),fun p1 h1=>?_⟩
   generalize eH5:upd H3 p1 _=H5
   obtain⟨g5,e5⟩:=aP eH5 h1
   refine⟨small (by show 1<=1000; decide),fun p2 h2=>?_⟩
   generalize eH6:upd H5 p2 _=H6
   obtain⟨g6,e6⟩:=aP eH6 h2
   have s36:=g5.trans g6
   refine NQ (s36 _ _ hsa) e6 (by show us.length+1<=1000; lia) fun p3 H7 s7 e7=>?_
   have s37:=s36.trans s7
   refine⟨_,rfl,nw,CS,dx2,_,_,rfl,s37 _ _ hs,S.cl,S.coming,rfl,_,_,rfl,rfl,fun x dx3 hx hdx hne=>?_⟩
   refine mQ hx hdx hne fun H8 s8 e8=>⟨rfl,?_⟩
   have s38:=s37.trans s8
   refine⟨b,be,x,dx,nw,ah,xs,rfl,s38 _ _ hb3,s38 _ _ hbe3,by lia,fun ah' H9 e9 e9' bt=>?_⟩
   have k9:=bt.ks ne (s38 _ _ hb3) (s38 _ _ hbe3)
   refine Rc _ _ ⟨rfl,(Ky s38).trans bt,dx,x,ah',_,e9,e9',by rw[Qx,lx]; rfl,iK.ks k9 ⟨dx3,ga,goa,p3,us++[.ref p1],e8,s38 _ _ hga,s38 _ _ hgoa,s8 _ _ e7,?_⟩⟩
   have t38:∀ a ys,H3 a=some (HO.tup ys)->H8 a=some (HO.tup ys):=fun a ys q=>s38 a _ q
   exact di.snoc (s8 _ _ (s7 _ _ (g6 _ _ e5))) ((hp.bu fun a ys q=>s2 a _ q).bu t38) (hes.bu t38)
  case q4 =>
  rintro σ H4 ⟨rfl,k4,hB4⟩
  have ks:=k4.ks ne hb3 hbe3
  exact⟨_,rfl,nw,CS,dx2,_,_,rfl,ks.2 _ _ _ hs,S.cl,S.coming,rfl,q H4 ((Ky s2).trans k4) hB4⟩
abbrev oU:Stmt:=top 38
theorem Ab:aO ["standing","one","giving"] ["standing","one","giving"] (aD oU):=⟨rfl,rfl,rfl,by decide+kernel,rfl,by decide+kernel,by decide+kernel⟩
def owL (es:List Ent) (one:Nat) (g:List Int):List Int:=(es.filter fun e=>decide (e.2.1=one)).map fun e=>owF g e.2.2
theorem G8 {es:List Ent} {one:Nat} {g:List Int} {e:Ent}:owL (es++[e]) one g=owL es one g++if e.2.1=one then [owF g e.2.2] else []:=by
 unfold owL
 rw[Tp,Qj]
 congr 1
 by_cases h:e.2.1=one
 ·rw[if_pos h,Ua (by exact decide_eq_true h)]
  rfl
 ·rw[if_neg h,Ub (by rw[decide_eq_false h]; exact Qk)]
  rfl
inductive tU (vs:List V) (H:Hp) (Q:VK):Prop where
 | mk (sa ga:Addr) (one n:Nat) (us:List V) (es:List Ent) (g:List Int) (z0:vs=[.ref sa,vN one,.ref ga]) (z1:H sa=some (.tup us)) (z2:di n H us es) (z3:es.length<=100) (z4:H ga=some (.tup (g.map V.int))) (z5:g.length=n) (z6:∀ H',aU H H'->Q (.int (mxD 0 (owL es one g))) H'):tU  vs H Q
def rN:Sp:=fun vs H Q _=>tU  vs H Q
theorem Aj {k:Nat} (F:Fun K "owed_of" "owed_of" oU f fd) (B:Bt mg) (D_owes:Df P w K mg base "owes" k ["pledge","giving"] (uI K)) :
  cI P w K mg base CX0 (k+1) f fd ["standing","one","giving"] rN:=by
 refine F.ok Ab (fun vs H Q E h=>?_) (fun cdv A outer s H vs Q E hr h=>?_)
 ·obtain⟨sa,ga,one,n,us,es,g,rfl,_⟩:=h
  rfl
 ·obtain⟨sa,ga,one,n,us,es,g,rfl,hsa,hes,l100,hga,lg,q⟩:=h
  refine⟨_,(aA (aG (Bf rfl rfl B.max_ (aa (bK (L:=["number","other","pledge"]) (F:=["giving","one"]) (cap:=[2,1]) rfl (bD rfl rfl (by kernel_rfl)) (dj (pv 0)) (fun _ _ _ _ _=>(fL (K:=K) 3 rfl rfl (bH (aJ (i:=0) (bw (by decide+kernel)) rfl (Qw rfl)) (bH (aJ (i:=1) (bw (by decide+kernel)) rfl (Qw rfl)) (bH (aJ (i:=2) (bw (by decide+kernel)) rfl (Qw rfl)) fO))))) (fun _ _ _ _ _=>(lA (aH cz (pv 1) (pv 4) (aL _)))) (fun _ _ _ _ _=>(bc D_owes hr (aa (pv 2) (aa (pv 3) aj))))) aj)))),?_⟩
  have les:=hes.length
  refine⟨_,rfl,sa,rfl,⟨_,SqT.of hsa⟩,fun D hD=>cL (K:=K) (a:=sa) (xs:=us) (fun i zs σ' H2=>(∃ u v w,σ'=[u,v,w,some (.ref ga),some (vN one)])/\aU H H2/\H2 D=some (.lst zs)/\zs=(owL (es.take i) one g).map V.int)
   ⟨⟨_,_,_,rfl⟩,aB hD _,ao,by rw[Rp]; rfl⟩ (fun i zs σ' H2 _ h=>⟨SqT.of (h.2.1 _ _ hsa),h.2.2.1⟩) ?_ ?_⟩
  ·rintro i zs x σ' H2 hx ⟨⟨u,v,w,rfl⟩,sm,eD,rfl⟩
   obtain⟨e,p,num,o2,pl,rfl,he,hent,hpr⟩:=hes.get hx
   have nx:owL (es.take (i+1)) one g=owL (es.take i) one g++if o2=one then [owF g pl] else []:=by
    rw[QR,he]
    exact G8
   have ll:(owL (es.take i) one g).length<=100:=by
    unfold owL
    rw[Qc]
    refine QL (RK _ _) ?_
    rw[Qv]
    lia
   refine⟨e,_,rfl,SqT.of (sm _ _ hent),rfl,_,_,rfl,_,_,rfl,_,_,rfl,rfl,?_⟩
   refine⟨_,rfl,_,rfl,rfl,_,rfl,?_⟩
   by_cases z:o2=one
   ·rw[decide_eq_true (show vN o2=vN one by rw[z])]
    refine gm ⟨_,rfl,_,rfl,p,ga,n,pl,g,rfl,hpr.bu (fun a xs q=>sm a _ q),SqT.of (sm _ _ hga),by lia,fun H3 s3=>?_⟩
    refine⟨s3 _ _ eD,aM (by rw[Qc]; lia),⟨_,_,_,rfl⟩,aW (sm.trans s3) hD _,ao,?_⟩
    rw[nx,if_pos z,Qj]
    rfl
   ·rw[decide_eq_false (show ¬ vN o2=vN one from fun y=>z (by injection y with y; lia))]
    refine cV ⟨⟨_,_,_,rfl⟩,sm,eD,?_⟩
    rw[nx,if_neg z,RL]
  ·rintro zs σ' H2 ⟨_,sm,eD,rfl⟩
   rw[les,Qq] at eD
   exact⟨D,_,rfl,SqL.of eD,q H2 sm⟩
theorem di.ok {n:Nat} {H:Hp}:∀ {us:List V} {es:List Ent},di n H us es->∀ e∈es,okP e.2.2
 | _,_,.nil,e,h=>by cases h
 | _,_,.cons _ p r,e,h=>by
  rcases List.mem_cons.mp h with z | z
  ·rw[z]
   exact p.1
  ·exact di.ok r e z
theorem di.Pg {n:Nat} {p:Ent->Bool} {e:Ent} {es:List Ent} {i:Nat} (h:es[i]? = some e):(es.take (i+1)).filter p=(es.take i).filter p++if p e=true then [e] else []:=by
 rw[QR,h,Tp]
 congr 1
 show List.filter p [e]=_
 by_cases z:p e=true
 ·rw[if_pos z,Ua z]
  rfl
 ·rw[if_neg z,Ub z]
  rfl
def Low (n:Nat) (fl:List Int) (bk:List (List Pl)) (lo:List Int):Prop:=okG n lo/\dz lo fl bk=lo/\∀ g,LeG (dz g fl bk) g->LeG lo g
section
variable {n:Nat} {fl:List Int} {bk:List (List Pl)}
theorem gM (g:List Int):LeG g g:=fun i=>RB _
theorem Low.uniq {lo lo':List Int} (h:Low n fl bk lo) (h':Low n fl bk lo'):lo=lo' :=
 jb (by rw[h.1.1,h'.1.1]) (h.2.2 _ (by rw[h'.2.1]; exact gM _)) (h'.2.2 _ (by rw[h.2.1]; exact gM _))
theorem uq (hb:bk.length=n) (ok:okB bk) (hf:okG n fl) {m:Nat} (st:Stops (Fd fl bk) fl m):Low n fl bk (itF (Fd fl bk) fl m) :=
 ⟨fZ hb ok hf hf m,st.1,fun _ h=>tZ hb ok hf h m⟩
theorem Ae (hb:bk.length=n) (ok:okB bk) (hf:okG n fl) {z:List Int} (h:Lim n fl bk true fl z):Low n fl bk z:=by
 obtain⟨h1,h2,h3⟩:=h
 unfold Goes at h3
 rw[if_pos rfl] at h3
 exact⟨h1,h2,fun g hg=>h3.2.2 g ((iz hb ok hf g).trans hg) hg⟩
end
def Jt (n:Nat) (fl:List Int) (bk:List (List Pl)) (hi:List Int):Prop:=okG n hi/\dz hi fl bk=hi/\∀ g,LeG g (dz g fl bk)->LeG g hi
open Classical in
def cl (n:Nat) (bk:List (List Pl)) (x:List Int):List Int:=if h:∃ y,Low n x bk y then Classical.choose h else []
section
variable {n:Nat} {fl hi:List Int} {bk:List (List Pl)}
theorem Jt.uniq {a b:List Int} (h:Jt n fl bk a) (h':Jt n fl bk b):a=b :=
 jb (by rw[h.1.1,h'.1.1]) (h'.2.2 _ (by rw[h.2.1]; exact gM _)) (h.2.2 _ (by rw[h'.2.1]; exact gM _))
theorem qK (hb:bk.length=n) (ok:okB bk) (hf:okG n fl) {m:Nat} (st:Stops (Fd fl bk) (rfF fl bk) m):Jt n fl bk (itF (Fd fl bk) (rfF fl bk) m) :=
 ⟨fZ hb ok hf (jN hb ok hf) m,st.1,fun _ h=>sY hb ok hf h m⟩
theorem wA (hb:bk.length=n) (ok:okB bk) (hf:okG n fl) {z:List Int} (h:Lim n fl bk false (rfF fl bk) z):Jt n fl bk z:=by
 obtain⟨h1,h2,h3⟩:=h
 unfold Goes at h3
 rw[if_neg Qk] at h3
 exact⟨h1,h2,fun g hg=>h3.2.2 g (hg.trans (mY hb ok hf g)) hg⟩
end
theorem bO.FQ {n:Nat} {H:Hp} {D:Addr} {zs zs':List V} (hD:H D=some (.lst zs)):∀ {us:List V} {bs:List (List Pl)},bO n H us bs->(∀ u∈us,u≠.ref D)->bO n (upd H D (.lst zs')) us bs
 | _,_,.nil,_=>.nil
 | _,_,.cons h l p r,hne=>.cons (by rw[bx fun z=>hne _ Qi (by rw[z])]; exact h) l (p.bu (cG hD)) (bO.FQ hD r fun u hu=>hne u (Qm _ hu))
abbrev ig:Stmt:=inClass (top 41) 3
theorem gA:aO ["self","one","now","left"] ["self","one"] (aD ig):=⟨rfl,rfl,rfl,by decide+kernel,rfl,by decide+kernel,by decide+kernel⟩
inductive yJ (CS CB:Addr) (vs:List V) (H:Hp) (Q:VK):Prop where
 | mk (b be:Addr) (one n d co:Nat) (g:List Int) (go:List Nat) (es:List Ent) (z0:vs=[.ref b,vN one]) (z1:bM CS CB n H b be d g go es co) (z2:one < g.length) (z3:one ∉ go) (z4:go.length<=12) (z5:es.length<=40) (z6:d<=900) (z7:∀ H',But b be H H'->bM CS CB n H' b be (d+1) g (vH (go++[one])) (es.filter fun e=>decide (e.2.1≠one)) co->Q .non H'):yJ CS CB vs H Q
def Dv (CS CB:Addr):Sp:=fun vs H Q _=>yJ CS CB vs H Q
theorem rC {CS CB:Addr} (ne:CB≠CS) (F:Fun K "leave" "Boon.leave" ig f fd) (B:Bt mg) (S:xQ K CS) (T:zK K CB)
  (D_check_there:Df P w K mg base "check_there" 2 ["stand","one"] (m8 CS)) (D_Stand:Dk2 P w K mg base "Stand" CS 1 ["self","green","gone","standing","coming"] (gq CS)) (D_Boon_go_on:Dm2 P w K mg base CB "go_on" 1 ["self","stand"] (uv CB)) :
  cI P w K mg base CX0 3 f fd ["self","one"] (Dv CS CB):=by
 refine F.ok gA (fun vs H Q E h=>?_) (fun cdv A outer s H vs Q E hr h=>?_)
 ·obtain⟨b,be,one,n,d,co,g,go,es,rfl,_⟩:=h
  rfl
 ·obtain⟨b,be,one,n,d,co,g,go,es,rfl,⟨dx,nw,ah,xs,hb,hbe,lx,hst⟩,hone,hgo,lgo,l40,d9,q⟩:=h
  refine⟨_,(aq (bf (i:=2) gA.nd rfl (Qw rfl) (bh K rfl (pv 0)))
 (aq (bT (bc D_check_there hr (aa (pv 2) (aa (pv 1) aj))))
 (aq (bf (i:=3) gA.nd rfl (Qw rfl) (bJ (r:=fD K) bL rfl B.tuple_ bQ (aa (bK (L:=["entry"]) (F:=["one"]) (cap:=[1]) rfl (bD rfl rfl (by kernel_rfl)) (dj (bh K rfl (pv 2))) (fun _ _ _ _ _=>(aJ (i:=0) (bw (by decide+kernel)) rfl (Qw rfl))) (fun _ _ _ _ _=>(lA (aH zj (aQ (r:=cW K) aY (pv 0) au (fun _ _=>rfl)) (pv 1) (aL _)))) (fun _ _ _ _ _=>(pv 0))) aj)))
 (aA (bT (tM D_Boon_go_on hr (pv 0) (aa (Cq D_Stand hr (aa (bh K rfl (pv 2)) (aa (bJ (r:=fD K) bL rfl B.tuple_ bQ (aa (aF (r:=HB K) zY rfl B.sorted_ (by decide+kernel) (aa (aV (r:=iC K) jd (bh K rfl (pv 2)) (cA (aa (pv 1) aj))) aj)) aj)) (aa (pv 3) (aa (bh K rfl (pv 2)) aj))))) aj))))))),?_⟩
  refine aR (fun σ H1=>σ=[some (.ref b),some (vN one),some (.ref nw),none]/\H1=H) ?q0 ?t0
  case t0 =>
   intro N Rc
   exact⟨_,rfl,b,CB,dx,_,_,rfl,hb,T.cl,T.now,rfl,Rc _ _ ⟨rfl,rfl⟩⟩
  case q0 =>
  rintro σ H0 ⟨rfl,rfl⟩
  refine aR (fun σ H1=>σ=[some (.ref b),some (vN one),some (.ref nw),none]/\H1=H0) ?q1 ?t1
  case t1 =>
   intro N Rc
   exact⟨_,rfl,_,rfl,nw,one,n,co,g,go,es,rfl,hst,hone,hgo,Rc _ _ ⟨rfl,rfl⟩⟩
  case q1 =>
  rintro σ H2 ⟨rfl,rfl⟩
  obtain⟨dx2,ga,goa,sa,us,hs,hga,hgoa,hsa,hes⟩:=id hst
  have les:=hes.length
  refine aR (fun σ H3=>∃ (ch:Addr) (us':List V),σ=[some (.ref b),some (vN one),some (.ref nw),some (.ref ch)]/\aU H2 H3/\H3 ch=some (.tup us')/\di n H3 us' (es.filter fun e=>decide (e.2.1≠one))) ?q3 ?t3
  case t3 =>
   intro N Rc
   refine⟨_,rfl,nw,CS,dx2,_,_,rfl,hs,S.cl,S.standing,rfl,sa,rfl,⟨_,SqT.of hsa⟩,fun D hD=>cL (K:=K) (a:=sa) (xs:=us) (fun i zs σ' H3=>(∃ u,σ'=[u,some (vN one)])/\aU H2 H3/\H3 D=some (.lst zs)/\di n H3 zs ((es.take i).filter fun e=>decide (e.2.1≠one)))
    ⟨⟨_,rfl⟩,aB hD _,ao,by rw[Rp]; exact .nil⟩ (fun i zs σ' H3 _ h=>⟨SqT.of (h.2.1 _ _ hsa),h.2.2.1⟩) ?_ ?_⟩
   ·rintro i zs x σ' H3 hx ⟨⟨u,rfl⟩,sm,eD,ez⟩
    obtain⟨e,p2,nu,o2,pl2,rfl,he,hent,hpr⟩:=hes.get hx
    have lz:=ez.length
    have lf:=RK (fun e:Ent=>decide (e.2.1≠one)) (es.take i)
    rw[Qv] at lf
    have nx:=di.Pg (n:=n) (p:=fun e:Ent=>decide (e.2.1≠one)) he
    refine⟨_,rfl,e,_,_,_,rfl,rfl,SqT.of (sm _ _ hent),rfl,_,rfl,rfl,_,rfl,?_⟩
    by_cases z:o2=one
    ·rw[show decide (vN o2=vN one)=true from decide_eq_true (by rw[z])]
     show if (!true)=true then _ else _
     refine cV ⟨⟨_,rfl⟩,sm,eD,?_⟩
     rw[nx,if_neg (by rw[decide_eq_false (not_not_intro z)]; exact Qk),RL]
     exact ez
    ·rw[show decide (vN o2=vN one)=false from decide_eq_false fun y=>z (by injection y with y; lia)]
     show if (!false)=true then _ else _
     have tk:=cG (zs':=zs++[.ref e]) eD
     refine gm ⟨_,rfl,eD,aM (by lia),⟨_,rfl⟩,aW sm hD _,ao,?_⟩
     rw[nx,if_pos (decide_eq_true z)]
     exact di.snoc (tk _ _ (sm _ _ hent)) ((hpr.bu fun a ys q=>sm a _ q).bu tk) (ez.bu tk)
   ·rintro zs σ' H3 ⟨_,sm,eD,ez⟩
    rw[les,Qq] at ez
    refine⟨D,_,rfl,.inl ⟨SqL.of eD,fun a ha=>?_⟩⟩
    have sn:=aB ha (.tup zs)
    exact Rc _ _ ⟨a,zs,rfl,sm.trans sn,ao,ez.bu fun a ys q=>sn a _ q⟩
  case q3 =>
  rintro σ H3 ⟨ch,us',rfl,s3,ech,ees⟩
  have hs3:=s3 _ _ hs
  refine⟨_,rfl,b,dx,_,rfl,s3 _ _ hb,rfl,?_⟩
  refine⟨_,rfl,nw,CS,dx2,_,_,rfl,hs3,S.cl,S.green,rfl,?_⟩
  refine⟨_,rfl,nw,CS,dx2,_,_,rfl,hs3,S.cl,S.gone,rfl,_,rfl,small (by show 1<=1000; decide),fun p1 h1=>?_⟩
  generalize eH4:upd H3 p1 _=H4
  obtain⟨g4,e4⟩:=aP eH4 h1
  refine NQ (g4 _ _ (s3 _ _ hgoa)) e4 (by rw[Qc]; show go.length+1<=1000; lia) fun p2 H5 s5 e5=>?_
  have e5:H5 p2=some (.tup ((go++[one]).map vN)):=by rw[e5,Qj]; rfl
  have ep:SqT K H5 p2 (((go++[one]).map fun i:Nat=>(i:Int)).map V.int):=SqT.of (e5.trans (by rw[ie]))
  refine⟨p2,_,rfl,ep,by rw[Qc,Qx]; show go.length+1 < 64; lia,fun ms pms so l hl=>?_⟩
  have ems:=wg pms so
  subst ems
  generalize eH6:upd H5 l _=H6
  obtain⟨g6,e6⟩:=aP eH6 hl
  refine⟨l,_,rfl,.inl ⟨SqL.of e6,fun tt htt=>?_⟩⟩
  generalize eH7:upd H6 tt _=H7
  obtain⟨g7,e7⟩:=aP eH7 htt
  have s37:=g4.trans (s5.trans (g6.trans g7))
  have s27:=s3.trans s37
  refine⟨_,rfl,_,rfl,nw,CS,dx2,_,_,rfl,s37 _ _ hs3,S.cl,S.coming,rfl,fun x dx3 hx hdx hne=>?_⟩
  refine mQ hx hdx hne fun H8 s8 e8=>⟨rfl,?_⟩
  have s28:=s27.trans s8
  refine⟨b,be,x,dx,nw,ah,xs,rfl,s28 _ _ hb,s28 _ _ hbe,by lia,fun ah' H9 e9 e9' bt=>?_⟩
  refine q H9 ((Ky s28).trans bt) ⟨dx,x,ah',_,e9,e9',by rw[Qx,lx]; rfl,iK.ks (bt.ks ne (s28 _ _ hb) (s28 _ _ hbe)) ⟨dx3,ga,tt,ch,us',e8,s28 _ _ hga,s8 _ _ (e7.trans (by rw[ie])),(s37.trans s8) _ _ ech,ees.bu fun a ys q=>(s37.trans s8) a _ q⟩⟩
abbrev Ex:Stmt:=top 51
abbrev wX:Stmt:=top 53
abbrev n8:Stmt:=top 55
theorem JR:aO ["boon"] ["boon"] (aD Ex):=⟨rfl,rfl,rfl,by decide+kernel,rfl,by decide+kernel,by decide+kernel⟩
theorem GQ:aO ["boon"] ["boon"] (aD wX):=⟨rfl,rfl,rfl,by decide+kernel,rfl,by decide+kernel,by decide+kernel⟩
theorem zy:aO ["boon"] ["boon"] (aD n8):=⟨rfl,rfl,rfl,by decide+kernel,rfl,by decide+kernel,by decide+kernel⟩
inductive Dk (CS CB:Addr) (vs:List V) (H:Hp) (Q:VK):Prop where
 | mk (b be:Addr) (n d co:Nat) (g:List Int) (go:List Nat) (es:List Ent) (z0:vs=[.ref b]) (z1:bM CS CB n H b be d g go es co) (z2:Q (.int (g.length:Int)) H):Dk CS CB vs H Q
def EY (CS CB:Addr):Sp:=fun vs H Q _=>Dk CS CB vs H Q
inductive yQ (CS CB:Addr) (vs:List V) (H:Hp) (Q:VK):Prop where
 | mk (b be:Addr) (n d co:Nat) (g:List Int) (go:List Nat) (es:List Ent) (z0:vs=[.ref b]) (z1:bM CS CB n H b be d g go es co) (z2:∀ a,H a=some (.tup (g.map V.int))->Q (.ref a) H):yQ CS CB vs H Q
def jB (CS CB:Addr):Sp:=fun vs H Q _=>yQ CS CB vs H Q
theorem Jp {CS CB:Addr} (F:Fun K "folk" "folk" Ex f fd) (B:Bt mg) (S:xQ K CS) (T:zK K CB):cI P w K mg base CX0 1 f fd ["boon"] (EY CS CB):=by
 refine F.ok JR (fun vs H Q E h=>?_) (fun cdv A outer s H vs Q E hr h=>?_)
 ·obtain⟨b,be,n,d,co,g,go,es,rfl,_⟩:=h
  rfl
 ·obtain⟨b,be,n,d,co,g,go,es,rfl,⟨dx,nw,ah,xs,hb,hbe,lx,dx2,ga,goa,sa,us,hs,hga,hgoa,hsa,hes⟩,q⟩:=h
  refine⟨_,(aA (aG (aF (r:=iV K) aX rfl B.len_ bV (aa (bh K rfl (bh K rfl (pv 0))) aj)))),?_⟩
  refine⟨_,rfl,b,CB,dx,_,_,rfl,hb,T.cl,T.now,rfl,nw,CS,dx2,_,_,rfl,hs,S.cl,S.green,rfl,ga,_,rfl,.inr (SqT.of hga),?_⟩
  rw[Qc]
  exact q
theorem Gu {CS CB:Addr} (F:Fun K "green" "green" wX f fd) (B:Bt mg) (S:xQ K CS) (T:zK K CB):cI P w K mg base CX0 1 f fd ["boon"] (jB CS CB):=by
 refine F.ok GQ (fun vs H Q E h=>?_) (fun cdv A outer s H vs Q E hr h=>?_)
 ·obtain⟨b,be,n,d,co,g,go,es,rfl,_⟩:=h
  rfl
 ·obtain⟨b,be,n,d,co,g,go,es,rfl,⟨dx,nw,ah,xs,hb,hbe,lx,dx2,ga,goa,sa,us,hs,hga,hgoa,hsa,hes⟩,q⟩:=h
  refine⟨_,(aA (aG (bh K rfl (bh K rfl (pv 0))))),?_⟩
  exact⟨_,rfl,b,CB,dx,_,_,rfl,hb,T.cl,T.now,rfl,nw,CS,dx2,_,_,rfl,hs,S.cl,S.green,rfl,q ga hga⟩
def cP (es:List Ent) (i:Nat):List Pl:=(es.filter fun e=>decide (e.2.1=i)).map fun e=>e.2.2
def dC (n:Nat) (es:List Ent):List (List Pl):=(Rk n).map (cP es)
theorem iZ {es:List Ent} {i:Nat} {e:Ent}:cP (es++[e]) i=cP es i++if e.2.1=i then [e.2.2] else []:=by
 unfold cP
 rw[Tp,Qj]
 congr 1
 by_cases h:e.2.1=i
 ·rw[if_pos h,Ua (by exact decide_eq_true h)]
  rfl
 ·rw[if_neg h,Ub (by rw[decide_eq_false h]; exact Qk)]
  rfl
inductive ud (CS CB:Addr) (vs:List V) (H:Hp) (Q:VK):Prop where
 | mk (b be:Addr) (n d co:Nat) (g:List Int) (go:List Nat) (es:List Ent) (z0:vs=[.ref b]) (z1:bM CS CB n H b be d g go es co) (z2:g.length=n) (z3:n<=12) (z4:es.length<=40) (z5:∀ (a:Addr) (H':Hp),aU H H'->ym n H' a (dC n es)->Q (.ref a) H'):ud CS CB vs H Q
def rJ (CS CB:Addr):Sp:=fun vs H Q _=>ud CS CB vs H Q
theorem zm {CS CB:Addr} (F:Fun K "book_of" "book_of" n8 f fd) (B:Bt mg) (S:xQ K CS) (T:zK K CB) (D_folk:Df P w K mg base "folk" 1 ["boon"] (EY CS CB)):cI P w K mg base CX0 2 f fd ["boon"] (rJ CS CB):=by
 refine F.ok zy (fun vs H Q E h=>?_) (fun cdv A outer s H vs Q E hr h=>?_)
 ·obtain⟨b,be,n,d,co,g,go,es,rfl,_⟩:=h
  rfl
 ·obtain⟨b,be,n,d,co,g,go,es,rfl,hB,lg,n12,l40,q⟩:=h
  refine⟨_,(aA (aG (Ge (x0:="one") (L:=["one"]) (F:=["boon"]) (cap:=[0]) rfl (Gn rfl rfl (by kernel_rfl) (fun _ _=>rfl) (fun _=>rfl)) (bU rfl B.range_ (aa (bc D_folk hr (aa (pv 0) aj)) aj)) (fun _ _ _ _ _=>(aJ (i:=0) (GK (by decide+kernel)) rfl (Wm rfl))) (fun _ _ _ _ _=>bR) (fun _ _ _ _ _=>(bK (L:=["number","other","pledge"]) (F:=["one"]) (cap:=[0]) rfl (bD rfl rfl (by kernel_rfl)) (KC K rfl (bh K rfl (bh K rfl (pv 1)))) (fun _ _ _ _ _=>(fL (K:=K) 3 rfl rfl (bH (aJ (i:=0) (bw (by decide+kernel)) rfl (Qw rfl)) (bH (aJ (i:=1) (bw (by decide+kernel)) rfl (Qw rfl)) (bH (aJ (i:=2) (bw (by decide+kernel)) rfl (Qw rfl)) fO))))) (fun _ _ _ _ _=>(lA (aH cz (pv 1) (pv 3) (aL _)))) (fun _ _ _ _ _=>(pv 2))))))),?_⟩
  obtain⟨dx,nw,ah,xs,hb,hbe,lx,dx2,ga,goa,sa,us,hs,hga,hgoa,hsa,hes⟩:=id hB
  have les:=hes.length
  refine⟨_,rfl,b,be,n,d,co,g,go,es,rfl,hB,_,rfl,by lia,by lia,fun D hD=>cT (lo:=0) (n:=((g.length:Int)).toNat) (fun i zs σ' H2=>(∃ u,σ'=[u,some (.ref b)])/\aU H H2/\H2 D=some (.lst zs)/\bO n H2 zs ((Rk i).map (cP es))/\∀ u∈zs,u≠.ref D)
   ⟨⟨_,rfl⟩,aB hD _,ao,.nil,by simp⟩ (fun i zs σ' H2 _ h=>h.2.2.1) ?_ ?_⟩
  ·rintro i zs σ' H2 hi ⟨⟨u,rfl⟩,sm,eD,rb,hne⟩
   have lz:=rb.length
   rw[Qc,Ro] at lz
   rw[RV]
   refine gT ?_
   have hb2:=sm _ _ hb
   have hs2:=sm _ _ hs
   have hsa2:=sm _ _ hsa
   have hes2:=hes.bu fun a ys q=>sm a _ q
   refine⟨_,rfl,b,CB,dx,_,_,rfl,hb2,T.cl,T.now,rfl,nw,CS,dx2,_,_,rfl,hs2,S.cl,S.standing,rfl,sa,rfl,⟨_,SqT.of hsa2⟩,fun D2 hD2=>cL (K:=K) (a:=sa) (xs:=us) (fun j ys σ' H3=>(∃ u v w,σ'=[u,v,w,some (vN i)])/\aU H2 H3/\H3 D2=some (.lst ys)/\∃ as:List Addr,ys=as.map V.ref/\dF n H3 as (cP (es.take j) i))
    ⟨⟨_,_,_,rfl⟩,aB hD2 _,ao,[],rfl,by rw[Rp]; exact .nil⟩ (fun j ys σ' H3 _ h=>⟨SqT.of (h.2.1 _ _ hsa2),h.2.2.1⟩) ?_ ?_⟩
   ·rintro j ys x σ' H3 hx ⟨⟨u,v,w,rfl⟩,s3,eD2,as,rfl,ra⟩
    obtain⟨e,p,num,o2,pl,rfl,he,hent,hpr⟩:=hes2.get hx
    have la:=ra.length
    have ll:(cP (es.take j) i).length<=40:=by
     unfold cP
     rw[Qc]
     refine QL (RK _ _) ?_
     rw[Qv]
     lia
    have nx:cP (es.take (j+1)) i=cP (es.take j) i++if o2=i then [pl] else []:=by
     rw[QR,he]
     exact iZ
    refine⟨e,_,rfl,SqT.of (s3 _ _ hent),rfl,_,_,rfl,_,_,rfl,_,_,rfl,rfl,?_⟩
    refine⟨_,rfl,_,rfl,rfl,_,rfl,?_⟩
    by_cases z:o2=i
    ·rw[show decide (vN o2=vN i)=true from decide_eq_true (by rw[z])]
     have tk:=cG (zs':=as.map V.ref++[.ref p]) eD2
     refine gm ⟨_,rfl,eD2,aM (by rw[Qc]; lia),⟨_,_,_,rfl⟩,aW s3 hD2 _,ao,as++[p],by rw[Qj]; rfl,?_⟩
     rw[nx,if_pos z]
     exact dF.snoc ((hpr.bu fun a ys q=>s3 a _ q).bu tk) (ra.bu tk)
    ·rw[show decide (vN o2=vN i)=false from decide_eq_false fun y=>z (by injection y with y; lia)]
     refine cV ⟨⟨_,_,_,rfl⟩,s3,eD2,as,rfl,?_⟩
     rw[nx,if_neg z,RL]
     exact ra
   ·rintro ys σ' H3 ⟨_,s3,eD2,as,rfl,ra⟩
    rw[les,Qq] at ra
    have la:=ra.length
    have ll:(cP es i).length<=40:=by
     unfold cP
     rw[Qc]
     exact QL (RK _ _) l40
    have dd:D2≠D:=fun z=>by rw[z,eD] at hD2; cases hD2
    have eD3:=s3 _ _ eD
    refine⟨eD3,aM (by lia),⟨_,rfl⟩,aW (sm.trans s3) hD _,ao,?_,fun u hu=>?_⟩
    ·rw[Ww,Qj]
     refine (bO.snoc eD2 (by lia) ra (rb.mono s3)).FQ eD3 fun u hu=>?_
     rcases List.mem_append.mp hu with h | h
     ·exact hne u h
     ·rw[List.mem_singleton.mp h]
      exact fun z=>dd (by cases z; rfl)
    ·rcases List.mem_append.mp hu with h | h
     ·exact hne u h
     ·rw[List.mem_singleton.mp h]
      exact fun z=>dd (by cases z; rfl)
  ·rintro zs σ' H2 ⟨_,sm,eD,rb,hne⟩
   have e:((g.length:Int)).toNat=n:=by lia
   rw[e] at rb
   exact q D H2 sm ⟨zs,eD,rb,by unfold dC; rw[Qc,Ro]; lia⟩
abbrev Es:Stmt:=top 56
abbrev wC:Stmt:=top 57
theorem Kg:aO ["boon"] ["boon"] (aD Es):=⟨rfl,rfl,rfl,by decide+kernel,rfl,by decide+kernel,by decide+kernel⟩
theorem G4:aO ["boon"] ["boon"] (aD wC):=⟨rfl,rfl,rfl,by decide+kernel,rfl,by decide+kernel,by decide+kernel⟩
theorem cj (n:Nat) (es:List Ent):(dC n es).length=n:=by unfold dC; rw[Qc,Ro]
inductive DN (CS CB:Addr) (vs:List V) (H:Hp) (Q:VK):Prop where
 | mk (b be:Addr) (n d co:Nat) (g:List Int) (go:List Nat) (es:List Ent) (z0:vs=[.ref b]) (z1:bM CS CB n H b be d g go es co) (z2:okG n g) (z3:n<=12) (z4:es.length<=40) (z5:∀ (a:Addr) (lo:List Int) (H':Hp),aU H H'->Low n g (dC n es) lo->H' a=some (.tup (lo.map V.int))->Q (.ref a) H'):DN CS CB vs H Q
def Bw (CS CB:Addr):Sp:=fun vs H Q _=>DN CS CB vs H Q
inductive yG (CS CB:Addr) (vs:List V) (H:Hp) (Q:VK):Prop where
 | mk (b be:Addr) (n d co:Nat) (g:List Int) (go:List Nat) (es:List Ent) (z0:vs=[.ref b]) (z1:bM CS CB n H b be d g go es co) (z2:okG n g) (z3:n<=12) (z4:es.length<=40) (z5:∀ (a:Addr) (hi:List Int) (H':Hp),aU H H'->Jt n g (dC n es) hi->H' a=some (.tup (hi.map V.int))->Q (.ref a) H'):yG CS CB vs H Q
def wH (CS CB:Addr):Sp:=fun vs H Q _=>yG CS CB vs H Q
theorem KQ {CS CB:Addr} {k:Nat} (hk:2<=k) (F:Fun K "sure" "sure" Es f fd) (B:Bt mg) (D_least:Df P w K mg base "least" k ["book","floor"] (Fp Nq)) (D_book_of:Df P w K mg base "book_of" 2 ["boon"] (rJ CS CB)) (D_green:Df P w K mg base "green" 1 ["boon"] (jB CS CB)) :
  cI P w K mg base CX0 (k+1) f fd ["boon"] (Bw CS CB):=by
 refine F.ok Kg (fun vs H Q E h=>?_) (fun cdv A outer s H vs Q E hr h=>?_)
 ·obtain⟨b,be,n,d,co,g,go,es,rfl,_⟩:=h
  rfl
 ·obtain⟨b,be,n,d,co,g,go,es,rfl,hB,og,n12,l40,q⟩:=h
  refine⟨_,(aA (aG (bc D_least hr (aa (bc D_book_of hr (aa (pv 0) aj)) (aa (bc D_green hr (aa (pv 0) aj)) aj))))),?_⟩
  refine⟨_,rfl,b,be,n,d,co,g,go,es,rfl,hB,og.1,n12,l40,fun a H1 s1 hBk=>?_⟩
  refine⟨_,rfl,b,be,n,d,co,g,go,es,rfl,hB.same s1,fun ga hga=>?_⟩
  exact⟨a,ga,n,_,g,rfl,hBk,cj n es,hga,og,fun m a1 H2 _ st s2 e2=>q a1 _ H2 (s1.trans s2) (uq (cj n es) hBk.okB og st) e2⟩
theorem Hr {CS CB:Addr} {k:Nat} (hk:2<=k) (F:Fun K "hoped" "hoped" wC f fd) (B:Bt mg) (D_greatest:Df P w K mg base "greatest" k ["book","floor"] (Fp rfF)) (D_book_of:Df P w K mg base "book_of" 2 ["boon"] (rJ CS CB)) (D_green:Df P w K mg base "green" 1 ["boon"] (jB CS CB)) :
  cI P w K mg base CX0 (k+1) f fd ["boon"] (wH CS CB):=by
 refine F.ok G4 (fun vs H Q E h=>?_) (fun cdv A outer s H vs Q E hr h=>?_)
 ·obtain⟨b,be,n,d,co,g,go,es,rfl,_⟩:=h
  rfl
 ·obtain⟨b,be,n,d,co,g,go,es,rfl,hB,og,n12,l40,q⟩:=h
  refine⟨_,(aA (aG (bc D_greatest hr (aa (bc D_book_of hr (aa (pv 0) aj)) (aa (bc D_green hr (aa (pv 0) aj)) aj))))),?_⟩
  refine⟨_,rfl,b,be,n,d,co,g,go,es,rfl,hB,og.1,n12,l40,fun a H1 s1 hBk=>?_⟩
  refine⟨_,rfl,b,be,n,d,co,g,go,es,rfl,hB.same s1,fun ga hga=>?_⟩
  exact⟨a,ga,n,_,g,rfl,hBk,cj n es,hga,og,fun m a1 H2 _ st s2 e2=>q a1 _ H2 (s1.trans s2) (qK (cj n es) hBk.okB og st) e2⟩
abbrev xr:Stmt:=top 52
abbrev nZ:Stmt:=top 54
abbrev Bq:Stmt:=top 58
theorem Gf:aO ["boon"] ["boon"] (aD xr):=⟨rfl,rfl,rfl,by decide+kernel,rfl,by decide+kernel,by decide+kernel⟩
theorem zZ:aO ["boon"] ["boon"] (aD nZ):=⟨rfl,rfl,rfl,by decide+kernel,rfl,by decide+kernel,by decide+kernel⟩
theorem Kp:aO ["boon","one"] ["boon","one"] (aD Bq):=⟨rfl,rfl,rfl,by decide+kernel,rfl,by decide+kernel,by decide+kernel⟩
def thF (n:Nat) (go:List Nat):List Nat:=(Rk n).filter fun i=>decide (i ∉ go)
theorem GP (n:Nat) (go:List Nat):thF (n+1) go=thF n go++if n∈go then [] else [n]:=by
 unfold thF
 rw[Ww,Tp]
 congr 1
 by_cases h:n∈go
 ·rw[if_pos h,Ub (by rw[decide_eq_false (fun y=>y h)]; exact Qk)]
  rfl
 ·rw[if_neg h,Ua (by exact decide_eq_true h)]
  rfl
theorem qI (n:Nat) (go:List Nat):(thF n go).length<=n:=by
 have:=RK (fun i=>decide (i ∉ go)) (Rk n)
 rw[Ro] at this
 exact this
theorem kO {n i:Nat} {go:List Nat} (h:i∈thF n go):i < n/\i ∉ go:=by
 have:=List.mem_filter.mp h
 exact⟨List.mem_range.mp this.1,of_decide_eq_true this.2⟩
inductive vo (CS CB:Addr) (vs:List V) (H:Hp) (Q:VK):Prop where
 | mk (b be:Addr) (n d co:Nat) (g:List Int) (go:List Nat) (es:List Ent) (z0:vs=[.ref b]) (z1:bM CS CB n H b be d g go es co) (z2:g.length<=12) (z3:∀ (a:Addr) (H':Hp),aU H H'->H a=none->H' a=some (.lst ((thF g.length go).map vN))->Q (.ref a) H'):vo CS CB vs H Q
def rR (CS CB:Addr):Sp:=fun vs H Q _=>vo CS CB vs H Q
theorem GX {CS CB:Addr} (F:Fun K "there" "there" xr f fd) (B:Bt mg) (S:xQ K CS) (T:zK K CB) (D_folk:Df P w K mg base "folk" 1 ["boon"] (EY CS CB)):cI P w K mg base CX0 2 f fd ["boon"] (rR CS CB):=by
 refine F.ok Gf (fun vs H Q E h=>?_) (fun cdv A outer s H vs Q E hr h=>?_)
 ·obtain⟨b,be,n,d,co,g,go,es,rfl,_⟩:=h
  rfl
 ·obtain⟨b,be,n,d,co,g,go,es,rfl,hB,n12,q⟩:=h
  refine⟨_,(aA (aG (bK (L:=["one"]) (F:=["boon"]) (cap:=[0]) rfl (bD rfl rfl (by kernel_rfl)) (bU rfl B.range_ (aa (bc D_folk hr (aa (pv 0) aj)) aj)) (fun _ _ _ _ _=>(aJ (i:=0) (bw (by decide+kernel)) rfl (Qw rfl))) (fun _ _ _ _ _=>(lA (aH (r:=rIn K true) mq (pv 0) (bh K rfl (bh K rfl (pv 1))) rfl))) (fun _ _ _ _ _=>(pv 0))))),?_⟩
  obtain⟨dx,nw,ah,xs,hb,hbe,lx,dx2,ga,goa,sa,us,hs,hga,hgoa,hsa,hes⟩:=id hB
  refine⟨_,rfl,b,be,n,d,co,g,go,es,rfl,hB,_,rfl,by lia,by lia,fun D hD=>cT (lo:=0) (n:=((g.length:Int)).toNat) (fun i zs σ' H2=>(∃ u,σ'=[u,some (.ref b)])/\aU H H2/\H2 D=some (.lst zs)/\zs=(thF i go).map vN)
   ⟨⟨_,rfl⟩,aB hD _,ao,rfl⟩ (fun i zs σ' H2 _ h=>h.2.2.1) ?_ ?_⟩
  ·rintro i zs σ' H2 hi ⟨⟨u,rfl⟩,sm,eD,rfl⟩
   rw[RV]
   have li:=qI i go
   have nx:=GP i go
   refine⟨_,rfl,_,rfl,b,CB,dx,_,_,rfl,sm _ _ hb,T.cl,T.now,rfl,nw,CS,dx2,_,_,rfl,sm _ _ hs,S.cl,S.gone,rfl,goa,_,rfl,.inr (SqT.of (sm _ _ hgoa)),rfl,oA go,_,rfl,?_⟩
   have e:inV (.int (i:Int)) (go.map vN)=decide (i∈go):=mZ i go
   rw[if_pos rfl,e]
   by_cases z:i∈go
   ·rw[decide_eq_true z]
    refine cV ⟨⟨_,rfl⟩,sm,eD,?_⟩
    rw[nx,if_pos z,RL]
   ·rw[decide_eq_false z]
    refine gm ⟨_,rfl,eD,aM (by rw[Qc]; lia),⟨_,rfl⟩,aW sm hD _,ao,?_⟩
    rw[nx,if_neg z,Qj]
    rfl
  ·rintro zs σ' H2 ⟨_,sm,eD,rfl⟩
   exact q D H2 sm hD eD
inductive pQ (CS CB:Addr) (vs:List V) (H:Hp) (Q:VK):Prop where
 | mk (b be:Addr) (n d co:Nat) (g:List Int) (go:List Nat) (es:List Ent) (z0:vs=[.ref b]) (z1:bM CS CB n H b be d g go es co) (z2:es.length<=40) (z3:∀ (a:Addr) (us:List V) (H':Hp),aU H H'->us.length=es.length->H' a=some (.lst us)->Q (.ref a) H'):pQ CS CB vs H Q
def uQ (CS CB:Addr):Sp:=fun vs H Q _=>pQ CS CB vs H Q
theorem Aq {CS CB:Addr} (F:Fun K "pledges" "pledges" nZ f fd) (B:Bt mg) (S:xQ K CS) (T:zK K CB):cI P w K mg base CX0 1 f fd ["boon"] (uQ CS CB):=by
 refine F.ok zZ (fun vs H Q E h=>?_) (fun cdv A outer s H vs Q E hr h=>?_)
 ·obtain⟨b,be,n,d,co,g,go,es,rfl,_⟩:=h
  rfl
 ·obtain⟨b,be,n,d,co,g,go,es,rfl,⟨dx,nw,ah,xs,hb,hbe,lx,dx2,ga,goa,sa,us,hs,hga,hgoa,hsa,hes⟩,l40,q⟩:=h
  refine⟨_,(aA (aG (bJ (r:=qU K) lL rfl B.list_ nP (aa (bh K rfl (bh K rfl (pv 0))) aj)))),?_⟩
  have les:=hes.length
  refine⟨_,rfl,b,CB,dx,_,_,rfl,hb,T.cl,T.now,rfl,nw,CS,dx2,_,_,rfl,hs,S.cl,S.standing,rfl,sa,_,rfl,.inr (SqT.of hsa),fun r hr'=>q r _ _ (aB hr' _) les ao⟩
inductive xW (CS CB:Addr) (vs:List V) (H:Hp) (Q:VK):Prop where
 | mk (b be:Addr) (one n d co:Nat) (g:List Int) (go:List Nat) (es:List Ent) (z0:vs=[.ref b,vN one]) (z1:bM CS CB n H b be d g go es co) (z2:g.length=n) (z3:one < n) (z4:one ∉ go) (z5:es.length<=40) (z6:∀ H',aU H H'->Q (.int (mxD 0 (owL es one g))) H'):xW CS CB vs H Q
def Aw (CS CB:Addr):Sp:=fun vs H Q _=>xW CS CB vs H Q
theorem Kh {CS CB:Addr} {k:Nat} (hk:2<=k) (F:Fun K "owed" "owed" Bq f fd) (B:Bt mg) (S:xQ K CS) (T:zK K CB) (D_check_there:Df P w K mg base "check_there" 2 ["stand","one"] (m8 CS)) (D_owed_of:Df P w K mg base "owed_of" k ["standing","one","giving"] rN) (D_green:Df P w K mg base "green" 1 ["boon"] (jB CS CB)) :
  cI P w K mg base CX0 (k+1) f fd ["boon","one"] (Aw CS CB):=by
 refine F.ok Kp (fun vs H Q E h=>?_) (fun cdv A outer s H vs Q E hr h=>?_)
 ·obtain⟨b,be,one,n,d,co,g,go,es,rfl,_⟩:=h
  rfl
 ·obtain⟨b,be,one,n,d,co,g,go,es,rfl,hB,lg,hone,hgo,l40,q⟩:=h
  refine⟨_,(aq (bT (bc D_check_there hr (aa (bh K rfl (pv 0)) (aa (pv 1) aj))))
 (aA (aG (bc D_owed_of hr (aa (bh K rfl (bh K rfl (pv 0))) (aa (pv 1) (aa (bc D_green hr (aa (pv 0) aj)) aj))))))),?_⟩
  obtain⟨dx,nw,ah,xs,hb,hbe,lx,hst⟩:=id hB
  obtain⟨dx2,ga,goa,sa,us,hs,hga,hgoa,hsa,hes⟩:=id hst
  refine⟨_,rfl,b,CB,dx,_,_,rfl,hb,T.cl,T.now,rfl,_,rfl,nw,one,n,co,g,go,es,rfl,hst,by lia,hgo,?_⟩
  refine⟨_,rfl,b,CB,dx,_,_,rfl,hb,T.cl,T.now,rfl,nw,CS,dx2,_,_,rfl,hs,S.cl,S.standing,rfl,_,rfl,_,rfl,b,be,n,d,co,g,go,es,rfl,hB,fun ga' hga'=>?_⟩
  exact⟨sa,ga',one,n,us,es,g,rfl,hsa,hes,by lia,hga',lg,q⟩
abbrev jA:Stmt:=top 40
abbrev jJ:Stmt:=inClass (top 41) 7
theorem cQ:aO ["stand","rises","steps","crowd","one","step","green"] ["stand","rises"] (aD jA):=⟨rfl,rfl,rfl,by decide+kernel,rfl,by decide+kernel,by decide+kernel⟩
theorem tQ:aO ["self","rises"] ["self","rises"] (aD jJ):=⟨rfl,rfl,rfl,by decide+kernel,rfl,by decide+kernel,by decide+kernel⟩
inductive RiR (H:Hp):List V->List (Nat × Int)->Prop where
 | nil:RiR H [] []
 | cons {us:List V} {ps:List (Nat × Int)} {e:Addr} {o:Nat} {s:Int} (h:H e=some (.tup [vN o,.int s])) (r:RiR H us ps):RiR H (.ref e::us) ((o,s)::ps)
theorem RiR.bu {H H':Hp} (t:∀ a xs,H a=some (HO.tup xs)->H' a=some (HO.tup xs)):∀ {us:List V} {ps:List (Nat × Int)},RiR H us ps->RiR H' us ps
 | _,_,.nil=>.nil
 | _,_,.cons h r=>.cons (t _ _ h) (r.bu t)
theorem RiR.length {H:Hp}:∀ {us:List V} {ps:List (Nat × Int)},RiR H us ps->us.length=ps.length
 | _,_,.nil=>rfl
 | _,_,.cons _ r=>congrArg (· + 1) r.length
theorem RiR.get {H:Hp}:∀ {us:List V} {ps:List (Nat × Int)} {i:Nat} {u:V},RiR H us ps->us[i]? = some u->∃ (e:Addr) (o:Nat) (s:Int),u = .ref e/\ps[i]? = some (o,s)/\H e=some (.tup [vN o,.int s])
 | _,_,0,_,.cons h _,q=>by
  cases q
  exact⟨_,_,_,rfl,rfl,h⟩
 | _,_,i+1,_,.cons _ r,q=>r.get (i:=i) q
theorem RiR.snoc {H:Hp} {e:Addr} {o:Nat} {s:Int} (h:H e=some (.tup [vN o,.int s])):∀ {us:List V} {ps:List (Nat × Int)},RiR H us ps->RiR H (us++[.ref e]) (ps++[(o,s)])
 | _,_,.nil=>.cons h .nil
 | _,_,.cons h' r=>.cons h' (r.snoc h)
def seF (g:List Int) (ps:List (Nat × Int)):List Int:=ps.foldl (fun g x=>g.set x.1 x.2) g
theorem xn (ps:List (Nat × Int)):∀ g:List Int,(seF g ps).length=g.length:=by
 induction ps with
 | nil=>intro g; rfl
 | cons x r ih =>
  intro g
  show (seF (g.set x.1 x.2) r).length=_
  rw[ih,Vd]
theorem Hi (g:List Int) (ps:List (Nat × Int)) (x:Nat × Int):seF g (ps++[x])=(seF g ps).set x.1 x.2:=by
 unfold seF
 rw[V8]
 rfl
theorem KD {ps:List (Nat × Int)} {j:Nat}:∀ {g:List Int},(∀ x∈ps,x.1≠j)->(seF g ps).getD j 0=g.getD j 0:=by
 induction ps with
 | nil=>intro g _; rfl
 | cons x r ih =>
  intro g h
  show (seF (g.set x.1 x.2) r).getD j 0=_
  rw[ih fun y hy=>h y (Qm _ hy),Qf,UG (h x Qi),← Qf]
inductive tK (CS:Addr) (vs:List V) (H:Hp) (Q:VK):Prop where
 | mk (st ra:Addr) (n co:Nat) (g:List Int) (go:List Nat) (es:List Ent) (us:List V) (ps:List (Nat × Int)) (z0:vs=[.ref st,.ref ra]) (z1:iK CS n H st g go es co) (z2:g.length=n) (z3:n<=12) (z4:es.length<=40) (z5:H ra=some (.lst us)) (z6:RiR H us ps) (z7:ps≠[]) (z8:ps.length<=12) (z9:(ps.map (·.1)).Nodup) (z10:(∀ x∈ps,x.1 < n/\x.1 ∉ go/\g.getD x.1 0 < x.2/\x.2<=9)) (z11:(∀ x∈ps,(seF g ps).getD x.1 0<=mxD 0 (owL es x.1 (seF g ps)))) (z12:∀ (st':Addr) (H':Hp),aU H H'->iK CS n H' st' (seF g ps) go es co->Q (.ref st') H'):tK CS vs H Q
def yc (CS:Addr):Sp:=fun vs H Q _=>tK CS vs H Q
theorem tX {CS:Addr} {t1:Tok} {k:Nat} (hk:2<=k) (F:Fun K "handed_in" "handed_in" jA f fd) (B:Bt mg) (S:xQ K CS) (c_MOST_STEP:mg "MOST_STEP" = some (.int 9 t1))
  (D_check_there:Df P w K mg base "check_there" 2 ["stand","one"] (m8 CS)) (D_is_number:Df P w K mg base "is_number" 1 ["thing","low","high"] iw) (D_owed_of:Df P w K mg base "owed_of" k ["standing","one","giving"] rN) (D_Stand:Dk2 P w K mg base "Stand" CS 1 ["self","green","gone","standing","coming"] (gq CS)) :
  cI P w K mg base CX0 (k+1) f fd ["stand","rises"] (yc CS):=by
 refine F.ok cQ (fun vs H Q E h=>?_) (fun cdv A outer s H vs Q E hr h=>?_)
 ·obtain⟨st,ra,n,co,g,go,es,us,ps,rfl,_⟩:=h
  rfl
 ·obtain⟨st,ra,n,co,g,go,es,us,ps,rfl,hst,lg,n12,l40,hra,hri,pne,p12,nd,hin,how,q⟩:=h
  refine⟨_,(aq (bA (aH cz (aF (r:=iV K) aX rfl B.len_ bV (aa (pv 1) aj)) au (aL _)) (aA fB) aN)
 (aq (bf (i:=2) cQ.nd rfl (Qw rfl) (bJ (r:=qU K) lL rfl B.list_ nP (aa (bh K rfl (pv 0)) aj)))
 (aq (bf (i:=3) cQ.nd rfl (Qw rfl) (bZ aj))
 (aq (cY QX rfl (dN (pv 1)) (fL (K:=K) 2 rfl rfl (bH (aJ (i:=4) cQ.nd rfl (Qw rfl)) (bH (aJ (i:=5) cQ.nd rfl (Qw rfl)) fO))) (aq (bT (bc D_check_there hr (aa (pv 0) (aa (pv 4) aj))))
 (aq (bA (PW.pt (lR (aH (r:=rIn K false) iG (pv 4) (pv 3) rfl) (gY (dY (cZ (bc D_is_number hr (aa (pv 5) (aa (aV bI (aQ (r:=dX K) aZ (pv 2) (pv 4) (fun _ _=>rfl)) au) (aa (mO c_MOST_STEP) aj))))))))) (aA fB) aN)
 (aq (Bd (pv 5) (HW (pv 2) (pv 4) set_list))
 (aA (bT (qJ RN RD RC cM (pv 3) (aa (pv 4) aj))))))))
 (aq (bf (i:=6) cQ.nd rfl (Qw rfl) (bJ (r:=fD K) bL rfl B.tuple_ bQ (aa (pv 2) aj)))
 (aq (cY QX rfl (dN (pv 3)) (aJ (i:=4) cQ.nd rfl (Qw rfl)) (aA (bA (aH rm (aQ (r:=cW K) aY (pv 6) (pv 4) (fun _ _=>rfl)) (bc D_owed_of hr (aa (bh K rfl (pv 0)) (aa (pv 4) (aa (pv 6) aj)))) (aL _)) (aA fB) aN)))
 (aA (aG (Cq D_Stand hr (aa (pv 6) (aa (bh K rfl (pv 0)) (aa (bh K rfl (pv 0)) (aa (bh K rfl (pv 0)) aj))))))))))))),?_⟩
  obtain⟨dx,ga,goa,sa,es0,hs,hga,hgoa,hsa,hes⟩:=id hst
  have lus:=hri.length
  have p0:0 < ps.length:=List.length_pos_iff.mpr pne
  refine aR (fun σ H1=>σ=[some (.ref st),some (.ref ra),none,none,none,none,none]/\H1=H) ?q0 ?t0
  case t0 =>
   intro N Rc
   refine⟨_,rfl,ra,_,rfl,.inl (SqL.of hra),rfl,_,rfl,?_⟩
   rw[show decide (V.int ((us.length:Nat):Int)=V.int 0)=false from decide_eq_false fun y=>by injection y with y; lia]
   exact cV (Rc _ _ ⟨rfl,rfl⟩)
  case q0 =>
  rintro σ H1 ⟨rfl,rfl⟩
  refine aR (fun σ F1=>∃ a1:Addr,σ=[some (.ref st),some (.ref ra),some (.ref a1),none,none,none,none]/\aU H1 F1/\F1 a1=some (.lst (g.map V.int))/\H1 a1=none) ?qs ?ts
  case ts =>
   intro N Rc
   exact⟨_,rfl,st,CS,dx,_,_,rfl,hs,S.cl,S.green,rfl,ga,_,rfl,.inr (SqT.of hga),fun a1 h1=>Rc _ _ ⟨a1,rfl,aB h1 _,ao,h1⟩⟩
  case qs =>
  rintro σ F1 ⟨a1,rfl,gf1,ef1,h1⟩
  refine aR (fun σ F2=>∃ a2:Addr,σ=[some (.ref st),some (.ref ra),some (.ref a1),some (.ref a2),none,none,none]/\aU F1 F2/\F2 a2=some (.lst [])/\F1 a2=none) ?qt ?tt
  case tt =>
   intro N Rc
   exact⟨small (by show 0<=1000; decide),fun a2 h2=>Rc _ _ ⟨a2,rfl,aB h2 _,ao,h2⟩⟩
  case qt =>
  rintro σ F2 ⟨a2,rfl,gf2,ef2,h2⟩
  have n12':a1≠a2:=fun z=>by rw[z,h2] at ef1; cases ef1
  have ef1':=gf2 _ _ ef1
  have h2':H1 a2=none:=by
   cases z:H1 a2 with
   | none=>rfl
   | some o=>have:=gf1 _ _ z; rw[h2] at this; cases this
  refine aR (fun σ H3=>∃ (u v:Option V),σ=[some (.ref st),some (.ref ra),some (.ref a1),some (.ref a2),u,v,none]/\aU H1 H3/\H3 a1=some (.lst ((seF g ps).map V.int))/\H3 a2=some (.lst ((ps.map (·.1)).map vN))) ?q1 ?t1
  case t1 =>
   intro N Rc
   refine⟨_,rfl,ra,rfl,⟨_,SqL.of ((gf1.trans gf2) _ _ hra)⟩,gF (K:=K) (a:=ra) (xs:=us) (fun i σ H3=>∃ (u v:Option V),σ=[some (.ref st),some (.ref ra),some (.ref a1),some (.ref a2),u,v,none]/\aU H1 H3/\H3 a1=some (.lst ((seF g (ps.take i)).map V.int))/\H3 a2=some (.lst (((ps.take i).map (·.1)).map vN)))
    ⟨_,_,rfl,gf1.trans gf2,ef1',ef2⟩ (fun i σ H3 _ h=>by obtain⟨_,_,_,z,_⟩:=h; exact SqL.of (z _ _ hra)) ?_ ?_⟩
   ·rintro i x σ H3 hx ⟨u,v,rfl,sm,e1,e2⟩
    obtain⟨e,o,sp,rfl,hp,hent⟩:=hri.get hx
    have hm:(o,sp)∈ps:=QC hp
    obtain⟨ho,hgo,hlt,h9⟩:=hin _ hm
    have ip:=(List.getElem?_eq_some_iff.mp hp).1
    have nx:ps.take (i+1)=ps.take i++[(o,sp)]:=by rw[QR,hp]; rfl
    have nin:o ∉ (ps.take i).map (·.1):=fun hmm=>by
     have e:ps.map (·.1)=(ps.take i).map (·.1)++(ps.drop i).map (·.1):=by rw[← Qj,Wz]
     rw[e,V7] at nd
     refine nd.2.2 _ hmm o ?_ rfl
     have e9:ps[i]=(o,sp):=QZ ((Qg ip).symm.trans hp)
     rw[Tu ip,RZ,e9]
     exact Qi
    have hol:o < (seF g (ps.take i)).length:=by rw[xn]; lia
    have ge:(seF g (ps.take i)).getD o 0=g.getD o 0:=KD fun x hx' z=>nin (by rw[← z]; exact Xd hx')
    have gei:(seF g (ps.take i)).getD o 0=(seF g (ps.take i))[o]:=by rw[Qf,Qg hol]; rfl
    have hh:(seF g (ps.take i))[o]+1<=sp:=by
     rw[← gei,ge]
     exact hlt
    have h9':sp<=9:=h9
    refine⟨e,_,rfl,SqT.of (sm _ _ hent),rfl,_,_,rfl,_,_,rfl,rfl,?_⟩
    refine aR (fun σ H4=>σ=[some (.ref st),some (.ref ra),some (.ref a1),some (.ref a2),some (vN o),some (.int sp),none]/\H4=H3) ?qc ?tc
    case tc =>
     intro N' Rc'
     exact⟨_,rfl,_,rfl,st,o,n,co,g,go,es,rfl,hst.ks (ksS sm),by lia,hgo,Rc' _ _ ⟨rfl,rfl⟩⟩
    case qc =>
    rintro σ H4 ⟨rfl,rfl⟩
    refine aR (fun σ H5=>σ=[some (.ref st),some (.ref ra),some (.ref a1),some (.ref a2),some (vN o),some (.int sp),none]/\H5=H4) ?qa ?ta
    case ta =>
     intro N' Rc'
     refine⟨_,rfl,_,rfl,a2,_,rfl,.inl (SqL.of e2),rfl,oA _,_,rfl,?_⟩
     rw[show vN o=V.int (o:Int) from rfl,mZ,decide_eq_false nin]
     refine cV ?_
     refine⟨_,rfl,_,rfl,_,rfl,a1,_,_,_,rfl,rfl,SqL.of e1,gW hol,_,_,rfl,rfl,.int sp,_,9,rfl,.int _,_,rfl,?_⟩
     rw[show isNum (.int sp) ((seF g (ps.take i))[o]+1) 9=true by
      show (decide ((seF g (ps.take i))[o]+1<=sp) && decide (sp<=9))=true
      rw[decide_eq_true hh,decide_eq_true h9']
      rfl]
     exact cV (Rc' _ _ ⟨rfl,rfl⟩)
    case qa =>
    rintro σ H5 ⟨rfl,rfl⟩
    refine⟨_,rfl,_,rfl,_,rfl,a1,_,_,o,rfl,rfl,e1,?_,?_⟩
    ·unfold ixN
     rw[if_pos (by lia),if_pos (by rw[Qc]; lia)]
     rfl
    ·generalize eU:upd _ a1 _=H6
     have e16:H6 a1=some (.lst ((seF g (ps.take (i+1))).map V.int)):=by
      rw[← eU,ao,nx,Hi,List.map_set]
     have e26:H6 a2=some (.lst (((ps.take i).map (·.1)).map vN)):=by
      rw[← eU,bx n12'.symm]
      exact e2
     have s6:aU H1 H6:=by
      rw[← eU]
      exact aW sm h1 _
     refine⟨_,rfl,.inl ⟨rfl,_,SqL.of e26⟩,_,rfl,a2,_,_,rfl,rfl,e26,aM (by rw[Qc,Qc,Qv]; lia),_,_,rfl,aW s6 h2' _,?_,?_⟩
     ·rw[bx n12']
      exact e16
     ·rw[ao,nx,Qj,Qj]
      rfl
   ·rintro σ H3 ⟨u,v,rfl,sm,e1,e2⟩
    rw[lus,Qq] at e1 e2
    exact Rc _ _ ⟨u,v,rfl,sm,e1,e2⟩
  case q1 =>
  rintro σ H3 ⟨u,v,rfl,sm,e1,e2⟩
  refine aR (fun σ H4=>∃ gr:Addr,σ=[some (.ref st),some (.ref ra),some (.ref a1),some (.ref a2),u,v,some (.ref gr)]/\aU H3 H4/\H4 gr=some (.tup ((seF g ps).map V.int))) ?q2 ?t2
  case t2 =>
   intro N Rc
   refine⟨_,rfl,a1,_,rfl,.inl ⟨SqL.of e1,fun l hl=>Rc _ _ ⟨l,rfl,aB hl _,?_⟩⟩⟩
   rw[ao]
  case q2 =>
  rintro σ H4 ⟨gr,rfl,s4,egr⟩
  have sm4:=sm.trans s4
  have sl:(seF g ps).length=n:=by rw[xn]; exact lg
  refine aR (fun σ H5=>∃ u:Option V,σ=[some (.ref st),some (.ref ra),some (.ref a1),some (.ref a2),u,v,some (.ref gr)]/\aU H4 H5) ?q3 ?t3
  case t3 =>
   intro N Rc
   refine⟨_,rfl,a2,rfl,⟨_,SqL.of (s4 _ _ e2)⟩,gF (K:=K) (a:=a2) (xs:=(ps.map (·.1)).map vN) (fun i σ H5=>∃ u:Option V,σ=[some (.ref st),some (.ref ra),some (.ref a1),some (.ref a2),u,v,some (.ref gr)]/\aU H4 H5)
    ⟨_,rfl,aU.refl _⟩ (fun i σ H5 _ h=>by obtain⟨_,_,z⟩:=h; exact SqL.of (z _ _ (s4 _ _ e2))) ?_ ?_⟩
   ·rintro i x σ H5 hx ⟨u,rfl,s5⟩
    obtain⟨o,ho,rfl⟩:∃ o:Nat,o∈ps.map (·.1)/\x=vN o:=by
     obtain⟨o,h1,h2⟩:=List.mem_map.mp (QC hx)
     exact⟨o,h1,h2.symm⟩
    obtain⟨y,hy,rfl⟩:=List.mem_map.mp ho
    have hol:y.1 < (seF g ps).length:=by rw[sl]; exact (hin _ hy).1
    have gei:(seF g ps).getD y.1 0=(seF g ps)[y.1]:=by rw[Qf,Qg hol]; rfl
    have sm5:=sm4.trans s5
    have hw:=how _ hy
    rw[gei] at hw
    refine⟨_,rfl,_,rfl,gr,_,_,_,rfl,rfl,SqT.of (s5 _ _ egr),gW hol,?_⟩
    refine⟨_,rfl,st,CS,dx,_,_,rfl,sm5 _ _ hs,S.cl,S.standing,rfl,_,rfl,_,rfl,sa,gr,y.1,n,es0,es,_,rfl,sm5 _ _ hsa,hes.bu fun a xs q=>sm5 a _ q,by lia,s5 _ _ egr,sl,fun H6 s6=>?_⟩
    refine⟨_,_,rfl,rfl,_,rfl,?_⟩
    rw[decide_eq_false (show ¬ (mxD 0 (owL es y.1 (seF g ps)) < (seF g ps)[y.1]) by lia)]
    exact cV ⟨_,rfl,s5.trans s6⟩
   ·rintro σ H5 ⟨u,rfl,s5⟩
    exact Rc _ _ ⟨u,rfl,s5⟩
  case q3 =>
  rintro σ H5 ⟨u,rfl,s5⟩
  have sm5:=sm4.trans s5
  have hs5:=sm5 _ _ hs
  refine⟨_,rfl,_,rfl,st,CS,dx,_,_,rfl,hs5,S.cl,S.gone,rfl,_,rfl,st,CS,dx,_,_,rfl,hs5,S.cl,S.standing,rfl,_,rfl,st,CS,dx,_,_,rfl,hs5,S.cl,S.coming,rfl,fun x dx3 hx hdx hne=>?_⟩
  refine mQ hx hdx hne fun H6 s6 e6=>⟨rfl,?_⟩
  have s16:=sm5.trans s6
  exact q x H6 s16 ⟨dx3,gr,goa,sa,es0,e6,s6 _ _ (s5 _ _ egr),s16 _ _ hgoa,s16 _ _ hsa,hes.bu fun a xs q=>s16 a _ q⟩
inductive Bg (CS CB:Addr) (vs:List V) (H:Hp) (Q:VK):Prop where
 | mk (b be ra:Addr) (n d co:Nat) (g:List Int) (go:List Nat) (es:List Ent) (us:List V) (ps:List (Nat × Int)) (z0:vs=[.ref b,.ref ra]) (z1:bM CS CB n H b be d g go es co) (z2:g.length=n) (z3:n<=12) (z4:es.length<=40) (z5:d<=900) (z6:H ra=some (.lst us)) (z7:RiR H us ps) (z8:ps≠[]) (z9:ps.length<=12) (z10:(ps.map (·.1)).Nodup) (z11:(∀ x∈ps,x.1 < n/\x.1 ∉ go/\g.getD x.1 0 < x.2/\x.2<=9)) (z12:(∀ x∈ps,(seF g ps).getD x.1 0<=mxD 0 (owL es x.1 (seF g ps)))) (z13:∀ H',But b be H H'->bM CS CB n H' b be (d+1) (seF g ps) go es co->Q .non H'):Bg CS CB vs H Q
def Iz (CS CB:Addr):Sp:=fun vs H Q _=>Bg CS CB vs H Q
theorem uH {CS CB:Addr} {k:Nat} (hk:1<=k) (ne:CB≠CS) (F:Fun K "hand" "Boon.hand" jJ f fd) (B:Bt mg) (T:zK K CB)
  (D_handed_in:Df P w K mg base "handed_in" k ["stand","rises"] (yc CS)) (D_Boon_go_on:Dm2 P w K mg base CB "go_on" 1 ["self","stand"] (uv CB)) :
  cI P w K mg base CX0 (k+1) f fd ["self","rises"] (Iz CS CB):=by
 refine F.ok tQ (fun vs H Q E h=>?_) (fun cdv A outer s H vs Q E hr h=>?_)
 ·obtain⟨b,be,ra,n,d,co,g,go,es,us,ps,rfl,_⟩:=h
  rfl
 ·obtain⟨b,be,ra,n,d,co,g,go,es,us,ps,rfl,⟨dx,nw,ah,xs,hb,hbe,lx,hst⟩,lg,n12,l40,d9,hra,hri,pne,p12,nd,hin,how,q⟩:=h
  refine⟨_,(aA (bT (tM D_Boon_go_on hr (pv 0) (aa (bc D_handed_in hr (aa (bh K rfl (pv 0)) (aa (pv 1) aj))) aj)))),?_⟩
  refine⟨_,rfl,b,dx,_,rfl,hb,rfl,?_⟩
  refine⟨_,rfl,b,CB,dx,_,_,rfl,hb,T.cl,T.now,rfl,_,rfl,nw,ra,n,co,g,go,es,us,ps,rfl,hst,lg,n12,l40,hra,hri,pne,p12,nd,hin,how,fun st' H1 s1 hst1=>?_⟩
  refine⟨b,be,st',dx,nw,ah,xs,rfl,s1 _ _ hb,s1 _ _ hbe,by lia,fun ah' H5 e5 e5' bt=>?_⟩
  exact q H5 ((Ky s1).trans bt) ⟨dx,st',ah',_,e5,e5',by rw[Qx,lx]; rfl,hst1.ks (bt.ks ne (s1 _ _ hb) (s1 _ _ hbe))⟩
theorem K5 {es:List Ent} (ok:∀ e∈es,okP e.2.2) (one:Nat) (g:List Int):mxD 0 (owL es one g)=duF g 0 (cP es one):=by
 have e:owL es one g=(cP es one).map (owF g):=by
  unfold owL cP
  rw[Wr]
  rfl
 unfold duF
 rw[← e]
 have all:∀ x∈owL es one g,0<=x:=fun x hx=>by
  obtain⟨e,he,rfl⟩:=List.mem_map.mp hx
  exact zU fun y hy=>by have:=((ok e (List.mem_filter.mp he).1).2.2.2 y hy).1; lia
 cases h:owL es one g with
 | nil=>rfl
 | cons a r =>
  have:=all a (by rw[h]; exact Qi)
  show r.foldl max a=r.foldl max (max 0 a)
  rw[show max 0 a=a by lia]
theorem iT {n i:Nat} (es:List Ent) (h:i < n):(dC n es).getD i []=cP es i:=by
 unfold dC
 rw[Qf,QH,T4 h]
 rfl
abbrev kh:Stmt:=top 75
theorem gP:aO ["_law_boon_here","_law_book_here","_law_lies","_law_low","_law_high"] ["_law_boon_here","_law_book_here"] (aD kh):=⟨rfl,rfl,rfl,by decide+kernel,rfl,by decide+kernel,by decide+kernel⟩
inductive yh (CS CB:Addr) (vs:List V) (H:Hp) (Q:VK):Prop where
 | mk (b be ba:Addr) (n d co:Nat) (g:List Int) (go:List Nat) (es:List Ent) (z0:vs=[.ref b,.ref ba]) (z1:bM CS CB n H b be d g go es co) (z2:okG n g) (z3:n<=12) (z4:es.length<=40) (z5:ym n H ba (dC n es)) (z6:∀ H',aU H H'->Q (.bl true) H'):yh CS CB vs H Q
def Dg (CS CB:Addr):Sp:=fun vs H Q _=>yh CS CB vs H Q
theorem vZ {CS CB:Addr} {k j i:Nat} (h1:1<=k) (h3:3<=k) (hj:j<=k) (hi:i<=k) (F:Fun K "_law_ends" "_law_ends" kh f fd) (B:Bt mg)
  (D_green:Df P w K mg base "green" 1 ["boon"] (jB CS CB)) (D_law_step_by_step:Df P w K mg base "_law_step_by_step" j ["_law_book_here","_law_floor","_law_giving"] Bx) (D_law_roof:Df P w K mg base "_law_roof" 1 ["_law_book_here","_law_floor"] (yd K)) (D_law_same:Df P w K mg base "_law_same" 3 ["_law_found","_law_due"] (pP 3))
  (D_sure:Df P w K mg base "sure" i ["boon"] (Bw CS CB)) (D_hoped:Df P w K mg base "hoped" i ["boon"] (wH CS CB)) :
  cI P w K mg base CX0 (k+1) f fd ["_law_boon_here","_law_book_here"] (Dg CS CB):=by
 refine F.ok gP (fun vs H Q E h=>?_) (fun cdv A outer s H vs Q E hr h=>?_)
 ·obtain⟨b,be,ba,n,d,co,g,go,es,rfl,_⟩:=h
  rfl
 ·obtain⟨b,be,ba,n,d,co,g,go,es,rfl,hB,og,n12,l40,hBk,q⟩:=h
  refine⟨_,(aq (bf (i:=2) gP.nd rfl (Qw rfl) (bc D_green hr (aa (pv 0) aj)))
 (aq (bf (i:=3) gP.nd rfl (Qw rfl) (bc D_law_step_by_step hr (aa (pv 1) (aa (pv 2) (aa (pv 2) aj)))))
 (aq (bf (i:=4) gP.nd rfl (Qw rfl) (bc D_law_step_by_step hr (aa (pv 1) (aa (pv 2) (aa (bc D_law_roof hr (aa (pv 1) (aa (pv 2) aj))) aj)))))
 (aA (aG (bc D_law_same hr (aa (bZ (aa (bc D_sure hr (aa (pv 0) aj)) (aa (bc D_hoped hr (aa (pv 0) aj)) aj))) (aa (bZ (aa (pv 3) (aa (pv 4) aj))) aj)))))))),?_⟩
  have okb:=hBk.okB
  have lb:=cj n es
  refine aR (fun σ H1=>∃ ga:Addr,σ=[some (.ref b),some (.ref ba),some (.ref ga),none,none]/\H1=H/\H ga=some (.tup (g.map V.int))) ?q1 ?t1
  case t1 =>
   intro N Rc
   exact⟨_,rfl,b,be,n,d,co,g,go,es,rfl,hB,fun ga hga=>Rc _ _ ⟨ga,rfl,rfl,hga⟩⟩
  case q1 =>
  rintro σ H1 ⟨ga,rfl,rfl,hga⟩
  refine aR (fun σ H2=>∃ (lo:Addr) (zl:List Int),σ=[some (.ref b),some (.ref ba),some (.ref ga),some (.ref lo),none]/\aU H1 H2/\H2 lo=some (.tup (zl.map V.int))/\Low n g (dC n es) zl) ?q2 ?t2
  case t2 =>
   intro N Rc
   refine⟨_,rfl,_,rfl,_,rfl,ba,ga,ga,n,_,g,g,true,rfl,hBk,lb,hga,og,hga,og,?_,fun r z H2 s2 e2 lim=>Rc _ _ ⟨r,z,rfl,s2,e2,Ae lb okb og lim⟩⟩
   unfold Dir
   rw[if_pos rfl]
   exact iz lb okb og g
  case q2 =>
  rintro σ H2 ⟨lo,zl,rfl,s2,elo,low⟩
  refine aR (fun σ H3=>∃ (hi:Addr) (zh:List Int),σ=[some (.ref b),some (.ref ba),some (.ref ga),some (.ref lo),some (.ref hi)]/\aU H2 H3/\H3 hi=some (.tup (zh.map V.int))/\Jt n g (dC n es) zh) ?q3 ?t3
  case t3 =>
   intro N Rc
   refine⟨_,rfl,_,rfl,_,rfl,_,rfl,ba,ga,n,_,g,rfl,hBk.mono s2,SqT.of (s2 _ _ hga),by rw[og.1,lb],fun rr H4 s4 err=>?_⟩
   have s24:=s2.trans s4
   exact⟨ba,ga,rr,n,_,g,rfF g (dC n es),false,rfl,hBk.mono s24,lb,s24 _ _ hga,og,err,jN lb okb og,mY lb okb og _,fun r z H5 s5 er lim=>Rc _ _ ⟨r,z,rfl,s4.trans s5,er,wA lb okb og lim⟩⟩
  case q3 =>
  rintro σ H3 ⟨hi,zh,rfl,s3,ehi,high⟩
  have s13:=s2.trans s3
  refine⟨_,rfl,b,be,n,d,co,g,go,es,rfl,hB.same s13,og,n12,l40,fun a1 l1 H4 s4 low' e4=>?_⟩
  refine⟨_,rfl,b,be,n,d,co,g,go,es,rfl,(hB.same s13).same s4,og,n12,l40,fun a2 l2 H5 s5 high' e5=>?_⟩
  have el:=low'.uniq low
  have eh:=high'.uniq high
  subst el
  subst eh
  refine⟨small (by show 2<=1000; decide),fun f1 hf1=>?_⟩
  generalize eF1:upd H5 f1 _=F1
  obtain⟨gf1,ef1⟩:=aP eF1 hf1
  refine⟨_,rfl,_,rfl,small (by show 2<=1000; decide),fun f2 hf2=>?_⟩
  generalize eF2:upd F1 f2 _=F2
  obtain⟨gf2,ef2⟩:=aP eF2 hf2
  dsimp only [Fo]
  have ll:l1.length<=1000:=by rw[low.1.1]; lia
  have lh:l2.length<=1000:=by rw[high.1.1]; lia
  have s35:=s4.trans (s5.trans (gf1.trans gf2))
  refine⟨.ref f1,.ref f2,.lst [gD l1,gD l2],rfl,.lst (gf2 _ _ ef1) (by show 2<=100000; decide) (.cons (mU (gf2 _ _ (gf1 _ _ (s5 _ _ e4))) ll) (.cons (mU (gf2 _ _ (gf1 _ _ e5)) lh) .nil)),.lst ef2 (by show 2<=100000; decide) (.cons (mU (s35 _ _ (s3 _ _ elo)) ll) (.cons (mU (s35 _ _ ehi) lh) .nil)),?_,fun H6 s6=>q H6 (s13.trans (s35.trans s6))⟩
  rw[Dm.dep,vC,vC,vC,show (gD l1).dep=1 from CJ _,show (gD l2).dep=1 from CJ _]
  decide
def riF (g x:List Int) (L:List Nat):List (Nat × Int):=(L.filter fun j=>decide (g.getD j 0 < x.getD j 0)).map fun j=>(j,x.getD j 0)
theorem Hc (g x:List Int) (L:List Nat) (j:Nat):riF g x (L++[j])=riF g x L++if g.getD j 0 < x.getD j 0 then [(j,x.getD j 0)] else []:=by
 unfold riF
 rw[Tp,Qj]
 congr 1
 by_cases h:g.getD j 0 < x.getD j 0
 ·rw[if_pos h,Ua (by exact decide_eq_true h)]
  rfl
 ·rw[if_neg h,Ub (by rw[decide_eq_false h]; exact Qk)]
  rfl
theorem Jv (g x:List Int) (L:List Nat):(riF g x L).map (·.1)=L.filter fun j=>decide (g.getD j 0 < x.getD j 0):=by
 unfold riF
 rw[Wr]
 exact List.map_id _
theorem CT {x:List Int} {j:Nat}:∀ {ps:List (Nat × Int)} {g:List Int},(∀ y∈ps,y.2=x.getD y.1 0/\y.1 < g.length)->(seF g ps).getD j 0=if j∈ps.map (·.1) then x.getD j 0 else g.getD j 0
 | [],_,_=>by rw[if_neg (by simp)]; rfl
 | y::r,g,h=>by
  obtain⟨h1,h2⟩:=h y Qi
  show (seF (g.set y.1 y.2) r).getD j 0=_
  rw[CT (ps:=r) (g:=g.set y.1 y.2) fun z hz=>⟨(h z (Qm _ hz)).1,by rw[Vd]; exact (h z (Qm _ hz)).2⟩,RZ]
  by_cases a:j∈r.map (·.1)
  ·rw[if_pos a,if_pos (Qm _ a)]
  ·rw[if_neg a]
   by_cases b:y.1=j
   ·subst b
    rw[if_pos Qi,Qf,Vl h2,← h1]
    rfl
   ·rw[if_neg (fun z=>by rcases List.mem_cons.mp z with z | z; exact b z.symm; exact a z),Qf,UG b,← Qf]
theorem GZ {a b:List Int} (l:a.length=b.length) (h:∀ j,a.getD j 0=b.getD j 0):a=b :=
 jb l (fun j=>by rw[h j]; exact RB _) (fun j=>by rw[h j]; exact RB _)
abbrev fJ:Stmt:=top 76
theorem eO:aO ["_law_boon_here","_law_giving","_law_lies","_law_rises"] ["_law_boon_here","_law_giving"] (aD fJ):=⟨rfl,rfl,rfl,by decide+kernel,rfl,by decide+kernel,by decide+kernel⟩
inductive pX (CS CB:Addr) (vs:List V) (H:Hp) (Q:VK):Prop where
 | mk (b be wa:Addr) (n d co:Nat) (g x:List Int) (go:List Nat) (es:List Ent) (z0:vs=[.ref b,.ref wa]) (z1:bM CS CB n H b be d g go es co) (z2:H wa=some (.tup (x.map V.int))) (z3:okG n g) (z4:okG n x) (z5:n<=12) (z6:es.length<=40) (z7:d<=900) (z8:LeG g x) (z9:(∀ j,j < n->j∈go->x.getD j 0=g.getD j 0)) (z10:(∀ j,j < n->g.getD j 0 < x.getD j 0->x.getD j 0<=duF x 0 (cP es j))) (z11:∀ (H':Hp) (d':Nat),But b be H H'->d'<=d+1->bM CS CB n H' b be d' x go es co->Q .non H'):pX CS CB vs H Q
def tO (CS CB:Addr):Sp:=fun vs H Q _=>pX CS CB vs H Q
theorem oZ {CS CB:Addr} {k:Nat} (hk:2<=k) (F:Fun K "_law_hand_all" "_law_hand_all" fJ f fd) (B:Bt mg)
  (D_green:Df P w K mg base "green" 1 ["boon"] (jB CS CB)) (D_there:Df P w K mg base "there" 2 ["boon"] (rR CS CB)) (D_Boon_hand:Dm2 P w K mg base CB "hand" k ["self","rises"] (Iz CS CB)) :
  cI P w K mg base CX0 (k+1) f fd ["_law_boon_here","_law_giving"] (tO CS CB):=by
 refine F.ok eO (fun vs H Q E h=>?_) (fun cdv A outer s H vs Q E hr h=>?_)
 ·obtain⟨b,be,wa,n,d,co,g,x,go,es,rfl,_⟩:=h
  rfl
 ·obtain⟨b,be,wa,n,d,co,g,x,go,es,rfl,hB,hwa,og,ox,n12,l40,d9,le,hgo,how,q⟩:=h
  refine⟨_,(aq (bf (i:=2) eO.nd rfl (Wm rfl) (bc D_green hr (aa (pv 0) aj)))
 (aq (wk (L:=["_law_one"]) (F:=["_law_giving","_law_lies"]) (cap:=[1,2]) (j:=3) eO.nd rfl (Qw rfl) rfl (bD rfl rfl (by kernel_rfl)) (dN (bc D_there hr (aa (pv 0) aj))) (fun _ _ _ _ _=>(aJ (i:=0) (bw (by decide+kernel)) rfl (Qw rfl))) (fun _ _ _ _ _=>(lA (aH rm (aQ (r:=cW K) aY (pv 1) (pv 0) (fun _ _=>rfl)) (aQ (r:=cW K) aY (pv 2) (pv 0) (fun _ _=>rfl)) (aL _)))) (fun _ _ _ _ _=>(cA (aa (pv 0) (aa (aQ (r:=cW K) aY (pv 1) (pv 0) (fun _ _=>rfl)) aj)))))
 (aA (bA (aH (r:=Oz K) (M7 hr.uU) (pv 3) (bZ aj) (aL _)) (aA (bT (tM D_Boon_hand hr (pv 0) (aa (pv 3) aj)))) aN)))),?_⟩
  have lg:=og.1
  have lx:=ox.1
  refine aR (fun σ H1=>∃ ga:Addr,σ=[some (.ref b),some (.ref wa),some (.ref ga),none]/\H1=H/\H ga=some (.tup (g.map V.int))) ?q1 ?t1
  case t1 =>
   intro N Rc
   exact⟨_,rfl,b,be,n,d,co,g,go,es,rfl,hB,fun ga hga=>Rc _ _ ⟨ga,rfl,rfl,hga⟩⟩
  case q1 =>
  rintro σ H1 ⟨ga,rfl,rfl,hga⟩
  refine aR (fun σ H2=>∃ (ra:Addr) (us:List V),σ=[some (.ref b),some (.ref wa),some (.ref ga),some (.ref ra)]/\aU H1 H2/\H2 ra=some (.lst us)/\RiR H2 us (riF g x (thF n go))) ?q2 ?t2
  case t2 =>
   intro N Rc
   refine⟨_,rfl,b,be,n,d,co,g,go,es,rfl,hB,by lia,fun a H2 s2 fr e2=>?_⟩
   rw[lg] at e2
   have lt:=qI n go
   refine⟨a,rfl,⟨_,SqL.of e2⟩,fun D hD=>eN (K:=K) (a:=a) (xs:=(thF n go).map vN) (fun i zs σ' H3=>(∃ u,σ'=[u,some (.ref wa),some (.ref ga)])/\aU H2 H3/\H3 D=some (.lst zs)/\RiR H3 zs (riF g x ((thF n go).take i)))
    ⟨⟨_,rfl⟩,aB hD _,ao,.nil⟩ (fun i zs σ' H3 _ h=>⟨SqL.of (h.2.1 _ _ e2),h.2.2.1⟩) ?_ ?_⟩
   ·rintro i zs y σ' H3 hy ⟨⟨u,rfl⟩,sm,eD,ri⟩
    obtain⟨o,ho,rfl⟩:∃ o:Nat,(thF n go)[i]? = some o/\y=vN o:=by
     rw[QH] at hy
     cases z:(thF n go)[i]? with
     | none=>rw[z] at hy; cases hy
     | some o=>rw[z] at hy; cases hy; exact⟨o,rfl,rfl⟩
    have hn:=(kO (QC ho)).1
    have nx:riF g x ((thF n go).take (i+1))=riF g x ((thF n go).take i)++if g.getD o 0 < x.getD o 0 then [(o,x.getD o 0)] else []:=by
     rw[QR,ho]
     exact Hc g x _ o
    have ho1:o < g.length:=by lia
    have ho2:o < x.length:=by lia
    have g1:g.getD o 0=g[o]:=by rw[Qf,Qg ho1]; rfl
    have g2:x.getD o 0=x[o]:=by rw[Qf,Qg ho2]; rfl
    have s13:=s2.trans sm
    have lz:zs.length<=100:=by
     rw[ri.length]
     unfold riF
     rw[Qc]
     refine QL (RK _ _) ?_
     rw[Qv]
     lia
    refine⟨_,rfl,_,rfl,wa,_,_,_,rfl,rfl,SqT.of (s13 _ _ hwa),gW ho2,_,rfl,_,rfl,ga,_,_,_,rfl,rfl,SqT.of (s13 _ _ hga),gW ho1,_,_,rfl,rfl,_,rfl,?_⟩
    rw[g1,g2] at nx
    by_cases z:g[o] < x[o]
    ·rw[decide_eq_true z]
     refine gm ⟨_,rfl,_,rfl,_,rfl,wa,_,_,_,rfl,rfl,SqT.of (s13 _ _ hwa),gW ho2,small (by show 2<=1000; decide),fun e he=>?_⟩
     generalize eF1:upd H3 e _=F1
     obtain⟨gf1,ef1⟩:=aP eF1 he
     have eD':=gf1 _ _ eD
     have tk:=cG (zs':=zs++[.ref e]) eD'
     refine⟨eD',aM (by lia),⟨_,rfl⟩,aW (sm.trans gf1) hD _,ao,?_⟩
     rw[nx,if_pos z]
     exact RiR.snoc (tk _ _ ef1) (ri.bu fun a xs q=>tk a xs (gf1 a _ q))
    ·rw[decide_eq_false z]
     refine cV ⟨⟨_,rfl⟩,sm,eD,?_⟩
     rw[nx,if_neg z,RL]
     exact ri
   ·rintro zs σ' H3 ⟨_,sm,eD,ri⟩
    rw[Qc,Qq] at ri
    exact Rc _ _ ⟨D,zs,rfl,s2.trans sm,eD,ri⟩
  case q2 =>
  rintro σ H2 ⟨ra,us,rfl,s2,era,ri⟩
  have lri:=ri.length
  have fst:=Jv g x (thF n go)
  have mem:∀ y∈riF g x (thF n go),y.2=x.getD y.1 0/\y.1 < n/\y.1 ∉ go/\g.getD y.1 0 < x.getD y.1 0:=fun y hy=>by
   obtain⟨j,hj,rfl⟩:=List.mem_map.mp hy
   obtain⟨h1,h2⟩:=List.mem_filter.mp hj
   exact⟨rfl,(kO h1).1,(kO h1).2,of_decide_eq_true h2⟩
  have ex:seF g (riF g x (thF n go))=x:=GZ (by rw[xn,lg,lx]) fun j=>by
   rw[CT fun y hy=>⟨(mem y hy).1,by rw[lg]; exact (mem y hy).2.1⟩,fst]
   by_cases z:j∈(thF n go).filter fun j=>decide (g.getD j 0 < x.getD j 0)
   ·rw[if_pos z]
   ·rw[if_neg z]
    by_cases hn:j < n
    ·by_cases hg:j∈go
     ·exact (hgo j hn hg).symm
     ·have h1:j∈thF n go:=List.mem_filter.mpr ⟨List.mem_range.mpr hn,decide_eq_true hg⟩
      have h2:¬ g.getD j 0 < x.getD j 0:=fun y=>z (List.mem_filter.mpr ⟨h1,decide_eq_true y⟩)
      have:=le j
      lia
    ·rw[xT (by lia),xT (by lia)]
  refine⟨_,rfl,small (by show 0<=1000; decide),fun f1 hf1=>?_⟩
  generalize eF1:upd H2 f1 _=F1
  obtain⟨gf1,ef1⟩:=aP eF1 hf1
  have s3:=s2.trans gf1
  have hB3:=hB.same s3
  refine⟨ra,f1,us,rfl,rfl,SqL.of (gf1 _ _ era),SqL.of ef1,_,rfl,?_⟩
  by_cases z:riF g x (thF n go)=[]
  ·rw[z] at ri ex
   cases ri
   have e:g=x:=ex
   subst e
   exact cV (q _ d (Ky s3) (by lia) hB3)
  ·obtain⟨dx,nw,ah,xs,hb,hbe,lxs,hst⟩:=id hB3
   obtain⟨_,_,_,_,_,_,_,_,_,hes⟩:=id hst
   have okE:=hes.ok
   have ue:us.isEmpty=false:=by
    cases us with
    | nil=>exact absurd (Vz lri.symm) z
    | cons a r=>rfl
   rw[ue]
   have lt:=qI n go
   have lr:(riF g x (thF n go)).length<=12:=by
    unfold riF
    rw[Qc]
    exact QL (RK _ _) (by lia)
   refine gm ⟨_,rfl,b,dx,_,rfl,hb,rfl,_,rfl,b,be,ra,n,d,co,g,go,es,us,_,rfl,hB3,lg,n12,l40,d9,gf1 _ _ era,ri.bu (fun a xs q=>gf1 a _ q),z,lr,?_,fun y hy=>?_,fun y hy=>?_,fun H4 bt hB4=>?_⟩
   ·rw[fst]
    exact ((List.nodup_range (n:=n)).filter _).filter _
   ·obtain⟨m1,m2,m3,m4⟩:=mem y hy
    exact⟨m2,m3,by rw[m1]; exact m4,by rw[m1]; exact (gG ox m2).2⟩
   ·obtain⟨m1,m2,m3,m4⟩:=mem y hy
    rw[ex,K5 okE]
    exact how _ m2 m4
   ·rw[ex] at hB4
    exact q H4 (d+1) ((Ky s3).trans bt) (by lia) hB4
theorem bM.ins {CS CB:Addr} {n:Nat} {H:Hp} {b be:Addr} {d:Nat} {g:List Int} {go:List Nat} {es:List Ent} {co:Nat} (h:bM CS CB n H b be d g go es co):∃ dx nw ah xs,H b=some (.ins CB dx (bnF nw be ah))/\H be=some (.lst xs):=by
 obtain⟨dx,nw,ah,xs,h1,h2,_⟩:=h
 exact⟨dx,nw,ah,xs,h1,h2⟩
theorem bM.lstK {CS CB:Addr} {n:Nat} {H H':Hp} {b be:Addr} {d:Nat} {g:List Int} {go:List Nat} {es:List Ent} {co:Nat} (h:bM CS CB n H b be d g go es co) (x:But b be H H') {a:Addr} {xs:List V} (ha:H a=some (.lst xs)) (hn:a≠be):H' a=some (.lst xs):=by
 obtain⟨dx,nw,ah,ys,h1,_⟩:=h.ins
 exact x _ _ (fun z=>by rw[z,h1] at ha; cases ha) hn ha
theorem bM.tupK {CS CB:Addr} {n:Nat} {H H':Hp} {b be:Addr} {d:Nat} {g:List Int} {go:List Nat} {es:List Ent} {co:Nat} (h:bM CS CB n H b be d g go es co) (x:But b be H H'):∀ a xs,H a=some (HO.tup xs)->H' a=some (HO.tup xs):=fun a xs ha=>by
 obtain⟨dx,nw,ah,ys,h1,h2⟩:=h.ins
 exact x _ _ (fun z=>by rw[z,h1] at ha; cases ha) (fun z=>by rw[z,h2] at ha; cases ha) ha
theorem bM.Ol {CS CB:Addr} {n:Nat} {H:Hp} {b be a:Addr} {d:Nat} {g:List Int} {go:List Nat} {es:List Ent} {co:Nat} {xs ys:List V} (h:bM CS CB n H b be d g go es co) (ha:H a=some (.lst xs)) (hn:a≠be):bM CS CB n (upd H a (.lst ys)) b be d g go es co:=by
 obtain⟨dx,nw,ah,zs,h1,h2,h3,h4⟩:=h
 refine⟨dx,nw,ah,zs,?_,?_,h3,h4.ks ⟨cG ha,fun c dx fs q=>?_⟩⟩
 ·rw[bx fun z=>by rw[z,ha] at h1; cases h1]
  exact h1
 ·rw[bx fun z=>hn z.symm]
  exact h2
 ·rw[bx fun z=>by rw[z,ha] at q; cases q]
  exact q
def Bk (n:Nat) (H:Hp) (ba be p6:Addr) (us cs:List V) (bk:List (List Pl)):Prop:=H ba=some (.lst us)/\bO n H us bk/\us.Nodup/\(∀ u∈us,u≠.ref ba/\u≠.ref be/\u≠.ref p6)/\ba≠be/\ba≠p6/\p6≠be/\H p6=some (.lst cs)
theorem Bk.same {n:Nat} {H H':Hp} {ba be p6:Addr} {us cs:List V} {bk:List (List Pl)} (s:aU H H') (h:Bk n H ba be p6 us cs bk):Bk n H' ba be p6 us cs bk:=by
 obtain⟨h1,h2,h3,h4,h5,h6,h7,h8⟩:=h
 exact⟨s _ _ h1,h2.mono s,h3,h4,h5,h6,h7,s _ _ h8⟩
theorem bO.but {n:Nat} {H H':Hp} {be:Addr} (hl:∀ a xs,a≠be->H a=some (HO.lst xs)->H' a=some (HO.lst xs)) (ht:∀ a xs,H a=some (HO.tup xs)->H' a=some (HO.tup xs)):∀ {us:List V} {bs:List (List Pl)},bO n H us bs->(∀ u∈us,u≠.ref be)->bO n H' us bs
 | _,_,.nil,_=>.nil
 | _,_,.cons h l p r,hne=>.cons (hl _ _ (fun z=>hne _ Qi (by rw[z])) h) l (p.bu ht) (bO.but hl ht r fun u hu=>hne u (Qm _ hu))
theorem Bk.but {CS CB:Addr} {n:Nat} {H H':Hp} {b ba be p6:Addr} {us cs:List V} {bk:List (List Pl)} {d:Nat} {g:List Int} {go:List Nat} {es:List Ent} {co:Nat} (hB:bM CS CB n H b be d g go es co) (x:But b be H H') (h:Bk n H ba be p6 us cs bk):Bk n H' ba be p6 us cs bk:=by
 obtain⟨h1,h2,h3,h4,h5,h6,h7,h8⟩:=h
 exact⟨hB.lstK x h1 h5,h2.but (fun a xs ne q=>hB.lstK x q ne) (hB.tupK x) fun u hu=>(h4 u hu).2.1,h3,h4,h5,h6,h7,hB.lstK x h8 h7⟩
theorem Bk.PQ {n:Nat} {H:Hp} {ba be p6:Addr} {us cs:List V} {bk:List (List Pl)} (h:Bk n H ba be p6 us cs bk) (l:bk.length<=12):ym n H ba bk:=⟨us,h.1,h.2.1,l⟩
theorem bO.set {n:Nat} {H:Hp} {c:Addr} {as:List Addr} {ps:List Pl} (h:H c=some (.lst (as.map V.ref))) (hl:as.length<=100) (hp:dF n H as ps):∀ {us:List V} {bs:List (List Pl)} {j:Nat},bO n H us bs->bO n H (us.set j (.ref c)) (bs.set j ps)
 | _,_,_,.nil=>.nil
 | _,_,0,.cons _ _ _ r=>.cons h hl hp r
 | _,_,j+1,.cons x y z r=>.cons x y z (bO.set (j:=j) h hl hp r)
theorem Bk.put {n:Nat} {H H1:Hp} {ba be p6 c:Addr} {us cs:List V} {bk:List (List Pl)} {j:Nat} (h:Bk n H ba be p6 us cs bk) (hc:H c=none) (s:aU H H1) (e:H1 c=some (.lst [])) (hbe:∃ o,H be=some o):Bk n (upd H1 ba (.lst (us.set j (.ref c)))) ba be p6 (us.set j (.ref c)) cs (bk.set j []):=by
 obtain⟨h1,h2,h3,h4,h5,h6,h7,h8⟩:=h
 have new:∀ a o,H a=some o->c≠a:=fun a o q z=>by rw[z,q] at hc; cases hc
 obtain⟨ob,hbe⟩:=hbe
 have nin:V.ref c ∉ us:=fun z=>by
  obtain⟨c',ys,e',q⟩:=h2.isl _ z
  exact new c' _ q (by cases e'; rfl)
 have mem:∀ u∈us.set j (.ref c),u∈us∨u = .ref c:=fun u hu=>by
  rcases List.mem_or_eq_of_mem_set hu with z | z
  ·exact .inl z
  ·exact .inr z
 have all:∀ u∈us.set j (.ref c),u≠.ref ba/\u≠.ref be/\u≠.ref p6:=fun u hu=>by
  rcases mem u hu with z | z
  ·exact h4 u z
  ·rw[z]
   exact⟨fun y=>new _ _ h1 (by cases y; rfl),fun y=>new _ _ hbe (by cases y; rfl),fun y=>new _ _ h8 (by cases y; rfl)⟩
 refine⟨ao,?_,?_,all,h5,h6,h7,?_⟩
 ·exact (bO.set (as:=[]) e (QW _) .nil (h2.mono s)).FQ (s _ _ h1) fun u hu=>(all u hu).1
 ·by_cases hj:j < us.length
  ·rw[Xp,if_pos hj]
   have e2:us=us.take j++us.drop j:=(Wz j us).symm
   have e3:us.drop j=us[j]::us.drop (j+1):=Tu hj
   have nd:=h3
   rw[e2,e3,V7] at nd
   have nd2:=nd.2.1
   rw[List.nodup_cons] at nd2
   refine List.nodup_append.mpr ⟨nd.1,List.nodup_cons.mpr ⟨fun z=>nin (List.mem_of_mem_drop z),nd2.2⟩,fun a ha b hb=>?_⟩
   rcases List.mem_cons.mp hb with z | z
   ·rw[z]
    exact fun y=>nin (by rw[← y]; exact List.mem_of_mem_take ha)
   ·exact nd.2.2 a ha b (Qm _ z)
  ·rw[List.set_eq_of_length_le (by lia)]
   exact h3
 ·rw[bx fun z=>h6 z.symm]
  exact s _ _ h8
theorem bO.add {n:Nat} {H:Hp} {c p:Addr} {as:List Addr} {pl:Pl} (hc:H c=some (.lst (as.map V.ref))) (hl:as.length < 100) (hp:pD n H p pl):∀ {us:List V} {bs:List (List Pl)} {j:Nat},bO n H us bs->us[j]? = some (.ref c)->us.Nodup->bO n (upd H c (.lst (as.map V.ref++[.ref p]))) us (bs.set j (bs.getD j []++[pl]))
 | _,_,_,.nil,q,_=>by cases q
 | _,_,0,@bO.cons _ _ c' as' ps' us' bs' x y z r,q,nd=>by
  have e:V.ref c'=V.ref c:=QZ q
  injection e with e
  subst e
  rw[hc] at x
  have ea:as.map V.ref=as'.map V.ref:=by
   injection x with x
   injection x
  have e2:as=as':=(List.map_inj_right fun _ _ q=>by injection q).mp ea
  subst e2
  have tk:=cG (zs':=as.map V.ref++[.ref p]) hc
  refine .cons (as:=as++[p]) (by rw[ao,Qj]; rfl) (by rw[Qx]; show as.length+1<=100; lia) ?_ ?_
  ·exact dF.snoc (hp.bu tk) (z.bu tk)
  ·exact r.FQ hc fun u hu y=>(List.nodup_cons.mp nd).1 (by rw[← y]; exact hu)
 | _,_,j+1,@bO.cons _ _ c' as' ps' us' bs' x y z r,q,nd=>by
  have ne:c'≠c:=fun y=>(List.nodup_cons.mp nd).1 (by rw[y]; exact QC (show us'[j]? = some (V.ref c) from q))
  exact .cons (by rw[bx ne]; exact x) y (z.bu (cG hc)) (bO.add (j:=j) hc hl hp r q (List.nodup_cons.mp nd).2)
theorem Bk.add {n:Nat} {H:Hp} {ba be p6 c p:Addr} {us cs:List V} {bk:List (List Pl)} {as:List Addr} {pl:Pl} {j:Nat} (h:Bk n H ba be p6 us cs bk) (hj:us[j]? = some (.ref c)) (hc:H c=some (.lst (as.map V.ref))) (hl:as.length < 100) (hp:pD n H p pl):Bk n (upd H c (.lst (as.map V.ref++[.ref p]))) ba be p6 us cs (bk.set j (bk.getD j []++[pl])):=by
 obtain⟨h1,h2,h3,h4,h5,h6,h7,h8⟩:=h
 have hm:=h4 _ (QC hj)
 refine⟨?_,h2.add hc hl hp hj h3,h3,h4,h5,h6,h7,?_⟩
 ·rw[bx fun z=>hm.1 (by rw[z])]
  exact h1
 ·rw[bx fun z=>hm.2.2 (by rw[z])]
  exact h8
theorem qO {n:Nat} {es:List Ent} {bk:List (List Pl)} (l:bk.length=n) (h:∀ j,j < n->bk.getD j []=cP es j):dC n es=bk:=List.ext_getElem (by rw[cj,l]) fun j h1 h2=>by
 have hj:j < n:=by lia
 have:=h j hj
 rw[← iT es hj,Qf,Qf,Qg h1,Qg h2] at this
 exact this.symm
theorem lX {es:List Ent} {gone j:Nat}:cP (es.filter fun e=>decide (e.2.1≠gone)) j=if j=gone then [] else cP es j:=by
 unfold cP
 rw[List.filter_filter]
 by_cases e:j=gone
 ·rw[if_pos e,List.filter_eq_nil_iff.mpr fun x _ y=>by subst e; simp at y]
  rfl
 ·rw[if_neg e]
  congr 1
  refine List.filter_congr fun x _=>?_
  by_cases y:x.2.1=j
  ·subst y
   simp [e]
  ·simp [y]
theorem vR (n:Nat) (es:List Ent) {one:Nat}:dC n (es.filter fun e=>decide (e.2.1≠one))=(dC n es).set one []:=qO (by rw[Vd,cj]) fun j hj=>by
 rw[lX,Qf,List.getElem?_set]
 by_cases e:one=j
 ·rw[if_pos e,if_pos e.symm,if_pos (by rw[cj]; lia)]
  rfl
 ·rw[if_neg e,if_neg (Uh e),← Qf,iT es hj]
theorem Dy (n:Nat) (es:List Ent) {co one:Nat} {pl:Pl} (h:one < n):dC n (es++[(co,one,pl)])=(dC n es).set one ((dC n es).getD one []++[pl]):=qO (by rw[Vd,cj]) fun j hj=>by
 rw[iZ,Qf,List.getElem?_set]
 by_cases e:one=j
 ·rw[if_pos e,if_pos e,if_pos (by rw[cj]; lia),iT es h,e]
  rfl
 ·rw[if_neg e,if_neg e,← Qf,iT es hj,RL]
theorem uL:∀ (n:Nat) (go:List Nat),go.Nodup->(∀ x∈go,x < n)->go.length<=n
 | 0,go,_,h=>by
  cases go with
  | nil=>exact Ql _
  | cons a r=>exact absurd (h a Qi) (Um _)
 | n+1,go,nd,h=>by
  have:=uL n (go.filter fun x=>decide (x≠n)) (nd.filter _) fun x hx=>by
   have h1:=List.mem_filter.mp hx
   have h2:=h x h1.1
   have h3:x≠n:=of_decide_eq_true h1.2
   lia
  have c:=List.length_eq_countP_add_countP (p:=fun x=>decide (x≠n)) (l:=go)
  rw[List.countP_eq_length_filter] at c
  have c2:List.countP (fun a=>decide ¬decide (a≠n)=true) go<=1:=by
   have:=List.nodup_iff_count.mp nd n
   refine QL (Nat.le_of_eq ?_) this
   unfold List.count
   congr 1
   funext x
   by_cases z:x=n <;> simp [z]
  lia
def Wd (CS CB:Addr) (n:Nat) (H:Hp) (b be ba p6:Addr) (cs:List V) (m:Nat) (g:List Int) (go:List Nat) (es:List Ent):Prop:=∃ (us:List V) (d co:Nat),bM CS CB n H b be d g go es co/\Bk n H ba be p6 us cs (dC n es)/\okG n g/\d<=30+m/\es.length<=30/\go.Nodup/\(∀ x∈go,x < n)/\(∀ e∈es,e.2.1 ∉ go)/\∀ j,j < n->j ∉ go->g.getD j 0<=duF g 0 (cP es j)
theorem Wd.same {CS CB:Addr} {n:Nat} {H H':Hp} {b be ba p6:Addr} {cs:List V} {m:Nat} {g:List Int} {go:List Nat} {es:List Ent} (s:aU H H') (h:Wd CS CB n H b be ba p6 cs m g go es):Wd CS CB n H' b be ba p6 cs m g go es:=by
 obtain⟨us,d,co,h1,h2,h3⟩:=h
 exact⟨us,d,co,h1.same s,h2.same s,h3⟩
theorem bM.okE {CS CB:Addr} {n:Nat} {H:Hp} {b be:Addr} {d:Nat} {g:List Int} {go:List Nat} {es:List Ent} {co:Nat} (h:bM CS CB n H b be d g go es co):∀ e∈es,okP e.2.2:=by
 obtain⟨_,_,_,_,_,_,_,_,_,_,_,_,_,_,_,_,hes⟩:=h
 exact hes.ok
theorem G3 {n:Nat} {es:List Ent} (ok:∀ e∈es,okP e.2.2):okB (dC n es):=fun ps hps p hp=>by
 obtain⟨j,_,rfl⟩:=List.mem_map.mp hps
 obtain⟨e,he,rfl⟩:=List.mem_map.mp hp
 exact ok e (List.mem_filter.mp he).1
theorem zM {es:List Ent} {go:List Nat} {j:Nat} (h:∀ e∈es,e.2.1 ∉ go) (hj:j∈go):cP es j=[]:=by
 unfold cP
 rw[List.filter_eq_nil_iff.mpr fun e he z=>h e he (by rw[of_decide_eq_true z]; exact hj)]
 rfl
theorem iY {n:Nat} {g x:List Int} {go:List Nat} {es:List Ent} (ok:∀ e∈es,okP e.2.2) (og:okG n g) (fx:dz x g (dC n es)=x) (hgo:∀ e∈es,e.2.1 ∉ go) :
  LeG g x/\(∀ j,j < n->j∈go->x.getD j 0=g.getD j 0)/\∀ j,j < n->g.getD j 0 < x.getD j 0->x.getD j 0<=duF x 0 (cP es j):=by
 have at_:∀ j,j < n->x.getD j 0=max (g.getD j 0) (duF x 0 (cP es j)):=fun j hj=>by
  have:=JD (cj n es) og x hj
  rw[fx,iT es hj] at this
  exact this
 refine⟨?_,fun j hj hg=>?_,fun j hj hl=>?_⟩
 ·have:=iz (cj n es) (G3 ok) og x
  rw[fx] at this
  exact this
 ·have:=at_ j hj
  rw[zM hgo hg] at this
  have z:=(gG og hj).1
  have e:duF x 0 []=0:=rfl
  lia
 ·have:=at_ j hj
  lia
theorem Gy (g:List Int) (ps:List Pl) (p:Pl):duF g 0 ps<=duF g 0 (ps++[p]):=by
 unfold duF
 rw[Qj,V8]
 show _<=max _ _
 lia
theorem Ew {T:TT} {a b:TS} {D:Ends} {σ:St} {H:Hp} (R:Bool->Hp->Prop) (hT:∀ Q:Bool->Hp->Prop,(∀ c H1,R c H1->Q c H1)->T σ H Q) (ha:∀ H1,R true H1->a D σ H1) (hb:∀ H1,R false H1->b D σ H1):Fz T a b D σ H:=by
 refine hT _ fun c H1 r=>?_
 cases c
 ·exact hb _ r
 ·exact ha _ r
theorem Ir {L:List Nat} (h:0 < L.length) (z:Int):∃ o,o∈L/\atI (L.map vN) (z % (((L.map vN).length:Nat):Int))=some (vN o):=by
 rw[Qc]
 have w1:0<=z % (L.length:Int):=Q6 _ (by lia)
 have w2:z % (L.length:Int) < (L.length:Int):=QT _ (by lia)
 have hj:(z % (L.length:Int)).toNat < L.length:=by lia
 refine⟨L[(z % (L.length:Int)).toNat],S8 hj,?_⟩
 unfold atI
 rw[Qc,JB h]
 show (L.map vN)[(z % (L.length:Int)).toNat]? = _
 rw[QH,Qg hj]
 rfl
theorem KH (g:List Int) (ps:List Pl):0<=duF g 0 ps:=(dM _ 0).1
theorem Kc (n:Nat):okG n (QM n 0):=⟨Rt,fun x hx=>by rw[List.eq_of_mem_replicate hx]; decide⟩
theorem Wd.leave {CS CB:Addr} {n:Nat} {H H1 H2:Hp} {b be ba p6 c:Addr} {us cs:List V} {m d co o:Nat} {g:List Int} {go:List Nat} {es:List Ent} (hB:bM CS CB n H b be d g go es co) (hK:Bk n H ba be p6 us cs (dC n es)) (og:okG n g) (hd:d<=30+m) (l30:es.length<=30) (nd:go.Nodup) (hgo:∀ x∈go,x < n) (hes:∀ e∈es,e.2.1 ∉ go) (inv:∀ j,j < n->j ∉ go->g.getD j 0<=duF g 0 (cP es j))
  (ho:o < n) (hog:o ∉ go) (bt:But b be H H1) (hB1:bM CS CB n H1 b be (d+1) g (vH (go++[o])) (es.filter fun e=>decide (e.2.1≠o)) co) (hc:H1 c=none) (s:aU H1 H2) (e:H2 c=some (.lst [])) :
  Wd CS CB n (upd H2 ba (.lst (us.set o (.ref c)))) b be ba p6 cs (m+1) g (vH (go++[o])) (es.filter fun e=>decide (e.2.1≠o)):=by
 have hK1:=hK.but hB bt
 obtain⟨_,_,_,xs,_,hbe⟩:=hB1.ins
 have pm:=fY (go++[o])
 have mem:∀ x,x∈vH (go++[o]) ↔ x∈go∨x=o:=fun x=>by rw[pm.mem_iff,Yk,Uj]
 refine⟨us.set o (.ref c),d+1,co,(hB1.same s).Ol (s _ _ hK1.1) hK1.2.2.2.2.1,?_,og,by lia,?_,?_,?_,?_,?_⟩
 ·rw[vR]
  exact hK1.put hc s e ⟨_,hbe⟩
 ·exact QL (RK _ _) l30
 ·rw[pm.nodup_iff,V7]
  exact⟨nd,by simp,fun x hx y hy=>by rw[List.mem_singleton.mp hy]; exact fun z=>hog (by rw[← z]; exact hx)⟩
 ·intro x hx
  rcases (mem x).mp hx with z | z
  ·exact hgo x z
  ·lia
 ·intro x hx y
  have h1:=List.mem_filter.mp hx
  rcases (mem _).mp y with z | z
  ·exact hes x h1.1 z
  ·exact (of_decide_eq_true h1.2:x.2.1≠o) z
 ·intro j hj hn
  have h1:j ∉ go:=fun z=>hn ((mem j).mpr (.inl z))
  have h2:j≠o:=fun z=>hn ((mem j).mpr (.inr z))
  rw[lX,if_neg h2]
  exact inv j hj h1
theorem Wd.Mr {CS CB:Addr} {n:Nat} {H H1:Hp} {b be ba p6 c p:Addr} {us cs:List V} {as:List Addr} {m d co o:Nat} {g:List Int} {go:List Nat} {es:List Ent} {pl:Pl} (hB:bM CS CB n H b be d g go es co) (hK:Bk n H ba be p6 us cs (dC n es)) (og:okG n g) (hd:d<=30+m) (l30:es.length < 30) (nd:go.Nodup) (hgo:∀ x∈go,x < n) (hes:∀ e∈es,e.2.1 ∉ go) (inv:∀ j,j < n->j ∉ go->g.getD j 0<=duF g 0 (cP es j))
  (ho:o < n) (hog:o ∉ go) (bt:But b be H H1) (hB1:bM CS CB n H1 b be (d+1) g go (es++[(co,o,pl)]) (co+1)) (hj:us[o]? = some (.ref c)) (hc:H1 c=some (.lst (as.map V.ref))) (hl:as.length < 100) (hp:pD n H1 p pl) :
  Wd CS CB n (upd H1 c (.lst (as.map V.ref++[.ref p]))) b be ba p6 cs (m+1) g go (es++[(co,o,pl)]):=by
 have hK1:=hK.but hB bt
 have hm:=hK1.2.2.2.1 _ (QC hj)
 refine⟨us,d+1,co+1,hB1.Ol hc (fun z=>hm.2.1 (by rw[z])),?_,og,by lia,by rw[Qx]; show es.length+1<=30; lia,nd,hgo,?_,?_⟩
 ·rw[Dy n es ho]
  exact hK1.add hj hc hl hp
 ·intro x hx
  rcases List.mem_append.mp hx with z | z
  ·exact hes x z
  ·rw[List.mem_singleton.mp z]
   exact hog
 ·intro j hj2 hn
  rw[iZ]
  have:=inv j hj2 hn
  split
  ·exact Vm this (Gy _ _ _)
  ·rw[RL]
   exact this
theorem Wd.hand {CS CB:Addr} {n:Nat} {H H1:Hp} {b be ba p6:Addr} {us cs:List V} {m d d' co:Nat} {g x:List Int} {go:List Nat} {es:List Ent} (hB:bM CS CB n H b be d g go es co) (hK:Bk n H ba be p6 us cs (dC n es)) (og:okG n g) (hd:d<=30+m) (l30:es.length<=30) (nd:go.Nodup) (hgo:∀ x∈go,x < n) (hes:∀ e∈es,e.2.1 ∉ go) (inv:∀ j,j < n->j ∉ go->g.getD j 0<=duF g 0 (cP es j))
  (ox:okG n x) (fx:dz x g (dC n es)=x) (bt:But b be H H1) (h':d'<=d+1) (hB1:bM CS CB n H1 b be d' x go es co):Wd CS CB n H1 b be ba p6 cs (m+1) x go es:=by
 obtain⟨f1,f2,f3⟩:=iY hB.okE og fx hes
 refine⟨us,d',co,hB1,hK.but hB bt,ox,by lia,l30,nd,hgo,hes,fun j hj hn=>?_⟩
 by_cases z:g.getD j 0 < x.getD j 0
 ·exact f3 j hj z
 ·have h1:=inv j hj hn
  have h2:=f1 j
  have h3:duF g 0 (cP es j)<=duF x 0 (cP es j):=yg f1 (fun p hp=>by
   obtain⟨e,he,rfl⟩:=List.mem_map.mp hp
   exact hB.okE e (List.mem_filter.mp he).1) (RB _)
  lia
inductive Ht (K:QF) (vs:List V) (H:Hp) (Q:VK):Prop where
 | mk (a:Addr) (ns:List Int) (z0:vs=[.ref a]) (z1:SqL K H a (ns.map V.int)) (z2:ns.length<=63) (z3:∀ H',Q (.bl true) H'):Ht K vs H Q
def Hq (K:QF):Sp:=fun vs H Q _=>Ht K vs H Q
abbrev Ka:Stmt:=top 77
theorem dw:aO ["_law_script","_law_n","_law_book_here","_law_boon_here","_law_one","_law_pledge_here","_law_cell_here","_law_drawn","_law_here","_law_early","_law_gone","_law_other","_law_lies"] ["_law_script"] (aD Ka):=⟨rfl,rfl,rfl,by decide+kernel,rfl,by decide+kernel,by decide+kernel⟩
theorem MP {CS CB : Addr} (ne : CB ≠ CS) (F : Fun K "law" "law" Ka f fd) (B : Bt mg)
    (D_law_draws : Df P w K mg base "_law_draws" 1 ["_law_cell_here", "_law_parts"] (nC K)) (D_law_cell : Df P w K mg base "_law_cell" 1 ["_law_script", "_law_k"] (Ez K)) (D_law_book : Df P w K mg base "_law_book" 7 ["_law_script", "_law_start", "_law_n", "_law_most"] (IV K))
    (D_Boon : Dk2 P w K mg base "Boon" CB 3 ["self"] (Er CS CB)) (D_Boon_come : Dm2 P w K mg base CB "come" 3 ["self"] (HD CS CB)) (D_Boon_pledge : Dm2 P w K mg base CB "pledge" 14 ["self", "one", "pledge"] (sS CS CB)) (D_Boon_leave : Dm2 P w K mg base CB "leave" 3 ["self", "one"] (Dv CS CB))
    (D_there : Df P w K mg base "there" 2 ["boon"] (rR CS CB)) (D_green : Df P w K mg base "green" 1 ["boon"] (jB CS CB)) (D_pledges : Df P w K mg base "pledges" 1 ["boon"] (uQ CS CB)) (D_owed : Df P w K mg base "owed" 11 ["boon", "one"] (Aw CS CB))
    (D_sure : Df P w K mg base "sure" 14 ["boon"] (Bw CS CB)) (D_hoped : Df P w K mg base "hoped" 14 ["boon"] (wH CS CB)) (D_law_hand_all : Df P w K mg base "_law_hand_all" 13 ["_law_boon_here", "_law_giving"] (tO CS CB)) (D_law_ends : Df P w K mg base "_law_ends" 15 ["_law_boon_here", "_law_book_here"] (Dg CS CB)) :
    cI P w K mg base CX0 16 f fd ["_law_script"] (Hq K) := by
  refine F.ok dw (fun vs H Q E h => ?_) (fun cdv A outer s H vs Q E hr h => ?_)
  · obtain ⟨a, ns, rfl, _⟩ := h
    rfl
  · obtain ⟨a, ns0, rfl, hS, lN, q⟩ := h
    refine' ⟨_, ?hp, ?hz⟩
    case hp =>
     refine' aq ?s1 ?r1
     case s1 =>
      exact (bf (i := 0) dw.nd rfl (Qw rfl) (jQ (r := Oc K) Dn (pv 0) o6 (nT au)))
     case r1 =>
      refine' aq ?s2 ?r2
      case s2 =>
       exact (bf (i := 1) dw.nd rfl (Qw rfl) (aV bI au (aQ (r := dX K) aZ (bc D_law_draws hr (aa (bc D_law_cell hr (aa (pv 0) (aa au aj))) (aa (bZ (aa au aj)) aj))) au (fun _ _ => rfl))))
      case r2 =>
       refine' aq ?s3 ?r3
       case s3 =>
        exact (bf (i := 2) dw.nd rfl (Qw rfl) (bc D_law_book hr (aa (pv 0) (aa au (aa (pv 1) (aa au aj))))))
       case r3 =>
        refine' aq ?s4 ?r4
        case s4 =>
         exact (bf (i := 3) dw.nd rfl (Qw rfl) (K4 D_Boon hr))
        case r4 =>
         refine' aq ?s5 ?r5
         case s5 =>
          refine' cY QX rfl ?it ?tg ?bd ?hs
          case hs => intro _; rfl
          case it => exact (bU rfl B.range_ (aa (pv 1) aj))
          case tg => exact (aJ (i := 4) dw.nd rfl (Qw rfl))
          case bd =>
           refine' aA ?s6
           case s6 =>
            exact (bT (Ln D_Boon_come hr (pv 3)))
         case r5 =>
          refine' aq ?s7 ?r7
          case s7 =>
           refine' cY QX rfl ?it ?tg ?bd ?hs
           case hs => intro _; rfl
           case it => exact (bU rfl B.range_ (aa (pv 1) aj))
           case tg => exact (aJ (i := 4) dw.nd rfl (Qw rfl))
           case bd =>
            refine' aA ?s8
            case s8 =>
             refine' cY QX rfl ?it ?tg ?bd ?hs
             case hs => intro _; rfl
             case it => exact (dN (aQ (r := dX K) aZ (pv 2) (pv 4) (fun _ _ => rfl)))
             case tg => exact (aJ (i := 5) dw.nd rfl (Qw rfl))
             case bd =>
              refine' aA ?s9
              case s9 =>
               exact (bT (tM D_Boon_pledge hr (pv 3) (aa (pv 4) (aa (pv 5) aj))))
          case r7 =>
           refine' aq ?s10 ?r10
           case s10 =>
            refine' cY QX rfl ?it ?tg ?bd ?hs
            case hs => intro _; rfl
            case it => exact (dN (aV vy (jQ (r := Oc K) Dn (pv 0) (nT au) o6) (bZ (aa au (aa au (aa au aj))))))
            case tg => exact (aJ (i := 6) dw.nd rfl (Qw rfl))
            case bd =>
             refine' aq ?s11 ?r11
             case s11 =>
              exact (bf (i := 7) dw.nd rfl (Qw rfl) (bc D_law_draws hr (aa (pv 6) (aa (bZ (aa au (aa au (aa au (aa au aj))))) aj))))
             case r11 =>
              refine' aq ?s12 ?r12
              case s12 =>
               exact (bf (i := 8) dw.nd rfl (Qw rfl) (bc D_there hr (aa (pv 3) aj)))
              case r12 =>
               refine' aq ?s13 ?r13
               case s13 =>
                exact (bf (i := 9) dw.nd rfl (Wm rfl) (bc D_green hr (aa (pv 3) aj)))
               case r13 =>
                refine' aq ?s14 ?r14
                case s14 =>
                 refine' bA ?c ?b1 ?b2
                 case c => exact (PW.pt (ou (aH cz (aQ (r := dX K) aZ (pv 7) au (fun _ _ => rfl)) au (aL _)) (kW (aH rm (aF (r := iV K) aX rfl B.len_ bV (aa (pv 8) aj)) au (aL _)))))
                 case b1 =>
                  refine' aq ?s15 ?r15
                  case s15 =>
                   exact (bf (i := 10) dw.nd rfl (Qw rfl) (aQ (r := dX K) aZ (pv 8) (aV cR (aQ (r := dX K) aZ (pv 7) au (fun _ _ => rfl)) (aF (r := iV K) aX rfl B.len_ bV (aa (pv 8) aj))) (fun _ _ => rfl)))
                  case r15 =>
                   refine' aq ?s16 ?r16
                   case s16 =>
                    exact (bT (tM D_Boon_leave hr (pv 3) (aa (pv 10) aj)))
                   case r16 =>
                    refine' aA ?s17
                    case s17 =>
                     exact (Bd (bZ aj) (HW (pv 2) (pv 10) set_list))
                 case b2 => exact (aA (bA (PW.pt (ou (aH cz (aQ (r := dX K) aZ (pv 7) au (fun _ _ => rfl)) au (aL _)) (ou (aH rm (aF (r := iV K) aX rfl B.len_ bV (aa (pv 8) aj)) au (aL _)) (kW (aH wI (aF (r := iV K) aX rfl B.len_ bV (aa (bc D_pledges hr (aa (pv 3) aj)) aj)) au (aL _)))))) (aq (bf (i := 4) dw.nd rfl (Qw rfl) (aQ (r := dX K) aZ (pv 8) (aV cR (aQ (r := dX K) aZ (pv 7) au (fun _ _ => rfl)) (aF (r := iV K) aX rfl B.len_ bV (aa (pv 8) aj))) (fun _ _ => rfl)))
 (aq (bf (i := 11) dw.nd rfl (Qw rfl) (aV cR (aV bI (aV bI (pv 4) au) (aQ (r := dX K) aZ (pv 7) au (fun _ _ => rfl))) (pv 1)))
 (aA (bA (aH zj (pv 11) (pv 4) (aL _)) (aq (bf (i := 5) dw.nd rfl (Qw rfl) (cA (aa (cA (aa (aV bI au (aQ (r := dX K) aZ (pv 7) au (fun _ _ => rfl))) (aa (cA (aa bB (aa (pv 11) (aa au aj)))) aj))) aj)))
 (aq (bT (tM D_Boon_pledge hr (pv 3) (aa (pv 4) (aa (pv 5) aj))))
 (aA (bT (qJ RN RD RC cM (aQ (r := dX K) aZ (pv 2) (pv 4) (fun _ _ => rfl)) (aa (pv 5) aj)))))) aN)))) (aA (bA (aH cz (aQ (r := dX K) aZ (pv 7) au (fun _ _ => rfl)) au (aL _)) (aA (bT (bc D_law_hand_all hr (aa (pv 3) (aa (bc D_hoped hr (aa (pv 3) aj)) aj))))) (aA (bT (bc D_law_hand_all hr (aa (pv 3) (aa (bc D_sure hr (aa (pv 3) aj)) aj)))))))))
                case r14 =>
                 refine' aq ?s18 ?r18
                 case s18 =>
                  exact (bA (dY (cZ (bc D_law_ends hr (aa (pv 3) (aa (pv 2) aj))))) (aA (aG fV)) aN)
                 case r18 =>
                  refine' aq ?s19 ?r19
                  case s19 =>
                   exact (bf (i := 12) dw.nd rfl (Wm rfl) (bc D_green hr (aa (pv 3) aj)))
                  case r19 =>
                   refine' aq ?s20 ?r20
                   case s20 =>
                    exact (bA (dY (cZ (aF (r := Ds K) (jY rfl) rfl B.all_ zg (aa (bK (L := ["_law_one"]) (F := ["_law_lies", "_law_early"]) (cap := [12, 9]) rfl (bD rfl rfl (by kernel_rfl)) (bU rfl B.range_ (aa (pv 1) aj)) (fun _ _ _ _ _ => (aJ (i := 0) (bw (by decide +kernel)) rfl (Qw rfl))) (fun _ _ _ _ _ => bR) (fun _ _ _ _ _ => (cu mL (aQ (r := cW K) aY (pv 1) (pv 0) (fun _ _ => rfl)) (aQ (r := cW K) aY (pv 2) (pv 0) (fun _ _ => rfl)) (aL _)))) aj)))) (aA (aG fV)) aN)
                   case r20 =>
                    refine' aA ?s21
                    case s21 =>
                     refine' cY QX rfl ?it ?tg ?bd ?hs
                     case hs => intro _; rfl
                     case it => exact (dN (bc D_there hr (aa (pv 3) aj)))
                     case tg => exact (aJ (i := 4) dw.nd rfl (Qw rfl))
                     case bd =>
                      refine' aA ?s22
                      case s22 =>
                       exact (bA (aH rm (aQ (r := cW K) aY (pv 12) (pv 4) (fun _ _ => rfl)) (bc D_owed hr (aa (pv 3) (aa (pv 4) aj))) (aL _)) (aA (aG fV)) aN)
           case r10 =>
            refine' aA ?s23
            case s23 =>
             exact (aG fV)
    case hz =>
    refine aR (fun σ H1 => ∃ (p1 : Addr) (ss : List Int), σ = [some (.ref p1), none, none, none, none, none, none, none, none, none, none, none, none] ∧ aU H H1 ∧ H1 p1 = some (.lst (ss.map V.int)) ∧ ss.length ≤ 63) ?q0 ?t0
    case t0 =>
      intro N Rc
      refine ⟨_, rfl, _, rfl, a, _, rfl, hS, fun p1 h1 => ?_⟩
      obtain ⟨ss, es, ls⟩ := yt ns0 none (some 63)
      rw [es]
      exact Rc _ _ ⟨p1, ss, rfl, aB h1 _, ao, by lia⟩
    case q0 =>
    rintro σ H1 ⟨p1, ss, rfl, g1, e1, ls⟩
    refine aR (fun σ H2 => ∃ (n : Nat), σ = [some (.ref p1), some (.int (n : Int)), none, none, none, none, none, none, none, none, none, none, none] ∧ aU H1 H2 ∧ 2 ≤ n ∧ n ≤ 6) ?q1 ?t1
    case t1 =>
      intro N Rc
      refine ⟨_, rfl, p1, ss, 0, rfl, SqL.of e1, small (by show 1 ≤ 1000; decide), fun p2 h2 => ?_⟩
      generalize eH2 : upd H1 p2 _ = H2
      obtain ⟨g2, e2⟩ := aP eH2 h2
      refine ⟨_, p2, [5], rfl, SqL.of e2, by decide, by decide, fun p3 h3 => ?_⟩
      generalize eH3 : upd H2 p3 _ = H3
      obtain ⟨g3, e3⟩ := aP eH3 h3
      obtain ⟨d0, k0, b0⟩ := cB (c := kZ (ss.getD 0 0)) (i := 0) (ps := [5]) (by decide) rfl
      have a0 := aC (dg k0)
      refine ⟨p3, _, _, _, rfl, rfl, SqL.of e3, a0, _, _, rfl, rfl, Rc _ _ ⟨2 + d0.toNat, ?_, g2.trans g3, by lia, by lia⟩⟩
      have e : (2 : Int) + d0 = ((2 + d0.toNat : Nat) : Int) := by lia
      show [some (.ref p1), some (V.int (2 + d0)), none, none, none, none, none, none, none, none, none, none, none] = _
      rw [e]
    case q1 =>
    rintro σ H2 ⟨n, rfl, s2, n2, n6⟩
    have e12 := s2 _ _ e1
    have en : ((n : Int)).toNat = n := Q8 n
    refine aR (fun σ H3 => ∃ (ba : Addr) (us : List V) (bk : List (List Pl)), σ = [some (.ref p1), some (.int (n : Int)), some (.ref ba), none, none, none, none, none, none, none, none, none, none] ∧ aU H2 H3 ∧ H3 ba = some (.lst us) ∧ bO n H3 us bk ∧ us.Nodup ∧ (∀ u ∈ us, u ≠ .ref ba) ∧ bk.length = n ∧ JT n bk ∧ ∀ ps ∈ bk, ps.length ≤ 2) ?q2 ?t2
    case t2 =>
      intro N Rc
      exact ⟨_, rfl, _, rfl, p1, ss, 2, n, 3, rfl, SqL.of e12, by decide, by lia, by lia, by decide, by decide, fun ba us bk H3 s3 h1 h2 h3 h4 h5 h6 h7 => Rc _ _ ⟨ba, us, bk, rfl, s3, h1, h2, h3, h4, h5, h6, h7⟩⟩
    case q2 =>
    rintro σ H3 ⟨ba, us, bk, rfl, s3, eba, rbk, ndu, hnb, lbk, hno, sh2⟩
    have lus : us.length = n := by rw [rbk.length]; exact lbk
    have e13 := s3 _ _ e12
    refine aR (fun σ H4 => ∃ (b be : Addr), σ = [some (.ref p1), some (.int (n : Int)), some (.ref ba), some (.ref b), none, none, none, none, none, none, none, none, none] ∧ aU H3 H4 ∧ H3 b = none ∧ H3 be = none ∧ ∀ m, bM CS CB m H4 b be 0 [] [] [] 0) ?q3 ?t3
    case t3 =>
      intro N Rc x dx hx hdx hne
      refine ⟨x, dx, rfl, ao, fun be H4 fbe fr hB => ⟨rfl, Rc _ _ ⟨x, be, rfl, fun a o h => ?_, hx, ?_, hB⟩⟩⟩
      · have ax : a ≠ x := fun z => by rw [z, hx] at h; cases h
        have ad : a ≠ dx := fun z => by rw [z, hdx] at h; cases h
        exact fr a o ax (by rw [bx ax, bx ad]; exact h)
      · cases hq : H3 be with
        | none => rfl
        | some o =>
          have ax : be ≠ x := fun z => by rw [z, hx] at hq; cases hq
          have ad : be ≠ dx := fun z => by rw [z, hdx] at hq; cases hq
          rw [bx ax, bx ad, hq] at fbe
          cases fbe
    case q3 =>
    rintro σ H4 ⟨b, be, rfl, s4, fb, fbe, hB4⟩
    have keep : ∀ {Hx Hy : Hp}, aU H3 Hx → But b be Hx Hy → aU H3 Hy := fun s bt a o h => bt a o (fun z => by rw [z, fb] at h; cases h) (fun z => by rw [z, fbe] at h; cases h) (s _ _ h)
    refine aR (fun σ H5 => ∃ u : Option V, σ = [some (.ref p1), some (.int (n : Int)), some (.ref ba), some (.ref b), u, none, none, none, none, none, none, none, none] ∧ aU H3 H5 ∧ bM CS CB n H5 b be n (QM n 0) [] [] 0) ?q4 ?t4
    case t4 =>
      intro N Rc
      refine ⟨_, rfl, _, rfl, by lia, by lia, dI (lo := 0) (n := ((n : Int)).toNat) (fun i σ H5 => (∃ u : Option V, σ = [some (.ref p1), some (.int (n : Int)), some (.ref ba), some (.ref b), u, none, none, none, none, none, none, none, none]) ∧ aU H3 H5 ∧ ∀ m, bM CS CB m H5 b be i (QM i 0) [] [] 0) ⟨⟨_, rfl⟩, s4, hB4⟩ ?_ ?_⟩
      · rintro i σ H5 hi ⟨⟨u, rfl⟩, s5, hB5⟩
        refine gN ?_
        obtain ⟨dx, nw, ah, xs, hb, hbe, lx, hst⟩ := hB5 0
        refine ⟨_, rfl, b, dx, _, rfl, hb, rfl, b, be, i, _, _, _, rfl, hB5, by rw [Rt]; lia, by lia, fun H6 bt hB6 => ⟨⟨_, rfl⟩, keep s5 bt, fun m => ?_⟩⟩
        have := hB6 m
        rw [show QM i (0 : Int) ++ [0] = QM (i + 1) 0 by rw [Uz]] at this
        exact this
      · rintro σ H5 ⟨⟨u, rfl⟩, s5, hB5⟩
        rw [en] at hB5
        exact Rc _ _ ⟨u, rfl, s5, hB5 n⟩
    case q4 =>
    rintro σ H5 ⟨u4, rfl, s5, hB5⟩
    refine aR (fun σ H6 => ∃ (u v : Option V) (d co : Nat) (es : List Ent), σ = [some (.ref p1), some (.int (n : Int)), some (.ref ba), some (.ref b), u, v, none, none, none, none, none, none, none] ∧ aU H3 H6 ∧ bM CS CB n H6 b be d (QM n 0) [] es co ∧ d ≤ 30 ∧ es.length ≤ 12 ∧ dC n es = bk) ?q5 ?t5
    case t5 =>
      intro N Rc
      refine ⟨_, rfl, _, rfl, by lia, by lia, dI (lo := 0) (n := ((n : Int)).toNat) (fun i σ H6 => ∃ (u v : Option V) (d co : Nat) (es : List Ent), σ = [some (.ref p1), some (.int (n : Int)), some (.ref ba), some (.ref b), u, v, none, none, none, none, none, none, none] ∧ aU H3 H6 ∧ bM CS CB n H6 b be d (QM n 0) [] es co ∧ d ≤ 6 + 2 * i ∧ es.length ≤ 2 * i ∧ ∀ j, cP es j = if j < i then bk.getD j [] else [])
        ⟨_, _, n, 0, [], rfl, s5, hB5, by lia, Ql _, fun j => by rw [if_neg (Um j)]; rfl⟩ ?_ ?_⟩
      · rintro i σ H6 hi ⟨u, v, d, co, es, rfl, s6, hB6, hd, hes, hm⟩
        have hi6 : i < n := by lia
        refine gN ?_
        have hiu : i < us.length := by lia
        obtain ⟨c, as, ps, ec, hps, hc, las, rps⟩ := rbk.get (Qg hiu)
        have lps := rps.length
        have bki : bk.getD i [] = ps := by rw [Qf, hps]; rfl
        have l2 : ps.length ≤ 2 := sh2 ps (QC hps)
        have ati : atI us ((0 : Int) + (i : Int)) = some (.ref c) := by
          rw [RV, ← ec]
          exact aC (Qg hiu)
        refine ⟨_, rfl, _, rfl, ba, _, _, _, rfl, rfl, SqL.of (s6 _ _ eba), ati, c, rfl, ⟨_, SqL.of (s6 _ _ hc)⟩, gF (K := K) (a := c) (xs := as.map V.ref) (fun k σ H7 => ∃ (v : Option V) (d co : Nat) (es : List Ent), σ = [some (.ref p1), some (.int (n : Int)), some (.ref ba), some (.ref b), some (.int (0 + (i : Int))), v, none, none, none, none, none, none, none] ∧ aU H3 H7 ∧ bM CS CB n H7 b be d (QM n 0) [] es co ∧ d ≤ 6 + 2 * i + k ∧ es.length ≤ 2 * i + k ∧ ∀ j, cP es j = if j < i then bk.getD j [] else if i = j then ps.take k else [])
          ⟨_, d, co, es, rfl, s6, hB6, by lia, by lia, fun j => by rw [hm]; split; rfl; rw [Rp]; split <;> rfl⟩ (fun k σ H7 _ h => by obtain ⟨_, _, _, _, _, z, _⟩ := h; exact SqL.of (z _ _ hc)) ?_ ?_⟩
        · rintro k x σ H7 hx ⟨v, d, co, es, rfl, s7, hB7, hd, hes, hm⟩
          obtain ⟨pa, hpa, rfl⟩ : ∃ pa : Addr, as[k]? = some pa ∧ x = .ref pa := by
            rw [QH] at hx
            cases z : as[k]? with
            | none => rw [z] at hx; cases hx
            | some o => rw [z] at hx; cases hx; exact ⟨o, rfl, rfl⟩
          obtain ⟨pl, hpl, hpr⟩ := rps.get hpa
          have hk := (List.getElem?_eq_some_iff.mp hpl).1
          obtain ⟨dx, nw, ah, xs, hb, hbe⟩ := hB7.ins
          refine gN ?_
          refine ⟨_, rfl, b, dx, _, rfl, hb, rfl, _, rfl, _, rfl, ?_⟩
          dsimp only [Fo]
          refine ⟨b, be, pa, i, n, d, co, _, _, es, pl, ?_, hB7, Rt, by lia, hi6, by simp, hpr.bu (fun a ys q => s7 a _ q), hno i hi6 pl (by rw [bki]; exact QC hpl), by lia, by lia, fun H8 bt hB8 => ⟨_, d + 1, co + 1, _, rfl, keep s7 bt, hB8, by lia, by rw [Qx]; show es.length + 1 ≤ _; lia, fun j => ?_⟩⟩
          · rw [RV]
            rfl
          · rw [iZ, hm]
            by_cases z : j < i
            · rw [if_pos z, if_pos z, if_neg (show ¬ i = j by lia), RL]
            · rw [if_neg z, if_neg z]
              by_cases y : i = j
              · rw [if_pos y, if_pos y, if_pos y, QR, hpl]
                rfl
              · rw [if_neg y, if_neg y, if_neg y]
                rfl
        · rintro σ H7 ⟨v, d, co, es, rfl, s7, hB7, hd, hes, hm⟩
          rw [Qc] at hd hes hm
          refine ⟨_, _, d, co, es, rfl, s7, hB7, by lia, by lia, fun j => ?_⟩
          rw [hm]
          by_cases z : j < i
          · rw [if_pos z, if_pos (by lia)]
          · rw [if_neg z]
            by_cases y : i = j
            · rw [if_pos y, if_pos (by lia), lps, Qq, ← y, bki]
            · rw [if_neg y, if_neg (by lia)]
      · rintro σ H6 ⟨u, v, d, co, es, rfl, s6, hB6, hd, hes, hm⟩
        rw [en] at hd hes hm
        refine Rc _ _ ⟨_, _, d, co, es, rfl, s6, hB6, by lia, by lia, qO lbk fun j hj => ?_⟩
        rw [hm, if_pos hj]
    case q5 =>
    rintro σ H6 ⟨u4, u5, d, co, es, rfl, s6, hB6, hd, hes, hbk⟩
    have e16 := s6 _ _ e13
    have eba6 := s6 _ _ eba
    obtain ⟨_, _, _, _, _, ebe6⟩ := hB6.ins
    refine aR (fun _ _ => True) (fun _ _ _ => q _) fun N Rc => ?_
    refine ⟨_, rfl, _, rfl, p1, _, rfl, SqL.of e16, fun p4 h4 => ?_⟩
    obtain ⟨ks, ek, lk⟩ := yt ss (some 9) none
    rw [ek]
    generalize eH7 : upd H6 p4 _ = H7
    obtain ⟨g7, e7⟩ := aP eH7 h4
    refine ⟨small (by show 3 ≤ 1000; decide), fun p5 h5 => ?_⟩
    generalize eH8 : upd H7 p5 _ = H8
    obtain ⟨g8, e8⟩ := aP eH8 h5
    refine ⟨p4, p5, _, _, rfl, rfl, g8 _ _ e7, e8, small (by rw [Qc]; show ks.length + 3 ≤ 1000; lia), fun p6 h6 => ?_⟩
    have ec : ks.map V.int ++ [V.int 0, V.int 1, V.int 2] = (ks ++ [0, 1, 2]).map V.int := by rw [Qj]; rfl
    rw [ec]
    generalize eH9 : upd H8 p6 _ = H9
    obtain ⟨g9, e9⟩ := aP eH9 h6
    have s68 := g7.trans g8
    have s69 := s68.trans g9
    have new : ∀ a o, H6 a = some o → a ≠ p6 := fun a o h z => by rw [z] at h; rw [s68 _ _ h] at h6; cases h6
    have W9 : Wd CS CB n H9 b be ba p6 ((ks ++ [0, 1, 2]).map V.int) 0 (QM n 0) [] es := by
      refine ⟨us, d, co, hB6.same s69, ⟨s69 _ _ eba6, ?_, ndu, fun u hu => ?_, ?_, new _ _ eba6, fun z => new _ _ ebe6 z.symm, e9⟩, Kc n, by lia, by lia, .nil, by simp, by simp, fun j hj _ => ?_⟩
      · rw [hbk]
        exact (rbk.mono s6).mono s69
      · obtain ⟨c, ys, e, hc⟩ := rbk.isl u hu
        rw [e]
        exact ⟨fun z => hnb u hu (e.trans z), (fun z => by rw [show c = be by cases z; rfl, fbe] at hc; cases hc), fun z => new _ _ (s6 _ _ hc) (by cases z; rfl)⟩
      · exact fun z => by rw [z, fbe] at eba; cases eba
      · rw [show (QM n (0 : Int)).getD j 0 = 0 by rw [Qf, Vh, if_pos hj]; rfl]
        exact KH _ _
    refine ⟨p6, rfl, ⟨_, SqL.of e9⟩, gF (K := K) (a := p6) (xs := (ks ++ [0, 1, 2]).map V.int) (fun i σ Hx => ∃ (u4 u5 u6 u7 u8 u9 u10 u11 u12 : Option V) (g : List Int) (go : List Nat) (es : List Ent), σ = [some (.ref p1), some (.int (n : Int)), some (.ref ba), some (.ref b), u4, u5, u6, u7, u8, u9, u10, u11, u12] ∧ Wd CS CB n Hx b be ba p6 ((ks ++ [0, 1, 2]).map V.int) i g go es)
      ⟨_, _, _, _, _, _, _, _, _, _, _, _, rfl, W9⟩ (fun i σ Hx _ h => by obtain ⟨_, _, _, _, _, _, _, _, _, _, _, _, _, _, _, _, _, z, _⟩ := h; exact SqL.of z.2.2.2.2.2.2.2) ?_ (fun _ _ _ => Rc _ _ trivial)⟩
    clear W9 hB6 hbk hes hd hno sh2 hB5 hB4
    rintro i x σ Hx hx ⟨u4, u5, u6, u7, u8, u9, u10, u11, u12, g, go, es, rfl, W⟩
    obtain ⟨cv, hcv, rfl⟩ := int_at hx
    have il := (List.getElem?_eq_some_iff.mp hcv).1
    rw [Qx] at il
    have il : i < ks.length + 3 := il
    refine gN ?_
    refine aR (fun σ Hy => ∃ (dr : Addr) (dl : List V) (d0 d1 d2 d3 : Int), σ = [some (.ref p1), some (.int (n : Int)), some (.ref ba), some (.ref b), u4, u5, some (.int cv), some (.ref dr), u8, u9, u10, u11, u12] ∧ aU Hx Hy ∧ Hy dr = some (.lst dl) ∧ atI dl 0 = some (.int d0) ∧ atI dl 1 = some (.int d1) ∧ atI dl 2 = some (.int d2) ∧ atI dl 3 = some (.int d3) ∧ 0 ≤ d2 ∧ 0 ≤ d3 ∧ d3 < 3) ?qA ?tA
    case tA =>
      intro N Rc
      refine ⟨_, rfl, small (by show 4 ≤ 1000; decide), fun p7 h7 => ?_⟩
      generalize eHa : upd Hx p7 _ = Ha
      obtain ⟨ga, ea⟩ := aP eHa h7
      refine ⟨cv, p7, [5, 60, 3, 3], rfl, SqL.of ea, by decide, by decide, fun p8 h8 => ?_⟩
      generalize eHb : upd Ha p8 _ = Hb
      obtain ⟨gb, eb⟩ := aP eHb h8
      obtain ⟨d0, k0, b0⟩ := cB (c := kZ cv) (i := 0) (ps := [5, 60, 3, 3]) (by decide) rfl
      obtain ⟨d1, k1, b1⟩ := cB (c := kZ cv) (i := 1) (ps := [5, 60, 3, 3]) (by decide) rfl
      obtain ⟨d2, k2, b2⟩ := cB (c := kZ cv) (i := 2) (ps := [5, 60, 3, 3]) (by decide) rfl
      obtain ⟨d3, k3, b3⟩ := cB (c := kZ cv) (i := 3) (ps := [5, 60, 3, 3]) (by decide) rfl
      exact Rc _ _ ⟨p8, _, d0, d1, d2, d3, rfl, ga.trans gb, eb, aC (dg k0), aC (dg k1), aC (dg k2), aC (dg k3), by lia, by lia, by lia⟩
    case qA =>
    rintro σ Hy ⟨dr, dl, d0, d1, d2, d3, rfl, sA, edr, at0, at1, at2, at3, b2, b3, b3'⟩
    obtain ⟨us, d, co, hB, hK, og, hd, l30, nd, hgo, hes, inv⟩ := W.same sA
    clear W sA
    refine aR (fun σ Hz => ∃ hr : Addr, σ = [some (.ref p1), some (.int (n : Int)), some (.ref ba), some (.ref b), u4, u5, some (.int cv), some (.ref dr), some (.ref hr), u9, u10, u11, u12] ∧ aU Hy Hz ∧ Hz hr = some (.lst ((thF n go).map vN))) ?qB ?tB
    case tB =>
      intro N Rc
      exact ⟨_, rfl, b, be, n, d, co, g, go, es, rfl, hB, by rw [og.1]; lia, fun a Hz sz _ ez => Rc _ _ ⟨a, rfl, sz, by rw [og.1] at ez; exact ez⟩⟩
    case qB =>
    rintro σ Hz ⟨hr', rfl, sB, ehr⟩
    replace hB := hB.same sB
    replace hK := hK.same sB
    replace edr := sB _ _ edr
    refine aR (fun σ Hw => ∃ ga : Addr, σ = [some (.ref p1), some (.int (n : Int)), some (.ref ba), some (.ref b), u4, u5, some (.int cv), some (.ref dr), some (.ref hr'), some (.ref ga), u10, u11, u12] ∧ Hw = Hz ∧ Hz ga = some (.tup (g.map V.int))) ?qC ?tC
    case tC =>
      intro N Rc
      exact ⟨_, rfl, b, be, n, d, co, g, go, es, rfl, hB, fun ga hga => Rc _ _ ⟨ga, rfl, rfl, hga⟩⟩
    case qC =>
    rintro σ Hw ⟨ga, rfl, rfl, hga⟩
    have lth := qI n go
    have fewg := uL n go nd hgo
    refine aR (fun σ Hd => ∃ (v4 v5 v10 v11 : Option V) (g' : List Int) (go' : List Nat) (es' : List Ent), σ = [some (.ref p1), some (.int (n : Int)), some (.ref ba), some (.ref b), v4, v5, some (.int cv), some (.ref dr), some (.ref hr'), some (.ref ga), v10, v11, u12] ∧ Wd CS CB n Hd b be ba p6 ((ks ++ [0, 1, 2]).map V.int) (i + 1) g' go' es' ∧ LeG g g' ∧ Hd ga = some (.tup (g.map V.int))) ?qD ?tD
    case tD =>
      intro N Rc
      refine Ew (fun c H1 => H1 = Hw ∧ (c = true → 0 < (thF n go).length)) (fun Q' Rq => ?_) ?lv ?nl
      · refine ⟨_, rfl, dr, _, _, _, rfl, rfl, SqL.of edr, at0, rfl, _, rfl, ?_⟩
        refine pL (fun _ => ?_) (fun _ => Rq _ _ ⟨rfl, fun y => by cases y⟩)
        refine ⟨_, rfl, hr', _, rfl, .inl (SqL.of ehr), _, _, rfl, rfl, _, rfl, Rq _ _ ⟨rfl, fun y => ?_⟩⟩
        have := of_decide_eq_true y
        rw [Qc] at this
        lia
      case lv =>
        rintro H1 ⟨rfl, hpos⟩
        obtain ⟨o, ho, ato⟩ := Ir (hpos rfl) d1
        obtain ⟨hon, hog⟩ := kO ho
        have lpos : (0 : Int) < ((((thF n go).map vN).length : Nat) : Int) := by rw [Qc]; have := hpos rfl; lia
        refine aR (fun σ H2 => σ = [some (.ref p1), some (.int (n : Int)), some (.ref ba), some (.ref b), u4, u5, some (.int cv), some (.ref dr), some (.ref hr'), some (.ref ga), some (vN o), u11, u12] ∧ H2 = H1) ?qa ?ta
        case ta =>
          intro N' Rc'
          exact ⟨_, rfl, _, rfl, dr, _, _, _, rfl, rfl, SqL.of edr, at1, _, rfl, hr', _, rfl, .inl (SqL.of ehr), _, _, rfl, rfl, lpos, hr', _, _, _, rfl, rfl, SqL.of ehr, ato, Rc' _ _ ⟨rfl, rfl⟩⟩
        case qa =>
        rintro σ H2 ⟨rfl, rfl⟩
        obtain ⟨dx, nw, ah, xs, hb, hbe⟩ := hB.ins
        refine aR (fun σ H3 => σ = [some (.ref p1), some (.int (n : Int)), some (.ref ba), some (.ref b), u4, u5, some (.int cv), some (.ref dr), some (.ref hr'), some (.ref ga), some (vN o), u11, u12] ∧ But b be H2 H3 ∧ bM CS CB n H3 b be (d + 1) g (vH (go ++ [o])) (es.filter fun e => decide (e.2.1 ≠ o)) co) ?qb ?tb
        case tb =>
          intro N' Rc'
          exact ⟨_, rfl, b, dx, _, rfl, hb, rfl, _, rfl, b, be, o, n, d, co, g, go, es, rfl, hB, by rw [og.1]; exact hon, hog, by lia, by lia, by lia, fun H3 bt hB3 => Rc' _ _ ⟨rfl, bt, hB3⟩⟩
        case qb =>
        rintro σ H3 ⟨rfl, bt, hB3⟩
        refine ⟨small (by show 0 ≤ 1000; decide), fun c hc => ?_⟩
        generalize eF1 : upd H3 c _ = F1
        obtain ⟨gf1, ef1⟩ := aP eF1 hc
        have eba3 := gf1 _ _ (hK.but hB bt).1
        have lu : us.length = n := by rw [hK.2.1.length]; exact cj n es
        refine ⟨_, rfl, _, rfl, ba, _, _, o, rfl, rfl, eba3, ?_, ?_⟩
        · unfold ixN
          rw [if_pos (by lia), if_pos (by lia)]
          rfl
        · refine Rc _ _ ⟨_, _, _, _, g, _, _, rfl, Wd.leave hB hK og hd l30 nd hgo hes inv hon hog bt hB3 hc gf1 ef1, gM g, ?_⟩
          have hgF := gf1 _ _ (hB.tupK bt _ _ hga)
          rw [bx fun z => by rw [z, eba3] at hgF; cases hgF]
          exact hgF
      case nl =>
        rintro H1 ⟨rfl, -⟩
        refine Ew (fun c H2 => aU H1 H2 ∧ (c = true → 0 < (thF n go).length ∧ es.length < 30)) (fun Q' Rq => ?_) ?pg ?np
        · refine ⟨_, rfl, dr, _, _, _, rfl, rfl, SqL.of edr, at0, rfl, _, rfl, ?_⟩
          refine pL (fun _ => ?_) (fun _ => Rq _ _ ⟨aU.refl _, fun y => by cases y⟩)
          refine ⟨_, rfl, hr', _, rfl, .inl (SqL.of ehr), _, _, rfl, rfl, _, rfl, ?_⟩
          refine pL (fun hp => ?_) (fun _ => Rq _ _ ⟨aU.refl _, fun y => by cases y⟩)
          refine ⟨_, rfl, b, be, n, d, co, g, go, es, rfl, hB, by lia, fun a ws H2 s2 lw e2 => ?_⟩
          refine ⟨a, _, rfl, .inl (SqL.of e2), _, _, rfl, rfl, _, rfl, Rq _ _ ⟨s2, fun y => ⟨?_, ?_⟩⟩⟩
          · have := of_decide_eq_true hp
            rw [Qc] at this
            lia
          · have := of_decide_eq_true y
            lia
        case pg =>
          rintro H2 ⟨s2, hpos⟩
          obtain ⟨hpos, l29⟩ := hpos rfl
          replace hB := hB.same s2
          replace hK := hK.same s2
          replace edr := s2 _ _ edr
          replace ehr := s2 _ _ ehr
          replace hga := s2 _ _ hga
          obtain ⟨o, ho, ato⟩ := Ir hpos d1
          obtain ⟨hon, hog⟩ := kO ho
          have lpos : (0 : Int) < ((((thF n go).map vN).length : Nat) : Int) := by rw [Qc]; lia
          refine aR (fun σ H3 => σ = [some (.ref p1), some (.int (n : Int)), some (.ref ba), some (.ref b), some (vN o), u5, some (.int cv), some (.ref dr), some (.ref hr'), some (.ref ga), u10, u11, u12] ∧ H3 = H2) ?qa ?ta
          case ta =>
            intro N' Rc'
            exact ⟨_, rfl, _, rfl, dr, _, _, _, rfl, rfl, SqL.of edr, at1, _, rfl, hr', _, rfl, .inl (SqL.of ehr), _, _, rfl, rfl, lpos, hr', _, _, _, rfl, rfl, SqL.of ehr, ato, Rc' _ _ ⟨rfl, rfl⟩⟩
          case qa =>
          rintro σ H3 ⟨rfl, rfl⟩
          refine aR (fun σ H4 => ∃ o2 : Nat, σ = [some (.ref p1), some (.int (n : Int)), some (.ref ba), some (.ref b), some (vN o), u5, some (.int cv), some (.ref dr), some (.ref hr'), some (.ref ga), u10, some (vN o2), u12] ∧ H4 = H3 ∧ o2 < n) ?qb ?tb
          case tb =>
            intro N' Rc'
            have w1 : 0 ≤ ((o : Int) + 1 + d2) % (n : Int) := Q6 _ (by lia)
            have w2 : ((o : Int) + 1 + d2) % (n : Int) < (n : Int) := QT _ (by lia)
            obtain ⟨o2, ho2⟩ := Uc w1
            refine ⟨_, rfl, _, _, rfl, rfl, _, rfl, dr, _, _, _, rfl, rfl, SqL.of edr, at2, _, _, rfl, rfl, _, rfl, _, _, rfl, rfl, (by show (0 : Int) < (n : Int); lia), Rc' _ _ ⟨o2, ?_, rfl, by lia⟩⟩
            show [some (V.ref p1), some (V.int (n : Int)), some (V.ref ba), some (V.ref b), some (vN o), u5, some (V.int cv), some (V.ref dr), some (V.ref hr'), some (V.ref ga), u10, some (V.int (((o : Int) + 1 + d2) % (n : Int))), u12] = _
            rw [ho2]
            rfl
          case qb =>
          rintro σ H4 ⟨o2, rfl, rfl, ho2⟩
          refine ⟨_, rfl, _, rfl, rfl, _, rfl, ?_⟩
          by_cases z : o2 = o
          · rw [show decide (vN o2 = vN o) = true from decide_eq_true (by rw [z])]
            show if (!true) = true then _ else _
            exact cV (Rc _ _ ⟨_, _, _, _, g, go, es, rfl, ⟨us, d, co, hB, hK, og, by lia, l30, nd, hgo, hes, inv⟩, gM g, hga⟩)
          · rw [show decide (vN o2 = vN o) = false from decide_eq_false fun y => z (by injection y with y; lia)]
            show if (!false) = true then _ else _
            refine gm ?_
            have lu : us.length = n := by rw [hK.2.1.length]; exact cj n es
            have hou : o < us.length := by lia
            refine aR (fun σ H5 => ∃ p : Addr, σ = [some (.ref p1), some (.int (n : Int)), some (.ref ba), some (.ref b), some (vN o), some (.ref p), some (.int cv), some (.ref dr), some (.ref hr'), some (.ref ga), u10, some (vN o2), u12] ∧ aU H4 H5 ∧ pD n H5 p [(1 + d3, .gives o2 1)]) ?qc ?tc
            case tc =>
              intro N' Rc'
              refine ⟨_, rfl, dr, _, _, _, rfl, rfl, SqL.of edr, at3, _, _, rfl, rfl, _, rfl, small (by show 3 ≤ 1000; decide), fun f1 hf1 => ?_⟩
              generalize eF1 : upd H4 f1 _ = F1
              obtain ⟨gf1, ef1⟩ := aP eF1 hf1
              refine ⟨small (by show 2 ≤ 1000; decide), fun f2 hf2 => ?_⟩
              generalize eF2 : upd F1 f2 _ = F2
              obtain ⟨gf2, ef2⟩ := aP eF2 hf2
              refine ⟨small (by show 1 ≤ 1000; decide), fun f3 hf3 => ?_⟩
              generalize eF3 : upd F2 f3 _ = F3
              obtain ⟨gf3, ef3⟩ := aP eF3 hf3
              refine Rc' _ _ ⟨f3, rfl, gf1.trans (gf2.trans gf3), ⟨by simp, by show 1 ≤ 9; decide, by simp, fun x hx => by rw [List.mem_singleton.mp hx]; exact ⟨by show 1 ≤ 1 + d3; lia, by show 1 + d3 ≤ 9; lia, by first | (show 1 ≤ 4; decide) | (rw [Tm.dep]; decide) | simp [Tm.dep]⟩⟩, _, ef3, .cons (gf3 _ _ ef2) (.gives (gf3 _ _ (gf2 _ _ ef1)) ho2 (by decide) (by decide)) .nil⟩
            case qc =>
            rintro σ H5 ⟨p, rfl, s5, hpr⟩
            replace hB := hB.same s5
            replace hK := hK.same s5
            replace hga := s5 _ _ hga
            obtain ⟨dx, nw, ah, xs, hb, hbe⟩ := hB.ins
            refine aR (fun σ H6 => σ = [some (.ref p1), some (.int (n : Int)), some (.ref ba), some (.ref b), some (vN o), some (.ref p), some (.int cv), some (.ref dr), some (.ref hr'), some (.ref ga), u10, some (vN o2), u12] ∧ But b be H5 H6 ∧ bM CS CB n H6 b be (d + 1) g go (es ++ [(co, o, [(1 + d3, .gives o2 1)])]) (co + 1)) ?qd ?td
            case td =>
              intro N' Rc'
              exact ⟨_, rfl, b, dx, _, rfl, hb, rfl, _, rfl, _, rfl, b, be, p, o, n, d, co, g, go, es, _, rfl, hB, og.1, by lia, hon, hog, hpr, fun x hx => by rw [List.mem_singleton.mp hx]; exact decide_eq_true z, by lia, by lia, fun H6 bt hB6 => Rc' _ _ ⟨rfl, bt, hB6⟩⟩
            case qd =>
            rintro σ H6 ⟨rfl, bt, hB6⟩
            have hK6 := hK.but hB bt
            obtain ⟨c, as, ps, ec, hps, hc, las, rps⟩ := hK6.2.1.get (Qg hou)
            have hj : us[o]? = some (.ref c) := by rw [Qg hou, ec]
            have ll : as.length ≤ 30 := by
              rw [rps.length]
              have : ps = cP es o := by
                have h1 := iT es hon
                rw [Qf, hps] at h1
                exact h1
              rw [this]
              unfold cP
              rw [Qc]
              exact QL (RK _ _) l30
            refine ⟨_, rfl, _, rfl, ba, _, _, _, rfl, rfl, SqL.of hK6.1, aC hj, .inl ⟨rfl, _, SqL.of hc⟩, _, rfl, c, _, _, rfl, rfl, hc, aM (by rw [Qc]; lia), ?_⟩
            refine Rc _ _ ⟨_, _, _, _, g, go, _, rfl, Wd.Mr hB hK og hd l29 nd hgo hes inv hon hog bt hB6 hj hc (by lia) (hpr.bu (hB.tupK bt)), gM g, ?_⟩
            exact cG hc _ _ (hB.tupK bt _ _ hga)
        case np =>
          rintro H2 ⟨s2, -⟩
          replace hB := hB.same s2
          replace hK := hK.same s2
          replace edr := s2 _ _ edr
          replace hga := s2 _ _ hga
          have go_on : ∀ (H3 H4 : Hp) (x : List Int) (d' : Nat), aU H2 H3 → okG n x → dz x g (dC n es) = x → But b be H3 H4 → d' ≤ d + 1 → bM CS CB n H4 b be d' x go es co → N _ H4 := fun H3 H4 x d' s3 ox fx bt hd' hB4 =>
            Rc _ _ ⟨u4, u5, u10, u11, x, go, es, rfl, Wd.hand (hB.same s3) (hK.same s3) og hd l30 nd hgo hes inv ox fx bt hd' hB4, (iY hB.okE og fx hes).1, (hB.same s3).tupK bt _ _ (s3 _ _ hga)⟩
          refine ⟨_, rfl, dr, _, _, _, rfl, rfl, SqL.of edr, at0, rfl, _, rfl, ?_⟩
          refine pL (fun _ => ?_) (fun _ => ?_)
          · refine ⟨_, rfl, _, rfl, b, be, n, d, co, g, go, es, rfl, hB, og, by lia, by lia, fun a x H3 s3 hh e3 => ?_⟩
            have hf := iY hB.okE og hh.2.1 hes
            exact ⟨b, be, a, n, d, co, g, x, go, es, rfl, hB.same s3, e3, og, hh.1, by lia, by lia, by lia, hf.1, hf.2.1, hf.2.2, fun H4 d' bt hd' hB4 => go_on H3 H4 x d' s3 hh.1 hh.2.1 bt hd' hB4⟩
          · refine ⟨_, rfl, _, rfl, b, be, n, d, co, g, go, es, rfl, hB, og, by lia, by lia, fun a x H3 s3 hh e3 => ?_⟩
            have hf := iY hB.okE og hh.2.1 hes
            exact ⟨b, be, a, n, d, co, g, x, go, es, rfl, hB.same s3, e3, og, hh.1, by lia, by lia, by lia, hf.1, hf.2.1, hf.2.2, fun H4 d' bt hd' hB4 => go_on H3 H4 x d' s3 hh.1 hh.2.1 bt hd' hB4⟩
    case qD =>
    rintro σ Hd ⟨v4, v5, v10, v11, g', go', es', rfl, W', le, hga'⟩
    clear hB hK hga edr ehr inv hes hgo nd hd l30
    refine aR (fun σ He => σ = [some (.ref p1), some (.int (n : Int)), some (.ref ba), some (.ref b), v4, v5, some (.int cv), some (.ref dr), some (.ref hr'), some (.ref ga), v10, v11, u12] ∧ aU Hd He) ?qE ?tE
    case tE =>
      intro N Rc
      obtain ⟨us', d', co', hB', hK', og', hd', l30', _⟩ := W'
      exact ⟨_, rfl, _, rfl, b, be, ba, n, d', co', g', go', es', rfl, hB', og', by lia, by lia, hK'.PQ (by rw [cj]; lia), fun He se => ⟨_, rfl, cV (Rc _ _ ⟨rfl, se⟩)⟩⟩
    case qE =>
    rintro σ He ⟨rfl, sE⟩
    have W2 := W'.same sE
    replace hga' := sE _ _ hga'
    clear W'
    obtain ⟨us', d', co', hB', hK', og', hd', l30', nd', hgo', hes', inv'⟩ := id W2
    refine aR (fun σ Hf => ∃ la : Addr, σ = [some (.ref p1), some (.int (n : Int)), some (.ref ba), some (.ref b), v4, v5, some (.int cv), some (.ref dr), some (.ref hr'), some (.ref ga), v10, v11, some (.ref la)] ∧ Hf = He ∧ He la = some (.tup (g'.map V.int))) ?qF ?tF
    case tF =>
      intro N Rc
      exact ⟨_, rfl, b, be, n, d', co', g', go', es', rfl, hB', fun la hla => Rc _ _ ⟨la, rfl, rfl, hla⟩⟩
    case qF =>
    rintro σ Hf ⟨la, rfl, rfl, hla⟩
    refine aR (fun σ Hg => σ = [some (.ref p1), some (.int (n : Int)), some (.ref ba), some (.ref b), v4, v5, some (.int cv), some (.ref dr), some (.ref hr'), some (.ref ga), v10, v11, some (.ref la)] ∧ aU Hf Hg) ?qG ?tG
    case tG =>
      intro N Rc
      refine ⟨_, rfl, _, rfl, by lia, by lia, fun D hD => cT (lo := 0) (n := ((n : Int)).toNat) (fun i zs σ' H2 => (∃ u, σ' = [u, some (.ref la), some (.ref ga)]) ∧ aU Hf H2 ∧ H2 D = some (.lst zs) ∧ zs = QM i (.bl true))
        ⟨⟨_, rfl⟩, aB hD _, ao, rfl⟩ (fun i zs σ' H2 _ h => h.2.2.1) ?_ ?_⟩
      · rintro j zs σ' H2 hj ⟨⟨u, rfl⟩, sm, eD, rfl⟩
        rw [RV]
        have h1 : j < g'.length := by rw [og'.1]; lia
        have h2 : j < g.length := by rw [og.1]; lia
        have lej := le j
        have x1 : g'.getD j 0 = g'[j] := by rw [Qf, Qg h1]; rfl
        have x2 : g.getD j 0 = g[j] := by rw [Qf, Qg h2]; rfl
        rw [x1, x2] at lej
        refine gT ?_
        refine ⟨_, rfl, _, rfl, la, _, _, _, rfl, rfl, SqT.of (sm _ _ hla), gW h1, _, rfl, _, rfl, ga, _, _, _, rfl, rfl, SqT.of (sm _ _ hga'), gW h2, _, _, rfl, rfl, eD, aM (by rw [Rt]; lia), ⟨_, rfl⟩, aW sm hD _, ao, ?_⟩
        show QM j (V.bl true) ++ [V.bl (decide (g[j] ≤ g'[j]))] = _
        rw [decide_eq_true lej, Uz]
      · rintro zs σ' H2 ⟨_, sm, eD, rfl⟩
        rw [en] at eD
        refine ⟨D, QM n true, rfl, SqL.of (by rw [eD, List.map_replicate]), _, rfl, ?_⟩
        rw [show (QM n true).all (fun b => b) = true by
          rw [X4]
          exact fun x hx => List.eq_of_mem_replicate hx]
        exact cV (Rc _ _ ⟨rfl, sm⟩)
    case qG =>
    rintro σ Hg ⟨rfl, sG⟩
    have W3 := W2.same sG
    replace hla := sG _ _ hla
    clear W2 hB' hK'
    obtain ⟨us', d', co', hB', hK', _⟩ := id W3
    refine ⟨_, rfl, b, be, n, d', co', g', go', es', rfl, hB', by rw [og'.1]; lia, fun a Hh sh _ eh => ?_⟩
    rw [og'.1] at eh
    refine ⟨a, rfl, ⟨_, SqL.of eh⟩, gF (K := K) (a := a) (xs := (thF n go').map vN) (fun k σ Hk => (∃ v4 : Option V, σ = [some (.ref p1), some (.int (n : Int)), some (.ref ba), some (.ref b), v4, v5, some (.int cv), some (.ref dr), some (.ref hr'), some (.ref ga), v10, v11, some (.ref la)]) ∧ aU Hh Hk) ⟨⟨_, rfl⟩, aU.refl _⟩ (fun k σ Hk _ h => SqL.of (h.2 _ _ eh)) ?_ ?_⟩
    · rintro k y σ Hk hy ⟨⟨v4, rfl⟩, sk⟩
      obtain ⟨o, ho, rfl⟩ : ∃ o : Nat, o ∈ thF n go' ∧ y = vN o := by
        obtain ⟨o, h1, h2⟩ := List.mem_map.mp (QC hy)
        exact ⟨o, h1, h2.symm⟩
      obtain ⟨hon, hog⟩ := kO ho
      have h1 : o < g'.length := by rw [og'.1]; lia
      have x1 : g'.getD o 0 = g'[o] := by rw [Qf, Qg h1]; rfl
      have hi := inv' o hon hog
      rw [x1] at hi
      have s2 := sh.trans sk
      refine gN ?_
      refine ⟨_, rfl, _, rfl, la, _, _, _, rfl, rfl, SqT.of (s2 _ _ hla), gW h1, _, rfl, _, rfl, b, be, o, n, d', co', g', go', es', rfl, hB'.same s2, og'.1, hon, hog, by lia, fun Hl sl => ⟨_, _, rfl, rfl, _, rfl, ?_⟩⟩
      rw [K5 hB'.okE, decide_eq_false (show ¬ (duF g' 0 (cP es' o) < g'[o]) by lia)]
      exact cV ⟨⟨_, rfl⟩, sk.trans sl⟩
    · rintro σ Hk ⟨⟨v4, rfl⟩, sk⟩
      exact ⟨_, _, _, _, _, _, _, _, _, g', go', es', rfl, W3.same (sh.trans sk)⟩
theorem all_mk {l:W.OpenLaw} {w:Q3} {K:QF} {h:Rv} {mg:Q4->Option Value} {fa fq1 fq2 fq3 fq4 fq5 fq6 fq7 fq8 fq9 fq10 fq11 fq12 fq13 fq14 fq15 fq16 fq17 fq18 fq19 fq20 fq21 fq22 fq23 fq24 fq25 fq26 fq27 fq28 fq29 fq30 fq31 fq32 fq33 fq34 fq35 fq36 fq37 fq38 fq39 fq40 fq41 fq42 fq43 fq44 fq45 fq46 fq47 fq48 fq49 fq50 fq51:Addr} (X:K.In h) (G:h.Ns QG mg) (hfa:mg "law" = some (.ref fa)) {tk_MOST_FOLK tk_MOST_STEP tk_MOST_SUM tk_MOST_DEPTH tk_FEWEST_PARTS tk_MOST_PARTS tk_MOST_RUNGS tk_MOST_PLEDGES:Tok} {Cw8 Cw9:Addr} {f_Stand_init f_Boon_init f_Boon_go_on f_Boon_come f_Boon_leave f_Boon_pledge f_Boon_hand:Addr}
  (qw8:jj K "Stand" Cw8)
  (n_Stand_green:WT K (.ref Cw8) "green" = some none)
  (n_Stand_gone:WT K (.ref Cw8) "gone" = some none)
  (n_Stand_standing:WT K (.ref Cw8) "standing" = some none)
  (n_Stand_coming:WT K (.ref Cw8) "coming" = some none)
  (q_Stand_init:dh K Cw8 "__init__" "Stand.__init__" iu f_Stand_init)
  (qw9:jj K "Boon" Cw9)
  (n_Boon_now:WT K (.ref Cw9) "now" = some none)
  (n_Boon_behind:WT K (.ref Cw9) "behind" = some none)
  (n_Boon_ahead:WT K (.ref Cw9) "ahead" = some none)
  (q_Boon_init:dh K Cw9 "__init__" "Boon.__init__" jy f_Boon_init)
  (q_Boon_go_on:dh K Cw9 "go_on" "Boon.go_on" iM f_Boon_go_on)
  (q_Boon_come:dh K Cw9 "come" "Boon.come" ju f_Boon_come)
  (q_Boon_leave:dh K Cw9 "leave" "Boon.leave" ig f_Boon_leave)
  (q_Boon_pledge:dh K Cw9 "pledge" "Boon.pledge" gQ f_Boon_pledge)
  (q_Boon_hand:dh K Cw9 "hand" "Boon.hand" jJ f_Boon_hand)
  (ne_Boonw8:Cw9≠Cw8)
  (qq1:HasDef K "is_number" jL fq1)
  (qq2:HasDef K "is_crowd" lO fq2)
  (qq3:HasDef K "are_parts" jH fq3)
  (qq4:HasDef K "is_term_within" dU fq4)
  (qq5:HasDef K "is_term" oX fq5)
  (qq6:HasDef K "all_hold" lG fq6)
  (qq7:HasDef K "any_holds" jk fq7)
  (qq8:HasDef K "holds" vX fq8)
  (qq9:HasDef K "mentions" kI fq9)
  (qq10:HasDef K "named" xg fq10)
  (qq11:HasDef K "is_rung" o4 fq11)
  (qq12:HasDef K "is_pledge" jx fq12)
  (qq13:HasDef K "owes" DP fq13)
  (qq14:HasDef K "last_step" jD fq14)
  (qq15:HasDef K "check_there" gO fq15)
  (qq16:HasDef K "owed_of" oU fq16)
  (qq17:HasDef K "check_pledge" fK fq17)
  (qq18:HasDef K "handed_in" jA fq18)
  (qq19:HasDef K "what_is_due" gB fq19)
  (qq20:HasDef K "roof" DR fq20)
  (qq21:HasDef K "settled" nH fq21)
  (qq22:HasDef K "rise" Cg fq22)
  (qq23:HasDef K "fall" CV fq23)
  (qq24:HasDef K "least" wQ fq24)
  (qq25:HasDef K "greatest" lC fq25)
  (qq26:HasDef K "folk" Ex fq26)
  (qq27:HasDef K "there" xr fq27)
  (qq28:HasDef K "green" wX fq28)
  (qq29:HasDef K "pledges" nZ fq29)
  (qq30:HasDef K "book_of" n8 fq30)
  (qq31:HasDef K "sure" Es fq31)
  (qq32:HasDef K "hoped" wC fq32)
  (qq33:HasDef K "owed" Bq fq33)
  (qq34:HasDef K "_law_cell" lH fq34)
  (qq35:HasDef K "_law_draws" jF fq35)
  (qq36:HasDef K "_law_under" jE fq36)
  (qq37:HasDef K "_law_crowd" jt fq37)
  (qq38:HasDef K "_law_term" kj fq38)
  (qq39:HasDef K "_law_renamed" gk fq39)
  (qq40:HasDef K "_law_mine" lQ fq40)
  (qq41:HasDef K "_law_pledge" iJ fq41)
  (qq42:HasDef K "_law_book" km fq42)
  (qq43:HasDef K "_law_holds" jo fq43)
  (qq44:HasDef K "_law_owes" kJ fq44)
  (qq45:HasDef K "_law_owed" kE fq45)
  (qq46:HasDef K "_law_step_by_step" du fq46)
  (qq47:HasDef K "_law_roof" lD fq47)
  (qq48:HasDef K "_law_same" lF fq48)
  (qq49:HasDef K "_law_ends" kh fq49)
  (qq50:HasDef K "_law_hand_all" fJ fq50)
  (qq51:HasDef K "law" Ka fq51)
  (v_MOST_FOLK:Td K QG "MOST_FOLK" = some (some (.int 12 tk_MOST_FOLK)))
  (v_MOST_STEP:Td K QG "MOST_STEP" = some (some (.int 9 tk_MOST_STEP)))
  (v_MOST_SUM:Td K QG "MOST_SUM" = some (some (.int 99 tk_MOST_SUM)))
  (v_MOST_DEPTH:Td K QG "MOST_DEPTH" = some (some (.int 4 tk_MOST_DEPTH)))
  (v_FEWEST_PARTS:Td K QG "FEWEST_PARTS" = some (some (.int 2 tk_FEWEST_PARTS)))
  (v_MOST_PARTS:Td K QG "MOST_PARTS" = some (some (.int 6 tk_MOST_PARTS)))
  (v_MOST_RUNGS:Td K QG "MOST_RUNGS" = some (some (.int 9 tk_MOST_RUNGS)))
  (v_MOST_PLEDGES:Td K QG "MOST_PLEDGES" = some (some (.int 40 tk_MOST_PLEDGES)))
  (z_len:Td K QG "len" = some none)
  (z_range:Td K QG "range" = some none)
  (z_all:Td K QG "all" = some none)
  (z_isinstance:Td K QG "isinstance" = some none)
  (z_int:Td K QG "int" = some none)
  (z_bool:Td K QG "bool" = some none)
  (z_str:Td K QG "str" = some none)
  (z_list:Td K QG "list" = some none)
  (z_tuple:Td K QG "tuple" = some none)
  (z_abs:Td K QG "abs" = some none)
  (z_max:Td K QG "max" = some none)
  (z_min:Td K QG "min" = some none)
  (z_sum:Td K QG "sum" = some none)
  (z_sorted:Td K QG "sorted" = some none)
  (z_zip:Td K QG "zip" = some none)
  (z_reversed:Td K QG "reversed" = some none)
  (z_divmod:Td K QG "divmod" = some none)
  (z_set:Td K QG "set" = some none)
  (z_any:Td K QG "any" = some none)
  (z_enumerate:Td K QG "enumerate" = some none)
  : ∃ fd:TF,(∀ (s:Qe) (v:Value),Xb s fd ⟨[v],[]⟩ [("_law_script",v)])/\∀ base:Rv,K.In base->base.Ns QG mg->cI l.prog w K mg base CX0 16 fa fd ["_law_script"] (Hq K):=by
 have e:=hfa.symm.trans (qq51.name X G)
 cases e
 have B:Bt mg:=⟨Rr X G z_len,Rr X G z_range,Rr X G z_all,Rr X G z_isinstance,Rr X G z_int,Rr X G z_bool,Rr X G z_str,Rr X G z_list,Rr X G z_tuple,Rr X G z_abs,Rr X G z_max,Rr X G z_min,Rr X G z_sum,Rr X G z_sorted,Rr X G z_zip,Rr X G z_reversed,Rr X G z_divmod,Rr X G z_set,Rr X G z_any,Rr X G z_enumerate⟩
 have c_MOST_FOLK:=Xa X G v_MOST_FOLK
 have c_MOST_STEP:=Xa X G v_MOST_STEP
 have c_MOST_SUM:=Xa X G v_MOST_SUM
 have c_MOST_DEPTH:=Xa X G v_MOST_DEPTH
 have c_FEWEST_PARTS:=Xa X G v_FEWEST_PARTS
 have c_MOST_PARTS:=Xa X G v_MOST_PARTS
 have c_MOST_RUNGS:=Xa X G v_MOST_RUNGS
 have c_MOST_PLEDGES:=Xa X G v_MOST_PLEDGES
 obtain⟨_,Fq51,bq51⟩:=qq51.law (y:="_law_script") fun _ _ _ _ _ _ s v=>.of_eq rfl
 refine⟨_,bq51,fun base _ _=>?_⟩
 have dd:=fun {x:Q4} {st:Stmt} {f:Addr} {ps:List Q4} {sp:Sp} {k:Nat} (q:HasDef K x st f)=>q.df (P:=l.prog) (w:=w) (mg:=mg) (base:=base) (ps:=ps) (sp:=sp) (k:=k) X G
 have dm:=fun {x m q:Q4} {C:Addr} {st:Stmt} {f:Addr} {ps:List Q4} {sp:Sp} {k:Nat} (o:dh K C m q st f) (c:jj K x C)=>o.dm (P:=l.prog) (w:=w) (mg:=mg) (base:=base) (ps:=ps) (sp:=sp) (k:=k) c
 have Dq34:=dd qq34 (cC (by intros; rfl)) fun _ F=>xf F B
 have Dq35:=dd qq35 (cC (by intros; rfl)) fun _ F=>vB F B
 have Dq36:=dd qq36 (cC (by intros; rfl)) fun _ F=>uh F B
 have Dq37:=dd qq37 (cC (by intros; rfl)) fun _ F=>sZ F B
 have S0:Df l.prog w K mg base "_law_same" 0 ["_law_found","_law_due"] (pP 0):=dd qq48 (cC (by intros; rfl)) fun _ _=>same_none
 have S1:=dd qq48 (cC (by intros; rfl)) fun _ F=>gn F B S0
 have S2:=dd qq48 (cC (by intros; rfl)) fun _ F=>gn F B S1
 have S3:=dd qq48 (cC (by intros; rfl)) fun _ F=>gn F B S2
 have S4:=dd qq48 (cC (by intros; rfl)) fun _ F=>gn F B S3
 have T0:Df l.prog w K mg base "_law_term" 1 ["_law_cell_here","_law_n","_law_deep","_law_most"] (pO 0):=dd qq38 (zq (by intros; rfl)) fun _ _=>term_none
 have T1:=dd qq38 (zq (by intros; rfl)) fun _ F=>jC F B Dq35 Dq36 Dq37 T0
 have T2:=dd qq38 (zq (by intros; rfl)) fun _ F=>jC F B Dq35 Dq36 Dq37 T1
 have T3:=dd qq38 (zq (by intros; rfl)) fun _ F=>jC F B Dq35 Dq36 Dq37 T2
 have R0:Df l.prog w K mg base "_law_renamed" 0 ["_law_term_here","_law_row"] (zx K 0):=dd qq39 (cC (by intros; rfl)) fun _ _=>GF
 have R1:=dd qq39 (cC (by intros; rfl)) fun _ F=>fP F B R0
 have R2:=dd qq39 (cC (by intros; rfl)) fun _ F=>fP F B R1
 have R3:=dd qq39 (cC (by intros; rfl)) fun _ F=>fP F B R2
 have Dq40:=dd qq40 (Mm (by intros; rfl)) fun _ F=>vY F B T3 R3
 have Dq41:=dd qq41 (Mm (by intros; rfl)) fun _ F=>rH F B Dq35 Dq36 Dq37 Dq40
 have Dq42:=dd qq42 (zq (by intros; rfl)) fun _ F=>wZ F B Dq34 Dq35 Dq36 Dq41
 have L0:Df l.prog w K mg base "_law_holds" 0 ["_law_term_here","_law_giving"] (dH K 0):=dd qq43 (cC (by intros; rfl)) fun _ _=>v8
 have L1:=dd qq43 (cC (by intros; rfl)) fun _ F=>eY F B L0
 have L2:=dd qq43 (cC (by intros; rfl)) fun _ F=>eY F B L1
 have L3:=dd qq43 (cC (by intros; rfl)) fun _ F=>eY F B L2
 have L4:=dd qq43 (cC (by intros; rfl)) fun _ F=>eY F B L3
 have Dq44:=dd qq44 (cC (by intros; rfl)) fun _ F=>wN F B L4
 have Dq45:=dd qq45 (cC (by intros; rfl)) fun _ F=>wK F B Dq44
 have Dq47:=dd qq47 (cC (by intros; rfl)) fun _ F=>xF F B
 have H0:Df l.prog w K mg base "holds" 0 ["term","giving"] (dH K 0):=dd qq8 (cC (by intros; rfl)) fun _ _=>zr
 have A1:=dd qq6 (cC (by intros; rfl)) fun _ F=>gf F B H0
 have Y1:=dd qq7 (cC (by intros; rfl)) fun _ F=>fj F B H0
 have H1:=dd qq8 (cC (by intros; rfl)) fun _ F=>mV F B A1 Y1
 have A2:=dd qq6 (cC (by intros; rfl)) fun _ F=>gf F B H1
 have Y2:=dd qq7 (cC (by intros; rfl)) fun _ F=>fj F B H1
 have H2:=dd qq8 (cC (by intros; rfl)) fun _ F=>mV F B A2 Y2
 have A3:=dd qq6 (cC (by intros; rfl)) fun _ F=>gf F B H2
 have Y3:=dd qq7 (cC (by intros; rfl)) fun _ F=>fj F B H2
 have H3:=dd qq8 (cC (by intros; rfl)) fun _ F=>mV F B A3 Y3
 have A4:=dd qq6 (cC (by intros; rfl)) fun _ F=>gf F B H3
 have Y4:=dd qq7 (cC (by intros; rfl)) fun _ F=>fj F B H3
 have H4:=dd qq8 (cC (by intros; rfl)) fun _ F=>mV F B A4 Y4
 have Dq13:=dd qq13 (cC (by intros; rfl)) fun _ F=>JW F B H4
 have Dq14:=dd qq14 (bind1 (by intros; rfl)) fun _ F=>t6 F B
 have Dq19:=dd qq19 (ir (by intros; rfl)) fun _ F=>pA F B Dq13
 have Dq20:=dd qq20 (cC (by intros; rfl)) fun _ F=>J4 F B Dq14
 have Dq21:=dd qq21 (ir (by intros; rfl)) fun _ F=>zB F B Dq19
 have Dq22:=dd qq22 (cC (by intros; rfl)) fun _ F=>JL F B Dq21
 have Dq23:=dd qq23 (cC (by intros; rfl)) fun _ F=>Jx (by decide) F B Dq21 Dq20
 have Dq24:=dd qq24 (cC (by intros; rfl)) fun _ F=>Gk F B Dq22
 have Dq25:=dd qq25 (cC (by intros; rfl)) fun _ F=>wW F B Dq23
 have Dq46:=dd qq46 (ir (by intros; rfl)) fun _ F=>jl F B Dq45
 have S:xQ K Cw8:=⟨qw8.cl,n_Stand_green,n_Stand_gone,n_Stand_standing,n_Stand_coming⟩
 have T:zK K Cw9:=⟨qw9.cl,n_Boon_now,n_Boon_behind,n_Boon_ahead⟩
 have ne:=ne_Boonw8
 have Dq1:=dd qq1 (ir (by intros; rfl)) fun _ F=>vf F B
 have Dq2:=dd qq2 (ir (by intros; rfl)) fun _ F=>vQ F B Dq1
 have W0:Df l.prog w K mg base "is_term_within" 1 ["many","thing","deep"] (iW 0):=dd qq4 (ir (by intros; rfl)) fun _ _=>wO
 have P0:=dd qq3 (ir (by intros; rfl)) fun _ F=>fG F B c_FEWEST_PARTS c_MOST_PARTS (by decide) Dq1 W0
 have W1:=dd qq4 (ir (by intros; rfl)) fun _ F=>cU F B c_MOST_STEP c_MOST_SUM c_MOST_FOLK (by decide) Dq1 Dq2 P0
 have P1:=dd qq3 (ir (by intros; rfl)) fun _ F=>fG F B c_FEWEST_PARTS c_MOST_PARTS (by decide) Dq1 W1
 have W2:=dd qq4 (ir (by intros; rfl)) fun _ F=>cU F B c_MOST_STEP c_MOST_SUM c_MOST_FOLK (by decide) Dq1 Dq2 P1
 have P2:=dd qq3 (ir (by intros; rfl)) fun _ F=>fG F B c_FEWEST_PARTS c_MOST_PARTS (by decide) Dq1 W2
 have W3:=dd qq4 (ir (by intros; rfl)) fun _ F=>cU F B c_MOST_STEP c_MOST_SUM c_MOST_FOLK (by decide) Dq1 Dq2 P2
 have P3:=dd qq3 (ir (by intros; rfl)) fun _ F=>fG F B c_FEWEST_PARTS c_MOST_PARTS (by decide) Dq1 W3
 have W4:=dd qq4 (ir (by intros; rfl)) fun _ F=>cU F B c_MOST_STEP c_MOST_SUM c_MOST_FOLK (by decide) Dq1 Dq2 P3
 have Dq5:=dd qq5 (cC (by intros; rfl)) fun _ F=>zG F B c_MOST_DEPTH W4
 have M0:Df l.prog w K mg base "mentions" 0 ["term"] (nD 0):=dd qq9 (bind1 (by intros; rfl)) fun _ _=>CG
 have M1:=dd qq9 (bind1 (by intros; rfl)) fun _ F=>gR F B M0
 have M2:=dd qq9 (bind1 (by intros; rfl)) fun _ F=>gR F B M1
 have M3:=dd qq9 (bind1 (by intros; rfl)) fun _ F=>gR F B M2
 have M4:=dd qq9 (bind1 (by intros; rfl)) fun _ F=>gR F B M3
 have Dq10:=dd qq10 (bind1 (by intros; rfl)) fun _ F=>Gr F B M4
 have Dq11:=dd qq11 (zq (by intros; rfl)) fun _ F=>zQ F B c_MOST_STEP (by decide) Dq1 Dq5 Dq10
 have Dq12:=dd qq12 (ir (by intros; rfl)) fun _ F=>uw F B c_MOST_RUNGS (by decide) Dq1 Dq11
 have Dw8:=q_Stand_init.dk (P:=l.prog) (w:=w) (base:=base) (ps:=["self","green","gone","standing","coming"]) qw8 X G (fun _ F=>F.binds fun _ _ _ _ _ _ us hl=>by obtain⟨x0,x1,x2,x3,x4,rfl⟩:=Oo hl; rfl) fun _ F=>rD F S
 have Dw9:=q_Boon_init.dk (P:=l.prog) (w:=w) (base:=base) (ps:=["self"]) qw9 X G (fun _ F=>F.binds fun _ _ _ _ _ _ us hl=>by obtain⟨x0,rfl⟩:=Og hl; rfl) fun _ F=>uP F T Dw8
 have D_Boon_go_on:=dm (ps:=["self","stand"]) q_Boon_go_on qw9 (fun _ F=>F.binds fun _ _ _ _ _ _ us hl=>by obtain⟨x0,x1,rfl⟩:=Nm hl; rfl) fun _ F=>qN F T
 have D_Boon_come:=dm (ps:=["self"]) q_Boon_come qw9 (fun _ F=>F.binds fun _ _ _ _ _ _ us hl=>by obtain⟨x0,rfl⟩:=Og hl; rfl) fun _ F=>tL ne F B S T c_MOST_FOLK Dw8 D_Boon_go_on
 have Dq15:=dd qq15 (cC (by intros; rfl)) fun _ F=>pJ F B S Dq1
 have Dq17:=dd qq17 (ir (by intros; rfl)) fun _ F=>oV F B S Dq12
 have D_Boon_pledge:=dm (ps:=["self","one","pledge"]) q_Boon_pledge qw9 (fun _ F=>F.binds fun _ _ _ _ _ _ us hl=>by obtain⟨x0,x1,x2,rfl⟩:=O4 hl; rfl) fun _ F=>pB (by decide) ne F B S T c_MOST_PLEDGES Dq15 Dq17 Dw8 D_Boon_go_on
 have Dq16:=dd qq16 (ir (by intros; rfl)) fun _ F=>Aj F B Dq13
 have D_Boon_leave:=dm (ps:=["self","one"]) q_Boon_leave qw9 (fun _ F=>F.binds fun _ _ _ _ _ _ us hl=>by obtain⟨x0,x1,rfl⟩:=Nm hl; rfl) fun _ F=>rC ne F B S T Dq15 Dw8 D_Boon_go_on
 have Dq26:=dd qq26 (bind1 (by intros; rfl)) fun _ F=>Jp F B S T
 have Dq28:=dd qq28 (bind1 (by intros; rfl)) fun _ F=>Gu F B S T
 have Dq30:=dd qq30 (bind1 (by intros; rfl)) fun _ F=>zm F B S T Dq26
 have Dq31:=dd qq31 (bind1 (by intros; rfl)) fun _ F=>KQ (by decide) F B Dq24 Dq30 Dq28
 have Dq32:=dd qq32 (bind1 (by intros; rfl)) fun _ F=>Hr (by decide) F B Dq25 Dq30 Dq28
 have Dq27:=dd qq27 (bind1 (by intros; rfl)) fun _ F=>GX F B S T Dq26
 have Dq29:=dd qq29 (bind1 (by intros; rfl)) fun _ F=>Aq F B S T
 have Dq33:=dd qq33 (cC (by intros; rfl)) fun _ F=>Kh (by decide) F B S T Dq15 Dq16 Dq28
 have Dq18:=dd qq18 (cC (by intros; rfl)) fun _ F=>tX (by decide) F B S c_MOST_STEP Dq15 Dq1 Dq16 Dw8
 have D_Boon_hand:=dm (ps:=["self","rises"]) q_Boon_hand qw9 (fun _ F=>F.binds fun _ _ _ _ _ _ us hl=>by obtain⟨x0,x1,rfl⟩:=Nm hl; rfl) fun _ F=>uH (by decide) ne F B T Dq18 D_Boon_go_on
 have Dq50:=dd qq50 (cC (by intros; rfl)) fun _ F=>oZ (by decide) F B Dq28 Dq27 D_Boon_hand
 have Dq49:=dd qq49 (cC (by intros; rfl)) fun _ F=>vZ (k:=14) (by decide) (by decide) (by decide) (by decide) F B Dq28 Dq46 Dq47 S3 Dq31 Dq32
 exact MP ne Fq51 B Dq35 Dq34 Dq42 Dw9 D_Boon_come D_Boon_pledge D_Boon_leave Dq27 Dq28 Dq29 Dq33 Dq31 Dq32 Dq50 Dq49
theorem walk {l:W.OpenLaw} {q:QK} {loose:List Q4} {XP:(Q4->Option Value)->Rv->Prop} {YP:Q3->Rv->Prop} {d:DefRec} {K:Params->QF} (hn:l.most=some 63) (hdf:d.params.defaults=[])
  (hY:∀ (w:Q3) (h:Rv),YP w h->(K w.params).In h)
  (F:∀ (w:Q3) (mg:Q4->Option Value) (fa:Addr) (h:Rv),(K w.params).In h->h.Ns QG mg->mg d.name=some (.ref fa) →
   ∃ fd:TF,(∀ (s:Qe) (u:Value),Xb s fd ⟨[u],[]⟩ [("_law_script",u)])/\∀ base:Rv,(K w.params).In base->base.Ns QG mg->cI l.prog w (K w.params) mg base CX0 16 fa fd ["_law_script"] (Hq (K w.params))) :
  W.WalkO q loose XP YP l.row.toRowW d [] (fun f vs=>PySem.call f vs) :=
 L2.Kd (n:=63) (k:=16) (x:="_law_script") (CX:=fun _=>CX0) (sp:=fun w=>Hq (K w.params)) hn (by decide) hdf ⟨rfl,by decide,by decide⟩ hY F (fun _ _ a ns hl _ hS=>⟨a,ns,rfl,hS,hl,fun _=>rfl⟩) fun _ _ _ _ _ z=>z
end My
end
open PySem PySem.W PyProof.Rows
namespace PySem.Challenge.cw_loveboon_k57_whole_gifts_stay_when_folk_holds
theorem tw11936818401535547972:True:=trivial
theorem tw5782792279651158288:True:=trivial
theorem tw3736816861154169640:True:=trivial
theorem tw18062795266411371673:True:=trivial
theorem tw15481515984375550368:True:=trivial
theorem tw5108452333379027118:True:=trivial
theorem tw3691964561643945065:True:=trivial
theorem tw13941100859143368969:True:=trivial
theorem tw15617490204429239278:True:=trivial
theorem tw4484591884099414838:True:=trivial
theorem tw14232145469392117818:True:=trivial
theorem tw8863504368941579379:True:=trivial
theorem tw5135850705577403859:True:=trivial
theorem tw17642930744363796808:True:=trivial
theorem tw10861596266904029396:True:=trivial
theorem tw1645653822486355901:True:=trivial
theorem tw6772594564978237088:True:=trivial
theorem tw13435424313075499395:True:=trivial
theorem tw18415586377304018921:True:=trivial
theorem tw7169237732067272416:True:=trivial
theorem tw16099967763582289784:True:=trivial
theorem tw3551639301858357220:True:=trivial
theorem tw1148947692480330656:True:=trivial
theorem tw17896663635660709192:True:=trivial
theorem tw7992830794641670482:True:=trivial
theorem tw2881642535708976644:True:=trivial
theorem tw5559320424402570037:True:=trivial
theorem tw4273356192476655047:True:=trivial
theorem tw16334464903045453570:True:=trivial
theorem tw15081661048253576826:True:=trivial
theorem tw16501971513563609329:True:=trivial
theorem tw2828507876758864703:True:=trivial
theorem tw4879784882359027604:True:=trivial
theorem tw3938656548340651510:True:=trivial
theorem tw11652842186591893841:True:=trivial
theorem tw17277828524100964110:True:=trivial
end PySem.Challenge.cw_loveboon_k57_whole_gifts_stay_when_folk_holds
set_option maxRecDepth 100000 in
set_option maxHeartbeats 0 in
theorem PySem.Challenge.cw_loveboon_k57_whole_gifts_stay_when_folk_holds : PySem.Challenge.rw_loveboon_k57_whole_gifts_stay_when_folk.Holds := by
 w_on; o_law; k_head; (case hw=>w_witness2)
 k_fill
 refine My.walk (l:=PySem.Challenge.rw_loveboon_k57_whole_gifts_stay_when_folk) rfl rfl (fun w h Y=>W.kIn_of Y) ?F
 case F =>
  intro w mg fa h KX G hmg
  refine' My.all_mk KX G hmg ?qw8 ?n_Stand_green ?n_Stand_gone ?n_Stand_standing ?n_Stand_coming ?q_Stand_init ?qw9 ?n_Boon_now ?n_Boon_behind ?n_Boon_ahead ?q_Boon_init ?q_Boon_go_on ?q_Boon_come ?q_Boon_leave ?q_Boon_pledge ?q_Boon_hand ?ne_Boonw8 ?qq1 ?qq2 ?qq3 ?qq4 ?qq5 ?qq6 ?qq7 ?qq8 ?qq9 ?qq10 ?qq11 ?qq12 ?qq13 ?qq14 ?qq15 ?qq16 ?qq17 ?qq18 ?qq19 ?qq20 ?qq21 ?qq22 ?qq23 ?qq24 ?qq25 ?qq26 ?qq27 ?qq28 ?qq29 ?qq30 ?qq31 ?qq32 ?qq33 ?qq34 ?qq35 ?qq36 ?qq37 ?qq38 ?qq39 ?qq40 ?qq41 ?qq42 ?qq43 ?qq44 ?qq45 ?qq46 ?qq47 ?qq48 ?qq49 ?qq50 ?qq51 ?v_MOST_FOLK ?v_MOST_STEP ?v_MOST_SUM ?v_MOST_DEPTH ?v_FEWEST_PARTS ?v_MOST_PARTS ?v_MOST_RUNGS ?v_MOST_PLEDGES ?z_len ?z_range ?z_all ?z_isinstance ?z_int ?z_bool ?z_str ?z_list ?z_tuple ?z_abs ?z_max ?z_min ?z_sum ?z_sorted ?z_zip ?z_reversed ?z_divmod ?z_set ?z_any ?z_enumerate
  (case qw8=>apply L2.jj.mk <;> k_is)
  (case n_Stand_green|n_Stand_gone|n_Stand_standing|n_Stand_coming=>k_is)
  (case q_Stand_init=>apply L2.dh.mk <;> k_is)
  (case qw9=>apply L2.jj.mk <;> k_is)
  (case n_Boon_now|n_Boon_behind|n_Boon_ahead=>k_is)
  (case q_Boon_init|q_Boon_go_on|q_Boon_come|q_Boon_leave|q_Boon_pledge|q_Boon_hand=>apply L2.dh.mk <;> k_is)
  (case ne_Boonw8=>decide)
  (case qq1|qq2|qq3|qq4|qq5|qq6|qq7|qq8|qq9|qq10|qq11|qq12|qq13|qq14|qq15|qq16|qq17|qq18|qq19|qq20|qq21|qq22|qq23|qq24|qq25|qq26|qq27|qq28|qq29|qq30|qq31|qq32|qq33|qq34|qq35|qq36|qq37|qq38|qq39|qq40|qq41|qq42|qq43|qq44|qq45|qq46|qq47|qq48|qq49|qq50|qq51=>apply L2.HasDef.mk <;> k_is)
  (case v_MOST_FOLK|v_MOST_STEP|v_MOST_SUM|v_MOST_DEPTH|v_FEWEST_PARTS|v_MOST_PARTS|v_MOST_RUNGS|v_MOST_PLEDGES|z_len|z_range|z_all|z_isinstance|z_int|z_bool|z_str|z_list|z_tuple|z_abs|z_max|z_min|z_sum|z_sorted|z_zip|z_reversed|z_divmod|z_set|z_any|z_enumerate=>k_is)
